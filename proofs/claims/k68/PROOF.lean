import PyProof.Rows.All
import Wide.All
import OpenK.AllK
import Wide.FinOn
import Lean
import PyProof.EqAt
import PyProof.EqKinds
import PyProof.TupleCall
import KE.KDictSum
import KE.KMinKey
import PyProof.Rows.CallKwBuiltin
import PyProof.SumWalkG
import PyProof.WalksMore
import PyProof.AutoSeq1
import PyProof.Rows.Range3
import PySem.Challenge.RW_evenpoints_k68_whole_boxes_of_strong_tab
set_option Elab.async false
set_option linter.all false
set_option maxRecDepth 100000
set_option maxHeartbeats 4000000
open And renaming intro->IL
open Array renaming length_toList->Mr, mk->Pp
open Bool renaming and_eq_true_iff->Ja, or_eq_true_iff->Jr, false_ne_true->JB, eq_iff_iff->Ll, and_eq_true->Mn, false_eq_true->MF
open Classical renaming choose_spec->IN, choose->Jt
open False renaming elim->J7
open ForInStep renaming yield->L6
open Iff renaming rfl->MS
open Int renaming toNat_natCast->JR, eq_ofNat_of_zero_le->JS, fdiv_eq_ediv_of_nonneg->J5, pow_pos->J6, toNat_of_nonneg->Kk, fmod_nonneg_of_pos->KE, pow_succ->KY, toNat->K4, fmod_lt_of_pos->K_, add_mul_emod_self_left->Ls, natAbs_natCast->Ly, gcd->LL, natCast_mul->LM, emod_eq_of_lt->LN, mul_le_mul_of_nonneg_right->LP, mul_zero->LQ, pow_zero->L8, natCast_pow->L9, add_mul_ediv_right->MM, ediv_eq_zero_of_lt->MN, natAbs_mul->MX, le_of_lt->M1, zero_add->M3, emod_add_mul_ediv->M4, mul_le_mul_of_nonneg_left->M5, mul_one->Nj, ediv_nonneg->Nr, fmod_eq_emod_of_nonneg->Nv, emod_lt_of_pos->NJ, le_refl->N3, fmod_add_mul_fdiv->Op, mul_comm->Ow, emod_nonneg->Ox, sub_zero->Oz, add_comm->OA, natAbs_of_nonneg->OI, ediv_one->Pg, le_trans->Pj, mul_pos->PH, pow_add->PN
open List renaming mem_cons_of_mem->IM, length_map->IP, mem_cons_self->IS, getD_eq_getElem?_getD->IT, getElem?_eq_getElem->IV, replicate->I0, size_toArray->Je, map_cons->Jg, getElem?_eq_some_iff->Jj, getElem?_set_ne->Jk, mem_append_right->Jm, mem_map->Jo, getElem?_set_self->Jp, range->Jq, replicate_succ->Jx, getElem_mem->Jy, sum_cons->JD, length_take->JF, nodup_iff_pairwise_ne->JH, map_append->JI, length_cons->JL, take_of_length_le->JO, length_append->JQ, mem_append->JU, mem_cons->JV, getElem?_map->JW, map_map->JY, drop_eq_getElem_cons->J1, getElem?_set->J8, lookup_cons->J9, find?_cons->Ka, Nodup->Ki, length_eq_zero_iff->Kl, nodup_cons->Km, length_drop->Kn, mem_range->Ko, flatten_cons->Kr, mem_singleton->Kw, map_congr_left->KA, of_mem_zip->KG, getElem_map->KI, length_range->KL, append_nil->KO, foldl_cons->KQ, map_replicate->KU, mem_of_mem_take->KW, take_succ_eq_append_getElem->KZ, drop_of_length_le->K5, getElem?_append_left->K6, zip_cons_cons->La, all_eq_true->Lb, drop_length->Lc, countP_eq_length_filter->Lf, flatMap_cons->Li, mem_map_of_mem->Lm, getElem_of_mem->Ln, getElem?_append_right->Lp, mem_flatMap->Lu, mem_filter->LG, length_zip->LO, foldl->L0, sum_replicate_nat->L1, take_append_drop->L_, countP_map->Ma, reverse_cons->Me, foldl_append->Mg, pairwise_map->Mi, mem_of_mem_drop->Mk, mem_or_eq_of_mem_set->Mm, ext_getElem->Mp, length_reverse->Ms, length_flatMap->Mt, length_erase_of_mem->Mx, length_nil->My, getElem?_replicate->MA, forIn_cons->ME, getElem_range->MG, map_take->MJ, countP_congr->MU, length_replicate->MZ, getElem?_eq_none->M0, getElem_zip->M7, mem_append_left->M8, mem_of_getElem?->M9, reverse_reverse->Na, any_cons->Nc, filterMap_cons->Nf, nil_append->Nl, sum_append->Np, map_const'->Nq, map_nil->ND, mem_replicate->NG, length_zipIdx->NH, drop_zero->NN, mem_of_find?_eq_some->NP, getElem?_take_of_lt->NS, append_assoc->NT, length->N1, cons_append->N7, nodup_range->N_, filterMap_eq_map'->Of, length_set->Ol, length_filter_le->Ov, range_succ->Oy, mem_erase_of_ne->OJ, Pairwise->O4, all_map->Pi, map_set->Pl, getD->Pz
open List.Pairwise renaming imp->MT
open List.cons renaming injEq->Kf
open Nat renaming le_refl->I_, lt_of_lt_of_le->Jh, pow_le_pow_right->JK, ne_of_lt->JP, zero_le->Kc, le_trans->Ks, lt_irrefl->Ku, lt_of_le_of_lt->Lw, min_eq_right->LY, ne_of_gt->L4, min_eq_left->L7, le_of_succ_le->Mf, le_add_right->Mq, succ_mul->NB, sub_zero->NF, mul_lt_mul''->N9, mul_comm->Om, div_lt_self->Oq, strongRecOn->Os, mul_ne_zero->Ot, pow_succ->Ou, pow_lt_pow_right->OH, le_of_lt->Pc, pow_add->PJ
open Ne renaming symm->MO
open Option renaming isSome_iff_exists->LJ, map_eq_some_iff->MK, isSome_some->NC
open Option.some renaming inj->JN
open Or renaming inr->J0, inl->Kz
open PyProof.Rows renaming slot_tuple_getitem->Jw, callWith_type1->Ke, tupleItemsOf_->MC, assignInOrder_cons->Nw, args_tuple_getitem->Nz, envOfC->NR, subscriptTail_builtinR->Oc, IsTup->Oh, AllBare->OM, IntsAre->OR, subscriptTail->O3, Subscript_->O9
open PySem renaming PyData->IJ, wpAny_bind->IK, Value->IR, wpAny_pure->IU, Shared->IW, starEach->IZ, sizeLine_eq->Ji, wpAny->Jn, Program->Ju, model->Jv, wpAny_newObj_type->JC, foldedSetIterable->JE, wpAny_callSpecial?_slot->JG, wpAny_mono->JJ, wpAny_field->JM, mainGlobals->J4, World->J_, wpAny_call_entry->Kd, wpAny_setField_rec->Kg, Around->Kh, mem_of_lookup->Kj, Paired->Kx, assignEach->Ky, backTo->KC, behindInMarks->KM, wpAny_standAt->KN, swapsWith->K0, cellsFrom->K1, letOwnedTupleGo->K7, wpAny_comprehension_free->K9, wpAny_truthy_bool->Lh, compareOp->Lk, codeAny->Lo, wpAny_holding->Lv, builtinLookup_eq_fast->Lz, wpAny_of_eq->LB, wpAny_seqItems->LC, binaryOp->LD, FuncData->LF, assign->LH, wpAny_passesOwn->LI, swapsWithSole->LS, swappedStores->LU, noFill_tuple_add->LX, bootBuiltins->L3, sysModules->Mb, wpAny_rule->Mc, wpAny_sequenceKey->Md, wpAny_attempt->Mh, NameKind->Mz, seq_tuple_add->MB, typeLookup_type->MH, rawInt->ML, wpAny_pyIter_list->MP, sliceBounds->MQ, call_meets->MR, newFunctionEnv->MV, wpAny_setField->MW, isSubtype_type->MY, wpAny_isInstance->M6, wpAny_updateSeq_pair->M_, attributeBase->Nb, holding->Ng, wpAny_execs_nil->Nh, pyNext->Ni, getItem->Nk, wpAny_specialOf->Nm, theTreesLotGoes->Nn, IsPair->No, codeAny_mono->Nx, wpAny_Call_Name_kw->Ny, wpAny_typeOf->NA, tupleKind_room_in1->NE, Keyword->NK, wpAny_binaryOp_repeat_ref->NM, firstArgMember->NO, wpAny_assign_Name->NQ, standAt->N0, keywordEach->N2, wpAny_onRaise->N4, wpAny_pyNext_range_end->Oa, wpAny_pyIter_rangeiter->Ob, codeAny_compStart_list->Oe, importedModules->Og, wpAny_isTrue_Compare1->Oi, IsPart->Oj, codeAny_loop->On, exec_Assign_Name_used->Oo, typeLookup->OD, typeIs_int->OF, wpAny_loadName_local->OG, intBits_le_iff->OK, isSubtype_stop->OL, wpAny_loadName_cell->ON, IsRangeIter->OO, seqIndex_of->OP, subscripted->OQ, wpAny_noted->OS, wpAny_letGo->OU, tupleKind->OY, assignInOrder->OZ, Operator->O0, PassesOwn->O1, evalPart_none->O2, compTurn->O5, noteFrame->O6, CmpOp->O7, cLine->O8, valueAt->O_, callerA->Pa, IsZip->Pb, pyIter->Pe, concat_meets->Pf, seqIndex_neg->Ph, callType_new->Pk, backToKw->Pq, compPost->Pr, inplaceOp->Pt, sizeLine_eq->Pu, Result->Pv, BindsTo->Pw, seqIndex?->Px, pushCells->Py, field->PD, wpAny_mkInt->PL, IsEnum->PM, Params->PP, setItem->PR, relabel->PU, atKey->PX
open PySem.AutoSeq1 renaming wpAny_loadPart'->Mw
open PySem.Builtin.List renaming listTooLong->Mu
open PySem.Builtin.Range renaming rangeSize->LV, small->OV
open PySem.Builtin.Slice renaming slicePlaces->Kq, sliceApplied->Lq, sliceAdjust->Ml, sliceFields->NL
open PySem.Builtin.SmallTypes renaming nextOf->JT, ownedTupleIsFree->J3, ownedTupleHandOut->KH
open PySem.Builtin.Tuple renaming tupleExact->JX, tupleItemsOf->Lr, tupleIsExact->Mj
open PySem.Calls renaming Name_function_global->Nu
open PySem.F renaming args_tuple_add_2->KJ, entry_tuple_add->KP, slot_tuple_add->K3, plainAttrs_list->MD, slot_list_append->NU, type_list_append->NV
open PySem.Heap renaming get?_push_of_some->IQ, lt_size->Jd, get?_push_size->Jf, size_push->KB, SameBut->Lg, get?_update_self->L5, get?_update_other->Od, ExtBut->OT
open PySem.Heap.SameBut renaming update->LW, refl->NW
open PySem.NameKind renaming free->Kb, cell->Ld
open PySem.Obj renaming data_mapFields->Lx, mapFields->MI, isFreed_of_fields->M2, mapSeq->OE
open PySem.Paired renaming length->Kt
open PySem.PassesOwn renaming never->JA
open PySem.PyData renaming int->Jl, tuple->Jz, eqv->Mv, list->Nt, bool->N5
open PySem.PyData.int renaming injEq->N8
open PySem.PyData.list renaming injEq->NX
open PySem.PyData.tuple renaming injEq->Kv
open PySem.SeqAt renaming shaped->K8
open PySem.Shared renaming heap->PF
open PySem.Value renaming ref->Lj, none->LZ, int->OX, str->Ps
open PySem.W renaming codeIn->Jb, keepIn->Jc, mg_none_of->Js, boot_heap->KF, Frag->LR, OpenLaw->OB, boot_drawn->OC, boot_toks->OW, nsIn->Pn, fnOf->Po, OpenLaw->PQ
open Rat renaming intCast_mul->KR, normalize->N6, div_def->PK
open Sum renaming inl->JZ, inr->LA
open Sum.inl renaming inj->NY
open True renaming intro->Nd
open PySem PySem.Spec PyProof.Rows
variable{α β:Type}{m t' i j n:Nat}{xs xs':List IJ}{a it f t:Addr}{b c p:Int}{P:Ju}{w:J_}{h h':Heap}{o r ys x g g':List Int}{A:Kh}{E Q:IR->IW->Prop}{u:IR}{s:IW}{pos pos' px:Pos}{pins:List (Addr×Obj)}{op:O7}{tg iter:Expr}{fp:List Addr}{fd:LF}{scope:Scope}{its:List IR}{d:IJ}{ifs:List Expr}{tn:Nat->Heap->Prop}{Rp:Addr->Pv->IW->Prop}{q:Rat}{T:List (List Int)}{ts:List (List (List Int))}
noncomputable section
namespace L2
open PySem
noncomputable def xt(s:Stmt)(j:Nat):Stmt:=match s with
 | .ClassDef _ _ _ body _ _ _ _ _ _ _=>body.getD j (.Pass ⟨0,0,0,0⟩)
 | _=>.Pass ⟨0,0,0,0⟩
noncomputable def defArgs(s:Stmt):Arguments:=match s with
 | .FunctionDef _ a _ _ _ _ _ _ _ _=>a
 | _=>{posonlyargs:=[],args:=[],vararg:=none,kwonlyargs:=[],kw_defaults:=[],kwarg:=none,defaults:=[]}
def defBody(s:Stmt):List Stmt:=match s with
 | .FunctionDef _ _ b _ _ _ _ _ _ _=>b
 | _=>[]
noncomputable def defScope(s:Stmt):Scope:=match s with
 | .FunctionDef _ _ _ _ _ _ sc _ _ _=>sc
 | _=>{kind:=.function,names:=[],isGenerator:=false,isCoroutine:=false}
end L2
namespace L2.TT
open PySem PySem.W
noncomputable def G7(tb:String->Option Builtin)(p:Ju)(w:J_)(m:Nat)(ann:Option IR):Nat->SharedT->Thread->Option SharedT
 | 0,_,_=>none
 | n+1,s,t=>match through t with
   | true=>some s
   | false=>match stepOk m ann t with
     | false=>none
     | true=>match stepT (denote tb) p w s t with
       | some r=>G7 tb p w m ann n r.1 r.2
       | none=>none
theorem uX{tb:String->Option Builtin}{p:Ju}{w:J_}{m:Nat}{ann:Option IR}:∀{n:Nat}{s s':SharedT}{t:Thread},G7 tb p w m ann n s t=some s'->topRun tb p w m ann n s.abs t=some s'.abs
 | 0,_,_,_,h=>by cases h
 | n+1,s,s',t,h=>by
   unfold G7 at h;unfold topRun
   cases he:through t with
   | true=>rw[he]at h;cases h;rfl
   | false =>
     rw[he]at h
     cases hk:stepOk m ann t with
     | false=>rw[hk]at h;cases h
     | true =>
       rw[hk]at h
       cases hs:stepT (denote tb) p w s t with
       | none=>rw[hs]at h;cases h
       | some r=>rw[hs]at h;rw[stepT_spec hs];exact uX h
noncomputable def bt(os:List Obj):Nat->Nat->Nat->BT
 | 0,_,_=>.nil
 | f+1,a,b=>match os[b]? with
   | some o=>.node o (bt os f (2*a) (a+b)) (bt os f (2*a) (2*a+b))
   | none=>.nil
theorem boot_abs(P:PP):absHeap (bt (KF P).objs.toList 12 1 0) (KF P).objs.size (KF P).life=KF P:=by kernel_rfl
abbrev Af(p q:Ju)(loose:List Str)(Xt:IW->Bool){α:Type}(Yf:IW->α)(h₀:Heap)(s:IW) :=
 (staticsOk (Og p.main.body) h₀ s.heap&&namesBound p s.heap&&gensDone s&&laidKept h₀ s.heap,openSeen q loose (Og p.main.body) Xt true s,Yf s)
theorem left_of{p q:Ju}{loose:List Str}{Xt:IW->Bool}{Yf:IW->α}{Ya:J_->α}{N M:Nat}{ann:Option IR}
 (e:opening p=plainProg p.main.scope.names)(hN:Nat.ble 600 N=true)(f:∀s,fenceModules? p s=some s)(le:Nat.ble M N=true)
 (size:∀w:J_,((KF w.params).isNs J4,(KF w.params).objs.size,(KF w.params).nsMap J4 "__annotations__")=(true,m,ann))
 (run:∀(w:J_)(os:OsState),(G7 treeTable p w m ann M ⟨bt (KF w.params).objs.toList 12 1 0,(KF w.params).objs.size,(KF w.params).life,Pp [],OC,OW,os⟩ (topStub p)).map (fun s=>Af p q loose Xt Yf (KF w.params) s.abs)=some (true,openGood q loose,Ya w)) :
 LeftO p q loose Xt Yf Ya N:=fun w=>by
 obtain⟨⟨h,gs,d,k,os⟩,eo,e'⟩:=MK.mp (boot_open e hN f w);obtain⟨rfl,rfl,rfl,rfl⟩:h=KF w.params/\gs=Pp []/\d=OC/\k=OW:=by simpa using e'
 obtain⟨z1,z2,z3⟩:_/\_/\_:=by simpa only[Prod.mk.injEq]using size w
 obtain⟨s',r,l⟩:=MK.mp (run w os);obtain⟨l1,l2,l3⟩:_/\_/\_:=by simpa only[Af,Prod.mk.injEq]using l
 have r:=uX r
 have hb:SharedT.abs ⟨bt (KF w.params).objs.toList 12 1 0,(KF w.params).objs.size,(KF w.params).life,Pp [],OC,OW,os⟩=⟨KF w.params,Pp [],OC,OW,os⟩:=by
  show IW.mk (absHeap _ _ _) _ _ _ _=_;rw[boot_abs]
 rw[hb]at r;have r:=topRun_mono (N-M) _ _ _ _ r;rw[show M+(N-M)=N by have:=Nat.le_of_ble_eq_true le;omega]at r
 have t:topFrom treeTable p w N ⟨KF w.params,Pp [],OC,OW,os⟩=some s'.abs:=by
  unfold topFrom;dsimp only;rw[z1,z2,z3,r];show(match staticsOk (Og p.main.body) (KF w.params) s'.abs.heap&&namesBound p s'.abs.heap&&gensDone s'.abs&&laidKept (KF w.params) s'.abs.heap with|true=>_|false=>_)=_;rw[l1]
 unfold openEnds;rw[eo];show(topFrom treeTable p w N _).map _=_;rw[t];exact congrArg some (Prod.ext l2 l3)
end L2.TT
namespace K68
open PySem
def FV(i:Nat):Stmt:=PySem.Challenge.pw_evenpoints_k68_whole_boxes_of_strong_tab.main.body.getD i (.Pass ⟨0,0,0,0⟩)
end K68
def PySem.W.Fast.tw9206897218241043006:PySem.Program:=PySem.Challenge.pw_evenpoints_k68_whole_boxes_of_strong_tab
theorem PySem.W.Fast.te9206897218241043006:PySem.Challenge.pw_evenpoints_k68_whole_boxes_of_strong_tab=PySem.W.Fast.tw9206897218241043006:=rfl
namespace K68
open PySem PySem.W L2
def Fh:Stmt:=FV 0
def Ff:Stmt:=FV 1
def Fd:Stmt:=FV 2
def Fb:Stmt:=FV 3
def Fa:Stmt:=FV 4
def E_:Stmt:=FV 5
def E9:Stmt:=FV 6
def E8:Stmt:=FV 7
def E7:Stmt:=FV 8
def E6:Stmt:=FV 9
def DQ:Stmt:=FV 10
def DP:Stmt:=FV 11
def DO:Stmt:=FV 12
def DN:Stmt:=FV 13
def DM:Stmt:=FV 14
def Ep:Stmt:=FV 15
def DL:Stmt:=FV 16
def DK:Stmt:=FV 17
def DJ:Stmt:=FV 18
def DI:Stmt:=FV 19
def Eo:Stmt:=FV 20
def DH:Stmt:=FV 21
def Em:Stmt:=FV 22
def DG:Stmt:=FV 23
def DF:Stmt:=FV 24
def DE:Stmt:=FV 25
def DC:Stmt:=FV 26
def DB:Stmt:=FV 27
def DA:Stmt:=FV 28
def Dz:Stmt:=FV 29
def Dy:Stmt:=FV 30
def Dx:Stmt:=FV 31
def El:Stmt:=FV 32
def Dw:Stmt:=FV 33
def Du:Stmt:=FV 34
def Dt:Stmt:=FV 35
def Ds:Stmt:=FV 36
def Ek:Stmt:=FV 37
def Dr:Stmt:=FV 38
def Dq:Stmt:=FV 39
def Dp:Stmt:=FV 40
def Do:Stmt:=FV 41
def Dn:Stmt:=FV 42
def Dm:Stmt:=FV 43
def Dl:Stmt:=FV 44
def Dk:Stmt:=FV 45
def Ej:Stmt:=FV 46
def Dj:Stmt:=FV 47
def Ei:Stmt:=FV 48
def Di:Stmt:=FV 49
def Eh:Stmt:=FV 50
def Dh:Stmt:=FV 51
def Dg:Stmt:=FV 52
def Df:Stmt:=FV 53
def De:Stmt:=FV 54
def Dc:Stmt:=FV 55
def Db:Stmt:=FV 56
def Da:Stmt:=FV 57
def C_:Stmt:=FV 58
def C9:Stmt:=FV 59
def C8:Stmt:=FV 60
def C7:Stmt:=FV 61
def GE:Ju:={PySem.Challenge.pw_evenpoints_k68_whole_boxes_of_strong_tab with main:={PySem.Challenge.pw_evenpoints_k68_whole_boxes_of_strong_tab.main with body:=[Fh,Ff,Fd,Fb,Fa,E_,E9,E8,E7,E6,DQ,DP,DO,DN,DM,Ep,DL,DK,DJ,DI,Eo,DH,Em,DG,DF,DE,DC,DB,DA,Dz,Dy,Dx,El,Dw,Du,Dt,Ds,Ek,Dr,Dq,Dp,Do,Dn,Dm,Dl,Dk,Ej,Dj,Ei,Di,Eh,Dh,Dg,Df,De,Dc,Db,Da,C_,C9,C8,C7]}}
def rwN:PQ:={PySem.Challenge.rw_evenpoints_k68_whole_boxes_of_strong_tab with prog:=GE}
noncomputable def zview:Ju:={PySem.Challenge.pw_evenpoints_k68_whole_boxes_of_strong_tab with main:={PySem.Challenge.pw_evenpoints_k68_whole_boxes_of_strong_tab.main with body:=[Ff,Fd,Fa,E_,E9,E8,E7,E6,DQ,DP,DO,DN,DM,DL,DK,DJ,DI,DH,DG,DF,DE,DC,DB,DA,Dz,Dy,Dx,Dw,Du,Dt,Ds,Dr,Dq,Dp,Do,Dn,Dm,Dl,Dk,Dj,Di,Dh,Dg,Df,De,Dc,Db,Da,C_,C9,C8,C7]}}
theorem rw_eq:PySem.Challenge.rw_evenpoints_k68_whole_boxes_of_strong_tab=rwN:=rfl
def FC(P:PP)(x:Str)(t:Nat)(v:IR):DictEntry:=⟨IJ.keyHash P x,.str x t,v⟩
noncomputable def FB(n q:Str)(s:Stmt)(pm cd:IR):Obj:=⟨.type "function", none,.func (fnOf n q (defArgs s) (defBody s) (defScope s) .none .none .none pm none cd .none),#[]⟩
noncomputable def FF(n q:Str)(a b c:Nat)(l x y:Int)(r:Nat)(z:Int)(r2:Nat)(v1 v2 v3:IR)(r3:Nat)(u:Int)(c2:Nat):Obj:=⟨.type "code", none,.fields #[.str n a,.str q b,.str "/claim/cut.py" c,.int l 0,.int x 0,.int 0 0,.int 0 0,.int y 0,.ref r,.bool true,.int z 0,.ref r2,v1,v2,v3,.ref r3,.int u 0,.int l 0,.str "/claim/cut.py" c2],#[]⟩
noncomputable def Fz:IR:=.str "evenpoints.errors" 187
noncomputable def Fw:IR:=.str "evenpoints.fractions" 232
noncomputable def Fv:IR:=.str "evenpoints.figures" 314
noncomputable def Fu:IR:=.str "evenpoints.rows" 356
noncomputable def Ft:IR:=.str "evenpoints.tables" 371
noncomputable def Fq:IR:=.str "evenpoints.nets" 432
noncomputable def Fp:IR:=.str "evenpoints.boxes" 467
noncomputable def Fm:IR:=.str "evenpoints.netpapers" 533
noncomputable def Fj:IR:=.str "evenpoints.strength" 548
noncomputable def Fi:IR:=.str "law_evenpoints_k68_whole_boxes_of_strong_tab" 559
abbrev FA(n:Str):=FB n n
abbrev FE(n:Str):=FF n n
noncomputable def heapK(P:PP):Frag :=
 (nat_lit 2,(.mk .none none (.dict #[] 0) #[])) ::
 (nat_lit 3,(.mk (.type "dict") none (.dict #[FC P "__name__" 165 (.str "law_evenpoints_k68_whole_boxes_of_strong_tab" 559),FC P "__doc__" 166 .none,FC P "__package__" 167 .none,FC P "__loader__" 168 (.builtin "__main__.__loader__#opaque"),FC P "__spec__" 169 .none,FC P "__annotations__" 170 (.ref 6),FC P "__builtins__" 171 (.ref 4),FC P "__file__" 173 (.str "/claim/cut.py" 172),FC P "__cached__" 174 .none,FC P "EvenError" 206 (.ref 24),FC P "Nought" 231 (.ref 44),FC P "ZERO" 236 (.ref 47),FC P "ONE" 239 (.ref 48),FC P "common_divisor" 247 (.ref 55),FC P "fraction" 256 (.ref 62),FC P "plus" 264 (.ref 69),FC P "less" 272 (.ref 76),FC P "times" 280 (.ref 83),FC P "product_of" 289 (.ref 90),FC P "is_below" 297 (.ref 97),FC P "lesser" 305 (.ref 104),FC P "greater" 313 (.ref 111),FC P "power" 325 (.ref 118),FC P "figures_of" 335 (.ref 125),FC P "figures_in" 345 (.ref 132),FC P "number_of" 355 (.ref 139),FC P "inverse_of" 370 (.ref 146),FC P "product_sum" 378 (.ref 151),FC P "applied" 384 (.ref 156),FC P "unit_figures" 390 (.ref 161),FC P "first_filled" 399 (.ref 168),FC P "scaled" 405 (.ref 173),FC P "cleared" 411 (.ref 178),FC P "reduced" 417 (.ref 183),FC P "right_inverse" 423 (.ref 188),FC P "combination" 431 (.ref 195),FC P "table_number" 443 (.ref 202),FC P "points_of_tables" 449 (.ref 207),FC P "shapes_of" 455 (.ref 212),FC P "rows_of" 466 (.ref 219),FC P "side_size" 477 (.ref 226),FC P "size_of" 483 (.ref 231),FC P "goes_ahead" 492 (.ref 238),FC P "lies" 503 (.ref 245),FC P "lies_in" 509 (.ref 250),FC P "inside" 515 (.ref 255),FC P "share_of" 524 (.ref 262),FC P "miss_of" 532 (.ref 269),FC P "net_paper" 547 (.ref 276),FC P "strength" 558 (.ref 283),FC P "_law_tape" 569 (.ref 290),FC P "_law_pick" 580 (.ref 297),FC P "_law_size" 588 (.ref 304),FC P "_law_power" 598 (.ref 311),FC P "_law_any" 613 (.ref 318),FC P "_law_sum_table" 619 (.ref 323),FC P "_law_mirror" 625 (.ref 328),FC P "_law_tables" 631 (.ref 333),FC P "_law_box" 648 (.ref 340),FC P "_law_filled" 669 (.ref 347),FC P "law" 688 (.ref 354)] 61) #[])) ::
 (nat_lit 6,(.mk (.type "dict") none (.dict #[] 0) #[])) ::
 (nat_lit 15,(.mk (.type "tuple") none (.seq #[(.type "ValueError")] 0) #[])) ::
 (nat_lit 22,(.mk (.type "tuple") none (.seq #[] 0) #[])) ::
 (nat_lit 23,(.mk (.type "dict") none (.dict #[FC P "__module__" 196 (.str "evenpoints.errors" 187),FC P "__firstlineno__" 200 (.int 2 199),FC P "__static_attributes__" 201 (.ref 22),FC P "__weakref__" 203 (.ref 25),FC P "__doc__" 204 .none] 3) #[])) ::
 (nat_lit 24,(.mk (.type "type") none (.cls (.mk "EvenError" [(.type "ValueError")] [(.ref 24),(.type "ValueError"),(.type "Exception"),(.type "BaseException"),(.type "object")] 23 "EvenError" true [] [(.ref 44)] false none false)) #[(some (.ref 15)),none,(some (.str "EvenError" 189)),(some (.str "EvenError" 197)),(some (.builtin "ValueError.__new__")),(some (.bool true))])) ::
 (nat_lit 25,(.mk (.type "getset_descriptor") none (.fields #[(.str "__weakref__" 202),(.ref 24),(.builtin "ExceptionGroup.__weakref__"),.none]) #[])) ::
 (nat_lit 28,(.mk (.type "tuple") none (.seq #[(.ref 24)] 0) #[])) ::
 (nat_lit 40,FF "__init__" "Nought.__init__" 219 220 221 6 2 3 35 181 36 .none (.ref 37) (.ref 38) 39 224 225) ::
 (nat_lit 41,FB "__init__" "Nought.__init__" (xt (FV 2) 0) Fz (.ref 40)) ::
 (nat_lit 42,(.mk (.type "tuple") none (.seq #[(.str "word" 227)] 0) #[])) ::
 (nat_lit 43,(.mk (.type "dict") none (.dict #[FC P "__module__" 214 (.str "evenpoints.errors" 187),FC P "__firstlineno__" 218 (.int 4 217),FC P "__init__" 226 (.ref 41),FC P "__static_attributes__" 228 (.ref 42),FC P "__doc__" 229 .none] 2) #[])) ::
 (nat_lit 44,(.mk (.type "type") none (.cls (.mk "Nought" [(.ref 24)] [(.ref 44),(.ref 24),(.type "ValueError"),(.type "Exception"),(.type "BaseException"),(.type "object")] 43 "Nought" true [] [] false none false)) #[(some (.ref 28)),none,(some (.str "Nought" 207)),(some (.str "Nought" 215)),(some (.builtin "ValueError.__new__")),(some (.bool true))])) ::
 (nat_lit 47,(.mk (.type "tuple") none (.seq #[(.int 0 234),(.int 1 235)] 0) #[])) ::
 (nat_lit 48,(.mk (.type "tuple") none (.seq #[(.int 1 237),(.int 1 238)] 0) #[])) ::
 (nat_lit 54,FE "common_divisor" 240 241 242 11 2 3 49 181 50 .none (.ref 51) (.ref 52) 53 245 246) ::
 (nat_lit 55,FA "common_divisor" (FV 6) Fw (.ref 54)) ::
 (nat_lit 61,FE "fraction" 248 249 250 15 2 3 56 181 57 .none (.ref 58) (.ref 59) 60 254 255) ::
 (nat_lit 62,FA "fraction" (FV 7) Fw (.ref 61)) ::
 (nat_lit 68,FE "plus" 257 258 259 22 2 3 63 181 64 .none (.ref 65) (.ref 66) 67 262 263) ::
 (nat_lit 69,FA "plus" (FV 8) Fw (.ref 68)) ::
 (nat_lit 75,FE "less" 265 266 267 24 2 3 70 181 71 .none (.ref 72) (.ref 73) 74 270 271) ::
 (nat_lit 76,FA "less" (FV 9) Fw (.ref 75)) ::
 (nat_lit 82,FE "times" 273 274 275 26 2 3 77 181 78 .none (.ref 79) (.ref 80) 81 278 279) ::
 (nat_lit 83,FA "times" (FV 10) Fw (.ref 82)) ::
 (nat_lit 89,FE "product_of" 281 282 283 28 1 3 84 181 85 .none (.ref 86) (.ref 87) 88 287 288) ::
 (nat_lit 90,FA "product_of" (FV 11) Fw (.ref 89)) ::
 (nat_lit 96,FE "is_below" 290 291 292 33 2 3 91 181 92 .none (.ref 93) (.ref 94) 95 295 296) ::
 (nat_lit 97,FA "is_below" (FV 12) Fw (.ref 96)) ::
 (nat_lit 103,FE "lesser" 298 299 300 35 2 3 98 181 99 .none (.ref 100) (.ref 101) 102 303 304) ::
 (nat_lit 104,FA "lesser" (FV 13) Fw (.ref 103)) ::
 (nat_lit 110,FE "greater" 306 307 308 37 2 3 105 181 106 .none (.ref 107) (.ref 108) 109 311 312) ::
 (nat_lit 111,FA "greater" (FV 14) Fw (.ref 110)) ::
 (nat_lit 117,FE "power" 316 317 318 40 2 3 112 181 113 .none (.ref 114) (.ref 115) 116 323 324) ::
 (nat_lit 118,FA "power" (FV 16) Fv (.ref 117)) ::
 (nat_lit 124,FE "figures_of" 326 327 328 45 2 3 119 181 120 .none (.ref 121) (.ref 122) 123 333 334) ::
 (nat_lit 125,FA "figures_of" (FV 17) Fv (.ref 124)) ::
 (nat_lit 131,FE "figures_in" 336 337 338 51 3 3 126 181 127 .none (.ref 128) (.ref 129) 130 343 344) ::
 (nat_lit 132,FA "figures_in" (FV 18) Fv (.ref 131)) ::
 (nat_lit 138,FE "number_of" 346 347 348 54 2 3 133 181 134 .none (.ref 135) (.ref 136) 137 353 354) ::
 (nat_lit 139,FA "number_of" (FV 19) Fv (.ref 138)) ::
 (nat_lit 145,FE "inverse_of" 358 359 360 60 2 3 140 181 141 .none (.ref 142) (.ref 143) 144 368 369) ::
 (nat_lit 146,FA "inverse_of" (FV 21) Fu (.ref 145)) ::
 (nat_lit 150,FE "product_sum" 373 374 375 69 3 3 147 181 148 .none .none .none 149 376 377) ::
 (nat_lit 151,FA "product_sum" (FV 23) Ft (.ref 150)) ::
 (nat_lit 155,FE "applied" 379 380 381 71 3 3 152 181 153 .none .none .none 154 382 383) ::
 (nat_lit 156,FA "applied" (FV 24) Ft (.ref 155)) ::
 (nat_lit 160,FE "unit_figures" 385 386 387 73 2 3 157 181 158 .none .none .none 159 388 389) ::
 (nat_lit 161,FA "unit_figures" (FV 25) Ft (.ref 160)) ::
 (nat_lit 167,FE "first_filled" 391 392 393 75 1 3 162 181 163 .none (.ref 164) (.ref 165) 166 397 398) ::
 (nat_lit 168,FA "first_filled" (FV 26) Ft (.ref 167)) ::
 (nat_lit 172,FE "scaled" 400 401 402 80 3 3 169 181 170 .none .none .none 171 403 404) ::
 (nat_lit 173,FA "scaled" (FV 27) Ft (.ref 172)) ::
 (nat_lit 177,FE "cleared" 406 407 408 82 4 3 174 181 175 .none .none .none 176 409 410) ::
 (nat_lit 178,FA "cleared" (FV 28) Ft (.ref 177)) ::
 (nat_lit 182,FE "reduced" 412 413 414 85 2 3 179 181 180 .none .none .none 181 415 416) ::
 (nat_lit 183,FA "reduced" (FV 29) Ft (.ref 182)) ::
 (nat_lit 187,FE "right_inverse" 418 419 420 99 2 3 184 181 185 .none .none .none 186 421 422) ::
 (nat_lit 188,FA "right_inverse" (FV 30) Ft (.ref 187)) ::
 (nat_lit 194,FE "combination" 424 425 426 106 2 3 189 181 190 .none (.ref 191) (.ref 192) 193 429 430) ::
 (nat_lit 195,FA "combination" (FV 31) Ft (.ref 194)) ::
 (nat_lit 201,FE "table_number" 434 435 436 109 3 3 196 181 197 .none (.ref 198) (.ref 199) 200 441 442) ::
 (nat_lit 202,FA "table_number" (FV 33) Fq (.ref 201)) ::
 (nat_lit 206,FE "points_of_tables" 444 445 446 112 2 3 203 181 204 .none .none .none 205 447 448) ::
 (nat_lit 207,FA "points_of_tables" (FV 34) Fq (.ref 206)) ::
 (nat_lit 211,FE "shapes_of" 450 451 452 119 2 3 208 181 209 .none .none .none 210 453 454) ::
 (nat_lit 212,FA "shapes_of" (FV 35) Fq (.ref 211)) ::
 (nat_lit 218,FE "rows_of" 456 457 458 123 2 3 213 181 214 .none (.ref 215) (.ref 216) 217 464 465) ::
 (nat_lit 219,FA "rows_of" (FV 36) Fq (.ref 218)) ::
 (nat_lit 225,FE "side_size" 469 470 471 129 1 3 220 181 221 .none (.ref 222) (.ref 223) 224 475 476) ::
 (nat_lit 226,FA "side_size" (FV 38) Fp (.ref 225)) ::
 (nat_lit 230,FE "size_of" 478 479 480 137 1 3 227 181 228 .none .none .none 229 481 482) ::
 (nat_lit 231,FA "size_of" (FV 39) Fp (.ref 230)) ::
 (nat_lit 237,FE "goes_ahead" 484 485 486 139 3 3 232 181 233 .none (.ref 234) (.ref 235) 236 490 491) ::
 (nat_lit 238,FA "goes_ahead" (FV 40) Fp (.ref 237)) ::
 (nat_lit 244,FE "lies" 493 494 495 143 3 3 239 181 240 .none (.ref 241) (.ref 242) 243 501 502) ::
 (nat_lit 245,FA "lies" (FV 41) Fp (.ref 244)) ::
 (nat_lit 249,FE "lies_in" 504 505 506 151 3 3 246 181 247 .none .none .none 248 507 508) ::
 (nat_lit 250,FA "lies_in" (FV 42) Fp (.ref 249)) ::
 (nat_lit 254,FE "inside" 510 511 512 153 3 3 251 181 252 .none .none .none 253 513 514) ::
 (nat_lit 255,FA "inside" (FV 43) Fp (.ref 254)) ::
 (nat_lit 261,FE "share_of" 516 517 518 155 3 3 256 181 257 .none (.ref 258) (.ref 259) 260 522 523) ::
 (nat_lit 262,FA "share_of" (FV 44) Fp (.ref 261)) ::
 (nat_lit 268,FE "miss_of" 525 526 527 157 2 3 263 181 264 .none (.ref 265) (.ref 266) 267 530 531) ::
 (nat_lit 269,FA "miss_of" (FV 45) Fp (.ref 268)) ::
 (nat_lit 275,FE "net_paper" 535 536 537 160 3 3 270 181 271 .none (.ref 272) (.ref 273) 274 545 546) ::
 (nat_lit 276,FA "net_paper" (FV 47) Fm (.ref 275)) ::
 (nat_lit 282,FE "strength" 550 551 552 170 2 3 277 181 278 .none (.ref 279) (.ref 280) 281 556 557) ::
 (nat_lit 283,FA "strength" (FV 49) Fj (.ref 282)) ::
 (nat_lit 289,FE "_law_tape" 561 562 563 176 2 3 284 181 285 .none (.ref 286) (.ref 287) 288 567 568) ::
 (nat_lit 290,FA "_law_tape" (FV 51) Fi (.ref 289)) ::
 (nat_lit 296,FE "_law_pick" 570 571 572 181 2 3 291 181 292 .none (.ref 293) (.ref 294) 295 578 579) ::
 (nat_lit 297,FA "_law_pick" (FV 52) Fi (.ref 296)) ::
 (nat_lit 303,FE "_law_size" 581 582 583 191 1 3 298 181 299 .none (.ref 300) (.ref 301) 302 586 587) ::
 (nat_lit 304,FA "_law_size" (FV 53) Fi (.ref 303)) ::
 (nat_lit 310,FE "_law_power" 589 590 591 194 2 3 305 181 306 .none (.ref 307) (.ref 308) 309 596 597) ::
 (nat_lit 311,FA "_law_power" (FV 54) Fi (.ref 310)) ::
 (nat_lit 317,FE "_law_any" 599 600 601 199 4 3 312 181 313 .none (.ref 314) (.ref 315) 316 611 612) ::
 (nat_lit 318,FA "_law_any" (FV 55) Fi (.ref 317)) ::
 (nat_lit 322,FE "_law_sum_table" 614 615 616 208 3 3 319 181 320 .none .none .none 321 617 618) ::
 (nat_lit 323,FA "_law_sum_table" (FV 56) Fi (.ref 322)) ::
 (nat_lit 327,FE "_law_mirror" 620 621 622 217 1 3 324 181 325 .none .none .none 326 623 624) ::
 (nat_lit 328,FA "_law_mirror" (FV 57) Fi (.ref 327)) ::
 (nat_lit 332,FE "_law_tables" 626 627 628 219 3 3 329 181 330 .none .none .none 331 629 630) ::
 (nat_lit 333,FA "_law_tables" (FV 58) Fi (.ref 332)) ::
 (nat_lit 339,FE "_law_box" 632 633 634 236 4 3 334 181 335 .none (.ref 336) (.ref 337) 338 646 647) ::
 (nat_lit 340,FA "_law_box" (FV 59) Fi (.ref 339)) ::
 (nat_lit 346,FE "_law_filled" 649 650 651 249 4 3 341 181 342 .none (.ref 343) (.ref 344) 345 667 668) ::
 (nat_lit 347,FA "_law_filled" (FV 60) Fi (.ref 346)) ::
 (nat_lit 353,FE "law" 670 671 672 266 1 3 348 181 349 .none (.ref 350) (.ref 351) 352 686 687) ::
 (nat_lit 354,FA "law" (FV 61) Fi (.ref 353))::[]
noncomputable def heapA:List Addr:=nat_lit 2::nat_lit 3::nat_lit 6::nat_lit 15::nat_lit 22::nat_lit 23::nat_lit 24::nat_lit 25::nat_lit 28::nat_lit 40::nat_lit 41::nat_lit 42::nat_lit 43::nat_lit 44::nat_lit 47::nat_lit 48::nat_lit 54::nat_lit 55::nat_lit 61::nat_lit 62::nat_lit 68::nat_lit 69::nat_lit 75::nat_lit 76::nat_lit 82::nat_lit 83::nat_lit 89::nat_lit 90::nat_lit 96::nat_lit 97::nat_lit 103::nat_lit 104::nat_lit 110::nat_lit 111::nat_lit 117::nat_lit 118::nat_lit 124::nat_lit 125::nat_lit 131::nat_lit 132::nat_lit 138::nat_lit 139::nat_lit 145::nat_lit 146::nat_lit 150::nat_lit 151::nat_lit 155::nat_lit 156::nat_lit 160::nat_lit 161::nat_lit 167::nat_lit 168::nat_lit 172::nat_lit 173::nat_lit 177::nat_lit 178::nat_lit 182::nat_lit 183::nat_lit 187::nat_lit 188::nat_lit 194::nat_lit 195::nat_lit 201::nat_lit 202::nat_lit 206::nat_lit 207::nat_lit 211::nat_lit 212::nat_lit 218::nat_lit 219::nat_lit 225::nat_lit 226::nat_lit 230::nat_lit 231::nat_lit 237::nat_lit 238::nat_lit 244::nat_lit 245::nat_lit 249::nat_lit 250::nat_lit 254::nat_lit 255::nat_lit 261::nat_lit 262::nat_lit 268::nat_lit 269::nat_lit 275::nat_lit 276::nat_lit 282::nat_lit 283::nat_lit 289::nat_lit 290::nat_lit 296::nat_lit 297::nat_lit 303::nat_lit 304::nat_lit 310::nat_lit 311::nat_lit 317::nat_lit 318::nat_lit 322::nat_lit 323::nat_lit 327::nat_lit 328::nat_lit 332::nat_lit 333::nat_lit 339::nat_lit 340::nat_lit 346::nat_lit 347::nat_lit 353::nat_lit 354::[]
theorem heapE:∀P,heapA=(heapK P).map (·.1):=fun _=>rfl
theorem Bh:∀w:J_,((KF w.params).isNs J4,(KF w.params).objs.size,(KF w.params).nsMap J4 "__annotations__")=(true,11,some (.ref 6)):=fun w=>by kernel_rfl
set_option maxHeartbeats 0 in
theorem zleft:LeftO GE zview [] (fun s=>xlAt zview [] s&&recOk (RowW.records rwN.row.toRowW) s) (Hook.obs (kHook heapK heapA heapE)) (Hook.val (kHook heapK heapA heapE)) 4734 :=
 L2.TT.left_of (M:=4734) (by kernel_rfl) rfl (fun s=>by kernel_rfl) rfl Bh fun w os=>by kernel_rfl
end K68
namespace L2
abbrev Ie:=Sum Int Str
noncomputable def kY:Ie->IR->Bool
 | .inl k,v=>IR.isInt k v
 | .inr x,v=>IR.isStrOf x v
noncomputable def EL(w:J_):Ie->Int
 | .inl k=>hashInt k
 | .inr x=>hashStr w x
theorem bj:∀{k:Ie}{v:IR},kY k v=true->(∃i t,k=JZ i/\v=OX i t)\/(∃x t,k=LA x/\v=Ps x t)
 | .inl i,v,h=>by
   obtain⟨t,e⟩:=IR.isInt_shape (k:=i) (v:=v) h
   exact .inl ⟨i,t,rfl,e⟩
 | .inr x,v,h=>by
   obtain⟨t,e⟩:=IR.isStrOf_shape (x:=x) (v:=v) h;exact .inr ⟨x,t,rfl,e⟩
theorem qy(i:Int)(t:Tok):kY (.inl i) (.int i t)=true:=by simp[kY,IR.isInt]
theorem qx(x:Str)(t:Tok):kY (.inr x) (.str x t)=true:=by simp[kY,IR.isStrOf]
theorem Ak(a b:Int):decide ((JZ a:Ie)=JZ b)=(a==b):=by
 by_cases e:a=b
 · subst e;simp
 · have h:¬(JZ a:Ie)=JZ b:=fun q=>e (NY q);rw[decide_eq_false h];exact(beq_eq_false_iff_ne.mpr e).symm
theorem Ah(a b:Str):decide ((LA a:Ie)=LA b)=decide (a=b):=by
 by_cases e:a=b
 · subst e;simp
 · have h:¬(LA a:Ie)=LA b:=fun q=>e (LA.inj q);rw[decide_eq_false h,decide_eq_false e]
theorem Aj(a:Int)(b:Str):decide ((JZ a:Ie)=LA b)=false:=decide_eq_false (fun q=>nomatch q)
theorem Ai(a:Str)(b:Int):decide ((LA a:Ie)=JZ b)=false:=decide_eq_false (fun q=>nomatch q)
noncomputable def bL(prog:Ju)(w:J_):PySem.KeyKind prog w Ie where
 is:=kY
 hash:=EL w
 inj:=fun v a b ha hb=>by
  rcases bj ha with⟨i,t,rfl,rfl⟩|⟨x,t,rfl,rfl⟩
  · rcases bj hb with⟨j,u,rfl,e⟩|⟨y,u,rfl,e⟩
    · injection e with e1 _;rw[e1]
    · exact nomatch e
  · rcases bj hb with⟨j,u,rfl,e⟩|⟨y,u,rfl,e⟩
    · exact nomatch e
    · injection e with e1 _;rw[e1]
 byValue:=fun k v h=>by
   rcases bj h with⟨i,t,rfl,rfl⟩|⟨x,t,rfl,rfl⟩<;>rfl
 pyHash:=fun hv h=>by
  rcases bj hv with⟨i,t,rfl,rfl⟩|⟨x,t,rfl,rfl⟩
  · exact wpAny_pyHash_int h
  · exact wpAny_pyHash_str h
 eqBool:=fun hu hv h=>by
  rcases bj hu with⟨i,t,rfl,rfl⟩|⟨x,t,rfl,rfl⟩
  · rcases bj hv with⟨j,u,rfl,rfl⟩|⟨y,u,rfl,rfl⟩
    · rw[Ak]at h;exact wpAny_eqBool_int h
    · rw[Aj]at h;exact SeqAt.EqAt.int_str i t y u _ _ _ _ h
  · rcases bj hv with⟨j,u,rfl,rfl⟩|⟨y,u,rfl,rfl⟩
    · rw[Ai]at h;exact SeqAt.EqAt.str_int x t j u _ _ _ _ h
    · rw[Ah]at h;exact wpAny_eqBool_str h
 «strs»:=fun k x t v h=>by
  rcases bj h with⟨i,u,rfl,e⟩|⟨y,u,rfl,e⟩
  · exact nomatch e
  · injection e with e1 _
    subst e1;cases v<;>rfl
theorem kU(prog:Ju)(w:J_)(i:Int)(t:Tok):(bL prog w).is (.inl i) (.int i t)=true:=qy i t
theorem kS(prog:Ju)(w:J_)(x:Str)(t:Tok):(bL prog w).is (.inr x) (.str x t)=true:=qx x t
inductive V where
 | non|bl (b:Bool)|int (i:Int)|str (x:Str)|byt (b:Array UInt8)|flt (b:UInt64)|ref (a:Addr)|ty (n:String)
 deriving DecidableEq
def RelV:V->IR->Prop
 | .non,u=>u=LZ
 | .bl b,u=>u=IR.bool b
 | .int i,u=>∃t,u=OX i t
 | .str x,u=>∃t,u=Ps x t
 | .byt b,u=>∃t,u=IR.bytes b t
 | .flt b,u=>∃t,u=IR.float b t
 | .ref a,u=>u=Lj a
 | .ty n,u=>u=IR.type n
abbrev cn:List V->List IR->Prop:=Kx RelV
theorem cn.length{xs:List V}{us:List IR}(r:cn xs us):xs.length=us.length:=Kt r
theorem cn.get:∀{xs:List V}{us:List IR}{i:Nat}{x:V},cn xs us->xs[i]?=some x->∃u,us[i]?=some u/\RelV x u
 | _,_,_,_,.nil,e=>by simp at e
 | _,_,0,_,.cons r _,e=>by simp at e;subst e;exact⟨_,rfl,r⟩
 | _,_,i+1,x,.cons _ t,e=>by
   obtain⟨u,h1,h2⟩:=cn.get (i:=i) (x:=x) t (by simpa using e);exact⟨u,by simpa using h1,h2⟩
theorem cn.set{x:V}{u:IR}(r:RelV x u):∀{xs:List V}{us:List IR}(i:Nat),cn xs us->cn (xs.set i x) (us.set i u)
 | _,_,_,.nil=>.nil
 | _,_,0,.cons _ t=>.cons r t
 | _,_,i+1,.cons q t=>.cons q (cn.set r i t)
theorem cn.append:∀{xs ys:List V}{us ws:List IR},cn xs us->cn ys ws->cn (xs++ys) (us++ws)
 | _,_,_,_,.nil,s=>s
 | _,_,_,_,.cons r t,s=>.cons r (cn.append t s)
theorem cn.take:∀{xs:List V}{us:List IR}(n:Nat),cn xs us->cn (xs.take n) (us.take n)
 | _,_,0,_=>.nil
 | _,_,_+1,.nil=>.nil
 | _,_,n+1,.cons r t=>.cons r (cn.take n t)
theorem cn.drop:∀{xs:List V}{us:List IR}(n:Nat),cn xs us->cn (xs.drop n) (us.drop n)
 | _,_,0,r=>r
 | _,_,_+1,.nil=>.nil
 | _,_,n+1,.cons _ t=>cn.drop n t
def yb:Option V->Option IR->Prop
 | some v,some u=>RelV v u
 | none,none=>True
 | _,_=>False
def KV{κ:Type}:List (κ×V)->List (κ×IR)->Prop:=Kx fun(p:κ×V)(q:κ×IR)=>p.1=q.1/\RelV p.2 q.2
noncomputable def kV:Ie->V
 | .inl i=>.int i
 | .inr x=>.str x
inductive HO where
 | lst (xs:List V)
 | tup (xs:List V)
 | dK (kvs:List (Ie×V))|dT (kvs:List (List Ie×V))
 | set (S:Int->Bool) (n:Nat)
 | ins (C dx:Addr) (fs:List (Str×V))
 | own (x:Addr)
 | xd (fs:List (Str×V))
 | met (f x:Addr)
 | rng (lo hi:Int)
 | frz (o:Obj) (u:HO)
 | tbl (ps:Array IR)
 | ext (φ:Heap->Prop)
abbrev Hp:=Addr->Option HO
noncomputable def upd(H:Hp)(a:Addr)(o:HO):Hp:=fun b=>if b=a then some o else H b
theorem ax{H:Hp}{o:HO}:upd H a o a=some o:=by unfold upd;rw[if_pos rfl]
theorem ar{H:Hp}{b:Addr}{o:HO}(h:b≠a):upd H a o b=H b:=by unfold upd;rw[if_neg h]
theorem vW{H:Hp}{o u:HO}:upd (upd H a o) a u=upd H a u:=by
 funext b;unfold upd;split<;>rfl
theorem B0{H:Hp}{b:Addr}{o u:HO}(h:H a=some o)(h':H b=some u)(d:o≠u):a≠b:=by
 intro e;subst e;rw[h]at h';exact d (JN h')
theorem aS{H:Hp}{b:Addr}{o:HO}(h:H a=some o)(h':H b=none):a≠b:=by
 intro e;subst e;rw[h]at h';cases h'
section
variable(P:Ju)(w:J_)
def rL(h:Heap)(a:Addr)(items:Array IR):Prop:=∃o,h.get? a=some o/\o.cls = .type "tuple" /\ (∃n,o.data = .seq items n)/\o.dict=none
theorem rL.tup{h:Heap}{a:Addr}{items:Array IR}(x:rL h a items):Oh h a items:=let ⟨o,e1,e2,e3,_⟩:=x;⟨o,e1,e2,e3⟩
theorem rL.new(h:Heap)(items:Array IR):rL (h.push {cls:=.type "tuple", data:=.seq items}) h.objs.size items:=⟨_,Jf _ rfl,rfl,⟨_,rfl⟩,rfl⟩
def dt(H:Hp)(h:Heap)(a:Addr):HO->Prop
 | .lst xs=>xs.length<=sizeLine/\∃(its:List IR)(n:Nat),cn xs its/\h.get? a=some {cls:=.type "list", data:=.seq its.toArray n}
 | .tup xs=>xs.length<=sizeLine/\∃its:List IR,cn xs its/\rL h a its.toArray
 | .dK kvs=>kvs.length<=sizeLine/\(a==Mb)=false/\∃vs,KV kvs vs/\h.DictOf (bL P w) a vs
 | .dT kvs=>kvs.length<=sizeLine/\(a==Mb)=false/\∃xs:List (List Ie×Addr×IR),
     Kx (fun(p:List Ie×V)(q:List Ie×Addr×IR)=>p.1=q.1/\H q.2.1=some (.tup (p.1.map kV))/\RelV p.2 q.2.2) kvs xs /\
     ∃o es ep,h.get? a=some o/\o.ExactDict/\o.data = .dict es ep/\es.toList=xs.map (entryOfKey (OY (bL P w)))/\(xs.map (·.1)).Nodup
 | .set S n=>h.SetOf (intKind P w) a S n
 | .ins C dx fs=>H dx=some (.own a)/\fs.length<=1000/\dx≠a/\h.get? a=some (W.instObj C dx) /\
     ∃mA,h.Ns1 dx mA/\(∀f,yb (fs.lookup f) (mA f))/\PySem.Within mA (fs.map (·.1))
 | .own _=>∃o,h.get? a=some o
 | .xd fs=>∃mA,h.Ns1 a mA/\∀f,yb (fs.lookup f) (mA f)
 | .rng lo hi=>∃t u v,h.get? a=some {cls:=.type "range", data:=.fields #[.int lo t,.int hi u,.int 1 v]}
 | .frz o u=>h.get? a=some o/\dt H h a u
 | .tbl ps=>h.get? a=some {cls:=.none,data:=.fields ps}
 | .met f x=>h.get? a=some (W.methodObj (.ref f) (.ref x))
 | .ext φ=>φ h/\(∃o,h.get? a=some o)/\∀h1 h2:Heap,φ h1->(∀o,h1.get? a=some o->h2.get? a=some o)->φ h2
def Iw(H:Hp)(h:Heap):Prop:=∀a o,H a=some o->dt P w H h a o
end
section
variable{P:Ju}{w:J_}{H H':Hp}{h h':Heap}{a:Addr}{o:HO}
theorem dt.lt(x:dt P w H h a o):a<h.objs.size:=by
 cases o with
 | lst xs=>obtain⟨_,_,_,_,e⟩:=x;exact Jd e
 | tup xs=>obtain⟨_,_,_,p⟩:=x;exact p.tup.lt
 | dK kvs=>obtain⟨_,_,_,_,o,_,_,e,_⟩:=x;exact Jd e
 | dT kvs=>obtain⟨_,_,_,_,o,_,_,e,_⟩:=x;exact Jd e
 | set S n=>obtain⟨o,_,_,_,e,_⟩:=x;exact Jd e
 | ins C dx fs=>obtain⟨_,_,_,e,_⟩:=x;exact Jd e
 | own y=>obtain⟨_,e⟩:=x;exact Jd e
 | xd fs=>obtain⟨_,⟨_,_,_,e,_⟩,_⟩:=x;exact Jd e
 | rng lo hi=>obtain⟨_,_,_,e⟩:=x;exact Jd e
 | frz ob u=>obtain⟨e,_⟩:=x;exact Jd e
 | tbl ps=>exact Jd (show h.get? a=some _ from x)
 | met f y=>exact Jd (show h.get? a=some _ from x)
 | ext φ=>obtain⟨_,⟨_,e⟩,_⟩:=x;exact Jd e
theorem Kx.mapP{α β:Type}{F G:α->β->Prop}:∀{l₁:List α}{l₂:List β},Kx F l₁ l₂->(∀a b,F a b->G a b)->Kx G l₁ l₂
 | _,_,.nil,_=>.nil
 | _,_,.cons r t,f=>.cons (f _ _ r) (Kx.mapP t f)
theorem dt.stay(x:dt P w H h a o)(k:∀b u,(b=a\/H b=some (.own a))->h.get? b=some u->h'.get? b=some u)
 (ho:∀b,H b=some (.own a)->H' b=some (.own a))(ht:∀b xs,H b=some (.tup xs)->H' b=some (.tup xs)):dt P w H' h' a o:=by
 induction o with
 | lst xs=>obtain⟨z,its,n,r,e⟩:=x;exact⟨z,its,n,r,k _ _ (.inl rfl) e⟩
 | tup xs=>obtain⟨z,its,r,ob,e,c⟩:=x;exact⟨z,its,r,ob,k _ _ (.inl rfl) e,c⟩
 | dK kvs=>obtain⟨z,y,vs,r,ob,es,ep,e,c⟩:=x;exact⟨z,y,vs,r,ob,es,ep,k _ _ (.inl rfl) e,c⟩
 | dT kvs =>
   obtain⟨z,y,xs,r,ob,es,ep,e,c⟩:=x
   exact⟨z,y,xs,Kx.mapP r fun p q z=>⟨z.1,ht _ _ z.2.1,z.2.2⟩,ob,es,ep,k _ _ (.inl rfl) e,c⟩
 | set S n=>obtain⟨ob,es,ep,t,e,c⟩:=x;exact⟨ob,es,ep,t,k _ _ (.inl rfl) e,c⟩
 | ins C dx fs =>
   obtain⟨d,z,ne,e,mA,⟨od,es,ep,e2,c⟩,r⟩:=x
   exact⟨ho _ d,z,ne,k _ _ (.inl rfl) e,mA,⟨od,es,ep,k _ _ (.inr d) e2,c⟩,r⟩
 | own y=>obtain⟨ob,e⟩:=x;exact⟨ob,k _ _ (.inl rfl) e⟩
 | xd fs=>obtain⟨mA,⟨od,es,ep,e,c⟩,r⟩:=x;exact⟨mA,⟨od,es,ep,k _ _ (.inl rfl) e,c⟩,r⟩
 | rng lo hi=>obtain⟨t,u,v,e⟩:=x;exact⟨t,u,v,k _ _ (.inl rfl) e⟩
 | frz ob u ih=>obtain⟨e,q⟩:=x;exact⟨k _ _ (.inl rfl) e,ih q⟩
 | tbl ps =>
   have e:h.get? a=some {cls:=.none,data:=.fields ps}:=x;show h'.get? a=some {cls:=.none,data:=.fields ps}
   exact k a _ (.inl rfl) e
 | met f y =>
   have e:h.get? a=some (W.methodObj (.ref f) (.ref y)):=x;show h'.get? a=some (W.methodObj (.ref f) (.ref y))
   exact k a _ (.inl rfl) e
 | ext φ=>obtain⟨p,⟨o,e⟩,st⟩:=x;exact⟨st _ _ p fun o q=>k _ _ (.inl rfl) q,⟨o,k _ _ (.inl rfl) e⟩,st⟩
theorem Iw.lt(x:Iw P w H h)(e:H a=some o):a<h.objs.size:=(x a o e).lt
theorem Iw.fresh(x:Iw P w H h)(e:h.objs.size<=a):H a=none:=by
 cases q:H a with
 | none=>rfl
 | some u=>exact absurd (Jh (x.lt q) e) (Ku _)
theorem Iw.kept(x:Iw P w H h)(k:∀b u,h.get? b=some u->h'.get? b=some u):Iw P w H h':=fun a o e =>
 (x a o e).stay (fun b u _ q=>k b u q) (fun _ q=>q) fun _ _ q=>q
theorem Iw.laid(x:Iw P w H h)(k:∀b u,h.get? b=some u->h'.get? b=some u)(hp:h.objs.size<=a)(new:dt P w (upd H a o) h' a o):Iw P w (upd H a o) h':=fun b u e=>by
 have hn:=x.fresh hp;by_cases hb:b=a
 · subst hb;rw[ax]at e;cases e;exact new
 · rw[ar hb]at e;exact(x b u e).stay (fun c v _ q=>k c v q) (fun c q=>by rw[ar (aS q hn)];exact q) fun c xs q=>by rw[ar (aS q hn)];exact q
end
def Rd(H:Hp)(a:Addr)(u:HO):Prop:=H a=some u\/∃o,H a=some (.frz o u)
theorem Rd.ok{H:Hp}{u:HO}(r:Rd H a u)(x:Iw P w H h):dt P w H h a u:=by
 rcases r with r|⟨o,r⟩
 · exact x a u r
 · obtain⟨_,q⟩:=x a _ r;exact q
def Ia:Option HO->Prop
 | some (.lst _)=>True
 | some (.dK _)=>True
 | some (.dT _)=>True
 | some (.set _ _)=>True
 | some (.ins _ _ _)=>True
 | some (.ext _)=>True
 | _=>False
section
variable{P:Ju}{w:J_}{H:Hp}{h h':Heap}{x e:Addr}{o':HO}
theorem Iw.write(ok:Iw P w H h)(mu:Ia (H x))(he:e=x\/H e=some (.own x))(k:∀b u,b≠e->h.get? b=some u->h'.get? b=some u)(heo:∃u,h'.get? e=some u)
 (new:dt P w (upd H x o') h' x o'):Iw P w (upd H x o') h':=fun b u q=>by
 have nown:∀c y,H c=some (.own y)->c≠x:=fun c y r z=>by subst z;rw[r]at mu;exact mu
 have ntup:∀c xs,H c=some (.tup xs)->c≠x:=fun c xs r z=>by subst z;rw[r]at mu;exact mu
 by_cases hb:b=x
 · subst hb;rw[ax]at q;cases q;exact new
 · rw[ar hb]at q;by_cases hbe:b=e
   · have q':H b=some (.own x):=by
       rcases he with z|z
       · exact absurd (hbe.trans z) hb
       · rw[hbe];exact z
     rw[q]at q';cases q';obtain⟨v,hv⟩:=heo;exact⟨v,by rw[hbe];exact hv⟩
   · refine(ok b u q).stay (fun c v hc r=>k c v ?_ r) (fun c r=>by rw[ar (nown c b r)];exact r) fun c xs r=>by rw[ar (ntup c xs r)];exact r
     rcases hc with rfl|hc
     · exact hbe
     · rintro rfl;rcases he with z|z
       · exact nown c b hc z
       · rw[hc]at z;cases z;exact hb rfl
end
structure Un (fs ex:List Addr) (H H':Hp) (h h':Heap):Prop where
 keep:∀b o,h.get? b=some o->H b=none->b∉fs->b∉ex->h'.get? b=some o
 slot:∀b o,h.get? b=some o->H b=none->b∈fs->b∉ex->∃sl,h'.get? b=some {o with slots:=sl}
 free:∀b o,h.get? b=some o->H b=none->b∉ex->H' b=none
 there:∀b o,h.get? b=some o->b∉ex->∃o',h'.get? b=some o'
 tups:∀b xs,H b=some (.tup xs)->H' b=some (.tup xs)
 frzs:∀b o u,H b=some (.frz o u)->H' b=some (.frz o u)
 tbls:∀b ps,H b=some (.tbl ps)->∃more,H' b=some (.tbl (ps++more))
section
variable{fs fs' ex ex':List Addr}{H H1 H2:Hp}{h h1 h2 h':Heap}{a x e:Addr}{o:HO}
theorem Un.any(u:Un fs ex H H1 h h1){b:Addr}{ob:Obj}(q:h.get? b=some ob)(n:H b=none)(hx:b∉ex):∃sl,h1.get? b=some {ob with slots:=sl}:=by
 by_cases hb:b∈fs
 · exact u.slot b ob q n hb hx
 · exact⟨ob.slots,u.keep b ob q n hb hx⟩
theorem Un.kept(k:∀b u,h.get? b=some u->h'.get? b=some u):Un fs ex H H h h' :=
 ⟨fun b ob q _ _ _=>k b ob q,fun b ob q _ _ _=>⟨ob.slots,k b ob q⟩,fun _ _ _ n _=>n,fun b ob q _=>⟨ob,k b ob q⟩,fun _ _ q=>q,fun _ _ _ q=>q,fun _ ps q=>⟨#[],by rw[q];simp⟩⟩
theorem Un.refl:Un fs ex H H h h:=Un.kept fun _ _ q=>q
theorem Un.laid(k:∀b u,h.get? b=some u->h'.get? b=some u)(hp:h.objs.size<=a)(hn:H a=none):Un fs ex H (upd H a o) h h' where
 keep:=fun b u q _ _ _=>k b u q
 slot:=fun b u q _ _ _=>⟨u.slots,k b u q⟩
 free:=fun b u q n _=>by rw[ar (JP (Jh (Jd q) hp))];exact n
 there:=fun b u q _=>⟨u,k b u q⟩
 tups:=fun b xs q=>by rw[ar (aS q hn)];exact q
 frzs:=fun b u xs q=>by rw[ar (aS q hn)];exact q
 tbls:=fun b ps q=>⟨#[],by rw[ar (aS q hn),q];simp⟩
theorem Un.write(mu:Ia (H x))(he:e=x\/H e=some (.own x))(k:∀b u,b≠e->h.get? b=some u->h'.get? b=some u)(heo:∃u,h'.get? e=some u):Un fs ex H (upd H x o) h h':=by
 have hx:∀b,H b=none->b≠x:=fun b n z=>by subst z;rw[n]at mu;exact mu
 have hb:∀b,H b=none->b≠e:=fun b n z=>by
  subst z;rcases he with r|r
  · exact hx b n r
  · rw[n]at r;cases r
 have hm:∀b u,H b=some u->¬Ia (some u)->b≠x:=fun b u q nm z=>by subst z;rw[q]at mu;exact nm mu
 refine⟨fun b u q n _ _=>k b u (hb b n) q,fun b u q n _ _=>⟨u.slots,k b u (hb b n) q⟩,fun b u q n _=>by rw[ar (hx b n)];exact n,fun b u q _=>?_,
  fun b xs q=>by rw[ar (hm b _ q fun z=>z)];exact q,fun b u xs q=>by rw[ar (hm b _ q fun z=>z)];exact q,fun b ps q=>⟨#[],by rw[ar (hm b _ q fun z=>z),q];simp⟩⟩
 by_cases hbe:b=e
 · subst hbe;exact heo
 · exact⟨u,k b u hbe q⟩
end
noncomputable def FU(h:Heap)(H:Hp):List Addr:=(Jq h.objs.size).filter fun a=>(H a).isSome
def tJ(h:Heap)(H:Hp):Heap:=W.hideAll h (FU h H)
theorem qC(h:Heap)(H:Hp):(tJ h H).objs.size=h.objs.size:=W.hideAll_size _ _
theorem tI{H:Hp}{b:Addr}{o:Obj}(e:h.get? b=some o)(n:H b=none):(tJ h H).get? b=some o :=
 W.hideAll_get _ e fun hm=>by
  have q:(H b).isSome=true:=(LG.mp hm).2;rw[n]at q;simp at q
theorem w_{H:Hp}{b:Addr}{o:Obj}(e:(tJ h H).get? b=some o):h.get? b=some o/\H b=none:=by
 have e':h.get? b=some o:=W.of_hideAll (FU h H) e;refine⟨e',?_⟩
 cases q:H b with
 | none=>rfl
 | some x =>
   have hm:b∈FU h H:=LG.mpr ⟨Ko.mpr (Jd e'),by simp[q]⟩;have z:(tJ h H).get? b=none:=W.hideAll_none (FU h H) hm;rw[z]at e;cases e
noncomputable def xT(g h:Heap)(L:Addr):List (Addr×Obj):=(Jq h.objs.size).filterMap fun a=>if a=L\/(g.get? a).isSome=true then none else(h.get? a).map fun o=>(a,o)
noncomputable def rest(g h:Heap)(L d:Addr):List (Addr×Obj):=(xT g h L).filter fun p=>decide (p.1≠d)
structure Mod (K:W.Frag) (mg:Str->Option IR) (base:Heap):Prop where
 kin:K.In base
 glob:base.Ns J4 mg
 blt:∃mb,base.Ns builtinsNs mb/\∀x:Str,x ≠ "__name__" -> mb x=L3 x
 nolimit:base.NoLimit
structure Cx where
 prog:Ju
 w:J_
 K:W.Frag
 mg:Str->Option IR
 base:Heap
 A:Kh
 N:List Str
 s₀:IW
 H₀:Hp
 env:Env
 outer:List Env
 stack:List Env
 ex:List Addr
 fn:Str->Bool
 calm:Bool
 pn:List (Addr×Obj)
 xe:IR->IW->Prop
noncomputable def frs(l:List Env):List Addr:=l.filterMap (·.frame)
abbrev Cx.fs(X:Cx):List Addr:=frs X.outer
def Hv(sc:Scope)(x:Str):Prop:=sc.names.lookup x=some .local\/sc.names.lookup x=some .cell\/sc.names.lookup x=some .free
def Loc(sc:Scope)(x:Str):Prop:=sc.names.lookup x=some .local\/sc.names.lookup x=some .cell
def Look(env:Env)(h:Heap)(m:Str->Option IR)(x:Str)(u:IR):Prop :=
 (env.kindOf x=some .local/\m x=some u)\/((env.kindOf x=some .cell\/env.kindOf x=some .free)/\∃c,env.cells.lookup x=some c/\h.IsCell c (some u))
structure Cx.Ok (X:Cx):Prop where
 mod:Mod X.K X.mg X.base
 kind:X.env.scope.kind = .function
 glob:X.env.globals=J4
 blt:X.env.builtins=builtinsNs
 above:X.s₀.heap.objs.size<=X.env.locals
 inj:∀x y c,X.env.cells.lookup x=some c->X.env.cells.lookup y=some c->x=y
 has:∀x,(X.env.kindOf x=some .cell\/X.env.kindOf x=some .free)->∃c,X.env.cells.lookup x=some c
 cab:∀x c,X.fn x=true->X.env.cells.lookup x=some c->X.s₀.heap.objs.size<=c
 hd:X.calm=true->X.A.handled=none
 frames:X.A.frames=some X.stack
 stk:X.stack=X.outer\/(X.stack=X.env::X.outer/\X.env.frame=some X.env.locals)
 exf:∀b∈X.ex,b≠X.env.locals/\∀x c,X.env.cells.lookup x=some c->c≠b
 bs:∀b o,X.base.get? b=some o->X.s₀.heap.get? b=some o/\X.H₀ b=none
 bsz:X.base.objs.size<=X.s₀.heap.objs.size
 noex:∀b o,X.base.get? b=some o->b∉X.ex
 exfs:∀b∈X.ex,b∉X.fs
 funs:X.s₀.heap.FunFrames X.base X.outer
 frf:∀b∈X.fs,X.H₀ b=none
structure Inv (X:Cx) (pins:List (Addr×Obj)) (σ:List (Option V)) (H:Hp) (s:IW):Prop where
 ok:X.Ok
 os:s.os=X.s₀.os
 bare:OM s.gens
 base:Un X.fs X.ex X.H₀ H X.s₀.heap s.heap
 loc:∃m,s.heap.Ns X.env.locals m/\∀(i:Nat)(x:Str)(v:V),X.N[i]?=some x->σ[i]?=some (some v)->Hv X.env.scope x->∃u,RelV v u/\Look X.env s.heap m x u
 cell:∀x c,X.env.cells.lookup x=some c->∃v,s.heap.IsCell c v
 free:H X.env.locals=none
 freeC:∀x c,X.env.cells.lookup x=some c->H c=none
 pin:∀p∈X.pn++pins,s.heap.get? p.1=some p.2/\H p.1=none/\p.1≠X.env.locals/\p.1∉X.fs/\∀v,p.2.data ≠ .cell v
 hok:Iw X.prog X.w H s.heap
 len:σ.length=X.N.length
section
variable{X:Cx}{pins:List (Addr×Obj)}{σ:List (Option V)}{H H':Hp}{s:IW}{h':Heap}
theorem Cx.Ok.nofr(ok:X.Ok){b:Addr}{o:Obj}(e:X.base.get? b=some o):b∉X.fs:=fun hb=>by
 have:=(ok.funs.mem hb).1;rw[e]at this;cases this
theorem Inv.bs(I:Inv X pins σ H s):∀b o,X.base.get? b=some o->s.heap.get? b=some o/\H b=none:=fun b o e =>
 ⟨I.base.keep b o (I.ok.bs b o e).1 (I.ok.bs b o e).2 (I.ok.nofr e) (I.ok.noex b o e),I.base.free b o (I.ok.bs b o e).1 (I.ok.bs b o e).2 (I.ok.noex b o e)⟩
theorem Inv.bk(I:Inv X pins σ H s):∀b o,X.base.get? b=some o->s.heap.get? b=some o:=fun b o e=>(I.bs b o e).1
theorem Inv.mod(I:Inv X pins σ H s):Mod X.K X.mg X.base:=I.ok.mod
theorem Inv.kIn(I:Inv X pins σ H s):X.K.In s.heap:=I.ok.mod.kin.keeps I.bk
theorem Inv.lt(I:Inv X pins σ H s):X.env.locals<s.heap.objs.size:=let ⟨_,hn,_⟩:=I.loc;hn.lt
theorem Inv.sz(I:Inv X pins σ H s):X.s₀.heap.objs.size<=s.heap.objs.size:=Ks I.ok.above (Pc I.lt)
theorem Inv.nofs(I:Inv X pins σ H s)(h:s.heap.objs.size<=a):a∉X.fs:=fun hb=>by
 obtain⟨_,o,ho,_⟩:=I.ok.funs.mem hb;exact absurd (Jh (Jd ho) (Ks I.sz h)) (Ku _)
theorem Inv.cne(I:Inv X pins σ H s):∀x c,X.env.cells.lookup x=some c->c≠X.env.locals:=fun x c e z=>by
 obtain⟨v,o,ho,hd⟩:=I.cell x c e;obtain⟨m,⟨o',es,ep,ho',hd',_⟩,_⟩:=I.loc;rw[z,ho']at ho;cases ho;rw[hd']at hd;cases hd
theorem Inv.funs(I:Inv X pins σ H s):s.heap.FunFrames X.base X.outer:=by
 have all:∀(l:List Env),(∀b∈frs l,b∈X.fs)->X.s₀.heap.FunFrames X.base l->s.heap.FunFrames X.base l:=by
  intro l
  induction l with
  | nil=>intro _ _;trivial
  | cons env r ih =>
    intro hs hl;obtain⟨hk,⟨L,o,hf,hn,ho,hd⟩,hr⟩:=hl;have hL:L∈X.fs:=hs L (by unfold frs;rw[Nf,hf];exact IS);obtain⟨sl,e⟩:=I.base.slot L o ho (I.ok.frf L hL) hL fun z=>I.ok.exfs L z hL;exact⟨hk,⟨L,_,hf,hn,e,hd⟩,ih (fun b hb=>hs b (by unfold frs;rw[Nf,hf];exact IM _ hb)) hr⟩
 exact all X.outer (fun _ hb=>hb) I.ok.funs
theorem Inv.stack(I:Inv X pins σ H s):s.heap.FunFrames X.base X.stack:=by
 rcases I.ok.stk with e|⟨e,hf⟩
 · rw[e];exact I.funs
 · rw[e];obtain⟨m,hn,_⟩:=I.loc;refine .cons (by rw[I.ok.kind];decide) hf hn ?_ I.funs;exact Heap.get?_none_of_le (Ks I.ok.bsz I.ok.above)
theorem Inv.stkSub(I:Inv X pins σ H s):∀b∈frs X.stack,b∈X.env.locals::X.fs:=fun b hb=>by
 rcases I.ok.stk with e|⟨e,hf⟩
 · rw[e]at hb;exact IM _ hb
 · rw[e]at hb;unfold frs at hb;rw[Nf,hf]at hb;exact hb
theorem Inv.stkFree(I:Inv X pins σ H s):∀b∈frs X.stack,H b=none:=fun b hb=>by
 rcases JV.mp (I.stkSub b hb)with e|hb
 · rw[e];exact I.free
 · obtain⟨_,o,ho,_⟩:=I.ok.funs.mem hb;exact I.base.free b o ho (I.ok.frf b hb) fun z=>I.ok.exfs b z hb
theorem Inv.step{g':Array GenState}{d':Drawn}{ch:List Addr}(I:Inv X pins σ H s)
 (hch:∀b∈ch,(b∈X.ex\/X.s₀.heap.objs.size<=b)/\b≠X.env.locals/\(∀x c,X.env.cells.lookup x=some c->c≠b)/\∀p∈X.pn++pins,p.1≠b)
 (keep:∀b o,b≠X.env.locals->b∉X.fs->b∉ch->s.heap.get? b=some o->H b=none->h'.get? b=some o)
 (slot:∀b o,b≠X.env.locals->b∈X.fs->b∉ch->s.heap.get? b=some o->H b=none->∃sl,h'.get? b=some {o with slots:=sl})(free:∀b o,b∉ch->s.heap.get? b=some o->H b=none->H' b=none)
 (there:∀b o,b∉ch->s.heap.get? b=some o->∃o',h'.get? b=some o')
 (tups:∀b xs,H b=some (.tup xs)->H' b=some (.tup xs))(frzs:∀b o u,H b=some (.frz o u)->H' b=some (.frz o u))(tbls:∀b ps,H b=some (.tbl ps)->∃more,H' b=some (.tbl (ps++more)))
 (ns:∀m,s.heap.Ns X.env.locals m->h'.Ns X.env.locals m)(hok:Iw X.prog X.w H' h')(hg:OM g') :
 Inv X pins σ H' {s with heap:=h',gens:=g',drawn:=d',toks:=t' }:=by
 have neL:∀b o,X.s₀.heap.get? b=some o->b≠X.env.locals:=fun b o e=>JP (Jh (Jd e) I.ok.above)
 have neC:∀b o,X.s₀.heap.get? b=some o->b∉X.ex->b∉ch:=fun b o e hx hb=>by
  rcases(hch b hb).1 with z|z
  · exact hx z
  · exact absurd (Jh (Jd e) z) (Ku _)
 have cellK:∀x c,X.env.cells.lookup x=some c->∀v,s.heap.IsCell c v->h'.IsCell c v:=fun x c e v ⟨o,ho,hd⟩=>by
  have nch:c∉ch:=fun z=>(hch c z).2.2.1 x c e rfl;by_cases hc:c∈X.fs
  · obtain⟨sl,q⟩:=slot c o (I.cne x c e) hc nch ho (I.freeC x c e);exact⟨_,q,hd⟩
  · exact⟨o,keep c o (I.cne x c e) hc nch ho (I.freeC x c e),hd⟩
 refine⟨I.ok,I.os,hg,⟨fun b o e n hb hx=>?_,fun b o e n hb hx=>?_,fun b o e n hx=>?_,fun b o e hx=>?_,fun b xs e=>tups b xs (I.base.tups b xs e),fun b o xs e=>frzs b o xs (I.base.frzs b o xs e),fun b ps e=>?_⟩,?_,fun x c e=>?_,?_,fun x c e=>?_,fun p hp=>?_,hok,I.len⟩
 · exact keep b o (neL b o e) hb (neC b o e hx) (I.base.keep b o e n hb hx) (I.base.free b o e n hx)
 · obtain⟨sl,e1⟩:=I.base.slot b o e n hb hx;obtain⟨sl',e2⟩:=slot b _ (neL b o e) hb (neC b o e hx) e1 (I.base.free b o e n hx);exact⟨sl',e2⟩
 · obtain⟨o',e1⟩:=I.base.there b o e hx;exact free b o' (neC b o e hx) e1 (I.base.free b o e n hx)
 · obtain⟨o',e1⟩:=I.base.there b o e hx;exact there b o' (neC b o e hx) e1
 · obtain⟨m1,e1⟩:=I.base.tbls b ps e;obtain⟨m2,e2⟩:=tbls b _ e1;exact⟨m1++m2,by rw[e2,Array.append_assoc]⟩
 · obtain⟨m,hn,hl⟩:=I.loc;refine⟨m,ns m hn,fun i x v e1 e2 e3=>?_⟩;obtain⟨u,r,l⟩:=hl i x v e1 e2 e3;refine⟨u,r,?_⟩;rcases l with l|⟨k,c,e,z⟩
   · exact .inl l
   · exact .inr ⟨k,c,e,cellK x c e _ z⟩
 · obtain⟨v,z⟩:=I.cell x c e;exact⟨v,cellK x c e v z⟩
 · obtain⟨m,⟨o,_,_,ho,_⟩,_⟩:=I.loc;exact free _ o (fun z=>(hch _ z).2.1 rfl) ho I.free
 · obtain⟨v,o,ho,hd⟩:=I.cell x c e;exact free c o (fun z=>(hch c z).2.2.1 x c e rfl) ho (I.freeC x c e)
 · obtain⟨e,n,ne,nf,d⟩:=I.pin p hp;have nch:p.1∉ch:=fun z=>(hch p.1 z).2.2.2 p hp rfl;exact⟨keep p.1 p.2 ne nf nch e n,free p.1 p.2 nch e n,ne,nf,d⟩
theorem Inv.un(I:Inv X pins σ H s)(u:Un X.fs [] H H' s.heap h')(hok:Iw X.prog X.w H' h'):Inv X pins σ H' {s with heap:=h',toks:=t' }:=by
 obtain⟨m,⟨o,es,ep,ho,r⟩,_⟩:=id I.loc;obtain⟨sl,hL⟩:=u.any ho I.free (by simp)
 exact I.step (g':=s.gens) (d':=s.drawn) (ch:=[]) (fun _ z=>nomatch z) (fun b o _ hb _ e n=>u.keep b o e n hb (by simp)) (fun b o _ hb _ e n=>u.slot b o e n hb (by simp)) (fun b o _ e n=>u.free b o e n (by simp)) (fun b o _ e=>u.there b o e (by simp)) u.tups u.frzs u.tbls (fun m' hm=>by
  obtain⟨o',es',ep',ho',r'⟩:=hm;rw[ho]at ho';cases ho'
  exact⟨_,es',ep',hL,r'⟩) hok I.bare
theorem Inv.call{g':Array GenState}{d':Drawn}{ch:List Addr}(I:Inv X pins σ H s)(u:Un (frs X.stack) ch H H' s.heap h')(hok:Iw X.prog X.w H' h')(hg:OM g')
 (hch:∀b∈ch,(b∈X.ex\/X.s₀.heap.objs.size<=b)/\b≠X.env.locals/\(∀x c,X.env.cells.lookup x=some c->c≠b)/\∀p∈X.pn++pins,p.1≠b) :
 Inv X pins σ H' {s with heap:=h',gens:=g',drawn:=d',toks:=t' }:=by
 obtain⟨m,⟨o,es,ep,ho,r⟩,_⟩:=id I.loc;obtain⟨sl,hL⟩:=u.any ho I.free fun z=>(hch _ z).2.1 rfl
 exact I.step (ch:=ch) hch (fun b o hL hb hc e n=>u.keep b o e n (fun z=>(JV.mp (I.stkSub b z)).elim hL hb) hc) (fun b o _ _ hc e n=>u.any e n hc) (fun b o hc e n=>u.free b o e n hc) (fun b o hc e=>u.there b o e hc) u.tups u.frzs u.tbls (fun m' hm=>by
  obtain⟨o',es',ep',ho',r'⟩:=hm;rw[ho]at ho';cases ho'
  exact⟨_,es',ep',hL,r'⟩) hok hg
theorem Inv.turned(I:Inv X pins σ H s)(k:∀b o,b≠it->s.heap.get? b=some o->h'.get? b=some o)(hn:H it=none)(hL:it≠X.env.locals)
 (h1:it∈X.ex\/X.s₀.heap.objs.size<=it)(h2:∀x c,X.env.cells.lookup x=some c->c≠it)(h3:∀p∈X.pn++pins,p.1≠it):Inv X pins σ H {s with heap:=h',toks:=t' }:=by
 have nit:∀b u,H b=some u->b≠it:=fun b u e z=>by rw[z,hn]at e;cases e
 refine I.step (g':=s.gens) (d':=s.drawn) (ch:=[it]) (fun b hb=>?_) (fun b o _ _ hc e _=>k b o (fun z=>hc (by simp[z])) e) (fun b o _ _ hc e _=>⟨o.slots,k b o (fun z=>hc (by simp[z])) e⟩) (fun _ _ _ _ n=>n)
  (fun b o hc e=>⟨o,k b o (fun z=>hc (by simp[z])) e⟩) (fun _ _ e=>e) (fun _ _ _ e=>e) (fun b ps e=>⟨#[],by rw[e];simp⟩) (fun m hm=>?_) (fun b u e=>?_) I.bare
 · have e:b=it:=by simpa using hb
   subst e;exact⟨h1,hL,h2,h3⟩
 · obtain⟨o,es,ep,ho,r⟩:=hm;exact⟨o,es,ep,k _ o (MO hL) ho,r⟩
 · refine(I.hok b u e).stay (fun c v hc q=>k c v ?_ q) (fun _ q=>q) fun _ _ q=>q;rcases hc with z|z
   · rw[z];exact nit b u e
   · exact nit c _ z
theorem Inv.tok(I:Inv X pins σ H s)(t:Nat):Inv X pins σ H {s with toks:=t}:=I.un (h':=s.heap) (t':=t) Un.refl I.hok
theorem Inv.kept{t':Nat}(I:Inv X pins σ H s)(k:∀b u,s.heap.get? b=some u->h'.get? b=some u):Inv X pins σ H {s with heap:=h',toks:=t' }:=I.un (Un.kept k) (I.hok.kept k)
theorem Inv.laid{a:Addr}{o:HO}{t':Nat}(I:Inv X pins σ H s)(k:∀b u,s.heap.get? b=some u->h'.get? b=some u)(hp:s.heap.objs.size<=a)(new:dt X.prog X.w (upd H a o) h' a o) :
 Inv X pins σ (upd H a o) {s with heap:=h',toks:=t' }:=I.un (Un.laid k hp (I.hok.fresh hp)) (I.hok.laid k hp new)
theorem Inv.write{x e:Addr}{o:HO}{t':Nat}(I:Inv X pins σ H s)(mu:Ia (H x))(he:e=x\/H e=some (.own x))(k:∀b u,b≠e->s.heap.get? b=some u->h'.get? b=some u)(heo:∃u,h'.get? e=some u)
 (new:dt X.prog X.w (upd H x o) h' x o):Inv X pins σ (upd H x o) {s with heap:=h',toks:=t' }:=I.un (Un.write mu he k heo) (I.hok.write mu he k heo new)
theorem Inv.pins_of{pins':List (Addr×Obj)}(I:Inv X pins σ H s)(h:∀p∈pins',s.heap.get? p.1=some p.2/\H p.1=none/\p.1≠X.env.locals/\p.1∉X.fs/\∀v,p.2.data ≠ .cell v):Inv X pins' σ H s :=
 ⟨I.ok,I.os,I.bare,I.base,I.loc,I.cell,I.free,I.freeC,fun p hp=>(JU.mp hp).elim (fun z=>I.pin p (M8 _ z)) (h p),I.hok,I.len⟩
theorem lX{N:List Str}(hN:N.Nodup){x:Str}(a:N[i]?=some x)(b:N[j]?=some x):i=j:=by
 obtain⟨h1,e1⟩:=Jj.mp a;obtain⟨h2,e2⟩:=Jj.mp b;exact(List.getElem_inj hN).mp (e1.trans e2.symm)
theorem fU{M:Model}{x:Str}{v:V}{Q:Unit->IW->Prop}(I:Inv X pins σ H s)(hN:X.N.Nodup)(hi:X.N[i]?=some x)(hx:Loc X.env.scope x)(r:RelV v u)
 (h:∀s',Inv X pins (σ.set i (some v)) H s'->(∃a,Lg a s.heap s'.heap/\(a=X.env.locals\/X.env.cells.lookup x=some a))->Q () s')(hf:X.fn x=true\/X.env.scope.names.lookup x=some .local:=by first|exact .inl rfl|exact .inr rfl|assumption):Jn M A (storeName X.env x u) Q E s:=by
 obtain⟨m,hn,hl⟩:=id I.loc;have hcls:(X.env.scope.kind == .class||(X.env.scope.kind == .module&&X.env.locals != X.env.globals))=false:=by rw[I.ok.kind];rfl
 have hiσ:i<σ.length:=by rw[I.len];exact(Jj.mp hi).1
 have cne:=I.cne
 have tracked:∀{a:Addr}{h':Heap},(∃o,s.heap.get? a=some o/\H a=none)->Lg a s.heap h'->Iw X.prog X.w H h':=fun{a h'} ha hs b ob e=>by
  obtain⟨_,_,hfree⟩:=ha;refine(I.hok b ob e).stay (fun c w' hc q=>(hs.2 c ?_).trans q) (fun _ q=>q) fun _ _ q=>q;rintro rfl;rcases hc with rfl|hc
  · rw[hfree]at e;cases e
  · rw[hfree]at hc;cases hc
 rcases hx with hk|hk
 · refine wpAny_storeName_local hk hn (fun h' hn' hs=>?_) hcls;obtain⟨oL,_,_,hoL,_⟩:=id hn;refine h _ ⟨I.ok,I.os,I.bare,⟨fun b o e n hb hx=>?_,fun b o e n hb hx=>?_,I.base.free,fun b o e hx=>?_,I.base.tups,I.base.frzs,I.base.tbls⟩,⟨_,hn',fun j y v' e1 e2 e3=>?_⟩,fun y c e=>?_,I.free,I.freeC,fun p hp=>?_,tracked ⟨oL,hoL,I.free⟩ hs,by simpa using I.len⟩ ⟨_,hs,.inl rfl⟩
   · exact(hs.2 b (JP (Jh (Jd e) I.ok.above))).trans (I.base.keep b o e n hb hx)
   · obtain⟨sl,e1⟩:=I.base.slot b o e n hb hx;exact⟨sl,(hs.2 b (JP (Jh (Jd e) I.ok.above))).trans e1⟩
   · obtain⟨o',e1⟩:=I.base.there b o e hx;exact⟨o',(hs.2 b (JP (Jh (Jd e) I.ok.above))).trans e1⟩
   · by_cases hj:j=i
     · subst hj;rw[hi]at e1;cases e1;rw[Jp hiσ]at e2;cases e2;exact⟨u,r,.inl ⟨hk,by simp⟩⟩
     · rw[Jk (MO hj)]at e2;obtain⟨u',r',q⟩:=hl j y v' e1 e2 e3;refine⟨u',r',?_⟩;rcases q with⟨k,e⟩|⟨k,c,e,z⟩
       · refine .inl ⟨k,?_⟩;have:y≠x:=fun e=>hj (lX hN e1 (e▸hi));simp[this,e]
       · exact .inr ⟨k,c,e,z.sameBut hs (cne y c e)⟩
   · obtain⟨w',z⟩:=I.cell y c e;exact⟨w',z.sameBut hs (cne y c e)⟩
   · obtain⟨e,n,ne,nf,d⟩:=I.pin p hp;exact⟨(hs.2 p.1 ne).trans e,n,ne,nf,d⟩
 · have hfn:X.fn x=true:=by
     rcases hf with z|z
     · exact z
     · rw[z]at hk;cases hk
   obtain⟨c,hc⟩:=I.ok.has x (.inl hk);obtain⟨w',z⟩:=I.cell x c hc;refine wpAny_storeName_cell I.ok.kind hk hc z (fun h' hc' hs=>?_);obtain⟨oc,hoc,hocd⟩:=id z;refine h {s with heap:=h' } ⟨I.ok,I.os,I.bare,⟨fun b o e n hb hx=>?_,fun b o e n hb hx=>?_,I.base.free,fun b o e hx=>?_,I.base.tups,I.base.frzs,I.base.tbls⟩,⟨m,hn.sameBut hs (MO (cne x c hc)),fun j y v' e1 e2 e3=>?_⟩,fun y c' e=>?_,I.free,I.freeC,fun p hp=>?_,tracked ⟨oc,hoc,I.freeC x c hc⟩ hs,by simpa using I.len⟩ ⟨c,hs,.inr hc⟩
   · exact(hs.2 b (JP (Jh (Jd e) (I.ok.cab x c hfn hc)))).trans (I.base.keep b o e n hb hx)
   · obtain⟨sl,e1⟩:=I.base.slot b o e n hb hx;exact⟨sl,(hs.2 b (JP (Jh (Jd e) (I.ok.cab x c hfn hc)))).trans e1⟩
   · obtain⟨o',e1⟩:=I.base.there b o e hx;exact⟨o',(hs.2 b (JP (Jh (Jd e) (I.ok.cab x c hfn hc)))).trans e1⟩
   · by_cases hj:j=i
     · subst hj;rw[hi]at e1;cases e1;rw[Jp hiσ]at e2;cases e2;exact⟨u,r,.inr ⟨.inl hk,c,hc,hc'⟩⟩
     · rw[Jk (MO hj)]at e2;obtain⟨u',r',q⟩:=hl j y v' e1 e2 e3;refine⟨u',r',?_⟩;rcases q with q|⟨k,c',e,z'⟩
       · exact .inl q
       · refine .inr ⟨k,c',e,z'.sameBut hs ?_⟩;rintro rfl;exact hj (lX hN e1 (I.ok.inj _ _ _ e hc▸hi))
   · by_cases hcc:c'=c
     · subst hcc;exact⟨_,hc'⟩
     · obtain⟨w2,z2⟩:=I.cell y c' e;exact⟨w2,z2.sameBut hs hcc⟩
   · obtain⟨e,n,ne,nf,d⟩:=I.pin p hp;refine⟨(hs.2 p.1 ?_).trans e,n,ne,nf,d⟩;intro q;rw[q,hoc]at e;have q':oc=p.2:=JN e;exact d w' (by rw[<- q'];exact hocd)
theorem eC{M:Model}{x:Str}{v:V}{Q:Unit->IW->Prop}(I:Inv X pins σ H s)(hN:X.N.Nodup)(hi:X.N[i]?=some x)(hx:Loc X.env.scope x)(r:RelV v u)
 (h:∀s',Inv X pins (σ.set i (some v)) H s'->Q () s')(hf:X.fn x=true\/X.env.scope.names.lookup x=some .local:=by first|exact .inl rfl|exact .inr rfl|assumption):Jn M A (storeName X.env x u) Q E s :=
 fU I hN hi hx r (fun s' I' _=>h s' I') hf
end
abbrev XK:=IR->Option Addr->Hp->Prop
abbrev St:=List (Option V)
abbrev VK:=V->Hp->Prop
abbrev TE:=St->Hp->VK->Prop
abbrev TT:=St->Hp->(Bool->Hp->Prop)->Prop
abbrev TA:=St->Hp->(List V->Hp->Prop)->Prop
structure Ends where
 nx:St->Hp->Prop
 rt:VK
 bk:St->Hp->Prop:=fun _ _=>False
 ct:St->Hp->Prop:=fun _ _=>False
abbrev TS:=Ends->St->Hp->Prop
def EP(X:Cx)(pins:List (Addr×Obj))(σ:St)(Q:VK)(u:IR)(s':IW):Prop:=∃v H',Inv X pins σ H' s'/\RelV v u/\Q v H'
def TP(X:Cx)(pins:List (Addr×Obj))(σ:St)(Q:Bool->Hp->Prop)(b:Bool)(s':IW):Prop:=∃H',Inv X pins σ H' s'/\Q b H'
def AP(X:Cx)(pins:List (Addr×Obj))(σ:St)(Q:List V->Hp->Prop)(us:List IR)(s':IW):Prop:=∃vs H',Inv X pins σ H' s'/\cn vs us/\Q vs H'
def SP(X:Cx)(pins:List (Addr×Obj))(D:Ends)(f:Flow)(s':IW):Prop :=
 match f with
 | .next=>∃σ' H',Inv X pins σ' H' s'/\D.nx σ' H'
 | .brk=>∃σ' H',Inv X pins σ' H' s'/\D.bk σ' H'
 | .cont=>∃σ' H',Inv X pins σ' H' s'/\D.ct σ' H'
 | .ret u=>∃v σ' H',Inv X pins σ' H' s'/\RelV v u/\D.rt v H'
def PE(X:Cx)(e:Expr)(t:TE):Prop :=
 ∀(pins:List (Addr×Obj))(s:IW)(σ:St)(H:Hp)(Q:VK),Inv X pins σ H s->t σ H Q->Jn (Jv X.prog X.w) X.A (eval e X.env) (EP X pins σ Q) X.xe s
def PT(X:Cx)(e:Expr)(t:TT):Prop :=
 ∀(pins:List (Addr×Obj))(s:IW)(σ:St)(H:Hp)(Q:Bool->Hp->Prop),Inv X pins σ H s->t σ H Q->Jn (Jv X.prog X.w) X.A (isTrue e X.env (eval e X.env)) (TP X pins σ Q) X.xe s
def PW(X:Cx)(e:Expr)(t:TT):Prop :=
 ∀(whole:Sem IR)(pins:List (Addr×Obj))(s:IW)(σ:St)(H:Hp)(Q:Bool->Hp->Prop),Inv X pins σ H s->t σ H Q->Jn (Jv X.prog X.w) X.A (isTrue e X.env whole) (TP X pins σ Q) X.xe s
theorem PW.pt{X:Cx}{e:Expr}{t:TT}(h:PW X e t):PT X e t:=h _
def PA(X:Cx)(es:List Expr)(t:TA):Prop :=
 ∀(pos:Pos)(pins:List (Addr×Obj))(s:IW)(σ:St)(H:Hp)(Q:List V->Hp->Prop),Inv X pins σ H s->t σ H Q->Jn (Jv X.prog X.w) X.A (spliced (KC pos (IZ es X.env))) (AP X pins σ Q) X.xe s
def PS(X:Cx)(st:Stmt)(t:TS):Prop :=
 ∀(pins:List (Addr×Obj))(s:IW)(σ:St)(H:Hp)(D:Ends),Inv X pins σ H s->t D σ H->Jn (Jv X.prog X.w) X.A (exec st X.env) (SP X pins D) X.xe s
def HR(X:Cx)(st:List Stmt)(t:TS):Prop :=
 ∀(pins:List (Addr×Obj))(s:IW)(σ:St)(H:Hp)(D:Ends),Inv X pins σ H s->t D σ H->Jn (Jv X.prog X.w) X.A (execs st X.env) (SP X pins D) X.xe s
theorem FX{t:Sem α}{Q Q':α->IW->Prop}{M:Model}(h:Jn M A t Q E s)(hQ:∀a s,Q a s->Q' a s):Jn M A t Q' E s:=JJ h hQ fun _ _ x=>x
section
variable{X:Cx}
def x6(i:Nat):TE:=fun σ H Q=>∃v,σ[i]?=some (some v)/\Q v H
def tC(v:V):TE:=fun _ H Q=>Q v H
theorem cu{x:Str}(hN:X.N[i]?=some x)(hv:Hv X.env.scope x)(hd:(x==("__debug__" : Str))=false:=by decide)(hcd:(x==("__classdict__" : Str))=false:=by decide):PE X (.Name x pos) (x6 i):=by
 intro pins s σ H Q I h;obtain⟨v,e,h⟩:=h;obtain⟨m,hn,hl⟩:=I.loc;obtain⟨u,r,l⟩:=hl i x v hN e hv;have fin:EP X pins σ Q u s:=⟨v,H,I,r,h⟩;rcases l with⟨hk,hm⟩|⟨hk,c,hc,hcell⟩
 · exact wpAny_Name (OG I.ok.kind hk hn hm fin) hd
 · rcases hk with hk|hk
   · exact wpAny_Name (ON I.ok.kind hk hc hcell fin) hd
   · exact wpAny_Name (wpAny_loadName_free I.ok.kind hk hc hcell fin hcd) hd
theorem dO{i j pos}:PE X (.Constant (.int i) j pos) (tC (.int i)):=fun _ _ _ H _ I h=>wpAny_Constant_int ⟨.int i,H,I.tok _,⟨_,rfl⟩,h⟩
theorem BY{b j pos}:PE X (.Constant (.bool b) j pos) (tC (.bl b)):=fun _ _ _ H _ I h=>Constant_bool ⟨.bl b,H,I,rfl,h⟩
theorem zJ{j pos}:PE X (.Constant .none j pos) (tC .non):=fun _ _ _ H _ I h=>Constant_none ⟨.non,H,I,rfl,h⟩
theorem eI{x j pos}:PE X (.Constant (.str x) j pos) (tC (.str x)):=fun _ _ _ H _ I h=>Calls.Constant_str ⟨.str x,H,I.tok _,⟨_,rfl⟩,h⟩
def Gl(X:Cx)(x:Str):Prop:=X.env.kindOf x=some .globalImplicit
theorem qw{σ:St}{H:Hp}{x:Str}(I:Inv X pins σ H s)(hg:Gl X x)(hm:X.mg x=some u)(h:Q u s)
 (hd:(x==("__debug__" : Str))=false:=by decide):Jn (Jv X.prog X.w) X.A (eval (.Name x pos) X.env) Q E s :=
 Nu I.ok.kind hg (Calls.loadGlobal_global (by rw[I.ok.glob];exact I.mod.glob.keeps I.bk) hm h) hd
theorem fD{σ:St}{H:Hp}{x:Str}(I:Inv X pins σ H s)(hg:Gl X x)(hm:X.mg x=none)(hv:L3 x=some u)(h:Q u s)
 (hn:x ≠ "__name__" := by decide)(hd:(x==("__debug__" : Str))=false:=by decide):Jn (Jv X.prog X.w) X.A (eval (.Name x pos) X.env) Q E s:=by
 obtain⟨mb,h1,h2⟩:=I.mod.blt;exact Nu I.ok.kind hg (Calls.loadGlobal_builtin (by rw[I.ok.glob];exact I.mod.glob.keeps I.bk) hm (by rw[I.ok.blt];exact h1.keeps I.bk) ((h2 x hn).trans hv) h) hd
theorem wP{x:Str}{v:V}(hg:Gl X x)(hm:X.mg x=some u)(r:RelV v u)(hd:(x==("__debug__" : Str))=false:=by decide):PE X (.Name x pos) (tC v) :=
 fun _ _ _ H _ I h=>qw I hg hm ⟨v,H,I,r,h⟩ hd
variable{a b:Expr}{ta tb:TE}{pos:Pos}
def PC(X:Cx)(op:O7)(a b:Expr)(t:TE):Prop :=
 ∀ (pins:List (Addr×Obj))(s:IW)(σ:St)(H:Hp)(Q:VK),Inv X pins σ H s->t σ H Q ->
   Jn (Jv X.prog X.w) X.A (eval a X.env) (fun v s₁=>Jn (Jv X.prog X.w) X.A (eval b X.env) (fun u s₂=>Jn (Jv X.prog X.w) X.A (Lk op v u) (EP X pins σ Q) X.xe s₂) X.xe s₁) X.xe s
theorem sW(b:Expr)(h:op ≠ .In)(h2:op ≠ .NotIn):KM op b=false:=by
 have e1:(op==O7.In)=false:=by cases op<;>first|rfl|exact absurd rfl h
 have e2:(op==O7.NotIn)=false:=by cases op<;>first|rfl|exact absurd rfl h2
 cases b<;>simp[KM,e1,e2]
def tB(t:TE):TT:=fun σ H Q=>t σ H fun x H1=>∃c,x = .bl c/\Q c H1
theorem zA{t:TE}(h:PC X op a b t)(h1:KM op b=false:=by first|exact sW _ (by decide) (by decide)|rfl):PT X (.Compare a [op] [b] pos) (tB t):=by
 intro pins s σ H Q I hw;refine Oi (FX (h pins s σ H _ I hw) fun v s1 h1=>FX h1 fun u s2 h2=>FX h2 fun c s3 ⟨x,H1,I1,r1,q1⟩=>?_) h1;obtain⟨d,rfl,q⟩:=q1;cases r1;exact Lh ⟨H1,I1,q⟩
theorem zy{e:Expr}{t:TE}(h:PE X e t)(he:∀whole,isTrue e X.env whole=(do let v <- whole;N0 e.pos;Ng [v] (truthy v)):=by intro _;rfl):PT X e (tB t):=by
 intro pins s σ H Q I hw;refine isTrue_plain (FX (h pins s σ H _ I hw) fun v s1 ⟨x,H1,I1,r1,q1⟩=>?_) (he _);obtain⟨d,rfl,q⟩:=q1;cases r1;exact Lh ⟨H1,I1,q⟩
variable{tA tB':TT}{rest:List Expr}
def EC(t u:TT):TT:=fun σ H Q=>t σ H fun c H1=>if c=true then u σ H1 Q else Q false H1
def Ga(t u:TT):TT:=fun σ H Q=>t σ H fun c H1=>if c=true then Q true H1 else u σ H1 Q
theorem wC(ha:PT X a tA):PW X (.BoolOp .And [a] pos) tA:=by
 intro wh pins s σ H Q I h;refine isTrue_and (FX (ha pins s σ H Q I h) fun c s1 e=>?_)
 cases c with
 | true=>exact isTrue_and_nil e
 | false=>exact e
theorem zu(ha:PT X a tA):PW X (.BoolOp .Or [a] pos) tA:=by
 intro wh pins s σ H Q I h;refine isTrue_or (FX (ha pins s σ H Q I h) fun c s1 e=>?_)
 cases c with
 | false=>exact isTrue_or_nil e
 | true=>exact e
theorem zw(ha:PT X a tA)(hb:PW X (.BoolOp .And (b::rest) pos) tB'):PW X (.BoolOp .And (a::b::rest) pos) (EC tA tB'):=by
 intro wh pins s σ H Q I h;refine isTrue_and (FX (ha pins s σ H _ I h) fun c s1 ⟨H1,I1,q1⟩=>?_)
 cases c with
 | true=>exact hb wh pins s1 σ H1 Q I1 q1
 | false=>exact⟨H1,I1,q1⟩
theorem BU(ha:PT X a tA)(hb:PW X (.BoolOp .Or (b::rest) pos) tB'):PW X (.BoolOp .Or (a::b::rest) pos) (Ga tA tB'):=by
 intro wh pins s σ H Q I h;refine isTrue_or (FX (ha pins s σ H _ I h) fun c s1 ⟨H1,I1,q1⟩=>?_)
 cases c with
 | true=>exact⟨H1,I1,q1⟩
 | false=>exact hb wh pins s1 σ H1 Q I1 q1
def BL(ta tb:TE):TE:=fun σ H Q=>ta σ H fun x H1=>∃c,x = .bl c/\if c=true then tb σ H1 Q else Q (.bl false) H1
def Ew(ta tb:TE):TE:=fun σ H Q=>ta σ H fun x H1=>∃c,x = .bl c/\if c=true then Q (.bl true) H1 else tb σ H1 Q
def BH(ta:TE):TE:=fun σ H Q=>ta σ H fun x H1=>∃c,x = .bl c/\Q (.bl (!c)) H1
theorem uM{op}{t:TE}(h:PE X a t):PE X (.BoolOp op [a] pos) t:=fun pins s σ H Q I hw=>BoolOp_one (h pins s σ H Q I hw)
theorem zL(ha:PE X a ta)(hb:PE X (.BoolOp .And (b::rest) pos) tb):PE X (.BoolOp .And (a::b::rest) pos) (BL ta tb):=by
 intro pins s σ H Q I h;refine BoolOp_and (FX (ha pins s σ H _ I h) fun v s1 ⟨x,H1,I1,r1,q1⟩=>?_);obtain⟨c,rfl,q1⟩:=q1;cases r1;refine Lh ?_
 cases c with
 | true=>exact hb pins s1 σ H1 Q I1 q1
 | false=>exact⟨.bl false,H1,I1,rfl,q1⟩
theorem zG(ha:PE X a ta)(hb:PE X (.BoolOp .Or (b::rest) pos) tb):PE X (.BoolOp .Or (a::b::rest) pos) (Ew ta tb):=by
 intro pins s σ H Q I h;refine BoolOp_or (FX (ha pins s σ H _ I h) fun v s1 ⟨x,H1,I1,r1,q1⟩=>?_);obtain⟨c,rfl,q1⟩:=q1;cases r1;refine Lh ?_
 cases c with
 | false=>exact hb pins s1 σ H1 Q I1 q1
 | true=>exact⟨.bl true,H1,I1,rfl,q1⟩
theorem zI(ha:PE X a ta):PE X (.UnaryOp .Not a pos) (BH ta):=by
 intro pins s σ H Q I h;refine UnaryOp_ (FX (ha pins s σ H _ I h) fun v s1 ⟨x,H1,I1,r1,q1⟩=>?_);obtain⟨c,rfl,q1⟩:=q1;cases r1;exact not_of (Lh ⟨.bl (!c),H1,I1,rfl,q1⟩)
def Ge(t:TT)(ta tb:TE):TE:=fun σ H Q=>t σ H fun c H1=>if c=true then ta σ H1 Q else tb σ H1 Q
theorem sQ{c:Expr}(hc:PT X c tA)(ha:PE X a ta)(hb:PE X b tb):PE X (.IfExp c a b pos) (Ge tA ta tb):=by
 intro pins s σ H Q I h;refine wpAny_IfExp (FX (hc pins s σ H _ I h) fun d s1 ⟨H1,I1,q1⟩=>?_)
 cases d with
 | true=>exact ha pins s1 σ H1 Q I1 q1
 | false=>exact hb pins s1 σ H1 Q I1 q1
end
def HH(K:W.Frag)(H:Hp)(a:Addr)(xs:List V):Prop :=
 Rd H a (.lst xs) \/
  ∃(o:Obj)(its:Array IR)(n:Nat),K.lookup a=some o/\o.cls = .type "list" /\ o.dict=none/\o.data = .seq its n/\its.size<=sizeLine/\cn xs its.toList
def HG(K:W.Frag)(H:Hp)(a:Addr)(xs:List V):Prop :=
 Rd H a (.tup xs) \/
  ∃(o:Obj)(its:Array IR)(n:Nat),K.lookup a=some o/\o.cls = .type "tuple" /\ o.data = .seq its n/\its.size<=sizeLine/\cn xs its.toList/\o.dict=none
noncomputable def E3:IR->Option V
 | .none=>some .non
 | .bool b=>some (.bl b)
 | .int i _=>some (.int i)
 | .str x _=>some (.str x)
 | .bytes b _=>some (.byt b)
 | .float b _=>some (.flt b)
 | .ref a=>some (.ref a)
 | .type n=>some (.ty n)
 | _=>none
theorem RelV.abs{x:V}(r:RelV x u):E3 u=some x:=by
 cases x with
 | non=>cases r;rfl
 | bl _=>cases r;rfl
 | int _=>obtain⟨t,rfl⟩:=r;rfl
 | str _=>obtain⟨t,rfl⟩:=r;rfl
 | byt _=>obtain⟨t,rfl⟩:=r;rfl
 | flt _=>obtain⟨t,rfl⟩:=r;rfl
 | ref _=>cases r;rfl
 | ty _=>cases r;rfl
theorem RelV.inj{x y:V}(r:RelV x u)(q:RelV y u):x=y:=JN (r.abs.symm.trans q.abs)
theorem cn.inj:∀{xs ys:List V}{us:List IR},cn xs us->cn ys us->xs=ys
 | _,_,_,.nil,.nil=>rfl
 | _,_,_,.cons r t,.cons r' t'=>by rw[r.inj r',cn.inj t t']
section
variable{X:Cx}{pins:List (Addr×Obj)}{σ:St}{H:Hp}{s:IW}{a:Addr}{xs ys:List V}
theorem Inv.list(I:Inv X pins σ H s)(h:HH X.K H a xs):∃its:List IR,cn xs its/\PlainL s.heap a its.toArray/\xs.length<=sizeLine:=by
 rcases h with h|⟨o,its,n,hk,hc,hd,hs,hz,r⟩
 · obtain⟨z,its,n,r,e⟩:=h.ok I.hok;exact⟨its,r,⟨_,n,e,rfl,rfl,rfl⟩,z⟩
 · refine⟨its.toList,r,⟨o,n,I.kIn a o hk,hc,hd,by simpa using hs⟩,?_⟩;have e:=r.length;simp only[Mr]at e;omega
theorem Inv.tuple(I:Inv X pins σ H s)(h:HG X.K H a xs):∃its:List IR,cn xs its/\Oh s.heap a its.toArray/\xs.length<=sizeLine:=by
 rcases h with h|⟨o,its,n,hk,hc,hs,hz,r,hd⟩
 · obtain⟨z,its,r,p⟩:=h.ok I.hok;exact⟨its,r,p.tup,z⟩
 · refine⟨its.toList,r,⟨o,I.kIn a o hk,hc,n,by simpa using hs⟩,?_⟩;have e:=r.length;simp only[Mr]at e;omega
theorem Inv.list_inj(I:Inv X pins σ H s)(h:HH X.K H a xs)(h':HH X.K H a ys):xs=ys:=by
 obtain⟨its,r,⟨o,n,e,_,_,d⟩,_⟩:=I.list h;obtain⟨its',r',⟨o',n',e',_,_,d'⟩,_⟩:=I.list h';rw[e]at e';cases e';rw[d]at d'
 injection d' with d1 _
 have:its=its':=by simpa using congrArg Array.toList d1
 subst this;exact r.inj r'
theorem Inv.tupleD(I:Inv X pins σ H s)(h:HG X.K H a xs):∃ob,s.heap.get? a=some ob/\ob.cls = .type "tuple" /\ ob.dict=none:=by
 rcases h with h|⟨o,its,n,hk,hc,hs,hz,r,hd⟩
 · obtain⟨z,its,r,⟨o,e1,e2,_,e3⟩⟩:=h.ok I.hok;exact⟨o,e1,e2,e3⟩
 · exact⟨o,I.kIn a o hk,hc,hd⟩
theorem Inv.tuple_inj(I:Inv X pins σ H s)(h:HG X.K H a xs)(h':HG X.K H a ys):xs=ys:=by
 obtain⟨its,r,⟨o,e,_,n,d⟩,_⟩:=I.tuple h;obtain⟨its',r',⟨o',e',_,n',d'⟩,_⟩:=I.tuple h';rw[e]at e';cases e';rw[d]at d'
 injection d' with d1 _
 have:its=its':=by simpa using congrArg Array.toList d1
 subst this;exact r.inj r'
end
abbrev Cx.wish(X:Cx)(E:IR->IW->Prop):Cx:={X with xe:=E}
abbrev Cx.nox(X:Cx):Cx:=X.wish fun _ _=>False
theorem Cx.Ok.wish{X:Cx}(ok:X.Ok)(E:IR->IW->Prop):(X.wish E).Ok :=
 ⟨ok.mod,ok.kind,ok.glob,ok.blt,ok.above,ok.inj,ok.has,ok.cab,ok.hd,ok.frames,ok.stk,ok.exf,ok.bs,ok.bsz,ok.noex,ok.exfs,ok.funs,ok.frf⟩
theorem Cx.Ok.unwish{X:Cx}(ok:(X.wish E).Ok):X.Ok :=
 ⟨ok.mod,ok.kind,ok.glob,ok.blt,ok.above,ok.inj,ok.has,ok.cab,ok.hd,ok.frames,ok.stk,ok.exf,ok.bs,ok.bsz,ok.noex,ok.exfs,ok.funs,ok.frf⟩
section
variable{X:Cx}{pins:List (Addr×Obj)}{σ:St}{H:Hp}{s:IW}{E:IR->IW->Prop}
theorem Inv.wish(I:Inv X pins σ H s)(E:IR->IW->Prop):Inv (X.wish E) pins σ H s:=⟨I.ok.wish E,I.os,I.bare,I.base,I.loc,I.cell,I.free,I.freeC,I.pin,I.hok,I.len⟩
theorem Inv.unwish(I:Inv (X.wish E) pins σ H s):Inv X pins σ H s:=⟨I.ok.unwish,I.os,I.bare,I.base,I.loc,I.cell,I.free,I.freeC,I.pin,I.hok,I.len⟩
theorem SP.unwish{D:Ends}{f:Flow}{s':IW}(h:SP (X.wish E) pins D f s'):SP X pins D f s':=by
 cases f with
 | next=>obtain⟨σ',H',I,q⟩:=h;exact⟨σ',H',I.unwish,q⟩
 | brk=>obtain⟨σ',H',I,q⟩:=h;exact⟨σ',H',I.unwish,q⟩
 | cont=>obtain⟨σ',H',I,q⟩:=h;exact⟨σ',H',I.unwish,q⟩
 | ret u=>obtain⟨v,σ',H',I,r,q⟩:=h;exact⟨v,σ',H',I.unwish,r,q⟩
theorem HR.nox{st:List Stmt}{t:TS}(h:HR X.nox st t):HR X st t:=fun pins s σ H D I hw =>
 JJ (h pins s σ H D (I.wish _) hw) (fun _ _ q=>q.unwish) fun _ _ z=>J7 z
end
section
variable{X:Cx}{st:Stmt}{rest:List Stmt}{t u:TS}{e:Expr}{te:TE}{pos:Pos}
def BI:TS:=fun D σ H=>D.nx σ H
def Et(t u:TS):TS:=fun D σ H=>t {D with nx:=u D} σ H
theorem wF:HR X [] BI:=fun _ _ σ H _ I h=>Nh ⟨σ,H,I,h⟩
theorem da(h1:PS X st t)(h2:HR X rest u):HR X (st::rest) (Et t u):=by
 intro pins s σ H D I h;refine wpAny_execs_cons (FX (h1 pins s σ H {D with nx:=u D} I h) fun f s1 q=>?_)
 cases f with
 | next =>
   obtain⟨σ',H',I',q⟩:=q
   exact h2 pins s1 σ' H' D I' q
 | ret v=>exact q
 | brk=>exact q
 | cont=>exact q
theorem kK(h1:PS X st t):HR X [st] t:=by
 intro pins s σ H D I h;refine wpAny_execs_cons (FX (h1 pins s σ H D I h) fun f s1 q=>?_)
 cases f with
 | next=>exact Nh q
 | ret v=>exact q
 | brk=>exact q
 | cont=>exact q
theorem Inv.quiet{σ:St}{H:Hp}(I:Inv X pins σ H s):interactive X.env=false:=by simp[interactive,I.ok.kind]
def BJ(te:TE):TS:=fun D σ H=>te σ H fun _ H1=>D.nx σ H1
theorem pL(he:PE X e te)(hs:K0 e none pos.line X.env=pure false:=by rfl):PS X (.Expr e pos) (BJ te):=by
 intro pins s σ H D I h;exact wpAny_Expr_any (FX (he pins s σ H _ I h) fun v s1 ⟨x,H1,I1,r1,q1⟩=>⟨σ,H1,I1,q1⟩) I.quiet hs
def Eu(te:TE):TS:=fun D σ H=>te σ H D.rt
theorem lS(he:PE X e te):PS X (.Return (some e) pos) (Eu te):=by
 intro pins s σ H D I h;exact wpAny_Return_some (FX (he pins s σ H _ I h) fun v s1 ⟨x,H1,I1,r1,q1⟩=>⟨x,σ,H1,I1,r1,q1⟩)
def Ey(c:TT)(t u:TS):TS:=fun D σ H=>c σ H fun b H1=>if b=true then t D σ H1 else u D σ H1
theorem zC{c:Expr}{a b:List Stmt}{tc:TT}(hc:PT X c tc)(ha:HR X a t)(hb:HR X b u):PS X (.If c a b pos) (Ey tc t u):=by
 intro pins s σ H D I h;refine wpAny_If (FX (hc pins s σ H _ I h) fun d s1 ⟨H1,I1,q1⟩=>?_)
 cases d with
 | true=>exact ha pins s1 σ H1 D I1 q1
 | false=>exact hb pins s1 σ H1 D I1 q1
def yT:TS:=fun _ _ _=>False
theorem sJ:PS X st yT:=fun _ _ _ _ _ _ h=>h.elim
end
abbrev TG:=V->St->Hp->(St->Hp->Prop)->Prop
abbrev HF:=List V->St->Hp->(St->Hp->Prop)->Prop
def PG(X:Cx)(target:Expr)(t:TG):Prop :=
 ∀ (pins:List (Addr×Obj))(s:IW)(σ:St)(H:Hp)(v:V)(u:IR)(Q:St->Hp->Prop),Inv X pins σ H s->RelV v u->t v σ H Q ->
   Jn (Jv X.prog X.w) X.A (LH target X.env u) (fun _ s'=>∃σ' H',Inv X pins σ' H' s'/\Q σ' H') X.xe s
def HY(X:Cx)(ts:List Expr)(t:HF):Prop :=
 ∀ (pins:List (Addr×Obj))(s:IW)(σ:St)(H:Hp)(vs:List V)(us:List IR)(Q:St->Hp->Prop),Inv X pins σ H s->cn vs us->t vs σ H Q ->
   Jn (Jv X.prog X.w) X.A (OZ ((Ky ts X.env).map (·.2)) us) (fun _ s'=>∃σ' H',Inv X pins σ' H' s'/\Q σ' H') X.xe s
abbrev CG:=V->V->V->Hp->(Hp->Prop)->Prop
def Ea(X:Cx)(t:CG):Prop :=
 ∀ (pins:List (Addr×Obj))(s:IW)(σ:St)(H:Hp)(o i v:V)(ov iv u:IR)(Q:Hp->Prop),Inv X pins σ H s->RelV o ov->RelV i iv->RelV v u->t o i v H Q ->
   Jn (Jv X.prog X.w) X.A (PR ov iv u) (fun _ s'=>∃H',Inv X pins σ H' s'/\Q H') X.xe s
abbrev HD:=V->V->Hp->VK->Prop
def HV(X:Cx)(op:O0)(t:HD):Prop :=
 ∀ (pins:List (Addr×Obj))(s:IW)(σ:St)(H:Hp)(x y:V)(v u:IR)(Q:VK),Inv X pins σ H s->RelV x v->RelV y u->t x y H Q ->
   Jn (Jv X.prog X.w) X.A (Pt op v u) (EP X pins σ Q) X.xe s
section
variable{X:Cx}{pos:Pos}
def jI(i:Nat):TG:=fun v σ H Q=>Q (σ.set i (some v)) H
theorem iP{x:Str}(hN:X.N.Nodup)(hi:X.N[i]?=some x)(hx:Loc X.env.scope x)(hf:X.fn x=true\/X.env.scope.names.lookup x=some .local:=by first|exact .inl rfl|exact .inr rfl|assumption):PG X (.Name x pos) (jI i):=by
 intro pins s σ H v u Q I r h;exact NQ (eC I hN hi hx r (fun s' I'=>⟨_,H,I',h⟩) hf)
def EU:HF:=fun vs σ H Q=>vs=[]/\Q σ H
def Cn(t:TG)(u:HF):HF:=fun vs σ H Q=>∃v r,vs=v::r/\t v σ H fun σ' H'=>u r σ' H' Q
theorem pS:HY X [] EU:=by
 intro pins s σ H vs us Q I r h;obtain⟨e,h⟩:=h;subst e;cases r;exact assignInOrder_nil ⟨σ,H,I,h⟩
theorem iO{e:Expr}{es:List Expr}{t:TG}{u:HF}(h1:PG X e t)(h2:HY X es u)
 (hs:(Ky (e::es) X.env).map (·.2)=LH e X.env::(Ky es X.env).map (·.2):=by rfl):HY X (e::es) (Cn t u):=by
 intro pins s σ H vs us Q I r h;obtain⟨v,vr,e1,h⟩:=h;subst e1
 cases r with
 | cons r rr =>
   rw[hs];refine Nw (FX (h1 pins s σ H _ _ _ I r h) fun _ s1 ⟨σ1,H1,I1,q1⟩=>?_);exact h2 pins s1 σ1 H1 _ _ Q I1 rr q1
def ER(K:W.Frag)(n:Nat)(t:HF):TG:=fun v σ H Q=>∃a xs,v = .ref a/\HG K H a xs/\xs.length=n/\t xs σ H Q
theorem uK{es:List Expr}{k:Nat}{t:HF}(hc:X.calm=true)(h:HY X es t)
 (hn:(Ky es X.env).length=n:=by rfl)(hst:(Ky es X.env).findIdx? (·.1)=none:=by rfl):PG X (.Tuple es k pos) (ER X.K n t):=by
 intro pins s σ H v u Q I r hw;obtain⟨a,xs,e1,hq,hl,hw⟩:=hw;subst e1;cases r;obtain⟨its,rv,ht,hz⟩:=I.tuple hq;refine assign_Tuple_tuple (I.ok.hd hc) ht (by simp[hn,<- hl,rv.length]) hst fun h' hx=>?_;have I1:Inv X pins σ H {s with heap:=h' }:=I.kept (t':=s.toks) fun b o e=>hx b o (JP (Jd e)) e;exact h pins _ σ H xs _ Q I1 (by simpa using rv) hw
def ET(to ti:TE)(t:CG):TG:=fun v σ H Q=>to σ H fun o H1=>ti σ H1 fun i H2=>t o i v H2 fun H3=>Q σ H3
theorem uL{o i:Expr}{to ti:TE}{t:CG}(ho:PE X o to)(hi:PE X i ti)(hs:Ea X t)
 (ha:∀v,LH (.Subscript o i pos) X.env v=(do
  let ov <- Ng [v] (eval o X.env)
  let iv <- Ng [v,ov] (eval i X.env)
  N0 pos
  Ng [v,ov,iv] (PR ov iv v)
  release [v,ov,iv] []):=by intro _;rfl):PG X (.Subscript o i pos) (ET to ti t):=by
 intro pins s σ H v u Q I r h;rw[ha];refine IK (Lv (FX (ho pins s σ H _ I h) fun ov s1 ⟨x,H1,I1,r1,q1⟩=>?_));refine IK (Lv (FX (hi pins s1 σ H1 _ I1 q1) fun iv s2 ⟨y,H2,I2,r2,q2⟩=>?_));refine IK (KN (IK (Lv (FX (hs pins s2 σ H2 x y v ov iv u _ I2 r1 r2 r q2) fun _ s3 ⟨H3,I3,q3⟩=>?_))));exact wpAny_release ⟨σ,H3,I3,q3⟩
def A2(te:TE)(g:TG):TS:=fun D σ H=>te σ H fun x H1=>g x σ H1 D.nx
theorem jB{e:Expr}{te:TE}{g:TG}(he:PE X e te)(hg:PG X tg g)(hs:LS [tg] e pos.line X.env=pure false:=by rfl)(hw:LU [tg] e X.env=pure none:=by rfl)
 (h1:(Ky [tg] X.env).map (·.2)=[LH tg X.env]:=by rfl):PS X (.Assign [tg] e pos) (A2 te g):=by
 intro pins s σ H D I h;refine wpAny_Assign_stores (FX (he pins s σ H _ I h) fun v s1 ⟨x,H1,I1,r1,q1⟩=>?_) hs hw;rw[h1];exact FX (hg pins s1 σ H1 x v _ I1 r1 q1) fun _ s2 q=>q
theorem ib{x:Str}{e:Expr}{te:TE}(hN:X.N.Nodup)(hi:X.N[i]?=some x)(hx:Loc X.env.scope x)(he:PE X e te)(hs:K0 e (some (.Name x pos')) pos.line X.env=pure false:=by rfl)(hf:X.fn x=true\/X.env.scope.names.lookup x=some .local:=by first|exact .inl rfl|exact .inr rfl|assumption) :
 PS X (.Assign [.Name x pos'] e pos) (A2 te (jI i)):=by
 intro pins s σ H D I h;refine wpAny_Assign_Name (FX (he pins s σ H _ I h) fun v s1 ⟨y,H1,I1,r1,q1⟩=>?_) hs;exact eC I1 hN hi hx r1 (fun s2 I2=>⟨_,H1,I2,q1⟩) hf
def Ev(i j:Nat)(ta:TA):TS:=fun D σ H=>ta σ H fun vs H1=>∃v w,vs=[v,w]/\D.nx ((σ.set i (some v)).set j (some w)) H1
theorem zB{x y:Str}{a b:Expr}{ta:TA}{py pt:Pos}{kt k2 pt2}(hc:X.calm=true)(hN:X.N.Nodup)(hi:X.N[i]?=some x)(hj:X.N[j]?=some y)(hij:i≠j)
 (hx:X.env.scope.names.lookup x=some .local)(hy:X.env.scope.names.lookup y=some .local)(ha:PA X [a,b] ta)
 (hw:LU [.Tuple [.Name x px,.Name y py] kt pt] (.Tuple [a,b] k2 pt2) X.env=pure (some [x,y]))
 (hs:LS [.Tuple [.Name x px,.Name y py] kt pt] (.Tuple [a,b] k2 pt2) pos.line X.env=pure false:=by rfl) :
 PS X (.Assign [.Tuple [.Name x px,.Name y py] kt pt] (.Tuple [a,b] k2 pt2) pos) (Ev i j ta):=by
 intro pins s σ H D I h;rw[exec_Assign_arm];refine IK (KN ?_);rw[hs];refine IK (IU ?_);rw[if_neg (by decide)];refine IK (Tuple_ (FX (ha _ pins s σ H _ I h) fun us s1 ⟨vs,H1,I1,r1,q1⟩=>?_));obtain⟨v,w,e1,q1⟩:=q1;subst e1
 obtain⟨u1,u2,rfl,rv,rw'⟩:∃u1 u2,us=[u1,u2]/\RelV v u1/\RelV w u2:=by
  cases r1 with
  | cons p q =>
    cases q with
    | cons p' q' =>
      cases q';exact⟨_,_,rfl,p,p'⟩
 refine JC ?_ (by show 2<=sizeLine;decide);have I2:Inv X pins σ H1 {s1 with heap:=s1.heap.push {cls:=.type "tuple", data:=.seq [u1,u2].toArray}}:=I1.kept (t':=s1.toks) fun b o e=>IQ _ e;rw[hw];refine IK (IU ?_);show Jn (Jv X.prog X.w) X.A (do rule "assign.swapped-stores"; let items <- unpackItems (.ref s1.heap.objs.size) 2 none;OZ [fun v=>bindName X.env y v,fun v=>bindName X.env x v] items.reverse;pure Flow.next) _ _ _;refine IK (Mc (IK (unpackItems_tuple (items:=#[u1,u2]) (I.ok.hd hc) (Oh.new s1.heap _) fun h' hx'=>?_)));have I3:=I2.kept (h':=h') (t':=s1.toks) fun b o e=>hx' b o (JP (Jd e)) e;show Jn _ _ (OZ [fun v=>bindName X.env y v,fun v=>bindName X.env x v] [u2,u1] >>= fun _=>pure Flow.next) _ _ _;refine IK (Nw (wpAny_bindName (eC I3 hN hj (.inl hy) rw' (fun s2 I4=>?_) (.inr hy))));refine Nw (wpAny_bindName (eC I4 hN hi (.inl hx) rv (fun s3 I5=>assignInOrder_nil (IU ?_)) (.inr hx)));rw[List.set_comm _ _ (MO hij)]at I5;exact⟨_,H1,I5,q1⟩
def EB(i:Nat)(te:TE)(ti:HD):TS:=fun D σ H=>∃x,σ[i]?=some (some x)/\te σ H fun y H1=>ti x y H1 fun z H2=>D.nx (σ.set i (some z)) H2
theorem uJ{x:Str}{e:Expr}{te:TE}{op:O0}{ti:HD}(hN:X.N.Nodup)(hi:X.N[i]?=some x)(hx:Loc X.env.scope x)(he:PE X e te)(ho:HV X op ti)(hf:X.fn x=true\/X.env.scope.names.lookup x=some .local:=by first|exact .inl rfl|exact .inr rfl|assumption) :
 PS X (.AugAssign (.Name x pos') op e pos) (EB i te ti):=by
 intro pins s σ H D I h;obtain⟨v,e1,h⟩:=h;obtain⟨m,hn,hl⟩:=I.loc;have vis:Hv X.env.scope x:=by rcases hx with k|k;exact .inl k;exact .inr (.inl k)
 obtain⟨u,r,l⟩:=hl i x v hi e1 vis;refine wpAny_AugAssign_Name ?_
 have go:Jn (Jv X.prog X.w) X.A (eval e X.env) (fun w s₂=>Jn (Jv X.prog X.w) X.A (Pt op u w) (fun r s₃=>Jn (Jv X.prog X.w) X.A (storeName X.env x r) (fun _=>SP X pins D .next) X.xe s₃) X.xe s₂) X.xe s:=by
  refine FX (he pins s σ H _ I h) fun w s1 ⟨y,H1,I1,r1,q1⟩=>?_;refine FX (ho pins s1 σ H1 v y u w _ I1 r r1 q1) fun z s2 ⟨zv,H2,I2,r2,q2⟩=>?_;exact eC I2 hN hi hx r2 (fun s3 I3=>⟨_,H2,I3,q2⟩) hf
 rcases l with⟨hk,hm⟩|⟨hk,c,hc,hcell⟩
 · exact OG I.ok.kind hk hn hm go
 · rcases hk with hk|hk
   · exact ON I.ok.kind hk hc hcell go
   · rcases hx with k|k
     · have:X.env.scope.names.lookup x=some .free:=hk;rw[k]at this;cases this
     · have:X.env.scope.names.lookup x=some .free:=hk;rw[k]at this;cases this
end
section
variable{X:Cx}{pos:Pos}
def yS(c:TT)(tb:TS):TS:=fun D σ H=>∃W:Nat->St->Hp->Prop,(∃m,W m σ H)/\∀m σ H,W m σ H ->
 c σ H fun b H1=>if b=true then ∃N:St->Hp->Prop,(∀σ' H',N σ' H'->∃m',m'<m/\W m' σ' H')/\tb {D with nx:=N,ct:=N,bk:=D.nx} σ H1 else D.nx σ H1
theorem sI{c:Expr}{body:List Stmt}{tc:TT}{tb:TS}(hp:O1 (Jv X.prog X.w) X.A X.env X.xe)(hc:PT X c tc)(hb:HR X body tb):PS X (.While c body [] pos) (yS tc tb):=by
 intro pins s σ H D I h;obtain⟨W,⟨m0,w0⟩,turn⟩:=h;refine wpAny_While (codeAny_whileLoop (fun n s'=>∃σ' H',Inv X pins σ' H' s'/\W n σ' H') ?_ m0 ⟨σ,H,I,w0⟩);rintro n s1 ⟨σ1,H1,I1,w1⟩;refine LI hp (FX (hc pins s1 σ1 H1 _ I1 (turn n σ1 H1 w1)) fun b s2 ⟨H2,I2,q2⟩=>?_)
 cases b with
 | true =>
   obtain⟨N,hN,q2⟩:=q2;rw[if_pos rfl];refine LI hp (FX (hb pins s2 σ1 H2 _ I2 q2) fun f s3 q3=>?_)
   cases f with
   | next =>
     obtain⟨σ3,H3,I3,n3⟩:=q3;obtain⟨m',hm,w3⟩:=hN σ3 H3 n3
     exact⟨m',hm,σ3,H3,I3,w3⟩
   | cont =>
     obtain⟨σ3,H3,I3,n3⟩:=q3;obtain⟨m',hm,w3⟩:=hN σ3 H3 n3
     exact⟨m',hm,σ3,H3,I3,w3⟩
   | brk=>exact q3
   | ret v=>exact q3
 | false =>
   rw[if_neg JB];exact Nh ⟨σ1,H2,I2,q2⟩
end
structure It where
 go:Nat->Hp->Prop
 yld:Nat->Hp->V->Hp->Prop
 stop:Nat->Hp->Prop
def j_(X:Cx)(pins:List (Addr×Obj))(H:Hp)(b:Addr):Prop :=
 H b=none/\b≠X.env.locals/\b∉X.fs/\(b∈X.ex\/X.s₀.heap.objs.size<=b)/\(∀x c,X.env.cells.lookup x=some c->c≠b)/\∀p∈X.pn++pins,p.1≠b
theorem Inv.fpOk{X:Cx}{σ:St}{H H':Hp}{b:Addr}(I:Inv X pins σ H s)(hb:s.heap.objs.size<=b)(hn:H' b=none):j_ X pins H' b:=by
 refine⟨hn,L4 (Jh I.lt hb),I.nofs hb,.inr (Ks I.sz hb),fun x c e z=>?_,fun p hp z=>?_⟩
 · obtain⟨v,q⟩:=I.cell x c e;exact absurd (Jh q.lt (by rw[z];exact hb)) (Ku _)
 · exact absurd (Jh (Jd (I.pin p hp).1) (by rw[z];exact hb)) (Ku _)
structure Turn (P:Ju) (w:J_) (K:W.Frag) (tg:Expr) (J:It) (fp:List Addr) (it:Addr) (tn:Nat->Heap->Prop):Prop where
 mem:it∈fp
 obj:∀i h,tn i h->∀b∈fp,∃o,h.get? b=some o/\∀v,o.data ≠ .cell v
 keep:∀i h h',tn i h->(∀b∈fp,∀o,h.get? b=some o->h'.get? b=some o)->tn i h'
 item:∀(X:Cx),X.prog=P->X.w=w->X.K=K->X.calm=true->∀(i:Nat)(pins:List (Addr×Obj))(s:IW)(σ:St)(H:Hp)(E:IR->IW->Prop),Inv X pins σ H s->(∀b∈fp,j_ X pins H b)->tn i s.heap->J.go i H ->
  Jn (Jv P w) X.A (Ni (.ref it)) (fun r s1=>∃u,r=some u /\
   Jn (Jv P w) X.A (K7 tg (.ref it) u) (fun _ s2=>∃x H',Inv X pins σ H' s2/\RelV x u/\J.yld i H x H'/\tn (i+1) s2.heap/\∀b∈fp,H' b=none) E s1) E s
 done:∀(X:Cx),X.prog=P->X.w=w->X.K=K->X.calm=true->∀(i:Nat)(pins:List (Addr×Obj))(s:IW)(σ:St)(H:Hp)(E:IR->IW->Prop),Inv X pins σ H s->(∀b∈fp,j_ X pins H b)->tn i s.heap->J.stop i H ->
  Jn (Jv P w) X.A (Ni (.ref it)) (fun r s1=>r=none/\Inv X pins σ H s1) E s
 self:∀(A:Kh)(i:Nat)(s:IW)(Q:IR->IW->Prop)(E:IR->IW->Prop),tn i s.heap->Q (.ref it) s->Jn (Jv P w) A (Pe (.ref it)) Q E s
abbrev TI:=St->Hp->(It->Hp->Prop)->Prop
def HX(X:Cx)(pins:List (Addr×Obj))(σ:St)(tg:Expr)(R:It->Hp->Prop)(itv:IR)(s2:IW):Prop :=
 ∃(it:Addr)(fp:List Addr)(tn:Nat->Heap->Prop)(J:It)(H':Hp),itv = .ref it/\Inv X pins σ H' s2/\Turn X.prog X.w X.K tg J fp it tn/\tn 0 s2.heap/\(∀b∈fp,j_ X pins H' b)/\R J H'
def PI(X:Cx)(tg iter:Expr)(wi:TI):Prop :=
 ∀ (pins:List (Addr×Obj))(s:IW)(σ:St)(H:Hp)(R:It->Hp->Prop),Inv X pins σ H s->wi σ H R ->
   Jn (Jv X.prog X.w) X.A (eval iter X.env) (fun v s1=>Jn (Jv X.prog X.w) X.A (Pe v) (HX X pins σ tg R) X.xe s1) X.xe s
theorem nH{M:Model}{o:Obj}{n:String}{vs:Array IR}{Q:Unit->IW->Prop}(ho:s.heap.get? it=some o)(hc:o.cls = .type n)(hd:o.data = .fields vs)
 (hn:["enumerate", "zip", "dict_itemiterator", "dict_reverseitemiterator", "odict_iterator", "itertools.zip_longest", "itertools.pairwise"].contains n=false)(hQ:Q () s):Jn M A (K7 tg (.ref it) u) Q E s:=by
 unfold K7
 cases tg<;>first
  | exact IU hQ
  | (cases u<;>first
      | exact IU hQ
      | (refine IK (wpAny_load ho ?_)
         rw[hc,hd];show Jn M A (if(["enumerate", "zip", "dict_itemiterator", "dict_reverseitemiterator", "odict_iterator", "itertools.zip_longest", "itertools.pairwise"].contains n&&vs[0]?==some (ML _))=true then _ else _) Q E s;rw[if_neg (by intro h;rw[hn,Bool.false_and]at h;cases h)]
         exact IU hQ))
def Io(K:W.Frag)(a:Addr):It :=
 ⟨fun i H=>∃xs x,HH K H a xs/\xs[i]?=some x,fun i H x H'=>H'=H/\∀xs,HH K H a xs->xs[i]?=some x,fun i H=>∃xs,HH K H a xs/\xs.length<=i⟩
def Il(K:W.Frag)(a:Addr):It :=
 ⟨fun i H=>∃xs x,HG K H a xs/\xs[i]?=some x,fun i H x H'=>H'=H/\∀xs,HG K H a xs->xs[i]?=some x,fun i H=>∃xs,HG K H a xs/\xs.length<=i⟩
def Im(lo:Int)(n:Nat):It:=⟨fun i _=>i<n,fun i H x H'=>H'=H/\x = .int (lo+i),fun i _=>n<=i⟩
theorem oO{K:W.Frag}(a it:Addr):Turn P w K tg (Io K a) [it] it (fun i h=>h.IsListIter it a i) where
 mem:=by simp
 obj:=fun i h st b hb=>by
  have e:b=it:=by simpa using hb
  subst e;obtain⟨o,e,c,d⟩:=st;exact⟨o,e,fun v z=>by rw[d]at z;cases z⟩
 keep:=fun i h h' st k=>st.at fun o e=>k it (by simp) o e
 item:=by
  intro X hP hw hK hc i pins s σ H E I hf st hg;subst hP hw hK;obtain⟨xs,x,hq,hx⟩:=hg;obtain⟨its,rv,p,hz⟩:=I.list hq;obtain⟨u,hu,ru⟩:=rv.get hx;obtain⟨f0,f1,f2,f3,f4,f5⟩:=hf it (by simp);refine wpAny_pyNext_list_item st p.isList (x:=u) (by simpa using hu) fun h' st' sb=>?_;have I1:Inv X pins σ H {s with heap:=h' }:=I.turned (t':=s.toks) (fun b o hb e=>(sb.2 b hb).trans e) f0 f1 f3 f4 f5;obtain⟨o,e,c,d⟩:=id st';exact⟨u,rfl,nH (s:={s with heap:=h' }) e c d (by decide) ⟨x,H,I1,ru,⟨rfl,fun ys hy=>by rw[I.list_inj hy hq];exact hx⟩,st',fun b hb=>(hf b hb).1⟩⟩
 done:=by
  intro X hP hw hK hc i pins s σ H E I hf st hg;subst hP hw hK;obtain⟨xs,hq,hx⟩:=hg;obtain⟨its,rv,p,hz⟩:=I.list hq;obtain⟨f0,f1,f2,f3,f4,f5⟩:=hf it (by simp);have hl:=rv.length;exact wpAny_pyNext_list_end (I.ok.hd hc) st p.isList (by simp;omega) fun h' eb=>⟨rfl,I.turned (t':=s.toks) (fun b o hb e=>eb b o hb e) f0 f1 f3 f4 f5⟩
 self:=fun _ _ _ _ _ st h=>wpAny_pyIter_listiter st h
theorem mV{K:W.Frag}(a it:Addr):Turn P w K tg (Il K a) [it] it (fun i h=>h.IsTupleIter it a i) where
 mem:=by simp
 obj:=fun i h st b hb=>by
  have e:b=it:=by simpa using hb
  subst e;obtain⟨o,e,c,d⟩:=st;exact⟨o,e,fun v z=>by rw[d]at z;cases z⟩
 keep:=fun i h h' st k=>st.at fun o e=>k it (by simp) o e
 item:=by
  intro X hP hw hK hc i pins s σ H E I hf st hg;subst hP hw hK;obtain⟨xs,x,hq,hx⟩:=hg;obtain⟨its,rv,p,hz⟩:=I.tuple hq;obtain⟨u,hu,ru⟩:=rv.get hx;obtain⟨f0,f1,f2,f3,f4,f5⟩:=hf it (by simp);refine wpAny_pyNext_tuple_item st (show s.heap.IsTuple a its.toArray from p) (x:=u) (by simpa using hu) fun h' st' sb=>?_;have I1:Inv X pins σ H {s with heap:=h' }:=I.turned (t':=s.toks) (fun b o hb e=>(sb.2 b hb).trans e) f0 f1 f3 f4 f5;obtain⟨o,e,c,d⟩:=id st';exact⟨u,rfl,nH (s:={s with heap:=h' }) e c d (by decide) ⟨x,H,I1,ru,⟨rfl,fun ys hy=>by rw[I.tuple_inj hy hq];exact hx⟩,st',fun b hb=>(hf b hb).1⟩⟩
 done:=by
  intro X hP hw hK hc i pins s σ H E I hf st hg;subst hP hw hK;obtain⟨xs,hq,hx⟩:=hg;obtain⟨its,rv,p,hz⟩:=I.tuple hq;obtain⟨f0,f1,f2,f3,f4,f5⟩:=hf it (by simp);have hl:=rv.length;exact wpAny_pyNext_tuple_end (I.ok.hd hc) st (show s.heap.IsTuple a its.toArray from p) (by simp;omega) fun h' eb=>⟨rfl,I.turned (t':=s.toks) (fun b o hb e=>eb b o hb e) f0 f1 f3 f4 f5⟩
 self:=fun _ _ _ _ _ st h=>wpAny_pyIter_tupleiter st h
theorem mW{K:W.Frag}(it:Addr)(lo:Int)(n:Nat):Turn P w K tg (Im lo n) [it] it (fun i h=>OO h it (lo+(i:Nat)*1) ((n:Int)-(i:Nat)) 1) where
 mem:=by simp
 obj:=fun i h st b hb=>by
  have e:b=it:=by simpa using hb
  subst e
  exact⟨_,st,fun v z=>by
   have z':Data.fields _=Data.cell v:=z
   cases z'⟩
 keep:=fun i h h' st k=>k it (by simp) _ st
 item:=by
  intro X hP hw hK hc i pins s σ H E I hf st hg;subst hP hw hK;obtain⟨f0,f1,f2,f3,f4,f5⟩:=hf it (by simp);have W:=Walks.range (prog:=X.prog) (w:=X.w) (I.ok.hd hc) it lo 1 n;refine W.item i s _ _ hg st fun v h' tk hv st' kk=>?_;obtain⟨t,rfl⟩:=hv;have I1:Inv X pins σ H {s with heap:=h',toks:=tk}:=I.turned (fun b o hb e=>kk b o (by simpa using hb) e) f0 f1 f3 f4 f5;refine⟨_,rfl,nH (s:={s with heap:=h',toks:=tk}) (n := "range_iterator") st' rfl rfl (by decide) ⟨.int (lo+i),H,I1,⟨t,?_⟩,⟨rfl,rfl⟩,st',fun b hb=>(hf b hb).1⟩⟩;rw[Nj]
 done:=by
  intro X hP hw hK hc i pins s σ H E I hf st hg;subst hP hw hK;obtain⟨f0,f1,f2,f3,f4,f5⟩:=hf it (by simp);exact Oa (I.ok.hd hc) st (by have:n<=i:=hg;omega) fun h' eb=>⟨rfl,I.turned (t':=s.toks) (fun b o hb e=>eb b o hb e) f0 f1 f3 f4 f5⟩
 self:=fun _ _ _ _ _ st h=>Ob st h
section
variable{X:Cx}{tg:Expr}
def Ch(K:W.Frag)(tl:TE):TI:=fun σ H R=>tl σ H fun x H1=>∃a,x = .ref a/\(∃xs,HH K H1 a xs)/\R (Io K a) H1
def EO(K:W.Frag)(tl:TE):TI:=fun σ H R=>tl σ H fun x H1=>∃a,x = .ref a/\(∃xs,HG K H1 a xs)/\R (Il K a) H1
theorem wL{l:Expr}{tl:TE}(hl:PE X l tl):PI X tg l (Ch X.K tl):=by
 intro pins s σ H R I h;refine FX (hl pins s σ H _ I h) fun v s1 ⟨x,H1,I1,r1,q1⟩=>?_;obtain⟨a,e,⟨xs,hq⟩,q⟩:=q1;subst e;cases r1;obtain⟨its,rv,p,hz⟩:=I1.list hq;refine MP p.isList ?_;refine⟨s1.heap.objs.size,[s1.heap.objs.size],_,_,H1,rfl,I1.kept (t':=s1.toks) fun b o e=>IQ _ e,oO a _,⟨_,Jf _ rfl,rfl,rfl⟩,fun b hb=>?_,q⟩;have e:b=s1.heap.objs.size:=by simpa using hb
 subst e;exact I1.fpOk (I_ _) (I1.hok.fresh (I_ _))
theorem zE{l:Expr}{tl:TE}(hl:PE X l tl):PI X tg l (EO X.K tl):=by
 intro pins s σ H R I h;refine FX (hl pins s σ H _ I h) fun v s1 ⟨x,H1,I1,r1,q1⟩=>?_;obtain⟨a,e,⟨xs,hq⟩,q⟩:=q1;subst e;cases r1;obtain⟨its,rv,p,hz⟩:=I1.tuple hq;refine wpAny_pyIter_tuple (show s1.heap.IsTuple a its.toArray from p) ?_;refine⟨s1.heap.objs.size,[s1.heap.objs.size],_,_,H1,rfl,I1.kept (t':=s1.toks) fun b o e=>IQ _ e,mV a _,⟨_,Jf _ rfl,rfl,rfl⟩,fun b hb=>?_,q⟩;have e:b=s1.heap.objs.size:=by simpa using hb
 subst e;exact I1.fpOk (I_ _) (I1.hok.fresh (I_ _))
theorem lQ{σ:St}{H:Hp}{R:It->Hp->Prop}{lo hi:Int}{t u v:Tok}{tk:Nat}(I:Inv X pins σ H s)(h1 : -(2^62)<=lo)(h2:lo<2^62)(h3 : -(2^62)<=hi)(h4:hi<2^62)
 (q:R (Im lo (hi-lo).toNat) H):Jn (Jv X.prog X.w) X.A (Pe (.ref s.heap.objs.size)) (HX X pins σ tg R) E {s with heap:=s.heap.push {cls:=.type "range", data:=.fields #[.int lo t,.int hi u,.int 1 v]},toks:=tk}:=by
 refine wpAny_pyIter_range (IsRange.new ..) (small_one h1 h2 h3 h4) ?_;have I1:Inv X pins σ H {s with heap:=s.heap.push {cls:=.type "range", data:=.fields #[.int lo t,.int hi u,.int 1 v]},toks:=tk}:=I.kept fun b o e=>IQ _ e
 refine⟨(s.heap.push {cls:=.type "range", data:=.fields #[.int lo t,.int hi u,.int 1 v]}).objs.size,[(s.heap.push {cls:=.type "range", data:=.fields #[.int lo t,.int hi u,.int 1 v]}).objs.size],_,_,H,rfl,
  I1.kept (t':=tk) fun b o e=>IQ _ e,mW _ lo (hi-lo).toNat,?_,fun b hb=>?_,q⟩
 · have e1:lo+((0:Nat):Int)*1=lo:=by simp
   have e2:(((hi-lo).toNat:Nat):Int)-((0:Nat):Int)=LV lo hi 1:=by rw[rangeSize_one];split<;>omega
   show OO _ _ (lo+((0:Nat):Int)*1) ((((hi-lo).toNat:Nat):Int)-((0:Nat):Int)) 1;rw[e1,e2];exact Jf _ rfl
 · have e:b=(s.heap.push {cls:=.type "range", data:=.fields #[.int lo t,.int hi u,.int 1 v]}).objs.size:=by simpa using hb
   subst e;exact I1.fpOk (I_ _) (I1.hok.fresh (I_ _))
def Ce(ta:TA):TI:=fun σ H R=>ta σ H fun vs H1=>∃j:Int,vs=[.int j] /\ -(2^62)<=j/\j<2^62/\R (Im 0 j.toNat) H1
def Cd(ta:TA):TI:=fun σ H R=>ta σ H fun vs H1=>∃i j:Int,vs=[.int i,.int j]/\(-(2^62)<=i/\i<2^62 /\ -(2^62)<=j/\j<2^62)/\R (Im i (j-i).toNat) H1
theorem pR{a:Expr}{ta:TA}{p:Pos}(hg:Gl X "range")(hm:X.mg "range" = none)(ha:PA X [a] ta)(hs:IZ [a] X.env=[(false,eval a X.env)]:=by rfl):PI X tg (.Call (.Name "range" p) [a] [] pos) (Ce ta):=by
 intro pins s σ H R I h;refine Call_ (fD I hg hm boot_range (Ke (FX (ha pos pins s σ H _ I h) fun us s1 ⟨vs,H1,I1,r1,q1⟩=>?_) hs rfl));obtain⟨j,e,q1,q2,q⟩:=q1;subst e
 cases r1 with
 | cons r rr =>
   cases rr;obtain⟨t,rfl⟩:=r;exact call_range_1 (lQ I1 (by omega) (by omega) q1 q2 (by simpa using q))
theorem pQ{a b:Expr}{ta:TA}{p:Pos}(hg:Gl X "range")(hm:X.mg "range" = none)(ha:PA X [a,b] ta)(hs:IZ [a,b] X.env=[(false,eval a X.env),(false,eval b X.env)]:=by rfl)(hs2:IZ [b] X.env=[(false,eval b X.env)]:=by rfl) :
 PI X tg (.Call (.Name "range" p) [a,b] [] pos) (Cd ta):=by
 intro pins s σ H R I h;refine Call_ (fD I hg hm boot_range (Ke (FX (ha pos pins s σ H _ I h) fun us s1 ⟨vs,H1,I1,r1,q1⟩=>?_) (by rw[hs,hs2]) (by rw[hs2];rfl)));obtain⟨i,j,e,⟨q1,q2,q3,q4⟩,q⟩:=q1;subst e
 cases r1 with
 | cons r rr =>
   cases rr with
   | cons r' rr =>
     cases rr;obtain⟨t,rfl⟩:=r;obtain⟨t',rfl⟩:=r';exact call_range_2 (lQ I1 q1 q2 q3 q4 q)
def Ez(wi:TI)(g:TG)(tb:TS):TS:=fun D σ H=>wi σ H fun J H1=>∃W:Nat->Nat->St->Hp->Prop,(∃m,W 0 m σ H1)/\∀i m σ H,W i m σ H ->
 (J.stop i H/\D.nx σ H)\/(J.go i H/\∃N:St->Hp->Prop,(∀σ' H',N σ' H'->∃m',m'<m/\W (i+1) m' σ' H')/\∀x H',J.yld i H x H'->g x σ H' fun σ2 H2=>tb {D with nx:=N,ct:=N,bk:=D.nx} σ2 H2)
noncomputable def fB(fp:List Addr)(h:Heap):List (Addr×Obj):=fp.filterMap fun b=>(h.get? b).map fun o=>(b,o)
theorem bD{b:Addr}{o:Obj}(hb:b∈fp)(e:h.get? b=some o):(b,o)∈fB fp h:=List.mem_filterMap.mpr ⟨b,hb,by rw[e];rfl⟩
theorem qi{p:Addr×Obj}(hp:p∈fB fp h):p.1∈fp/\h.get? p.1=some p.2:=by
 obtain⟨b,hb,e⟩:=List.mem_filterMap.mp hp
 cases q:h.get? b with
 | none=>rw[q]at e;cases e
 | some o =>
   rw[q]at e;have e':(b,o)=p:=JN e;subst e';exact⟨hb,q⟩
theorem Inv.pinned{σ:St}{H:Hp}(I:Inv X pins σ H s)(hf:∀b∈fp,j_ X pins H b)(ho:∀b∈fp,∃o,s.heap.get? b=some o/\∀v,o.data ≠ .cell v):Inv X (pins++fB fp s.heap) σ H s :=
 I.pins_of fun p hp=>(JU.mp hp).elim (fun z=>I.pin p (Jm _ z)) fun z=>by
  obtain⟨hb,e⟩:=qi z;obtain⟨f0,f1,f2,_⟩:=hf p.1 hb;obtain⟨o,e',d⟩:=ho p.1 hb;rw[e]at e';cases e';exact⟨e,f0,f1,f2,d⟩
theorem Inv.unpinned{pl:List (Addr×Obj)}{σ:St}{H:Hp}(I:Inv X (pins++pl) σ H s):Inv X pins σ H s:=I.pins_of fun p hp=>I.pin p (Jm _ (M8 _ hp))
theorem uI{body:List Stmt}{wi:TI}{g:TG}{tb:TS}(hp:O1 (Jv X.prog X.w) X.A X.env X.xe)(hc:X.calm=true)(hi:PI X tg iter wi)(hg:PG X tg g)(hb:HR X body tb)
 (hs:∀x,JE iter X.env x=pure x:=by intro _;rfl):PS X (.For tg iter body [] pos) (Ez wi g tb):=by
 intro pins s σ H D I h;refine wpAny_For (FX (hi pins s σ H _ I h) fun v s1 h1=>FX h1 fun itv s2 h2=>?_) hs;obtain⟨it,fp,tn,J,H2,e,I2,T,st2,f2,W,⟨m0,w0⟩,turn⟩:=h2;subst e;have stat:∀{H':Hp},(∀b∈fp,H' b=none)->∀b∈fp,j_ X pins H' b:=fun hn b hb=>⟨hn b hb,(f2 b hb).2⟩;refine codeAny_forLoop_any (fun n s'=>∃i σ' H',Inv X pins σ' H' s'/\tn i s'.heap/\(∀b∈fp,H' b=none)/\W i n σ' H') ?_ m0 ⟨0,σ,H2,I2,st2,fun b hb=>(f2 b hb).1,w0⟩;rintro n s3 ⟨i,σ3,H3,I3,st3,fr3,w3⟩;rcases turn i n σ3 H3 w3 with⟨stop,qn⟩|⟨go,N,hN,step⟩
 · refine LI hp (FX (T.done X rfl rfl rfl hc i pins s3 σ3 H3 X.xe I3 (stat fr3) st3 stop) fun r s4 ⟨hr,I4⟩=>?_);subst hr;exact Nh ⟨σ3,H3,I4,qn⟩
 · refine LI hp (FX (T.item X rfl rfl rfl hc i pins s3 σ3 H3 X.xe I3 (stat fr3) st3 go) fun r s4 ⟨u,hr,h4⟩=>?_);subst hr;refine LI hp (FX h4 fun _ s5 ⟨x,H5,I5,r5,y5,st5,fr5⟩=>?_);have I5':=I5.pinned (stat fr5) (T.obj _ _ st5);refine LI hp (FX (hg _ s5 σ3 H5 x u _ I5' r5 (step x H5 y5)) fun _ s6 ⟨σ6,H6,I6,q6⟩=>?_);refine LI hp (FX (hb _ s6 σ6 H6 _ I6 q6) fun f s7 q7=>?_)
   have again:∀{σ7:St}{H7:Hp},Inv X (pins++fB fp s5.heap) σ7 H7 s7->N σ7 H7->∃m,m<n/\∃i σ' H',Inv X pins σ' H' s7/\tn i s7.heap/\(∀b∈fp,H' b=none)/\W i m σ' H':=fun{σ7 H7} I7 n7=>by
    obtain⟨m',hm,w7⟩:=hN σ7 H7 n7;refine⟨m',hm,i+1,σ7,H7,I7.unpinned,T.keep _ _ _ st5 fun b hb o e=>(I7.pin (b,o) (Jm _ (Jm _ (bD hb e)))).1,fun b hb=>?_,w7⟩;obtain⟨o,e,d⟩:=T.obj _ _ st5 b hb;exact(I7.pin (b,o) (Jm _ (Jm _ (bD hb e)))).2.1
   cases f with
   | next=>obtain⟨σ7,H7,I7,n7⟩:=q7;exact again I7 n7
   | cont=>obtain⟨σ7,H7,I7,n7⟩:=q7;exact again I7 n7
   | brk=>obtain⟨σ7,H7,I7,q7⟩:=q7;exact⟨σ7,H7,I7.unpinned,q7⟩
   | ret v=>obtain⟨x7,σ7,H7,I7,r7,q7⟩:=q7;exact⟨x7,σ7,H7,I7.unpinned,r7,q7⟩
end
abbrev R2:=V->V->Hp->VK->Prop
def H_(X:Cx)(f:IR->IR->Sem IR)(r:R2):Prop :=
 ∀ (pins:List (Addr×Obj))(s:IW)(σ:St)(H:Hp)(x y:V)(v u:IR)(Q:VK),Inv X pins σ H s->RelV x v->RelV y u->r x y H Q ->
   Jn (Jv X.prog X.w) X.A (f v u) (EP X pins σ Q) X.xe s
def Hy(X:Cx)(f:IR->Sem IR)(r:V->Hp->VK->Prop):Prop :=
 ∀ (pins:List (Addr×Obj))(s:IW)(σ:St)(H:Hp)(x:V)(v:IR)(Q:VK),Inv X pins σ H s->RelV x v->r x H Q ->
   Jn (Jv X.prog X.w) X.A (f v) (EP X pins σ Q) X.xe s
def d9(X:Cx)(f:IR)(r:List V->Hp->VK->Prop):Prop :=
 ∀ (pins:List (Addr×Obj))(s:IW)(σ:St)(H:Hp)(xs:List V)(us:List IR)(Q:VK),Inv X pins σ H s->cn xs us->r xs H Q ->
   Jn (Jv X.prog X.w) X.A (call f us) (EP X pins σ Q) X.xe s
def Gb(r:R2)(ta tb:TE):TE:=fun σ H Q=>ta σ H fun x H1=>tb σ H1 fun y H2=>r x y H2 Q
def F0(r:V->Hp->VK->Prop)(ta:TE):TE:=fun σ H Q=>ta σ H fun x H1=>r x H1 Q
def rI(C:Int->Int->Prop)(g:Int->Int->V):R2:=fun x y H Q=>∃i j,x = .int i/\y = .int j/\C i j/\Q (g i j) H
def GB(g:Int->Int->V):R2:=fun x y H Q=>∃i j,x = .int i/\y = .int j/\Q (g i j) H
def rU(g:Int->V):V->Hp->VK->Prop:=fun x H Q=>∃i,x = .int i/\Q (g i) H
section
variable{X:Cx}{a b c:Expr}{ta tb tc:TE}{pos:Pos}
theorem CD(ha:PE X a ta)(hb:PE X b tb){σ:St}{H:Hp}{R:V->V->Hp->Prop}(I:Inv X pins σ H s)
 (h:ta σ H fun x H1=>tb σ H1 fun y H2=>R x y H2){f:IR->IR->Sem IR}
 (hf:∀v u s2 x y H2,Inv X pins σ H2 s2->RelV x v->RelV y u->R x y H2->Jn (Jv X.prog X.w) X.A (f v u) Q X.xe s2) :
 Jn (Jv X.prog X.w) X.A (eval a X.env) (fun v s₁=>Jn (Jv X.prog X.w) X.A (eval b X.env) (fun u s₂=>Jn (Jv X.prog X.w) X.A (f v u) Q X.xe s₂) X.xe s₁) X.xe s:=by
 refine FX (ha pins s σ H _ I h) fun v s1 ⟨x,H1,I1,r1,q1⟩=>?_;refine FX (hb pins s1 σ H1 _ I1 q1) fun u s2 ⟨y,H2,I2,r2,q2⟩=>?_;exact hf v u s2 x y H2 I2 r1 r2 q2
theorem zH{op:O0}{r:R2}(ho:H_ X (LD op) r)(ha:PE X a ta)(hb:PE X b tb):PE X (.BinOp a op b pos) (Gb r ta tb):=by
 intro pins s σ H Q I h;exact wpAny_BinOp (CD ha hb I h fun v u s2 x y H2 I2 rx ry q=>ho pins s2 σ H2 x y v u Q I2 rx ry q)
theorem zF{op:UnaryOp}{r:V->Hp->VK->Prop}(ho:Hy X (unaryOp op) r)(ha:PE X a ta):PE X (.UnaryOp op a pos) (F0 r ta):=by
 intro pins s σ H Q I h;exact UnaryOp_ (FX (ha pins s σ H _ I h) fun v s1 ⟨x,H1,I1,r1,q1⟩=>ho pins s1 σ H1 x v Q I1 r1 q1)
theorem GK{f:IR->IR->Sem IR}{C:Int->Int->Prop}{g:Int->Int->Int}
 (rule:∀(i j:Int)(t u:Tok)(s:IW)(Q:IR->IW->Prop)(E:IR->IW->Prop),C i j->Q (.int (g i j) s.toks) {s with toks:=s.toks+1}->Jn (Jv X.prog X.w) X.A (f (.int i t) (.int j u)) Q E s) :
 H_ X f (rI C fun i j=>.int (g i j)):=by
 intro pins s σ H x y v u Q I rx ry h;obtain⟨i,j,rfl,rfl,hc,q⟩:=h;obtain⟨t,rfl⟩:=rx;obtain⟨t',rfl⟩:=ry;exact rule i j t t' s _ _ hc ⟨.int (g i j),H,I.tok _,⟨_,rfl⟩,q⟩
theorem D3{f:IR->IR->Sem IR}{g:Int->Int->Int}
 (rule:∀(i j:Int)(t u:Tok)(s:IW)(Q:IR->IW->Prop)(E:IR->IW->Prop),Q (.int (g i j) s.toks) {s with toks:=s.toks+1}->Jn (Jv X.prog X.w) X.A (f (.int i t) (.int j u)) Q E s) :
 H_ X f (GB fun i j=>.int (g i j)):=by
 intro pins s σ H x y v u Q I rx ry h;obtain⟨i,j,rfl,rfl,q⟩:=h;obtain⟨t,rfl⟩:=rx;obtain⟨t',rfl⟩:=ry;exact rule i j t t' s _ _ ⟨.int (g i j),H,I.tok _,⟨_,rfl⟩,q⟩
theorem D4{f:IR->IR->Sem IR}{g:Int->Int->Bool}
 (rule:∀(i j:Int)(t u:Tok)(s:IW)(Q:IR->IW->Prop)(E:IR->IW->Prop),Q (.bool (g i j)) s->Jn (Jv X.prog X.w) X.A (f (.int i t) (.int j u)) Q E s) :
 H_ X f (GB fun i j=>.bl (g i j)):=by
 intro pins s σ H x y v u Q I rx ry h;obtain⟨i,j,rfl,rfl,q⟩:=h;obtain⟨t,rfl⟩:=rx;obtain⟨t',rfl⟩:=ry;exact rule i j t t' s _ _ ⟨.bl (g i j),H,I,rfl,q⟩
def Ef(i j:Int):Prop:=0<j/\j<1073741824
def Ee(i j:Int):Prop:=0<=j/\j<=1000000/\i.natAbs<2^64
theorem uR:H_ X (LD .Add) (GB fun i j=>.int (i+j)):=D3 fun _ _ _ _ _ _ _ q=>add_int q
theorem zS:H_ X (LD .Sub) (GB fun i j=>.int (i-j)):=D3 fun _ _ _ _ _ _ _ q=>sub_int q
theorem wT:H_ X (LD .Mod) (rI (fun _ j=>j≠0) fun i j=>.int (i.fmod j)):=GK fun _ _ _ _ _ _ _ hc q=>mod_int' hc q
theorem zU:H_ X (LD .Pow) (rI Ee fun i j=>.int (i^j.toNat)):=GK fun _ _ _ _ _ _ _ hc q=>pow_int_small hc.1 hc.2.1 hc.2.2 q
theorem FR{f:IR->Sem IR}{g:Int->Int}
 (rule:∀(i:Int)(t:Tok)(s:IW)(Q:IR->IW->Prop)(E:IR->IW->Prop),Q (.int (g i) s.toks) {s with toks:=s.toks+1}->Jn (Jv X.prog X.w) X.A (f (.int i t)) Q E s) :
 Hy X f (rU fun i=>.int (g i)):=by
 intro pins s σ H x v Q I rx h;obtain⟨i,rfl,q⟩:=h;obtain⟨t,rfl⟩:=rx;exact rule i t s _ _ ⟨.int (g i),H,I.tok _,⟨_,rfl⟩,q⟩
theorem uA:Hy X (unaryOp .USub) (rU fun i=>.int (-i)):=FR fun _ _ _ _ _ q=>neg_int q
end
noncomputable def DU:V->V->Bool
 | .non,.non=>true | .non,.int _=>true | .int _,.non=>true | .non,.bl _=>true | .bl _,.non=>true | .non,.str _=>true | .str _,.non=>true
 | .int _,.int _=>true | .bl _,.bl _=>true | .str _,.str _=>true | .byt _,.byt _=>true
 | .int _,.str _=>true | .str _,.int _=>true | .bl _,.str _=>true | .str _,.bl _=>true
 | _,_=>false
def GC:R2:=fun x y H Q=>DU x y=true/\Q (.bl (decide (x=y))) H
def Gy:R2:=fun x y H Q=>DU x y=true/\Q (.bl (!decide (x=y))) H
theorem qL{i j:Int}:decide (V.int i=V.int j)=(i==j):=by
 rw[Ll];simp
theorem uZ{i j:Bool}:decide (V.bl i=V.bl j)=(i==j):=by
 rw[Ll];simp
theorem qK{i j:Str}:decide (V.str i=V.str j)=(i==j):=by
 rw[Ll];simp
theorem qM{i j:Array UInt8}:decide (V.byt i=V.byt j)=(i.toList==j.toList):=by
 rw[Ll];cases i;cases j;simp
section
variable{X:Cx}{a b c:Expr}{ta tb tc:TE}{pos:Pos}
theorem a_{σ:St}{H:Hp}{Q:VK}{k k':Bool}(I:Inv X pins σ H s)(q:Q (.bl k) H)(e:k=k'):EP X pins σ Q (.bool k') s:=by
 subst e;exact⟨.bl k,H,I,rfl,q⟩
theorem nq:H_ X (Lk .Eq) GC:=by
 intro pins s σ H x y v u Q I rx ry h;obtain⟨hs,q⟩:=h
 cases x with
 | non =>
   cases rx
   cases y with
   | non=>cases ry;exact PySem.EqNone.eq_none_none (a_ I q (by simp))
   | bl j=>cases ry;exact PySem.EqNone.eq_none_bool (a_ I q (by simp))
   | int j=>obtain⟨t',rfl⟩:=ry;exact PySem.EqNone.eq_none_int (a_ I q (by simp))
   | str j=>obtain⟨t',rfl⟩:=ry;exact PySem.EqNone.eq_none_str (a_ I q (by simp))
   | _=>exact absurd (show false=true from hs) JB
 | bl i =>
   cases rx
   cases y with
   | non=>cases ry;exact PySem.EqNone.eq_bool_none (a_ I q (by simp))
   | bl j=>cases ry;exact eq_bool (a_ I q uZ)
   | str j=>obtain⟨t',rfl⟩:=ry;exact PySem.EqMixed.eq_bool_str (a_ I q (by simp))
   | _=>exact absurd (show false=true from hs) JB
 | int i =>
   obtain⟨t,rfl⟩:=rx
   cases y with
   | non=>cases ry;exact PySem.EqNone.eq_int_none (a_ I q (by simp))
   | int j=>obtain⟨t',rfl⟩:=ry;exact eq_int (a_ I q qL)
   | str j=>obtain⟨t',rfl⟩:=ry;exact PySem.EqMixed.eq_int_str (a_ I q (by simp))
   | _=>exact absurd (show false=true from hs) JB
 | str i =>
   obtain⟨t,rfl⟩:=rx
   cases y with
   | non=>cases ry;exact PySem.EqNone.eq_str_none (a_ I q (by simp))
   | bl j=>cases ry;exact PySem.EqMixed.eq_str_bool (a_ I q (by simp))
   | int j=>obtain⟨t',rfl⟩:=ry;exact PySem.EqMixed.eq_str_int (a_ I q (by simp))
   | str j=>obtain⟨t',rfl⟩:=ry;exact eq_str (a_ I q qK)
   | _=>exact absurd (show false=true from hs) JB
 | byt i =>
   obtain⟨t,rfl⟩:=rx
   cases y with
   | byt j=>obtain⟨t',rfl⟩:=ry;exact W.eq_bytes (a_ I q qM)
   | _=>exact absurd (show false=true from hs) JB
 | _=>cases y<;>exact absurd (show false=true from hs) JB
theorem BZ:H_ X (Lk .NotEq) Gy:=by
 intro pins s σ H x y v u Q I rx ry h;obtain⟨hs,q⟩:=h
 cases x with
 | non =>
   cases rx
   cases y with
   | non=>cases ry;exact PySem.EqNone.ne_none_none (a_ I q (by simp))
   | bl j=>cases ry;exact PySem.EqNone.ne_none_bool (a_ I q (by simp))
   | int j=>obtain⟨t',rfl⟩:=ry;exact PySem.EqNone.ne_none_int (a_ I q (by simp))
   | str j=>obtain⟨t',rfl⟩:=ry;exact PySem.EqNone.ne_none_str (a_ I q (by simp))
   | _=>exact absurd (show false=true from hs) JB
 | bl i =>
   cases rx
   cases y with
   | non=>cases ry;exact PySem.EqNone.ne_bool_none (a_ I q (by simp))
   | bl j=>cases ry;exact ne_bool (a_ I q (congrArg not uZ))
   | str j=>obtain⟨t',rfl⟩:=ry;exact PySem.EqMixed.ne_bool_str (a_ I q (by simp))
   | _=>exact absurd (show false=true from hs) JB
 | int i =>
   obtain⟨t,rfl⟩:=rx
   cases y with
   | non=>cases ry;exact PySem.EqNone.ne_int_none (a_ I q (by simp))
   | int j=>obtain⟨t',rfl⟩:=ry;exact ne_int (a_ I q (congrArg not qL))
   | str j=>obtain⟨t',rfl⟩:=ry;exact PySem.EqMixed.ne_int_str (a_ I q (by simp))
   | _=>exact absurd (show false=true from hs) JB
 | str i =>
   obtain⟨t,rfl⟩:=rx
   cases y with
   | non=>cases ry;exact PySem.EqNone.ne_str_none (a_ I q (by simp))
   | bl j=>cases ry;exact PySem.EqMixed.ne_str_bool (a_ I q (by simp))
   | int j=>obtain⟨t',rfl⟩:=ry;exact PySem.EqMixed.ne_str_int (a_ I q (by simp))
   | str j=>obtain⟨t',rfl⟩:=ry;exact ne_str (a_ I q (congrArg not qK))
   | _=>exact absurd (show false=true from hs) JB
 | byt i =>
   obtain⟨t,rfl⟩:=rx
   cases y with
   | byt j=>obtain⟨t',rfl⟩:=ry;exact W.ne_bytes (a_ I q (congrArg not qM))
   | _=>exact absurd (show false=true from hs) JB
 | _=>cases y<;>exact absurd (show false=true from hs) JB
theorem wU:H_ X (Lk .Lt) (GB fun i j=>.bl (decide (i<j))):=D4 fun _ _ _ _ _ _ _ q=>lt_int q
theorem iQ:H_ X (Lk .Gt) (GB fun i j=>.bl (decide (j<i))):=D4 fun _ _ _ _ _ _ _ q=>gt_int q
theorem zV:H_ X (Lk .Is) (fun x y H Q=>y = .non/\Q (.bl (decide (x = .non))) H):=by
 intro pins s σ H x y v u Q I rx ry h;obtain⟨rfl,q⟩:=h;cases ry;refine is_none_gen (a_ I q ?_)
 cases x<;>first
  | (cases rx;rfl)
  | (obtain⟨t,rfl⟩:=rx;rfl)
theorem qg:H_ X (Lk .IsNot) (fun x y H Q=>y = .non/\Q (.bl (!decide (x = .non))) H):=by
 intro pins s σ H x y v u Q I rx ry h;obtain⟨rfl,q⟩:=h;cases ry;refine isnot_none_gen (a_ I q ?_)
 cases x<;>first
  | (cases rx;rfl)
  | (obtain⟨t,rfl⟩:=rx;rfl)
theorem aT(b:Expr)(h:op ≠ .In:=by decide)(h2:op ≠ .NotIn:=by decide):KM op b=false:=by
 have e1:(op==O7.In)=false:=by cases op<;>first|rfl|exact absurd rfl h
 have e2:(op==O7.NotIn)=false:=by cases op<;>first|rfl|exact absurd rfl h2
 cases b<;>simp[KM,e1,e2]
theorem pX{r:R2}(ho:H_ X (Lk op) r)(ha:PE X a ta)(hb:PE X b tb)(hm:KM op b=false):PE X (.Compare a [op] [b] pos) (Gb r ta tb):=by
 intro pins s σ H Q I h;exact wpAny_Compare1 (CD ha hb I h fun v u s2 x y H2 I2 rx ry q=>ho pins s2 σ H2 x y v u Q I2 rx ry q) hm
def BE(t:TE):TT:=fun σ H Q=>t σ H fun x H'=>∃k,x = .bl k/\Q k H'
theorem pK{r:R2}(ho:H_ X (Lk op) r)(ha:PE X a ta)(hb:PE X b tb)(hm:KM op b=false):PT X (.Compare a [op] [b] pos) (BE (Gb r ta tb)):=by
 intro pins s σ H Q I h
 refine Oi (FX (ha pins s σ H _ I h) fun v s1 ⟨x,H1,I1,r1,q1⟩=>FX (hb pins s1 σ H1 _ I1 q1) fun u s2 ⟨y,H2,I2,r2,q2⟩ =>
  FX (ho pins s2 σ H2 x y v u _ I2 r1 r2 q2) fun c s3 ⟨z,H3,I3,r3,k,e,q3⟩=>?_) hm
 subst e;cases r3;exact Lh ⟨H3,I3,q3⟩
theorem jD:(sizeLine:Nat)<2^63:=by rw[Pu];decide
theorem vals1{x:V}{us:List IR}(r:cn [x] us):∃u,us=[u]/\RelV x u:=by
 cases r with
 | cons r1 r2=>cases r2;exact⟨_,rfl,r1⟩
theorem vals2{x y:V}{us:List IR}(r:cn [x,y] us):∃u w',us=[u,w']/\RelV x u/\RelV y w':=by
 cases r with
 | cons r1 r2 =>
   cases r2 with
   | cons r3 r4=>cases r4;exact⟨_,_,rfl,r1,r3⟩
theorem uc:d9 X (.builtin "abs") (fun xs H Q=>∃i,xs=[.int i]/\Q (.int (if i<0 then -i else i)) H):=by
 intro pins s σ H xs us Q I r h;obtain⟨i,rfl,q⟩:=h;obtain⟨u,rfl,t,rfl⟩:=vals1 r;exact call_abs_int fun u tk=>⟨.int (if i<0 then -i else i),H,I.tok _,⟨_,rfl⟩,q⟩
theorem rg(hc:X.calm=true):d9 X (.builtin "max") (fun xs H Q=>∃i j,xs=[.int i,.int j]/\Q (.int (if j>i then j else i)) H):=by
 intro pins s σ H xs us Q I r h;obtain⟨i,j,rfl,q⟩:=h;obtain⟨u,w',rfl,⟨t,rfl⟩,⟨t',rfl⟩⟩:=vals2 r;refine max_two_ints (I.ok.hd hc) fun h' tk k=>⟨_,H,I.kept k,?_,q⟩;by_cases hj:j>i
 · rw[if_pos hj,if_pos hj];exact⟨_,rfl⟩
 · rw[if_neg hj,if_neg hj];exact⟨_,rfl⟩
theorem re(hc:X.calm=true):d9 X (.builtin "min") (fun xs H Q=>∃i j,xs=[.int i,.int j]/\Q (.int (if j<i then j else i)) H):=by
 intro pins s σ H xs us Q I r h;obtain⟨i,j,rfl,q⟩:=h;obtain⟨u,w',rfl,⟨t,rfl⟩,⟨t',rfl⟩⟩:=vals2 r;refine min_two_ints (I.ok.hd hc) fun h' tk k=>⟨_,H,I.kept k,?_,q⟩;by_cases hj:j<i
 · rw[if_pos hj,if_pos hj];exact⟨_,rfl⟩
 · rw[if_neg hj,if_neg hj];exact⟨_,rfl⟩
theorem jU:d9 X (.type "int") (fun xs H Q=>(∃i,xs=[.int i]/\Q (.int i) H)\/∃k,xs=[.bl k]/\Q (.int (if k then 1 else 0)) H):=by
 intro pins s σ H xs us Q I r h;rcases h with⟨i,rfl,q⟩|⟨k,rfl,q⟩
 · obtain⟨u,rfl,t,rfl⟩:=vals1 r;exact call_int_int ⟨.int i,H,I,⟨_,rfl⟩,q⟩
 · obtain⟨u,rfl,r1⟩:=vals1 r;cases r1;exact call_int_bool ⟨.int (if k then 1 else 0),H,I.tok _,⟨_,rfl⟩,q⟩
theorem lm:d9 X (.builtin "divmod") (fun xs H Q=>∃i j,xs=[.int i,.int j]/\Ef i j/\∀p,H p=none->Q (.ref p) (upd H p (.tup [.int (i / j),.int (i%j)]))):=by
 intro pins s σ H xs us Q I r h;obtain⟨i,j,rfl,⟨h1,h2⟩,q⟩:=h;obtain⟨u,w',rfl,⟨t,rfl⟩,⟨t',rfl⟩⟩:=vals2 r;refine divmod_int (by omega) ?_ (.inl (PyProof.noPylong_small (by omega)));rw[J5 i (by omega),Nv i (by omega)];have hn:H s.heap.objs.size=none:=I.hok.fresh (I_ _);refine⟨.ref s.heap.objs.size,_,?_,rfl,q _ hn⟩;refine I.laid (fun b o e=>IQ _ e) (I_ _) ⟨by simp only[JL,My];rw[Pu];decide,[.int (i / j) s.toks,.int (i%j) (s.toks+1)],.cons ⟨_,rfl⟩ (.cons ⟨_,rfl⟩ .nil),?_⟩;exact⟨_,Jf s.heap rfl,rfl,⟨0,rfl⟩,rfl⟩
end
section
variable{prog:Ju}{w:J_}{A:Kh}{E:IR->IW->Prop}{s:IW}{K:W.Frag}{x dx C f:Addr}{mA:Str->Option IR}{name:Str}{v:IR}
end
noncomputable def putF(f:Str)(v:V):List (Str×V)->List (Str×V)
 | []=>[(f,v)]
 | (g,x)::r=>if g=f then(g,v)::r else(g,x)::putF f v r
theorem yb.some_of{v:V}{o:Option IR}(r:yb (some v) o):∃u,o=some u/\RelV v u:=by
 cases o with
 | none=>exact(show False from r).elim
 | some u=>exact⟨u,rfl,r⟩
section
variable{P:Ju}{w:J_}{H H':Hp}{h h':Heap}{a C dx:Addr}{fs fs':List (Str×V)}
end
section
variable{X:Cx}{pins:List (Addr×Obj)}{σ:St}{H:Hp}{s:IW}{a C dx:Addr}{fs:List (Str×V)}{f:Str}{v:V}{A:Kh}{E:IR->IW->Prop}
end
section
variable{X:Cx}{o e value:Expr}{f:Str}{pos pos' tpos:Pos}{ta tv:TE}
end
section
variable{X:Cx}{pins:List (Addr×Obj)}{σ:St}{H:Hp}{s:IW}{A:Kh}{E:IR->IW->Prop}{Q:IR->IW->Prop}{c:IR}{b:Bool}
end
structure Room (k:Nat) (A:Kh):Prop where
 hd:A.handled=none
 dp:A.depth+3*k+5<recursionLimit
 un:A.units+16*k+200<O8
 gd:A.guards=some []
theorem Room.mono{k:Nat}(r:Room k A)(h:j<=k):Room j A:=⟨r.hd,by have:=r.dp;omega,by have:=r.un;omega,r.gd⟩
theorem Room.deeper{k:Nat}(r:Room (k+1) A)(env:Env):Room k (A.deeper env) :=
 ⟨r.hd,by have:=r.dp;show A.depth+1+3*k+5<_;omega,by have:=r.un;show A.units+3+16*k+200<_;omega,r.gd⟩
theorem Room.depth{k:Nat}(r:Room k A):A.depth<recursionLimit:=by have:=r.dp;omega
theorem Room.units{k:Nat}(r:Room k A):A.units+64<O8:=by have:=r.un;omega
def A1:TA:=fun _ H Q=>Q [] H
def oX(ta:TE)(tr:TA):TA:=fun σ H Q=>ta σ H fun x H1=>tr σ H1 fun xs H2=>Q (x::xs) H2
section
variable{X:Cx}{e:Expr}{es:List Expr}{te:TE}{t:TA}{pos:Pos}
theorem jC:PA X [] A1:=fun _ _ _ _ H Q I h=>Calls.spliced_nil ⟨[],H,I,.nil,h⟩
theorem dU(ha:PE X e te)(hr:PA X es t)(hs:IZ (e::es) X.env=(false,eval e X.env)::IZ es X.env:=by rfl):PA X (e::es) (oX te t):=by
 intro pos pins s σ H Q I h;rw[hs];show Jn _ _ (spliced ((false,eval e X.env)::KC pos (IZ es X.env))) _ _ s;refine Calls.spliced_cons (FX (ha pins s σ H _ I h) fun u s1 ⟨x,H1,I1,r1,q1⟩=>?_);exact FX (hr pos pins s1 σ H1 _ I1 q1) fun us s2 ⟨xs,H2,I2,r2,q2⟩=>⟨x::xs,H2,I2,.cons r1 r2,q2⟩
def Es(t:TA):TE:=fun σ H Q=>t σ H fun xs H1=>xs.length<=sizeLine/\∀p,H1 p=none->Q (.ref p) (upd H1 p (.tup xs))
def Ex(t:TA):TE:=fun σ H Q=>t σ H fun xs H1=>xs.length<=sizeLine/\∀p,H1 p=none->Q (.ref p) (upd H1 p (.lst xs))
theorem pU{x1}(h:PA X es t):PE X (.Tuple es x1 pos) (Es t):=by
 intro pins s σ H Q I hq;refine wpAny_Tuple_spliced (FX (h pos pins s σ H _ I hq) fun us s1 ⟨xs,H1,I1,r,z,q⟩=>⟨by rw[<- r.length];exact z,?_⟩);have hf:H1 s1.heap.objs.size=none:=I1.hok.fresh (I_ _);refine⟨.ref s1.heap.objs.size,upd H1 s1.heap.objs.size (.tup xs),I1.laid (t':=s1.toks) (fun b u e=>IQ _ e) (I_ _) ?_,rfl,q _ hf⟩;exact⟨z,us,r,rL.new _ _⟩
theorem zK(h:PA X es t):PE X (.List es pos) (Ex t):=by
 intro pins s σ H Q I hq;refine wpAny_List_spliced (FX (h pos pins s σ H _ I hq) fun us s1 ⟨xs,H1,I1,r,z,q⟩=>⟨by rw[<- r.length];exact z,?_⟩);have hf:H1 s1.heap.objs.size=none:=I1.hok.fresh (I_ _);refine⟨.ref s1.heap.objs.size,upd H1 s1.heap.objs.size (.lst xs),I1.laid (t':=s1.toks) (fun b u e=>IQ _ e) (I_ _) ?_,rfl,q _ hf⟩;exact⟨z,us,0,r,Jf _ rfl⟩
end
abbrev Sp:=List V->Hp->VK->XK->Prop
abbrev Iz:=List Env->Hp->IW->XK->IR->IW->Prop
structure Env0 (P:Ju) (w:J_) (K:W.Frag) (mg:Str->Option IR) (base:Heap) (A:Kh) (outer:List Env) (s:IW) (H:Hp):Prop where
 frames:A.frames=some outer
 mod:Mod K mg base
 bs:∀b o,base.get? b=some o->s.heap.get? b=some o/\H b=none
 bsz:base.objs.size<=s.heap.objs.size
 funs:s.heap.FunFrames base outer
 frf:∀b∈frs outer,H b=none
 hok:Iw P w H s.heap
 bare:OM s.gens
def CE(outer:List Env)(P:Ju)(w:J_)(H:Hp)(s:IW)(Q:VK)(u:IR)(s':IW):Prop :=
 ∃v H',s'.os=s.os/\OM s'.gens/\Un (frs outer) [] H H' s.heap s'.heap/\Iw P w H' s'.heap/\RelV v u/\Q v H'
def CR(CX:Iz)(outer:List Env)(P:Ju)(w:J_)(H:Hp)(s:IW)(Q:VK)(E:XK)(r:Pv)(s':IW):Prop :=
 match r with
 | .ok (.ret u)=>CE outer P w H s Q u s'
 | .ok _=>False
 | .error e=>CX outer H s E e s'
structure FnOk (P:Ju) (w:J_) (K:W.Frag) (mg:Str->Option IR) (base:Heap) (CX:Iz) (k:Nat) (f:Addr) (fd:LF) (ps:List Str) (sp:Sp):Prop where
 len:∀vs H Q E,sp vs H Q E->vs.length=ps.length
 run:∀(A:Kh)(outer:List Env)(s:IW)(H:Hp)(args:Args)(us:List IR)(vs:List V)(Q:VK)(E:XK),Room k A->Env0 P w K mg base A outer s H->Pw s fd args (ps.zip us)->cn vs us->sp vs H Q E ->
  Lo (Jv P w) A (.call (.ref f) args) (CR CX outer P w H s Q E) s
section
variable{X:Cx}{pins:List (Addr×Obj)}{σ:St}{H:Hp}{s s':IW}
theorem Inv.env0(I:Inv X pins σ H s):Env0 X.prog X.w X.K X.mg X.base X.A X.stack s H :=
 ⟨I.ok.frames,I.ok.mod,I.bs,Ks I.ok.bsz I.sz,I.stack,I.stkFree,I.hok,I.bare⟩
theorem Inv.after{Q:VK}(I:Inv X pins σ H s)(h:CE X.stack X.prog X.w H s Q u s'):EP X pins σ Q u s':=by
 obtain⟨v,H',os,bare,un,hok,r,q⟩:=h;obtain⟨hh,g,d,t,os'⟩:=s';obtain rfl:os'=s.os:=os;exact⟨v,H',I.call (h':=hh) (g':=g) (d':=d) (t':=t) (ch:=[]) un hok bare (fun b z=>absurd z (by simp)),r,q⟩
end
def yW(sp:Sp)(dvs:List V)(E:XK)(t:TA):TE:=fun σ H Q=>t σ H fun vs H1=>sp (vs++dvs) H1 Q E
def Binds(K:W.Frag)(fd:LF)(ps:List Str)(ds:List IR):Prop :=
 ∀(s:IW)(us:List IR),K.In s.heap->(us++ds).length=ps.length->Pw s fd ⟨us,[]⟩ (ps.zip (us++ds))
theorem Binds.all{K:W.Frag}{ps:List Str}(h:∀us:List IR,us.length=ps.length->bindArgs fd ⟨us,[]⟩=pure (ps.zip us)):Binds K fd ps []:=fun s us _ hl=>by
 rw[KO]at hl ⊢;exact .of_eq (h us hl)
def rJ(CX:Iz)(X:Cx)(E:XK):Prop:=∀(pins:List (Addr×Obj))(σ:St)(H:Hp)(s:IW)(e:IR)(s':IW),Inv X pins σ H s->CX X.stack H s E e s'->X.xe e s'
section
variable{X:Cx}{CX:Iz}{k:Nat}{f C:Addr}{fd:LF}{ps:List Str}{sp:Sp}{dvs:List V}{ds:List IR}{E:XK}{x m:Str}{p pos apos:Pos}{e o:Expr}{es:List Expr}{ta:TE}{t:TA}
theorem zd{σ:St}{H:Hp}{Q:VK}{us:List IR}{vs:List V}(F:FnOk X.prog X.w X.K X.mg X.base CX k f fd ps sp)(hr:Room k X.A)(hb:Binds X.K fd ps ds)(hd:cn dvs ds)(hx:rJ CX X E)
 (I:Inv X pins σ H s)(r:cn vs us)(h:sp (vs++dvs) H Q E):Jn (Jv X.prog X.w) X.A (call (.ref f) us) (EP X pins σ Q) X.xe s:=by
 have r2:cn (vs++dvs) (us++ds):=r.append hd;have hl:(us++ds).length=ps.length:=by rw[<- r2.length];exact F.len _ _ _ _ h
 refine wpAny_call (Nx (F.run X.A X.stack s H ⟨us,[]⟩ (us++ds) (vs++dvs) Q E hr I.env0 (hb s us I.kIn hl) r2 h) fun r s' hq=>?_)
 cases r with
 | error e=>exact hx pins σ H s e s' I hq
 | ok fl =>
   cases fl with
   | ret u=>exact I.after hq
   | next=>exact J7 hq
   | brk=>exact J7 hq
   | cont=>exact J7 hq
theorem gj(F:FnOk X.prog X.w X.K X.mg X.base CX k f fd ps sp)(hr:Room k X.A)(hg:Gl X x)(hm:X.mg x=some (.ref f))(hk:W.keepIn X.K (.ref f)=true)(hb:Binds X.K fd ps ds)(hd:cn dvs ds)(hx:rJ CX X E)
 (ha:PA X (e::es) t)(hdb:(x==("__debug__" : Str))=false:=by decide)(he:IZ (e::es) X.env=(false,eval e X.env)::IZ es X.env:=by rfl)(hpl:(KC pos (IZ es X.env)).any (·.1)=false:=by rfl) :
 PE X (.Call (.Name x p) (e::es) [] pos) (yW sp dvs E t):=by
 intro pins s σ H Q I h;refine Ny (qw I hg hm ?_ hdb);refine W.callWith_K (h₀:=X.base) I.ok.mod.kin hk (FX (ha pos pins s σ H _ I h) fun us s1 ⟨vs,H1,I1,r,q⟩=>⟨I1.kIn,?_⟩) he hpl;exact zd F hr hb hd hx I1 r q
end
section
variable{X:Cx}{CX:Iz}{k:Nat}{f C:Addr}{fd:LF}{ps ks:List Str}{sp:Sp}{E:XK}{x m:Str}{p pos apos kpos:Pos}{e o:Expr}{es:List Expr}{kws:List NK}{te ta:TE}{t tk:TA}{nm:Option Str}
variable{g:List IR->List IR->List IR}{gV:List V->List V->List V}
end
structure FnScope (N P:List Str) (sc:Scope):Prop where
 kind:sc.kind = .function
 co:sc.isCoroutine=false
 gen:sc.isGenerator=false
 nd:N.Nodup
 pre:N.take P.length=P
 par:∀x∈P,sc.names.lookup x=some .local\/sc.names.lookup x=some .cell
 nofree:∀y∈sc.names,y.2 ≠ .free
theorem jV{kindOf:Str->Option Mz}{x:Str}:∀{binds:List (Str×IR)}{m:Str->Option IR},(∀v,(x,v)∉binds)->bindL kindOf binds m x=m x
 | [],_,_=>rfl
 | (n,v)::r,m,h=>by
   unfold bindL;rw[jV fun w hw=>h w (IM _ hw)];split
   · have:x≠n:=by rintro rfl;exact h v IS
     simp[this]
   · rfl
theorem jX{kindOf:Str->Option Mz}{x:Str}:∀{binds:List (Str×IR)}{m:Str->Option IR},(∀v,(x,v)∉binds)->bindC kindOf binds m x=m x
 | [],_,_=>rfl
 | (n,v)::r,m,h=>by
   unfold bindC;rw[jX fun w hw=>h w (IM _ hw)];split
   · rfl
   · have:x≠n:=by rintro rfl;exact h v IS
     simp[this]
theorem jW{kindOf:Str->Option Mz}{x:Str}{v:IR}:∀{P:List Str}{vs:List IR}{i:Nat}{m:Str->Option IR},P.Nodup->P[i]?=some x->vs[i]?=some v->kindOf x=some .local ->
 bindL kindOf (P.zip vs) m x=some v
 | [],_,_,_,_,h,_,_=>by simp at h
 | _::_,[],_,_,_,_,h,_=>by simp at h
 | p::P,w::vs,0,m,nd,h1,h2,hk=>by
   simp at h1 h2;subst h1;subst h2;show bindL kindOf ((p,w)::P.zip vs) m p=_;unfold bindL;rw[jV fun v hv=>(Km.mp nd).1 (KG hv).1,if_pos hk]
   simp
 | p::P,w::vs,i+1,m,nd,h1,h2,hk=>by
   show bindL kindOf ((p,w)::P.zip vs) m x=_;unfold bindL;exact jW (i:=i) (Km.mp nd).2 (by simpa using h1) (by simpa using h2) hk
theorem jY{kindOf:Str->Option Mz}{x:Str}{v:IR}:∀{P:List Str}{vs:List IR}{i:Nat}{m:Str->Option IR},P.Nodup->P[i]?=some x->vs[i]?=some v->kindOf x≠some .local ->
 bindC kindOf (P.zip vs) m x=some v
 | [],_,_,_,_,h,_,_=>by simp at h
 | _::_,[],_,_,_,_,h,_=>by simp at h
 | p::P,w::vs,0,m,nd,h1,h2,hk=>by
   simp at h1 h2;subst h1;subst h2;show bindC kindOf ((p,w)::P.zip vs) m p=_;unfold bindC;rw[jX fun v hv=>(Km.mp nd).1 (KG hv).1,if_neg hk]
   simp
 | p::P,w::vs,i+1,m,nd,h1,h2,hk=>by
   show bindC kindOf ((p,w)::P.zip vs) m x=_;unfold bindC;exact jY (i:=i) (Km.mp nd).2 (by simpa using h1) (by simpa using h2) hk
noncomputable def start(N:List Str)(vs:List V):St:=vs.map some++I0 (N.length-vs.length) none
noncomputable def nX(CX:Iz)(P:Ju)(w:J_)(K:W.Frag)(mg:Str->Option IR)(base:Heap)(N:List Str)(qual:Str)(scope:Scope)(f:Addr)(cd:IR)(A:Kh)(outer:List Env)(s:IW)(H:Hp)(E:XK):Cx where
 prog:=P
 w:=w
 K:=K
 mg:=mg
 base:=base
 A:=A.deeper (NR qual scope s.heap.objs.size f cd)
 N:=N
 s₀:=s
 H₀:=H
 env:=NR qual scope s.heap.objs.size f cd
 outer:=outer
 stack:=NR qual scope s.heap.objs.size f cd::outer
 ex:=[]
 calm:=true
 fn:=fun _=>true
 pn:=[]
 xe:=fun e s'=>Jn (Jv P w) (A.deeper (NR qual scope s.heap.objs.size f cd)) (leaving (NR qual scope s.heap.objs.size f cd) e) (fun _ s''=>CX outer H s E e s'') (fun e' s''=>CX outer H s E e' s'') s'
theorem mH{sc:Scope}{x:Str}(h:sc.names.lookup x=some .cell):∃c,(K1 n sc.names []).lookup x=some c:=by
 have q:=W.cellsFrom_some sc.names n [] (.inl h);exact LJ.mp q
theorem qA{CX:Iz}{K:W.Frag}{mg:Str->Option IR}{base:Heap}{N ps:List Str}{qual:Str}{cd:IR}{outer:List Env}{s1:IW}{H:Hp}{E:XK}{us:List IR}{vs:List V}
 (S:FnScope N ps scope)(hd:A.handled=none)(e0:Env0 P w K mg base A outer s H)(hl:vs.length=ps.length)(r:cn vs us)
 (x:InCallC s s.heap.objs.size (bindL (NR qual scope s.heap.objs.size f cd).kindOf (ps.zip us) fun _=>none) (K1 (s.heap.objs.size+1) scope.names []) (bindC (NR qual scope s.heap.objs.size f cd).kindOf (ps.zip us) fun _=>none) s1) :
 Inv (nX CX P w K mg base N qual scope f cd A outer s H E) [] (start N vs) H s1:=by
 have hpl:ps.length<=N.length:=by have:=congrArg N1 S.pre;rw[JF]at this;omega
 obtain⟨h1,tk,rfl,hk⟩:=x.done;have noA:∀b:Addr,b∉(nX CX P w K mg base N qual scope f cd A outer s H E).ex:=fun b z=>absurd (show b∈([]:List Addr)from z) (by simp)
 refine⟨⟨e0.mod,S.kind,rfl,rfl,I_ _,fun y z c h1 h2=>?_,fun y hy=>?_,fun y c _ h=>?_,fun _=>hd,Kh.frames_deeper e0.frames,.inr ⟨rfl,rfl⟩,fun b z=>absurd z (noA b),e0.bs,e0.bsz,fun b _ _=>noA b,fun b z=>absurd z (noA b),e0.funs,e0.frf⟩,
  rfl,e0.bare,Un.kept hk,⟨_,x.toInCall.ns,fun i y v h1 h2 h3=>?_⟩,fun y c h=>⟨_,x.cell y c h⟩,e0.hok.fresh (I_ _),fun y c h=>?_,fun p hp=>absurd (show p∈([]:List (Addr×Obj))from hp) (by simp),e0.hok.kept hk,?_⟩
 · exact name_of_addr x.apart (Kj h1) (Kj h2)
 · have hy:scope.names.lookup y=some .cell\/scope.names.lookup y=some .free:=hy;rcases hy with hy|hy
   · exact mH hy
   · exact absurd rfl (S.nofree _ (Kj hy))
 · exact Pc (x.above y c (Kj h))
 · have hi:i<vs.length:=by
     unfold start at h2;by_cases hi:i<vs.length
     · exact hi
     · rw[Lp (by simpa using hi)]at h2;rw[MA]at h2;split at h2<;>cases h2
   have ha:vs[i]?=some v:=by
    unfold start at h2;rw[K6 (by simpa using hi),JW]at h2
    cases e:vs[i]? with
    | none=>rw[e]at h2;cases h2
    | some a=>rw[e]at h2;cases h2;rfl
   obtain⟨u,hu,rv⟩:=r.get ha
   have hp:ps[i]?=some y:=by
    rw[<- S.pre,NS (by omega)];exact h1
   have ndP:ps.Nodup:=by rw[<- S.pre];exact S.nd.sublist (List.take_sublist _ _)
   refine⟨u,rv,?_⟩;rcases S.par y (M9 hp)with k|k
   · exact .inl ⟨k,jW ndP hp hu k⟩
   · obtain⟨c,e⟩:=mH (n:=s.heap.objs.size+1) k;refine .inr ⟨.inl k,c,e,?_⟩;have q:=x.cell y c e;rw[jY ndP hp hu (by show scope.names.lookup y≠_;rw[k];decide)]at q;exact q
 · exact e0.hok.fresh (Pc (x.above y c (Kj h)))
 · unfold start;show _=N.length;rw[JQ,IP,MZ];omega
theorem Cq{CX:Iz}{K:W.Frag}{mg:Str->Option IR}{base:Heap}{k:Nat}{name qual:Str}{params:Arguments}{body:List Stmt}{dV kV doc pm cdv ct oc:IR}{an od:Option Addr}
 {osl:Array (Option IR)}{N ps:List Str}{sp:Sp}(lk:K.lookup f=some ⟨oc,od,.func (W.fnOf name qual params body scope dV kV doc pm an cdv ct),osl⟩)(hcd:W.codeIn K cdv qual=true)(S:FnScope N ps scope)
 (len:∀vs H Q E,sp vs H Q E->vs.length=ps.length)
 (hbody:∀(A:Kh)(outer:List Env)(s:IW)(H:Hp)(vs:List V)(Q:VK)(E:XK),Room k (A.deeper (NR qual scope s.heap.objs.size f cdv))->sp vs H Q E ->
  ∃t,HR (nX CX P w K mg base N qual scope f cdv A outer s H E) body t/\t {nx:=fun _ H'=>Q .non H',rt:=Q} (start N vs) H) :
 FnOk P w K mg base CX (k+1) f (W.fnOf name qual params body scope dV kV doc pm an cdv ct) ps sp:=by
 refine⟨len,fun A outer s H args us vs Q E hr e0 hb r hsp=>?_⟩;have hl:=len _ _ _ _ hsp;have KX:K.In s.heap:=e0.mod.kin.keeps fun b o e=>(e0.bs b o e).1;have lim:s.heap.NoLimit:=e0.mod.nolimit.keeps fun b o e=>(e0.bs b o e).1
 have hkind:∀y∈ps.zip us,scope.names.lookup y.1=some .local\/(scope.names.lookup y.1=some .cell/\((K1 (s.heap.objs.size+1) scope.names []).lookup y.1).isSome=true):=fun⟨n,v⟩ hy=>by
  rcases S.par n (KG hy).1 with q|q
  · exact .inl q
  · exact .inr ⟨q,W.cellsFrom_some _ _ _ (.inl q)⟩
 refine codeAny_call_function hr.depth (KX _ _ lk) rfl S.co S.gen rfl (W.codeRec_of KX hcd) (hb _ _ _ _ ?_);refine wpAny_newFunctionEnv_cells S.kind hkind fun env he s1 x=>?_;subst he;refine⟨lim.keeps x.toInCall.keep,codeAny_func ?_⟩;obtain⟨t,ht,hq⟩:=hbody A outer s H vs Q E (hr.deeper _) hsp;have I:Inv (nX CX P w K mg base N qual scope f cdv A outer s H E) [] (start N vs) H s1:=qA S hr.hd e0 hl r x;refine JJ (ht [] s1 (start N vs) H _ I hq) (fun fl s' hs=>?_) fun e s' hs=>hs
 have fin:∀{σ':St}{H':Hp}{v:V}{u:IR},Inv (nX CX P w K mg base N qual scope f cdv A outer s H E) [] σ' H' s'->RelV v u->Q v H'->CE outer P w H s Q u s' :=
  fun{σ' H' v u} J rv q=>⟨v,H',J.os,J.bare,J.base,J.hok,rv,q⟩
 cases fl with
 | ret u =>
   obtain⟨v,σ',H',J,rv,q⟩:=hs
   exact fin J rv q
 | next =>
   obtain⟨σ',H',J,q⟩:=hs
   exact fin (v:=V.non) (u:=LZ) J rfl q
 | brk =>
   obtain⟨_,_,_,q⟩:=hs
   exact J7 q
 | cont =>
   obtain⟨_,_,_,q⟩:=hs;exact J7 q
section
variable{X:Cx}{x:Str}{p pos:Pos}{e:Expr}{es:List Expr}{t:TA}{id T:String}{r:List V->Hp->VK->Prop}
def Gf(r:List V->Hp->VK->Prop)(t:TA):TE:=fun σ H Q=>t σ H fun vs H1=>r vs H1 Q
theorem lV(hc:d9 X (.builtin id) r)(hg:Gl X x)(hm:X.mg x=none)(hv:L3 x=some (.builtin id))(ha:PA X (e::es) t)(hn:x ≠ "__name__" := by decide)(hdb:(x==("__debug__" : Str))=false:=by decide)
 (he:IZ (e::es) X.env=(false,eval e X.env)::IZ es X.env:=by rfl)(hpl:(KC pos (IZ es X.env)).any (·.1)=false:=by rfl):PE X (.Call (.Name x p) (e::es) [] pos) (Gf r t):=by
 intro pins s σ H Q I h;refine Ny (fD I hg hm hv ?_ hn hdb);exact PyProof.Rows.callWith_builtin1 (FX (ha pos pins s σ H _ I h) fun us s1 ⟨vs,H1,I1,r1,q1⟩=>hc pins s1 σ H1 vs us Q I1 r1 q1) he hpl
theorem gi(hc:d9 X (.type T) r)(hg:Gl X x)(hm:X.mg x=none)(hv:L3 x=some (.type T))(ha:PA X (e::es) t)(hn:x ≠ "__name__" := by decide)(hdb:(x==("__debug__" : Str))=false:=by decide)
 (he:IZ (e::es) X.env=(false,eval e X.env)::IZ es X.env:=by rfl)(hpl:(KC pos (IZ es X.env)).any (·.1)=false:=by rfl):PE X (.Call (.Name x p) (e::es) [] pos) (Gf r t):=by
 intro pins s σ H Q I h;refine Ny (fD I hg hm hv ?_ hn hdb);exact Ke (FX (ha pos pins s σ H _ I h) fun us s1 ⟨vs,H1,I1,r1,q1⟩=>hc pins s1 σ H1 vs us Q I1 r1 q1) he hpl
end
end L2
variable{us:List (L2.Ie×L2.V)}{H H' F F' F₀ H₀:L2.Hp}{v:L2.V}{X:L2.Cx}{σ:L2.St}{vs:List L2.V}{kvs:List (List L2.Ie×L2.V)}
namespace HT
open PySem PyProof.Rows
section
open PySem.SeqAt
open PySem.AutoSeq1 (wpAny_loadPart')
open PySem.MeetsSeq PySem.MeetsSeq2 PySem.MeetsSeq3
end
section
variable{prog:Ju}{w:J_}{A:Kh}{E:IR->IW->Prop}{s:IW}
theorem cat_tup{b:Addr}{vs ws:List IR}(ht:Oh s.heap t vs.toArray)(hb:Oh s.heap b ws.toArray)(hv:vs≠[])
 (h1:ws=[]->Q (.ref t) s)(h2:ws≠[]->Q (.ref s.heap.objs.size) {s with heap:=s.heap.push {cls:=.type "tuple", data:=.seq (vs++ws).toArray}})
 (hsz:vs.length+ws.length<=sizeLine):Jn (Jv prog w) A (LD .Add (.ref t) (.ref b)) Q E s:=by
 obtain⟨⟨cls,dd,data,sl⟩,ho,hc,n,hd⟩:=id ht;obtain⟨⟨cls2,dd2,data2,sl2⟩,ho2,hc2,n2,hd2⟩:=id hb;simp only at hc hd hc2 hd2;subst hc hd hc2 hd2;have e:vs.toArray++ws.toArray=(vs++ws).toArray:=by simp
 by_cases hw:ws=[]
 · exact Pf ⟨_,ho,rfl⟩ ⟨_,ho2,rfl⟩ LX MB K3 KP (KJ _ _)
     (tuple_addW1 t b vs.toArray ws.toArray n n2 dd dd2 sl sl2 (by simpa using hv) (by simp[hw])) ⟨ho,ho2,h1 hw⟩
 · refine Pf ⟨_,ho,rfl⟩ ⟨_,ho2,rfl⟩ LX MB K3 KP (KJ _ _)
     (tuple_addW2 t b vs.toArray ws.toArray n n2 dd dd2 sl sl2 (by simpa using hv) (by simpa using hw) (by rw[Je,Je];exact hsz)) ⟨ho,ho2,?_⟩
   rw[e];exact h2 hw
noncomputable def sIx(n d:Nat):Option Int->Nat
 | none=>d
 | some v=>if v<0 then(v+(n:Int)).toNat else min v.toNat n
theorem sIx_none(n d:Nat):sIx n d none=d:=rfl
theorem sIx_nat(n d k:Nat):sIx n d (some (k:Int))=min k n:=by
 show(if(k:Int)<0 then((k:Int)+(n:Int)).toNat else min (k:Int).toNat n)=min k n;rw[if_neg (by omega),JR]
theorem zc(n d:Nat)(hd:d<=n)(o:Option Int):sIx n d o<=n:=by
 cases o with
 | none=>exact hd
 | some v =>
   show(if v<0 then(v+(n:Int)).toNat else min v.toNat n)<=n;by_cases hv:v<0
   · rw[if_pos hv];omega
   · rw[if_neg hv];exact Nat.min_le_right _ _
theorem qX(v:Int)(n d:Nat):(if v<0 then max (v+(n:Int)) 0 else min v (n:Int))=((sIx n d (some v):Nat):Int):=by
 show(if v<0 then max (v+(n:Int)) 0 else min v (n:Int))=(((if v<0 then(v+(n:Int)).toNat else min v.toNat n):Nat):Int);by_cases hv:v<0
 · simp only[if_pos hv];omega
 · simp only[if_neg hv];omega
theorem nO(lo hi:Option Int)(n:Nat):Ml lo hi 1 (n:Int)=(((sIx n 0 lo:Nat):Int),((sIx n n hi:Nat):Int)):=by
 have h1:¬((1:Int)<0):=by omega
 unfold Ml;simp only[h1,if_false];refine Prod.ext ?_ ?_
 · cases lo with
   | none=>rfl
   | some v=>exact qX v n 0
 · cases hi with
   | none=>rfl
   | some v=>exact qX v n n
theorem nn(i j:Nat):Kq (i:Int) (j:Int) 1=j-i:=by
 unfold Kq;have h1:(1:Int)>0:=by omega
 simp only[h1,if_true,Pg];split<;>omega
theorem slicePart_{v:IR}{o:Option Int}{Q:Option Int->IW->Prop}(p:Oj v o)(h:Q o s):Jn (Jv prog w) A (Builtin.Slice.slicePartIndex v) Q E s:=by
 cases p with
 | none=>exact slicePart_none h
 | int i t=>exact slicePart_int h
theorem sliceApplied_gen{sl:Addr}{vl vu:IR}{lo hi:Option Int}{Q:Int×Int×Nat->IW->Prop}(hs:s.heap.IsSliceOf sl vl vu .none)(pl:Oj vl lo)(pu:Oj vu hi)
 (h:Q (((sIx n 0 lo:Nat):Int),1,sIx n n hi-sIx n 0 lo) s):Jn (Jv prog w) A (Lq (.ref sl) (pure (n:Int))) Q E s:=by
 obtain⟨os,hos,hcs,hds⟩:=id hs;unfold Lq NL;refine IK (IK (JM hos hds (x:=vl) rfl (IK (JM hos hds (x:=vu) rfl (IK (JM hos hds (x:=.none) rfl (IU ?_)))))));refine IK (slicePart_none ?_);show Jn _ _ (if((1:Int)==0)=true then _ else _) _ _ s;rw[if_neg (by decide)];refine IK (slicePart_ pl (IK (slicePart_ pu (IK (IU ?_)))));show Jn _ _ (match Ml lo hi 1 (n:Int)with|(lo,hi)=>pure (lo,(1:Int),Kq lo hi 1)) _ _ s;rw[nO lo hi n];show Jn _ _ (pure (((sIx n 0 lo:Nat):Int),(1:Int),Kq ((sIx n 0 lo:Nat):Int) ((sIx n n hi:Nat):Int) 1)) _ _ s;rw[nn];exact IU h
theorem sO(xs:Array IR)(i k:Nat):((Jq k).filterMap fun(m:Nat)=>xs[((i:Int)+(m:Int)*1).toNat]?).toArray=((xs.toList.drop i).take k).toArray:=by
 have e:(fun(m:Nat)=>xs[((i:Int)+(m:Int)*1).toNat]?)=fun m=>xs[i+m]?:=by
  funext m;have:((i:Int)+(m:Int)*1).toNat=i+m:=by omega
  rw[this]
 rw[e];have:=pick_run xs i k;rw[List.filterMap_map]at this;have e2:((fun x=>xs[x]?) ∘ fun x=>i+x)=fun m=>xs[i+m]?:=rfl;rw[e2]at this;rw[this]
theorem getItem_tuple_cut{sl:Addr}{items:Array IR}{vl vu:IR}{lo hi:Option Int}(ht:Oh s.heap t items)(hs:s.heap.IsSliceOf sl vl vu .none)(pl:Oj vl lo)(pu:Oj vu hi)
 (hw:¬(sIx items.size 0 lo=0/\sIx items.size items.size hi=items.size))
 (h:Q (.ref s.heap.objs.size) {s with heap:=s.heap.push {cls:=.type "tuple", data:=.seq ((items.toList.drop (sIx items.size 0 lo)).take (sIx items.size items.size hi-sIx items.size 0 lo)).toArray}})
 (hsz:items.size<=sizeLine):Jn (Jv prog w) A (Nk (.ref t) (.ref sl)) Q E s:=by
 have htake:sizeOk (.seq ((items.toList.drop (sIx items.size 0 lo)).take (sIx items.size items.size hi-sIx items.size 0 lo)).toArray):=by
  show((items.toList.drop (sIx items.size 0 lo)).take (sIx items.size items.size hi-sIx items.size 0 lo)).toArray.size<=sizeLine;rw[Je,JF,Kn,Mr];omega
 have hj:sIx items.size items.size hi<=items.size:=zc _ _ (I_ _) hi;obtain⟨os,hos,hcs,hds⟩:=id hs;have hTs:s.TypeIs (.ref sl) "slice" := ⟨os,hos,hcs⟩;unfold Nk
 try with_reducible refine Lv ?_
 first|refine IK (IU ?_)|skip
 refine IK (Md ht.typeIs (by decide) ?_)
 refine IK (JG (name:=Str.ofString "__getitem__") ht.typeIs Jw
  (Kd Jw ht.typeIs entry_tuple_getitem ?_ (Nz _ _)))
 show Jn _ _ (Lr (.ref t) >>= _) _ _ s;refine IK (MC ht ?_);refine IK (NA hTs ?_);rw[if_pos (by decide)];refine IK (sliceApplied_gen hs pl pu ?_)
 have hno:¬((((sIx items.size 0 lo:Nat):Int)==0&&(1:Int)==1&&(sIx items.size items.size hi-sIx items.size 0 lo)==items.size)=true):=by
  intro q;rw[Mn,Mn]at q;have q1:((sIx items.size 0 lo:Nat):Int)=0:=eq_of_beq q.1.1;have q2:sIx items.size items.size hi-sIx items.size 0 lo=items.size:=eq_of_beq q.2;exact hw ⟨by omega,by omega⟩
 show Jn _ _ (if(((sIx items.size 0 lo:Nat):Int)==0&&(1:Int)==1&&(sIx items.size items.size hi-sIx items.size 0 lo)==items.size)=true then _ else _) _ _ s;rw[if_neg hno,sO]
 first
  | exact IK (m:=JX _) (JC (IU ⟨_,rfl,IU h⟩) htake)
  | exact IK (m:=JX _) (JC (IK (IU (IU ⟨_,rfl,IU h⟩))) htake)
  | exact IK (IK (m:=JX _) (JC (IU (IU ⟨_,rfl,IU h⟩)) htake))
  | exact IK (IK (m:=JX _) (JC (IU ⟨_,rfl,IU h⟩) htake))
end
end HT
namespace L2
abbrev TO:=St->Hp->(Option Int->Hp->Prop)->Prop
def PO(X:Cx)(e:Option Expr)(t:TO):Prop :=
 ∀ (pins:List (Addr×Obj))(s:IW)(σ:St)(H:Hp)(Q:Option Int->Hp->Prop),Inv X pins σ H s->t σ H Q ->
   Jn (Jv X.prog X.w) X.A (evalPart e X.env) (fun u s'=>∃o H',Inv X pins σ H' s'/\Oj u o/\Q o H') X.xe s
def v8:TO:=fun _ H Q=>Q none H
def BG(t:TE):TO:=fun σ H Q=>t σ H fun x H1=>∃i,x = .int i/\Q (some i) H1
section
variable{X:Cx}{e:Expr}{te:TE}{lo hi:Option Expr}{tl th:TO}{pos p2:Pos}
theorem wJ:PO X none v8:=by
 intro pins s σ H Q I h;rw[O2];exact IU ⟨none,H,I,.none,h⟩
theorem pO(h:PE X e te):PO X (some e) (BG te):=by
 intro pins s σ H Q I hw;rw[evalPart_some];refine FX (h pins s σ H _ I hw) fun u s1 ⟨x,H1,I1,r1,q1⟩=>?_;obtain⟨i,rfl,q⟩:=q1;obtain⟨t,rfl⟩:=r1;exact⟨some i,H1,I1,.int i t,q⟩
def HK(X:Cx)(r:V->Option Int->Option Int->Hp->VK->Prop):Prop :=
 ∀ (pins:List (Addr×Obj))(s:IW)(σ:St)(H:Hp)(x:V)(v vl vu:IR)(lo hi:Option Int)(sl:Addr)(Q:VK),Inv X pins σ H s->RelV x v->s.heap.IsSliceOf sl vl vu .none->Oj vl lo->Oj vu hi->r x lo hi H Q ->
   ∃T id,OD (.type T) "__getitem__" = pure (some (.builtin id))/\s.TypeIs v T/\Jn (Jv X.prog X.w) X.A (Nk v (.ref sl)) (EP X pins σ Q) X.xe s
def F_(r:V->Option Int->Option Int->Hp->VK->Prop)(te:TE)(tl th:TO):TE:=fun σ H Q=>te σ H fun x H1=>tl σ H1 fun l H2=>th σ H2 fun u H3=>r x l u H3 Q
theorem lU{r:V->Option Int->Option Int->Hp->VK->Prop}(hr:HK X r)(he:PE X e te)(hl:PO X lo tl)(hu:PO X hi th):PE X (.Subscript e (.Slice lo hi none p2) pos) (F_ r te tl th):=by
 intro pins s σ H Q I h;refine O9 (FX (he pins s σ H _ I h) fun v s1 ⟨x,H1,I1,r1,q1⟩=>?_);refine wpAny_Slice (FX (hl pins s1 σ H1 _ I1 q1) fun vl s2 ⟨l,H2,I2,pl,q2⟩=>FX (hu pins s2 σ H2 _ I2 q2) fun vu s3 ⟨u,H3,I3,pu,q3⟩=>?_);rw[O2];refine IU ?_;have I4:Inv X pins σ H3 {s3 with heap:=s3.heap.push {cls:=.type "slice", data:=.fields #[vl,vu,.none]}}:=I3.kept (t':=s3.toks) fun b ob q=>IQ _ q;obtain⟨T,id,hT,ht,hg⟩:=hr pins {s3 with heap:=s3.heap.push {cls:=.type "slice", data:=.fields #[vl,vu,.none]}} σ H3 x v vl vu l u s3.heap.objs.size Q I4 r1 (Heap.IsSliceOf.new ..) pl pu q3;show Jn (Jv X.prog X.w) X.A (O3 e (.Slice lo hi none p2) v (.ref s3.heap.objs.size)) (EP X pins σ Q) X.xe {s3 with heap:=s3.heap.push {cls:=.type "slice", data:=.fields #[vl,vu,.none]}};exact tail_any (ops:=[.ref s3.heap.objs.size,v]) ht hT hg (by with_unfolding_all rfl)
noncomputable def t6(xs:List V)(lo hi:Option Int):List V:=(xs.drop (HT.sIx xs.length 0 lo)).take (HT.sIx xs.length xs.length hi-HT.sIx xs.length 0 lo)
theorem gH(xs:List V)(lo hi:Option Int):(t6 xs lo hi).length<=xs.length:=by
 unfold t6;rw[JF,Kn];omega
def DV(K:W.Frag):V->Option Int->Option Int->Hp->VK->Prop:=fun x lo hi H Q=>∃a xs,x = .ref a/\HG K H a xs /\
 ¬(HT.sIx xs.length 0 lo=0/\HT.sIx xs.length xs.length hi=xs.length)/\∀p,H p=none->Q (.ref p) (upd H p (.tup (t6 xs lo hi)))
theorem y7:HK X (DV X.K):=by
 intro pins s σ H x v vl vu lo hi sl Q I rx hs pl pu h;obtain⟨a,xs,rfl,hx,hw,q⟩:=h;cases rx;obtain⟨its,r,ht,hz⟩:=I.tuple hx;have hlen:its.toArray.size=xs.length:=by rw[Je];exact r.length.symm
 refine⟨"tuple", _,Jw.lookup,ht.typeIs,?_⟩;refine HT.getItem_tuple_cut ht hs pl pu (by rw[hlen];exact hw) ?_ (by rw[hlen];exact hz);rw[hlen];refine⟨.ref s.heap.objs.size,_,I.laid (t':=s.toks) (o:=.tup (t6 xs lo hi)) (fun b ob q=>IQ _ q) (I_ _) ?_,rfl,q _ (I.hok.fresh (I_ _))⟩;exact⟨Ks (gH xs lo hi) hz,_,(r.drop (HT.sIx xs.length 0 lo)).take (HT.sIx xs.length xs.length hi-HT.sIx xs.length 0 lo),rL.new _ _⟩
def wz(K:W.Frag):R2:=fun x y H Q=>∃a b xs ys,x = .ref a/\y = .ref b/\HG K H a xs/\HG K H b ys/\xs≠[]/\xs.length+ys.length<=sizeLine /\
 (ys=[]->Q (.ref a) H)/\(ys≠[]->∀p,H p=none->Q (.ref p) (upd H p (.tup (xs++ys))))
theorem cn.nil_iff{xs:List V}{us:List IR}(r:cn xs us):us=[]↔xs=[]:=by
 cases r with
 | nil=>simp
 | cons _ _=>simp
theorem wV:H_ X (LD .Add) (wz X.K):=by
 intro pins s σ H x y v u Q I rx ry h;obtain⟨a,b,xs,ys,rfl,rfl,ha,hb,hx,hz,q1,q2⟩:=h;cases rx;cases ry;obtain⟨its,r1,p1,_⟩:=I.tuple ha;obtain⟨its2,r2,p2,_⟩:=I.tuple hb;refine HT.cat_tup p1 p2 (fun z=>hx (r1.nil_iff.mp z)) (fun z=>⟨.ref a,H,I,rfl,q1 (r2.nil_iff.mp z)⟩) (fun z=>?_) (by rw[<- r1.length,<- r2.length];exact hz);refine⟨.ref s.heap.objs.size,_,I.laid (t':=s.toks) (o:=.tup (xs++ys)) (fun b ob q=>IQ _ q) (I_ _) ?_,rfl,q2 (fun w=>z (r2.nil_iff.mpr w)) _ (I.hok.fresh (I_ _))⟩;exact⟨by rw[JQ];exact hz,_,r1.append r2,rL.new _ _⟩
end
noncomputable def ixN(n:Nat)(i:Int):Option Nat:=if 0<=i then(if i<n then some i.toNat else none)else if -(n:Int)<=i then some (i+n).toNat else none
noncomputable def atI{α:Type}(xs:List α)(i:Int):Option α:=(ixN xs.length i).bind fun j=>xs[j]?
theorem qz{i:Int}(h:ixN n i=some j):Px i n=some j/\j<n /\ -(n:Int)<=i/\i<n:=by
 unfold ixN at h;by_cases h0:0<=i
 · rw[if_pos h0]at h;by_cases h1:i<n
   · rw[if_pos h1]at h;have e:i.toNat=j:=JN h;exact⟨by rw[OP h0 h1,e],by omega,by omega,h1⟩
   · rw[if_neg h1]at h;cases h
 · rw[if_neg h0]at h;by_cases h1 : -(n:Int)<=i
   · rw[if_pos h1]at h;have e:(i+n).toNat=j:=JN h;exact⟨by rw[Ph (by omega) h1,e],by omega,h1,by omega⟩
   · rw[if_neg h1]at h;cases h
theorem ln{xs:List α}{i:Int}{v:α}(h:atI xs i=some v):∃j,Px i xs.length=some j/\xs[j]?=some v/\j<xs.length /\ -(xs.length:Int)<=i/\i<xs.length:=by
 unfold atI at h
 cases e:ixN xs.length i with
 | none=>rw[e]at h;cases h
 | some j =>
   rw[e]at h;obtain⟨h1,h2,h3,h4⟩:=qz e;exact⟨j,h1,h,h2,h3,h4⟩
theorem cK{xs:List α}{v:α}(h:xs[j]?=some v):atI xs (j:Int)=some v:=by
 have hj:j<xs.length:=(Jj.mp h).1
 have e:ixN xs.length (j:Int)=some j:=by
  unfold ixN;rw[if_pos (by omega),if_pos (by omega)];simp
 unfold atI;rw[e];exact h
def gN(b:Expr):Prop:=∀o i,OQ b false o i=operate [o,i] (Nk o i)
def Ii(X:Cx)(r:R2):Prop :=
 ∀ (value slice:Expr)(pins:List (Addr×Obj))(s:IW)(σ:St)(H:Hp)(x y:V)(v u:IR)(Q:VK),Inv X pins σ H s->RelV x v->RelV y u->r x y H Q ->
   OQ slice false v u=operate [v,u] (Nk v u)->Jn (Jv X.prog X.w) X.A (O3 value slice v u) (EP X pins σ Q) X.xe s
def Ib(X:Cx)(id:String)(r:V->List V->Hp->VK->Prop):Prop :=
 ∀ (pins:List (Addr×Obj))(s:IW)(σ:St)(H:Hp)(x:V)(xs:List V)(v:IR)(us:List IR)(Q:VK),Inv X pins σ H s->RelV x v->cn xs us->r x xs H Q ->
   Jn (Jv X.prog X.w) X.A (call (.builtin id) (v::us)) (EP X pins σ Q) X.xe s
section
variable{X:Cx}{a b:Expr}{ta tb:TE}{pos:Pos}
theorem Ii.or{r r':R2}(h:Ii X r)(h':Ii X r'):Ii X (fun x y H Q=>r x y H Q\/r' x y H Q):=by
 intro value slice pins s σ H x y v u Q I rx ry q hs;rcases q with q|q
 · exact h value slice pins s σ H x y v u Q I rx ry q hs
 · exact h' value slice pins s σ H x y v u Q I rx ry q hs
theorem sP{r:R2}(hr:Ii X r)(ha:PE X a ta)(hb:PE X b tb)(hs:gN b):PE X (.Subscript a b pos) (Gb r ta tb):=by
 intro pins s σ H Q I h;exact O9 (CD ha hb I h fun v u s2 x y H2 I2 rx ry q=>hr a b pins s2 σ H2 x y v u Q I2 rx ry q (hs _ _))
def DZ(K:W.Frag):R2:=fun x y H Q=>∃p xs i v,x = .ref p/\y = .int i/\HH K H p xs/\atI xs i=some v/\Q v H
def DX(K:W.Frag):R2:=fun x y H Q=>∃p xs i v,x = .ref p/\y = .int i/\HG K H p xs/\atI xs i=some v/\Q v H
def DY:R2:=fun x y H Q=>∃z i c,x = .str z/\y = .int i/\z.length<=sizeLine/\atI z.cps.toList i=some c/\Q (.str ⟨#[c]⟩) H
theorem B_:Ii X (DZ X.K):=by
 intro value slice pins s σ H x y v u Q I rx ry h hs;obtain⟨p,xs,i,z,rfl,rfl,hq,he,q⟩:=h;cases rx;obtain⟨t,rfl⟩:=ry;obtain⟨its,r,pl,hz⟩:=I.list hq;obtain⟨j,h1,h2,h3,h4,h5⟩:=ln he;obtain⟨w,ew,rw'⟩:=r.get h2;have hl:=r.length;have hn:=jD;have fin:EP X pins σ Q w s:=⟨z,H,I,rw',q⟩;by_cases h0:0<=i
 · have hj:i.toNat=j:=by
     rw[OP h0 h5]at h1;exact JN h1
   exact item_listR pl.isList h0 (by omega) (by rw[hj];simpa using ew) fin hs
 · have hj:(i+(its.toArray.size:Int)).toNat=j:=by
     rw[Ph (by omega) h4]at h1;rw[Je,<- hl];exact JN h1
   exact Oc (x:=w) pl.isList.typeIs slot_list_getitem.lookup
    (wpAny_getItem_list_neg (Q:=fun r s'=>r=w/\EP X pins σ Q r s') pl.isList (by omega) (by rw[Je]<;>omega) (by omega) (by rw[hj];simpa using ew) ⟨rfl,fin⟩) hs
theorem D5:Ii X (DX X.K):=by
 intro value slice pins s σ H x y v u Q I rx ry h hs;obtain⟨p,xs,i,z,rfl,rfl,hq,he,q⟩:=h;cases rx;obtain⟨t,rfl⟩:=ry;obtain⟨its,r,pl,hz⟩:=I.tuple hq;obtain⟨j,h1,h2,h3,h4,h5⟩:=ln he;obtain⟨w,ew,rw'⟩:=r.get h2;have hl:=r.length;have hn:=jD;have fin:EP X pins σ Q w s:=⟨z,H,I,rw',q⟩
 exact Oc (x:=w) pl.typeIs slot_tuple_getitem.lookup
  (getItem_tuple (j:=j) (Q:=fun r s'=>r=w/\EP X pins σ Q r s') pl (by omega) (by omega) (by rw[Je,<- hl];exact h1) (by simpa using ew) ⟨rfl,fin⟩) hs
theorem Am:Ii X DY:=by
 intro value slice pins s σ H x y v u Q I rx ry h hs;obtain⟨z,i,c,rfl,rfl,hz,he,q⟩:=h;obtain⟨t,rfl⟩:=rx;obtain⟨t',rfl⟩:=ry;obtain⟨j,h1,h2,h3,h4,h5⟩:=ln he;have hl:z.cps.toList.length=z.length:=by simp[Str.length]
 rw[hl]at h1 h4 h5;have hn:=jD
 exact tail_any (typeIs_str s z t) slot_str_getitem.lookup (getItem_str (c:=c) (by
  have e1:decide (i < -(2^63:Int))=false:=decide_eq_false (by omega);have e2:decide (i ≥ 2^63)=false:=decide_eq_false (by omega)
  rw[e1,e2,Bool.or_false]) (by rw[h1];simpa using h2) ⟨.str ⟨#[c]⟩,H,I.tok _,⟨_,rfl⟩,q⟩) hs
def Gz(K:W.Frag):R2:=fun x y H Q=>DZ K x y H Q\/DX K x y H Q\/DY x y H Q
theorem mi:Ii X (Gz X.K):=B_.or (D5.or Am)
theorem nA(its:List IR)(n j:Nat)(u:IR):OE (·.setIfInBounds j u) {cls:=.type "list", data:=.seq its.toArray n}={cls:=.type "list", data:=.seq (its.set j u).toArray n}:=by
 simp[OE]
theorem Inv.lst{pins:List (Addr×Obj)}{σ:St}{H:Hp}{s:IW}{p:Addr}{xs:List V}(I:Inv X pins σ H s)(h:H p=some (.lst xs)) :
 ∃(its:List IR)(n:Nat),cn xs its/\s.heap.get? p=some {cls:=.type "list", data:=.seq its.toArray n}/\xs.length<=sizeLine:=by
 obtain⟨z,its,n,r,e⟩:=I.hok p _ h;exact⟨its,n,r,e,z⟩
theorem Inv.lstUpd{p:Addr}{xs ys:List V}{its':List IR}{n':Nat}{f:Obj->Obj}(I:Inv X pins σ H s)(h:H p=some (.lst xs))
 (ho:s.heap.get? p=some {cls:=.type "list", data:=.seq its.toArray n})(hf:f {cls:=.type "list", data:=.seq its.toArray n}={cls:=.type "list", data:=.seq its'.toArray n' })(r:cn ys its')(hz:ys.length<=sizeLine)(t:Nat) :
 Inv X pins σ (upd H p (.lst ys)) {s with heap:=s.heap.update p f,toks:=t}:=by
 have e:(s.heap.update p f).get? p=some {cls:=.type "list", data:=.seq its'.toArray n' }:=by
  rw[L5 f ho (by rw[hf]<;>rfl),hf]
 refine I.write (x:=p) (e:=p) (by rw[h];trivial) (.inl rfl) (fun b u hb q=>(Od _ _ (MO hb)).trans q) ⟨_,e⟩ ?_;exact⟨hz,its',n',r,e⟩
def BP:V->V->V->Hp->(Hp->Prop)->Prop:=fun o i v H Q=>∃p xs k j,o = .ref p/\i = .int k/\H p=some (.lst xs)/\ixN xs.length k=some j/\Q (upd H p (.lst (xs.set j v)))
theorem lM:Ea X BP:=by
 intro pins s σ H o i v ov iv u Q I ro ri rv h;obtain⟨p,xs,k,j,rfl,rfl,hp,hj,q⟩:=h;cases ro;obtain⟨t,rfl⟩:=ri;obtain⟨its,n,r,ho,hz⟩:=I.lst hp;obtain⟨h1,h2,h3,h4⟩:=qz hj;have hl:=r.length;have hn:=jD
 have I':Inv X pins σ (upd H p (.lst (xs.set j v))) {s with heap:=s.heap.update p (OE (·.setIfInBounds j u))} :=
  I.lstUpd hp ho (nA its n j u) (r.set rv j) (by rw[Ol];exact hz) s.toks
 by_cases h0:0<=k
 · have hk:k.toNat=j:=by
     rw[OP h0 h4]at h1;exact JN h1
   exact W.ki_setAt ho h0 (by omega) (by rw[Je,<- hl];exact h4) (by rw[hk];exact⟨_,I',q⟩)
 · have hk:(k+(its.toArray.size:Int)).toNat=j:=by
     rw[Ph (by omega) h3]at h1;rw[Je,<- hl];exact JN h1
   exact W.ki_setBack ho (by omega) (by rw[Je,<- hl];exact h3) (by omega) (by rw[hk];exact⟨_,I',q⟩)
theorem jo(lo hi:Option Int)(n:Nat):(MQ lo hi none n).1=((HT.sIx n 0 lo:Nat):Int)/\(MQ lo hi none n).2.1=((HT.sIx n n hi:Nat):Int)/\(MQ lo hi none n).2.2=1:=by
 refine⟨?_,?_,rfl⟩
 · cases lo with
   | none=>simp[MQ,HT.sIx]
   | some i =>
     simp only[MQ,HT.sIx,Option.getD_none,show(1:Int)>0 by decide,if_true];by_cases h:i<0
     · simp only[h,if_true]<;>omega
     · simp only[h,if_false]<;>omega
 · cases hi with
   | none=>simp[MQ,HT.sIx]
   | some i =>
     simp only[MQ,HT.sIx,Option.getD_none,show(1:Int)>0 by decide,if_true];by_cases h:i<0
     · simp only[h,if_true]<;>omega
     · simp only[h,if_false]<;>omega
theorem iC(its:List IR)(lo hi:Option Int):slicePick its.toArray lo hi none=((its.drop (HT.sIx its.length 0 lo)).take (HT.sIx its.length its.length hi-HT.sIx its.length 0 lo)).toArray:=by
 obtain⟨h1,h2,h3⟩:=jo lo hi its.toArray.size;unfold slicePick;rw[h1,h2,h3];simp only[sliceRange_one,pick_run,Je]<;>rfl
def EF(K:W.Frag):V->Option Int->Option Int->Hp->VK->Prop:=fun x lo hi H Q=>∃a xs,x = .ref a/\HH K H a xs/\∀p,H p=none->Q (.ref p) (upd H p (.lst (t6 xs lo hi)))
theorem wb:HK X (EF X.K):=by
 intro pins s σ H x v vl vu lo hi sl Q I rx hs pl pu h;obtain⟨a,xs,rfl,hx,q⟩:=h;cases rx;obtain⟨its,r,ht,hz⟩:=I.list hx;have hlen:=r.length;refine⟨"list", _,slot_list_getitem.lookup,ht.isList.typeIs,?_⟩;refine wpAny_getItem_list_slice ht.isList hs pl pu .none (by simp) ?_ (by rw[Je]<;>omega);rw[iC,<- hlen];refine⟨.ref s.heap.objs.size,_,I.laid (t':=s.toks) (o:=.lst (t6 xs lo hi)) (fun b ob q=>IQ _ q) (I_ _) ?_,rfl,q _ (I.hok.fresh (I_ _))⟩;exact⟨Ks (gH xs lo hi) hz,_,0,(r.drop (HT.sIx xs.length 0 lo)).take (HT.sIx xs.length xs.length hi-HT.sIx xs.length 0 lo),Jf _ rfl⟩
theorem dE:d9 X (.builtin "len") (fun xs H Q=>∃p ys,xs=[.ref p]/\(HH X.K H p ys\/HG X.K H p ys)/\Q (.int ys.length) H):=by
 intro pins s σ H xs us Q I r h;obtain⟨p,ys,rfl,hq,q⟩:=h;obtain⟨u,rfl,rx⟩:=vals1 r;cases rx;have hn:=jD;rcases hq with hq|hq
 · obtain⟨its,r',pl,hz⟩:=I.list hq;have hlen:=r'.length;exact Calls.call_len_list pl.isList (by simp only[Je]<;>omega) ⟨.int ys.length,H,I.tok _,⟨s.toks+1,by rw[Je,hlen]⟩,q⟩
 · obtain⟨its,r',pl,hz⟩:=I.tuple hq;have hlen:=r'.length;exact len_tuple pl (by simp only[Je]<;>omega) ⟨.int ys.length,H,I.tok _,⟨s.toks+1,by rw[Je,hlen]⟩,q⟩
theorem jT:d9 X (.type "list") (fun xs H Q=>∃p ys,xs=[.ref p]/\(HH X.K H p ys\/HG X.K H p ys)/\∀l,H l=none->Q (.ref l) (upd H l (.lst ys))):=by
 intro pins s σ H xs us Q I r h;obtain⟨p,ys,rfl,hq,q⟩:=h;obtain⟨u,rfl,rx⟩:=vals1 r;cases rx
 have fin:∀(its:List IR),cn ys its->ys.length<=sizeLine->∀(h':Heap)(c':Nat),(∀b o',s.heap.get? b=some o'->h'.get? b=some o') ->
  h'.get? s.heap.objs.size=some {cls:=.type "list", dict:=none,data:=.seq its.toArray c',slots:=#[]}->EP X pins σ Q (.ref s.heap.objs.size) {s with heap:=h' }:=fun its r' hz h' c' kp e =>
  ⟨.ref s.heap.objs.size,_,I.laid (t':=s.toks) kp (I_ _) (show dt X.prog X.w _ h' _ (.lst ys)from⟨hz,its,c',r',e⟩),rfl,q _ (I.hok.fresh (I_ _))⟩
 rcases hq with hq|hq
 · obtain⟨its,r',pl,hz⟩:=I.list hq;have hlen:=r'.length;obtain⟨o,ho,hc,n,hd⟩:=pl.isList;exact call_list_seq p (.inl rfl) ho hc hd (fun h' c' kp e=>fin its r' hz h' c' kp e) (by simp only[Je]<;>omega)
 · obtain⟨its,r',pl,hz⟩:=I.tuple hq;have hlen:=r'.length;obtain⟨o,ho,hc,n,hd⟩:=pl;exact call_list_seq p (.inr rfl) ho hc hd (fun h' c' kp e=>fin its r' hz h' c' kp e) (by simp only[Je]<;>omega)
theorem dr:d9 X (.type "tuple") (fun xs H Q=>∃p ys,xs=[.ref p]/\((HH X.K H p ys/\∀l,H l=none->Q (.ref l) (upd H l (.tup ys)))\/(HG X.K H p ys/\Q (.ref p) H))):=by
 intro pins s σ H xs us Q I r h;obtain⟨p,ys,rfl,h⟩:=h;obtain⟨u,rfl,rx⟩:=vals1 r;cases rx;rcases h with⟨hq,q⟩|⟨hq,q⟩
 · obtain⟨its,r',pl,hz⟩:=I.list hq;have hlen:=r'.length;refine call_tuple_list pl.isList (fun h' kp=>?_) (by simp only[Je]<;>omega);have I1:Inv X pins σ H {s with heap:=h' }:=I.kept (t':=s.toks) kp
   have I2:Inv X pins σ (upd H h'.objs.size (.tup ys)) {s with heap:=h'.push {cls:=.type "tuple", data:=.seq its.toArray}} :=
    I1.laid (t':=s.toks) (fun b o e=>IQ _ e) (I_ _) (show dt X.prog X.w _ _ _ (.tup ys)from⟨hz,its,r',rL.new _ _⟩)
   exact⟨.ref h'.objs.size,_,I2,rfl,q _ (I1.hok.fresh (I_ _))⟩
 · obtain⟨its,r',pl,hz⟩:=I.tuple hq;exact call_tuple_same pl ⟨.ref p,H,I,rfl,q⟩
def FS(K:W.Frag)(T:String)(x:V)(H:Hp):Prop:=match x with
 | .str _=>T = "str"
 | .int _=>T = "int"
 | .ref p=>(T = "list" /\ ∃xs,HH K H p xs)\/(T = "tuple" /\ ∃xs,HG K H p xs) \/
     (T = "dict" /\ ((∃kvs,H p=some (.dK kvs))\/∃kvs,H p=some (.dT kvs)))\/(T = "set" /\ ∃S n,H p=some (.set S n))
 | _=>False
theorem yK{T:String}{x:V}{v:IR}(I:Inv X pins σ H s)(r:RelV x v)(ty:FS X.K T x H) :
 s.TypeIs v T/\∀a,v = .ref a->∃ob,s.heap.get? a=some ob/\ob.dict=none:=by
 cases x with
 | str z =>
   obtain⟨t,rfl⟩:=r;cases(show T = "str" from ty)
   exact⟨typeIs_str s z t,fun _ e=>nomatch e⟩
 | int i =>
   obtain⟨t,rfl⟩:=r;cases(show T = "int" from ty)
   exact⟨OF s i t,fun _ e=>nomatch e⟩
 | ref p =>
   cases r;rcases ty with⟨rfl,xs,hq⟩|⟨rfl,xs,hq⟩|⟨rfl,hk⟩|⟨rfl,S,n,hk⟩
   · obtain⟨its,_,pl,_⟩:=I.list hq;refine⟨pl.isList.typeIs,fun a e=>?_⟩;cases e;obtain⟨o,n,e,c,hd,_⟩:=pl;exact⟨o,e,hd⟩
   · obtain⟨o,e1,e2,e3⟩:=I.tupleD hq;refine⟨⟨o,e1,e2⟩,fun a e=>?_⟩;cases e;exact⟨o,e1,e3⟩
   · have z:∃o,s.heap.get? p=some o/\o.ExactDict:=by
       rcases hk with⟨kvs,hk⟩|⟨kvs,hk⟩
       · obtain⟨_,_,_,_,o,_,_,e,ex,_⟩:=I.hok p _ hk;exact⟨o,e,ex⟩
       · obtain⟨_,_,_,_,o,_,_,e,ex,_⟩:=I.hok p _ hk;exact⟨o,e,ex⟩
     obtain⟨o,e,ex⟩:=z;refine⟨⟨o,e,ex.1⟩,fun a e2=>?_⟩;cases e2;exact⟨o,e,ex.2.1⟩
   · obtain⟨o,_,_,_,e,ex,_⟩:=I.hok p _ hk;refine⟨⟨o,e,ex.1⟩,fun a e2=>?_⟩;cases e2
     exact⟨o,e,ex.2.1⟩
 | _=>exact J7 ty
def Gg(K:W.Frag)(T:String)(r:V->List V->Hp->VK->Prop)(to:TE)(t:TA):TE:=fun σ H Q=>to σ H fun x H1=>FS K T x H1/\t σ H1 fun xs H2=>r x xs H2 Q
variable{o e:Expr}{es:List Expr}{to:TE}{t:TA}{name:Str}{apos cpos:Pos}{T id:String}{r:V->List V->Hp->VK->Prop}
theorem wQ(pa:PlainAttrs T)(slot:Slot T name id)(hty:typeOf (.builtin id)=pure (.type "method_descriptor"))(hm:Ib X id r)(ho:PE X o to)(ha:PA X (e::es) t)
 (hbase:Nb o name X.env (eval o X.env)=eval o X.env:=by rfl)
 (hfew:((KC cpos (IZ (e::es) X.env)).all (fun x=>!x.1)&&(Pq cpos (N2 [] X.env)).all (fun x=>x.1.isSome)
  && decide ((e::es).length+([]:List NK).length+(if([]:List NK).isEmpty then 0 else 1)<30))=true:=by rfl)
 (hline:(apos.endLine==cpos.line)=true:=by rfl)(hs:IZ (e::es) X.env=(false,eval e X.env)::IZ es X.env:=by rfl)(hplain:(KC cpos (IZ es X.env)).any (·.1)=false:=by rfl) :
 PE X (.Call (.Attribute o name apos) (e::es) [] cpos) (Gg X.K T r to t):=by
 intro pins s σ H Q I h;refine wpAny_Call_method_late hbase hfew hline rfl (FX (ho pins s σ H _ I h) fun v s1 ⟨x,H1,I1,r1,ty,q1⟩=>?_);obtain⟨h1,h2⟩:=yK I1 r1 ty;refine⟨T,id,pa,slot,hty,h1,h2,?_⟩;have hA:=ha cpos pins s1 σ H1 _ I1 q1;rw[hs]at hA ⊢;refine Calls.callWith_builtin (by show(false||(KC cpos (IZ es X.env)).any (·.1))=false;rw[hplain]<;>rfl) (Calls.evalArgs_plain ?_);exact FX hA fun us s2 ⟨vs,H2,I2,r2,q2⟩=>hm pins s2 σ H2 x vs v us Q I2 r1 r2 q2
end
def Ic(X:Cx)(id:String)(r:V->List V->Hp->VK->Prop):Prop :=
 ∀ (pins:List (Addr×Obj))(s:IW)(σ:St)(H:Hp)(x:V)(xs:List V)(v:IR)(us:List IR)(Q:VK),Inv X pins σ H s->RelV x v->cn xs us->r x xs H Q ->
   Jn (Jv X.prog X.w) X.A (call (.builtin id) (v::us)) (EP X pins σ Q) X.xe s
theorem cn.one:∀{x:V}{us:List IR},cn [x] us->∃u,us=[u]/\RelV x u
 | _,_,.cons r .nil=>⟨_,rfl,r⟩
theorem cn.eraseIdx:∀{xs:List V}{us:List IR}(i:Nat),cn xs us->cn (xs.eraseIdx i) (us.eraseIdx i)
 | _,_,_,.nil=>.nil
 | _,_,0,.cons _ t=>t
 | _,_,i+1,.cons r t=>.cons r (cn.eraseIdx i t)
theorem cn.reverse{xs:List V}{us:List IR}(h:cn xs us):cn xs.reverse us.reverse:=by
 induction h with
 | nil=>exact .nil
 | cons r t ih=>rw[Me,Me];exact cn.append ih (.cons r .nil)
theorem cn.rep{xs:List V}{us:List IR}(h:cn xs us):∀k:Nat,cn (I0 k xs).flatten (I0 k us).flatten
 | 0=>.nil
 | k+1=>by
   rw[Jx,Jx,Kr,Kr];exact cn.append h (cn.rep h k)
theorem jE{α:Type}:∀(l:List α)(i:Nat),(l.eraseIdx i).length<=l.length
 | [],_=>I_ _
 | _::_,0=>Nat.le_succ _
 | _::r,i+1=>Nat.succ_le_succ (jE r i)
theorem foldl_rep(its:List IR):∀(k:Nat)(acc:List IR),
 L0 (fun x1 x2=>x1++x2) acc.toArray (I0 k its.toArray)=(acc++(I0 k its).flatten).toArray
 | 0,acc=>by simp
 | k+1,acc=>by
   have e:acc.toArray++its.toArray=(acc++its).toArray:=by simp
   have e2:(acc++its)++(I0 k its).flatten=acc++(I0 (k+1) its).flatten:=by
    rw[Jx,Kr,NT]
   rw[<- e2,<- foldl_rep its k (acc++its),<- e,Jx,KQ]
section
variable{X:Cx}{pins:List (Addr×Obj)}{σ:St}{H:Hp}{s:IW}{l b:Addr}{xs ys zs:List V}
theorem Inv.lset{its':List IR}{f:Array IR->Array IR}(I:Inv X pins σ H s)(hH:H l=some (.lst xs))
 (e:s.heap.get? l=some {cls:=.type "list", data:=.seq its.toArray n})(hf:f its.toArray=its'.toArray)(hv:cn ys its')(hz:ys.length<=sizeLine) :
 Inv X pins σ (upd H l (.lst ys)) {s with heap:=s.heap.update l (OE f),toks:=t' }:=by
 have q:=PySem.IsL.update e f;rw[hf]at q;refine I.write (x:=l) (e:=l) (by rw[hH];exact trivial) (.inl rfl) (fun b' u hb hu=>(Od s.heap (OE f) (MO hb)).trans hu) ⟨_,q⟩ ?_;exact⟨hz,its',_,hv,q⟩
theorem Inv.lnew(I:Inv X pins σ H s)(hv:cn ys its)(hz:ys.length<=sizeLine) :
 Inv X pins σ (upd H s.heap.objs.size (.lst ys)) {s with heap:=s.heap.push {cls:=.type "list", data:=.seq its.toArray},toks:=t' } :=
 I.laid (fun _ _ q=>IQ _ q) (I_ _) ⟨hz,its,0,hv,Jf _ rfl⟩
theorem Inv.fresh(I:Inv X pins σ H s):H s.heap.objs.size=none:=I.hok.fresh (I_ _)
theorem Inv.lstM(I:Inv X pins σ H s)(hH:H l=some (.lst xs)):xs.length<=sizeLine/\∃(its:List IR)(n:Nat),cn xs its/\xs.length=its.length/\s.heap.get? l=some {cls:=.type "list", data:=.seq its.toArray n}:=by
 obtain⟨z,its,n,r,e⟩:=I.hok l _ hH;exact⟨z,its,n,r,r.length,e⟩
theorem sV(h:n<=sizeLine):Mu n=false:=by
 unfold Mu;exact decide_eq_false (by omega)
end
section
variable{X:Cx}
def pH:V->List V->Hp->VK->Prop:=fun x vs H Q=>∃l xs y,x = .ref l/\vs=[y]/\H l=some (.lst xs)/\xs.length<sizeLine/\Q .non (upd H l (.lst (xs++[y])))
theorem eK:Ic X "list.append" pH:=by
 intro pins s σ H x vs v us Q I rx rv h;obtain⟨l,xs,y,rfl,rfl,hH,hz,q⟩:=h;cases rx;obtain⟨u,rfl,ru⟩:=rv.one;obtain⟨z,its,n,r,hl,e⟩:=I.lstM hH;refine MR F.slot_list_append ⟨_,e,rfl⟩ F.entry_list_append (F.args_list_append_2 _ _) (PySem.list_append l its.toArray n u (by rw[Je];omega)) ⟨e,?_⟩;refine⟨.non,_,I.lset (its':=its++[u]) hH e (by simp) (r.append (.cons ru .nil)) ?_,rfl,q⟩;rw[JQ,List.length_singleton];omega
def uH:V->List V->Hp->VK->Prop:=fun x vs H Q=>∃l xs i k y,x = .ref l/\vs=[.int i]/\H l=some (.lst xs) /\ -(2^63)<=i/\i<2^63/\Px i xs.length=some k/\xs[k]?=some y/\Q y (upd H l (.lst (xs.eraseIdx k)))
theorem sY:Ic X "list.pop" uH:=by
 intro pins s σ H x vs v us Q I rx rv h;obtain⟨l,xs,i,k,y,rfl,rfl,hH,h1,h2,hk,hy,q⟩:=h;cases rx;obtain⟨u,rfl,ru⟩:=rv.one;obtain⟨t,rfl⟩:=ru;obtain⟨z,its,n,r,hl,e⟩:=I.lstM hH;obtain⟨w,hw,rw'⟩:=r.get hy
 refine MR F.slot_list_pop ⟨_,e,rfl⟩ F.entry_list_pop (F.args_list_pop_2 _ _)
  (MeetsSeq.list_pop_at l its.toArray n i t k w (fitsIndex_both h1 h2) (by rw[Je,<- hl];exact hk) (by rw[<- Array.getElem?_toList];exact hw) (by rw[Je];omega)) ⟨e,?_⟩
 refine⟨y,_,I.lset (its':=its.eraseIdx k) hH e ?_ (r.eraseIdx k) ?_,rw',q⟩
 · show its.toArray.eraseIdxIfInBounds k=(its.eraseIdx k).toArray;rw[List.eraseIdxIfInBounds_toArray]
 · have:=jE xs k;omega
def D0:R2:=fun x y H Q=>∃l b xs zs,x = .ref l/\y = .ref b/\H l=some (.lst xs)/\H b=some (.lst zs)/\xs.length+zs.length<=sizeLine/\∀p,H p=none->Q (.ref p) (upd H p (.lst (xs++zs)))
theorem zW:H_ X (LD .Add) D0:=by
 intro pins s σ H x y v u Q I rx ry h;obtain⟨l,b,xs,zs,rfl,rfl,hH,hB,hz,q⟩:=h;cases rx;cases ry;obtain⟨z,its,n,r,hl,e⟩:=I.lstM hH;obtain⟨z2,its2,n2,r2,hl2,e2⟩:=I.lstM hB;refine PySem.P.add_list e e2 ?_ (by rw[Je,Je];omega);have ea:its.toArray++its2.toArray=(its++its2).toArray:=by simp
 rw[ea];exact⟨.ref _,_,I.lnew (t':=s.toks) (r.append r2) (by rw[JQ];omega),rfl,q _ I.fresh⟩
def DW:R2:=fun x y H Q=>∃l k xs,x = .ref l/\y = .int k/\H l=some (.lst xs) /\ -(2^63)<=k/\k<2^63/\xs.length*k.toNat<=sizeLine /\
 ∀p,H p=none->Q (.ref p) (upd H p (.lst (I0 k.toNat xs).flatten))
theorem qt(xs:List α)(k:Nat):(I0 k xs).flatten.length=k*xs.length:=by
 induction k with
 | zero=>simp
 | succ k ih=>rw[Jx,Kr,JQ,ih,NB,Nat.add_comm]
theorem zT:H_ X (LD .Mult) DW:=by
 intro pins s σ H x y v u Q I rx ry h;obtain⟨l,k,xs,rfl,rfl,hH,h1,h2,hz,q⟩:=h;cases rx;obtain⟨t,rfl⟩:=ry;obtain⟨z,its,n,r,hl,e⟩:=I.lstM hH;have hlen:its.toArray.size*k.toNat<=sizeLine:=by rw[Je,<- hl];exact hz
 have hcap:¬its.toArray.size*k.toNat>(2^63-1) / 8:=by
  have:(sizeLine:Nat)<=(2^63-1) / 8:=by decide
  omega
 have hfit:¬(!Builtin.List.listFitsIndex k)=true:=by
  rw[fitsIndex_both h1 h2];exact JB
 have hlong:¬Mu (its.toArray.size*k.toNat)=true:=by
  rw[sV hlen];exact JB
 have hnew:L0 (fun x1 x2=>x1++x2) #[] (I0 (if its.toArray.isEmpty=true then 0 else k.toNat) its.toArray)=(I0 k.toNat its).flatten.toArray:=by
  have f0:∀m:Nat,L0 (fun x1 x2=>x1++x2) #[] (I0 m its.toArray)=(I0 m its).flatten.toArray:=fun m=>by
   have:=foldl_rep its m [];rw[Nl]at this;exact this
  rw[f0]
  cases its with
  | nil=>simp
  | cons a r'=>rw[if_neg (by simp)]
 refine NM (T := "list") (U := "int") (by decide) ⟨_,e,rfl⟩ (fun s'=>OF s' k t) noFill_list_mul F.fills_int_mul F.slot_int_rmul repeat_list F.slot_int_index.lookup
  (MR F.slot_int_rmul (OF s k t) F.entry_int_rmul (F.args_int_rmul_2 _ _) (int___rmul___int_list k t l its.toArray n)
   ⟨e,rfl,⟨_,e,rfl⟩,MR F.slot_list_mul ⟨_,e,rfl⟩ F.entry_list_mul (F.args_list_mul_2 _ _) (AutoListH.list___mul___list_int_3 l its.toArray n k t hfit hcap hlong) ⟨e,?_⟩⟩)
 rw[hnew];exact⟨.ref _,_,I.lnew (t':=s.toks) (r.rep k.toNat) (by rw[qt,Om];exact hz),rfl,q _ I.fresh⟩
end
section
variable{prog:Ju}{w:J_}{A:Kh}{E:IR->IW->Prop}{s:IW}
end
section
variable{X:Cx}
end
section
variable{κ:Type}[DecidableEq κ]
noncomputable def fF(kvs:List (κ×V))(k:κ):Option V:=(kvs.find? fun kv=>decide (kv.1=k)).map (·.2)
noncomputable def dN(kvs:List (κ×V))(k:κ)(v:V):List (κ×V) :=
 if(kvs.any fun kv=>decide (kv.1=k))=true then kvs.map (fun kv=>if kv.1=k then(kv.1,v)else kv)else kvs++[(k,v)]
theorem dF{p:κ×V}{r:List (κ×V)}{k:κ}(e:p.1=k):fF (p::r) k=some p.2:=by simp[fF,Ka,e]
theorem iA{p:κ×V}{r:List (κ×V)}{k:κ}(e:¬p.1=k):fF (p::r) k=fF r k:=by simp[fF,Ka,e]
theorem lC(k:κ):∀kvs:List (κ×V),(kvs.any fun kv=>decide (kv.1=k))=(fF kvs k).isSome
 | []=>rfl
 | p::r=>by
   rw[Nc];by_cases e:p.1=k
   · simp only[dF e,decide_eq_true e,Bool.true_or,NC]
   · rw[iA e,decide_eq_false e,Bool.false_or];exact lC k r
theorem dk(kvs:List (κ×V))(k:κ)(v:V):(dN kvs k v).length<=kvs.length+1:=by
 unfold dN;split
 · rw[IP];omega
 · rw[JQ,JL,My];omega
theorem yb.isSome_eq{o:Option V}{u:Option IR}(r:yb o u):o.isSome=u.isSome:=by
 cases o with
 | none=>cases u with
   | none=>rfl
   | some _=>exact(show False from r).elim
 | some _=>cases u with
   | none=>exact(show False from r).elim
   | some _=>rfl
theorem KV.val{kvs:List (κ×V)}{vs:List (κ×IR)}(r:KV kvs vs)(k:κ):yb (fF kvs k) (O_ vs k):=by
 unfold KV at r
 induction r with
 | nil=>exact Nd
 | @cons p q ps qs h t ih =>
   obtain⟨h1,h2⟩:=h;by_cases e:p.1=k
   · have e':q.1=k:=h1.symm.trans e;have b:O_ (q::qs) k=some q.2:=by simp[O_,Ka,e']
     rw[dF e,b];exact h2
   · have e':¬q.1=k:=fun z=>e (h1.trans z);have b:O_ (q::qs) k=O_ qs k:=by simp[O_,Ka,e']
     rw[iA e,b];exact ih
theorem KV.any{kvs:List (κ×V)}{vs:List (κ×IR)}(r:KV kvs vs)(k:κ):(kvs.any fun kv=>decide (kv.1=k))=vs.any fun kv=>decide (kv.1=k):=by
 unfold KV at r
 induction r with
 | nil=>rfl
 | cons h t ih=>rw[Nc,Nc,ih,h.1]
theorem KV.repl{kvs:List (κ×V)}{vs:List (κ×IR)}(r:KV kvs vs)(k:κ){y:V}(ry:RelV y u) :
 KV (kvs.map fun kv=>if kv.1=k then(kv.1,y)else kv) (vs.map fun kv=>if kv.1=k then(kv.1,u)else kv):=by
 unfold KV at r ⊢
 induction r with
 | nil=>exact .nil
 | @cons p q ps qs h t ih =>
   rw[Jg,Jg];refine .cons ?_ ih;obtain⟨h1,h2⟩:=h;by_cases e:p.1=k
   · rw[if_pos e,if_pos (h1.symm.trans e)];exact⟨h1,ry⟩
   · rw[if_neg e,if_neg (fun z=>e (h1.trans z))];exact⟨h1,h2⟩
theorem KV.put{kvs:List (κ×V)}{vs:List (κ×IR)}(r:KV kvs vs)(k:κ){y:V}(ry:RelV y u):KV (dN kvs k y) (stored vs k u):=by
 unfold dN stored;rw[r.any k];by_cases e:(vs.any fun kv=>decide (kv.1=k))=true
 · rw[if_pos e,if_pos e];exact r.repl k ry
 · rw[if_neg e,if_neg e];exact Kx.snoc r ⟨rfl,ry⟩
theorem KV.length{kvs:List (κ×V)}{vs:List (κ×IR)}(r:KV kvs vs):kvs.length=vs.length:=Kt r
end
theorem nF{k:Ie}(r:RelV (kV k) u):(bL P w).is k u=true:=by
 cases k with
 | inl i=>obtain⟨t,e⟩:=(show ∃t,u=OX i t from r);subst e;exact kU P w i t
 | inr x=>obtain⟨t,e⟩:=(show ∃t,u=Ps x t from r);subst e;exact kS P w x t
theorem jF{P:Ju}{w:J_}:∀{ks:List Ie}{us:List IR},cn (ks.map kV) us->ItemsAre (bL P w) ks us
 | [],_,r=>by rw[ND]at r;cases r;exact .nil
 | k::ks,_,r=>by
   rw[Jg]at r
   cases r with
   | cons h t=>exact .cons (nF h) (jF t)
abbrev KT(H:Hp):List (List Ie×V)->List (List Ie×Addr×IR)->Prop:=Kx fun p q=>p.1=q.1/\H q.2.1=some (.tup (p.1.map kV))/\RelV p.2 q.2.2
theorem KT.val{xs:List (List Ie×Addr×IR)}(r:KT H kvs xs)(k:List Ie):yb (fF kvs k) ((PX xs k).map (·.2)):=by
 induction r with
 | nil=>exact Nd
 | @cons p q ps qs h t ih =>
   obtain⟨h1,_,h2⟩:=h;by_cases e:p.1=k
   · have e':q.1=k:=h1.symm.trans e;have b:PX (q::qs) k=some q.2:=by simp[PX,Ka,e']
     rw[dF e,b];exact h2
   · have e':¬q.1=k:=fun z=>e (h1.trans z);have b:PX (q::qs) k=PX qs k:=by simp[PX,Ka,e']
     rw[iA e,b];exact ih
theorem KT.repl{xs:List (List Ie×Addr×IR)}(r:KT H kvs xs)(k:List Ie){y:V}(ry:RelV y u) :
 KT H (kvs.map fun kv=>if kv.1=k then(kv.1,y)else kv) (xs.map (putAt k u)):=by
 induction r with
 | nil=>exact .nil
 | @cons p q ps qs h t ih =>
   rw[Jg,Jg];refine .cons ?_ ih;obtain⟨h1,h2,h3⟩:=h;unfold putAt;by_cases e:p.1=k
   · rw[if_pos e,if_pos (h1.symm.trans e)];exact⟨h1,h2,ry⟩
   · rw[if_neg e,if_neg (fun z=>e (h1.trans z))];exact⟨h1,h2,h3⟩
theorem KT.put{xs:List (List Ie×Addr×IR)}(r:KT H kvs xs)(k:List Ie){b:Addr}{y:V}(hb:H b=some (.tup (k.map kV)))(ry:RelV y u) :
 KT H (dN kvs k y) (storedH xs k b u):=by
 have e:(kvs.any fun kv=>decide (kv.1=k))=(PX xs k).isSome:=by
  rw[lC,(r.val k).isSome_eq,Option.isSome_map]
 unfold dN storedH;rw[e];by_cases q:(PX xs k).isSome=true
 · rw[if_pos q,if_pos q];exact r.repl k ry
 · rw[if_neg q,if_neg q];exact Kx.snoc r ⟨rfl,hb,ry⟩
theorem KT.keeps{xs:List (List Ie×Addr×IR)}(r:KT H kvs xs)(ht:∀b ys,H b=some (.tup ys)->H' b=some (.tup ys)):KT H' kvs xs :=
 Kx.mapP r fun _ _ z=>⟨z.1,ht _ _ z.2.1,z.2.2⟩
section
variable{P:Ju}{w:J_}{H:Hp}{h:Heap}{a:Addr}
theorem zj{u:HO}(ok:Iw P w H h)(e:Rd H a u):dt P w H h a u:=e.ok ok
theorem tZ{kvs:List (Ie×V)}(ok:Iw P w H h)(e:Rd H a (.dK kvs)):kvs.length<=sizeLine/\(a==Mb)=false/\∃vs,KV kvs vs/\h.DictOf (bL P w) a vs :=
 show dt P w H h a (.dK kvs)from zj ok e
theorem xG{kvs:List (Ie×V)}(ok:Iw P w H h)(e:H a=some (.dK kvs)):kvs.length<=sizeLine/\(a==Mb)=false/\∃vs,KV kvs vs/\h.DictOf (bL P w) a vs:=tZ ok (.inl e)
theorem mh{ks:List Ie}(ok:Iw P w H h)(e:H a=some (.tup (ks.map kV))):(OY (bL P w)).is h ks a:=by
 obtain⟨_,its,r,o,h1,h2,⟨n,h3⟩,_⟩:=(show dt P w H h a (.tup (ks.map kV))from ok a _ e);exact⟨o,its.toArray,n,h1,h2,h3,by simpa using jF r⟩
theorem tX(ok:Iw P w H h)(e:Rd H a (.dT kvs)):kvs.length<=sizeLine/\(a==Mb)=false /\
 ∃xs,KT H kvs xs/\h.DictOfH (OY (bL P w)) a xs:=by
 obtain⟨z,y,xs,r,o,es,ep,h1,h2,h3,h4,h5⟩:=(show dt P w H h a (.dT kvs)from zj ok e);refine⟨z,y,xs,r,o,es,ep,h1,h2,h3,h4,fun x hx=>?_,h5⟩
 have all:∀{l:List (List Ie×V)}{m:List (List Ie×Addr×IR)},KT H l m->∀x∈m,(OY (bL P w)).is h x.1 x.2.1:=by
  intro l m q
  induction q with
  | nil=>intro x hx;exact nomatch hx
  | @cons p q ps qs hq t ih =>
    intro x hx;rcases JV.mp hx with e|hx
    · subst e;exact mh ok (by rw[<- hq.1];exact hq.2.1)
    · exact ih x hx
 exact all r x hx
theorem Ct(ok:Iw P w H h)(e:H a=some (.dT kvs)):kvs.length<=sizeLine/\(a==Mb)=false /\
 ∃xs,KT H kvs xs/\h.DictOfH (OY (bL P w)) a xs:=tX ok (.inl e)
end
def yc(H:Hp)(a:Addr)(y:V)(r:Option V):Prop :=
 (∃kvs k,Rd H a (.dK kvs)/\y=kV k/\r=fF kvs k)\/∃kvs k b,Rd H a (.dT kvs)/\y = .ref b/\H b=some (.tup (k.map kV))/\r=fF kvs k
def CP(H:Hp)(a:Addr)(y v:V)(H':Hp):Prop :=
 (∃kvs k,H a=some (.dK kvs)/\y=kV k/\kvs.length<sizeLine/\H'=upd H a (.dK (dN kvs k v))) \/
 ∃kvs k b,H a=some (.dT kvs)/\y = .ref b/\H b=some (.tup (k.map kV))/\kvs.length<sizeLine/\H'=upd H a (.dT (dN kvs k v))
theorem yc.k{H:Hp}{a:Addr}{kvs:List (Ie×V)}{k:Ie}(e:H a=some (.dK kvs)):yc H a (kV k) (fF kvs k):=.inl ⟨kvs,k,.inl e,rfl,rfl⟩
theorem CP.k{H:Hp}{a:Addr}{kvs:List (Ie×V)}{k:Ie}{v:V}(e:H a=some (.dK kvs))(hl:kvs.length<sizeLine):CP H a (kV k) v (upd H a (.dK (dN kvs k v))):=.inl ⟨kvs,k,e,rfl,hl,rfl⟩
section
variable{X:Cx}{pins:List (Addr×Obj)}{σ:St}{H:Hp}{s:IW}{a:Addr}{y v:V}{u r:IR}{o:Option V}{A:Kh}{E:IR->IW->Prop}
theorem Inv.big(I:Inv X pins σ H s):Mb<s.heap.objs.size:=by
 have h:J4<s.heap.objs.size:=(I.mod.glob.keeps I.bk).lt;exact Nat.lt_trans (by decide) h
theorem qO(hu:A.units+1<O8)(I:Inv X pins σ H s)(g:yc H a y (some v))(ry:RelV y u)(h:∀w' s',Inv X pins σ H s'->RelV v w'->Q w' s') :
 Jn (Jv X.prog X.w) A (Nk (.ref a) u) Q E s:=by
 rcases g with⟨kvs,k,e,ey,l⟩|⟨kvs,k,b,e,ey,eb,l⟩
 · subst ey;obtain⟨z,hd,vs,rel,dd⟩:=tZ I.hok e;obtain⟨w',hw,rw'⟩:=yb.some_of (v:=v) (o:=O_ vs k) (by rw[l];exact rel.val k);exact wpAny_getItem_of (nF ry) dd.mapOf hw (h w' _ (I.tok _) rw')
 · subst ey;cases(show u=Lj b from ry);obtain⟨z,hd,xs,rel,dd⟩:=tX I.hok e;obtain⟨w',hw,rw'⟩:=yb.some_of (v:=v) (o:=(PX xs k).map (·.2)) (by rw[l];exact rel.val k);obtain⟨p,hp,hp2⟩:=MK.mp hw;refine wpAny_getItem_heap (NE hu) (mh I.hok eb) dd hp ?_;rw[hp2];exact h w' _ (I.tok _) rw'
theorem EX(hu:A.units+1<O8)(I:Inv X pins σ H s)(g:yc H a y o)(ry:RelV y u)(h:∀s',Inv X pins σ H s'->Q (.bool o.isSome) s') :
 Jn (Jv X.prog X.w) A (Lk .In u (.ref a)) Q E s:=by
 rcases g with⟨kvs,k,e,ey,l⟩|⟨kvs,k,b,e,ey,eb,l⟩
 · subst ey;obtain⟨z,hd,vs,rel,dd⟩:=tZ I.hok e;refine wpAny_in_of (nF ry) hd dd.mapOf ?_;rw[<- (rel.val k).isSome_eq,<- l];exact h _ (I.tok _)
 · subst ey;cases(show u=Lj b from ry);obtain⟨z,hd,xs,rel,dd⟩:=tX I.hok e;refine wpAny_in_heap (NE hu) (mh I.hok eb) hd dd ?_;have q:=(rel.val k).isSome_eq;rw[Option.isSome_map]at q;rw[<- q,<- l];exact h _ (I.tok _)
theorem gG{ob:HO}(I:Inv X pins σ H s)(mu:Ia (H a))(hs:Lg a s.heap h')(he:∃q,h'.get? a=some q)(new:dt X.prog X.w (upd H a ob) h' a ob) :
 Inv X pins σ (upd H a ob) {s with heap:=h',toks:=t' } :=
 I.write (x:=a) (e:=a) mu (.inl rfl) (fun b q hb z=>(hs.2 b hb).trans z) he new
theorem dk_new{kvs:List (Ie×V)}{vs:List (Ie×IR)}(z:kvs.length<=sizeLine)(hd:(a==Mb)=false)(rel:KV kvs vs)(dd:h'.DictOf (bL P w) a vs) :
 dt P w H' h' a (.dK kvs):=⟨z,hd,vs,rel,dd⟩
theorem qN{Q:Unit->IW->Prop}(hu:A.units+1<O8)(I:Inv X pins σ H s)(g:CP H a y v H')(ry:RelV y u)(rv:RelV v r)(h:∀s',Inv X pins σ H' s'->Q () s') :
 Jn (Jv X.prog X.w) A (PR (.ref a) u r) Q E s:=by
 rcases g with⟨kvs,k,e,ey,l,eH⟩|⟨kvs,k,b,e,ey,eb,l,eH⟩
 · subst ey eH;obtain⟨z,hd,vs,rel,dd⟩:=xG I.hok e;have hz:vs.length<=sizeLine:=by rw[<- rel.length];exact z
   have hl:(dN kvs k v).length<=sizeLine:=by have:=dk kvs k v;omega
   refine wpAny_setItem_pairs (hsz:=hz) (nF ry) dd fun h' dd' hs=>h _ ?_;have he:∃q,h'.get? a=some q:=let ⟨q,_,_,hq,_⟩:=dd';⟨q,hq⟩
   exact gG I (by rw[e];exact Nd) hs he (dk_new hl hd (rel.put k rv) dd')
 · subst ey eH;cases(show u=Lj b from ry);obtain⟨z,hd,xs,rel,dd⟩:=Ct I.hok e;have hz:xs.length<=sizeLine:=by rw[<- Kt rel];exact z
   have hl:(dN kvs k v).length<=sizeLine:=by have:=dk kvs k v;omega
   refine wpAny_setItem_heap (hsz:=hz) (NE hu) (mh I.hok eb) dd fun h' dd' hs=>h _ ?_;obtain⟨q,es,ep,hq,h2,h3,h4,_,h5⟩:=dd';refine gG I (by rw[e];exact Nd) hs ⟨q,hq⟩ ⟨hl,hd,_,(rel.put k eb rv).keeps fun c ys ec=>?_,q,es,ep,hq,h2,h3,h4,h5⟩;rw[ar (B0 ec e (fun z=>nomatch z))];exact ec
end
section
variable{X:Cx}{pins:List (Addr×Obj)}{σ:St}{H:Hp}{s:IW}{a:Addr}{kvs:List (Ie×V)}{k:Ie}{u:IR}{A:Kh}{E:IR->IW->Prop}
end
def vd(i:Expr):Prop:=∀ov iv,OQ i false ov iv=operate [ov,iv] (Nk ov iv)
theorem v_{prog:Ju}{env:Env}{value slice:Expr}{T id:String}
 (hl:OD (.type T) "__getitem__" = pure (some (.builtin id)))(hs:vd slice)
 (h:Jn (Jv prog w) A (eval value env) (fun o s₁=>Jn (Jv prog w) A (eval slice env) (fun i s₂=>s₂.TypeIs o T/\Jn (Jv prog w) A (Nk o i) Q E s₂) E s₁) E s) :
 Jn (Jv prog w) A (eval (.Subscript value slice pos) env) Q E s:=by
 refine O9 (JJ h (fun o s₁ h₁=>JJ h₁ (fun i s₂ h₂=>?_) fun _ _ x=>x) fun _ _ x=>x);obtain⟨hT,h₂⟩:=h₂;unfold O3;refine IK ?_;rw[getitemInPython_of_ne hT.not_modules];refine IK (Nm hT hl ?_)
 have fin:Jn (Jv prog w) A (OQ slice false o i) (fun r s₃=>Jn (Jv prog w) A (letTemporaryGo value o r >>= fun _=>pure r) Q E s₃) E s₂:=by
  rw[hs o i];exact wpAny_operating (JJ h₂ (fun r s₃ h₃=>IK (wpAny_letTemporaryGo (IU h₃))) fun _ _ x=>x)
 first
  | exact IU (IK fin)
  | exact IK (IU (IK fin))
  | exact IK fin
theorem lh{y:V}{o:Option V}(I:Inv X pins σ H s)(g:yc H a y o):s.TypeIs (.ref a) "dict" := by
 rcases g with⟨kvs,k,e,_,_⟩|⟨kvs,k,b,e,_,_,_⟩
 · obtain⟨_,_,vs,_,dd⟩:=tZ I.hok e;exact dd.typeIs
 · obtain⟨_,_,xs,_,dd⟩:=tX I.hok e;exact dd.typeIs
def yV(td ty:TE):TE:=fun σ H Q=>td σ H fun x H1=>ty σ H1 fun y H2=>∃a v,x = .ref a/\yc H2 a y (some v)/\Q v H2
def EA(ty td:TE):TE:=fun σ H Q=>ty σ H fun y H1=>td σ H1 fun x H2=>∃a o,x = .ref a/\yc H2 a y o/\Q (.bl o.isSome) H2
def BO(td ty tv:TE):TS:=fun D σ H=>tv σ H fun v H1=>td σ H1 fun x H2=>ty σ H2 fun y H3=>∃a H4,x = .ref a/\CP H3 a y v H4/\D.nx σ H4
section
variable{X:Cx}{o i e value:Expr}{pos pos' tpos:Pos}{td ty tv:TE}
theorem gf(hu:X.A.units+1<O8)(ho:PE X o td)(hi:PE X i ty)(hs:vd i):PE X (.Subscript o i pos) (yV td ty):=by
 intro pins s σ H Q I h;refine v_ PySem.F.slot_dict_getitem.lookup hs (FX (ho pins s σ H _ I h) fun u s1 ⟨x,H1,I1,rx,q1⟩=>FX (hi pins s1 σ H1 _ I1 q1) fun iv s2 ⟨y,H2,I2,ry,a,v,ex,g,q2⟩=>?_);subst ex;obtain rfl:u=Lj a:=rx;exact⟨lh I2 g,qO hu I2 g ry fun w' s3 I3 rw'=>⟨v,H2,I3,rw',q2⟩⟩
theorem zM(hu:X.A.units+1<O8)(hi:PE X i ty)(ho:PE X o td):PC X .In i o (EA ty td):=by
 intro pins s σ H Q I h;refine FX (hi pins s σ H _ I h) fun iv s1 ⟨y,H1,I1,ry,q1⟩=>FX (ho pins s1 σ H1 _ I1 q1) fun u s2 ⟨x,H2,I2,rx,a,ov,ex,g,q2⟩=>?_;subst ex;obtain rfl:u=Lj a:=rx;exact EX hu I2 g ry fun s3 I3=>⟨.bl ov.isSome,H2,I3,rfl,q2⟩
theorem kN(hu:X.A.units+1<O8)(ho:PE X o td)(hi:PE X i ty)(hv:PE X value tv)(hs:K0 value (some (.Subscript o i pos')) pos.line X.env=pure false) :
 PS X (.Assign [.Subscript o i pos'] value pos) (BO td ty tv):=by
 intro pins s σ H D I h;refine wpAny_Assign_Subscript (FX (hv pins s σ H _ I h) fun r s1 ⟨v,H1,I1,rv,q1⟩=>FX (ho pins s1 σ H1 _ I1 q1) fun u s2 ⟨x,H2,I2,rx,q2⟩=>FX (hi pins s2 σ H2 _ I2 q2) fun iv s3 ⟨y,H3,I3,ry,a,H4,ex,g,q3⟩=>?_) hs;subst ex;obtain rfl:u=Lj a:=rx;exact qN hu I3 g ry rv fun s4 I4=>⟨σ,H4,I4,q3⟩
end
theorem fM(h:Heap)(hb:Mb<h.objs.size):dt P w H (h.push {cls:=.type "dict", data:=.dict #[]}) h.objs.size (.dK []) :=
 ⟨Kc _,beq_eq_false_iff_ne.mpr (MO (JP hb)),[],.nil,Heap.DictOf.new h⟩
def yU:TE:=fun _ H Q=>∀p,H p=none->Q (.ref p) (upd H p (.dK []))
section
variable{X:Cx}{pos:Pos}
theorem sR:PE X (.Dict [] [] pos) yU:=fun pins s σ H Q I h =>
 wpAny_Dict_empty ⟨.ref s.heap.objs.size,_,I.laid (a:=s.heap.objs.size) (o:=.dK []) (t':=s.toks) (fun _ _ q=>IQ _ q) (I_ _) (fM s.heap I.big),rfl,h _ (I.hok.fresh (I_ _))⟩
end
def oW:List (TE×TE)->St->Hp->(List (V×V)->Hp->Prop)->Prop
 | [],_,H,Q=>Q [] H
 | (tk,tv)::r,σ,H,Q=>tk σ H fun x H1=>tv σ H1 fun y H2=>oW r σ H2 fun ps H3=>Q ((x,y)::ps) H3
abbrev VV:List (V×V)->List (IR×IR)->Prop:=Kx fun p q=>RelV p.1 q.1/\RelV p.2 q.2
def HU(X:Cx)(pos:Pos)(keys:List (Option Expr))(values:List Expr)(trs:List (TE×TE)):Prop :=
 ∀ (pins:List (Addr×Obj))(s:IW)(σ:St)(H:Hp)(Q:List (V×V)->Hp->Prop),Inv X pins σ H s->oW trs σ H Q ->
   Jn (Jv X.prog X.w) X.A (evalPairs (pairTrees keys values X.env pos)) (fun vs s'=>∃ps H',Inv X pins σ H' s'/\VV ps vs/\Q ps H') X.xe s
theorem pM:HU X pos [] [] []:=fun pins s σ H Q I h=>pairTrees_nil_walk ⟨[],H,I,.nil,h⟩
theorem db{k v:Expr}{ks:List (Option Expr)}{vs:List Expr}{tk tv:TE}{trs:List (TE×TE)}(hk:PE X k tk)(hv:PE X v tv)(hr:HU X pos ks vs trs) :
 HU X pos (some k::ks) (v::vs) ((tk,tv)::trs):=fun pins s σ H Q I h =>
 pairTrees_cons_walk (FX (hk pins s σ H _ I h) fun u s1 ⟨x,H1,I1,rx,q1⟩=>FX (hv pins s1 σ H1 _ I1 q1) fun w2 s2 ⟨y,H2,I2,ry,q2⟩ =>
  FX (hr pins s2 σ H2 _ I2 q2) fun ws s3 ⟨ps,H3,I3,rel,q3⟩=>⟨(x,y)::ps,H3,I3,.cons ⟨rx,ry⟩ rel,q3⟩)
noncomputable def eL(kvs more:List (Ie×V)):List (Ie×V):=more.foldl (fun acc kv=>dN acc kv.1 kv.2) kvs
theorem KV.merge:∀{more:List (Ie×V)}{rs:List (Ie×IR)}{kvs:List (Ie×V)}{vs:List (Ie×IR)},KV more rs->KV kvs vs->KV (eL kvs more) (merged vs rs):=by
 intro more rs kvs vs r;unfold KV at r
 induction r generalizing kvs vs with
 | nil=>intro q;exact q
 | @cons p q ps qs h t ih =>
   intro r0
   have e:KV (dN kvs p.1 p.2) (stored vs q.1 q.2):=by
    have:=r0.put p.1 h.2;rw[<- h.1];exact this
   exact ih e
theorem eN:∀(more kvs:List (Ie×V)),(eL kvs more).length<=kvs.length+more.length
 | [],kvs=>by show kvs.length<=kvs.length+0;omega
 | p::r,kvs=>by
   have h1:=eN r (dN kvs p.1 p.2);have h2:=dk kvs p.1 p.2;show(eL (dN kvs p.1 p.2) r).length<=_;rw[JL];omega
theorem im{P:Ju}{w:J_}:∀{kvs:List (Ie×V)}{ws:List (IR×IR)},VV (kvs.map fun kv=>(kV kv.1,kv.2)) ws->∃rs,Carries (bL P w) ws rs/\KV kvs rs
 | [],_,r=>by rw[ND]at r;cases r;exact⟨[],Nd,.nil⟩
 | p::kvs,_,r=>by
   rw[Jg]at r
   cases r with
   | @cons a b as bs h t =>
     obtain⟨rs,c,q⟩:=im (P:=P) (w:=w) t;obtain⟨b1,b2⟩:=b;exact⟨(p.1,b2)::rs,⟨nF h.1,rfl,c⟩,.cons ⟨rfl,h.2⟩ q⟩
def BK(trs:List (TE×TE)):TE:=fun σ H Q=>∀p,H p=none->oW trs σ (upd H p (.dK [])) fun ps H2=>H2 p=some (.dK [])/\∃kvs:List (Ie×V),ps=kvs.map (fun kv=>(kV kv.1,kv.2))/\kvs.length<=15/\Q (.ref p) (upd H2 p (.dK (eL [] kvs)))
theorem pW{keys:List (Option Expr)}{values:List Expr}{trs:List (TE×TE)}(h:HU X pos keys values trs)(hall:keys.all (·.isSome)=true)(hl:keys.length=values.length)(h0:keys≠[])
 (h15:keys.length<=15):PE X (.Dict keys values pos) (BK trs):=by
 intro pins s σ H Q I q;have hn:=I.hok.fresh (I_ s.heap.objs.size);have I1:=I.laid (a:=s.heap.objs.size) (o:=.dK []) (h':=s.heap.push {cls:=.type "dict", data:=.dict #[]}) (t':=s.toks) (fun _ _ q=>IQ _ q) (I_ _) (fM s.heap I.big);refine wpAny_Dict_walk (knd:=bL X.prog X.w) hall hl h0 h15 (FX (h pins _ σ _ _ I1 (q _ hn)) fun ws s2 ⟨ps,H2,I2,rel,e,kvs,ep,lk,q2⟩=>?_);subst ep;obtain⟨rs,c,rk⟩:=im (P:=X.prog) (w:=X.w) rel;obtain⟨z,hd,vs0,r0,dd⟩:=xG I2.hok e;cases r0;refine⟨rs,c,dd,fun h' dd' hs=>⟨.ref s.heap.objs.size,_,?_,rfl,q2⟩⟩
 have hz:(eL [] kvs).length<=sizeLine:=by
  have h1:=eN kvs [];rw[My]at h1;rw[Pu];omega
 have he:∃q,h'.get? s.heap.objs.size=some q:=let ⟨q,_,_,hq,_⟩:=dd';⟨q,hq⟩
 exact gG I2 (by rw[e];exact Nd) hs he (dk_new hz hd (rk.merge .nil) dd')
section
variable{X:Cx}{pins:List (Addr×Obj)}{σ:St}{H:Hp}{s:IW}{a:Addr}{y d:V}{u r:IR}{o:Option V}{A:Kh}{E:IR->IW->Prop}
end
section
variable{X:Cx}{o e f:Expr}{apos cpos:Pos}{td ty tx:TE}
end
section
variable{X:Cx}{pins:List (Addr×Obj)}{σ:St}{H:Hp}{s:IW}{a:Addr}{kvs:List (Ie×V)}{A:Kh}{E:IR->IW->Prop}
end
section
variable{X:Cx}{pins:List (Addr×Obj)}{σ:St}{H:Hp}{s:IW}{a:Addr}{y:V}{u:IR}{A:Kh}{E:IR->IW->Prop}
end
end L2
namespace Att
open PySem PySem.W PySem.Calls PyProof.Rows
theorem gB{P:PP}:∀(ns:List Int)(vs:List IR),WellAll P h vs (ns.map WData.int)->OR vs ns:=by
 intro ns
 induction ns with
 | nil =>
   intro vs w;rw[ND]at w;cases w
   exact .nil
 | cons n ns ih =>
   intro vs w;rw[Jg]at w
   cases w with
   | cons a b =>
     cases a;exact .cons _ _ (ih _ b)
theorem pd{l:PQ}(hn:l.most=some n){P:PP}{args:List WData}{vals:List IR}
 (hpre:l.row.toRowW.claim.pre args=true)(hwl:WellAll P h vals args) :
 ∃a vs ns,vals=[Lj a]/\args=[WData.list (ns.map WData.int)]/\h.get? a=some {cls:=.type "list", data:=.seq vs.toArray}/\OR vs ns/\ns.length<=n:=by
 have hsh:WShape.hasAll [] args [.list .int]=true:=(pre_splitW hpre).1;have hc:l.pre.holds [] {args:=args}=true:=(pre_splitW hpre).2;obtain⟨d,r,rfl,h1,h2⟩:=hasAllW_cons hsh;obtain rfl:=hasAllW_nil h2;obtain⟨xs,rfl,h3⟩:=hasW_list h1;obtain⟨ns,rfl⟩:=items_int h3
 have hlen:ns.length<=n:=by
  unfold PQ.pre at hc
  have h4:(WTm.not (.lt (.lit (.int (n:Int))) (.len (.arg 0)))).holds [] {args:=[.list (ns.map .int)]}=true:=by
   have h4:=(holds_andW hc).1;rw[hn]at h4;exact h4
  have h5:=condW_of h4 (w_not (w_lt w_lit (w_len_list (w_arg rfl))));rw[IP]at h5;refine Nat.le_of_not_lt fun q=>?_;have q':(n:Int)<((ns.length:Nat):Int):=by omega
  first
   | (rw[decide_eq_true q']at h5;exact absurd h5 (by decide))
   | (simp at h5;omega)
 cases hwl with
 | cons w1 w2 =>
   cases w2
   cases w1 with
   | list ho hall=>exact⟨_,_,ns,rfl,rfl,ho,gB ns _ hall,hlen⟩
theorem pN(l:PQ)(args:List WData):l.row.toRowW.claim.post args (.bool true) args=true :=
 postW_of (r:=l.row.toRowW) (X:=(true==true))
  (show WShape.has [] (.bool true) .bool=true by first|rfl|decide|simp[WShape.has,WShape.arms,WShape.armsAll])
  (show(WTm.eq .res (.lit (.bool true))).value [] {args:=args,res:=some (.bool true),after:=args}=some (.bool (true==true))from w_eq_bool (w_res rfl) w_lit) rfl
theorem attach_call{l:PQ}{q:Ju}{loose:List Str}{XP:(Str->Option IR)->Heap->Prop}{YP:J_->Heap->Prop}{d:DefRec}
 (hn:l.most=some n)(hdf:d.params.defaults=[])
 (call:∀(w:J_)(s₀ s₁:IW)(mg mb:Str->Option IR)(fa:Addr)(o:Obj)(pm cd doc:IR)(a:Addr)(vs:List IR)(ns:List Int),
  Ground q loose [] XP w s₀ mg mb s₁.heap->YP w s₁.heap ->
  s₁.heap.get? fa=some o->o.data = .func (docDef d.name d.params d.body d.scope pm cd doc)->s₁.heap.CodeRec cd d.name->mg d.name=some (.ref fa) ->
  s₁.heap.get? a=some {cls:=.type "list", data:=.seq vs.toArray}->OR vs ns->ns.length<=n->s₁.gens = #[] ->
  Lo (Jv l.prog w) Pa (.call (.ref fa) ⟨[.ref a],[]⟩) (fun r s'=>r = .ok (.ret (.bool true))/\OldK s₁.heap s'.heap/\s'.os=s₁.os/\OM s'.gens) s₁) :
 WalkO q loose XP YP l.row.toRowW d [] (fun f vs=>PySem.call f vs):=by
 intro w s₀ s₁ mg mb G Y fa o pm cd doc dV kV ho hd hcd hD hmg hg args vals as hpre hlay hrd hwl hlo;obtain rfl:dV = .none:=Dflts.none hD hdf;obtain rfl:kV = .none:=Dflts.noKw hD;obtain⟨a,vs,ns,rfl,rfl,hobj,hints,hlen⟩:=pd hn hpre hwl;refine enter_call (Nx (call w s₀ s₁ mg mb fa o pm cd doc a vs ns G Y ho (fd_plain hd) hcd hmg hobj hints hlen hg) fun r s' hq=>?_);obtain⟨rfl,h2,h3,h4⟩:=hq;exact⟨.inl ⟨.bool true,.bool true,[],rfl,fun _=>rfl,.bool true,pN l _,fun _=>⟨O4.nil,fun _ hm=>(nomatch hm)⟩⟩,h2,h3,h4⟩
section
variable{prog:Ju}{w:J_}{A:Kh}{E:IR->IW->Prop}{s:IW}{K:Frag}
end
end Att
namespace L2
theorem je:∀{vs:List IR}{ns:List Int},OR vs ns->cn (ns.map V.int) vs
 | _,_,.nil=>.nil
 | _,_,.cons n t h=>.cons ⟨t,rfl⟩ (je h)
def CJ(H:Hp):Prop:=∀b,H b=none\/∃o xs,H b=some (.frz o (.lst xs))
theorem tw{K:W.Frag}{mg mb:Str->Option IR}{CX:Iz}{k:Nat}{fa:Addr}{x:Str}{sp:Sp}{s₁:IW}{vs:List IR}{ns:List Int}
 (KX:K.In s₁.heap)(hns:s₁.heap.Ns J4 mg)(hb:s₁.heap.Ns builtinsNs mb)(hbb:∀x:Str,x ≠ "__name__" -> mb x=L3 x)(hlim:s₁.heap.NoLimit)(hg:s₁.gens = #[])
 (ha:s₁.heap.get? a=some {cls:=.type "list", data:=.seq vs.toArray})(hi:OR vs ns)(hl:ns.length<=sizeLine)(hr:Room k Pa)
 (F:∀base:Heap,K.In base->base.Ns J4 mg->FnOk P w K mg base CX k fa fd [x] sp)(hbind:∀(s:IW)(u:IR),Pw s fd ⟨[u],[]⟩ [(x,u)])
 (hsp:∀H:Hp,CJ H->HH K H a (ns.map V.int)->sp [.ref a] H (fun v _=>v = .bl true) fun _ _ _=>False)
 (hCX:∀H e s',CX [] H s₁ (fun _ _ _=>False) e s'->False) :
 Lo (Jv P w) Pa (.call (.ref fa) ⟨[.ref a],[]⟩) (fun r s'=>r = .ok (.ret (.bool true))/\OldK s₁.heap s'.heap/\s'.os=s₁.os/\OM s'.gens) s₁:=by
 have rv:=je hi;have lenV:=hi.length
 have core:∀H:Hp,CJ H->HH K H a (ns.map V.int)->Iw P w H s₁.heap->(∀b,H b≠none->b=a)->(H a≠none->K.lookup a=none) ->
  Lo (Jv P w) Pa (.call (.ref fa) ⟨[.ref a],[]⟩) (fun r s'=>r = .ok (.ret (.bool true))/\OldK s₁.heap s'.heap/\s'.os=s₁.os/\OM s'.gens) s₁:=by
  intro H hO hS hok hA hK;have base_of:∀{b:Addr}{o:Obj},s₁.heap.get? b=some o->H b=none->(tJ s₁.heap H).get? b=some o:=fun e n=>tI e n
  have noA:∀{b:Addr}{o:Obj}{es:Array DictEntry}{ep:Nat},s₁.heap.get? b=some o->o.data = .dict es ep->H b=none:=fun{b o es ep} e d=>by
   cases q:H b with
   | none=>rfl
   | some u =>
     have e':b=a:=hA b (by rw[q];simp);subst e';rw[ha]at e;cases e;have d':Data.seq vs.toArray _=Data.dict es ep:=d;cases d'
  have nsK:∀{b:Addr}{m:Str->Option IR},s₁.heap.Ns b m->(tJ s₁.heap H).Ns b m:=fun{b m} ⟨o,es,ep,e,d,r⟩=>⟨o,es,ep,base_of e (noA e d),d,r⟩
  have hKb:K.In (tJ s₁.heap H):=fun b o e=>base_of (KX b o e) (by
   cases q:H b with
   | none=>rfl
   | some u =>
     have e':b=a:=hA b (by rw[q];simp);subst e'
     rw[hK (by rw[q];simp)]at e;cases e)
  have hM:Mod K mg (tJ s₁.heap H):=⟨hKb,nsK hns,⟨mb,nsK hb,hbb⟩,let ⟨mc,h1,h2⟩:=hlim;⟨mc,nsK h1,h2⟩⟩;have e0:Env0 P w K mg (tJ s₁.heap H) Pa [] s₁ H:=⟨rfl,hM,fun b o e=>w_ e,Nat.le_of_eq (qC _ _),trivial,fun b hb=>absurd (show b∈([]:List Addr)from hb) (by simp),hok,.of_eq hg⟩;refine Nx ((F _ hKb (nsK hns)).run Pa [] s₁ H ⟨[.ref a],[]⟩ [.ref a] [.ref a] _ _ hr e0 (hbind s₁ (.ref a)) (.cons rfl .nil) (hsp H hO hS)) fun r s' h=>?_
  cases r with
  | error e=>exact(hCX H e s' h).elim
  | ok fl =>
    cases fl with
    | next=>exact J7 h
    | brk=>exact J7 h
    | cont=>exact J7 h
    | ret u =>
      obtain⟨v,H',os,bare,un,hok',r',q⟩:=h;have q':v = .bl true:=q;subst q';obtain rfl:u=IR.bool true:=r';refine⟨rfl,OldK.of_keep fun b o e=>?_,os,bare⟩
      cases q:H b with
      | none=>exact un.keep b o e q (by intro z;exact absurd (show b∈([]:List Addr)from z) (by simp)) (by simp)
      | some u =>
        rcases hO b with z|⟨ob,xs,z⟩
        · rw[q]at z;cases z
        · have z2:=un.frzs b ob _ z;obtain⟨e1,_⟩:=hok b _ z;obtain⟨e2,_⟩:=hok' b _ z2;rw[e]at e1;cases e1;exact e2
 cases hk:K.lookup a with
 | some o =>
   have e:=KX a o hk;rw[ha]at e;cases e
   refine core (fun _=>none) (fun _=>.inl rfl) (.inr ⟨_,vs.toArray,_,hk,rfl,rfl,rfl,by rw[Je,lenV];exact hl,by simpa using rv⟩) (fun b u z=>by have z':(none:Option HO)=some u:=z;cases z') (fun b z=>absurd rfl z) fun z=>absurd rfl z
 | none =>
   refine core (fun b=>if b=a then some (.frz {cls:=.type "list", data:=.seq vs.toArray} (.lst (ns.map V.int)))else none) (fun b=>?_) (.inl (.inr ⟨{cls:=.type "list", data:=.seq vs.toArray},if_pos rfl⟩)) (fun b u z=>?_) (fun b z=>?_) fun _=>hk
   · by_cases hb:b=a
     · exact .inr ⟨_,_,if_pos hb⟩
     · exact .inl (if_neg hb)
   · by_cases hb:b=a
     · have z':=(if_pos hb).symm.trans z;cases z';subst hb;exact⟨ha,by rw[IP];exact hl,vs,_,rv,ha⟩
     · have z':=(if_neg hb).symm.trans z;cases z'
   · by_cases hb:b=a
     · exact hb
     · exact absurd (if_neg hb) z
theorem walk_of{l:W.OpenLaw}{k:Nat}{q:Ju}{loose:List Str}{XP:(Str->Option IR)->Heap->Prop}{YP:J_->Heap->Prop}{d:DefRec}{K:PP->W.Frag}{CX:J_->Iz}{sp:J_->Sp}{x:Str}
 (hn:l.most=some n)(hn2:n<=sizeLine)(hdf:d.params.defaults=[])(hr:Room k Pa)
 (hY:∀(w:J_)(h:Heap),YP w h->(K w.params).In h)
 (F:∀(w:J_)(mg:Str->Option IR)(fa:Addr)(h:Heap),(K w.params).In h->h.Ns J4 mg->mg d.name=some (.ref fa) ->
  ∃ fd:LF,(∀(s:IW)(u:IR),Pw s fd ⟨[u],[]⟩ [(x,u)]) /\
    ∀base:Heap,(K w.params).In base->base.Ns J4 mg->FnOk l.prog w (K w.params) mg base (CX w) k fa fd [x] (sp w))
 (hsp:∀(w:J_)(H:Hp)(a:Addr)(ns:List Int),ns.length<=n->CJ H->HH (K w.params) H a (ns.map V.int)->sp w [.ref a] H (fun v _=>v = .bl true) fun _ _ _=>False)
 (hCX:∀(w:J_)(H:Hp)(s:IW)(e:IR)(s':IW),CX w [] H s (fun _ _ _=>False) e s'->False) :
 W.WalkO q loose XP YP l.row.toRowW d [] (fun f vs=>PySem.call f vs):=by
 refine Att.attach_call hn hdf fun w s₀ s₁ mg mb fa o pm cd doc a vs ns G Y ho hd hcd hmg hobj hints hlen hg=>?_;have KX:=hY w _ Y;obtain⟨fd,hb,hF⟩:=F w mg fa _ KX G.T.g hmg;exact tw KX G.T.g G.T.b G.T.builtins G.T.nolimit hg hobj hints (Ks hlen hn2) hr hF hb (fun H hO hS=>hsp w H a ns hlen hO hS) fun H e s'=>hCX w H s₁ e s'
abbrev IA:Iz:=fun _ _ _ _ _ _=>False
abbrev E0:XK:=fun _ _ _=>False
theorem pY:rJ IA X E0:=fun _ _ _ _ _ _ _ h=>h.elim
structure Fun (K:W.Frag) (x qual:Str) (st:Stmt) (f:Addr) (fd:LF):Prop where
 ex:∃(oc:IR)(od:Option Addr)(kV doc pm:IR)(an:Option Addr)(cdv ct:IR)(osl:Array (Option IR)),
  fd=W.fnOf x qual (defArgs st) (defBody st) (defScope st) .none kV doc pm an cdv ct/\K.lookup f=some ⟨oc,od,.func fd,osl⟩/\W.codeIn K cdv qual=true
 kp:W.keepIn K (.ref f)=true
section
variable{P:Ju}{w:J_}{K:W.Frag}{mg:Str->Option IR}{base:Heap}
theorem Fun.ok{x qual:Str}{st:Stmt}{N ps:List Str}{k:Nat}{sp:Sp}(F:Fun K x qual st f fd)(S:FnScope N ps (defScope st))(len:∀vs H Q E,sp vs H Q E->vs.length=ps.length)
 (hbody:∀(cdv:IR)(A:Kh)(outer:List Env)(s:IW)(H:Hp)(vs:List V)(Q:VK)(E:XK),Room k (A.deeper (NR qual (defScope st) s.heap.objs.size f cdv))->sp vs H Q E ->
  ∃t,HR (nX IA P w K mg base N qual (defScope st) f cdv A outer s H E).nox (defBody st) t/\t {nx:=fun _ H'=>Q .non H',rt:=Q} (start N vs) H):FnOk P w K mg base IA (k+1) f fd ps sp:=by
 obtain⟨oc,od,kV,doc,pm,an,cdv,ct,osl,rfl,lk,hcd⟩:=F.ex;refine Cq lk hcd S len fun A outer s H vs Q E hr hsp=>?_;obtain⟨t,h,q⟩:=hbody cdv A outer s H vs Q E hr hsp;exact⟨t,h.nox,q⟩
theorem Fun.binds{x qual:Str}{st:Stmt}{ps:List Str}(F:Fun K x qual st f fd)
 (h:∀(kV doc pm:IR)(an:Option Addr)(cdv ct:IR)(us:List IR),us.length=ps.length->bindArgs (W.fnOf x qual (defArgs st) (defBody st) (defScope st) .none kV doc pm an cdv ct) ⟨us,[]⟩=pure (ps.zip us)):Binds K fd ps []:=by
 obtain⟨oc,od,kV,doc,pm,an,cdv,ct,osl,rfl,lk,hcd⟩:=F.ex;exact .all (h kV doc pm an cdv ct)
theorem qH{x qual:Str}{st:Stmt}{oc:IR}{od an:Option Addr}{osl:Array (Option IR)}{kV doc pm cdv ct:IR}(l:K.lookup f=some ⟨oc,od,.func (W.fnOf x qual (defArgs st) (defBody st) (defScope st) .none kV doc pm an cdv ct),osl⟩)
 (c:W.codeIn K cdv qual=true)(k:W.keepIn K (.ref f)=true):Fun K x qual st f (W.fnOf x qual (defArgs st) (defBody st) (defScope st) .none kV doc pm an cdv ct):=⟨⟨oc,od,kV,doc,pm,an,cdv,ct,osl,rfl,l,c⟩,k⟩
end
theorem nG{k:Nat}(hr:Room k A):A.units+1<O8:=Lw (Nat.add_le_add_left (by decide:1<=64) _) hr.units
theorem jm(h:n<=1000):n<sizeLine:=Lw h (by decide)
section
variable{X:Cx}
theorem pv(i:Nat){x:Str}(hN:X.N[i]?=some x:=by rfl)(hv:Hv X.env.scope x:=by first|exact Kz rfl|exact J0 (Kz rfl)|exact J0 (J0 rfl))(hd:(x==("__debug__" : Str))=false:=by decide)
 (hcd:(x==("__classdict__" : Str))=false:=by decide):PE X (.Name x pos) (x6 i):=cu hN hv hd hcd
end
def bE(H H':Hp):Prop:=∀b o,H b=some o->H' b=some o
theorem bE.refl(H:Hp):bE H H:=fun _ _ h=>h
theorem bE.trans{H1 H2:Hp}(a:bE H H1)(b:bE H1 H2):bE H H2:=fun c o h=>b c o (a c o h)
theorem bE.free(e:bE H H'){l:Addr}(h:H' l=Option.none):H l=Option.none:=by
 cases q:H l with
 | none=>rfl
 | some o =>
   rw[e l o q]at h;cases h
section
variable{X:Cx}
end
section
variable{κ:Type}[DecidableEq κ]
end
end L2
namespace L2.VL
structure RlT where
 a:Option Addr
 b:Nat
abbrev RlT.no:RlT:=⟨none,0⟩
abbrev RlT.at'(r:Addr)(b:Nat):RlT:=⟨some r,b⟩
def BM:Nat:=2^50000
def RO(b:Nat)(_:Hp)(o:HO):Prop:=∃(c l t:Int),o = .dK [(LA "cell", .int c),(LA "left", .int l),(LA "turn", .int t)]/\0<=l/\0<=t/\t+b<2^59990
theorem RO.mono{b:Nat}{o:HO}(s:bE F F')(h:RO b F o):RO b F' o:=h
theorem RO.pay{b b':Nat}{o:HO}(s:b'<=b)(h:RO b F o):RO b' F o:=by
 obtain⟨c,l,t,e,h1,h2,h3⟩:=h;exact⟨c,l,t,e,h1,h2,by omega⟩
mutual
inductive Rep (K:W.Frag) (F:Hp):V->IJ->Prop
 | non:Rep K F .non .none
 | bl (b:Bool):Rep K F (.bl b) (.bool b)
 | int (i:Int):Rep K F (.int i) (.int i)
 | str (x:Str):Rep K F (.str x) (.str x)
 | tup {a:Addr} {vs:List V} {ds:List IJ}:HG K F a vs->Reps K F vs ds->Rep K F (.ref a) (.tuple ds)
 | lst {a:Addr} {vs:List V} {ds:List IJ}:F a=some (.lst vs)->Reps K F vs ds->Rep K F (.ref a) (.list ds)
inductive Reps (K:W.Frag) (F:Hp):List V->List IJ->Prop
 | nil:Reps K F [] []
 | cons {v:V} {d:IJ} {vs:List V} {ds:List IJ}:Rep K F v d->Reps K F vs ds->Reps K F (v::vs) (d::ds)
end
theorem dJ{K:W.Frag}{xs:List V}(e:bE H H')(h:HG K H a xs):HG K H' a xs:=by
 rcases h with(h|⟨o,h⟩)|h
 · exact .inl (.inl (e _ _ h))
 · exact .inl (.inr ⟨o,e _ _ h⟩)
 · exact .inr h
theorem kH{K:W.Frag}{xs:List V}(e:bE H H')(h:HH K H a xs):HH K H' a xs:=by
 rcases h with(h|⟨o,h⟩)|h
 · exact .inl (.inl (e _ _ h))
 · exact .inl (.inr ⟨o,e _ _ h⟩)
 · exact .inr h
mutual
theorem Rep.mono{K:W.Frag}{F F':Hp}(s:bE F F'):∀{v:V}{d:IJ},Rep K F v d->Rep K F' v d
 | _,_,.non=>.non
 | _,_,.bl b=>.bl b
 | _,_,.int i=>.int i
 | _,_,.str x=>.str x
 | _,_,.tup h r=>.tup (dJ s h) (Reps.mono s r)
 | _,_,.lst h r=>.lst (s _ _ h) (Reps.mono s r)
theorem Reps.mono{K:W.Frag}{F F':Hp}(s:bE F F'):∀{vs:List V}{ds:List IJ},Reps K F vs ds->Reps K F' vs ds
 | _,_,.nil=>.nil
 | _,_,.cons h r=>.cons (Rep.mono s h) (Reps.mono s r)
end
theorem Reps.length{K:W.Frag}{F:Hp}:∀{vs:List V}{ds:List IJ},Reps K F vs ds->vs.length=ds.length
 | _,_,.nil=>rfl
 | _,_,.cons _ r=>by simp[Reps.length r]
theorem Reps.get{K:W.Frag}{F:Hp}:∀{vs:List V}{ds:List IJ}{i:Nat}{d:IJ},Reps K F vs ds->ds[i]?=some d->∃v,vs[i]?=some v/\Rep K F v d
 | _,_,_,_,.nil,e=>by simp at e
 | _,_,0,_,.cons h _,e=>by simp at e;subst e;exact⟨_,rfl,h⟩
 | _,_,i+1,d,.cons _ r,e=>by
   obtain⟨v,h1,h2⟩:=Reps.get (i:=i) (d:=d) r (by simpa using e);exact⟨v,by simpa using h1,h2⟩
theorem Reps.getV{K:W.Frag}{F:Hp}:∀{vs:List V}{ds:List IJ}{i:Nat}{v:V},Reps K F vs ds->vs[i]?=some v->∃d,ds[i]?=some d/\Rep K F v d
 | _,_,_,_,.nil,e=>by simp at e
 | _,_,0,_,.cons h _,e=>by simp at e;subst e;exact⟨_,rfl,h⟩
 | _,_,i+1,d,.cons _ r,e=>by
   obtain⟨v,h1,h2⟩:=Reps.getV (i:=i) (v:=d) r (by simpa using e);exact⟨v,by simpa using h1,h2⟩
theorem Reps.append{K:W.Frag}{F:Hp}:∀{vs us:List V}{ds es:List IJ},Reps K F vs ds->Reps K F us es->Reps K F (vs++us) (ds++es)
 | _,_,_,_,.nil,s=>s
 | _,_,_,_,.cons h r,s=>.cons h (Reps.append r s)
theorem Reps.snoc{K:W.Frag}{ds:List IJ}(r:Reps K F vs ds)(h:Rep K F v d):Reps K F (vs++[v]) (ds++[d]):=r.append (.cons h .nil)
theorem Reps.take{K:W.Frag}{F:Hp}:∀{vs:List V}{ds:List IJ}(n:Nat),Reps K F vs ds->Reps K F (vs.take n) (ds.take n)
 | _,_,0,_=>.nil
 | _,_,_+1,.nil=>.nil
 | _,_,n+1,.cons h r=>.cons h (Reps.take n r)
theorem Reps.drop{K:W.Frag}{F:Hp}:∀{vs:List V}{ds:List IJ}(n:Nat),Reps K F vs ds->Reps K F (vs.drop n) (ds.drop n)
 | _,_,0,r=>r
 | _,_,_+1,.nil=>.nil
 | _,_,n+1,.cons _ r=>Reps.drop n r
theorem Reps.nil_iff{K:W.Frag}(h:Reps K F vs []):vs=[]:=by cases h;rfl
mutual
theorem Rep.reads{X:Cx}{pins:List (Addr×Obj)}{σ:St}{H F:Hp}{s:IW}(I:Inv X pins σ H s)(sub:bE F H):∀{v:V}{d:IJ},Rep X.K F v d->∀u,RelV v u->∃as,Reads s.heap u d as
 | _,_,.non,u,r=>by cases(show u=LZ from r);exact⟨_,.none⟩
 | _,_,.bl b,u,r=>by cases(show u=IR.bool b from r);exact⟨_,.bool b⟩
 | _,_,.int i,u,r=>by obtain⟨t,q⟩:=(show ∃t,u=OX i t from r);cases q;exact⟨_,.int i t⟩
 | _,_,.str x,u,r=>by obtain⟨t,q⟩:=(show ∃t,u=Ps x t from r);cases q;exact⟨_,.str x t⟩
 | _,_,.tup (a:=a) h q,u,r=>by
   cases(show u=Lj a from r);obtain⟨its,rv,⟨o,h1,h2,n,h3⟩,hz⟩:=I.tuple (dJ sub h);obtain⟨as,ra⟩:=Reps.reads I sub q its rv
   exact⟨_,.tuple h1 h2 h3 (by simpa using ra)⟩
 | _,_,.lst (a:=a) h q,u,r=>by
   cases(show u=Lj a from r);obtain⟨its,rv,p,hz⟩:=I.list (.inl (.inl (sub _ _ h)));obtain⟨o,h1,h2,n,h3⟩:=p.isList;obtain⟨as,ra⟩:=Reps.reads I sub q its rv;exact⟨_,.list h1 h2 h3 (by simpa using ra)⟩
theorem Reps.reads{X:Cx}{pins:List (Addr×Obj)}{σ:St}{H F:Hp}{s:IW}(I:Inv X pins σ H s)(sub:bE F H):∀{vs:List V}{ds:List IJ},Reps X.K F vs ds->∀us,cn vs us->∃as,ReadsAll s.heap us ds as
 | _,_,.nil,us,r=>by cases r;exact⟨_,.nil⟩
 | _,_,.cons h q,us,r=>by
   cases r with
   | cons r1 r2 =>
     obtain⟨as,a1⟩:=Rep.reads I sub h _ r1;obtain⟨bs,a2⟩:=Reps.reads I sub q _ r2;exact⟨_,.cons a1 a2⟩
end
structure ReelOk (b:Nat) (F H:Hp) (r:Addr):Prop where
 ex:∃o,H r=some o/\RO b F o
def HM(rl:RlT)(F H:Hp):Prop:=∀r,rl.a=some r->F r=none/\ReelOk rl.b F H r
theorem HM.live{rl:RlT}(h:HM rl F H){r:Addr}(e:rl.a=some r):∃o,H r=some o:=by
 obtain⟨_,⟨o,q,_⟩⟩:=h r e;exact⟨_,q⟩
structure Grow (rl:RlT) (F H F' H':Hp):Prop where
 same:∀b o,H b=some o->rl.a≠some b->H' b=some o
 fs:bE F F'
 sub:bE F' H'
 old:∀b o,H b=some o->F' b=F b
 reel:HM rl F' H'
theorem Grow.refl{rl:RlT}{F H:Hp}(s:bE F H)(r:HM rl F H):Grow rl F H F H:=⟨fun _ _ e _=>e,.refl F,s,fun _ _ _=>rfl,r⟩
theorem Grow.live{rl:RlT}{F H F' H':Hp}(g:Grow rl F H F' H'){b:Addr}{o:HO}(e:H b=some o):∃o',H' b=some o':=by
 by_cases h:rl.a=some b
 · exact g.reel.live h
 · exact⟨o,g.same b o e h⟩
theorem Grow.trans{rl:RlT}{F H F1 H1 F2 H2:Hp}(a:Grow rl F H F1 H1)(b:Grow rl F1 H1 F2 H2):Grow rl F H F2 H2 :=
 ⟨fun c o e n=>b.same c o (a.same c o e n) n,a.fs.trans b.fs,b.sub,fun c o e=>by obtain⟨o',e'⟩:=a.live e;rw[b.old c o' e',a.old c o e],b.reel⟩
theorem Grow.freeB{rl:RlT}(g:Grow rl F H F' H'){b:Addr}(e:H' b=none):H b=none:=by
 cases q:H b with
 | none=>rfl
 | some o=>obtain⟨o',e'⟩:=g.live q;rw[e]at e';cases e'
theorem Grow.laid{rl:RlT}{o:HO}(s:bE F H)(r:HM rl F H)(n:H a=none):Grow rl F H F (upd H a o):=by
 have ne:∀b u,H b=some u->b≠a:=fun b u e=>aS e n;refine⟨fun b u e _=>by rw[ar (ne b u e)];exact e,.refl F,fun b u e=>by rw[ar (ne b u (s b u e))];exact s b u e,fun _ _ _=>rfl,fun q e=>?_⟩;obtain⟨z,⟨u,h1,h2⟩⟩:=r q e;exact⟨z,⟨u,by rw[ar (ne _ _ h1)];exact h1,h2⟩⟩
theorem Grow.data{rl:RlT}{o:HO}(s:bE F H)(r:HM rl F H)(n:H a=none):Grow rl F H (upd F a o) (upd H a o):=by
 have ne:∀b u,H b=some u->b≠a:=fun b u e=>aS e n;have neF:∀b u,F b=some u->b≠a:=fun b u e=>ne b u (s b u e);refine⟨fun b u e _=>by rw[ar (ne b u e)];exact e,fun b u e=>by rw[ar (neF b u e)];exact e,fun b u e=>?_,fun b u e=>by rw[ar (ne b u e)],fun q e=>?_⟩
 · by_cases hb:b=a
   · subst hb;rw[ax]at e ⊢;exact e
   · rw[ar hb]at e ⊢;exact s b u e
 · obtain⟨z,⟨u,h1,h2⟩⟩:=r q e;exact⟨by rw[ar (ne _ _ h1)];exact z,⟨u,by rw[ar (ne _ _ h1)];exact h1,RO.mono (fun b u e=>by rw[ar (neF b u e)];exact e) h2⟩⟩
theorem Grow.freeze{rl:RlT}{F1 H1:Hp}{o:HO}(g:Grow rl F H F1 H1)(n:H a=none)(e:H1 a=some o)(f:F1 a=none)(hr:rl.a≠some a):Grow rl F H (upd F1 a o) H1:=by
 have neF:∀b u,F1 b=some u->b≠a:=fun b u q z=>by subst z;rw[f]at q;cases q
 refine⟨g.same,fun b u q=>by rw[ar (neF b u (g.fs b u q))];exact g.fs b u q,fun b u q=>?_,fun b u q=>by rw[ar (aS q n)];exact g.old b u q,fun q z=>?_⟩
 · by_cases hb:b=a
   · subst hb;rw[ax]at q;rw[e];exact q
   · rw[ar hb]at q;exact g.sub b u q
 · obtain⟨z1,⟨u,h1,h2⟩⟩:=g.reel q z;exact⟨by rw[ar (fun y=>hr (by rw[<- y];exact z))];exact z1,⟨u,h1,RO.mono (fun b u e=>by rw[ar (neF b u e)];exact e) h2⟩⟩
inductive W where
 | d (x:IJ)
 | ml (xs:List IJ)
 | pk (xs:List IJ)
 | reel
 | vv (v:V)
 | md (kvs:List (List Ie×IJ))
 | mk (kvs:List (Ie×IJ))
 | nt (ds:List IJ)
 | lk
 | sc (ns:List Int)
 | fd (kvs:List (Ie×IJ))
 | fw (kvs:List (Ie×IJ))
 | ft (kvs:List (List Ie×IJ))
 | xc (x:Str) (fs:List (Str×IJ))
 | dp (kvs:List (Ie×IJ)) (x:IJ)
noncomputable def W.dat:W->Option IJ
 | .d x=>some x
 | .ml xs=>some (.list xs)
 | .pk xs=>some (.list xs)
 | .nt ds=>some (.tuple ds)
 | _=>none
noncomputable def W.peek:W->W
 | .ml xs=>.pk xs
 | .md _=>.lk
 | .mk _=>.lk
 | w=>w
noncomputable def W.own:W->Bool
 | .ml _=>true
 | .md _=>true
 | .mk _=>true
 | _=>false
abbrev KD(K:W.Frag)(F:Hp):List (List Ie×V)->List (List Ie×IJ)->Prop:=Kx fun p q=>p.1=q.1/\Rep K F p.2 q.2
abbrev Ih(K:W.Frag)(F:Hp):List (Ie×V)->List (Ie×IJ)->Prop:=Kx fun p q=>p.1=q.1/\Rep K F p.2 q.2
abbrev Ig(K:W.Frag)(F:Hp):List (Str×V)->List (Str×IJ)->Prop:=Kx fun p q=>p.1=q.1/\Rep K F p.2 q.2
def CO(e C dx:Addr):Heap->Prop:=fun h=>∃oe vs,h.get? e=some oe/\oe.cls = .ref C/\oe.dict=some dx/\oe.data = .fields vs
def vb(K:W.Frag)(rl:RlT)(F H:Hp)(v:V)(kvs:List (List Ie×IJ)):Prop:=∃a us,v = .ref a/\F a=none/\rl.a≠some a/\H a=some (.dT us)/\KD K F us kvs
def nY(K:W.Frag)(rl:RlT)(F H:Hp)(v:V)(kvs:List (Ie×IJ)):Prop:=∃a us,v = .ref a/\F a=none/\rl.a≠some a/\H a=some (.dK us)/\Ih K F us kvs
def gO(K:W.Frag)(rl:RlT)(F H:Hp)(v:V)(xs:List IJ):Prop:=∃a vs,v = .ref a/\F a=none/\rl.a≠some a/\H a=some (.lst vs)/\Reps K F vs xs
def cY(K:W.Frag)(rl:RlT)(F H:Hp)(v:V):W->Prop
 | .d x=>Rep K F v x
 | .ml xs=>gO K rl F H v xs
 | .pk xs=>gO K rl F H v xs
 | .reel=>∃r,rl.a=some r/\v = .ref r
 | .vv u=>v=u
 | .md kvs=>vb K rl F H v kvs
 | .mk kvs=>nY K rl F H v kvs
 | .nt ds=>∃a vs,v = .ref a/\F a=some (.tup vs)/\Reps K F vs ds
 | .lk=>True
 | .sc ns=>∃a,v = .ref a/\HH K F a (ns.map V.int)
 | .fd kvs=>∃a us,v = .ref a/\F a=some (.dK us)/\Ih K F us kvs
 | .fw kvs=>∃a us o,v = .ref a/\F a=some (.frz o (.dK us))/\Ih K F us kvs
 | .ft kvs=>∃a us o,v = .ref a/\F a=some (.frz o (.dT us))/\KD K F us kvs
 | .xc x fs=>∃e dx us C,v = .ref e/\W.nsIn K J4 x=some (some (.ref C))/\F e=some (.ext (CO e C dx))/\F dx=some (.xd us)/\Ig K F us fs
 | .dp kvs x=>∃a b us u o,v = .ref a/\F a=some (.tup [.ref b,u])/\F b=some (.frz o (.dK us))/\Ih K F us kvs/\Rep K F u x
theorem vb.grow{K:W.Frag}{rl:RlT}{kvs:List (List Ie×IJ)}(g:Grow rl F H F' H')(r:vb K rl F H v kvs):vb K rl F' H' v kvs:=by
 obtain⟨a,us,rfl,h1,h2,h3,h4⟩:=r;exact⟨a,us,rfl,by rw[g.old a _ h3];exact h1,h2,g.same a _ h3 h2,Kx.mapP h4 fun _ _ z=>⟨z.1,z.2.mono g.fs⟩⟩
theorem nY.grow{K:W.Frag}{rl:RlT}{kvs:List (Ie×IJ)}(g:Grow rl F H F' H')(r:nY K rl F H v kvs):nY K rl F' H' v kvs:=by
 obtain⟨a,us,rfl,h1,h2,h3,h4⟩:=r;exact⟨a,us,rfl,by rw[g.old a _ h3];exact h1,h2,g.same a _ h3 h2,Kx.mapP h4 fun _ _ z=>⟨z.1,z.2.mono g.fs⟩⟩
theorem gO.grow{K:W.Frag}{rl:RlT}(g:Grow rl F H F' H')(r:gO K rl F H v xs):gO K rl F' H' v xs:=by
 obtain⟨a,vs,rfl,h1,h2,h3,h4⟩:=r;exact⟨a,vs,rfl,by rw[g.old a _ h3];exact h1,h2,g.same a _ h3 h2,h4.mono g.fs⟩
theorem cY.grow{K:W.Frag}{rl:RlT}{F H F' H':Hp}{v:V}{w:W}(g:Grow rl F H F' H')(r:cY K rl F H v w):cY K rl F' H' v w:=by
 cases w with
 | d x=>exact Rep.mono g.fs r
 | ml xs=>exact gO.grow g r
 | pk xs=>exact gO.grow g r
 | reel=>exact r
 | vv u=>exact r
 | md kvs=>exact vb.grow g r
 | mk kvs=>exact nY.grow g r
 | nt ds=>obtain⟨a,vs,e,h,q⟩:=r;exact⟨a,vs,e,g.fs _ _ h,q.mono g.fs⟩
 | lk=>trivial
 | sc ns=>obtain⟨a,e,h⟩:=r;exact⟨a,e,kH g.fs h⟩
 | fd kvs=>obtain⟨a,us,e,h,q⟩:=r;exact⟨a,us,e,g.fs _ _ h,Kx.mapP q fun _ _ z=>⟨z.1,z.2.mono g.fs⟩⟩
 | fw kvs=>obtain⟨a,us,o,e,h,q⟩:=r;exact⟨a,us,o,e,g.fs _ _ h,Kx.mapP q fun _ _ z=>⟨z.1,z.2.mono g.fs⟩⟩
 | ft kvs=>obtain⟨a,us,o,e,h,q⟩:=r;exact⟨a,us,o,e,g.fs _ _ h,Kx.mapP q fun _ _ z=>⟨z.1,z.2.mono g.fs⟩⟩
 | xc _ _=>obtain⟨a,dx,us,C,e,n,h1,h2,q⟩:=r;exact⟨a,dx,us,C,e,n,g.fs _ _ h1,g.fs _ _ h2,Kx.mapP q fun _ _ z=>⟨z.1,z.2.mono g.fs⟩⟩
 | dp _ _=>obtain⟨a,b,us,u,o,e,h1,h2,q,z⟩:=r;exact⟨a,b,us,u,o,e,g.fs _ _ h1,g.fs _ _ h2,Kx.mapP q fun _ _ z=>⟨z.1,z.2.mono g.fs⟩,z.mono g.fs⟩
theorem cY.peek{K:W.Frag}{rl:RlT}{w:W}(r:cY K rl F H v w):cY K rl F H v w.peek:=by cases w<;>first|exact r|trivial
theorem gO.rep{K:W.Frag}{rl:RlT}(s:bE F H)(r:gO K rl F H v xs):Rep K H v (.list xs):=by
 obtain⟨a,vs,rfl,h1,h2,h3,h4⟩:=r;exact .lst h3 (h4.mono s)
theorem cY.dat{K:W.Frag}{rl:RlT}{w:W}{x:IJ}(s:bE F H)(r:cY K rl F H v w)(e:w.dat=some x):Rep K H v x:=by
 cases w with
 | d y=>cases e;exact Rep.mono s r
 | ml xs=>cases e;exact gO.rep s r
 | pk xs=>cases e;exact gO.rep s r
 | reel=>cases e
 | vv u=>cases e
 | md kvs=>cases e
 | mk kvs=>cases e
 | nt ds=>cases e;obtain⟨a,vs,rfl,h,q⟩:=r;exact .tup (.inl (.inl (s _ _ h))) (q.mono s)
 | lk=>cases e
 | sc _=>cases e
 | fd _=>cases e
 | fw _=>cases e
 | ft _=>cases e
 | xc _ _=>cases e
 | dp _ _=>cases e
theorem cY.items{K:W.Frag}{rl:RlT}{w:W}(s:bE F H)(r:cY K rl F H v w)(e:w.dat=some (.list xs)):∃a vs,v = .ref a/\HH K H a vs/\Reps K F vs xs:=by
 have own:gO K rl F H v xs->∃a vs,v = .ref a/\HH K H a vs/\Reps K F vs xs:=fun⟨a,vs,e1,_,_,e2,e3⟩=>⟨a,vs,e1,.inl (.inl e2),e3⟩
 cases w with
 | d y =>
   cases e
   cases(show Rep K F v (.list xs)from r)with
   | lst h q=>exact⟨_,_,rfl,.inl (.inl (s _ _ h)),q⟩
 | ml ys=>cases e;exact own r
 | pk ys=>cases e;exact own r
 | reel=>cases e
 | vv u=>cases e
 | md kvs=>cases e
 | mk kvs=>cases e
 | nt ds=>cases e
 | lk=>cases e
 | sc _=>cases e
 | fd _=>cases e
 | fw _=>cases e
 | ft _=>cases e
 | xc _ _=>cases e
 | dp _ _=>cases e
theorem cY.itemsT{K:W.Frag}{rl:RlT}{w:W}(s:bE F H)(r:cY K rl F H v w)(e:w.dat=some (.tuple xs)):∃a vs,v = .ref a/\HG K H a vs/\Reps K F vs xs:=by
 cases w with
 | d y =>
   cases e
   cases(show Rep K F v (.tuple xs)from r)with
   | tup h q=>exact⟨_,_,rfl,dJ s h,q⟩
 | ml ys=>cases e
 | pk ys=>cases e
 | reel=>cases e
 | vv u=>cases e
 | md kvs=>cases e
 | mk kvs=>cases e
 | nt ds=>cases e;obtain⟨a,vs,rfl,h,q⟩:=r;exact⟨a,vs,rfl,.inl (.inl (s _ _ h)),q⟩
 | lk=>cases e
 | sc _=>cases e
 | fd _=>cases e
 | fw _=>cases e
 | ft _=>cases e
 | xc _ _=>cases e
 | dp _ _=>cases e
def dL(H:Hp)(v:V):W->Prop
 | .ml _=>∀a,v = .ref a->H a=none
 | .md _=>∀a,v = .ref a->H a=none
 | .mk _=>∀a,v = .ref a->H a=none
 | _=>True
theorem cY.live{K:W.Frag}{rl:RlT}{w:W}(r:cY K rl F H v w)(h:w.own=true):∃a o,v = .ref a/\H a=some o:=by
 cases w with
 | ml xs=>obtain⟨a,vs,e,_,_,hh,_⟩:=r;exact⟨a,_,e,hh⟩
 | md xs=>obtain⟨a,vs,e,_,_,hh,_⟩:=r;exact⟨a,_,e,hh⟩
 | mk xs=>obtain⟨a,vs,e,_,_,hh,_⟩:=r;exact⟨a,_,e,hh⟩
 | _=>cases h
theorem dL.none{w:W}(n:dL H v w)(h:w.own=true)(e:v = .ref a):H a=none:=by
 cases w with
 | ml xs=>exact n a e
 | md xs=>exact n a e
 | mk xs=>exact n a e
 | _=>cases h
abbrev En:=List (Option W)
structure VR (K:W.Frag) (rl:RlT) (F₀ H₀ F H:Hp) (σ:St) (ρ:En):Prop where
 g:Grow rl F₀ H₀ F H
 sl:∀(i:Nat) w,ρ[i]?=some (some w)->∃v,σ[i]?=some (some v)/\cY K rl F H v w/\dL H₀ v w
 ap:∀(i j:Nat)(x y:W) v,i≠j->ρ[i]?=some (some x)->ρ[j]?=some (some y)->x.own=true->y.own=true->σ[i]?=some (some v)->σ[j]?=some (some v)->False
 np:∀(i:Nat) xs,ρ[i]?≠some (some (W.pk xs))
 len:ρ.length=σ.length
section
variable{K:W.Frag}{rl:RlT}{F₀ H₀ F H F' H':Hp}{σ:St}{ρ:En}
theorem VR.sub(r:VR K rl F₀ H₀ F H σ ρ):bE F H:=r.g.sub
theorem VR.reel(r:VR K rl F₀ H₀ F H σ ρ):HM rl F H:=r.g.reel
theorem VR.grow(r:VR K rl F₀ H₀ F H σ ρ)(g:Grow rl F H F' H'):VR K rl F₀ H₀ F' H' σ ρ :=
 ⟨r.g.trans g,fun i w e=>let ⟨v,e1,e2,e3⟩:=r.sl i w e;⟨v,e1,e2.grow g,e3⟩,r.ap,r.np,r.len⟩
theorem VR.set(r:VR K rl F₀ H₀ F H σ ρ){H1 F1:Hp}(g:Grow rl F H F1 H1){w:W}(rw':cY K rl F1 H1 v w)(hn:dL H v w)(hp:∀xs,w ≠ .pk xs)(i:Nat):VR K rl F₀ H₀ F1 H1 (σ.set i (some v)) (ρ.set i (some w)):=by
 have r1:=r.grow g;refine⟨r1.g,fun j w' e=>?_,fun j k xs ys u hjk e1 e2 w1 w2 s1 s2=>?_,fun j xs z=>?_,by simp[r.len]⟩
 · by_cases hj:i=j
   · subst hj
     have hi:i<ρ.length:=by
      rw[J8]at e;by_cases hi:i<ρ.length
      · exact hi
      · simp[hi]at e
     rw[Jp hi]at e;cases e;refine⟨v,by rw[Jp (by rw[<- r.len];exact hi)],rw',?_⟩
     cases w with
     | ml xs=>exact fun a ea=>r.g.freeB (hn a ea)
     | d x=>trivial
     | pk xs=>trivial
     | reel=>trivial
     | vv u=>trivial
     | md xs=>exact fun a ea=>r.g.freeB (hn a ea)
     | mk xs=>exact fun a ea=>r.g.freeB (hn a ea)
     | nt ds=>trivial
     | lk=>trivial
     | sc _=>trivial
     | fd _=>trivial
     | fw _=>trivial
     | ft _=>trivial
     | xc _ _=>trivial
     | dp _ _=>trivial
   · rw[Jk hj]at e;obtain⟨u,h1,h2,h3⟩:=r1.sl j w' e;exact⟨u,by rw[Jk hj];exact h1,h2,h3⟩
 · have key:∀(k:Nat)(x y:W),ρ[k]?=some (some y)->some (some w)=some (some x)->x.own=true->y.own=true->σ[k]?=some (some v)->False:=fun k x y d2 e1 o1 o2 s2=>by
     cases e1;obtain⟨u',h1,h2,h3⟩:=r.sl k _ d2;rw[s2]at h1;cases h1;obtain⟨a,o,ea,hh⟩:=h2.live o2;rw[hn.none o1 ea]at hh;cases hh
   by_cases hj:i=j
   · subst hj;have hk:i≠k:=hjk
     have hi:i<ρ.length:=by
      rw[J8]at e1;by_cases hi:i<ρ.length
      · exact hi
      · simp[hi]at e1
     rw[Jp hi]at e1;rw[Jk hk]at e2 s2;rw[Jp (by rw[<- r.len];exact hi)]at s1;cases s1;exact key k xs ys e2 e1 w1 w2 s2
   · by_cases hk:i=k
     · subst hk
       have hi:i<ρ.length:=by
        rw[J8]at e2;by_cases hi:i<ρ.length
        · exact hi
        · simp[hi]at e2
       rw[Jp hi]at e2;rw[Jk hj]at e1 s1;rw[Jp (by rw[<- r.len];exact hi)]at s2;cases s2;exact key j ys xs e1 e2 w2 w1 s1
     · rw[Jk hj]at e1 s1;rw[Jk hk]at e2 s2;exact r.ap j k xs ys u hjk e1 e2 w1 w2 s1 s2
 · rw[J8]at z;split at z
   · split at z
     · exact hp xs (JN (JN z))
     · cases z
   · exact r.np j xs z
theorem VR.freeze(r:VR K rl F₀ H₀ F H σ ρ){i:Nat}{xs:List IJ}(e:ρ[i]?=some (some (.ml xs))):∃F1,VR K rl F₀ H₀ F1 H σ (ρ.set i (some (.d (.list xs)))):=by
 obtain⟨v,h1,h2,h3⟩:=r.sl i _ e;obtain⟨a,vs,rfl,f,hr,hh,q⟩:=(show gO K rl F H v xs from h2);have hi:i<ρ.length:=(Jj.mp e).1;have neF:∀b u,F b=some u->b≠a:=fun b u q z=>by subst z;rw[f]at q;cases q
 have fsm:bE F (upd F a (.lst vs)):=fun b u z=>by rw[ar (neF b u z)];exact z
 refine⟨upd F a (.lst vs),r.g.freeze (h3 a rfl) hh f hr,fun j w e1=>?_,fun j k ys zs u hjk e1 e2 w1 w2 s1 s2=>?_,fun j ys z=>?_,by simp[r.len]⟩
 · by_cases hj:i=j
   · subst hj;rw[Jp hi]at e1;cases e1;exact⟨.ref a,h1,.lst ax (q.mono fsm),trivial⟩
   · rw[Jk hj]at e1;obtain⟨u,g1,g2,g3⟩:=r.sl j w e1;refine⟨u,g1,?_,g3⟩
     have own:∀ys,(∀zs,w = .ml zs->ys=zs)->gO K rl F H u ys->(∃b,u = .ref b/\b≠a)->gO K rl (upd F a (.lst vs)) H u ys:=fun ys _ ⟨b,us,eb,f1,f2,f3,f4⟩ ⟨b',eb',ne⟩=>by
      rw[eb]at eb';cases eb';exact⟨b,us,eb,by rw[ar ne];exact f1,f2,f3,f4.mono fsm⟩
     cases w with
     | d x=>exact Rep.mono fsm g2
     | reel=>exact g2
     | vv u=>exact g2
     | ml ys =>
       obtain⟨b,us,eb,f1,f2,f3,f4⟩:=(show gO K rl F H u ys from g2);have ne:b≠a:=fun z=>r.ap i j _ _ (.ref a) hj e e1 rfl rfl h1 (by rw[g1,eb,z])
       exact⟨b,us,eb,by rw[ar ne];exact f1,f2,f3,f4.mono fsm⟩
     | pk ys=>exact absurd e1 (r.np j ys)
     | md ys =>
       obtain⟨b,us,eb,f1,f2,f3,f4⟩:=(show vb K rl F H u ys from g2);have ne:b≠a:=fun z=>r.ap i j _ _ (.ref a) hj e e1 rfl rfl h1 (by rw[g1,eb,z])
       exact⟨b,us,eb,by rw[ar ne];exact f1,f2,f3,Kx.mapP f4 fun _ _ z=>⟨z.1,z.2.mono fsm⟩⟩
     | mk ys =>
       obtain⟨b,us,eb,f1,f2,f3,f4⟩:=(show nY K rl F H u ys from g2);have ne:b≠a:=fun z=>r.ap i j _ _ (.ref a) hj e e1 rfl rfl h1 (by rw[g1,eb,z])
       exact⟨b,us,eb,by rw[ar ne];exact f1,f2,f3,Kx.mapP f4 fun _ _ z=>⟨z.1,z.2.mono fsm⟩⟩
     | nt ds=>obtain⟨b,us,eb,f1,f2⟩:=g2;exact⟨b,us,eb,fsm _ _ f1,f2.mono fsm⟩
     | lk=>trivial
     | sc ns=>obtain⟨b,eb,f1⟩:=g2;exact⟨b,eb,kH fsm f1⟩
     | fd kvs=>obtain⟨b,us,eb,f1,f2⟩:=g2;exact⟨b,us,eb,fsm _ _ f1,Kx.mapP f2 fun _ _ z=>⟨z.1,z.2.mono fsm⟩⟩
     | fw kvs=>obtain⟨b,us,o,eb,f1,f2⟩:=g2;exact⟨b,us,o,eb,fsm _ _ f1,Kx.mapP f2 fun _ _ z=>⟨z.1,z.2.mono fsm⟩⟩
     | ft kvs=>obtain⟨b,us,o,eb,f1,f2⟩:=g2;exact⟨b,us,o,eb,fsm _ _ f1,Kx.mapP f2 fun _ _ z=>⟨z.1,z.2.mono fsm⟩⟩
     | xc _ _=>obtain⟨b,dx,us,C,eb,n,f1,f3,f2⟩:=g2;exact⟨b,dx,us,C,eb,n,fsm _ _ f1,fsm _ _ f3,Kx.mapP f2 fun _ _ z=>⟨z.1,z.2.mono fsm⟩⟩
     | dp _ _=>obtain⟨c,b,us,u,o,eb,f1,f3,f2,z⟩:=g2;exact⟨c,b,us,u,o,eb,fsm _ _ f1,fsm _ _ f3,Kx.mapP f2 fun _ _ z=>⟨z.1,z.2.mono fsm⟩,z.mono fsm⟩
 · have nd:∀(j:Nat)(y:W),(ρ.set i (some (W.d (.list xs))))[j]?=some (some y)->y.own=true->ρ[j]?=some (some y):=fun j y z o=>by
     by_cases hj:i=j
     · subst hj;rw[Jp hi]at z;cases z;cases o
     · rw[Jk hj]at z;exact z
   exact r.ap j k ys zs u hjk (nd j ys e1 w1) (nd k zs e2 w2) w1 w2 s1 s2
 · rw[J8]at z;split at z
   · first|cases z|(split at z<;>cases z)
   · exact r.np j ys z
end
abbrev TV:=En->(W->Prop)->Prop
abbrev TB:=En->(Bool->Prop)->Prop
abbrev HA:=En->(List W->Prop)->Prop
abbrev eW(K:W.Frag)(rl:RlT)(F H:Hp):List V->List W->Prop:=Kx (cY K rl F H)
def PV(X:Cx)(rl:RlT)(e:Expr)(f:TV):Prop:=∃t,PE X e t/\∀{F₀ H₀ F H:Hp}{σ:St}{ρ:En},VR X.K rl F₀ H₀ F H σ ρ->∀(Qd:W->Prop)(Q:VK),f ρ Qd ->
 (∀v w F' H',Grow rl F H F' H'->cY X.K rl F' H' v w->dL H v w->Qd w->Q v H')->t σ H Q
def PB(X:Cx)(rl:RlT)(e:Expr)(f:TB):Prop:=∃t,PT X e t/\∀{F₀ H₀ F H:Hp}{σ:St}{ρ:En},VR X.K rl F₀ H₀ F H σ ρ->∀(Qd:Bool->Prop)(Q:Bool->Hp->Prop),f ρ Qd ->
 (∀b F' H',Grow rl F H F' H'->Qd b->Q b H')->t σ H Q
def HN(X:Cx)(rl:RlT)(es:List Expr)(f:HA):Prop:=∃t,PA X es t/\∀{F₀ H₀ F H:Hp}{σ:St}{ρ:En},VR X.K rl F₀ H₀ F H σ ρ->∀(Qd:List W->Prop)(Q:List V->Hp->Prop),f ρ Qd ->
 (∀vs ws F' H',Grow rl F H F' H'->eW X.K rl F' H' vs ws->Qd ws->Q vs H')->t σ H Q
noncomputable def W.fz:W->W
 | .ml xs=>.d (.list xs)
 | .nt ds=>.d (.tuple ds)
 | w=>w
theorem cY.fz{K:W.Frag}{rl:RlT}{F1 H1:Hp}{w:W}(g:Grow rl F H F1 H1)(r:cY K rl F1 H1 v w)(n:dL H v w):∃F2,Grow rl F H F2 H1/\bE F1 F2/\cY K rl F2 H1 v w.fz:=by
 cases w with
 | d x=>exact⟨F1,g,.refl _,r⟩
 | pk xs=>exact⟨F1,g,.refl _,r⟩
 | reel=>exact⟨F1,g,.refl _,r⟩
 | vv u=>exact⟨F1,g,.refl _,r⟩
 | md u=>exact⟨F1,g,.refl _,r⟩
 | mk u=>exact⟨F1,g,.refl _,r⟩
 | lk=>exact⟨F1,g,.refl _,r⟩
 | sc _=>exact⟨F1,g,.refl _,r⟩
 | fd _=>exact⟨F1,g,.refl _,r⟩
 | fw _=>exact⟨F1,g,.refl _,r⟩
 | ft _=>exact⟨F1,g,.refl _,r⟩
 | xc _ _=>exact⟨F1,g,.refl _,r⟩
 | dp _ _=>exact⟨F1,g,.refl _,r⟩
 | nt ds=>obtain⟨a,vs,rfl,h,q⟩:=r;exact⟨F1,g,.refl _,.tup (.inl (.inl h)) q⟩
 | ml xs =>
   obtain⟨a,vs,rfl,f,hr,hh,q⟩:=(show gO K rl F1 H1 v xs from r);have neF:∀b u,F1 b=some u->b≠a:=fun b u q z=>by subst z;rw[f]at q;cases q
   have fsm:bE F1 (upd F1 a (.lst vs)):=fun b u z=>by rw[ar (neF b u z)];exact z
   exact⟨upd F1 a (.lst vs),g.freeze (n a rfl) hh f hr,fsm,.lst ax (q.mono fsm)⟩
section
variable{X:Cx}{rl:RlT}{a b e:Expr}{es:List Expr}{fa fb fc:TV}{fs:HA}{pos p:Pos}
def vC(x:IJ):TV:=fun _ Q=>Q (.d x)
theorem eG{x:IJ}(h:PE X e (tC v))(r:∀F,Rep X.K F v x):PV X rl e (vC x) :=
 ⟨_,h,fun R Qd Q q k=>k v (.d x) _ _ (Grow.refl R.sub R.reel) (r _) trivial q⟩
theorem ah{i:Int}{j pos}:PV X rl (.Constant (.int i) j pos) (vC (.int i)):=eG dO fun _=>.int i
theorem sF{i:Bool}{j pos}:PV X rl (.Constant (.bool i) j pos) (vC (.bool i)):=eG BY fun _=>.bl i
theorem ia{j pos}:PV X rl (.Constant .none j pos) (vC .none):=eG zJ fun _=>.non
theorem cB{x:Str}{j pos}:PV X rl (.Constant (.str x) j pos) (vC (.str x)):=eG eI fun _=>.str x
theorem wD{x:Str}{pos:Pos}(hm:X.mg x=some u)(r:RelV v u)(h:∀F,Rep X.K F v d)(hg:Gl X x:=by rfl)(hd:(x==("__debug__" : Str))=false:=by decide):PV X rl (.Name x pos) (vC d) :=
 eG (wP hg hm r hd) h
def xY(i:Nat):TV:=fun ρ Q=>∃w,ρ[i]?=some (some w)/\Q w.peek
theorem vn(i:Nat){x:Str}{pos:Pos}(hN:X.N[i]?=some x:=by rfl)(hv:Hv X.env.scope x:=by first|exact Kz rfl|exact J0 (Kz rfl)|exact J0 (J0 rfl))(hd:(x==("__debug__" : Str))=false:=by decide)
 (hcd:(x==("__classdict__" : Str))=false:=by decide):PV X rl (.Name x pos) (xY i) :=
 ⟨_,cu hN hv hd hcd,fun R Qd Q ⟨w,e,q⟩ k=>by
  obtain⟨v,e1,r,_⟩:=R.sl i w e;refine⟨v,e1,k v w.peek _ _ (Grow.refl R.sub R.reel) r.peek ?_ q⟩
  cases w<;>trivial⟩
def uy:HA:=fun _ Q=>Q []
def jf(f:TV)(fs:HA):HA:=fun ρ Q=>f ρ fun w=>fs ρ fun ws=>Q (w.fz::ws)
theorem ac:HN X rl [] uy:=⟨_,jC,fun R Qd Q q k=>k [] [] _ _ (Grow.refl R.sub R.reel) .nil q⟩
theorem aa(h1:PV X rl e fa)(h2:HN X rl es fs)(hs:IZ (e::es) X.env=(false,eval e X.env)::IZ es X.env:=by rfl):HN X rl (e::es) (jf fa fs):=by
 obtain⟨t,p1,k1⟩:=h1;obtain⟨ts,p2,k2⟩:=h2;refine⟨_,dU p1 p2 hs,fun R Qd Q q k=>?_⟩;refine k1 R _ _ q fun v w F1 H1 g1 r1 n1 q1=>?_;obtain⟨F2,g2,s2,r2⟩:=cY.fz g1 r1 n1;refine k2 (R.grow g2) _ _ q1 fun vs ws F3 H3 g3 r3 q3=>?_;exact k (v::vs) (w.fz::ws) F3 H3 (g2.trans g3) (.cons (r2.grow g3) r3) q3
def Hw(X:Cx)(rl:RlT)(r:R2)(g:W->W->(W->Prop)->Prop):Prop:=∀{F H:Hp}{x y:V}{wx wy:W}(Qd:W->Prop)(Q:VK),bE F H->HM rl F H->cY X.K rl F H x wx->cY X.K rl F H y wy->g wx wy Qd ->
 (∀v w F' H',Grow rl F H F' H'->cY X.K rl F' H' v w->dL H v w->Qd w->Q v H')->r x y H Q
def FO(g:W->W->(W->Prop)->Prop)(fa fb:TV):TV:=fun ρ Q=>fa ρ fun x=>fb ρ fun y=>g x y Q
theorem ja{r:R2}{g:W->W->(W->Prop)->Prop}(vo:Hw X rl r g)(ha:PV X rl a fa)(hb:PV X rl b fb){e:Expr}(hp:∀ta tb,PE X a ta->PE X b tb->PE X e (Gb r ta tb)):PV X rl e (FO g fa fb):=by
 obtain⟨ta,p1,k1⟩:=ha;obtain⟨tb,p2,k2⟩:=hb;refine⟨_,hp ta tb p1 p2,fun R Qd Q q k=>?_⟩;refine k1 R _ _ q fun v w F1 H1 g1 r1 n1 q1=>?_;refine k2 (R.grow g1) _ _ q1 fun v2 w2 F2 H2 g2 r2 n2 q2=>?_
 exact vo Qd Q g2.sub g2.reel (r1.grow g2) r2 q2 fun v3 w3 F3 H3 g3 r3 n3 q3=>k v3 w3 F3 H3 ((g1.trans g2).trans g3) r3 (by
  cases w3 with
  | ml xs=>exact fun a ea=>g1.freeB (g2.freeB (n3 a ea))
  | md xs=>exact fun a ea=>g1.freeB (g2.freeB (n3 a ea))
  | mk xs=>exact fun a ea=>g1.freeB (g2.freeB (n3 a ea))
  | nt _=>trivial
  | lk=>trivial
  | sc _=>trivial
  | fd _=>trivial
  | fw _=>trivial
  | ft _=>trivial
  | xc _ _=>trivial
  | dp _ _=>trivial
  | d _=>trivial
  | pk _=>trivial
  | reel=>trivial
  | vv _=>trivial) q3
theorem gW{op:O0}{r:R2}{g:W->W->(W->Prop)->Prop}(ho:H_ X (LD op) r)(vo:Hw X rl r g)(ha:PV X rl a fa)(hb:PV X rl b fb):PV X rl (.BinOp a op b pos) (FO g fa fb) :=
 ja vo ha hb fun _ _ p1 p2=>zH ho p1 p2
def gI(C:Int->Int->Prop)(g:Int->Int->IJ):W->W->(W->Prop)->Prop:=fun x y Q=>∃i j,x = .d (.int i)/\y = .d (.int j)/\C i j/\Q (.d (g i j))
theorem aJ{K:W.Frag}{i:Int}(h:Rep K F v (.int i)):v = .int i:=by cases h;rfl
theorem fP{C:Int->Int->Prop}{g:Int->Int->V}{gd:Int->Int->IJ}(h:∀K F i j,Rep K F (g i j) (gd i j)):Hw X rl (rI C g) (gI C gd):=fun{F H x y wx wy} Qd Q s ra r1 r2 q k=>by
 obtain⟨i,j,rfl,rfl,c,q⟩:=q;exact⟨i,j,aJ r1,aJ r2,c,k _ (.d _) _ _ (Grow.refl s ra) (h _ _ i j) trivial q⟩
def Ha(g:Int->Int->IJ):W->W->(W->Prop)->Prop:=fun x y Q=>∃i j,x = .d (.int i)/\y = .d (.int j)/\Q (.d (g i j))
theorem eh{g:Int->Int->V}{gd:Int->Int->IJ}(h:∀K F i j,Rep K F (g i j) (gd i j)):Hw X rl (GB g) (Ha gd):=fun{F H x y wx wy} Qd Q s ra r1 r2 q k=>by
 obtain⟨i,j,rfl,rfl,q⟩:=q;exact⟨i,j,aJ r1,aJ r2,k _ (.d _) _ _ (Grow.refl s ra) (h _ _ i j) trivial q⟩
theorem v_add(ha:PV X rl a fa)(hb:PV X rl b fb):PV X rl (.BinOp a .Add b pos) (FO (Ha fun i j=>.int (i+j)) fa fb):=gW uR (eh fun _ _ _ _=>.int _) ha hb
theorem v_sub(ha:PV X rl a fa)(hb:PV X rl b fb):PV X rl (.BinOp a .Sub b pos) (FO (Ha fun i j=>.int (i-j)) fa fb):=gW zS (eh fun _ _ _ _=>.int _) ha hb
def IE(i:Int):Prop:=i.natAbs<2^60000
theorem IE.bits{i:Int}(h:IE i):Builtin.Int.intBits i<=60000:=OK.mpr h
def bo(i j:Int):Prop:=i.natAbs<2^64\/j.natAbs<2^64\/(IE i/\IE j)
theorem bo.lt{i j:Int}(h:i.natAbs<2^64):bo i j:=.inl h
theorem bo.rt{i j:Int}(h:j.natAbs<2^64):bo i j:=.inr (.inl h)
theorem bo.bb{i j:Int}(h:IE i)(h':IE j):bo i j:=.inr (.inr ⟨h,h'⟩)
theorem bo.ok{i j:Int}(h:bo i j):IntMulOk i j:=by
 rcases h with h|h|h
 · exact .of_left (OK.mpr h)
 · exact .of_right (OK.mpr h)
 · exact IntMulOk.of_le h.1.bits h.2.bits (by decide)
theorem qh:H_ X (LD .Mult) (rI bo fun i j=>.int (i*j)):=GK fun _ _ _ _ _ _ _ hc q=>mul_int q hc.ok
theorem v_mul(ha:PV X rl a fa)(hb:PV X rl b fb):PV X rl (.BinOp a .Mult b pos) (FO (gI bo fun i j=>.int (i*j)) fa fb):=gW qh (fP fun _ _ _ _=>.int _) ha hb
def g_(_ j:Int):Prop:=j≠0/\j.natAbs<2^9000
theorem sU:H_ X (LD .FloorDiv) (rI g_ fun i j=>.int (i.fdiv j)):=GK fun _ j _ _ _ _ _ hc q=>floordiv_int hc.1 q (.inl (PyProof.noPylong_of_log2 ((Nat.log2_lt (by have:=hc.1;omega)).mpr hc.2)))
theorem v_div(ha:PV X rl a fa)(hb:PV X rl b fb):PV X rl (.BinOp a .FloorDiv b pos) (FO (gI g_ fun i j=>.int (i.fdiv j)) fa fb):=gW sU (fP fun _ _ _ _=>.int _) ha hb
theorem v_mod(ha:PV X rl a fa)(hb:PV X rl b fb):PV X rl (.BinOp a .Mod b pos) (FO (gI (fun _ j=>j≠0) fun i j=>.int (i.fmod j)) fa fb):=gW wT (fP fun _ _ _ _=>.int _) ha hb
theorem v_pow(ha:PV X rl a fa)(hb:PV X rl b fb):PV X rl (.BinOp a .Pow b pos) (FO (gI Ee fun i j=>.int (i^j.toNat)) fa fb):=gW zU (fP fun _ _ _ _=>.int _) ha hb
def Bs(fa:TV):TV:=fun ρ Q=>fa ρ fun x=>∃i,x = .d (.int i)/\Q (.d (.int (-i)))
theorem rV(ha:PV X rl a fa):PV X rl (.UnaryOp .USub a pos) (Bs fa):=by
 obtain⟨ta,p1,k1⟩:=ha;refine⟨_,zF uA p1,fun R Qd Q q k=>k1 R _ _ q fun v w F1 H1 g1 r1 n1 ⟨i,ew,q1⟩=>?_⟩;subst ew;exact⟨i,aJ r1,k _ (.d _) F1 H1 g1 (.int _) trivial q1⟩
theorem mR{r:R2}{g:W->W->(W->Prop)->Prop}(ho:H_ X (Lk op) r)(vo:Hw X rl r g)(hm:KM op b=false)(ha:PV X rl a fa)(hb:PV X rl b fb):PV X rl (.Compare a [op] [b] pos) (FO g fa fb) :=
 ja vo ha hb fun _ _ p1 p2=>pX ho p1 p2 hm
def mT(f:TV):TB:=fun ρ Q=>f ρ fun w=>∃k,w = .d (.bool k)/\Q k
theorem dM{K:W.Frag}{i:Bool}(h:Rep K F v (.bool i)):v = .bl i:=by cases h;rfl
theorem bm{r:R2}{g:W->W->(W->Prop)->Prop}(ho:H_ X (Lk op) r)(vo:Hw X rl r g)(hm:KM op b=false)(ha:PV X rl a fa)(hb:PV X rl b fb):PB X rl (.Compare a [op] [b] pos) (mT (FO g fa fb)):=by
 obtain⟨ta,p1,k1⟩:=ha;obtain⟨tb,p2,k2⟩:=hb;refine⟨_,pK ho p1 p2 hm,fun R Qd Q q k=>?_⟩;refine k1 R _ _ q fun v w F1 H1 g1 r1 n1 q1=>?_;refine k2 (R.grow g1) _ _ q1 fun v2 w2 F2 H2 g2 r2 n2 q2=>?_;refine vo _ _ g2.sub g2.reel (r1.grow g2) r2 q2 fun v3 w3 F3 H3 g3 r3 n3 ⟨kb,ew,q3⟩=>?_;subst ew;exact⟨kb,dM r3,k kb F3 H3 ((g1.trans g2).trans g3) q3⟩
theorem lB(ha:PV X rl e fa)(he:∀whole,isTrue e X.env whole=(do let v <- whole;N0 e.pos;Ng [v] (truthy v)):=by intro _;rfl):PB X rl e (mT fa):=by
 obtain⟨ta,p1,k1⟩:=ha;refine⟨_,zy p1 he,fun R Qd Q q k=>k1 R _ _ q fun v w F1 H1 g1 r1 n1 ⟨kb,ew,q1⟩=>?_⟩;subst ew;exact⟨kb,dM r1,k kb F1 H1 g1 q1⟩
abbrev D7(p:Int->Int->Bool):=Ha fun i j=>.bool (p i j)
theorem vF:Hw X rl (GB fun i j=>.bl (decide (i<j))) (D7 fun i j=>decide (i<j)):=eh fun _ _ _ _=>.bl _
theorem iw:Hw X rl (GB fun i j=>.bl (decide (j<i))) (D7 fun i j=>decide (j<i)):=eh fun _ _ _ _=>.bl _
def BQ(K:W.Frag)(neg:Bool):R2:=fun x y H Q=>∃dx dy,Rep K H x dx/\Rep K H y dy/\K8 dx=true/\K8 dy=true/\Q (.bl (if neg then !Mv dx dy else Mv dx dy)) H
theorem eJ(hu:X.A.units+64<O8):H_ X (Lk .Eq) (BQ X.K false):=by
 intro pins s σ H x y v u Q I rx ry ⟨dx,dy,h1,h2,s1,s2,q⟩;obtain⟨as,a1⟩:=Rep.reads I (.refl H) h1 v rx;obtain⟨bs,a2⟩:=Rep.reads I (.refl H) h2 u ry;exact SeqAt.compareEq_shaped a1 a2 s1 s2 hu ⟨.bl _,H,I,rfl,q⟩
theorem ic(hu:X.A.units+64<O8):H_ X (Lk .NotEq) (BQ X.K true):=by
 intro pins s σ H x y v u Q I rx ry ⟨dx,dy,h1,h2,s1,s2,q⟩;obtain⟨as,a1⟩:=Rep.reads I (.refl H) h1 v rx;obtain⟨bs,a2⟩:=Rep.reads I (.refl H) h2 u ry;exact SeqAt.compareNe_shaped a1 a2 s1 s2 hu ⟨.bl _,H,I,rfl,q⟩
def Cm(neg:Bool):W->W->(W->Prop)->Prop:=fun x y Q=>∃dx dy,x.dat=some dx/\y.dat=some dy/\K8 dx=true/\K8 dy=true/\Q (.d (.bool (if neg then !Mv dx dy else Mv dx dy)))
theorem cz{neg:Bool}:Hw X rl (BQ X.K neg) (Cm neg):=fun{F H x y wx wy} Qd Q s ra r1 r2 q k=>by
 obtain⟨dx,dy,e1,e2,s1,s2,q⟩:=q;exact⟨dx,dy,r1.dat s e1,r2.dat s e2,s1,s2,k _ (.d _) _ _ (Grow.refl s ra) (.bl _) trivial q⟩
def Bw(f g:TB):TB:=fun ρ Q=>f ρ fun b=>if b=true then g ρ Q else Q false
def FN(f g:TB):TB:=fun ρ Q=>f ρ fun b=>if b=true then Q true else g ρ Q
def H0(X:Cx)(rl:RlT)(e:Expr)(f:TB):Prop:=∃t,PW X e t/\∀{F₀ H₀ F H:Hp}{σ:St}{ρ:En},VR X.K rl F₀ H₀ F H σ ρ->∀(Qd:Bool->Prop)(Q:Bool->Hp->Prop),f ρ Qd ->
 (∀b F' H',Grow rl F H F' H'->Qd b->Q b H')->t σ H Q
variable{f g:TB}{rest:List Expr}
theorem H0.pb(h:H0 X rl e f):PB X rl e f:=let ⟨t,p,k⟩:=h;⟨t,p.pt,k⟩
theorem vL(ha:PB X rl a f):H0 X rl (.BoolOp .And [a] pos) f:=let ⟨t,p,k⟩:=ha;⟨t,wC p,k⟩
theorem yx(ha:PB X rl a f):H0 X rl (.BoolOp .Or [a] pos) f:=let ⟨t,p,k⟩:=ha;⟨t,zu p,k⟩
theorem yy(ha:PB X rl a f)(hb:H0 X rl (.BoolOp .And (b::rest) pos) g):H0 X rl (.BoolOp .And (a::b::rest) pos) (Bw f g):=by
 obtain⟨t,p,k⟩:=ha;obtain⟨t2,p2,k2⟩:=hb;refine⟨_,zw p p2,fun R Qd Q q h=>k R _ _ q fun c F1 H1 g1 q1=>?_⟩
 cases c with
 | true=>exact k2 (R.grow g1) _ _ q1 fun c F2 H2 g2 q2=>h c F2 H2 (g1.trans g2) q2
 | false=>exact h false F1 H1 g1 q1
theorem Bj(ha:PB X rl a f)(hb:H0 X rl (.BoolOp .Or (b::rest) pos) g):H0 X rl (.BoolOp .Or (a::b::rest) pos) (FN f g):=by
 obtain⟨t,p,k⟩:=ha;obtain⟨t2,p2,k2⟩:=hb;refine⟨_,BU p p2,fun R Qd Q q h=>k R _ _ q fun c F1 H1 g1 q1=>?_⟩
 cases c with
 | true=>exact h true F1 H1 g1 q1
 | false=>exact k2 (R.grow g1) _ _ q1 fun c F2 H2 g2 q2=>h c F2 H2 (g1.trans g2) q2
def vV(fa fb:TV):TV:=fun ρ Q=>fa ρ fun w=>∃c,w = .d (.bool c)/\if c=true then fb ρ Q else Q (.d (.bool false))
def AX(fa fb:TV):TV:=fun ρ Q=>fa ρ fun w=>∃c,w = .d (.bool c)/\if c=true then Q (.d (.bool true))else fb ρ Q
def vR(fa:TV):TV:=fun ρ Q=>fa ρ fun w=>∃c,w = .d (.bool c)/\Q (.d (.bool (!c)))
theorem dL.back{rl:RlT}{w:W}(g:Grow rl F H F' H')(n:dL H' v w):dL H v w:=by
 cases w with
 | ml xs=>exact fun a ea=>g.freeB (n a ea)
 | md xs=>exact fun a ea=>g.freeB (n a ea)
 | mk xs=>exact fun a ea=>g.freeB (n a ea)
 | nt _=>trivial
 | lk=>trivial
 | sc _=>trivial
 | fd _=>trivial
 | fw _=>trivial
 | ft _=>trivial
 | xc _ _=>trivial
 | dp _ _=>trivial
 | d _=>trivial
 | pk _=>trivial
 | reel=>trivial
 | vv _=>trivial
theorem yB{op}(ha:PV X rl a fa):PV X rl (.BoolOp op [a] pos) fa:=let ⟨t,p,k⟩:=ha;⟨t,uM p,k⟩
theorem v_and(ha:PV X rl a fa)(hb:PV X rl (.BoolOp .And (b::rest) pos) fb):PV X rl (.BoolOp .And (a::b::rest) pos) (vV fa fb):=by
 obtain⟨t,p,k⟩:=ha;obtain⟨t2,p2,k2⟩:=hb;refine⟨_,zL p p2,fun R Qd Q q h=>k R _ _ q fun v w F1 H1 g1 r1 n1 ⟨c,ew,q1⟩=>?_⟩;subst ew;refine⟨c,dM r1,?_⟩
 cases c with
 | true=>exact k2 (R.grow g1) _ _ q1 fun v w F2 H2 g2 r2 n2 q2=>h v w F2 H2 (g1.trans g2) r2 (n2.back g1) q2
 | false=>exact h _ (.d _) F1 H1 g1 (.bl false) trivial q1
theorem v_or(ha:PV X rl a fa)(hb:PV X rl (.BoolOp .Or (b::rest) pos) fb):PV X rl (.BoolOp .Or (a::b::rest) pos) (AX fa fb):=by
 obtain⟨t,p,k⟩:=ha;obtain⟨t2,p2,k2⟩:=hb;refine⟨_,zG p p2,fun R Qd Q q h=>k R _ _ q fun v w F1 H1 g1 r1 n1 ⟨c,ew,q1⟩=>?_⟩;subst ew;refine⟨c,dM r1,?_⟩
 cases c with
 | false=>exact k2 (R.grow g1) _ _ q1 fun v w F2 H2 g2 r2 n2 q2=>h v w F2 H2 (g1.trans g2) r2 (n2.back g1) q2
 | true=>exact h _ (.d _) F1 H1 g1 (.bl true) trivial q1
theorem v_not(ha:PV X rl a fa):PV X rl (.UnaryOp .Not a pos) (vR fa):=by
 obtain⟨t,p,k⟩:=ha;refine⟨_,zI p,fun R Qd Q q h=>k R _ _ q fun v w F1 H1 g1 r1 n1 ⟨c,ew,q1⟩=>?_⟩;subst ew;exact⟨c,dM r1,h _ (.d _) F1 H1 g1 (.bl _) trivial q1⟩
def FP(t:TB)(fa fb:TV):TV:=fun ρ Q=>t ρ fun c=>if c=true then fa ρ Q else fb ρ Q
theorem fQ{c:Expr}(hc:PB X rl c f)(ha:PV X rl a fa)(hb:PV X rl b fb):PV X rl (.IfExp c a b pos) (FP f fa fb):=by
 obtain⟨t,p,k⟩:=hc;obtain⟨t1,p1,k1⟩:=ha;obtain⟨t2,p2,k2⟩:=hb;refine⟨_,sQ p p1 p2,fun R Qd Q q h=>k R _ _ q fun c F1 H1 g1 q1=>?_⟩
 cases c with
 | true=>exact k1 (R.grow g1) _ _ q1 fun v w F2 H2 g2 r2 n2 q2=>h v w F2 H2 (g1.trans g2) r2 (n2.back g1) q2
 | false=>exact k2 (R.grow g1) _ _ q1 fun v w F2 H2 g2 r2 n2 q2=>h v w F2 H2 (g1.trans g2) r2 (n2.back g1) q2
noncomputable def li:List W->Option (List IJ)
 | []=>some []
 | .d x::r=>(li r).map (x :: ·)
 | _::_=>none
theorem dI{K:W.Frag}{F H:Hp}:∀{vs:List V}{ws:List W}{ds:List IJ},eW K rl F H vs ws->li ws=some ds->Reps K F vs ds
 | _,_,_,.nil,e=>by cases e;exact .nil
 | _,.d x::ws,ds,.cons r rs,e=>by
   have e:(li ws).map (x :: ·)=some ds:=e
   cases q:li ws with
   | none=>rw[q]at e;cases e
   | some es=>rw[q]at e;cases e;exact .cons r (dI rs q)
 | _,.ml x::ws,ds,.cons r rs,e=>by cases(show none=some ds from e)
 | _,.pk x::ws,ds,.cons r rs,e=>by cases(show none=some ds from e)
 | _,.reel::ws,ds,.cons r rs,e=>by cases(show none=some ds from e)
 | _,.vv u::ws,ds,.cons r rs,e=>by cases(show none=some ds from e)
 | _,.md u::ws,ds,.cons r rs,e=>by cases(show none=some ds from e)
 | _,.nt u::ws,ds,.cons r rs,e=>by cases(show none=some ds from e)
 | _,.lk::ws,ds,.cons r rs,e=>by cases(show none=some ds from e)
 | _,.sc _::ws,ds,.cons r rs,e=>by cases(show none=some ds from e)
 | _,.fd _::ws,ds,.cons r rs,e=>by cases(show none=some ds from e)
 | _,.xc _ _::ws,ds,.cons r rs,e=>by cases(show none=some ds from e)
 | _,.mk _::ws,ds,.cons r rs,e=>by cases(show none=some ds from e)
 | _,.fw _::ws,ds,.cons r rs,e=>by cases(show none=some ds from e)
 | _,.ft _::ws,ds,.cons r rs,e=>by cases(show none=some ds from e)
 | _,.dp _ _::ws,ds,.cons r rs,e=>by cases(show none=some ds from e)
def yE(fs:HA):TV:=fun ρ Q=>fs ρ fun ws=>∃ds,li ws=some ds/\ds.length<=sizeLine/\Q (.d (.tuple ds))
def Bt(fs:HA):TV:=fun ρ Q=>fs ρ fun ws=>∃ds,li ws=some ds/\ds.length<=sizeLine/\Q (.ml ds)
theorem cZ{x1}(h:HN X rl es fs):PV X rl (.Tuple es x1 pos) (yE fs):=by
 obtain⟨t,p,k⟩:=h;refine⟨_,pU p,fun R Qd Q q h=>k R _ _ q fun vs ws F1 H1 g1 r1 ⟨ds,e1,z,q1⟩=>?_⟩;have rs:=dI r1 e1;refine⟨by rw[rs.length];exact z,fun p hp=>?_⟩;have g2:=g1.trans (Grow.data (a:=p) (o:=.tup vs) g1.sub g1.reel hp);exact h _ (.d (.tuple ds)) _ _ g2 (.tup (.inl (.inl ax)) (rs.mono (Grow.data (o:=.tup vs) g1.sub g1.reel hp).fs)) trivial q1
theorem dG{K:W.Frag}{p:Addr}{ds:List IJ}(s:bE F H)(ra:HM rl F H)(hp:H p=none)(rs:Reps K F vs ds):gO K rl F (upd H p (.lst vs)) (.ref p) ds:=by
 refine⟨p,vs,rfl,s.free hp,fun e=>?_,ax,rs⟩;obtain⟨o,q⟩:=ra.live e;rw[hp]at q;cases q
theorem eB(h:HN X rl es fs):PV X rl (.List es pos) (Bt fs):=by
 obtain⟨t,p,k⟩:=h;refine⟨_,zK p,fun R Qd Q q h=>k R _ _ q fun vs ws F1 H1 g1 r1 ⟨ds,e1,z,q1⟩=>?_⟩;have rs:=dI r1 e1;refine⟨by rw[rs.length];exact z,fun p hp=>?_⟩;exact h _ (.ml ds) _ _ (g1.trans (Grow.laid (a:=p) (o:=.lst vs) g1.sub g1.reel hp)) (dG g1.sub g1.reel hp rs) (fun a ea=>by cases ea;exact g1.freeB hp) q1
noncomputable def itemAt:IJ->Int->Option IJ
 | .list xs,i=>atI xs i
 | .tuple xs,i=>atI xs i
 | _,_=>none
theorem Reps.atI{K:W.Frag}{F:Hp}{vs:List V}{ds:List IJ}{i:Int}{d:IJ}(r:Reps K F vs ds)(e:L2.atI ds i=some d):∃v,L2.atI vs i=some v/\Rep K F v d:=by
 unfold L2.atI at e ⊢;rw[r.length]
 cases q:ixN ds.length i with
 | none=>rw[q]at e;cases e
 | some j =>
   rw[q]at e;exact r.get e
def G9:W->W->(W->Prop)->Prop:=fun x y Q=>∃dx i z,x.dat=some dx/\y = .d (.int i)/\itemAt dx i=some z/\Q (.d z)
theorem yn:Hw X rl (Gz X.K) G9:=fun{F H x y wx wy} Qd Q s ra r1 r2 q k=>by
 obtain⟨dx,i,z,e1,rfl,e3,q⟩:=q;have ey:=aJ r2;subst ey
 cases dx with
 | list xs =>
   obtain⟨a,vs,rfl,sq,rs⟩:=r1.items s e1;obtain⟨v,e4,rz⟩:=Reps.atI rs e3
   exact .inl ⟨a,vs,i,v,rfl,rfl,sq,e4,k _ (.d _) _ _ (Grow.refl s ra) rz trivial q⟩
 | tuple xs =>
   obtain⟨a,vs,rfl,sq,rs⟩:=r1.itemsT s e1;obtain⟨v,e4,rz⟩:=Reps.atI rs e3
   exact .inr (.inl ⟨a,vs,i,v,rfl,rfl,sq,e4,k _ (.d _) _ _ (Grow.refl s ra) rz trivial q⟩)
 | none=>cases e3
 | bool b=>cases e3
 | int b=>cases e3
 | str b=>cases e3
 | dict b=>cases e3
theorem cP(ha:PV X rl a fa)(hb:PV X rl b fb)(hs:gN b:=by exact fun _ _=>rfl):PV X rl (.Subscript a b pos) (FO G9 fa fb):=ja yn ha hb fun _ _ p1 p2=>sP mi p1 p2 hs
def d8(X:Cx)(rl:RlT)(r:List V->Hp->VK->Prop)(g:List W->(W->Prop)->Prop):Prop:=∀{F H:Hp}{vs:List V}{ws:List W}(Qd:W->Prop)(Q:VK),bE F H->HM rl F H->eW X.K rl F H vs ws->g ws Qd ->
 (∀v w F' H',Grow rl F H F' H'->cY X.K rl F' H' v w->dL H v w->Qd w->Q v H')->r vs H Q
def cR(g:List W->(W->Prop)->Prop)(fs:HA):TV:=fun ρ Q=>fs ρ fun ws=>g ws Q
theorem lA{r:List V->Hp->VK->Prop}{g:List W->(W->Prop)->Prop}{t:TA->TE}(vc:d8 X rl r g)(ha:HN X rl es fs){e:Expr}(hp:∀ta,PA X es ta->PE X e (Gf r ta)):PV X rl e (cR g fs):=by
 obtain⟨ta,p1,k1⟩:=ha;refine⟨_,hp ta p1,fun R Qd Q q k=>k1 R _ _ q fun vs ws F1 H1 g1 r1 q1=>?_⟩;exact vc Qd Q g1.sub g1.reel r1 q1 fun v w F2 H2 g2 r2 n2 q2=>k v w F2 H2 (g1.trans g2) r2 (n2.back g1) q2
theorem dA{id:String}{x:Str}{r:List V->Hp->VK->Prop}{g:List W->(W->Prop)->Prop}(hc:d9 X (.builtin id) r)(vc:d8 X rl r g)(hm:X.mg x=none)(hv:L3 x=some (.builtin id))(ha:HN X rl (e::es) fs)(hg:Gl X x:=by rfl)(hn:x ≠ "__name__" := by decide)(hdb:(x==("__debug__" : Str))=false:=by decide)
 (he:IZ (e::es) X.env=(false,eval e X.env)::IZ es X.env:=by rfl)(hpl:(KC pos (IZ es X.env)).any (·.1)=false:=by rfl):PV X rl (.Call (.Name x p) (e::es) [] pos) (cR g fs) :=
 lA (t:=fun _=>tC .non) vc ha fun _ p1=>lV hc hg hm hv p1 hn hdb he hpl
theorem iB{T:String}{x:Str}{r:List V->Hp->VK->Prop}{g:List W->(W->Prop)->Prop}(hc:d9 X (.type T) r)(vc:d8 X rl r g)(hm:X.mg x=none)(hv:L3 x=some (.type T))(ha:HN X rl (e::es) fs)(hg:Gl X x:=by rfl)(hn:x ≠ "__name__" := by decide)(hdb:(x==("__debug__" : Str))=false:=by decide)
 (he:IZ (e::es) X.env=(false,eval e X.env)::IZ es X.env:=by rfl)(hpl:(KC pos (IZ es X.env)).any (·.1)=false:=by rfl):PV X rl (.Call (.Name x p) (e::es) [] pos) (cR g fs) :=
 lA (t:=fun _=>tC .non) vc ha fun _ p1=>gi hc hg hm hv p1 hn hdb he hpl
theorem nU{K:W.Frag}{w:W}(r:eW K rl F H vs [w]):∃v,vs=[v]/\cY K rl F H v w:=by
 cases r with
 | cons r1 r2=>cases r2;exact⟨_,rfl,r1⟩
theorem zi{K:W.Frag}{w w':W}(r:eW K rl F H vs [w,w']):∃v u,vs=[v,u]/\cY K rl F H v w/\cY K rl F H u w':=by
 cases r with
 | cons r1 r2 =>
   cases r2 with
   | cons r3 r4=>cases r4;exact⟨_,_,rfl,r1,r3⟩
def Bc:List W->(W->Prop)->Prop:=fun ws Q=>∃i,ws=[.d (.int i)]/\Q (.d (.int (if i<0 then -i else i)))
theorem yw:d8 X rl (fun xs H Q=>∃i,xs=[.int i]/\Q (.int (if i<0 then -i else i)) H) Bc:=fun{F H vs ws} Qd Q s ra r ⟨i,ew,q⟩ k=>by
 subst ew;obtain⟨v,rfl,r1⟩:=nU r;have e:=aJ r1;subst e;exact⟨i,rfl,k _ (.d _) _ _ (Grow.refl s ra) (.int _) trivial q⟩
noncomputable def qu:IJ->Option Nat
 | .list xs=>some xs.length
 | .tuple xs=>some xs.length
 | _=>none
def x_:List W->(W->Prop)->Prop:=fun ws Q=>∃w d n,ws=[w]/\w.dat=some d/\qu d=some n/\Q (.d (.int n))
theorem yr:d8 X rl (fun xs H Q=>∃p ys,xs=[.ref p]/\(HH X.K H p ys\/HG X.K H p ys)/\Q (.int ys.length) H) x_:=fun{F H vs ws} Qd Q s ra r ⟨w,d,n,ew,e1,e2,q⟩ k=>by
 subst ew;obtain⟨v,rfl,r1⟩:=nU r
 cases d with
 | list xs =>
   obtain⟨a,vs,rfl,sq,rs⟩:=r1.items s e1;cases e2
   exact⟨a,vs,rfl,.inl sq,k _ (.d _) _ _ (Grow.refl s ra) (by rw[rs.length];exact .int _) trivial q⟩
 | tuple xs =>
   obtain⟨a,vs,rfl,sq,rs⟩:=r1.itemsT s e1;cases e2
   exact⟨a,vs,rfl,.inr sq,k _ (.d _) _ _ (Grow.refl s ra) (by rw[rs.length];exact .int _) trivial q⟩
 | none=>cases e2
 | bool b=>cases e2
 | int b=>cases e2
 | str b=>cases e2
 | dict b=>cases e2
end
structure VEnds where
 nx:En->Prop
 rt:W->Prop
 bk:En->Prop:=fun _=>False
 ct:En->Prop:=fun _=>False
structure EndsOk (K:W.Frag) (rl:RlT) (F₀ H₀ Fs:Hp) (Dv:VEnds) (D:Ends):Prop where
 nx:∀F H σ ρ,bE Fs F->VR K rl F₀ H₀ F H σ ρ->Dv.nx ρ->D.nx σ H
 rt:∀v w F H,Grow rl F₀ H₀ F H->cY K rl F H v w->dL H₀ v w->Dv.rt w->D.rt v H
 bk:∀F H σ ρ,bE Fs F->VR K rl F₀ H₀ F H σ ρ->Dv.bk ρ->D.bk σ H
 ct:∀F H σ ρ,bE Fs F->VR K rl F₀ H₀ F H σ ρ->Dv.ct ρ->D.ct σ H
theorem EndsOk.on{K:W.Frag}{rl:RlT}{Fs:Hp}{Dv:VEnds}{D:Ends}(ok:EndsOk K rl F₀ H₀ Fs Dv D)(s:bE Fs F):EndsOk K rl F₀ H₀ F Dv D :=
 ⟨fun F1 H σ ρ s1=>ok.nx F1 H σ ρ (s.trans s1),ok.rt,fun F1 H σ ρ s1=>ok.bk F1 H σ ρ (s.trans s1),fun F1 H σ ρ s1=>ok.ct F1 H σ ρ (s.trans s1)⟩
abbrev HB:=VEnds->En->Prop
def HS(X:Cx)(rl:RlT)(st:Stmt)(t:HB):Prop:=∃T,PS X st T/\∀{F₀ H₀ F H:Hp}{σ:St}{ρ:En},VR X.K rl F₀ H₀ F H σ ρ->∀Dv D,EndsOk X.K rl F₀ H₀ F Dv D->t Dv ρ->T D σ H
def mP(X:Cx)(rl:RlT)(st:List Stmt)(t:HB):Prop:=∃T,HR X st T/\∀{F₀ H₀ F H:Hp}{σ:St}{ρ:En},VR X.K rl F₀ H₀ F H σ ρ->∀Dv D,EndsOk X.K rl F₀ H₀ F Dv D->t Dv ρ->T D σ H
section
variable{X:Cx}{rl:RlT}{st:Stmt}{rest body:List Stmt}{t u:HB}{a b c e:Expr}{es:List Expr}{fa fb:TV}{fs:HA}{f:TB}{pos p:Pos}
def vS:HB:=fun D ρ=>D.nx ρ
def xZ(t u:HB):HB:=fun D ρ=>t {D with nx:=u D} ρ
theorem bP:mP X rl [] vS:=⟨_,wF,fun R Dv D ok q=>ok.nx _ _ _ _ (.refl _) R q⟩
theorem au(h:HS X rl st t):mP X rl [st] t:=let ⟨T,p,k⟩:=h;⟨T,kK p,k⟩
theorem ak(h:HS X rl st t)(h2:mP X rl rest u):mP X rl (st::rest) (xZ t u):=by
 obtain⟨T,p,k⟩:=h;obtain⟨T2,p2,k2⟩:=h2;exact⟨_,da p p2,fun R Dv D ok q=>k R {Dv with nx:=u Dv} {D with nx:=T2 D} ⟨fun F H σ ρ s' R' q'=>k2 R' Dv D (ok.on s') q',ok.rt,ok.bk,ok.ct⟩ q⟩
def Br(fa:TV):HB:=fun D ρ=>fa ρ D.rt
theorem aC(h:PV X rl e fa):HS X rl (.Return (some e) pos) (Br fa):=by
 obtain⟨t,p,k⟩:=h;exact⟨_,lS p,fun R Dv D ok q=>k R _ _ q fun v w F1 H1 g1 r1 n1 q1=>ok.rt v w F1 H1 (R.g.trans g1) r1 (n1.back R.g) q1⟩
def AY(f:TB)(t u:HB):HB:=fun D ρ=>f ρ fun b=>if b=true then t D ρ else u D ρ
theorem cS{A B:List Stmt}(hc:PB X rl c f)(ha:mP X rl A t)(hb:mP X rl B u):HS X rl (.If c A B pos) (AY f t u):=by
 obtain⟨t0,p0,k0⟩:=hc;obtain⟨t1,p1,k1⟩:=ha;obtain⟨t2,p2,k2⟩:=hb;refine⟨_,zC p0 p1 p2,fun R Dv D ok q=>k0 R _ _ q fun b F1 H1 g1 q1=>?_⟩
 cases b with
 | true=>exact k1 (R.grow g1) Dv D (ok.on g1.fs) q1
 | false=>exact k2 (R.grow g1) Dv D (ok.on g1.fs) q1
theorem rQ:HS X rl st (fun _ _=>False):=⟨_,sJ,fun _ _ _ _ q=>q.elim⟩
def W.isPk:W->Bool
 | .pk _=>true
 | _=>false
def AW(i:Nat)(fa:TV):HB:=fun D ρ=>fa ρ fun w=>w.isPk=false/\D.nx (ρ.set i (some w))
theorem cO(i:Nat){x:Str}(hN:X.N.Nodup)(he:PV X rl e fa)(hi:X.N[i]?=some x:=by rfl)(hx:Loc X.env.scope x:=by first|exact Kz rfl|exact J0 rfl)
 (hs:K0 e (some (.Name x pos')) pos.line X.env=pure false:=by rfl)(hf:X.fn x=true\/X.env.scope.names.lookup x=some .local:=by first|exact .inl rfl|exact .inr rfl) :
 HS X rl (.Assign [.Name x pos'] e pos) (AW i fa):=by
 obtain⟨t,p,k⟩:=he;refine⟨_,ib hN hi hx p hs hf,fun R Dv D ok q=>k R _ _ q fun v w F1 H1 g1 r1 n1 ⟨hp,q1⟩=>?_⟩;exact ok.nx _ _ _ _ g1.fs (R.set g1 r1 n1 (fun xs z=>by subst z;cases hp) i) q1
def nQ(ρ:En):Prop:=∀(i:Nat)(w:W),ρ[i]?=some (some w)->w.own=false
theorem nQ.set{ρ:En}(h:nQ ρ)(i:Nat)(x:IJ):nQ (ρ.set i (some (.d x))):=fun j w z=>by
 rw[J8]at z;split at z
 · split at z
   · cases z;rfl
   · cases z
 · exact h j w z
abbrev HE:=IJ->En->(En->Prop)->Prop
abbrev rN:=List IJ->En->(En->Prop)->Prop
def HZ(X:Cx)(rl:RlT)(tg:Expr)(g:HE):Prop:=∃G,PG X tg G/\∀{F₀ H₀ F H:Hp}{σ:St}{ρ:En},VR X.K rl F₀ H₀ F H σ ρ->∀(v:V)(x:IJ)(Qd:En->Prop)(Q:St->Hp->Prop),Rep X.K F v x->g x ρ Qd ->
 (∀F' H' σ' ρ',Grow rl F H F' H'->(nQ ρ->nQ ρ')->VR X.K rl F₀ H₀ F' H' σ' ρ'->Qd ρ'->Q σ' H')->G v σ H Q
def Bf(X:Cx)(rl:RlT)(tgs:List Expr)(g:rN):Prop:=∃G,HY X tgs G/\∀{F₀ H₀ F H:Hp}{σ:St}{ρ:En},VR X.K rl F₀ H₀ F H σ ρ->∀(vs:List V)(xs:List IJ)(Qd:En->Prop)(Q:St->Hp->Prop),Reps X.K F vs xs->g xs ρ Qd ->
 (∀F' H' σ' ρ',Grow rl F H F' H'->(nQ ρ->nQ ρ')->VR X.K rl F₀ H₀ F' H' σ' ρ'->Qd ρ'->Q σ' H')->G vs σ H Q
def xv(i:Nat):HE:=fun x ρ Q=>Q (ρ.set i (some (.d x)))
theorem av(i:Nat){x:Str}(hN:X.N.Nodup)(hi:X.N[i]?=some x:=by rfl)(hx:Loc X.env.scope x:=by first|exact Kz rfl|exact J0 rfl)(hf:X.fn x=true\/X.env.scope.names.lookup x=some .local:=by first|exact .inl rfl|exact .inr rfl):HZ X rl (.Name x pos) (xv i) :=
 ⟨_,iP hN hi hx hf,fun R v x Qd Q r q k=>k _ _ _ _ (Grow.refl R.sub R.reel) (fun n=>n.set i x) (R.set (w:=.d x) (Grow.refl R.sub R.reel) r trivial (fun _ z=>by cases z) i) q⟩
def Cj:rN:=fun xs ρ Q=>xs=[]/\Q ρ
def tL(g:HE)(gs:rN):rN:=fun xs ρ Q=>∃y r,xs=y::r/\g y ρ fun ρ'=>gs r ρ' Q
theorem cA:Bf X rl [] Cj:=⟨_,pS,fun R vs xs Qd Q r ⟨e,q⟩ k=>by subst e;exact⟨r.nil_iff,k _ _ _ _ (Grow.refl R.sub R.reel) (fun n=>n) R q⟩⟩
theorem aO{g:HE}{gs:rN}(h1:HZ X rl e g)(h2:Bf X rl es gs)(hs:(Ky (e::es) X.env).map (·.2)=LH e X.env::(Ky es X.env).map (·.2):=by rfl):Bf X rl (e::es) (tL g gs):=by
 obtain⟨G,p,k⟩:=h1;obtain⟨G2,p2,k2⟩:=h2;refine⟨_,iO p p2 hs,fun R vs xs Qd Q r ⟨y,ys,ex,q⟩ h=>?_⟩;subst ex
 cases r with
 | cons r1 r2 =>
   refine⟨_,_,rfl,k R _ y _ _ r1 q fun F1 H1 σ1 ρ1 s1 n1 R1 q1=>?_⟩;exact k2 R1 _ ys _ _ (r2.mono s1.fs) q1 fun F2 H2 σ2 ρ2 s2 n2 R2 q2=>h F2 H2 σ2 ρ2 (s1.trans s2) (fun n=>n2 (n1 n)) R2 q2
def Ci(n:Nat)(gs:rN):HE:=fun x ρ Q=>∃xs,x = .tuple xs/\xs.length=n/\gs xs ρ Q
theorem dz{kk:Nat}{gs:rN}(hc:X.calm=true)(h:Bf X rl es gs)(hn:(Ky es X.env).length=n:=by rfl)(hst:(Ky es X.env).findIdx? (·.1)=none:=by rfl):HZ X rl (.Tuple es kk pos) (Ci n gs):=by
 obtain⟨G,p,k⟩:=h;refine⟨_,uK hc p hn hst,fun R v x Qd Q r ⟨xs,ex,hl,q⟩ h=>?_⟩;subst ex
 cases r with
 | tup sq rs=>exact⟨_,_,rfl,dJ R.sub sq,by rw[rs.length];exact hl,k R _ xs _ _ rs q h⟩
def A0(fa:TV)(g:HE):HB:=fun D ρ=>fa ρ fun w=>∃x,w = .d x/\g x ρ D.nx
theorem oa{g:HE}(he:PV X rl e fa)(hg:HZ X rl tg g)(hs:LS [tg] e pos.line X.env=pure false:=by rfl)(hw:LU [tg] e X.env=pure none:=by rfl)
 (h1:(Ky [tg] X.env).map (·.2)=[LH tg X.env]:=by rfl):HS X rl (.Assign [tg] e pos) (A0 fa g):=by
 obtain⟨t,p,k⟩:=he;obtain⟨G,p2,k2⟩:=hg;refine⟨_,jB p p2 hs hw h1,fun R Dv D ok q=>k R _ _ q fun v w F1 H1 g1 r1 n1 ⟨x,ew,q1⟩=>?_⟩;subst ew;exact k2 (R.grow g1) v x _ _ r1 q1 fun F2 H2 σ2 ρ2 s2 n2 R2 q2=>ok.nx _ _ _ _ (g1.fs.trans s2.fs) R2 q2
def DS(i j:Nat)(fs:HA):HB:=fun D ρ=>fs ρ fun ws=>∃x y,li ws=some [x,y]/\D.nx ((ρ.set i (some (.d x))).set j (some (.d y)))
theorem hG(i j:Nat){x y:Str}{py pt:Pos}{kt k2 pt2}(hc:X.calm=true)(hN:X.N.Nodup)(ha:HN X rl [a,b] fs)
 (hw:LU [.Tuple [.Name x px,.Name y py] kt pt] (.Tuple [a,b] k2 pt2) X.env=pure (some [x,y]):=by rfl)(hi:X.N[i]?=some x:=by rfl)(hj:X.N[j]?=some y:=by rfl)(hij:i≠j:=by decide)
 (hx:X.env.scope.names.lookup x=some .local:=by rfl)(hy:X.env.scope.names.lookup y=some .local:=by rfl)
 (hs:LS [.Tuple [.Name x px,.Name y py] kt pt] (.Tuple [a,b] k2 pt2) pos.line X.env=pure false:=by rfl) :
 HS X rl (.Assign [.Tuple [.Name x px,.Name y py] kt pt] (.Tuple [a,b] k2 pt2) pos) (DS i j fs):=by
 obtain⟨t,p,k⟩:=ha;refine⟨_,zB hc hN hi hj hij hx hy p hw hs,fun R Dv D ok q=>k R _ _ q fun vs ws F1 H1 g1 r1 ⟨x,y,e1,q1⟩=>?_⟩;have rs:=dI r1 e1
 cases rs with
 | cons rx rs =>
   cases rs with
   | cons ry rs =>
     cases rs;have R1:=(R.grow g1).set (w:=.d x) (Grow.refl g1.sub g1.reel) rx trivial (fun _ z=>by cases z) i;exact⟨_,_,rfl,ok.nx _ _ _ _ g1.fs (R1.set (w:=.d y) (Grow.refl g1.sub g1.reel) ry trivial (fun _ z=>by cases z) j) q1⟩
structure VIt (K:W.Frag) (rl:RlT) (F:Hp) (J:It) (xs:List IJ):Prop where
 go:∀i H x,xs[i]?=some x->bE F H->J.go i H
 stop:∀i H,xs.length<=i->bE F H->J.stop i H
 yld:∀{r:RlT} i H v H' x F2,xs[i]?=some x->bE F F2->bE F2 H->HM r F2 H->J.yld i H v H'->∃F3,Grow r F2 H F3 H'/\Rep K F3 v x
theorem VIt.of{K:W.Frag}{rl:RlT}{J:It}(go:∀i H x,xs[i]?=some x->bE F H->J.go i H)(stop:∀i H,xs.length<=i->bE F H->J.stop i H)
 (yld:∀i H v H' x,xs[i]?=some x->bE F H->J.yld i H v H'->H'=H/\Rep K F v x):VIt K rl F J xs :=
 ⟨go,stop,fun i H v H' x F2 e s s2 ra y=>by
  obtain⟨e1,r⟩:=yld i H v H' x e (s.trans s2) y;subst e1
  exact⟨F2,Grow.refl s2 ra,r.mono s⟩⟩
def HW(X:Cx)(rl:RlT)(tg iter:Expr)(fi:En->(List IJ->Prop)->Prop):Prop:=∃wi,PI X tg iter wi/\∀{F₀ H₀ F H:Hp}{σ:St}{ρ:En},VR X.K rl F₀ H₀ F H σ ρ->∀(Qd:List IJ->Prop)(R:It->Hp->Prop),fi ρ Qd ->
 (∀J xs F' H',Grow rl F H F' H'->VIt X.K rl F' J xs->Qd xs->R J H')->wi σ H R
end
section
variable{X:Cx}{rl:RlT}{st:Stmt}{rest body:List Stmt}{t u:HB}{a b c e:Expr}{es:List Expr}{fa fb:TV}{fs:HA}{f:TB}{pos p:Pos}{tg:Expr}
def Bu(i:Nat)(t:HB):HB:=fun D ρ=>∃xs,ρ[i]?=some (some (.ml xs))/\t D (ρ.set i (some (.d (.list xs))))
theorem tV{K:W.Frag}{ρ:En}(r:VR K rl F₀ H₀ F H σ ρ)(e:ρ[i]?=some (some (.ml xs))):∃F1,bE F F1/\VR K rl F₀ H₀ F1 H σ (ρ.set i (some (.d (.list xs)))):=by
 obtain⟨v,h1,h2,h3⟩:=r.sl i _ e;obtain⟨a,vs,ev,f,hr,hh,q⟩:=(show gO K rl F H v xs from h2);obtain⟨F1,R1⟩:=r.freeze e;obtain⟨v',k1,k2,k3⟩:=R1.sl i _ (Jp (Jj.mp e).1);have neF:∀b u,F b=some u->b≠a:=fun b u q z=>by subst z;rw[f]at q;cases q
 have fsm:bE F (upd F a (.lst vs)):=fun b u z=>by rw[ar (neF b u z)];exact z
 have hi:i<ρ.length:=(Jj.mp e).1;refine⟨upd F a (.lst vs),fsm,r.g.freeze (h3 a ev) hh f hr,fun j w e1=>?_,R1.ap,R1.np,R1.len⟩;by_cases hj:i=j
 · subst hj;rw[Jp hi]at e1;cases e1;exact⟨v,h1,by rw[ev];exact .lst ax (q.mono fsm),trivial⟩
 · rw[Jk hj]at e1;obtain⟨u,g1,g2,g3⟩:=r.sl j w e1;refine⟨u,g1,?_,g3⟩
   cases w with
   | d x=>exact Rep.mono fsm g2
   | reel=>exact g2
   | vv u=>exact g2
   | ml ys =>
     obtain⟨b,us,eb,f1,f2,f3,f4⟩:=(show gO K rl F H u ys from g2);have ne:b≠a:=fun z=>r.ap i j _ _ v hj e e1 rfl rfl h1 (by rw[g1,eb,z,ev])
     exact⟨b,us,eb,by rw[ar ne];exact f1,f2,f3,f4.mono fsm⟩
   | pk ys=>exact absurd e1 (r.np j ys)
   | md ys =>
     obtain⟨b,us,eb,f1,f2,f3,f4⟩:=(show vb K rl F H u ys from g2);have ne:b≠a:=fun z=>r.ap i j _ _ v hj e e1 rfl rfl h1 (by rw[g1,eb,z,ev])
     exact⟨b,us,eb,by rw[ar ne];exact f1,f2,f3,Kx.mapP f4 fun _ _ z=>⟨z.1,z.2.mono fsm⟩⟩
   | mk ys =>
     obtain⟨b,us,eb,f1,f2,f3,f4⟩:=(show nY K rl F H u ys from g2);have ne:b≠a:=fun z=>r.ap i j _ _ v hj e e1 rfl rfl h1 (by rw[g1,eb,z,ev])
     exact⟨b,us,eb,by rw[ar ne];exact f1,f2,f3,Kx.mapP f4 fun _ _ z=>⟨z.1,z.2.mono fsm⟩⟩
   | nt ds=>obtain⟨b,us,eb,f1,f2⟩:=g2;exact⟨b,us,eb,fsm _ _ f1,f2.mono fsm⟩
   | lk=>trivial
   | sc ns=>obtain⟨b,eb,f1⟩:=g2;exact⟨b,eb,kH fsm f1⟩
   | fd kvs=>obtain⟨b,us,eb,f1,f2⟩:=g2;exact⟨b,us,eb,fsm _ _ f1,Kx.mapP f2 fun _ _ z=>⟨z.1,z.2.mono fsm⟩⟩
   | fw kvs=>obtain⟨b,us,o,eb,f1,f2⟩:=g2;exact⟨b,us,o,eb,fsm _ _ f1,Kx.mapP f2 fun _ _ z=>⟨z.1,z.2.mono fsm⟩⟩
   | ft kvs=>obtain⟨b,us,o,eb,f1,f2⟩:=g2;exact⟨b,us,o,eb,fsm _ _ f1,Kx.mapP f2 fun _ _ z=>⟨z.1,z.2.mono fsm⟩⟩
   | xc _ _=>obtain⟨b,dx,us,C,eb,n,f1,f3,f2⟩:=g2;exact⟨b,dx,us,C,eb,n,fsm _ _ f1,fsm _ _ f3,Kx.mapP f2 fun _ _ z=>⟨z.1,z.2.mono fsm⟩⟩
   | dp _ _=>obtain⟨c,b,us,u,o,eb,f1,f3,f2,z⟩:=g2;exact⟨c,b,us,u,o,eb,fsm _ _ f1,fsm _ _ f3,Kx.mapP f2 fun _ _ z=>⟨z.1,z.2.mono fsm⟩,z.mono fsm⟩
theorem n_(i:Nat)(h:HS X rl st t):HS X rl st (Bu i t):=by
 obtain⟨T,p,k⟩:=h;refine⟨T,p,fun R Dv D ok ⟨xs,e,q⟩=>?_⟩;obtain⟨F1,s1,R1⟩:=tV R e;exact k R1 Dv D (ok.on s1) q
def iL(fa:TV):En->(List IJ->Prop)->Prop:=fun ρ Q=>fa ρ fun w=>∃xs,w.fz = .d (.list xs)/\Q xs
def iT(fa:TV):En->(List IJ->Prop)->Prop:=fun ρ Q=>fa ρ fun w=>∃xs,w.fz = .d (.tuple xs)/\Q xs
theorem iz{l:Expr}(hl:PV X rl l fa):HW X rl tg l (iL fa):=by
 obtain⟨t,p,k⟩:=hl;refine⟨_,wL p,fun R Qd Q q h=>k R _ _ q fun v w F1 H1 g1 r1 n1 ⟨xs,ew,q1⟩=>?_⟩;obtain⟨F2,g2,s2,r2⟩:=cY.fz g1 r1 n1;rw[ew]at r2
 cases(show Rep X.K F2 v (.list xs)from r2)with
 | @lst a vs _ sq rs =>
   have sqH:∀H,bE F2 H->HH X.K H a vs:=fun H s=>.inl (.inl (s _ _ sq));refine⟨a,rfl,⟨vs,sqH H1 g2.sub⟩,h _ xs F2 H1 g2 (.of (fun i H x e s=>?_) (fun i H hl s=>⟨vs,sqH H s,by rw[rs.length];exact hl⟩) (fun i H v H' x e s y=>?_)) q1⟩
   · obtain⟨v,ev,_⟩:=rs.get e;exact⟨vs,v,sqH H s,ev⟩
   · obtain⟨e',hy⟩:=y;obtain⟨v',ev,rv⟩:=rs.get e;have:=hy vs (sqH H s);rw[ev]at this;cases this;exact⟨e',rv⟩
theorem jc{l:Expr}(hl:PV X rl l fa):HW X rl tg l (iT fa):=by
 obtain⟨t,p,k⟩:=hl;refine⟨_,zE p,fun R Qd Q q h=>k R _ _ q fun v w F1 H1 g1 r1 n1 ⟨xs,ew,q1⟩=>?_⟩;obtain⟨F2,g2,s2,r2⟩:=cY.fz g1 r1 n1;rw[ew]at r2
 cases(show Rep X.K F2 v (.tuple xs)from r2)with
 | @tup a vs _ sq rs =>
   have sqH:∀H,bE F2 H->HG X.K H a vs:=fun H s=>dJ s sq;refine⟨a,rfl,⟨vs,sqH H1 g2.sub⟩,h _ xs F2 H1 g2 (.of (fun i H x e s=>?_) (fun i H hl s=>⟨vs,sqH H s,by rw[rs.length];exact hl⟩) (fun i H v H' x e s y=>?_)) q1⟩
   · obtain⟨v,ev,_⟩:=rs.get e;exact⟨vs,v,sqH H s,ev⟩
   · obtain⟨e',hy⟩:=y;obtain⟨v',ev,rv⟩:=rs.get e;have:=hy vs (sqH H s);rw[ev]at this;cases this;exact⟨e',rv⟩
noncomputable def bp(lo:Int)(n:Nat):List IJ:=(Jq n).map fun(i:Nat)=>.int (lo+i)
theorem hZ{lo:Int}{x:IJ}(h:(bp lo n)[i]?=some x):i<n/\x = .int (lo+i):=by
 unfold bp at h;rw[JW]at h;by_cases hi:i<n
 · rw[IV (by simpa using hi)]at h;simp at h;exact⟨hi,h.symm⟩
 · rw[M0 (by simpa using hi)]at h;cases h
theorem ae{lo:Int}:(bp lo n).length=n:=by simp[bp]
theorem jb{K:W.Frag}(lo:Int)(n:Nat):VIt K rl F (Im lo n) (bp lo n) :=
 .of (fun i H x e s=>(hZ e).1) (fun i H hl s=>by rw[ae]at hl;exact hl) (fun i H v H' x e s y=>by
  obtain⟨e1,e2⟩:=y;subst e2;rw[(hZ e).2]
  exact⟨e1,.int _⟩)
def G4(fs:HA):En->(List IJ->Prop)->Prop:=fun ρ Q=>fs ρ fun ws=>∃j:Int,ws=[.d (.int j)]/\(-(2^62)<=j/\j<2^62)/\Q (bp 0 j.toNat)
def G3(fs:HA):En->(List IJ->Prop)->Prop:=fun ρ Q=>fs ρ fun ws=>∃i j:Int,ws=[.d (.int i),.d (.int j)]/\(-(2^62)<=i/\i<2^62 /\ -(2^62)<=j/\j<2^62)/\Q (bp i (j-i).toNat)
theorem aM(hm:X.mg "range" = none)(ha:HN X rl [a] fs)(hg:Gl X "range" := by rfl)(hs:IZ [a] X.env=[(false,eval a X.env)]:=by rfl):HW X rl tg (.Call (.Name "range" p) [a] [] pos) (G4 fs):=by
 obtain⟨t,p1,k⟩:=ha;refine⟨_,pR hg hm p1 hs,fun R Qd Q q h=>k R _ _ q fun vs ws F1 H1 g1 r1 ⟨j,ew,b,q1⟩=>?_⟩;subst ew;obtain⟨v,rfl,rv⟩:=nU r1;have e:=aJ rv;subst e;exact⟨j,rfl,b.1,b.2,h _ _ F1 H1 g1 (jb 0 _) q1⟩
theorem oq(hm:X.mg "range" = none)(ha:HN X rl [a,b] fs)(hg:Gl X "range" := by rfl)(hs:IZ [a,b] X.env=[(false,eval a X.env),(false,eval b X.env)]:=by rfl)(hs2:IZ [b] X.env=[(false,eval b X.env)]:=by rfl):HW X rl tg (.Call (.Name "range" p) [a,b] [] pos) (G3 fs):=by
 obtain⟨t,p1,k⟩:=ha;refine⟨_,pQ hg hm p1 hs hs2,fun R Qd Q q h=>k R _ _ q fun vs ws F1 H1 g1 r1 ⟨i,j,ew,b,q1⟩=>?_⟩;subst ew;obtain⟨v,u,rfl,rv,ru⟩:=zi r1;have e:=aJ rv;have e':=aJ ru;subst e e';exact⟨i,j,rfl,b,h _ _ F1 H1 g1 (jb i _) q1⟩
theorem VR.own{K:W.Frag}{F₀ H₀ F H:Hp}{σ:St}{ρ:En}(r:VR K rl F₀ H₀ F H σ ρ){i:Nat}{xs ys:List IJ}{a:Addr}{us:List V}(e:ρ[i]?=some (some (.ml xs)))(es:σ[i]?=some (some (.ref a)))(rs:Reps K F us ys) :
 VR K rl F₀ H₀ F (upd H a (.lst us)) σ (ρ.set i (some (.ml ys))):=by
 obtain⟨v,h1,h2,h3⟩:=r.sl i _ e;rw[es]at h1;cases h1;obtain⟨a',vs,ev,f,hr,hh,q⟩:=(show gO K rl F H (.ref a) xs from h2);cases ev;have n0:H₀ a=none:=h3 a rfl;have hi:i<ρ.length:=(Jj.mp e).1;have neF:∀b u,F b=some u->b≠a:=fun b u q z=>by subst z;rw[f]at q;cases q
 have g:Grow rl F₀ H₀ F (upd H a (.lst us)):=by
  refine⟨fun b o q1 n=>by rw[ar (aS q1 n0)];exact r.g.same b o q1 n,r.g.fs,fun b o q1=>by rw[ar (neF b o q1)];exact r.sub b o q1,r.g.old,fun y z=>?_⟩;obtain⟨z1,⟨u,h1,h2⟩⟩:=r.reel y z;exact⟨z1,⟨u,by rw[ar (fun q=>hr (by rw[<- q];exact z))];exact h1,h2⟩⟩
 refine⟨g,fun j w e1=>?_,fun j k ys' zs u hjk e1 e2 w1 w2 s1 s2=>?_,fun j ys' z=>?_,by simp[r.len]⟩
 · by_cases hj:i=j
   · subst hj;rw[Jp hi]at e1;cases e1;exact⟨_,es,⟨a,us,rfl,f,hr,ax,rs⟩,h3⟩
   · rw[Jk hj]at e1;obtain⟨u,g1,g2,g3⟩:=r.sl j w e1;refine⟨u,g1,?_,g3⟩
     cases w with
     | d x=>exact g2
     | reel=>exact g2
     | vv u=>exact g2
     | ml zs =>
       obtain⟨b,us',eb,f1,f2,f3,f4⟩:=(show gO K rl F H u zs from g2);have ne:b≠a:=fun z=>r.ap i j _ _ (.ref a) hj e e1 rfl rfl es (by rw[g1,eb,z])
       exact⟨b,us',eb,f1,f2,by rw[ar ne];exact f3,f4⟩
     | pk zs=>exact absurd e1 (r.np j zs)
     | md zs =>
       obtain⟨b,us',eb,f1,f2,f3,f4⟩:=(show vb K rl F H u zs from g2);have ne:b≠a:=fun z=>r.ap i j _ _ (.ref a) hj e e1 rfl rfl es (by rw[g1,eb,z])
       exact⟨b,us',eb,f1,f2,by rw[ar ne];exact f3,f4⟩
     | mk zs =>
       obtain⟨b,us',eb,f1,f2,f3,f4⟩:=(show nY K rl F H u zs from g2);have ne:b≠a:=fun z=>r.ap i j _ _ (.ref a) hj e e1 rfl rfl es (by rw[g1,eb,z])
       exact⟨b,us',eb,f1,f2,by rw[ar ne];exact f3,f4⟩
     | nt ds=>exact g2
     | lk=>trivial
     | sc _=>exact g2
     | fd _=>exact g2
     | fw _=>exact g2
     | ft _=>exact g2
     | xc _ _=>exact g2
     | dp _ _=>exact g2
 · have nd:∀(j:Nat)(z:W),(ρ.set i (some (W.ml ys)))[j]?=some (some z)->z.own=true->∃z',ρ[j]?=some (some z')/\z'.own=true:=fun j zs z o=>by
     by_cases hj:i=j
     · subst hj;exact⟨_,e,rfl⟩
     · rw[Jk hj]at z;exact⟨zs,z,o⟩
   obtain⟨_,d1,o1⟩:=nd j _ e1 w1;obtain⟨_,d2,o2⟩:=nd k _ e2 w2;exact r.ap j k _ _ u hjk d1 d2 o1 o2 s1 s2
 · rw[J8]at z;split at z
   · first|cases z|(split at z<;>cases z)
   · exact r.np j ys' z
def CF(K:W.Frag)(rl:RlT)(r:V->List V->Hp->VK->Prop)(g:List IJ->List W->(List IJ->Prop)->Prop):Prop :=
 ∀ {F H:Hp}{a:Addr}{vs args:List V}{xs:List IJ}{ws:List W}(Qn:List IJ->Prop)(Q:VK),bE F H->H a=some (.lst vs)->Reps K F vs xs->eW K rl F H args ws->g xs ws Qn ->
   (∀us ys,Reps K F us ys->Qn ys->Q .non (upd H a (.lst us)))->r (.ref a) args H Q
def x5(i:Nat)(g:List IJ->List W->(List IJ->Prop)->Prop)(fs:HA):HB:=fun D ρ=>∃xs,ρ[i]?=some (some (.ml xs))/\fs ρ fun ws=>g xs ws fun ys=>D.nx (ρ.set i (some (.ml ys)))
theorem yh(i:Nat){x:Str}{nm:Str}{id:String}{r:V->List V->Hp->VK->Prop}{g:List IJ->List W->(List IJ->Prop)->Prop}{apos cpos:Pos}(slot:Slot "list" nm id)(hty:typeOf (.builtin id)=pure (.type "method_descriptor"))(hm:Ib X id r)(vm:CF X.K rl r g)(ha:HN X rl (e::es) fs)
 (hN:X.N[i]?=some x:=by rfl)(hv:Hv X.env.scope x:=by first|exact Kz rfl|exact J0 (Kz rfl)|exact J0 (J0 rfl))
 (hd:(x==("__debug__" : Str))=false:=by decide)(hcd:(x==("__classdict__" : Str))=false:=by decide)
 (hbase:Nb (.Name x px) nm X.env (eval (.Name x px) X.env)=eval (.Name x px) X.env:=by rfl)
 (hfew:((KC cpos (IZ (e::es) X.env)).all (fun x=>!x.1)&&(Pq cpos (N2 [] X.env)).all (fun x=>x.1.isSome)
  && decide ((e::es).length+([]:List NK).length+(if([]:List NK).isEmpty then 0 else 1)<30))=true:=by rfl)
 (hline:(apos.endLine==cpos.line)=true:=by rfl)(hs:IZ (e::es) X.env=(false,eval e X.env)::IZ es X.env:=by rfl)(hplain:(KC cpos (IZ es X.env)).any (·.1)=false:=by rfl)
 (hsw:K0 (.Call (.Attribute (.Name x px) nm apos) (e::es) [] cpos) none pos.line X.env=pure false:=by rfl) :
 HS X rl (.Expr (.Call (.Attribute (.Name x px) nm apos) (e::es) [] cpos) pos) (x5 i g fs):=by
 obtain⟨t,p1,k⟩:=ha;refine⟨_,pL (wQ MD slot hty hm (cu hN hv hd hcd) p1 hbase hfew hline hs hplain) hsw,fun{F₀ H₀ F H σ ρ} R Dv D ok ⟨xs,e1,q⟩=>?_⟩;obtain⟨v,h1,h2,h3⟩:=R.sl i _ e1;obtain⟨a,vs,rfl,f,hr,hh,rs⟩:=(show gO X.K rl F H v xs from h2);refine⟨.ref a,h1,.inl ⟨rfl,vs,.inl (.inl hh)⟩,k R _ _ q fun args ws F1 H1 g1 r1 q1=>?_⟩;refine vm _ _ g1.sub (g1.same a _ hh hr) (rs.mono g1.fs) r1 q1 fun us ys r2 q2=>?_;exact ok.nx _ _ _ _ g1.fs ((R.grow g1).own e1 h1 r2) q2
def Au:List IJ->List W->(List IJ->Prop)->Prop:=fun xs ws Q=>∃x,li ws=some [x]/\xs.length<sizeLine/\Q (xs++[x])
theorem ui{K:W.Frag}:CF K rl pH Au:=fun{F H a vs args xs ws} Qn Q s ha rs ra ⟨x,e,z,q⟩ k=>by
 have r2:=dI ra e
 cases r2 with
 | cons rx r3 =>
   cases r3;exact⟨a,vs,_,rfl,rfl,ha,by rw[rs.length];exact z,k _ _ (rs.snoc rx) q⟩
theorem fu(i:Nat){x:Str}{apos cpos:Pos}(ha:HN X rl [e] fs)(hN:X.N[i]?=some x:=by rfl)(hv:Hv X.env.scope x:=by first|exact Kz rfl|exact J0 (Kz rfl)|exact J0 (J0 rfl))
 (hd:(x==("__debug__" : Str))=false:=by decide)(hcd:(x==("__classdict__" : Str))=false:=by decide)
 (hbase:Nb (.Name x px) "append" X.env (eval (.Name x px) X.env)=eval (.Name x px) X.env:=by rfl)
 (hfew:((KC cpos (IZ [e] X.env)).all (fun x=>!x.1)&&(Pq cpos (N2 [] X.env)).all (fun x=>x.1.isSome)
  && decide (([e]).length+([]:List NK).length+(if([]:List NK).isEmpty then 0 else 1)<30))=true:=by rfl)
 (hline:(apos.endLine==cpos.line)=true:=by rfl)(hs:IZ [e] X.env=(false,eval e X.env)::IZ [] X.env:=by rfl)(hplain:(KC cpos (IZ [] X.env)).any (·.1)=false:=by rfl)
 (hsw:K0 (.Call (.Attribute (.Name x px) "append" apos) [e] [] cpos) none pos.line X.env=pure false:=by rfl) :
 HS X rl (.Expr (.Call (.Attribute (.Name x px) "append" apos) [e] [] cpos) pos) (x5 i Au fs) :=
 yh i NU NV eK ui ha hN hv hd hcd hbase hfew hline hs hplain hsw
noncomputable def d6:W->Bool
 | .ml _=>false
 | .md _=>false
 | .mk _=>false
 | .pk _=>false
 | _=>true
def FG(K:W.Frag)(rl:RlT)(P:List W->(IJ->Prop)->Prop):Sp:=fun vs H Q _=>∃F ws,bE F H/\HM rl F H/\eW K rl F H vs ws/\ws.all d6=true/\P ws fun d=>∀v F' H',Grow rl F H F' H'->Rep K F' v d->Q v H'
noncomputable def dv(N:List Str)(ws:List W):En:=ws.map some++I0 (N.length-ws.length) none
theorem jz{K:W.Frag}{F H:Hp}:∀{vs:List V}{ws:List W}{i:Nat}{w:W},eW K rl F H vs ws->ws[i]?=some w->∃v,vs[i]?=some v/\cY K rl F H v w
 | _,_,_,_,.nil,e=>by simp at e
 | _,_,0,_,.cons h _,e=>by simp at e;subst e;exact⟨_,rfl,h⟩
 | _,_,i+1,w,.cons _ r,e=>by
   obtain⟨v,h1,h2⟩:=jz (i:=i) (w:=w) r (by simpa using e);exact⟨v,by simpa using h1,h2⟩
theorem jk{N:List Str}{ws:List W}{w:W}(h:(dv N ws)[i]?=some (some w)):ws[i]?=some w:=by
 unfold dv at h;by_cases hi:i<ws.length
 · rw[K6 (by simpa using hi),JW]at h
   cases q:ws[i]? with
   | none=>rw[q]at h;cases h
   | some x=>rw[q]at h;cases h;rfl
 · rw[Lp (by simpa using hi),MA]at h;split at h<;>cases h
theorem eg{K:W.Frag}{N:List Str}{ws:List W}(s:bE F H)(ra:HM rl F H)(r:eW K rl F H vs ws)(ok:ws.all d6=true):VR K rl F H F H (start N vs) (dv N ws):=by
 have hl:vs.length=ws.length:=Kt r;have no:∀(i:Nat) w,(dv N ws)[i]?=some (some w)->d6 w=true:=fun i w e=>(Lb.mp ok) w (M9 (jk e));refine⟨Grow.refl s ra,fun i w e=>?_,fun i j xs ys v _ e1 _ o _ _ _=>(by have:=no i _ e1;cases xs<;>first|exact Bool.noConfusion o|exact Bool.noConfusion this),fun i xs e=>(by have:=no i _ e;cases this),?_⟩
 · obtain⟨v,h1,h2⟩:=jz r (jk e);refine⟨v,?_,h2,?_⟩
   · unfold start;rw[K6 (by simpa using(Jj.mp h1).1),JW,h1];rfl
   · have:=no i w e
     cases w with
     | ml xs=>cases this
     | md xs=>cases this
     | mk xs=>cases this
     | nt _=>trivial
     | lk=>trivial
     | sc _=>trivial
     | fd _=>trivial
     | fw _=>trivial
     | ft _=>trivial
     | xc _ _=>trivial
     | dp _ _=>trivial
     | d _=>trivial
     | pk _=>trivial
     | reel=>trivial
     | vv _=>trivial
 · unfold dv start;simp[hl]
def mU(Q:IJ->Prop):VEnds:=⟨fun _=>Q .none,fun w=>∃d,w.fz = .d d/\Q d,fun _=>False,fun _=>False⟩
theorem FH{K:W.Frag}{mg:Str->Option IR}{base:Heap}{x qual:Str}{st:Stmt}{fa:Addr}{N ps:List Str}{k:Nat}{Pd:List W->(IJ->Prop)->Prop}{t:HB}
 (Fn:Fun K x qual st fa fd)(S:FnScope N ps (defScope st))(len:∀ws Q,Pd ws Q->ws.length=ps.length)
 (hbody:∀(cdv:IR)(A:Kh)(outer:List Env)(s:IW)(H:Hp)(E:XK),Room k (A.deeper (NR qual (defScope st) s.heap.objs.size fa cdv)) ->
  mP (nX IA P w K mg base N qual (defScope st) fa cdv A outer s H E).nox rl (defBody st) t)
 (hread:∀ws Q,Pd ws Q->t (mU Q) (dv N ws)):FnOk P w K mg base IA (k+1) fa fd ps (FG K rl Pd):=by
 refine Fn.ok S (fun vs H Q E ⟨F,ws,_,_,r,_,q⟩=>(Kt r).trans (len ws _ q)) fun cdv A outer s H vs Q E hr h=>?_;obtain⟨F,ws,sm,ra,r,ok,q⟩:=h;obtain⟨T,p,kk⟩:=hbody cdv A outer s H E hr;refine⟨T,p,kk (eg sm ra r ok) (mU _) _ ⟨?_,?_,fun _ _ _ _ _ _ z=>J7 z,fun _ _ _ _ _ _ z=>J7 z⟩ (hread ws _ q)⟩
 · intro F1 H1 σ1 ρ1 _ R1 q1;exact q1 .non F1 H1 R1.g .non
 · rintro v w1 F1 H1 g1 r1 n1 ⟨d,ed,q1⟩;obtain⟨F2,g2,s2,r2⟩:=cY.fz g1 r1 n1;rw[ed]at r2;exact q1 v F2 H1 g2 r2
structure Dfn (P:Ju) (w:J_) (K:W.Frag) (mg:Str->Option IR) (base:Heap) (rl:RlT) (x:Str) (ps:List Str) (k:Nat) (Pd:List W->(IJ->Prop)->Prop):Prop where
 mono:∀ws Q Q',(∀d,Q d->Q' d)->Pd ws Q->Pd ws Q'
 ex:∃f fd,mg x=some (.ref f)/\W.keepIn K (.ref f)=true/\Binds K fd ps []/\FnOk P w K mg base IA k f fd ps (FG K rl Pd)
def Bn(Pd:List W->(IJ->Prop)->Prop)(fs:HA):TV:=fun ρ Q=>fs ρ fun ws=>ws.all d6=true/\Pd ws fun d=>Q (.d d)
theorem aA{x:Str}{ps:List Str}{k:Nat}{Pd:List W->(IJ->Prop)->Prop}(D:Dfn X.prog X.w X.K X.mg X.base rl x ps k Pd)(hr:Room k X.A)(ha:HN X rl (e::es) fs)(hg:Gl X x:=by rfl)
 (hdb:(x==("__debug__" : Str))=false:=by decide)(he:IZ (e::es) X.env=(false,eval e X.env)::IZ es X.env:=by rfl)(hpl:(KC pos (IZ es X.env)).any (·.1)=false:=by rfl) :
 PV X rl (.Call (.Name x p) (e::es) [] pos) (Bn Pd fs):=by
 obtain⟨f,fd,hm,hk,hb,F⟩:=D.ex;obtain⟨t,p1,kk⟩:=ha;refine⟨_,gj F hr hg hm hk hb .nil pY p1 hdb he hpl,fun R Qd Q q h=>kk R _ _ q fun vs ws F1 H1 g1 r1 ⟨ok,q1⟩=>?_⟩;refine⟨F1,ws,g1.sub,g1.reel,by rw[KO];exact r1,ok,?_⟩;exact D.mono ws _ _ (fun d qd v F2 H2 g2 r2=>h v (.d d) F2 H2 (g1.trans g2) r2 trivial qd) q1
end
end L2.VL
variable{rl:L2.VL.RlT}{ρ:L2.VL.En}{fi:L2.VL.En->(List IJ->Prop)->Prop}
namespace L2
theorem fq{env:Env}:∀(names:List (Str×Mz))(acc:List (Str×Addr)),(∀x∈names,x.2 = .free->∃c,env.cells.lookup x.1=some c)->(∀x c,acc.lookup x=some c->env.cells.lookup x=some c) ->
 ∃ cl,(forIn names acc (fun(x:Str×Mz)(cs:List (Str×Addr))=>if(x.2==Kb)=true then do let c <- cellOf env x.1;pure (L6 ((x.1,c)::cs))else pure (L6 cs)):Sem (List (Str×Addr)))=pure cl /\
   (∀x c,cl.lookup x=some c->env.cells.lookup x=some c)/\(∀x,(acc.lookup x).isSome=true->(cl.lookup x).isSome=true)/\∀x,(x,Kb)∈names->(cl.lookup x).isSome=true
 | [],acc,_,h2=>⟨acc,rfl,h2,fun _ z=>z,fun _ z=>nomatch z⟩
 | (n,k)::r,acc,h1,h2=>by
   by_cases hk:k = .free
   · subst hk;obtain⟨c,hc⟩:=h1 (n,.free) IS rfl
     have h2':∀x c',((n,c)::acc).lookup x=some c'->env.cells.lookup x=some c':=fun x c' z=>by
      rw[J9]at z
      cases e:x==n with
      | true =>
        rw[e]at z;have e':x=n:=by simpa using e
        cases z;rw[e']
        exact hc
      | false =>
        rw[e]at z;exact h2 x c' z
     obtain⟨cl,e,g1,g2,g3⟩:=fq r ((n,c)::acc) (fun x hx=>h1 x (IM _ hx)) h2';refine⟨cl,?_,g1,fun x z=>g2 x ?_,fun x z=>?_⟩
     · rw[ME];simp only[beq_self_eq_true,if_true];have e0:cellOf env n=pure c:=by unfold cellOf;rw[hc]
       rw[e0,pure_bind,pure_bind];exact e
     · rw[J9];split
       · rfl
       · exact z
     · rcases JV.mp z with z|z
       · cases z;refine g2 _ ?_;rw[J9];simp
       · exact g3 x z
   · obtain⟨cl,e,g1,g2,g3⟩:=fq r acc (fun x hx=>h1 x (IM _ hx)) h2;refine⟨cl,?_,g1,g2,fun x z=>?_⟩
     · rw[ME];have hb:(k==Kb)=false:=by simpa using hk
       simp only[hb,MF,if_false];rw[pure_bind];exact e
     · rcases JV.mp z with z|z
       · cases z;exact absurd rfl hk
       · exact g3 x z
theorem cJ{env:Env}(h:∀x∈scope.names,x.2 = .free->∃c,env.cells.lookup x.1=some c) :
 ∃cl,closureFor scope env=pure cl/\(∀x c,cl.lookup x=some c->env.cells.lookup x=some c)/\∀x,(x,Kb)∈scope.names->(cl.lookup x).isSome=true:=by
 obtain⟨cl,e,g1,_,g3⟩:=fq scope.names [] h (fun _ _ z=>by cases z);refine⟨cl,?_,g1,g3⟩;unfold closureFor
 first
  | exact e
  | (simp only[bind_pure];exact e)
theorem jy{env:Env}{x:Str}(h:(PU scope env).names.lookup x=some .cell\/(PU scope env).names.lookup x=some .free):(x,Kb)∈scope.names\/(x,Ld)∈scope.names:=by
 have key:∀names:List (Str×Mz),∀k,(k = .cell\/k = .free) ->
  (names.map fun(n,k)=>if(k==Kb&&env.scope.kind == .function&&env.kindOf n==some .cell)then(n,Ld)else(n,k)).lookup x=some k->(x,Kb)∈names\/(x,Ld)∈names:=by
  intro names
  induction names with
  | nil=>intro k _ z;cases z
  | cons y r ih =>
    intro k hk z;obtain⟨n,kn⟩:=y;have step:((x,Kb)∈r\/(x,Ld)∈r)->((x,Kb)∈(n,kn)::r\/(x,Ld)∈(n,kn)::r):=fun z=>z.imp (IM _) (IM _);rw[Jg]at z;dsimp only at z;by_cases hc:(kn==Kb&&env.scope.kind == .function&&env.kindOf n==some .cell)=true
    · rw[if_pos hc,J9]at z
      have hf:kn = .free:=by
       have:=(Ja.mp (Ja.mp hc).1).1;simpa using this
      cases e:x==n with
      | true =>
        have e':x=n:=by simpa using e
        rw[e',<- hf]
        exact .inl IS
      | false =>
        rw[e]at z;exact step (ih k hk z)
    · rw[if_neg hc,J9]at z
      cases e:x==n with
      | true =>
        rw[e]at z;have e':x=n:=by simpa using e
        cases z;rcases hk with hk|hk
        · rw[e',hk];exact .inr IS
        · rw[e',hk];exact .inl IS
      | false =>
        rw[e]at z;exact step (ih k hk z)
 rcases h with h|h
 · exact key scope.names .cell (.inl rfl) h
 · exact key scope.names .free (.inr rfl) h
theorem bB:∀(names:List (Str×Mz))(n:Nat)(acc:List (Str×Addr)),K1 n names acc=K1 n names []++acc
 | [],_,_=>rfl
 | (x,k)::r,n,acc=>by
   unfold K1;split
   · rw[bB r (n+1) ((x,n)::acc),bB r (n+1) [(x,n)],NT];rfl
   · exact bB r n acc
theorem dq{x:Str}{c:Addr}:∀{names:List (Str×Mz)}{n:Nat},(x,c)∈K1 n names []->(x,Ld)∈names
 | (y,k)::r,n,h=>by
   unfold K1 at h;split at h
   · rename_i hk;rw[bB]at h;rcases JU.mp h with h|h
     · exact IM _ (dq h)
     · simp at h;have:k = .cell:=by simpa using hk
       rw[h.1,this];exact IS
   · exact IM _ (dq h)
theorem e9{a b:List (Str×Addr)}{x:Str}:(a++b).lookup x=(a.lookup x).or (b.lookup x):=by
 induction a with
 | nil=>simp
 | cons y a ih =>
   obtain⟨n,c⟩:=y;rw[N7,J9,J9];cases x==n<;>simp[ih]
theorem kQ{M:Model}{globals:Addr}{cl:List (Str×Addr)}{qual:Str}{o:Env}{Q:Env->IW->Prop}
 (hQ:Q {scope,locals:=s.heap.objs.size,globals,cells:=K1 (s.heap.objs.size+1) scope.names cl,qual,func:=none,code:=o.code,frame:=o.frame,builtins:=o.builtins} {s with heap:=Py (s.heap.push {cls:=.type "dict", data:=.dict #[]}) scope.names}) :
 Jn M A (MV scope globals cl [] qual none .none (some o)) Q E s:=by
 simp only[MV,NC,if_true];refine IK (wpAny_alloc ?_);refine IK (wpAny_layCells _ (fun name kind cells=>by cases hkc:kind==Ld<;>simp[hkc]) _ _ _ _ ?_);rw[show({s with heap:=s.heap.push {cls:=.type "dict", data:=.dict #[]}}:IW).heap.objs.size=s.heap.objs.size+1 from KB ..];exact IK (IU (IU hQ))
noncomputable def bg(X:Cx)(N':List Str)(scope:Scope)(cl:List (Str×Addr))(fp:List Addr)(pn:List (Addr×Obj))(s:IW)(H:Hp):Cx :=
 {X with N:=N',s₀:=s,H₀:=H,env:={compEnvC scope cl s.heap.objs.size X.env with cells:=K1 (s.heap.objs.size+1) scope.names cl},outer:=X.stack,ex:=fp,fn:=fun x=>scope.names.lookup x==some .cell,pn:=pn,xe:=fun _ _=>False}
abbrev dR(ifs:List Expr)(env:Env):Sem Bool:=forIn ifs true fun c r=>if r=true then do let ok <- isTrue c env (eval c env);pure (L6 ok)else pure (L6 r)
def HQ(X:Cx)(ifs:List Expr)(t:TT):Prop :=
 ∀(pins:List (Addr×Obj))(s:IW)(σ:St)(H:Hp)(Q:Bool->Hp->Prop),Inv X pins σ H s->t σ H Q->Jn (Jv X.prog X.w) X.A (dR ifs X.env) (TP X pins σ Q) X.xe s
theorem kJ:HQ X [] (fun _ H Q=>Q true H):=fun _ _ _ H _ I h=>wpAny_tests_nil ⟨H,I,h⟩
theorem wE{c:Expr}{t:TT}(h:PT X c t):HQ X [c] t:=fun pins s σ H Q I hw=>wpAny_tests_one (h pins s σ H Q I hw)
theorem qT{prog:Ju}{R:Pv->IW->Prop}{elt target:Expr}{it acc:IR}{env:Env}(I:Nat->IW->Prop)
 (turn:∀n s,I n s->Jn (Jv prog w) A (Ni it) (fun r s₁=>(r=none/\R (.ok .next) s₁)\/∃v,r=some v /\
  Jn (Jv prog w) A (K7 target it v) (fun _ s₂=>Jn (Jv prog w) A (LH target env v) (fun _ s₃=>Jn (Jv prog w) A (dR ifs env) (fun ok s₄ =>
   if ok=true then Jn (Jv prog w) A (eval elt env) (fun x s₅=>Jn (Jv prog w) A (call (.builtin "list.append") [acc,x]) (fun _ s₆=>∃m,m<n/\I m s₆) (fun _ _=>False) s₅) (fun _ _=>False) s₄
   else ∃m,m<n/\I m s₄) (fun _ _=>False) s₃) (fun _ _=>False) s₂) (fun _ _=>False) s₁) (fun _ _=>False) s)
 (n:Nat)(h:I n s):Lo (Jv prog w) A (.compLoop (.ListComp elt [⟨target,iter,ifs,0⟩] scope pos) 0 it acc env) R s:=by
 refine On rfl I (fun n s hI=>?_) n h;show Jn _ A ((O5 (.ListComp elt [⟨target,iter,ifs,0⟩] scope pos) 0 it acc env).onRaise (fun x=>do O6 x env;Nn x)) _ _ s;refine OS ?_;rw[compTurn_list];refine IK (KN (IK (JJ (turn n s hI) (fun r s₁ h₁=>?_) fun _ _ h'=>h'.elim)));rcases h₁ with⟨rfl,h₁⟩|⟨v,rfl,h₁⟩
 · exact IU h₁
 · refine IK (JJ h₁ (fun _ s₂ h₂=>IK (JJ h₂ (fun _ s₃ h₃=>IK (JJ h₃ (fun ok s₄ h₄=>?_) fun _ _ z=>z.elim)) fun _ _ z=>z.elim)) fun _ _ z=>z.elim)
   cases ok with
   | false=>exact IU ⟨rfl,h₄⟩
   | true=>exact IK (IK (JJ h₄ (fun x s₅ h₅=>IK (JJ h₅ (fun _ s₆ h₆=>IU (IU ⟨rfl,h₆⟩)) fun _ _ z=>z.elim)) fun _ _ z=>z.elim))
noncomputable def nW(fr:List (Option Nat))(σ:St):St:=fr.map fun o=>o.bind fun j=>(σ[j]?).join
noncomputable def nI(fr:List (Option Nat))(N' N:List Str)(sc scX:Scope):Bool :=
 decide (fr.length=N'.length)&&(Jq fr.length).all fun i=>match fr[i]? with
  | some (some j)=>match N'[i]? with
    | some x=>decide (N[j]?=some x)&&decide (sc.names.lookup x=some .free)&&(decide (scX.names.lookup x=some .cell)||decide (scX.names.lookup x=some .free))
    | none=>false
  | _=>true
noncomputable def nT(sc scX:Scope):Bool :=
 decide (sc.kind = .function)&&sc.names.all fun y=>(decide (y.2 ≠ .cell)||decide (sc.names.lookup y.1=some .cell))&&(decide (y.2 ≠ .local)||decide (sc.names.lookup y.1=some .local)) &&
  (decide (y.2 ≠ .free)||(decide (scX.names.lookup y.1=some .cell)||decide (scX.names.lookup y.1=some .free)))
theorem nI.get{fr:List (Option Nat)}{N' N:List Str}{sc scX:Scope}(h:nI fr N' N sc scX=true):fr.length=N'.length/\∀(i j:Nat),fr[i]?=some (some j)->∃x,N'[i]?=some x/\N[j]?=some x/\sc.names.lookup x=some .free/\(scX.names.lookup x=some .cell\/scX.names.lookup x=some .free):=by
 unfold nI at h;obtain⟨h1,h2⟩:=Ja.mp h;refine⟨of_decide_eq_true h1,fun i j e=>?_⟩;have hi:i<fr.length:=(Jj.mp e).1;have q:=Lb.mp h2 i (Ko.mpr hi);rw[e]at q;dsimp only at q
 cases en:N'[i]? with
 | none=>rw[en]at q;cases q
 | some x =>
   rw[en]at q;dsimp only at q;obtain⟨q1,q2⟩:=Ja.mp q;obtain⟨q3,q4⟩:=Ja.mp q1;exact⟨x,rfl,of_decide_eq_true q3,of_decide_eq_true q4,(Jr.mp q2).imp of_decide_eq_true of_decide_eq_true⟩
theorem nE{x:Str}{k:Mz}:∀{names:List (Str×Mz)},names.lookup x=some k->(x,k)∈names:=fun h=>Kj h
structure CompA where
 cl:List (Str×Addr)
 fp:List Addr
 pn:List (Addr×Obj)
 s:IW
 H:Hp
abbrev Hm(X:Cx)(N':List Str)(scope:Scope)(y:CompA):Cx:=bg X N' scope y.cl y.fp y.pn y.s y.H
def si(wi:TI)(fr:List (Option Nat))(g:CompA->TG)(tt:CompA->TT)(te:CompA->TE):TE:=fun σ H Q=>wi σ H fun J H1=>∀D,H1 D=none->∃Wv:Nat->Nat->List V->St->Hp->Prop,(∃m,Wv 0 m [] (nW fr σ) (upd H1 D (.lst []))) /\
 ∀ (z:CompA) i m acc σc H,Wv i m acc σc H->(J.stop i H/\Q (.ref D) H)\/(J.go i H/\∀x H',J.yld i H x H'->g z x σc H' fun σ2 H2=>tt z σ2 H2 fun b H3 =>
   if b=true then te z σ2 H3 fun y H4=>H4 D=some (.lst acc)/\acc.length<sizeLine/\∃m',m'<m/\Wv (i+1) m' (acc++[y]) σ2 (upd H4 D (.lst (acc++[y])))else ∃m',m'<m/\Wv (i+1) m' acc σ2 H3)
theorem fA{env:Env}:∀{names:List (Str×Mz)}{x:Str},names.lookup x=some .free ->
 (names.map fun(n,k)=>if(k==Kb&&env.scope.kind == .function&&env.kindOf n==some .cell)then(n,Ld)else(n,k)).lookup x=some .cell \/
 (names.map fun(n,k)=>if(k==Kb&&env.scope.kind == .function&&env.kindOf n==some .cell)then(n,Ld)else(n,k)).lookup x=some .free
 | [],_,h=>by simp at h
 | (n,k)::r,x,h=>by
   have ih:=@fA env r x;rw[Jg];dsimp only
   cases hx:x==n with
   | true =>
     simp only[J9,hx]at h;cases h;by_cases hc:((Kb==Kb)&&env.scope.kind == .function&&env.kindOf n==some .cell)=true
     · rw[if_pos hc];simp[J9,hx]
     · rw[if_neg hc];simp[J9,hx]
   | false =>
     simp only[J9,hx]at h;by_cases hc:(k==Kb&&env.scope.kind == .function&&env.kindOf n==some .cell)=true
     · rw[if_pos hc];simp only[J9,hx];exact ih h
     · rw[if_neg hc];simp only[J9,hx];exact ih h
theorem dY{ex:Expr}{H3:Hp}{s3:IW}{D:Addr}{J:It}{Q:VK}
 {cl:List (Str×Addr)}(N':List Str)(fr:List (Option Nat))(hc:X.calm=true)(hkind:scope.kind = .function)(hcell:∀y∈scope.names,y.2 = .cell->scope.names.lookup y.1=some .cell)
 (hfree:∀y∈scope.names,y.2 = .free->X.env.kindOf y.1=some .cell\/X.env.kindOf y.1=some .free)(frl:fr.length=N'.length)
 (frg:∀(i j:Nat),fr[i]?=some (some j)->∃x,N'[i]?=some x/\X.N[j]?=some x/\scope.names.lookup x=some .free/\(X.env.scope.names.lookup x=some .cell\/X.env.scope.names.lookup x=some .free))
 (cl1:∀x c,cl.lookup x=some c->X.env.cells.lookup x=some c)(cl2:∀x,(x,Kb)∈scope.names->(cl.lookup x).isSome=true)
 (I3:Inv X pins σ H3 s3)(T:Turn X.prog X.w X.K tg J fp it tn)(tn3:tn 0 s3.heap)(fpD:∀b∈fp,H3 b=none)(fp3:∀b∈fp,b<s3.heap.objs.size)
 (fpk:∀b∈fp,b≠X.env.locals/\b∉X.fs/\(b∈X.ex\/X.s₀.heap.objs.size<=b)/\(∀x c,X.env.cells.lookup x=some c->c≠b)/\∀p∈X.pn++pins,p.1≠b)
 (loop:∀s',Inv (bg X N' scope cl fp (X.pn++pins) s3 H3) [] (nW fr σ) H3 s'->tn 0 s'.heap->(∀{H':Hp},(∀b∈fp,H' b=none)->∀b∈fp,j_ (bg X N' scope cl fp (X.pn++pins) s3 H3) [] H' b) ->
  Lo (Jv X.prog X.w) X.A (.compStart ex 0 (.ref it) (.ref D) (bg X N' scope cl fp (X.pn++pins) s3 H3).env) (fun r s5=>r = .ok .next/\∃σ5 H4,Inv (bg X N' scope cl fp (X.pn++pins) s3 H3) [] σ5 H4 s5/\Q (.ref D) H4) s')
 (fin:∀s5 H4 m,s5.heap.Ns s3.heap.objs.size m->(∀h',Lg s3.heap.objs.size s5.heap h'->Inv X pins σ H4 {s5 with heap:=h' })->j_ X pins H4 s3.heap.objs.size->Q (.ref D) H4->Rp s3.heap.objs.size (.ok .next) s5) :
 Jn (Jv X.prog X.w) X.A (MV scope X.env.globals cl [] X.env.qual none .none (some X.env)) (fun cenv s₄ =>
  Lo (Jv X.prog X.w) X.A (.compStart ex 0 (.ref it) (.ref D) {cenv with scope:=PU scope X.env})
   (Rp cenv.locals) s₄) X.xe s3:=by
 refine kQ ?_;have ok:=cellsFrom_ok scope.names (s3.heap.push {cls:=.type "dict", data:=.dict #[]}) (s3.heap.objs.size+1) [] ⟨fun _ _ hm=>(nomatch hm),O4.nil⟩ (by rw[KB];exact I_ _);rw[KB]at ok;have kp:∀b o,s3.heap.get? b=some o->(Py (s3.heap.push {cls:=.type "dict", data:=.dict #[]}) scope.names).get? b=some o:=fun b o e=>pushCells_keeps _ _ b o (IQ _ e);have hns₁:(Py (s3.heap.push {cls:=.type "dict", data:=.dict #[]}) scope.names).Ns s3.heap.objs.size (fun _=>none):=(Heap.Ns.new s3.heap (.type "dict")).keeps (pushCells_keeps _ _);generalize Py (s3.heap.push {cls:=.type "dict", data:=.dict #[]}) scope.names=h₁ at ok kp hns₁ ⊢
 have cs:∀x c,(K1 (s3.heap.objs.size+1) scope.names cl).lookup x=some c->(K1 (s3.heap.objs.size+1) scope.names []).lookup x=some c\/cl.lookup x=some c:=fun x c e=>by
  rw[bB,e9]at e
  cases q:(K1 (s3.heap.objs.size+1) scope.names []).lookup x with
  | none=>rw[q]at e;exact .inr (by simpa using e)
  | some c'=>rw[q]at e;exact .inl (by simpa using e)
 have own:∀x c,(K1 (s3.heap.objs.size+1) scope.names []).lookup x=some c->h₁.IsCell c none/\s3.heap.objs.size+1<=c:=fun x c e=>ok.empty x c (Kj e)
 have clt:∀x c,cl.lookup x=some c->c<s3.heap.objs.size:=fun x c e=>by
  obtain⟨v,o,ho,_⟩:=I3.cell x c (cl1 x c e);exact Jd ho
 have frn:∀x,scope.names.lookup x=some .free->(K1 (s3.heap.objs.size+1) scope.names []).lookup x=none:=fun x e=>by
  cases q:(K1 (s3.heap.objs.size+1) scope.names []).lookup x with
  | none=>rfl
  | some c =>
    have:=hcell (x,.cell) (dq (Kj q)) rfl;rw[e]at this;cases this
 have notC:∀b o,s3.heap.get? b=some o->b≠s3.heap.objs.size:=fun b o e=>JP (Jd e);have fpstk:∀b∈fp,b∉frs X.stack:=fun b hb z=>(JV.mp (I3.stkSub b z)).elim (fpk b hb).1 (fpk b hb).2.1;have cellK:∀c v,s3.heap.IsCell c v->h₁.IsCell c v:=fun c v ⟨o,ho,hd⟩=>⟨o,kp c o ho,hd⟩
 have IY:Inv (bg X N' scope cl fp (X.pn++pins) s3 H3) [] (nW fr σ) H3 {s3 with heap:=h₁}:=by
  refine⟨⟨I3.ok.mod,hkind,I3.ok.glob,I3.ok.blt,I_ _,fun x y c e1 e2=>?_,fun x hx=>?_,fun x c _ e=>?_,I3.ok.hd,I3.ok.frames,.inl rfl,
   fun b hb=>⟨JP (fp3 b hb),fun x c e=>?_⟩,I3.bs,Ks I3.ok.bsz I3.sz,fun b o e hb=>?_,fun b hb=>fpstk b hb,I3.stack,I3.stkFree⟩,
   rfl,I3.bare,Un.kept kp,⟨_,hns₁,fun i x v e1 e2 e3=>?_⟩,fun x c e=>?_,I3.hok.fresh (I_ _),fun x c e=>?_,fun p hp=>?_,I3.hok.kept kp,?_⟩
  · rcases cs x c e1 with q1|q1<;>rcases cs y c e2 with q2|q2
    · exact name_of_addr ok.apart (Kj q1) (Kj q2)
    · exact absurd (Jh (clt y c q2) (Mf (own x c q1).2)) (Ku _)
    · exact absurd (Jh (clt x c q1) (Mf (own y c q2).2)) (Ku _)
    · exact I3.ok.inj x y c (cl1 x c q1) (cl1 y c q2)
  · refine LJ.mp ?_;show((K1 (s3.heap.objs.size+1) scope.names cl).lookup x).isSome=true;rcases jy hx with q|q
    · exact W.cellsFrom_some _ _ _ (.inr (cl2 x q))
    · exact W.cellsFrom_some _ _ _ (.inl (hcell _ q rfl))
  · rename_i hfn;rcases cs x c e with q|q
    · have:=(own x c q).2;show s3.heap.objs.size<=c;omega
    · have hfn:(scope.names.lookup x==some Ld)=true:=hfn;have hl:scope.names.lookup x=some .cell:=by simpa using hfn
      obtain⟨c',ec'⟩:=LJ.mp (W.cellsFrom_some scope.names (s3.heap.objs.size+1) [] (.inl hl));have e':(K1 (s3.heap.objs.size+1) scope.names cl).lookup x=some c:=e;rw[bB,e9,ec']at e';simp at e';subst e';exact Mf (own x c' ec').2
  · rcases cs x c e with q|q
    · exact fun z=>absurd (Jh (fp3 b hb) (Mf (by rw[<- z];exact(own x c q).2))) (Ku _)
    · exact(fpk b hb).2.2.2.1 x c (cl1 x c q)
  · rcases(fpk b hb).2.2.1 with z|z
    · exact I3.ok.noex b o e z
    · exact absurd (Jh (Jd e) (Ks I3.ok.bsz z)) (Ku _)
  · have e2':(fr[i]?).map (fun o=>o.bind fun j=>(σ[j]?).join)=some (some v):=by unfold nW at e2;rw[JW]at e2;exact e2
    cases ef:fr[i]? with
    | none=>rw[ef]at e2';cases e2'
    | some o =>
      cases o with
      | none=>rw[ef]at e2';cases e2'
      | some j =>
        rw[ef]at e2';have e3':(σ[j]?).join=some v:=JN e2'
        have e4:σ[j]?=some (some v):=by
         cases q:σ[j]? with
         | none=>rw[q]at e3';cases e3'
         | some z=>rw[q]at e3';cases e3';rfl
        obtain⟨x',n1,n2,n3,n4⟩:=frg i j ef;have ex:x'=x:=JN (n1.symm.trans e1);subst ex;obtain⟨m,hn,hl⟩:=I3.loc;obtain⟨u,ru,lk⟩:=hl j x' v n2 e4 (n4.elim (fun z=>.inr (.inl z)) fun z=>.inr (.inr z));refine⟨u,ru,?_⟩;rcases lk with⟨kl,_⟩|⟨_,c,ec,hcl⟩
        · exact absurd (show X.env.scope.names.lookup x'=some .local from kl) (by rcases n4 with z|z<;>rw[z]<;>decide)
        · obtain⟨c',ec'⟩:=LJ.mp (cl2 x' (nE n3));have:=cl1 x' c' ec';rw[ec]at this;cases this;refine .inr ⟨fA n3,c,?_,cellK _ _ hcl⟩;show(K1 (s3.heap.objs.size+1) scope.names cl).lookup x'=some c;rw[bB,e9,frn x' n3];simpa using ec'
  · rcases cs x c e with q|q
    · exact⟨_,(own x c q).1⟩
    · obtain⟨v,z⟩:=I3.cell x c (cl1 x c q);exact⟨v,cellK _ _ z⟩
  · rcases cs x c e with q|q
    · exact I3.hok.fresh (by have:=(own x c q).2;omega)
    · exact I3.freeC x c (cl1 x c q)
  · rw[KO]at hp;obtain⟨e,n,ne,nf,d⟩:=I3.pin p hp;exact⟨kp _ _ e,n,notC _ _ e,fun z=>(JV.mp (I3.stkSub p.1 z)).elim ne nf,d⟩
  · unfold nW;rw[IP];exact frl
 have stat:∀{H':Hp},(∀b∈fp,H' b=none)->∀b∈fp,j_ (bg X N' scope cl fp (X.pn++pins) s3 H3) [] H' b:=fun hn b hb =>
  ⟨hn b hb,JP (fp3 b hb),fpstk b hb,.inl hb,fun x c e=>(by
   rcases cs x c e with q|q
   · exact fun z=>absurd (Jh (fp3 b hb) (Mf (by rw[<- z];exact(own x c q).2))) (Ku _)
   · exact(fpk b hb).2.2.2.1 x c (cl1 x c q)),fun p hp=>by rw[KO]at hp;exact(fpk b hb).2.2.2.2 p hp⟩
 refine Nx (loop _ IY (T.keep _ _ _ tn3 fun b _ o e=>kp b o e) stat) fun r s5 ⟨hr,σ5,H4,I5,qn⟩=>?_;subst hr;obtain⟨m,hn,_⟩:=I5.loc;refine fin s5 H4 m hn (fun h' hs'=>?_) (I3.fpOk (I_ _) I5.free) qn;have k':∀b o,b≠s3.heap.objs.size->s5.heap.get? b=some o->h'.get? b=some o:=fun b o nb e=>hs'.extBut b o nb e;have u5:Un (frs X.stack) fp H3 H4 s3.heap s5.heap:=I5.base
 have un:Un (frs X.stack) fp H3 H4 s3.heap h' :=
  ⟨fun b o e n hb hx=>k' b o (notC b o e) (u5.keep b o e n hb hx),fun b o e n hb hx=>by obtain⟨sl,q⟩:=u5.slot b o e n hb hx;exact⟨sl,k' b _ (notC b o e) q⟩,u5.free,
   fun b o e hx=>by obtain⟨o',q⟩:=u5.there b o e hx;exact⟨o',k' b _ (notC b o e) q⟩,u5.tups,u5.frzs,u5.tbls⟩
 have nC:H4 s3.heap.objs.size=none:=I5.free
 have hok':Iw X.prog X.w H4 h':=fun b u e=>(I5.hok b u e).stay (fun c v hcv q=>k' c v (by
  rintro rfl;rcases hcv with z|z
  · rw[<- z]at e;rw[nC]at e;cases e
  · rw[nC]at z;cases z) q) (fun _ q=>q) fun _ _ q=>q
 obtain⟨hh,g5,d5,t5,os5⟩:=s5;have os':os5=s3.os:=I5.os;subst os';have I':=Inv.call (s:=s3) (h':=h') (g':=g5) (d':=d5) (t':=t5) (ch:=fp) I3 un hok' I5.bare (fun b hb=>⟨(fpk b hb).2.2.1,(fpk b hb).1,(fpk b hb).2.2.2.1,(fpk b hb).2.2.2.2⟩);exact I'
theorem ik{elt:Expr}{g:TG}{tt:TT}{te:TE}{H3:Hp}{s3:IW}{D:Addr}{J:It}{Q:VK}
 {cl:List (Str×Addr)}(N':List Str)(fr:List (Option Nat))(hc:X.calm=true)(hkind:scope.kind = .function)(hcell:∀y∈scope.names,y.2 = .cell->scope.names.lookup y.1=some .cell)
 (hfree:∀y∈scope.names,y.2 = .free->X.env.kindOf y.1=some .cell\/X.env.kindOf y.1=some .free)(frl:fr.length=N'.length)
 (frg:∀(i j:Nat),fr[i]?=some (some j)->∃x,N'[i]?=some x/\X.N[j]?=some x/\scope.names.lookup x=some .free/\(X.env.scope.names.lookup x=some .cell\/X.env.scope.names.lookup x=some .free))
 (cl1:∀x c,cl.lookup x=some c->X.env.cells.lookup x=some c)(cl2:∀x,(x,Kb)∈scope.names->(cl.lookup x).isSome=true)
 (I3:Inv X pins σ H3 s3)(T:Turn X.prog X.w X.K tg J fp it tn)(tn3:tn 0 s3.heap)(fpD:∀b∈fp,H3 b=none)(fp3:∀b∈fp,b<s3.heap.objs.size)
 (fpk:∀b∈fp,b≠X.env.locals/\b∉X.fs/\(b∈X.ex\/X.s₀.heap.objs.size<=b)/\(∀x c,X.env.cells.lookup x=some c->c≠b)/\∀p∈X.pn++pins,p.1≠b)
 (hg:PG (bg X N' scope cl fp (X.pn++pins) s3 H3) tg g)(ht:HQ (bg X N' scope cl fp (X.pn++pins) s3 H3) ifs tt)(he:PE (bg X N' scope cl fp (X.pn++pins) s3 H3) elt te)
 {Wv:Nat->Nat->List V->St->Hp->Prop}{m0:Nat}(w0:Wv 0 m0 [] (nW fr σ) H3)
 (turn:∀i m acc σc H,Wv i m acc σc H->(J.stop i H/\Q (.ref D) H)\/(J.go i H/\∀x H',J.yld i H x H'->g x σc H' fun σ2 H2=>tt σ2 H2 fun b H3 =>
  if b=true then te σ2 H3 fun y H4=>H4 D=some (.lst acc)/\acc.length<sizeLine/\∃m',m'<m/\Wv (i+1) m' (acc++[y]) σ2 (upd H4 D (.lst (acc++[y])))else ∃m',m'<m/\Wv (i+1) m' acc σ2 H3))
 (fin:∀s5 H4 m,s5.heap.Ns s3.heap.objs.size m->(∀h',Lg s3.heap.objs.size s5.heap h'->Inv X pins σ H4 {s5 with heap:=h' })->j_ X pins H4 s3.heap.objs.size->Q (.ref D) H4->Rp s3.heap.objs.size (.ok .next) s5) :
 Jn (Jv X.prog X.w) X.A (MV scope X.env.globals cl [] X.env.qual none .none (some X.env)) (fun cenv s₄ =>
  Lo (Jv X.prog X.w) X.A (.compStart (.ListComp elt [⟨tg,iter,ifs,0⟩] scope pos) 0 (.ref it) (.ref D) {cenv with scope:=PU scope X.env})
   (Rp cenv.locals) s₄) X.xe s3:=by
 refine dY N' fr hc hkind hcell hfree frl frg cl1 cl2 I3 T tn3 fpD fp3 fpk (fun s' IY tY stat=>?_) fin
 have loop:Lo (Jv X.prog X.w) X.A (.compLoop (.ListComp elt [⟨tg,iter,ifs,0⟩] scope pos) 0 (.ref it) (.ref D) (bg X N' scope cl fp (X.pn++pins) s3 H3).env)
  (fun r s5=>r = .ok .next/\∃σ5 H4,Inv (bg X N' scope cl fp (X.pn++pins) s3 H3) [] σ5 H4 s5/\Q (.ref D) H4) s':=by
  refine qT (fun n s'=>∃i acc σ' H',Inv (bg X N' scope cl fp (X.pn++pins) s3 H3) [] σ' H' s'/\tn i s'.heap/\(∀b∈fp,H' b=none)/\Wv i n acc σ' H') ?_ m0
   ⟨0,[],_,_,IY,tY,fpD,w0⟩
  rintro n s4 ⟨i,acc,σ4,H4,I4,st4,fr4,w4⟩;rcases turn i n acc σ4 H4 w4 with⟨stop,qn⟩|⟨go,step⟩
  · exact FX (T.done (bg X N' scope cl fp (X.pn++pins) s3 H3) rfl rfl rfl hc i [] s4 σ4 H4 (fun _ _=>False) I4 (stat fr4) st4 stop) fun r s5 ⟨hr,I5⟩=>.inl ⟨hr,rfl,σ4,H4,I5,qn⟩
  · refine FX (T.item (bg X N' scope cl fp (X.pn++pins) s3 H3) rfl rfl rfl hc i [] s4 σ4 H4 (fun _ _=>False) I4 (stat fr4) st4 go) fun r s5 ⟨u,hr,h5⟩=>.inr ⟨u,hr,?_⟩;refine FX h5 fun _ s6 ⟨x,H6,I6,r6,y6,st6,fr6⟩=>?_;have I6':=I6.pinned (stat fr6) (T.obj _ _ st6)
    have again:∀{σ7:St}{H7:Hp}{s7:IW},Inv (bg X N' scope cl fp (X.pn++pins) s3 H3) ([]++fB fp s6.heap) σ7 H7 s7->∀{acc':List V}{m':Nat},m'<n->Wv (i+1) m' acc' σ7 H7 ->
     ∃m,m<n/\∃i acc σ' H',Inv (bg X N' scope cl fp (X.pn++pins) s3 H3) [] σ' H' s7/\tn i s7.heap/\(∀b∈fp,H' b=none)/\Wv i m acc σ' H':=fun{σ7 H7 s7} I7 {acc' m'} hm w7=>by
     refine⟨m',hm,i+1,acc',σ7,H7,I7.unpinned,T.keep _ _ _ st6 fun b hb o e=>(I7.pin (b,o) (Jm _ (Jm _ (bD hb e)))).1,fun b hb=>?_,w7⟩;obtain⟨o,e,d⟩:=T.obj _ _ st6 b hb;exact(I7.pin (b,o) (Jm _ (Jm _ (bD hb e)))).2.1
    refine FX (hg _ s6 σ4 H6 x u _ I6' r6 (step x H6 y6)) fun _ s7 ⟨σ7,H7,I7,q7⟩=>?_;refine FX (ht _ s7 σ7 H7 _ I7 q7) fun ok s8 ⟨H8,I8,q8⟩=>?_
    cases ok with
    | false =>
      rw[if_neg JB]at q8 ⊢;obtain⟨m',hm,w8⟩:=q8
      exact again I8 hm w8
    | true =>
      rw[if_pos rfl]at q8 ⊢;refine FX (he _ s8 σ7 H8 _ I8 q8) fun y s9 ⟨yv,H9,I9,r9,eD,hl,m',hm,w9⟩=>?_
      exact FX (eK (X:=bg X N' scope cl fp (X.pn++pins) s3 H3) _ s9 σ7 H9 (.ref D) [yv] (.ref D) [y] (fun _ H'=>H'=upd H9 D (.lst (acc++[yv]))) I9 rfl (.cons r9 .nil) ⟨D,acc,yv,rfl,rfl,eD,hl,rfl⟩)
       fun _ s10 ⟨_,H10,I10,_,e10⟩=>by subst e10;exact again I10 hm w9
 exact Oe loop (T.self X.A 0 _ _ _ tY loop)
section
variable{X:Cx}{elt tg iter:Expr}{ifs:List Expr}{scope:Scope}{pos:Pos}{wi:TI}{g:CompA->TG}{tt:CompA->TT}{te:CompA->TE}
theorem fI(N':List Str)(fr:List (Option Nat))(hc:X.calm=true)(hi:PI X tg iter wi)(hfr:nI fr N' X.N scope X.env.scope=true)(hsc:nT scope X.env.scope=true)
 (hg:∀y,PG (Hm X N' scope y) tg (g y))(ht:∀y,HQ (Hm X N' scope y) ifs (tt y))(he:∀y,PE (Hm X N' scope y) elt (te y))
 (hs:∀x,JE iter X.env x=pure x:=by intro _;rfl):PE X (.ListComp elt [⟨tg,iter,ifs,0⟩] scope pos) (si wi fr g tt te):=by
 intro pins s σ H Q I h;obtain⟨sk,sn⟩:=Ja.mp hsc;have hkind:scope.kind = .function:=of_decide_eq_true sk;have hall:=Lb.mp sn
 have hcell:∀y∈scope.names,y.2 = .cell->scope.names.lookup y.1=some .cell:=fun y hy hl=>by
  rcases Jr.mp (Ja.mp (Ja.mp (hall y hy)).1).1 with z|z
  · exact absurd hl (of_decide_eq_true z)
  · exact of_decide_eq_true z
 have hnames:∀y∈scope.names,y.2 = .local->scope.names.lookup y.1=some .local:=fun y hy hl=>by
  rcases Jr.mp (Ja.mp (Ja.mp (hall y hy)).1).2 with z|z
  · exact absurd hl (of_decide_eq_true z)
  · exact of_decide_eq_true z
 have hfree:∀y∈scope.names,y.2 = .free->X.env.kindOf y.1=some .cell\/X.env.kindOf y.1=some .free:=fun y hy hl=>by
  rcases Jr.mp (Ja.mp (hall y hy)).2 with z|z
  · exact absurd hl (of_decide_eq_true z)
  · exact(Jr.mp z).imp of_decide_eq_true of_decide_eq_true
 obtain⟨frl,frg⟩:=nI.get hfr;obtain⟨cl,hclos,cl1,cl2⟩:=cJ (env:=X.env) (scope:=scope) fun y hy hl=>I.ok.has y.1 (hfree y hy hl);rw[eval_ListComp];refine K9 (use:=none) rfl hs hclos hkind hnames (FX (hi pins s σ H _ I h) fun v s1 h1=>FX h1 fun itv s2 h2=>?_);obtain⟨it,fp,tn,J,H2,e,I2,T,st2,f2,q2⟩:=h2;subst e;refine JC ?_;have hD:H2 s2.heap.objs.size=none:=I2.hok.fresh (I_ _)
 have I3:Inv X pins σ (upd H2 s2.heap.objs.size (.lst [])) {s2 with heap:=s2.heap.push {cls:=.type "list", data:=.seq ([]:List IR).toArray}} :=
  I2.laid (t':=s2.toks) (fun b u e=>IQ _ e) (I_ _) ⟨by show 0<=sizeLine;exact Kc _,[],0,.nil,Jf _ rfl⟩
 obtain⟨Wv,⟨m0,w0⟩,turn⟩:=q2 _ hD;have tn3:tn 0 (s2.heap.push {cls:=.type "list", data:=.seq ([]:List IR).toArray}):=T.keep _ _ _ st2 fun b _ o e=>IQ _ e
 have fpD:∀b∈fp,(upd H2 s2.heap.objs.size (.lst [])) b=none:=fun b hb=>by
  obtain⟨o,e,_⟩:=T.obj _ _ st2 b hb;rw[ar (JP (Jd e))];exact(f2 b hb).1
 have fp3:∀b∈fp,b<(s2.heap.push {cls:=.type "list", data:=.seq ([]:List IR).toArray}).objs.size:=fun b hb=>by
  obtain⟨o,e,_⟩:=T.obj _ _ tn3 b hb;exact Jd e
 exact ik N' fr hc hkind hcell hfree frl frg cl1 cl2 I3 T tn3 fpD fp3 (fun b hb=>(f2 b hb).2) (hg ⟨cl,fp,X.pn++pins,_,_⟩) (ht ⟨cl,fp,X.pn++pins,_,_⟩) (he ⟨cl,fp,X.pn++pins,_,_⟩) w0 (turn ⟨cl,fp,X.pn++pins,_,_⟩)
  (Rp:=Pr (Jv X.prog X.w) X.A X.xe none (EP X pins σ Q) (.ref s2.heap.objs.size)) fun s5 H4 m hn k _ qn=>⟨m,hn,fun h' hs'=>⟨.ref _,H4,k h' hs',rfl,qn⟩⟩
theorem nj{b:Bool}{x:Str}{spos:Pos}{ix:Nat}(N':List Str)(fr:List (Option Nat))(hc:X.calm=true)(hi:PI X tg iter wi)(hfr:nI fr N' X.N scope X.env.scope=true)(hsc:nT scope X.env.scope=true)
 (hg:∀y,PG (Hm X N' scope y) tg (g y))(ht:∀y,HQ (Hm X N' scope y) ifs (tt y))(he:∀y,PE (Hm X N' scope y) elt (te y))(hN:X.N.Nodup)(hix:X.N[ix]?=some x)(hx:Loc X.env.scope x)
 (hf:X.fn x=true\/X.env.scope.names.lookup x=some .local)(hsw:K0 (.ListComp elt [⟨tg,iter,ifs,0⟩] scope pos) (some (.Name x px)) spos.line X.env=pure b)
 (hs:∀x,JE iter X.env x=pure x):PS X (.Assign [.Name x px] (.ListComp elt [⟨tg,iter,ifs,0⟩] scope pos) spos) (A2 (si wi fr g tt te) (jI ix)):=by
 cases b with
 | false=>exact ib hN hix hx (fI N' fr hc hi hfr hsc hg ht he hs) hsw hf
 | true =>
 intro pins s σ H DD I h;obtain⟨sk,sn⟩:=Ja.mp hsc;have hkind:scope.kind = .function:=of_decide_eq_true sk;have hall:=Lb.mp sn
 have hcell:∀y∈scope.names,y.2 = .cell->scope.names.lookup y.1=some .cell:=fun y hy hl=>by
  rcases Jr.mp (Ja.mp (Ja.mp (hall y hy)).1).1 with z|z
  · exact absurd hl (of_decide_eq_true z)
  · exact of_decide_eq_true z
 have hnames:∀y∈scope.names,y.2 = .local->scope.names.lookup y.1=some .local:=fun y hy hl=>by
  rcases Jr.mp (Ja.mp (Ja.mp (hall y hy)).1).2 with z|z
  · exact absurd hl (of_decide_eq_true z)
  · exact of_decide_eq_true z
 have hfree:∀y∈scope.names,y.2 = .free->X.env.kindOf y.1=some .cell\/X.env.kindOf y.1=some .free:=fun y hy hl=>by
  rcases Jr.mp (Ja.mp (hall y hy)).2 with z|z
  · exact absurd hl (of_decide_eq_true z)
  · exact(Jr.mp z).imp of_decide_eq_true of_decide_eq_true
 obtain⟨frl,frg⟩:=nI.get hfr;obtain⟨cl,hclos,cl1,cl2⟩:=cJ (env:=X.env) (scope:=scope) fun y hy hl=>I.ok.has y.1 (hfree y hy hl);rw[Oo _ _ _ _ hsw];refine IK (KN (IK ?_));show Jn _ X.A (do let _ <- comprehension (.ListComp elt [⟨tg,iter,ifs,0⟩] scope pos) scope X.env _ (newList []) false (eval iter X.env) (some (LH (.Name x px) X.env))) _ _ s
 refine IK (JJ (K9 (use:=some (LH (.Name x px) X.env)) (Q:=fun _ s'=>SP X pins DD .next s') rfl hs hclos hkind hnames
  (FX (hi pins s σ H _ I h) fun v s1 h1=>FX h1 fun itv s2 h2=>?_)) (fun _ s' hq=>IU (IU hq)) fun _ _ e=>e)
 obtain⟨it,fp,tn,J,H2,e,I2,T,st2,f2,q2⟩:=h2;subst e;refine JC ?_;have hD:H2 s2.heap.objs.size=none:=I2.hok.fresh (I_ _)
 have I3:Inv X pins σ (upd H2 s2.heap.objs.size (.lst [])) {s2 with heap:=s2.heap.push {cls:=.type "list", data:=.seq ([]:List IR).toArray}} :=
  I2.laid (t':=s2.toks) (fun b u e=>IQ _ e) (I_ _) ⟨by show 0<=sizeLine;exact Kc _,[],0,.nil,Jf _ rfl⟩
 obtain⟨Wv,⟨m0,w0⟩,turn⟩:=q2 _ hD;have tn3:tn 0 (s2.heap.push {cls:=.type "list", data:=.seq ([]:List IR).toArray}):=T.keep _ _ _ st2 fun b _ o e=>IQ _ e
 have fpD:∀b∈fp,(upd H2 s2.heap.objs.size (.lst [])) b=none:=fun b hb=>by
  obtain⟨o,e,_⟩:=T.obj _ _ st2 b hb;rw[ar (JP (Jd e))];exact(f2 b hb).1
 have fp3:∀b∈fp,b<(s2.heap.push {cls:=.type "list", data:=.seq ([]:List IR).toArray}).objs.size:=fun b hb=>by
  obtain⟨o,e,_⟩:=T.obj _ _ tn3 b hb;exact Jd e
 refine ik (Q:=fun v H1=>jI ix v σ H1 DD.nx) N' fr hc hkind hcell hfree frl frg cl1 cl2 I3 T tn3 fpD fp3 (fun b hb=>(f2 b hb).2) (hg ⟨cl,fp,X.pn++pins,_,_⟩) (ht ⟨cl,fp,X.pn++pins,_,_⟩) (he ⟨cl,fp,X.pn++pins,_,_⟩) w0 (turn ⟨cl,fp,X.pn++pins,_,_⟩)
  (Rp:=Pr (Jv X.prog X.w) X.A X.xe (some (LH (.Name x px) X.env)) (fun _ s'=>SP X pins DD .next s') (.ref s2.heap.objs.size)) fun s5 H4 m hn k fpo qn=>?_
 show Jn _ X.A (LH (.Name x px) X.env (.ref s2.heap.objs.size)) _ _ s5;have I5:Inv X pins σ H4 s5:=k s5.heap (NW _ _);obtain⟨f0,f1,f2',f3,f4,f5⟩:=fpo;refine NQ (fU I5 hN hix hx (v:=.ref s2.heap.objs.size) rfl (fun s6 I6 sb=>?_) hf);obtain⟨a,sb,ha⟩:=sb
 have hne:(s2.heap.push {cls:=.type "list", data:=.seq ([]:List IR).toArray}).objs.size≠a:=by
  rcases ha with rfl|ha
  · exact f1
  · exact fun z=>f4 x a ha z.symm
 refine⟨m,hn.at' fun o e=>sb.extBut _ o hne e,fun h' hs'=>?_⟩;exact⟨_,H4,I6.turned (t':=s6.toks) (fun b o hb e=>hs'.extBut b o hb e) f0 f1 f3 f4 f5,qn⟩
end
end L2
namespace L2.VL
noncomputable def W.cap:W->Option W
 | .d x=>some (.d x)
 | .reel=>some .reel
 | .vv u=>some (.vv u)
 | .sc ns=>some (.sc ns)
 | .fd kvs=>some (.fd kvs)
 | .fw kvs=>some (.fw kvs)
 | .ft kvs=>some (.ft kvs)
 | .xc x fs=>some (.xc x fs)
 | .dp kvs x=>some (.dp kvs x)
 | _=>none
noncomputable def dX(fr:List (Option Nat))(ρ:En):En:=fr.map fun o=>o.bind fun j=>((ρ[j]?).join).bind W.cap
def rK(X:Cx)(rl:RlT)(ifs:List Expr)(f:TB):Prop:=∃t,HQ X ifs t/\∀{F₀ H₀ F H:Hp}{σ:St}{ρ:En},VR X.K rl F₀ H₀ F H σ ρ->∀(Qd:Bool->Prop)(Q:Bool->Hp->Prop),f ρ Qd ->
 (∀b F' H',Grow rl F H F' H'->Qd b->Q b H')->t σ H Q
theorem cr:rK X rl [] (fun _ Q=>Q true):=⟨_,kJ,fun R Qd Q q k=>k true _ _ (Grow.refl R.sub R.reel) q⟩
theorem yf{c:Expr}{f:TB}(h:PB X rl c f):rK X rl [c] f:=let ⟨t,p,k⟩:=h;⟨t,wE p,k⟩
theorem fK{fr:List (Option Nat)}{w:W}(h:(dX fr ρ)[i]?=some (some w)):∃j w',fr[i]?=some (some j)/\ρ[j]?=some (some w')/\w'.cap=some w:=by
 unfold dX at h;rw[JW]at h
 cases ef:fr[i]? with
 | none=>rw[ef]at h;cases h
 | some o =>
   cases o with
   | none=>rw[ef]at h;cases h
   | some j =>
     rw[ef]at h;have h':((ρ[j]?).join).bind W.cap=some w:=JN h
     cases q:ρ[j]? with
     | none=>rw[q]at h';cases h'
     | some o =>
       cases o with
       | none=>rw[q]at h';cases h'
       | some w'=>rw[q]at h';exact⟨j,w',rfl,q,h'⟩
theorem mI{w' w:W}(h:w'.cap=some w):w=w'/\w.own=false/\∀xs,w ≠ .pk xs:=by
 cases w'<;>cases h<;>exact⟨rfl,rfl,(fun _ z=>by cases z)⟩
theorem fH{K:W.Frag}{fr:List (Option Nat)}(R:VR K rl F₀ H₀ F H σ ρ)(g:Grow rl F H F H'):VR K rl F H F H' (nW fr σ) (dX fr ρ):=by
 refine⟨g,fun i w e=>?_,fun i j xs ys v _ e1 _ o1 _ _ _=>?_,fun i xs e=>?_,by simp[nW,dX]⟩
 · obtain⟨j,w',e1,e2,e3⟩:=fK e;obtain⟨rfl,n1,n2⟩:=mI e3;obtain⟨v,s1,r1,_⟩:=R.sl j w e2;refine⟨v,?_,r1.grow g,?_⟩
   · unfold nW;rw[JW,e1];show some ((σ[j]?).join)=_;rw[s1];rfl
   · cases w with
     | ml xs=>cases n1
     | md xs=>cases n1
     | mk xs=>cases n1
     | nt _=>trivial
     | lk=>trivial
     | sc _=>trivial
     | fd _=>trivial
     | fw _=>trivial
     | ft _=>trivial
     | xc _ _=>trivial
     | dp _ _=>trivial
     | d _=>trivial
     | pk _=>trivial
     | reel=>trivial
     | vv _=>trivial
 · obtain⟨_,_,_,_,e3⟩:=fK e1;rw[(mI e3).2.1]at o1;cases o1
 · obtain⟨_,_,_,_,e3⟩:=fK e;exact absurd rfl ((mI e3).2.2 xs)
theorem dH{fr:List (Option Nat)}:nQ (dX fr ρ):=fun i xs e=>by
 obtain⟨_,_,_,_,e3⟩:=fK e;exact(mI e3).2.1
theorem VR.other{K:W.Frag}(R:VR K rl F₀ H₀ F H σ ρ)(n:nQ ρ){D:Addr}{o:HO}(h0:H₀ D=none)(f:F D=none)(hr:rl.a≠some D):VR K rl F₀ H₀ F (upd H D o) σ ρ:=by
 have neF:∀b u,F b=some u->b≠D:=fun b u q z=>by subst z;rw[f]at q;cases q
 have g:Grow rl F₀ H₀ F (upd H D o):=by
  refine⟨fun b o q1 n=>by rw[ar (aS q1 h0)];exact R.g.same b o q1 n,R.g.fs,fun b o q1=>by rw[ar (neF b o q1)];exact R.sub b o q1,R.g.old,fun y z=>?_⟩;obtain⟨z1,⟨u,h1,h2⟩⟩:=R.reel y z;exact⟨z1,⟨u,by rw[ar (fun q=>hr (by rw[<- q];exact z))];exact h1,h2⟩⟩
 refine⟨g,fun i w e=>?_,R.ap,R.np,R.len⟩;obtain⟨v,h1,h2,h3⟩:=R.sl i w e;refine⟨v,h1,?_,h3⟩
 cases w with
 | d x=>exact h2
 | reel=>exact h2
 | vv u=>exact h2
 | ml xs=>cases n i _ e
 | md xs=>cases n i _ e
 | mk xs=>cases n i _ e
 | nt ds=>exact h2
 | lk=>trivial
 | sc _=>exact h2
 | fd _=>exact h2
 | fw _=>exact h2
 | ft _=>exact h2
 | xc _ _=>exact h2
 | dp _ _=>exact h2
 | pk xs=>exact absurd e (R.np i xs)
section
variable{X:Cx}{rl:RlT}{elt tg iter:Expr}{ifs:List Expr}{scope:Scope}{pos:Pos}{fi:En->(List IJ->Prop)->Prop}{g:HE}{ft:TB}{fe:TV}
end
mutual
def Eb:IJ->Prop
 | .none=>True
 | .bool _=>True
 | .int i=>i.natAbs<2^1900
 | .str x=>IJ.strOk x=true
 | .list xs=>lu xs
 | .tuple xs=>lu xs
 | .dict _=>False
def lu:List IJ->Prop
 | []=>True
 | x::xs=>Eb x/\lu xs
end
def HL(d:IJ):Prop:=Eb d/\d.depth<=60/\d.bulk<=8000
section
variable{X:Cx}{rl:RlT}{a b e:Expr}{es:List Expr}{fa fb fc:TV}{fs:HA}{pos p:Pos}
theorem cT(hm:X.mg "len" = none)(ha:HN X rl [a] fs)(hg:Gl X "len" := by rfl)(he:IZ [a] X.env=(false,eval a X.env)::IZ [] X.env:=by rfl)(hpl:(KC pos (IZ [] X.env)).any (·.1)=false:=by rfl) :
 PV X rl (.Call (.Name "len" p) [a] [] pos) (cR x_ fs):=dA dE yr hm boot_len ha hg (by decide) (by decide) he hpl
theorem Bm(hm:X.mg "abs" = none)(ha:HN X rl [a] fs)(hg:Gl X "abs" := by rfl)(he:IZ [a] X.env=(false,eval a X.env)::IZ [] X.env:=by rfl)(hpl:(KC pos (IZ [] X.env)).any (·.1)=false:=by rfl) :
 PV X rl (.Call (.Name "abs" p) [a] [] pos) (cR Bc fs):=dA uc yw hm (by first|rfl|exact boot_abs) ha hg (by decide) (by decide) he hpl
end
structure FnIn (K:W.Frag) (mg:Str->Option IR) (x:Str) (st:Stmt) (ps:List Str):Prop where
 ex:∃f fd,mg x=some (.ref f)/\Fun K x x st f fd/\Binds K fd ps []
structure Bz (mg:Str->Option IR):Prop where
 int_:mg "int" = none
 bool_:mg "bool" = none
 str_:mg "str" = none
 list_:mg "list" = none
 tuple_:mg "tuple" = none
 dict_:mg "dict" = none
 isinstance_:mg "isinstance" = none
 len_:mg "len" = none
 abs_:mg "abs" = none
 repr_:mg "repr" = none
 range_:mg "range" = none
 all_:mg "all" = none
 any_:mg "any" = none
 sum_:mg "sum" = none
 min_:mg "min" = none
 max_:mg "max" = none
 sorted_:mg "sorted" = none
 zip_:mg "zip" = none
 enumerate_:mg "enumerate" = none
 reversed_:mg "reversed" = none
 divmod_:mg "divmod" = none
 set_:mg "set" = none
section
variable{P:Ju}{w:J_}{K:W.Frag}{mg:Str->Option IR}{base:Heap}{rl:RlT}{x:Str}{st:Stmt}{N ps:List Str}{k:Nat}{Pd:List W->(IJ->Prop)->Prop}{t:HB}
theorem Dfn.of(Fn:FnIn K mg x st ps)(S:FnScope N ps (defScope st))(mono:∀ws Q Q',(∀d,Q d->Q' d)->Pd ws Q->Pd ws Q')(len:∀ws Q,Pd ws Q->ws.length=ps.length)
 (hbody:∀{f:Addr}(cdv:IR)(A:Kh)(outer:List Env)(s:IW)(H:Hp)(E:XK),Room k (A.deeper (NR x (defScope st) s.heap.objs.size f cdv)) ->
  mP (nX IA P w K mg base N x (defScope st) f cdv A outer s H E).nox rl (defBody st) t)
 (hread:∀ws Q,Pd ws Q->t (mU Q) (dv N ws)):Dfn P w K mg base rl x ps (k+1) Pd:=by
 obtain⟨f,fd,hm,F,hb⟩:=Fn.ex;exact⟨mono,f,fd,hm,F.kp,hb,FH F S len hbody hread⟩
end
section
variable{X:Cx}{rl:RlT}{e:Expr}{es:List Expr}{fa fb fc:TV}{fs:HA}{pos p:Pos}
end
theorem fz_d(x:IJ):(W.d x).fz = .d x:=rfl
theorem fz_ml(x:List IJ):(W.ml x).fz = .d (.list x):=rfl
theorem fz_pk(x:List IJ):(W.pk x).fz = .pk x:=rfl
theorem fz_reel:W.reel.fz = .reel:=rfl
theorem fz_vv(x:V):(W.vv x).fz = .vv x:=rfl
theorem pk_d(x:IJ):L2.VL.W.peek (.d x) = .d x:=rfl
theorem pk_ml(x:List IJ):L2.VL.W.peek (.ml x) = .pk x:=rfl
theorem pk_reel:L2.VL.W.peek .reel = .reel:=rfl
theorem pk_vv(x:V):L2.VL.W.peek (.vv x) = .vv x:=rfl
theorem dat_d(x:IJ):(W.d x).dat=some x:=rfl
theorem dat_ml(x:List IJ):(W.ml x).dat=some (.list x):=rfl
theorem dat_pk(x:List IJ):(W.pk x).dat=some (.list x):=rfl
theorem isPk_d(x:IJ):(W.d x).isPk=false:=rfl
theorem isPk_ml(x:List IJ):(W.ml x).isPk=false:=rfl
theorem isPk_reel:W.reel.isPk=false:=rfl
theorem dats_nil:li []=some []:=rfl
theorem dats_d(x:IJ)(r:List W):li (.d x::r)=(li r).map (x :: ·):=rfl
theorem arg_d(x:IJ):d6 (.d x)=true:=rfl
theorem arg_reel:d6 .reel=true:=rfl
theorem item_l(xs:List IJ)(i:Int):L2.VL.itemAt (.list xs) i=L2.atI xs i:=rfl
theorem item_t(xs:List IJ)(i:Int):L2.VL.itemAt (.tuple xs) i=L2.atI xs i:=rfl
theorem len_l(xs:List IJ):qu (.list xs)=some xs.length:=rfl
theorem len_t(xs:List IJ):qu (.tuple xs)=some xs.length:=rfl
theorem at0{α:Type}(x:α)(r:List α):L2.atI (x::r) 0=some x:=by simp[L2.atI,L2.ixN]
theorem at1{α:Type}(x y:α)(r:List α):L2.atI (x::y::r) 1=some y:=by
 have:(1:Int)<((x::y::r).length:Int):=by simp;omega
 simp only[L2.atI,L2.ixN];rw[if_pos (by decide),if_pos this];rfl
theorem lf{x y:Int}(h:y≠0):(x.fmod y).natAbs<y.natAbs:=by
 rcases Int.lt_or_gt_of_ne h with hy|hy
 · have h1:=Op x y
   have e:x.fmod y = -((-x).fmod (-y)):=by
    have:=Int.neg_fmod_neg x y;omega
   have p:0 < -y:=by omega
   have b1:=KE (-x) p;have b2:=K_ (-x) p;omega
 · have b1:=KE x hy;have b2:=K_ x hy;omega
theorem tO(x y:Int):LL y (x.fmod y)=LL x y:=by
 have e:x.fmod y=x+y*(-(x.fdiv y)):=by
  have:=Op x y;rw[Int.mul_neg];omega
 rw[e,Int.gcd_add_mul_left_right];exact Int.gcd_comm y x
theorem eqv_ii(a b:Int):Mv (.int a) (.int b)=(a==b):=by simp[Mv]
theorem shaped_i(a:Int):K8 (.int a)=true:=rfl
theorem shaped_b(a:Bool):K8 (.bool a)=true:=rfl
theorem g_.of{i j:Int}(h:j≠0)(b:j.natAbs<2^64):g_ i j:=⟨h,Jh b (JK (by decide) (by decide))⟩
theorem xx{a:Int}(h:b≠0):0<(LL a b:Int):=by
 have:=Int.gcd_pos_of_ne_zero_right a h;omega
theorem At{a:Int}(h:b≠0):(LL a b)<=b.natAbs:=Nat.le_of_dvd (by omega) (Int.gcd_dvd_natAbs_right a b)
theorem AN{xs:List α}{k:Int}(h0:0<=k)(h1:k<(xs.length:Int)):∃z,L2.atI xs k=some z/\z∈xs:=by
 obtain⟨n,rfl⟩:=JS h0;have hn:n<xs.length:=by omega
 exact⟨xs[n],cK (IV hn),Jy hn⟩
theorem gb{K:W.Frag}{i:Str}(h:Rep K F v (.str i)):v = .str i:=by cases h;rfl
def Ba(neg:Bool):W->W->(W->Prop)->Prop:=fun x y Q=>∃a b:Str,x = .d (.str a)/\y = .d (.str b)/\Q (.d (.bool (if neg then !decide (a=b)else decide (a=b))))
theorem hJ:Hw X rl GC (Ba false):=fun{F H x y wx wy} Qd Q s ra r1 r2 q k=>by
 obtain⟨a,b,rfl,rfl,q⟩:=q;have e1:=gb r1;have e2:=gb r2;subst e1 e2
 have e:decide (V.str a=V.str b)=decide (a=b):=by
  by_cases h:a=b
  · subst h;simp
  · rw[decide_eq_false h,decide_eq_false fun z=>h (by injection z)]
 exact⟨rfl,by rw[e];exact k _ (.d _) _ _ (Grow.refl s ra) (.bl _) trivial q⟩
theorem yj:Hw X rl Gy (Ba true):=fun{F H x y wx wy} Qd Q s ra r1 r2 q k=>by
 obtain⟨a,b,rfl,rfl,q⟩:=q;have e1:=gb r1;have e2:=gb r2;subst e1 e2
 have e:decide (V.str a=V.str b)=decide (a=b):=by
  by_cases h:a=b
  · subst h;simp
  · rw[decide_eq_false h,decide_eq_false fun z=>h (by injection z)]
 exact⟨rfl,by rw[e];exact k _ (.d _) _ _ (Grow.refl s ra) (.bl _) trivial q⟩
section
variable{P:Ju}{w:J_}{K:W.Frag}{mg:Str->Option IR}{base:Heap}{rl:RlT}{x:Str}{st:Stmt}{N ps:List Str}{k:Nat}{Pd:List W->(List IJ->Prop)->Prop}{t:HB}
end
section
variable{X:Cx}{rl:RlT}{e:Expr}{es:List Expr}{fs:HA}{pos p:Pos}
theorem wG(X:Cx)(rest:List Stmt):HR X rest (fun D σ H=>∀pins s,Inv X pins σ H s->Jn (Jv X.prog X.w) X.A (execs rest X.env) (SP X pins D) X.xe s):=fun pins s σ H D I h=>h pins s I
end
section
variable{X:Cx}{rl:RlT}{a b c e:Expr}{es:List Expr}{fa fb fc:TV}{fs:HA}{pos p:Pos}
noncomputable def d_:IJ->Option (List IJ)
 | .list xs=>some xs
 | .tuple xs=>some xs
 | _=>none
theorem seq_l(xs:List IJ):d_ (.list xs)=some xs:=rfl
theorem seq_t(xs:List IJ):d_ (.tuple xs)=some xs:=rfl
theorem d_.of{o:Option IJ}(h:o=some d)(e:d_ d=some xs):o=some (.list xs)\/o=some (.tuple xs):=by
 cases d<;>cases e
 · exact .inl h
 · exact .inr h
def qE:List W->(W->Prop)->Prop:=fun ws Q=>∃w d xs,ws=[w]/\w.dat=some d/\d_ d=some xs/\Q (.d (.tuple xs))
theorem uk:d8 X rl (fun xs H Q=>∃p ys,xs=[.ref p]/\((HH X.K H p ys/\∀l,H l=none->Q (.ref l) (upd H l (.tup ys)))\/(HG X.K H p ys/\Q (.ref p) H))) qE:=fun{F H vs ws} Qd Q s ra r ⟨w,d,xs,ew,ed1,ed2,q⟩ k=>by
 have ed:=d_.of ed1 ed2;subst ew;obtain⟨v,rfl,r1⟩:=nU r;rcases ed with ed|ed
 · obtain⟨a,us,rfl,sq,rs⟩:=r1.items s ed;refine⟨a,us,rfl,.inl ⟨sq,fun l hl=>?_⟩⟩;have g:=Grow.data (a:=l) (o:=.tup us) s ra hl;exact k _ (.d (.tuple xs)) _ _ g (.tup (.inl (.inl ax)) (rs.mono g.fs)) trivial q
 · cases w with
   | d y =>
     cases ed
     cases(show Rep X.K F v (.tuple xs)from r1)with
     | tup sq rs=>exact⟨_,_,rfl,.inr ⟨dJ s sq,k _ (.d (.tuple xs)) _ _ (Grow.refl s ra) (.tup sq rs) trivial q⟩⟩
   | ml ys=>cases ed
   | pk ys=>cases ed
   | reel=>cases ed
   | vv u=>cases ed
   | md u=>cases ed
   | mk u=>cases ed
   | lk=>cases ed
   | sc _=>cases ed
   | fd _=>cases ed
   | fw _=>cases ed
   | ft _=>cases ed
   | xc _ _=>cases ed
   | dp _ _=>cases ed
   | nt ds =>
     cases ed;obtain⟨b,us,rfl,h,q'⟩:=r1;exact⟨_,_,rfl,.inr ⟨.inl (.inl (s _ _ h)),k _ (.d (.tuple xs)) _ _ (Grow.refl s ra) (.tup (.inl (.inl h)) q') trivial q⟩⟩
theorem bF(hm:X.mg "tuple" = none)(ha:HN X rl [a] fs)(hg:Gl X "tuple" := by rfl)(he:IZ [a] X.env=(false,eval a X.env)::IZ [] X.env:=by rfl)(hpl:(KC pos (IZ [] X.env)).any (·.1)=false:=by rfl) :
 PV X rl (.Call (.Name "tuple" p) [a] [] pos) (cR qE fs):=iB dr uk hm (by rfl) ha hg (by decide) (by decide) he hpl
def tS:List W->(W->Prop)->Prop:=fun ws Q=>∃w d xs,ws=[w]/\w.dat=some d/\d_ d=some xs/\Q (.ml xs)
theorem yq:d8 X rl (fun xs H Q=>∃p ys,xs=[.ref p]/\(HH X.K H p ys\/HG X.K H p ys)/\∀l,H l=none->Q (.ref l) (upd H l (.lst ys))) tS:=fun{F H vs ws} Qd Q s ra r ⟨w,d,xs,ew,ed1,ed2,q⟩ k=>by
 have ed:=d_.of ed1 ed2;subst ew;obtain⟨v,rfl,r1⟩:=nU r;rcases ed with ed|ed
 · obtain⟨a,us,rfl,sq,rs⟩:=r1.items s ed;exact⟨a,us,rfl,.inl sq,fun l hl=>k _ (.ml xs) _ _ (Grow.laid s ra hl) (dG s ra hl rs) (fun a ea=>by cases ea;exact hl) q⟩
 · obtain⟨a,us,rfl,sq,rs⟩:=r1.itemsT s ed;exact⟨a,us,rfl,.inr sq,fun l hl=>k _ (.ml xs) _ _ (Grow.laid s ra hl) (dG s ra hl rs) (fun a ea=>by cases ea;exact hl) q⟩
theorem lE(hm:X.mg "list" = none)(ha:HN X rl [a] fs)(hg:Gl X "list" := by rfl)(he:IZ [a] X.env=(false,eval a X.env)::IZ [] X.env:=by rfl)(hpl:(KC pos (IZ [] X.env)).any (·.1)=false:=by rfl) :
 PV X rl (.Call (.Name "list" p) [a] [] pos) (cR tS fs):=iB jT yq hm (by rfl) ha hg (by decide) (by decide) he hpl
end
section
variable{X:Cx}{rl:RlT}
end
section
variable{X:Cx}{rl:RlT}{a b c e:Expr}{es:List Expr}{fa fb fc:TV}{fs:HA}{pos p p2:Pos}
def G_(f:Int->Int->IJ):List W->(W->Prop)->Prop:=fun ws Q=>∃i j,ws=[.d (.int i),.d (.int j)]/\Q (.d (f i j))
theorem yt{f:Int->Int->V}{g:Int->Int->IJ}(h:∀K F i j,Rep K F (f i j) (g i j)):d8 X rl (fun xs H Q=>∃i j,xs=[.int i,.int j]/\Q (f i j) H) (G_ g):=fun{F H vs ws} Qd Q s ra r ⟨i,j,ew,q⟩ k=>by
 subst ew;obtain⟨v,u,rfl,r1,r2⟩:=zi r;have e1:=aJ r1;have e2:=aJ r2;subst e1 e2;exact⟨i,j,rfl,k _ (.d _) _ _ (Grow.refl s ra) (h _ _ i j) trivial q⟩
theorem ut(hm:X.mg "max" = none)(ha:HN X rl [a,b] fs)(hc:X.calm=true:=by rfl)(hg:Gl X "max" := by rfl)(he:IZ [a,b] X.env=(false,eval a X.env)::IZ [b] X.env:=by rfl)(hpl:(KC pos (IZ [b] X.env)).any (·.1)=false:=by rfl) :
 PV X rl (.Call (.Name "max" p) [a,b] [] pos) (cR (G_ fun i j=>.int (max i j)) fs) :=
 dA (rg hc) (yt (f:=fun i j=>.int (if j>i then j else i)) fun _ _ i j=>(show(if j>i then j else i)=max i j by split<;>omega) ▸ .int _) hm (by rfl) ha hg (by decide) (by decide) he hpl
theorem ur(hm:X.mg "min" = none)(ha:HN X rl [a,b] fs)(hc:X.calm=true:=by rfl)(hg:Gl X "min" := by rfl)(he:IZ [a,b] X.env=(false,eval a X.env)::IZ [b] X.env:=by rfl)(hpl:(KC pos (IZ [b] X.env)).any (·.1)=false:=by rfl) :
 PV X rl (.Call (.Name "min" p) [a,b] [] pos) (cR (G_ fun i j=>.int (min i j)) fs) :=
 dA (re hc) (yt (f:=fun i j=>.int (if j<i then j else i)) fun _ _ i j=>(show(if j<i then j else i)=min i j by split<;>omega) ▸ .int _) hm (by rfl) ha hg (by decide) (by decide) he hpl
def iY:List W->(W->Prop)->Prop:=fun ws Q=>∃i j,ws=[.d (.int i),.d (.int j)]/\0<j/\j<1073741824/\Q (.d (.tuple [.int (i / j),.int (i%j)]))
theorem ox:d8 X rl (fun xs H Q=>∃i j,xs=[.int i,.int j]/\Ef i j/\∀p,H p=none->Q (.ref p) (upd H p (.tup [.int (i / j),.int (i%j)]))) iY:=fun{F H vs ws} Qd Q s ra r ⟨i,j,ew,h1,h2,q⟩ k=>by
 subst ew;obtain⟨v,u,rfl,r1,r2⟩:=zi r;have e1:=aJ r1;have e2:=aJ r2;subst e1 e2;refine⟨i,j,rfl,⟨h1,h2⟩,fun p hp=>?_⟩;have g:=Grow.data (a:=p) (o:=.tup [.int (i / j),.int (i%j)]) s ra hp;exact k _ (.d _) _ _ g (.tup (.inl (.inl ax)) (.cons (.int _) (.cons (.int _) .nil))) trivial q
theorem rX(hm:X.mg "divmod" = none)(ha:HN X rl [a,b] fs)(hg:Gl X "divmod" := by rfl)(he:IZ [a,b] X.env=(false,eval a X.env)::IZ [b] X.env:=by rfl)(hpl:(KC pos (IZ [b] X.env)).any (·.1)=false:=by rfl) :
 PV X rl (.Call (.Name "divmod" p) [a,b] [] pos) (cR iY fs):=dA lm ox hm (by rfl) ha hg (by decide) (by decide) he hpl
def qF:List W->(W->Prop)->Prop:=fun ws Q=>(∃i,ws=[.d (.int i)]/\Q (.d (.int i)))\/∃k:Bool,ws=[.d (.bool k)]/\Q (.d (.int (if k then 1 else 0)))
theorem ot:d8 X rl (fun xs H Q=>(∃i,xs=[.int i]/\Q (.int i) H)\/∃k,xs=[.bl k]/\Q (.int (if k then 1 else 0)) H) qF:=fun{F H vs ws} Qd Q s ra r h k=>by
 rcases h with⟨i,ew,q⟩|⟨i,ew,q⟩
 · subst ew;obtain⟨v,rfl,r1⟩:=nU r;have e1:=aJ r1;subst e1;exact .inl ⟨i,rfl,k _ (.d _) _ _ (Grow.refl s ra) (.int _) trivial q⟩
 · subst ew;obtain⟨v,rfl,r1⟩:=nU r;have e1:=dM r1;subst e1;exact .inr ⟨i,rfl,k _ (.d _) _ _ (Grow.refl s ra) (.int _) trivial q⟩
theorem uu(hm:X.mg "int" = none)(ha:HN X rl [a] fs)(hg:Gl X "int" := by rfl)(he:IZ [a] X.env=(false,eval a X.env)::IZ [] X.env:=by rfl)(hpl:(KC pos (IZ [] X.env)).any (·.1)=false:=by rfl) :
 PV X rl (.Call (.Name "int" p) [a] [] pos) (cR qF fs):=iB jU ot hm (by rfl) ha hg (by decide) (by decide) he hpl
def GZ(C:Int->Int->Prop)(f:Int->Int->Int):HD:=fun x y H Q=>∃i j,x = .int i/\y = .int j/\C i j/\Q (.int (f i j)) H
theorem xp:HV X .Mult (GZ bo fun i j=>i*j):=by
 intro pins s σ H x y v u Q I r1 r2 h;obtain⟨i,j,e1,e2,hc,q⟩:=h;subst e1;subst e2;obtain⟨t,rfl⟩:=r1;obtain⟨t',rfl⟩:=r2;exact imul_int ⟨.int _,H,I.tok _,⟨_,rfl⟩,q⟩ hc.ok
def Bv(i:Nat)(C:Int->Int->Prop)(f:Int->Int->Int)(fa:TV):HB:=fun D ρ=>∃n,ρ[i]?=some (some (.d (.int n)))/\fa ρ fun w=>∃m,w = .d (.int m)/\C n m/\D.nx (ρ.set i (some (.d (.int (f n m)))))
theorem yi(i:Nat){x:Str}{op:O0}{C:Int->Int->Prop}{f:Int->Int->Int}(hN:X.N.Nodup)(ho:HV X op (GZ C f))(he:PV X rl e fa)(hi:X.N[i]?=some x:=by rfl)(hx:Loc X.env.scope x:=by first|exact Kz rfl|exact J0 rfl)
 (hf:X.fn x=true\/X.env.scope.names.lookup x=some .local:=by first|exact .inl rfl|exact .inr rfl):HS X rl (.AugAssign (.Name x pos') op e pos) (Bv i C f fa):=by
 obtain⟨t,p,k⟩:=he;refine⟨_,uJ hN hi hx p ho hf,fun R Dv D ok ⟨n,e1,q⟩=>?_⟩;obtain⟨v,s1,r1,_⟩:=R.sl i _ e1;have ev:=aJ r1;subst ev;refine⟨_,s1,k R _ _ q fun v w F1 H1 g1 r1 n1 ⟨m,ew,hc,q1⟩=>?_⟩;subst ew;have ev:=aJ r1;subst ev;exact⟨n,m,rfl,rfl,hc,ok.nx _ _ _ _ g1.fs (R.set g1 (v:=.int (f n m)) (w:=.d (.int (f n m))) (.int _) trivial (fun _ z=>by cases z) i) q1⟩
noncomputable def cutD(xs:List IJ)(lo hi:Option Int):List IJ:=(xs.drop (HT.sIx xs.length 0 lo)).take (HT.sIx xs.length xs.length hi-HT.sIx xs.length 0 lo)
theorem Reps.cut{K:W.Frag}{ds:List IJ}(r:Reps K F vs ds)(lo hi:Option Int):Reps K F (t6 vs lo hi) (cutD ds lo hi):=by
 unfold t6 cutD;rw[r.length];exact(r.drop _).take _
abbrev HC:=En->(Option Int->Prop)->Prop
def HP(X:Cx)(rl:RlT)(o:Option Expr)(f:HC):Prop:=∃t,PO X o t/\∀{F₀ H₀ F H:Hp}{σ:St}{ρ:En},VR X.K rl F₀ H₀ F H σ ρ->∀(Qd:Option Int->Prop)(Q:Option Int->Hp->Prop),f ρ Qd ->
 (∀o F' H',Grow rl F H F' H'->Qd o->Q o H')->t σ H Q
def GL:HC:=fun _ Q=>Q none
def GM(fa:TV):HC:=fun ρ Q=>fa ρ fun w=>∃i,w = .d (.int i)/\Q (some i)
theorem dQ:HP X rl none GL:=⟨_,wJ,fun R Qd Q q k=>k _ _ _ (Grow.refl R.sub R.reel) q⟩
theorem dP(h:PV X rl e fa):HP X rl (some e) (GM fa):=by
 obtain⟨t,p,k⟩:=h;refine⟨_,pO p,fun R Qd Q q h=>k R _ _ q fun v w F1 H1 g1 r1 n1 ⟨i,ew,q1⟩=>?_⟩;subst ew;exact⟨i,aJ r1,h _ F1 H1 g1 q1⟩
def DR(fa:TV)(fl fh:HC):TV:=fun ρ Q=>fa ρ fun w=>fl ρ fun l=>fh ρ fun h=>∃xs,w.dat=some (.list xs)/\Q (.ml (cutD xs l h))
def tU:W->W->(W->Prop)->Prop:=fun x y Q=>∃xs ys,x.dat=some (.list xs)/\y.dat=some (.list ys)/\xs.length+ys.length<=sizeLine/\Q (.ml (xs++ys))
theorem cY.lst{K:W.Frag}{F H:Hp}{v:V}{w:W}{xs:List IJ}(s:bE F H)(r:cY K rl F H v w)(e:w.dat=some (.list xs)):∃a vs,v = .ref a/\H a=some (.lst vs)/\Reps K F vs xs:=by
 have own:gO K rl F H v xs->∃a vs,v = .ref a/\H a=some (.lst vs)/\Reps K F vs xs:=fun⟨a,vs,e1,_,_,e2,e3⟩=>⟨a,vs,e1,e2,e3⟩
 cases w with
 | d y =>
   cases e
   cases(show Rep K F v (.list xs)from r)with
   | lst h q=>exact⟨_,_,rfl,s _ _ h,q⟩
 | ml ys=>cases e;exact own r
 | pk ys=>cases e;exact own r
 | reel=>cases e
 | vv u=>cases e
 | md u=>cases e
 | mk u=>cases e
 | nt u=>cases e
 | lk=>cases e
 | sc _=>cases e
 | fd _=>cases e
 | fw _=>cases e
 | ft _=>cases e
 | xc _ _=>cases e
 | dp _ _=>cases e
theorem vH:Hw X rl D0 tU:=fun{F H x y wx wy} Qd Q s ra r1 r2 q k=>by
 obtain⟨xs,ys,e1,e2,z,q⟩:=q;obtain⟨a,vs,rfl,h1,q1⟩:=r1.lst s e1;obtain⟨b,us,rfl,h2,q2⟩:=r2.lst s e2;refine⟨a,b,vs,us,rfl,rfl,h1,h2,by rw[q1.length,q2.length];exact z,fun p hp=>?_⟩;exact k _ (.ml _) _ _ (Grow.laid s ra hp) (dG s ra hp (q1.append q2)) (fun a ea=>by cases ea;exact hp) q
theorem uv(ha:PV X rl a fa)(hb:PV X rl b fb):PV X rl (.BinOp a .Add b pos) (FO tU fa fb):=gW zW vH ha hb
structure GlD (K:W.Frag) (mg:Str->Option IR) (x:Str) (d:IJ):Prop where
 ex:∃v u,mg x=some u/\RelV v u/\∀F,Rep K F v d
theorem hR{x:Str}(G:GlD X.K X.mg x d)(hg:Gl X x:=by rfl)(hd:(x==("__debug__" : Str))=false:=by decide):PV X rl (.Name x pos) (vC d):=by
 obtain⟨v,u,h1,h2,h3⟩:=G.ex;exact wD h1 h2 h3 hg hd
structure GlK (K:W.Frag) (x:Str) (d:IJ):Prop where
 ex:∃v u,W.nsIn K J4 x=some (some u)/\RelV v u/\∀F,Rep K F v d
theorem GlK.of{K:W.Frag}{x:Str}{mg:Str->Option IR}(k:GlK K x d)(Y:K.In h)(G:h.Ns J4 mg):GlD K mg x d:=by
 obtain⟨v,u,h1,h2,h3⟩:=k.ex;exact⟨v,u,W.mg_of Y G h1,h2,h3⟩
end
end L2.VL
namespace L2
section
variable{X:Cx}{a b:Expr}{ta:TA}{p q pos pos2:Pos}
end
end L2
namespace L2.VL
section
variable{X:Cx}{rl:RlT}{a b c e:Expr}{es:List Expr}{fa fb fc:TV}{fs:HA}{pos pos2 p q:Pos}
theorem Reps.erase{K:W.Frag}{F:Hp}:∀{vs:List V}{ds:List IJ}(n:Nat),Reps K F vs ds->Reps K F (vs.eraseIdx n) (ds.eraseIdx n)
 | _,_,_,.nil=>by simp;exact .nil
 | _,_,0,.cons h r=>r
 | _,_,n+1,.cons h r=>.cons h (Reps.erase n r)
end
theorem nJ{xs:List α}{f:β->α->β}{a:β}(h:i<xs.length):(xs.take (i+1)).foldl f a=f ((xs.take i).foldl f a) xs[i]:=by
 rw[KZ h,Mg];rfl
end L2.VL
namespace L2
section
variable{X:Cx}{tg e:Expr}{ta te:TE}{p p2 pos:Pos}
end
end L2
namespace L2.VL
section
variable{X:Cx}{rl:RlT}{a b c e tg:Expr}{es:List Expr}{fa fb fc:TV}{fs:HA}{pos pos2 p p2 q:Pos}
theorem Reps.rev{K:W.Frag}{F:Hp}:∀{vs:List V}{ds:List IJ},Reps K F vs ds->Reps K F vs.reverse ds.reverse
 | _,_,.nil=>.nil
 | _,_,.cons h r=>by rw[Me,Me];exact(Reps.rev r).snoc h
end
end L2.VL
namespace L2
section
variable{X:Cx}
theorem xR{bs:List Bool}(r:cn (bs.map V.bl) its){v:IR}(e:its[i]?=some v):v = .bool (bs.getD i false):=by
 have hl:=r.length;rw[IP]at hl;have hi:i<bs.length:=by have:=(Jj.mp e).1;omega
 have hb:(bs.map V.bl)[i]?=some (.bl bs[i]):=by simp[hi]
 obtain⟨u,hu,ru⟩:=r.get hb;rw[e]at hu;cases hu;have:bs.getD i false=bs[i]:=by simp[Pz,hi]
 rw[this];exact ru
theorem pG{bs:List Bool}:(Jq bs.length).all (fun i=>bs.getD i false)=bs.all id:=by
 have:bs=(Jq bs.length).map fun i=>bs.getD i false:=by
  apply Mp
  · simp
  · intro i h1 h2;simp[Pz,h1]
 conv=>rhs;rw[this,Pi]
 rfl
theorem ub(hc:X.calm=true):d9 X (.builtin "all") (fun xs H Q=>∃(p:Addr)(bs:List Bool),xs=[.ref p]/\HH X.K H p (bs.map V.bl)/\Q (.bl (bs.all id)) H):=by
 intro pins s σ H xs us Q I r ⟨p,bs,ex,hq,q⟩;subst ex;obtain⟨u,rfl,ru⟩:=vals1 r;cases ru;obtain⟨its,rv,pl,hz⟩:=I.list hq;have hl:=rv.length;rw[IP]at hl;refine call_all_walk (MP pl.isList ?_);have ne:p≠s.heap.objs.size:=by obtain⟨o,ho,_⟩:=pl.isList;exact JP (Jd ho)
 refine⟨s.heap.objs.size,_,_,_,_,_,fun i=>bs.getD i false,rfl,Walks.list (A:=X.A.in1) (I.ok.hd hc) s.heap.objs.size p ne its.toArray,⟨⟨_,Jf _ rfl,rfl,rfl⟩,pl.isList.push _⟩,fun i v s' Q' E' hP hQ=>?_,fun h' tk k=>?_⟩
 · rw[xR rv (show its[i]?=some v by simpa using hP)];exact Lh hQ
 · have e:(Jq its.toArray.size).all (fun i=>bs.getD i false)=bs.all id:=by rw[Je,<- hl];exact pG
   rw[e];exact⟨.bl _,H,I.kept (t':=tk) fun b o eb=>k b o (by simp;exact JP (Jd eb)) (IQ _ eb),rfl,q⟩
end
end L2
namespace L2.VL
section
variable{X:Cx}{rl:RlT}{a b c e:Expr}{es:List Expr}{fa fb fc:TV}{fs:HA}{pos p p2:Pos}
theorem pB{K:W.Frag}{F:Hp}:∀{vs:List V}{bs:List Bool},Reps K F vs (bs.map .bool)->vs=bs.map V.bl
 | _,[],h=>h.nil_iff
 | _,b::bs,.cons h r=>by rw[dM h,pB r];rfl
def Bb(f:List Bool->Bool):List W->(W->Prop)->Prop:=fun ws Q=>∃(w:W)(bs:List Bool),ws=[w]/\w.dat=some (.list (bs.map .bool))/\Q (.d (.bool (f bs)))
theorem yu{f:List Bool->Bool}:d8 X rl (fun xs H Q=>∃(p:Addr)(bs:List Bool),xs=[.ref p]/\HH X.K H p (bs.map V.bl)/\Q (.bl (f bs)) H) (Bb f):=fun{F H vs ws} Qd Q s ra r ⟨w,bs,ew,ed,q⟩ k=>by
 subst ew;obtain⟨v,rfl,r1⟩:=nU r;obtain⟨a,us,rfl,sq,rs⟩:=r1.items s ed;have e:=pB rs;subst e;exact⟨a,bs,rfl,sq,k _ (.d _) _ _ (Grow.refl s ra) (.bl _) trivial q⟩
theorem v_all(hm:X.mg "all" = none)(ha:HN X rl [a] fs)(hc:X.calm=true:=by rfl)(hg:Gl X "all" := by rfl)(he:IZ [a] X.env=(false,eval a X.env)::IZ [] X.env:=by rfl)(hpl:(KC pos (IZ [] X.env)).any (·.1)=false:=by rfl) :
 PV X rl (.Call (.Name "all" p) [a] [] pos) (cR (Bb fun bs=>bs.all id) fs):=dA (ub hc) yu hm (by rfl) ha hg (by decide) (by decide) he hpl
end
end L2.VL
namespace L2.TM
theorem zZ:fillsNumberSlot (.type "tuple") "mul" = pure false :=
 PySem.fillsNumberSlot_seq (id := "tuple.__mul__") (r:=some (.builtin "tuple.__rmul__")) F.slot_tuple_mul.lookup (by decide +kernel) F.slot_tuple_rmul.lookup (by decide +kernel)
theorem EE:seqRepeat? (.type "tuple")=pure (some (.builtin "tuple.__mul__")):=by
 unfold seqRepeat?;have s1:=PySem.seqSlot_of (T := "tuple") (name := "__mul__") (id := "tuple.__mul__") F.slot_tuple_mul.lookup (by decide +kernel);have s2:=PySem.seqSlot_of (T := "tuple") (name := "__rmul__") (id := "tuple.__rmul__") F.slot_tuple_rmul.lookup (by decide +kernel);rw[s1,s2];rfl
theorem sw(its:Array IR):∀n:Nat,(L0 (fun x y=>x++y) #[] (I0 n its)).size=its.size*n:=by
 have key:∀(n:Nat)(acc:Array IR),(L0 (fun x y=>x++y) acc (I0 n its)).size=acc.size+its.size*n:=by
  intro n
  induction n with
  | zero=>intro acc;simp
  | succ n ih=>intro acc;rw[Jx,KQ,ih,Array.size_append,Nat.mul_succ];omega
 intro n;have:=key n #[];simpa using this
def TupAt(h:Heap)(l:Addr)(its:Array IR):Prop:=∃(dc:Option Addr)(sl:Array (Option IR))(n:Nat),h.get? l=some ⟨.type "tuple", dc,.seq its n,sl⟩
section
variable{prog:Ju}{w:J_}{A:Kh}{E:IR->IW->Prop}{s:IW}{k:Int}{t:Tok}{l:Addr}{its:Array IR}
theorem tupAt(h:Oh s.heap l its):TupAt s.heap l its:=by
 obtain⟨⟨c,dc,d,sl⟩,ho,hc,n,hd⟩:=h;cases hc;cases hd;exact⟨dc,sl,n,ho⟩
theorem EW(h:TupAt s.heap l its)(q:Q .notImplemented s):Jn (Jv prog w) A (call (.builtin "int.__rmul__") [.int k t,.ref l]) Q E s:=by
 obtain⟨dc,sl,n,ho⟩:=h;refine MR F.slot_int_rmul (OF s k t) F.entry_int_rmul (F.args_int_rmul_2 _ _) (S:=fun _ R s=>s.heap.get? l=some ⟨.type "tuple", dc,.seq its n,sl⟩/\R (.ok (.ret IR.notImplemented)) s) ?_ ⟨ho,q⟩
 exact .of_wp fun prog w A R s h=>by
  obtain⟨hp,g,d,tk,os⟩:=s;obtain⟨ho,h⟩:=h
  wp_walk
  exact⟨_,rfl,h⟩
theorem rep_body(hk:2<=k)(hk':k<2^62)(he:its.isEmpty=false)(hz:its.size*k.toNat<=sizeLine)(h:TupAt s.heap l its)
 (q:Q (.ref s.heap.objs.size) {s with heap:=s.heap.push {cls:=.type "tuple", data:=.seq ((I0 k.toNat its).foldl (· ++ ·) #[])}}):Jn (Jv prog w) A (call (.builtin "tuple.__mul__") [.ref l,.int k t]) Q E s:=by
 obtain⟨dc,sl,n,ho⟩:=h
 refine MR F.slot_tuple_mul ⟨_,ho,rfl⟩ F.entry_tuple_mul (F.args_tuple_mul_2 _ _)
  (S:=fun _ R s=>s.heap.get? l=some ⟨.type "tuple", dc,.seq its n,sl⟩/\R (.ok (.ret (.ref s.heap.objs.size))) {s with heap:=s.heap.push {cls:=.type "tuple", data:=.seq ((I0 k.toNat its).foldl (· ++ ·) #[])}}) ?_ ⟨ho,q⟩
 have h1:¬(decide (k < -(2^63))||decide (k ≥ 2^63))=true:=by simp;omega
 have h2:¬(its.isEmpty||k==1)=true:=by rw[he];simp;omega
 have h3:¬(decide (k<=0)||its.isEmpty)=true:=by rw[he];simp;omega
 have sz:=Ji;have hk0:k=(k.toNat:Int):=by omega
 have h4:¬((its.size:Int)*k>(2^63-1) / 8):=by
  rw[hk0];have:((its.size*k.toNat:Nat):Int)<=sizeLine:=by exact_mod_cast hz
  rw[LM]at this;omega
 have h5:¬Builtin.Tuple.tupleTooMany ((its.size:Int)*k)=true:=by
  intro z;have z:=of_decide_eq_true z;rw[hk0]at z;have:((its.size*k.toNat:Nat):Int)<=sizeLine:=by exact_mod_cast hz
  rw[LM]at this;omega
 refine .of_wp fun prog w A R s h=>?_;obtain⟨ho,h⟩:=h;have tp:Oh s.heap l its:=⟨_,ho,rfl,n,rfl⟩;unfold Builtin.«tuple.__mul__»;show Jn _ _ (do let z <- asIndex (.int k t);_) _ _ s;refine IK (LB (a:=k) (by first|rfl|kernel_rfl) ?_);rw[if_neg h1];refine IK (MC tp ?_);rw[if_neg h2,if_neg h3]
 first|rw[if_neg h4]|skip
 first|rw[if_neg h5]|skip
 show Jn _ _ (do let z <- JX (L0 (fun x y=>x++y) #[] (I0 k.toNat its));ret z) _ _ s;refine IK (m:=JX _) (JC (IU ⟨_,rfl,h⟩) ?_);show(L0 (fun x y=>x++y) #[] (I0 k.toNat its)).size<=sizeLine;rw[sw];exact hz
theorem rep_one(h:TupAt s.heap l its)(q:Q (.ref l) s):Jn (Jv prog w) A (call (.builtin "tuple.__mul__") [.ref l,.int 1 t]) Q E s:=by
 obtain⟨dc,sl,n,ho⟩:=h;refine MR F.slot_tuple_mul ⟨_,ho,rfl⟩ F.entry_tuple_mul (F.args_tuple_mul_2 _ _) (S:=fun _ R s=>s.heap.get? l=some ⟨.type "tuple", dc,.seq its n,sl⟩/\R (.ok (.ret (.ref l))) s) ?_ ⟨ho,q⟩;refine .of_wp fun prog w A R s h=>?_;obtain⟨ho,h⟩:=h;have tp:Oh s.heap l its:=⟨_,ho,rfl,n,rfl⟩;unfold Builtin.«tuple.__mul__»;show Jn _ _ (do let z <- asIndex (.int 1 t);_) _ _ s;refine IK (LB (a:=(1:Int)) (by first|rfl|kernel_rfl) ?_);rw[if_neg (by decide)];refine IK (MC tp ?_);rw[if_pos (by simp)];show Jn _ _ (do let z <- Mj (.ref l);_) _ _ s;refine IK ?_;unfold Mj;refine IK (NA (T := "tuple") ⟨_,ho,rfl⟩ (IU ?_));rw[if_pos (by decide)];exact IK (Mc (IK (IU (IU ⟨_,rfl,h⟩))))
theorem mul_tup(tp:Oh s.heap l its)(q:Jn (Jv prog w) A (call (.builtin "tuple.__mul__") [.ref l,.int k t]) Q E s):Jn (Jv prog w) A (LD .Mult (.ref l) (.int k t)) Q E s :=
 NM (T := "tuple") (U := "int") (by decide) tp.typeIs (fun s'=>OF s' k t) zZ F.fills_int_mul F.slot_int_rmul EE F.slot_int_index.lookup (EW (tupAt tp) ⟨rfl,tp.typeIs,q⟩)
end
end L2.TM
namespace L2
section
variable{X:Cx}
def zk(K:W.Frag):R2:=fun x y H Q=>∃a k xs,x = .ref a/\y = .int k/\HG K H a xs/\xs≠[]/\1<=k/\k<2^62/\xs.length*k.toNat<=sizeLine/\(k=1->Q (.ref a) H)/\(2<=k->∀p,H p=none->Q (.ref p) (upd H p (.tup (I0 k.toNat xs).flatten)))
theorem wS:H_ X (LD .Mult) (zk X.K):=by
 intro pins s σ H x y v u Q I rx ry h;obtain⟨a,k,xs,rfl,rfl,ha,hne,h1,h2,hz,q1,q2⟩:=h;cases rx;obtain⟨t,rfl⟩:=ry;obtain⟨its,r,p,_⟩:=I.tuple ha;have hl:=r.length;refine TM.mul_tup p ?_;by_cases hk:k=1
 · subst hk;exact TM.rep_one (TM.tupAt p) ⟨.ref a,H,I,rfl,q1 rfl⟩
 · have he:its.toArray.isEmpty=false:=by
     cases its with
     | nil=>simp at hl;exact absurd hl hne
     | cons _ _=>rfl
   refine TM.rep_body (by omega) h2 he (by rw[Je,<- hl];exact hz) (TM.tupAt p) ?_
   have e:L0 (fun x y=>x++y) #[] (I0 k.toNat its.toArray)=(I0 k.toNat its).flatten.toArray:=by
    have:=foldl_rep its k.toNat [];rw[Nl]at this;exact this
   rw[e];refine⟨.ref s.heap.objs.size,_,I.laid (t':=s.toks) (o:=.tup (I0 k.toNat xs).flatten) (fun b ob q=>IQ _ q) (I_ _) ?_,rfl,q2 (by omega) _ (I.hok.fresh (I_ _))⟩;exact⟨by rw[qt,Om];exact hz,_,r.rep k.toNat,rL.new _ _⟩
end
end L2
namespace L2.VL
section
variable{X:Cx}{rl:RlT}{a b c e:Expr}{es:List Expr}{fa fb fc:TV}{fs:HA}{pos p p2:Pos}
theorem Reps.repl{K:W.Frag}{F:Hp}{vs:List V}{ds:List IJ}(r:Reps K F vs ds):∀n:Nat,Reps K F (I0 n vs).flatten (I0 n ds).flatten
 | 0=>.nil
 | n+1=>by rw[Jx,Jx,Kr,Kr];exact r.append (Reps.repl r n)
def tQ:W->W->(W->Prop)->Prop:=fun x y Q=>∃xs k,x = .d (.tuple xs)/\y = .d (.int k)/\xs≠[]/\1<=k/\k<2^62/\xs.length*k.toNat<=sizeLine/\Q (.d (.tuple (I0 k.toNat xs).flatten))
theorem vD:Hw X rl (zk X.K) tQ:=fun{F H x y wx wy} Qd Q s ra r1 r2 q k=>by
 obtain⟨xs,n,rfl,rfl,hne,h1,h2,hz,q⟩:=q;have ey:=aJ r2;subst ey
 cases(show Rep X.K F x (.tuple xs)from r1)with
 | @tup a vs _ sq rs =>
   refine⟨a,n,vs,rfl,rfl,dJ s sq,fun z=>hne ?_,h1,h2,by rw[rs.length];exact hz,fun e=>?_,fun e p hp=>?_⟩
   · subst z;cases rs;rfl
   · subst e;have e1:(I0 (K4 1) xs).flatten=xs:=by simp
     rw[e1]at q;exact k _ (.d (.tuple xs)) _ _ (Grow.refl s ra) (.tup sq rs) trivial q
   · have g:=Grow.data (a:=p) (o:=.tup (I0 n.toNat vs).flatten) s ra hp;exact k _ (.d _) _ _ g (.tup (.inl (.inl ax)) ((rs.repl n.toNat).mono g.fs)) trivial q
theorem uo(ha:PV X rl a fa)(hb:PV X rl b fb):PV X rl (.BinOp a .Mult b pos) (FO tQ fa fb):=gW wS vD ha hb
def Co:W->W->(W->Prop)->Prop:=fun x y Q=>∃xs ys,x = .d (.tuple xs)/\y = .d (.tuple ys)/\xs≠[]/\xs.length+ys.length<=sizeLine/\Q (.d (.tuple (xs++ys)))
theorem vG:Hw X rl (wz X.K) Co:=fun{F H x y wx wy} Qd Q s ra r1 r2 q k=>by
 obtain⟨xs,ys,rfl,rfl,hne,hz,q⟩:=q
 cases(show Rep X.K F x (.tuple xs)from r1)with
 | @tup a vs _ sq rs =>
   cases(show Rep X.K F y (.tuple ys)from r2)with
   | @tup b us _ sq2 rs2 =>
     refine⟨a,b,vs,us,rfl,rfl,dJ s sq,dJ s sq2,fun z=>hne ?_,by rw[rs.length,rs2.length];exact hz,fun e=>?_,fun e p hp=>?_⟩
     · subst z;cases rs;rfl
     · subst e;cases rs2;rw[KO]at q;exact k _ (.d (.tuple xs)) _ _ (Grow.refl s ra) (.tup sq rs) trivial q
     · have g:=Grow.data (a:=p) (o:=.tup (vs++us)) s ra hp;exact k _ (.d _) _ _ g (.tup (.inl (.inl ax)) ((rs.append rs2).mono g.fs)) trivial q
end
end L2.VL
namespace L2
section
variable{X:Cx}
def zm(K:W.Frag):R2:=fun x y H Q=>∃a b ys,x = .ref a/\y = .ref b/\HG K H a []/\HG K H b ys/\Q (.ref b) H
theorem wX:H_ X (LD .Add) (zm X.K):=by
 intro pins s σ H x y v u Q I rx ry h;obtain⟨a,b,ys,rfl,rfl,ha,hb,q⟩:=h;cases rx;cases ry;obtain⟨its,r1,p1,_⟩:=I.tuple ha;obtain⟨its2,r2,p2,_⟩:=I.tuple hb;cases r1;obtain⟨⟨c1,d1,e1,sl1⟩,ho,hc,n,hd⟩:=p1;obtain⟨⟨c2,d2,e2,sl2⟩,ho2,hc2,n2,hd2⟩:=p2;cases hc;cases hd;cases hc2;cases hd2
 exact Pf ⟨_,ho,rfl⟩ ⟨_,ho2,rfl⟩ LX MB K3 KP (KJ _ _)
  (tuple_addW0 a b _ its2.toArray n n2 d1 d2 sl1 sl2 rfl) ⟨ho,ho2,⟨.ref b,H,I,rfl,q⟩⟩
def wA(K:W.Frag):R2:=fun x y H Q=>wz K x y H Q\/zm K x y H Q
theorem wW:H_ X (LD .Add) (wA X.K):=fun pins s σ H x y v u Q I rx ry h=>h.elim (wV pins s σ H x y v u Q I rx ry) (wX pins s σ H x y v u Q I rx ry)
section
variable{prog:Ju}{w:J_}{A:Kh}{E:IR->IW->Prop}{s:IW}
end
end
end L2
namespace L2.VL
section
variable{X:Cx}{rl:RlT}{a b c e:Expr}{es:List Expr}{fa fb fc:TV}{fs:HA}{pos p p2:Pos}
def qG:W->W->(W->Prop)->Prop:=fun x y Q=>∃xs ys,x = .d (.tuple xs)/\y = .d (.tuple ys)/\xs.length+ys.length<=sizeLine/\Q (.d (.tuple (xs++ys)))
theorem oh:Hw X rl (wA X.K) qG:=fun{F H x y wx wy} Qd Q s ra r1 r2 q k=>by
 obtain⟨xs,ys,rfl,rfl,hz,q⟩:=q;by_cases hx:xs=[]
 · subst hx
   cases(show Rep X.K F x (.tuple [])from r1)with
   | @tup a vs _ sq rs =>
     cases rs
     cases(show Rep X.K F y (.tuple ys)from r2)with
     | @tup b us _ sq2 rs2=>exact .inr ⟨a,b,us,rfl,rfl,dJ s sq,dJ s sq2,k _ (.d (.tuple ys)) _ _ (Grow.refl s ra) (.tup sq2 rs2) trivial q⟩
 · exact .inl (vG Qd Q s ra r1 r2 ⟨xs,ys,rfl,rfl,hx,hz,q⟩ k)
theorem lF(ha:PV X rl a fa)(hb:PV X rl b fb):PV X rl (.BinOp a .Add b pos) (FO qG fa fb):=gW wW oh ha hb
theorem lP{K:W.Frag}{F:Hp}:∀{vs:List V}{ns:List Int},Reps K F vs (ns.map .int)->vs=ns.map V.int
 | _,[],h=>h.nil_iff
 | _,n::ns,.cons h r=>by rw[aJ h,lP r];rfl
end
end L2.VL
namespace L2.TO
section
variable{prog:Ju}{w:J_}{A:Kh}{E:IR->IW->Prop}{s:IW}
theorem nl(n:Nat):Kq ((n:Int)-1) (-1) (-1)=n:=by
 unfold Kq;rw[if_neg (by decide)];by_cases h:n=0
 · subst h;decide
 · rw[if_pos (by omega),show(- -1:Int)=1 by decide,Pg];omega
theorem lr{sl:Addr}{vk:IR}{Q:Int×Int×Nat->IW->Prop}(hs:s.heap.IsSliceOf sl .none .none vk)(pk:Oj vk (some (-1)))
 (h:Q ((n:Int)-1,-1,n) s):Jn (Jv prog w) A (Lq (.ref sl) (pure (n:Int))) Q E s:=by
 obtain⟨o1,hos,_,hds⟩:=hs;unfold Lq NL;refine IK (IK (JM hos hds (x:=.none) rfl (IK (JM hos hds (x:=.none) rfl (IK (JM hos hds (x:=vk) rfl (IU ?_)))))));refine IK (HT.slicePart_ pk ?_);show Jn _ _ (if((-1:Int)==0)=true then _ else _) _ _ s;rw[if_neg (by decide)];refine IK (HT.slicePart_ .none (IK (HT.slicePart_ .none (IK (IU ?_)))));show Jn _ _ (pure ((n:Int)-1,(-1:Int),Kq ((n:Int)-1) (-1) (-1))) _ _ s;rw[nl];exact IU h
theorem sN(xs:Array IR):((Jq xs.size).filterMap fun(k:Nat)=>xs[((xs.size:Int)-1+(k:Int) * -1).toNat]?).toArray=xs.toList.reverse.toArray:=by
 have e:(fun(k:Nat)=>xs[((xs.size:Int)-1+(k:Int) * -1).toNat]?)=fun k=>xs[xs.size-1-k]?:=by
  funext k;have:((xs.size:Int)-1+(k:Int) * -1).toNat=xs.size-1-k:=by omega
  rw[this]
 rw[e];have e2:(Jq xs.size).filterMap (fun k=>xs[xs.size-1-k]?)=((Jq xs.size).map fun k=>xs.size-1-k).filterMap (xs[·]?):=by rw[List.filterMap_map];rfl
 rw[e2,W.krv_range,List.filterMap_reverse,W.krv_all]
theorem get_rev{sl:Addr}{items:Array IR}{vk:IR}(ht:Oh s.heap t items)(hs:s.heap.IsSliceOf sl .none .none vk)(pk:Oj vk (some (-1)))
 (h:Q (.ref s.heap.objs.size) {s with heap:=s.heap.push {cls:=.type "tuple", data:=.seq items.toList.reverse.toArray}})
 (hsz:items.size<=sizeLine):Jn (Jv prog w) A (Nk (.ref t) (.ref sl)) Q E s:=by
 have hz:sizeOk (.seq items.toList.reverse.toArray):=by
  show items.toList.reverse.toArray.size<=sizeLine;rw[Je,Ms,Mr];exact hsz
 have ty:s.TypeIs (.ref sl) "slice" := let ⟨o,h1,h2,_⟩:=hs;⟨o,h1,h2⟩
 have key:Jn (Jv prog w) A (call (.builtin "tuple.__getitem__") [.ref t,.ref sl]) Q E s:=by
  refine Kd Jw ht.typeIs entry_tuple_getitem ?_ (Nz _ _);show Jn _ _ (Lr (.ref t) >>= _) _ _ s;refine IK (MC ht (IK (NA ty ?_)));rw[if_pos (by decide)];refine IK (lr hs pk ?_);show Jn _ _ (if((items.size:Int)-1==0&&(-1:Int)==1&&items.size==items.size)=true then _ else _) _ _ s;rw[if_neg (by simp),sN]
  first
   | exact IK (m:=JX _) (JC (IU ⟨_,rfl,h⟩) hz)
   | exact IK (m:=JX _) (JC (IK (IU (IU ⟨_,rfl,h⟩))) hz)
   | exact IK (IK (m:=JX _) (JC (IU (IU ⟨_,rfl,h⟩)) hz))
   | exact IK (IK (m:=JX _) (JC (IU ⟨_,rfl,h⟩) hz))
 unfold Nk;try with_reducible refine Lv ?_
 first|exact IK (IU (IK (Md ht.typeIs (by decide) (IK (JG (name:=Str.ofString "__getitem__") ht.typeIs Jw (FX key fun v s' q=>IU q))))))|exact IK (Md ht.typeIs (by decide) (IK (JG (name:=Str.ofString "__getitem__") ht.typeIs Jw (FX key fun v s' q=>IU q))))
end
end L2.TO
namespace L2
section
variable{X:Cx}{a b e:Expr}{ta:TA}{te:TE}{p p2 q pos pos2:Pos}
def BF(K:W.Frag)(te:TE):TE:=fun σ H Q=>te σ H fun x H1=>∃a xs,x = .ref a/\HG K H1 a xs/\∀l,H1 l=none->Q (.ref l) (upd H1 l (.tup xs.reverse))
theorem wO{p3 p4:Pos}(he:PE X e te):PE X (.Subscript e (.Slice none none (some (.UnaryOp .USub (.Constant (.int 1) j p3) p4)) p2) pos) (BF X.K te):=by
 intro pins s σ H Q I h;refine O9 (FX (he pins s σ H _ I h) fun v s1 ⟨x,H1,I1,r1,q1⟩=>?_);obtain⟨a,xs,rfl,hq,q⟩:=q1;cases r1;refine wpAny_Slice ?_;rw[O2];refine IU (IU ?_);refine FX (pO (X:=X) (zF uA dO) pins s1 σ H1 (fun o H=>o=some (-1)/\H=H1) I1 ⟨1,rfl,-1,rfl,rfl,rfl⟩) fun vk s3 ⟨o,H3,I3,pk,eo,eH⟩=>?_;subst eo eH;have I4:Inv X pins σ H3 {s3 with heap:=s3.heap.push {cls:=.type "slice", data:=.fields #[.none,.none,vk]}}:=I3.kept (t':=s3.toks) fun b ob q=>IQ _ q;obtain⟨its,rv,p,hz⟩:=I4.tuple hq;have hl:=rv.length;refine tail_any (ops:=[.ref a,.ref s3.heap.objs.size]) p.typeIs Jw.lookup ?_ (by with_unfolding_all rfl);refine TO.get_rev p (Heap.IsSliceOf.new ..) pk ?_ (by rw[Je]<;>omega);refine⟨.ref _,_,I4.laid (t':=s3.toks) (o:=.tup xs.reverse) (fun b ob q=>IQ _ q) (I_ _) ?_,rfl,q _ (I4.hok.fresh (I_ _))⟩;exact⟨by rw[Ms];exact hz,its.reverse,rv.reverse,rL.new _ _⟩
end
end L2
namespace L2.VL
section
variable{X:Cx}{rl:RlT}{a b c e:Expr}{es:List Expr}{fa fb fc:TV}{fs:HA}{pos pos2 p q p2:Pos}
def vQ(fa:TV):TV:=fun ρ Q=>fa ρ fun w=>∃xs,w = .d (.tuple xs)/\Q (.d (.tuple xs.reverse))
theorem yA{p3 p4:Pos}(ha:PV X rl e fa):PV X rl (.Subscript e (.Slice none none (some (.UnaryOp .USub (.Constant (.int 1) j p3) p4)) p2) pos) (vQ fa):=by
 obtain⟨t,p1,k⟩:=ha;refine⟨_,wO p1,fun R Qd Q q h=>k R _ _ q fun v w F1 H1 g1 r1 n1 ⟨xs,ew,q1⟩=>?_⟩;subst ew
 cases(show Rep X.K F1 v (.tuple xs)from r1)with
 | @tup a vs _ sq rs =>
   refine⟨a,vs,rfl,dJ g1.sub sq,fun l hl=>?_⟩;have g:=Grow.data (a:=l) (o:=.tup vs.reverse) g1.sub g1.reel hl;exact h _ (.d _) _ _ (g1.trans g) (.tup (.inl (.inl ax)) (rs.rev.mono g.fs)) trivial q1
end
end L2.VL
namespace L2.TW
section
variable{prog:Ju}{w:J_}{A:Kh}{E:IR->IW->Prop}{s:IW}
theorem get_whole{sl:Addr}{items:Array IR}{vl vu:IR}{lo hi:Option Int}(ht:Oh s.heap t items)(hs:s.heap.IsSliceOf sl vl vu .none)(pl:Oj vl lo)(pu:Oj vu hi)
 (hw:HT.sIx items.size 0 lo=0/\HT.sIx items.size items.size hi=items.size)(h:Q (.ref t) s):Jn (Jv prog w) A (Nk (.ref t) (.ref sl)) Q E s:=by
 have ty:s.TypeIs (.ref sl) "slice" := let ⟨o,h1,h2,_⟩:=hs;⟨o,h1,h2⟩
 have key:Jn (Jv prog w) A (call (.builtin "tuple.__getitem__") [.ref t,.ref sl]) Q E s:=by
  refine Kd Jw ht.typeIs entry_tuple_getitem ?_ (Nz _ _);show Jn _ _ (Lr (.ref t) >>= _) _ _ s;refine IK (MC ht (IK (NA ty ?_)));rw[if_pos (by decide)];refine IK (HT.sliceApplied_gen hs pl pu ?_);rw[hw.1,hw.2,NF];show Jn _ _ (if(((0:Nat):Int)==0&&(1:Int)==1&&items.size==items.size)=true then _ else _) _ _ s;rw[if_pos (by simp)];unfold Mj;refine IK (IK (NA ht.typeIs (IU ?_)));rw[if_pos (by decide)];exact IK (Mc (IK (IU (IU ⟨_,rfl,h⟩))))
 unfold Nk;try with_reducible refine Lv ?_
 first|exact IK (IU (IK (Md ht.typeIs (by decide) (IK (JG (name:=Str.ofString "__getitem__") ht.typeIs Jw (FX key fun v s' q=>IU q))))))|exact IK (Md ht.typeIs (by decide) (IK (JG (name:=Str.ofString "__getitem__") ht.typeIs Jw (FX key fun v s' q=>IU q))))
end
end L2.TW
namespace L2
section
variable{X:Cx}
def EG(K:W.Frag):V->Option Int->Option Int->Hp->VK->Prop:=fun x lo hi H Q=>DV K x lo hi H Q\/∃a xs,x = .ref a/\HG K H a xs/\(HT.sIx xs.length 0 lo=0/\HT.sIx xs.length xs.length hi=xs.length)/\Q (.ref a) H
theorem wa:HK X (EG X.K):=by
 intro pins s σ H x v vl vu lo hi sl Q I rx hs pl pu h;rcases h with h|⟨a,xs,rfl,hx,hw,q⟩
 · exact y7 pins s σ H x v vl vu lo hi sl Q I rx hs pl pu h
 · cases rx;obtain⟨its,r,ht,hz⟩:=I.tuple hx;have hlen:its.toArray.size=xs.length:=by rw[Je];exact r.length.symm
   exact⟨"tuple", _,Jw.lookup,ht.typeIs,TW.get_whole ht hs pl pu (by rw[hlen];exact hw) ⟨.ref a,H,I,rfl,q⟩⟩
end
end L2
namespace L2.VL
section
variable{X:Cx}{rl:RlT}{a b c e:Expr}{es:List Expr}{fa fb fc:TV}{fs:HA}{pos p p2:Pos}
theorem qP{l u:Option Int}(h:HT.sIx xs.length 0 l=0/\HT.sIx xs.length xs.length u=xs.length):cutD xs l u=xs:=by
 unfold cutD;rw[h.1,h.2];simp
def Bq(fa:TV)(fl fh:HC):TV:=fun ρ Q=>fa ρ fun w=>fl ρ fun l=>fh ρ fun h=>∃xs,w = .d (.tuple xs)/\Q (.d (.tuple (cutD xs l h)))
theorem mQ{lo hi:Option Expr}{fl fh:HC}(ha:PV X rl a fa)(hl:HP X rl lo fl)(hh:HP X rl hi fh):PV X rl (.Subscript a (.Slice lo hi none p2) pos) (Bq fa fl fh):=by
 obtain⟨t,p,k⟩:=ha;obtain⟨tl,pl,kl⟩:=hl;obtain⟨th,ph,kh⟩:=hh;refine⟨_,lU wa p pl ph,fun R Qd Q q h=>k R _ _ q fun v w F1 H1 g1 r1 n1 q1=>?_⟩;refine kl (R.grow g1) _ _ q1 fun l F2 H2 g2 q2=>kh ((R.grow g1).grow g2) _ _ q2 fun u F3 H3 g3 q3=>?_;obtain⟨xs,rfl,q3⟩:=q3;have r3:=(r1.grow g2).grow g3;have g:=(g1.trans g2).trans g3
 cases(show Rep X.K F3 v (.tuple xs)from r3)with
 | @tup a vs _ sq rs =>
   by_cases hw:HT.sIx xs.length 0 l=0/\HT.sIx xs.length xs.length u=xs.length
   · rw[qP hw]at q3;exact .inr ⟨a,vs,rfl,dJ g3.sub sq,by rw[rs.length];exact hw,h _ (.d _) _ _ g (.tup sq rs) trivial q3⟩
   · refine .inl ⟨a,vs,rfl,dJ g3.sub sq,by rw[rs.length];exact hw,fun p hp=>?_⟩;have g':=Grow.data (a:=p) (o:=.tup (t6 vs l u)) g3.sub g3.reel hp;exact h _ (.d _) _ _ (g.trans g') (.tup (.inl (.inl ax)) ((rs.cut l u).mono g'.fs)) trivial q3
end
end L2.VL
namespace L2
abbrev E5(D:List (Str×Int)):List (IJ×IJ):=(D.map fun q=>(q.1,Jl q.2)).map fun q=>(IJ.str q.1,q.2)
section
variable{X:Cx}{e:Expr}{ty:TE}{px apos cpos:Pos}
end
end L2
namespace L2.VL
section
variable{X:Cx}{rl:RlT}{a b c e:Expr}{es:List Expr}{fa fb fc:TV}{fs:HA}{pos p p2 px apos cpos:Pos}
end
end L2.VL
set_option exponentiation.threshold 10000
namespace L2.VL
noncomputable def x8(a b:Int):IJ:=.tuple [.int (a.fdiv (LL a b)),.int (b.fdiv (LL a b))]
theorem qD{a:Int}(hb:0<b)(z:b.natAbs<2^8000)(i:Int):g_ i (LL a b:Int):=by
 have h1:=xx (a:=a) (b:=b) (by omega);have h2:=At (a:=a) (b:=b) (by omega);exact⟨by omega,Lw (by omega) (Jh z (JK (by decide) (by decide)))⟩
structure IsEx (b:Int) (p:List Int):Prop where
 len:p.length=b.toNat
 zero:p.head?=some 0
 nd:p.Nodup
 rng:∀x∈p,0<=x/\x<b
def Hb(p:List Int):IJ:=.tuple (p.map .int)
def tG(lo:Int)(n:Nat):List Int:=(Jq n).map fun(i:Nat)=>lo+i
theorem tF{lo x:Int}:x∈tG lo n↔lo<=x/\x<lo+n:=by
 unfold tG;simp only[Jo,Ko];constructor
 · rintro⟨k,hk,rfl⟩;omega
 · rintro⟨h1,h2⟩;exact⟨(x-lo).toNat,by omega,by omega⟩
theorem la(lo:Int)(n:Nat):(tG lo n).length=n:=by simp[tG]
def AU(bs:List Int):Prop:=bs.length=4/\(∀b∈bs,2<=b/\b<=16)/\bs.Pairwise fun x y=>LL x y=1
instance (bs:List Int):Decidable (AU bs):=by unfold AU;infer_instance
theorem f_{d:Nat}{k:Int}(h:0<=k):HT.sIx n d (some k)=min k.toNat n:=by
 obtain⟨m,rfl⟩:=JS h;exact HT.sIx_nat n d m
theorem mD{k:Int}(h:0<=k):cutD xs (some k) none=xs.drop k.toNat:=by
 unfold cutD;rw[f_ h,HT.sIx_none];by_cases hk:k.toNat<=xs.length
 · rw[L7 hk];exact JO (by simp)
 · rw[LY (by omega),Lc,K5 (by omega)];simp
theorem u0{k:Int}(h:0<=k):cutD xs none (some k)=xs.take k.toNat:=by
 unfold cutD;rw[f_ h,HT.sIx_none,NN,NF];by_cases hk:k.toNat<=xs.length
 · rw[L7 hk]
 · rw[LY (by omega),JO (I_ _),JO (by omega)]
theorem wn:∀{cs:List Int}{ds:List IJ},Kx (fun x d=>∃b p,x = .int b/\d = .tuple [.int b,Hb p]/\IsEx b p) (cs.map Jl) ds->∃rows:List (Int×List Int),ds=rows.map (fun r=>.tuple [.int r.1,Hb r.2])/\rows.map (·.1)=cs/\∀r∈rows,IsEx r.1 r.2
 | [],_,h=>by cases h;exact⟨[],rfl,rfl,fun _ z=>nomatch z⟩
 | c::cs,_,h=>by
   cases h with
   | cons h r =>
     obtain⟨b,p,e1,e2,ex⟩:=h;cases e1;obtain⟨rows,h1,h2,h3⟩:=wn r;refine⟨(c,p)::rows,by simp[e2,h1],by simp[h2],fun r hr=>?_⟩;rcases JV.mp hr with rfl|hr
     · exact ex
     · exact h3 r hr
noncomputable def pr(a b:Int):IJ:=.tuple [.int a,.int b]
theorem e8(h:1<=b)(hij:i<=j):b^i<=b^j:=by
 induction hij with
 | refl=>exact N3 _
 | step _ ih =>
   rw[KY];have:0<=b^i:=M1 (J6 (by omega))
   exact Pj ih (by
    rename_i m _;have hm:0<b^m:=J6 (by omega);have:=M5 h (M1 hm)
    omega)
theorem iN{a b:Int}(h0:0<=a)(h:a<=b):∀k:Nat,a^k<=b^k
 | 0=>by simp
 | k+1=>by
   rw[KY,KY];exact Int.mul_le_mul (iN h0 h k) h h0 (Int.pow_nonneg (by omega))
theorem hU{b:Int}(h:2<=b):∀k:Nat,(2:Int)^k<=b^k
 | 0=>by simp
 | k+1=>by
   rw[KY,KY];have:=hU h k;have h0:(0:Int)<=2^k:=M1 (J6 (by omega))
   calc (2:Int)^k*2<=b^k*2:=LP this (by omega)
    _<=b^k*b:=M5 h (by omega)
theorem GlK.pair{K:W.Frag}{x:Str}{a:Int}{p:Addr}{sl:Array (Option IR)}{t u:Tok}(h1:W.nsIn K J4 x=some (some (.ref p)))
 (h2:K.lookup p=some ⟨.type "tuple", none,.seq #[.int a t,.int b u] n,sl⟩):GlK K x (pr a b):=by
 refine⟨.ref p,.ref p,h1,rfl,fun F=>.tup (vs:=[.int a,.int b]) (.inr ⟨_,_,n,h2,rfl,rfl,(by show 2<=sizeLine;decide),.cons ⟨t,rfl⟩ (.cons ⟨u,rfl⟩ .nil),rfl⟩) (.cons (.int a) (.cons (.int b) .nil))⟩
end L2.VL
set_option exponentiation.threshold 10000
namespace L2.VL
noncomputable def digs(b n:Nat):List Nat:=if h:2<=b/\0<n then(n%b)::digs b (n / b)else []
termination_by n
decreasing_by exact Oq h.2 h.1
theorem eQ(b:Nat):digs b 0=[]:=by unfold digs;simp
theorem fN{b:Nat}(hb:2<=b)(hn:0<n):digs b n=(n%b)::digs b (n / b):=by
 rw[digs];simp[hb,hn]
theorem xI{b:Nat}(hb:2<=b):∀n:Nat,∀a∈digs b n,a<b:=by
 intro n
 induction n using Os with
 | ind n ih =>
   intro a ha;by_cases hn:0<n
   · rw[fN hb hn]at ha;rcases JV.mp ha with rfl|ha
     · exact Nat.mod_lt _ (by omega)
     · exact ih (n / b) (Oq hn hb) a ha
   · have:n=0:=by omega
     subst this;rw[eQ]at ha;cases ha
noncomputable def stepT(b:Int)(p:List Int)(t:Int)(a:Nat):Int:=t*b+p.getD a 0
theorem xH{n:Int}(hb:0<=b)(hn:0<=n):n / b=((n.toNat / b.toNat:Nat):Int):=by
 obtain⟨k,rfl⟩:=JS hb;obtain⟨m,rfl⟩:=JS hn;simp
theorem sZ{n:Int}(hb:0<=b)(hn:0<=n):n%b=((n.toNat%b.toNat:Nat):Int):=by
 obtain⟨k,rfl⟩:=JS hb;obtain⟨m,rfl⟩:=JS hn;simp
def FR:IJ->Int
 | .int i=>i
 | _=>0
section
variable{P:Ju}{w:J_}{K:W.Frag}{mg:Str->Option IR}{base:Heap}{rl:RlT}{x:Str}{st:Stmt}{N ps:List Str}{k:Nat}{Pd:List W->(List IJ->Prop)->Prop}{t:HB}
end
section
variable{X:Cx}{rl:RlT}{a b c e:Expr}{es:List Expr}{fa fb fc:TV}{fs:HA}{pos p p2 px apos cpos:Pos}
noncomputable def rM:Ie->IJ
 | .inl i=>.int i
 | .inr x=>.str x
end
end L2.VL
namespace L2.IX
section
variable{prog:Ju}{w:J_}{A:Kh}{E:IR->IW->Prop}{s:IW}
end
end L2.IX
namespace L2
section
variable{X:Cx}
end
end L2
namespace L2.VL
section
variable{X:Cx}{rl:RlT}{a b c e:Expr}{es:List Expr}{fa fb fc:TV}{fs:HA}{pos p p2 px apos cpos:Pos}
noncomputable def ii:IJ->Bool
 | .none=>true
 | _=>false
def A_(neg:Bool):W->W->(W->Prop)->Prop:=fun x y Q=>∃d,x.dat=some d/\y = .d .none/\Q (.d (.bool (if neg then !ii d else ii d)))
theorem pD{K:W.Frag}(h:Rep K F v d):decide (v=V.non)=ii d:=by
 cases h<;>first|rfl|exact decide_eq_false (fun z=>by cases z)
theorem yo:Hw X rl (fun x y H Q=>y = .non/\Q (.bl (decide (x = .non))) H) (A_ false):=fun{F H x y wx wy} Qd Q s ra r1 r2 q k=>by
 obtain⟨d,e1,rfl,q⟩:=q;have e2:y = .non:=by cases(show Rep X.K F y .none from r2);rfl
 refine⟨e2,?_⟩;rw[pD (r1.dat s e1)];exact k _ (.d _) _ _ (Grow.refl s ra) (.bl _) trivial q
theorem og:Hw X rl (fun x y H Q=>y = .non/\Q (.bl (!decide (x = .non))) H) (A_ true):=fun{F H x y wx wy} Qd Q s ra r1 r2 q k=>by
 obtain⟨d,e1,rfl,q⟩:=q;have e2:y = .non:=by cases(show Rep X.K F y .none from r2);rfl
 refine⟨e2,?_⟩;rw[pD (r1.dat s e1)];exact k _ (.d _) _ _ (Grow.refl s ra) (.bl _) trivial q
def tR:W->W->(W->Prop)->Prop:=fun x y Q=>∃xs k,x.dat=some (.list xs)/\y = .d (.int k) /\ -(2^63)<=k/\k<2^63/\xs.length*k.toNat<=sizeLine/\Q (.ml (I0 k.toNat xs).flatten)
theorem zf{K:W.Frag}{F:Hp}{vs:List V}{ds:List IJ}(r:Reps K F vs ds):∀n:Nat,Reps K F (I0 n vs).flatten (I0 n ds).flatten
 | 0=>.nil
 | n+1=>by rw[Jx,Jx,Kr,Kr];exact r.append (zf r n)
theorem vE:Hw X rl DW tR:=fun{F H x y wx wy} Qd Q s ra r1 r2 q k=>by
 obtain⟨xs,n,e1,rfl,h1,h2,hz,q⟩:=q;have ey:=aJ r2;subst ey;obtain⟨a,vs,rfl,hh,rs⟩:=r1.lst s e1;refine⟨a,n,vs,rfl,rfl,hh,h1,h2,by rw[rs.length];exact hz,fun p hp=>?_⟩;exact k _ (.ml _) _ _ (Grow.laid s ra hp) (dG s ra hp (zf rs n.toNat)) (fun a ea=>by cases ea;exact hp) q
theorem uq(ha:PV X rl a fa)(hb:PV X rl b fb):PV X rl (.BinOp a .Mult b pos) (FO tR fa fb):=gW zT vE ha hb
end
end L2.VL
namespace L2.ZP
section
variable{prog:Ju}{w:J_}{A:Kh}{E:IR->IW->Prop}{s:IW}{it a:Addr}{k:Nat}{xs:Array IR}{v:IR}
theorem v7(st:s.heap.IsTupleIter it a k)(tu:s.heap.IsTuple a xs)(e:xs[k]?=some v)
 (q:∀g,g.IsTupleIter it a (k+1)->Lg it s.heap g->Q v {s with heap:=g}):Jn (Jv prog w) A (JT (.ref it)) Q E s:=by
 have ty:=st.typeIs;obtain⟨o,oe,oc,od⟩:=st;obtain⟨l,le,_,_,ld⟩:=tu;unfold JT;have sl:=F.slot_tuple_iterator_next;refine IK (JG (name:=Str.ofString "__next__") ty sl (Kd sl ty F.entry_tuple_iterator_next ?_ (F.args_tuple_iterator_next_1 _)));show Jn _ _ (do let z <- PD (.ref it) 0;_) _ _ s;refine IK (JM oe od (x:=.ref a) rfl ?_);show Jn _ _ (ite ((Lj a==LZ)=true) _ _) _ _ s;rw[if_neg (show ¬(Lj a == .none)=true by intro z;cases z)];show Jn _ _ (do let z <- PD (.ref it) 1;_) _ _ s;refine IK (JM oe od (x:=.int k 0) rfl ?_);show Jn _ _ (do let z <- seqItems? (.ref a);_) _ _ s;refine IK (LC le ld ?_);simp only[JR,e];refine IK (MW oe od (by simp) (IU ⟨v,rfl,IU (q _ ?_ (LW ..))⟩));refine⟨_,L5 _ oe (M2 (Lx od _)),?_,?_⟩
 · exact(Obj.cls_mapFields ..).trans oc
 · rw[Lx od];simp[ML]
theorem yP(hd:A.handled=none)(st:s.heap.IsTupleIter it a k)(tu:s.heap.IsTuple a xs)(e:xs[k]?=none)
 (q:∀g x,OT it s.heap g->(∃o,g.get? x=some o/\o.cls = .type "StopIteration")->E (.ref x) {s with heap:=g}):Jn (Jv prog w) A (JT (.ref it)) Q E s:=by
 have ty:=st.typeIs;obtain⟨o,oe,oc,od⟩:=st;obtain⟨l,le,_,_,ld⟩:=tu;unfold JT;have sl:=F.slot_tuple_iterator_next;refine IK (JG (name:=Str.ofString "__next__") ty sl (Kd sl ty F.entry_tuple_iterator_next ?_ (F.args_tuple_iterator_next_1 _)));show Jn _ _ (do let z <- PD (.ref it) 0;_) _ _ s;refine IK (JM oe od (x:=.ref a) rfl ?_);show Jn _ _ (ite ((Lj a==LZ)=true) _ _) _ _ s;rw[if_neg (show ¬(Lj a == .none)=true by intro z;cases z)];show Jn _ _ (do let z <- PD (.ref it) 1;_) _ _ s;refine IK (JM oe od (x:=.int k 0) rfl ?_);show Jn _ _ (do let z <- seqItems? (.ref a);_) _ _ s;refine IK (LC le ld ?_);simp only[JR,e];refine IK (Mc (IK (MW oe od (by simp) ?_)));show Jn _ _ (do let z <- newExc (.type "StopIteration") [];_) _ _ _;refine IK ?_;simp only[newExc,newTuple];refine IK (JC ?_ (by size_fits));refine IK (m:=NO _ _) (LB (a:=.none) (by first|rfl|(simp only[NO];rfl)) (JC ?_ (by size_fits)));simp only[raiseNew];refine IK (wpAny_handled ?_)
 first
  | rw[show A.in1.handled=none from hd]
  | rw[hd]
 refine IK (IU (wpAny_throw ?_));exact q _ _ (((LW ..).extBut.push _).push _) ⟨_,Jf _ rfl,rfl⟩
end
def Iu(h:Heap)(it a:Addr)(xs:Array IR)(k:Nat):Prop:=(h.IsListIter it a k/\h.IsList a xs)\/(h.IsTupleIter it a k/\h.IsTuple a xs)
section
variable{prog:Ju}{w:J_}{A:Kh}{E:IR->IW->Prop}{s:IW}{it a:Addr}{k:Nat}{xs:Array IR}{v:IR}
theorem Iu.item(st:Iu s.heap it a xs k)(ne:a≠it)(e:xs[k]?=some v)
 (q:∀g,Iu g it a xs (k+1)->Lg it s.heap g->Q v {s with heap:=g}):Jn (Jv prog w) A (JT (.ref it)) Q E s:=by
 rcases st with⟨h1,h2⟩|⟨h1,h2⟩
 · exact wpAny_nextOf_list_item h1 h2 e fun g h3 h4=>q g (.inl ⟨h3,h2.extBut h4.extBut ne⟩) h4
 · exact v7 h1 h2 e fun g h3 h4=>q g (.inr ⟨h3,h2.extBut h4.extBut ne⟩) h4
theorem Iu.fin(hd:A.handled=none)(st:Iu s.heap it a xs k)(e:xs[k]?=none)
 (q:∀g x,OT it s.heap g->(∃o,g.get? x=some o/\o.cls = .type "StopIteration")->E (.ref x) {s with heap:=g}):Jn (Jv prog w) A (JT (.ref it)) Q E s:=by
 rcases st with⟨h1,h2⟩|⟨h1,h2⟩
 · exact wpAny_nextOf_list_end hd h1 h2 e q
 · exact yP hd h1 h2 e q
theorem Iu.keep(st:Iu h it a xs k)(e1:∀o,h.get? it=some o->h'.get? it=some o)(e2:∀o,h.get? a=some o->h'.get? a=some o):Iu h' it a xs k:=by
 rcases st with⟨⟨o,h1,r1⟩,⟨p,h2,r2⟩⟩|⟨⟨o,h1,r1⟩,⟨p,h2,r2⟩⟩
 · exact .inl ⟨⟨o,e1 _ h1,r1⟩,⟨p,e2 _ h2,r2⟩⟩
 · exact .inr ⟨⟨o,e1 _ h1,r1⟩,⟨p,e2 _ h2,r2⟩⟩
end
section
variable{prog:Ju}{w:J_}{A:Kh}{E:IR->IW->Prop}{s:IW}{z ti to i1 i2 a1 a2:Addr}{k1 k2:Nat}{xs ys:Array IR}{x y p q:IR}
theorem SameBut.keep{b:Addr}(sb:Lg a h h')(ne:b≠a):∀o,h.get? b=some o->h'.get? b=some o:=fun o e=>sb.extBut _ _ ne e
theorem vj(D:ZipApart z ti to i1 i2 a1 a2)(oz:Pb s.heap z ti to .none)(oi:No s.heap ti (.ref i1) (.ref i2))(oo:No s.heap to p q)
 (s1:Iu s.heap i1 a1 xs k1)(s2:Iu s.heap i2 a2 ys k2)(ex:xs[k1]?=some x)(ey:ys[k2]?=some y)
 (done:∀g,Pb g z ti to (ML s.heap.objs.size)->No g to x y->Iu g i1 a1 xs (k1+1)->Iu g i2 a2 ys (k2+1)->No g s.heap.objs.size x y->g.objs.size=s.heap.objs.size+1 ->
  (∀b o,b≠z->b≠to->b≠i1->b≠i2->s.heap.get? b=some o->g.get? b=some o)->Q (.ref s.heap.objs.size) {s with heap:=g}) :
 Jn (Jv prog w) A (Builtin.«zip.__next__» ⟨[.ref z],[]⟩) (fun r s'=>∃u,r = .done (.ret u)/\Q u s') E s:=by
 show Jn _ _ (do let c <- PD (.ref z) 2;_) _ _ _;refine IK (JM oz rfl (x:=.bool false) rfl ?_);show Jn _ _ (do let c <- PD (.ref z) 3;_) _ _ _;refine IK (JM oz rfl (x:=.ref ti) rfl ?_);refine IK (LC oi rfl ?_);show Jn _ _ (do let c <- J3 (.ref z);_) _ _ _;refine IK ?_;unfold J3;refine IK (JM oz rfl (x:=LZ) rfl (IU ?_));simp only[if_true];refine IK (Mc (IK (JM oz rfl (x:=.ref to) rfl (IK (Kg oz (by simp) fun g1 z1 b1=>?_)))));have z1:Pb g1 z ti to .ellipsis:=z1;refine IK ?_;simp only[ME,List.forIn_nil,List.zipIdx_cons,List.zipIdx_nil];have s1a:Iu g1 i1 a1 xs k1:=s1.keep (SameBut.keep b1 D.i1z) (SameBut.keep b1 D.l1z);refine IK (IK (N4 ?_));show Jn _ _ (do let c <- JT (.ref i1);_) _ _ _;refine IK (s1a.item D.l1i1 ex fun g2 s1b b2=>IU ?_);have o2:No g2 to p q:=b2.extBut _ _ D.TOi1 (b1.extBut _ _ D.TOz oo);refine IK (LC o2 rfl (IK (M_ o2 fun g3 o3 b3=>?_)));have o3:No g3 to x q:=o3;refine IK (OU (IU ?_));have s2a:Iu g3 i2 a2 ys k2:=((s2.keep (SameBut.keep b1 D.i2z) (SameBut.keep b1 D.l2z)).keep (SameBut.keep b2 D.i12.symm) (SameBut.keep b2 D.l2i1)).keep (SameBut.keep b3 D.TOi2.symm) (SameBut.keep b3 D.l2TO);refine IK (IK (N4 ?_));show Jn _ _ (do let c <- JT (.ref i2);_) _ _ _;refine IK (s2a.item D.l2i2 ey fun g4 s2b b4=>IU ?_);have o4:No g4 to x q:=b4.extBut _ _ D.TOi2 o3;refine IK (LC o4 rfl (IK (M_ o4 fun g5 o5 b5=>?_)));have o5:No g5 to x y:=o5;refine IK (OU (IU (IU ?_)));refine IK (LC o5 rfl (IK (wpAny_newTuple ?_)));have size:g5.objs.size=s.heap.objs.size:=by rw[b5.1,b4.1,b3.1,b2.1,b1.1]
 have z5:Pb g5 z ti to .ellipsis:=b5.extBut _ _ D.TOz.symm (b4.extBut _ _ D.i2z.symm (b3.extBut _ _ D.TOz.symm (b2.extBut _ _ D.i1z.symm z1)));have kp:∀b o,b≠z->b≠to->b≠i1->b≠i2->s.heap.get? b=some o->g5.get? b=some o:=fun b o n1 n2 n3 n4 e=>b5.extBut _ _ n2 (b4.extBut _ _ n4 (b3.extBut _ _ n2 (b2.extBut _ _ n3 (b1.extBut _ _ n1 e))));have s1c:Iu g5 i1 a1 xs (k1+1):=((s1b.keep (SameBut.keep b3 D.TOi1.symm) (SameBut.keep b3 D.l1TO)).keep (SameBut.keep b4 D.i12) (SameBut.keep b4 D.l1i2)).keep (SameBut.keep b5 D.TOi1.symm) (SameBut.keep b5 D.l1TO);have s2c:Iu g5 i2 a2 ys (k2+1):=s2b.keep (SameBut.keep b5 D.TOi2.symm) (SameBut.keep b5 D.l2TO);have zl:z<g5.objs.size:=Jd z5;show Jn _ _ (do KH (.ref z) (.ref g5.objs.size);_) _ _ _;refine IK ?_;unfold KH;have z6:Pb (g5.push {cls:=.type "tuple", data:=.seq #[x,y]}) z ti to .ellipsis:=IQ _ z5;refine IK (Kg z6 (by simp) fun g7 z7 b7=>?_);have z7:Pb g7 z ti to (ML g5.objs.size):=z7;refine Kg z7 (by simp) fun g8 z8 b8=>?_;have z8:Pb g8 z ti to (ML g5.objs.size):=z8;have up:∀b o,b≠z->g5.get? b=some o->g8.get? b=some o:=fun b o n e=>b8.extBut _ _ n (b7.extBut _ _ n (IQ _ e));have t8:No g8 g5.objs.size x y:=b8.extBut _ _ (L4 zl) (b7.extBut _ _ (L4 zl) (Jf _ rfl));have l8:g8.objs.size=g5.objs.size+1:=by rw[b8.1,b7.1,KB]
 rw[size]at z8 t8 l8;refine IU ⟨_,rfl,?_⟩;show Q (.ref g5.objs.size) _;rw[size];exact done g8 z8 (up _ _ D.TOz o5) (s1c.keep (fun o e=>up _ o D.i1z e) fun o e=>up _ o D.l1z e) (s2c.keep (fun o e=>up _ o D.i2z e) fun o e=>up _ o D.l2z e) t8 l8 fun b o n1 n2 n3 n4 e=>up b o n1 (kp b o n1 n2 n3 n4 e)
theorem yd{Q:Fin->IW->Prop}(hd:A.handled=none)(D:ZipApart z ti to i1 i2 a1 a2)(oz:Pb s.heap z ti to .none)(oi:No s.heap ti (.ref i1) (.ref i2))(oo:No s.heap to p q)
 (s1:Iu s.heap i1 a1 xs k1)(s2:Iu s.heap i2 a2 ys k2)(e:xs[k1]?=none\/ys[k2]?=none)
 (q':∀g x,(∀b o,b≠z->b≠to->b≠i1->b≠i2->s.heap.get? b=some o->g.get? b=some o)->(∃o,g.get? x=some o/\o.cls = .type "StopIteration")->E (.ref x) {s with heap:=g}) :
 Jn (Jv prog w) A (Builtin.«zip.__next__» ⟨[.ref z],[]⟩) Q E s:=by
 show Jn _ _ (do let c <- PD (.ref z) 2;_) _ _ _;refine IK (JM oz rfl (x:=.bool false) rfl ?_);show Jn _ _ (do let c <- PD (.ref z) 3;_) _ _ _;refine IK (JM oz rfl (x:=.ref ti) rfl ?_);refine IK (LC oi rfl ?_);show Jn _ _ (do let c <- J3 (.ref z);_) _ _ _;refine IK ?_;unfold J3;refine IK (JM oz rfl (x:=LZ) rfl (IU ?_));simp only[if_true];refine IK (Mc (IK (JM oz rfl (x:=.ref to) rfl (IK (Kg oz (by simp) fun g1 z1 b1=>?_)))));have z1:Pb g1 z ti to .ellipsis:=z1;refine IK ?_;simp only[ME,List.forIn_nil,List.zipIdx_cons,List.zipIdx_nil];have s1a:Iu g1 i1 a1 xs k1:=s1.keep (SameBut.keep b1 D.i1z) (SameBut.keep b1 D.l1z);refine IK (IK (N4 ?_));show Jn _ _ (do let c <- JT (.ref i1);_) _ _ _
 have last:∀(g g':Heap)(u:Addr)(o:Obj),g.get? u=some o->o.cls = .type "StopIteration" -> Pb g z ti to .ellipsis->Lg z g g'->∃o,g'.get? u=some o/\o.cls = .type "StopIteration" := fun g g' u o h1 h2 h3 sb=>by
  have ne:u≠z:=fun c=>by rw[c,h3]at h1;cases h1;simp at h2
  exact⟨o,sb.extBut _ _ ne h1,h2⟩
 cases ex:xs[k1]? with
 | none =>
   refine IK (s1a.fin hd ex fun g2 u b2 ⟨o,ou,oc⟩=>?_);have z2:Pb g2 z ti to .ellipsis:=b2 _ _ D.i1z.symm z1
   exact Kg z2 (by simp) fun g3 _ b3=>q' g3 u (fun b o n1 _ n3 _ e=>b3.extBut _ _ n1 (b2 _ _ n3 (b1.extBut _ _ n1 e))) (last g2 g3 u o ou oc z2 b3)
 | some x =>
   have ey:ys[k2]?=none:=e.elim (fun h=>by rw[ex]at h;cases h) id;refine IK (s1a.item D.l1i1 ex fun g2 s1b b2=>IU ?_);have o2:No g2 to p q:=b2.extBut _ _ D.TOi1 (b1.extBut _ _ D.TOz oo);refine IK (LC o2 rfl (IK (M_ o2 fun g3 o3 b3=>?_)));refine IK (OU (IU ?_));have s2a:Iu g3 i2 a2 ys k2:=((s2.keep (SameBut.keep b1 D.i2z) (SameBut.keep b1 D.l2z)).keep (SameBut.keep b2 D.i12.symm) (SameBut.keep b2 D.l2i1)).keep (SameBut.keep b3 D.TOi2.symm) (SameBut.keep b3 D.l2TO);refine IK (IK (N4 ?_));show Jn _ _ (do let c <- JT (.ref i2);_) _ _ _;refine IK (s2a.fin hd ey fun g4 u b4 ⟨o,ou,oc⟩=>?_);have z4:Pb g4 z ti to .ellipsis:=b4 _ _ D.i2z.symm (b3.extBut _ _ D.TOz.symm (b2.extBut _ _ D.i1z.symm z1));exact Kg z4 (by simp) fun g5 _ b5=>q' g5 u (fun b o n1 n2 n3 n4 e=>b5.extBut _ _ n1 (b4 _ _ n4 (b3.extBut _ _ n2 (b2.extBut _ _ n3 (b1.extBut _ _ n1 e))))) (last g4 g5 u o ou oc z4 b5)
end
def HJ(b:Bool)(h:Heap)(a:Addr)(xs:Array IR):Prop:=bif b then h.IsTuple a xs else h.IsList a xs
noncomputable def GV(b:Bool):String:=bif b then "tuple_iterator" else "list_iterator"
theorem HJ.push{b:Bool}{h:Heap}{a:Addr}{xs:Array IR}(q:HJ b h a xs)(o:Obj):HJ b (h.push o) a xs:=by
 cases b with
 | true=>exact Heap.IsTuple.push q o
 | false=>exact Heap.IsList.push q o
section
variable{prog:Ju}{w:J_}{A:Kh}{E:IR->IW->Prop}{s:IW}{b b1 b2:Bool}{a a1 a2:Addr}{xs ys:Array IR}
theorem tE(st:HJ b s.heap a xs)(q:Q (.ref s.heap.objs.size) {s with heap:=s.heap.push {cls:=.type (GV b),data:=.fields #[.ref a,.int 0 0]}}):Jn (Jv prog w) A (Pe (.ref a)) Q E s:=by
 cases b with
 | true=>exact wpAny_pyIter_tuple st q
 | false=>exact MP st q
abbrev y1(h:Heap)(b1:Bool)(a1:Addr):Heap:=h.push {cls:=.type (GV b1),data:=.fields #[.ref a1,.int 0 0]}
abbrev y2(h:Heap)(b1 b2:Bool)(a1 a2:Addr):Heap:=(y1 h b1 a1).push {cls:=.type (GV b2),data:=.fields #[.ref a2,.int 0 0]}
abbrev y3(h:Heap)(b1 b2:Bool)(a1 a2:Addr):Heap:=(y2 h b1 b2 a1 a2).push {cls:=.type "tuple", data:=.seq #[.ref h.objs.size,.ref (y1 h b1 a1).objs.size]}
abbrev y4(h:Heap)(b1 b2:Bool)(a1 a2:Addr):Heap:=(y3 h b1 b2 a1 a2).push {cls:=.type "tuple", data:=.seq #[.none,.none]}
abbrev y5(h:Heap)(b1 b2:Bool)(a1 a2:Addr):Heap:=(y4 h b1 b2 a1 a2).push {cls:=.type "zip", data:=.fields #[.none,.bool false,.bool false,.ref (y2 h b1 b2 a1 a2).objs.size,.ref (y3 h b1 b2 a1 a2).objs.size]}
theorem vp(b1 b2:Bool)(a1 a2:Addr)(xs ys:Array IR) :
 Meets (Builtin.«zip.__new__» ⟨[.type "zip", .ref a1,.ref a2],[]⟩) (fun _ R s=>HJ b1 s.heap a1 xs/\HJ b2 s.heap a2 ys/\R (.ok (.ret (.ref (y4 s.heap b1 b2 a1 a2).objs.size))) {s with heap:=y5 s.heap b1 b2 a1 a2}) :=
 .of_wp fun prog w A R s h=>by
  obtain⟨hp,g,d,tk,os⟩:=s;obtain⟨q1,q2,h⟩:=h;have hsub:=sub_zip;have k1:HJ b1 (PF ⟨hp,g,d,tk,os⟩) a1 xs:=q1;have k2:HJ b2 (PF ⟨hp.push {cls:=.type (GV b1),data:=.fields #[.ref a1,.int 0 0]},g,d,tk,os⟩) a2 ys:=q2.push _
  wp_walk using tE k1,tE k2
  exact⟨_,rfl,h⟩
theorem ua(q1:HJ b1 s.heap a1 xs)(q2:HJ b2 s.heap a2 ys)
 (k:∀g,Pb g (s.heap.objs.size+4) (s.heap.objs.size+2) (s.heap.objs.size+3) .none->No g (s.heap.objs.size+2) (.ref s.heap.objs.size) (.ref (s.heap.objs.size+1))->No g (s.heap.objs.size+3) .none .none ->
  Iu g s.heap.objs.size a1 xs 0->Iu g (s.heap.objs.size+1) a2 ys 0->g.objs.size=s.heap.objs.size+5->(∀c o,s.heap.get? c=some o->g.get? c=some o)->Q (.ref (s.heap.objs.size+4)) {s with heap:=g}) :
 Jn (Jv prog w) A (call (.type "zip") [.ref a1,.ref a2]) Q E s:=by
 refine Pk F.called_zip (by decide) (F.typeCall_zip_2 _ _) (F.newCall_zip_2 _ _) (fun u=>F.args_object_init_3 u _ _) F.entry_zip_new (vp b1 b2 a1 a2 xs ys) ⟨q1,q2,?_⟩;have n1:(y1 s.heap b1 a1).objs.size=s.heap.objs.size+1:=KB ..;have n2:(y2 s.heap b1 b2 a1 a2).objs.size=s.heap.objs.size+2:=by rw[KB,n1]
 have n3:(y3 s.heap b1 b2 a1 a2).objs.size=s.heap.objs.size+3:=by rw[KB,n2]
 have n4:(y4 s.heap b1 b2 a1 a2).objs.size=s.heap.objs.size+4:=by rw[KB,n3]
 have n5:(y5 s.heap b1 b2 a1 a2).objs.size=s.heap.objs.size+5:=by rw[KB,n4]
 have pu:∀{h:Heap}{o u:Obj}{c:Addr},h.get? c=some u->(h.push o).get? c=some u:=fun e=>IQ _ e;have kp:∀c o,s.heap.get? c=some o->(y5 s.heap b1 b2 a1 a2).get? c=some o:=fun c o e=>pu (pu (pu (pu (pu e))));have f5:(y5 s.heap b1 b2 a1 a2).get? (y4 s.heap b1 b2 a1 a2).objs.size=some _:=Jf _ rfl;have f4:(y5 s.heap b1 b2 a1 a2).get? (y3 s.heap b1 b2 a1 a2).objs.size=some _:=pu (Jf _ rfl);have f3:(y5 s.heap b1 b2 a1 a2).get? (y2 s.heap b1 b2 a1 a2).objs.size=some _:=pu (pu (Jf _ rfl));have f2:(y5 s.heap b1 b2 a1 a2).get? (y1 s.heap b1 a1).objs.size=some _:=pu (pu (pu (Jf _ rfl)));have f1:(y5 s.heap b1 b2 a1 a2).get? s.heap.objs.size=some _:=pu (pu (pu (pu (Jf _ rfl))));show _/\_;rw[n2,n3,n4]at f5;rw[n1,n2]at f3;rw[n3]at f4;rw[n1]at f2;rw[n4]
 have mk:∀{b:Bool}{i a:Addr}{zs:Array IR},(y5 s.heap b1 b2 a1 a2).get? i=some {cls:=.type (GV b),data:=.fields #[.ref a,.int 0 0]}->HJ b s.heap a zs->Iu (y5 s.heap b1 b2 a1 a2) i a zs 0:=fun{b i a zs} e q=>by
  cases b with
  | true=>obtain⟨o,h1,h2⟩:=(show s.heap.IsTuple a zs from q);exact .inr ⟨⟨_,e,rfl,rfl⟩,⟨o,kp _ _ h1,h2⟩⟩
  | false=>obtain⟨o,h1,h2⟩:=(show s.heap.IsList a zs from q);exact .inl ⟨⟨_,e,rfl,rfl⟩,⟨o,kp _ _ h1,h2⟩⟩
 exact⟨⟨_,f5,rfl⟩,k _ f5 f3 f4 (mk f1 q1) (mk f2 q2) n5 kp⟩
end
end L2.ZP
namespace L2
open PySem PySem.Spec PyProof.Rows L2.ZP
theorem Inv.turnedL{ch:List Addr}(I:Inv X pins σ H s)(k:∀b o,b∉ch->s.heap.get? b=some o->h'.get? b=some o)(hn:∀b∈ch,j_ X pins H b) :
 Inv X pins σ H {s with heap:=h',toks:=t' }:=by
 have nit:∀b u,H b=some u->b∉ch:=fun b u e z=>by rw[(hn b z).1]at e;cases e
 refine I.step (g':=s.gens) (d':=s.drawn) (ch:=ch) (fun b hb=>?_) (fun b o _ _ hc e _=>k b o hc e) (fun b o _ _ hc e _=>⟨o.slots,k b o hc e⟩) (fun _ _ _ _ n=>n) (fun b o hc e=>⟨o,k b o hc e⟩) (fun _ _ e=>e) (fun _ _ _ e=>e) (fun b ps e=>⟨#[],by rw[e];simp⟩) (fun m hm=>?_) (fun b u e=>?_) I.bare
 · obtain⟨_,h2,_,h4,h5,h6⟩:=hn b hb;exact⟨h4,h2,h5,h6⟩
 · obtain⟨o,es,ep,ho,r⟩:=hm;exact⟨o,es,ep,k _ o (fun z=>(hn _ z).2.1 rfl) ho,r⟩
 · refine(I.hok b u e).stay (fun c v hc q=>k c v ?_ q) (fun _ q=>q) fun _ _ q=>q;rcases hc with z|z
   · rw[z];exact nit b u e
   · exact nit c _ z
def HI(b:Bool)(K:W.Frag)(H:Hp)(a:Addr)(xs:List V):Prop:=bif b then HG K H a xs else HH K H a xs
theorem Inv.sqB{b:Bool}{xs:List V}(I:Inv X pins σ H s)(h:HI b X.K H a xs):∃its,cn xs its/\HJ b s.heap a its.toArray:=by
 cases b with
 | true =>
   obtain⟨its,r,t,z⟩:=I.tuple h
   exact⟨its,r,t⟩
 | false =>
   obtain⟨its,r,p,z⟩:=I.list h;exact⟨its,r,p.isList⟩
theorem Inv.sqB_inj{b:Bool}{xs ys:List V}(I:Inv X pins σ H s)(h:HI b X.K H a xs)(h':HI b X.K H a ys):xs=ys:=by
 cases b with
 | true=>exact I.tuple_inj h h'
 | false=>exact I.list_inj h h'
noncomputable def Ij(K:W.Frag)(b1 b2:Bool)(a1 a2:Addr):It :=
 ⟨fun i H=>∃xs ys x y,HI b1 K H a1 xs/\HI b2 K H a2 ys/\xs[i]?=some x/\ys[i]?=some y,
  fun i H v H'=>∃x y p,(∀xs,HI b1 K H a1 xs->xs[i]?=some x)/\(∀ys,HI b2 K H a2 ys->ys[i]?=some y)/\H p=none/\v = .ref p/\H'=upd H p (.tup [x,y]),
  fun i H=>∃xs ys,HI b1 K H a1 xs/\HI b2 K H a2 ys/\(xs.length<=i\/ys.length<=i)⟩
def Iv(b:Bool)(h:Heap)(it a:Addr)(k:Nat):Prop:=bif b then h.IsTupleIter it a k else h.IsListIter it a k
theorem Iv.it1{b:Bool}{k:Nat}{xs:Array IR}(q:Iv b h it a k)(r:HJ b h a xs):Iu h it a xs k:=by
 cases b with
 | true=>exact .inr ⟨q,r⟩
 | false=>exact .inl ⟨q,r⟩
theorem Iv.keep{b:Bool}{k:Nat}(q:Iv b h it a k)(e:∀o,h.get? it=some o->h'.get? it=some o):Iv b h' it a k:=by
 cases b with
 | true=>obtain⟨o,h1,r⟩:=(show h.IsTupleIter it a k from q);exact⟨o,e _ h1,r⟩
 | false=>obtain⟨o,h1,r⟩:=(show h.IsListIter it a k from q);exact⟨o,e _ h1,r⟩
theorem Iv.obj{b:Bool}{k:Nat}(q:Iv b h it a k):∃o,h.get? it=some o/\∀v,o.data ≠ .cell v:=by
 cases b with
 | true=>obtain⟨o,h1,_,d⟩:=(show h.IsTupleIter it a k from q);exact⟨o,h1,fun v z=>by rw[d]at z;cases z⟩
 | false=>obtain⟨o,h1,_,d⟩:=(show h.IsListIter it a k from q);exact⟨o,h1,fun v z=>by rw[d]at z;cases z⟩
theorem Iu.ir{b:Bool}{k:Nat}{xs:Array IR}{h0:Heap}(q:Iu h it a xs k)(r:Iv b h0 it a j)(s:HJ b h a xs):Iv b h it a k:=by
 cases b with
 | true =>
   rcases q with⟨_,⟨o,e,c,_⟩⟩|⟨q,_⟩
   · obtain⟨o',e',c',_⟩:=(show h.IsTuple a xs from s);rw[e]at e';cases e';rw[c]at c';injection c' with z;exact absurd z (by decide)
   · exact q
 | false =>
   rcases q with⟨q,_⟩|⟨_,⟨o,e,c,_⟩⟩
   · exact q
   · obtain⟨o',e',c',_⟩:=(show h.IsList a xs from s);rw[e]at e';cases e';rw[c]at c';injection c' with z;exact absurd z (by decide)
def ZS(b1 b2:Bool)(z ti to i1 i2 a1 a2:Addr)(i:Nat)(h:Heap):Prop:=Pb h z ti to .none/\No h ti (.ref i1) (.ref i2)/\(∃p q,No h to p q)/\Iv b1 h i1 a1 i/\Iv b2 h i2 a2 i
theorem HJ.of{b:Bool}{xs:Array IR}(q:HJ b h a xs)(e:∀o,h.get? a=some o->h'.get? a=some o):HJ b h' a xs:=by
 cases b with
 | true=>obtain⟨o,h1,r⟩:=(show h.IsTuple a xs from q);exact⟨o,e _ h1,r⟩
 | false=>obtain⟨o,h1,r⟩:=(show h.IsList a xs from q);exact⟨o,e _ h1,r⟩
theorem sf{K:W.Frag}{elts:List Expr}{kt:Nat}{pt:Pos}(b1 b2:Bool)(z ti to i1 i2 a1 a2:Addr)(D:ZipApart z ti to i1 i2 a1 a2) :
 Turn P w K (.Tuple elts kt pt) (Ij K b1 b2 a1 a2) [z,ti,to,i1,i2] z (ZS b1 b2 z ti to i1 i2 a1 a2) where
 mem:=by simp
 obj:=fun i h ⟨h1,h2,⟨p,q,h3⟩,h4,h5⟩ b hb=>by
  simp at hb;rcases hb with rfl|rfl|rfl|rfl|rfl
  · exact⟨_,h1,fun v c=>by cases c⟩
  · exact⟨_,h2,fun v c=>by cases c⟩
  · exact⟨_,h3,fun v c=>by cases c⟩
  · exact h4.obj
  · exact h5.obj
 keep:=fun i h h' ⟨h1,h2,⟨p,q,h3⟩,h4,h5⟩ k=>⟨k z (by simp) _ h1,k ti (by simp) _ h2,⟨p,q,k to (by simp) _ h3⟩,h4.keep fun o e=>k i1 (by simp) o e,h5.keep fun o e=>k i2 (by simp) o e⟩
 item:=by
  intro X hP hw hK hc i pins s σ H E I hf st hg;subst hP hw hK;obtain⟨h1,h2,⟨p,q,h3⟩,h4,h5⟩:=st;obtain⟨xs,ys,x,y,q1,q2,ex,ey⟩:=hg;obtain⟨its,r1,t1⟩:=I.sqB q1;obtain⟨jts,r2,t2⟩:=I.sqB q2;obtain⟨u,hu,ru⟩:=r1.get ex;obtain⟨v,hv,rv⟩:=r2.get ey;have ty:s.TypeIs (.ref z) "zip" := ⟨_,h1,rfl⟩;unfold Ni
  refine IK (Mh (JG (name:=Str.ofString "__next__") ty F.slot_zip_next (Kd F.slot_zip_next ty F.entry_zip_next
   (vj D h1 h2 h3 (h4.it1 t1) (h5.it1 t2) (by simpa using hu) (by simpa using hv) fun g e1 e2 e3 e4 e5 e6 e7=>IU ?_) (F.args_zip_next_1 _))))
  have hz:s.heap.objs.size≠z:=L4 (Jd h1);refine⟨.ref s.heap.objs.size,rfl,wpAny_letOwnedTupleGo_zip e1 fun g' f1 fb=>?_⟩;have hp:H s.heap.objs.size=none:=I.hok.fresh (I_ _)
  have I1:Inv X pins σ (upd H s.heap.objs.size (.tup [x,y])) {s with heap:=s.heap.push {cls:=.type "tuple", data:=.seq [u,v].toArray}} :=
   I.laid (t':=s.toks) (o:=.tup [x,y]) (fun b ob e=>IQ _ e) (I_ _) ⟨(by show 2<=sizeLine;decide),[u,v],.cons ru (.cons rv .nil),rL.new _ _⟩
  have ne:∀b∈[z,ti,to,i1,i2],b≠s.heap.objs.size:=fun b hb e=>by
   simp at hb;rcases hb with rfl|rfl|rfl|rfl|rfl
   · exact hz e.symm
   · exact absurd (Jd h2) (by rw[e];exact Ku _)
   · exact absurd (Jd h3) (by rw[e];exact Ku _)
   · obtain⟨o,ho,_⟩:=h4.obj;exact absurd (Jd ho) (by rw[e];exact Ku _)
   · obtain⟨o,ho,_⟩:=h5.obj;exact absurd (Jd ho) (by rw[e];exact Ku _)
  have kg:∀b o,b∉[z,ti,to,i1,i2]->(s.heap.push {cls:=.type "tuple", data:=.seq [u,v].toArray}).get? b=some o->g'.get? b=some o:=fun b o hb e=>by
   simp at hb;obtain⟨n1,n2,n3,n4,n5⟩:=hb;refine fb.extBut _ _ n1 ?_;by_cases hbn:b=s.heap.objs.size
   · subst hbn;rw[Jf _ rfl]at e;cases e;exact e5
   · exact e7 b o n1 n3 n4 n5 (by rw[Heap.get?_push_ne _ _ _ hbn]at e;exact e)
  have fp1:∀b∈[z,ti,to,i1,i2],j_ X pins (upd H s.heap.objs.size (.tup [x,y])) b:=fun b hb=>by
   obtain⟨f0,fr⟩:=hf b hb;exact⟨by rw[ar (ne b hb)];exact f0,fr⟩
  have I2:Inv X pins σ (upd H s.heap.objs.size (.tup [x,y])) {s with heap:=g' }:=I1.turnedL (t':=s.toks) kg fp1;have k8:∀b o,b≠z->g.get? b=some o->g'.get? b=some o:=fun b o n e=>fb.extBut _ _ n e;have t1':HJ b1 g a1 its.toArray:=HJ.of t1 fun o e=>e7 _ o D.l1z D.l1TO D.l1i1 D.l1i2 e;have t2':HJ b2 g a2 jts.toArray:=HJ.of t2 fun o e=>e7 _ o D.l2z D.l2TO D.l2i1 D.l2i2 e;refine⟨.ref s.heap.objs.size,_,I2,rfl,⟨x,y,_,fun xs' q'=>by rw[I.sqB_inj q' q1];exact ex,fun ys' q'=>by rw[I.sqB_inj q' q2];exact ey,hp,rfl,rfl⟩,⟨f1,k8 _ _ D.TIz (e7 _ _ D.TIz D.TITO D.TIi1 D.TIi2 h2),⟨_,_,k8 _ _ D.TOz e2⟩,(Iu.ir e3 h4 t1').keep fun o e=>k8 _ o D.i1z e,(Iu.ir e4 h5 t2').keep fun o e=>k8 _ o D.i2z e⟩,fun b hb=>(fp1 b hb).1⟩
 done:=by
  intro X hP hw hK hc i pins s σ H E I hf st hg;subst hP hw hK;obtain⟨h1,h2,⟨p,q,h3⟩,h4,h5⟩:=st;obtain⟨xs,ys,q1,q2,ex⟩:=hg;obtain⟨its,r1,t1⟩:=I.sqB q1;obtain⟨jts,r2,t2⟩:=I.sqB q2;have l1:=r1.length;have l2:=r2.length;have ty:s.TypeIs (.ref z) "zip" := ⟨_,h1,rfl⟩;unfold Ni
  refine IK (Mh (JG (name:=Str.ofString "__next__") ty F.slot_zip_next (Kd F.slot_zip_next ty F.entry_zip_next
   (yd (I.ok.hd hc) D h1 h2 h3 (h4.it1 t1) (h5.it1 t2) (by simp;omega) fun g e kg ⟨o,ho,hoc⟩=>?_) (F.args_zip_next_1 _))))
  refine IK (M6 (T := "StopIteration") (b:=true) ⟨o,ho,hoc⟩ OL (IU ⟨rfl,?_⟩));exact I.turnedL (t':=s.toks) (fun b o hb e=>by simp at hb;exact kg b o hb.1 hb.2.2.1 hb.2.2.2.1 hb.2.2.2.2 e) hf
 self:=fun _ _ _ _ _ st h=>wpAny_pyIter_zip st.1 h
open PySem PySem.Spec PyProof.Rows L2.ZP
section
variable{X:Cx}{e1 e2:Expr}{ta:TA}{elts:List Expr}{kt:Nat}{pt p pos:Pos}
def EN(K:W.Frag)(b1 b2:Bool)(t:TA):TI:=fun σ H R=>t σ H fun vs H1=>∃a1 a2 xs ys,vs=[.ref a1,.ref a2]/\HI b1 K H1 a1 xs/\HI b2 K H1 a2 ys/\R (Ij K b1 b2 a1 a2) H1
theorem zD(b1 b2:Bool)(hg:Gl X "zip")(hm:X.mg "zip" = none)(ha:PA X [e1,e2] ta)(hs:IZ [e1,e2] X.env=(false,eval e1 X.env)::IZ [e2] X.env:=by rfl)(hpl:(KC pos (IZ [e2] X.env)).any (·.1)=false:=by rfl) :
 PI X (.Tuple elts kt pt) (.Call (.Name "zip" p) [e1,e2] [] pos) (EN X.K b1 b2 ta):=by
 intro pins s σ H R I h;refine Call_ (fD I hg hm (by rfl) (Ke (FX (ha pos pins s σ H _ I h) fun us s1 ⟨vs,H1,I1,r1,q1⟩=>?_) hs hpl) (by decide) (by decide));obtain⟨a1,a2,xs,ys,ev,q1,q2,q⟩:=q1;subst ev
 cases r1 with
 | cons r rr =>
   cases rr with
   | cons r' rr =>
     cases rr;cases r;cases r';obtain⟨its,v1,t1⟩:=I1.sqB q1;obtain⟨jts,v2,t2⟩:=I1.sqB q2;refine ua t1 t2 fun g f1 f2 f3 f4 f5 f6 kp=>wpAny_pyIter_zip f1 ?_
     have lt1:a1<s1.heap.objs.size/\a2<s1.heap.objs.size:=by
      constructor
      · cases b1 with
        | true=>obtain⟨o,ho,_⟩:=(show s1.heap.IsTuple a1 _ from t1);exact Jd ho
        | false=>obtain⟨o,ho,_⟩:=(show s1.heap.IsList a1 _ from t1);exact Jd ho
      · cases b2 with
        | true=>obtain⟨o,ho,_⟩:=(show s1.heap.IsTuple a2 _ from t2);exact Jd ho
        | false=>obtain⟨o,ho,_⟩:=(show s1.heap.IsList a2 _ from t2);exact Jd ho
     obtain⟨l1,l2⟩:=lt1;have ap:∀{n c:Nat},c<n->∀k:Nat,c≠n+k:=fun h k e=>by omega
     have D:ZipApart (s1.heap.objs.size+4) (s1.heap.objs.size+2) (s1.heap.objs.size+3) s1.heap.objs.size (s1.heap.objs.size+1) a1 a2:=by
      generalize hN:s1.heap.objs.size=N at l1 l2;exact⟨by simp,by simp,by simp,by simp,by simp,by simp,by simp,by simp,by simp,by simp,ap l1 4,ap l1 3,ap l1 0,ap l1 1,ap l2 4,ap l2 3,ap l2 0,ap l2 1⟩
     have kg:∀b o,s1.heap.get? b=some o->g.get? b=some o:=kp;have I2:Inv X pins σ H1 {s1 with heap:=g}:=I1.kept (t':=s1.toks) kg
     have ir:∀{b:Bool}{it a:Addr}{zs:Array IR},Iu g it a zs 0->HJ b s1.heap a zs->Iv b g it a 0:=fun{b it a zs} q r=>by
      have r':=HJ.of r fun o e=>kg _ o e
      cases b with
      | true =>
        rcases q with⟨_,⟨o,e,c,_⟩⟩|⟨q,_⟩
        · obtain⟨o',e',c',_⟩:=(show g.IsTuple a zs from r');rw[e]at e';cases e';rw[c]at c';injection c' with z;exact absurd z (by decide)
        · exact q
      | false =>
        rcases q with⟨q,_⟩|⟨_,⟨o,e,c,_⟩⟩
        · exact q
        · obtain⟨o',e',c',_⟩:=(show g.IsList a zs from r');rw[e]at e';cases e';rw[c]at c';injection c' with z;exact absurd z (by decide)
     refine⟨_,[s1.heap.objs.size+4,s1.heap.objs.size+2,s1.heap.objs.size+3,s1.heap.objs.size,s1.heap.objs.size+1],_,_,H1,rfl,I2,sf b1 b2 _ _ _ _ _ a1 a2 D,⟨f1,f2,⟨_,_,f3⟩,ir f4 t1,ir f5 t2⟩,fun b hb=>?_,q⟩
     have hb':s1.heap.objs.size<=b:=by
      simp at hb;rcases hb with rfl|rfl|rfl|rfl|rfl
      · exact Mq _ 4
      · exact Mq _ 2
      · exact Mq _ 3
      · exact I_ _
      · exact Mq _ 1
     exact I1.fpOk hb' (I1.hok.fresh hb')
end
end L2
namespace L2.VL
section
variable{X:Cx}{rl:RlT}{a b:Expr}{elts:List Expr}{kt:Nat}{pt p pos:Pos}{fs:HA}
noncomputable def i9(xs ys:List IJ):List IJ:=List.zipWith (fun x y=>.tuple [x,y]) xs ys
noncomputable def dw:IJ->Bool
 | .tuple _=>true
 | _=>false
theorem pC{K:W.Frag}(r:Rep K F v d)(e:d_ d=some xs):∃a vs,v = .ref a/\Reps K F vs xs/\∀H,bE F H->HI (dw d) K H a vs:=by
 cases r with
 | tup sq rs=>cases e;exact⟨_,_,rfl,rs,fun H s=>dJ s sq⟩
 | lst h rs=>cases e;exact⟨_,_,rfl,rs,fun H s=>.inl (.inl (s _ _ h))⟩
 | non=>cases e
 | bl b=>cases e
 | int i=>cases e
 | str x=>cases e
theorem lx{ys:List IJ}(h:(i9 xs ys)[i]?=some d):∃x y,xs[i]?=some x/\ys[i]?=some y/\d = .tuple [x,y]:=by
 unfold i9 at h;rw[List.getElem?_zipWith]at h
 cases ex:xs[i]? with
 | none=>rw[ex]at h;cases h
 | some x =>
   cases ey:ys[i]? with
   | none=>rw[ex,ey]at h;cases h
   | some y=>rw[ex,ey]at h;cases h;exact⟨x,y,rfl,rfl,rfl⟩
theorem uj(b1 b2:Bool)(hm:X.mg "zip" = none)(ha:HN X rl [a,b] fs)(hg:Gl X "zip" := by rfl)(hs:IZ [a,b] X.env=(false,eval a X.env)::IZ [b] X.env:=by rfl)(hpl:(KC pos (IZ [b] X.env)).any (·.1)=false:=by rfl) :
 HW X rl (.Tuple elts kt pt) (.Call (.Name "zip" p) [a,b] [] pos) (fun ρ Q=>fs ρ fun ws=>∃dx dy xs ys,ws=[.d dx,.d dy]/\d_ dx=some xs/\d_ dy=some ys/\dw dx=b1/\dw dy=b2/\Q (i9 xs ys)):=by
 obtain⟨t,p1,k⟩:=ha;refine⟨_,zD b1 b2 hg hm p1 hs hpl,fun R Qd Q q h=>k R _ _ q fun vs ws F1 H1 g1 r1 ⟨dx,dy,xs,ys,ew,e1,e2,kb1,kb2,q1⟩=>?_⟩;subst ew kb1 kb2;obtain⟨v,u,rfl,rv,ru⟩:=zi r1;obtain⟨a1,vs,rfl,rs,sq1⟩:=pC rv e1;obtain⟨a2,us,rfl,rt,sq2⟩:=pC ru e2;refine⟨a1,a2,vs,us,rfl,sq1 _ g1.sub,sq2 _ g1.sub,h _ (i9 xs ys) F1 H1 g1 ⟨fun i H x e s=>?_,fun i H hl s=>?_,fun i H v H' x F2 e s s2 ra y=>?_⟩ q1⟩
 · obtain⟨x1,y1,ex,ey,_⟩:=lx e;obtain⟨v1,ev1,_⟩:=rs.get ex;obtain⟨u1,eu1,_⟩:=rt.get ey;exact⟨vs,us,v1,u1,sq1 _ s,sq2 _ s,ev1,eu1⟩
 · refine⟨vs,us,sq1 _ s,sq2 _ s,?_⟩;unfold i9 at hl;rw[List.length_zipWith]at hl;rw[rs.length,rt.length];omega
 · obtain⟨x1,y1,ex,ey,ed⟩:=lx e;obtain⟨vx,vy,pp,hx,hy,hp,ev,eH⟩:=y;obtain⟨v1,ev1,rv1⟩:=rs.get ex;obtain⟨u1,eu1,ru1⟩:=rt.get ey;have h1:=hx vs (sq1 _ (s.trans s2));have h2:=hy us (sq2 _ (s.trans s2));rw[ev1]at h1;rw[eu1]at h2;cases h1;cases h2;subst ev eH ed;have g:=Grow.data (a:=pp) (o:=.tup [vx,vy]) s2 ra hp;exact⟨_,g,.tup (.inl (.inl ax)) (.cons ((rv1.mono s).mono g.fs) (.cons ((ru1.mono s).mono g.fs) .nil))⟩
def G0(b1 b2:Bool)(fs:HA):En->(List IJ->Prop)->Prop:=fun ρ Q=>fs ρ fun ws=>∃dx dy xs ys,ws=[.d dx,.d dy]/\d_ dx=some xs/\d_ dy=some ys/\dw dx=b1/\dw dy=b2/\Q (i9 xs ys)
theorem iy(hm:X.mg "zip" = none)(ha:HN X rl [a,b] fs)(hg:Gl X "zip" := by rfl)(hs:IZ [a,b] X.env=(false,eval a X.env)::IZ [b] X.env:=by rfl)(hpl:(KC pos (IZ [b] X.env)).any (·.1)=false:=by rfl) :
 HW X rl (.Tuple elts kt pt) (.Call (.Name "zip" p) [a,b] [] pos) (G0 true true fs):=uj true true hm ha hg hs hpl
theorem rT(hm:X.mg "zip" = none)(ha:HN X rl [a,b] fs)(hg:Gl X "zip" := by rfl)(hs:IZ [a,b] X.env=(false,eval a X.env)::IZ [b] X.env:=by rfl)(hpl:(KC pos (IZ [b] X.env)).any (·.1)=false:=by rfl) :
 HW X rl (.Tuple elts kt pt) (.Call (.Name "zip" p) [a,b] [] pos) (G0 true false fs):=uj true false hm ha hg hs hpl
end
theorem nr{α:Sort u}{a b:α}(h:a=b):a=b:=h
abbrev Mo(α:Type):=(α->Prop)->Prop
def ret{α:Type}(a:α):Mo α:=fun Q=>Q a
def Hl{α β:Type}(m:Mo α)(f:α->Mo β):Mo β:=fun Q=>m fun a=>f a Q
def G6{α:Type}(P:Prop)(m:Mo α):Mo α:=fun Q=>P/\m Q
def stk{α:Type}:Mo α:=fun _=>False
def anyM{α:Type}(P:α->Prop):Mo α:=fun Q=>∀a,P a->Q a
def aQ{α β:Type}(o:Option α)(f:α->Mo β):Mo β:=match o with
 | some a=>f a
 | none=>stk
section
variable{α β γ:Type}
theorem bnd_ret(a:α)(f:α->Mo β):Hl (ret a) f=f a:=nr rfl
theorem bnd_bnd(m:Mo α)(f:α->Mo β)(g:β->Mo γ):Hl (Hl m f) g=Hl m fun a=>Hl (f a) g:=nr rfl
theorem bnd_grd(P:Prop)(m:Mo α)(f:α->Mo β):Hl (G6 P m) f=G6 P (Hl m f):=nr rfl
theorem bnd_stk(f:α->Mo β):Hl stk f=stk:=nr rfl
theorem bnd_ite(c:Prop)[Decidable c](a b:Mo α)(f:α->Mo β):Hl (if c then a else b) f=if c then Hl a f else Hl b f:=by split<;>rfl
theorem bnd_opt(o:Option α)(k:α->Mo β)(f:β->Mo γ):Hl (aQ o k) f=aQ o fun a=>Hl (k a) f:=by cases o<;>rfl
theorem opt_some(a:α)(k:α->Mo β):aQ (some a) k=k a:=nr rfl
theorem opt_none(k:α->Mo β):aQ none k=stk:=nr rfl
theorem ai{P:Prop}(h:P)(m:Mo α):G6 P m=m:=by funext Q;exact propext ⟨fun z=>z.2,fun z=>⟨h,z⟩⟩
theorem grd_T(m:Mo α):G6 True m=m:=ai trivial m
theorem gA(c:Prop)[Decidable c](a b:Mo α)(Q:α->Prop):(if c then a else b) Q=if c then a Q else b Q:=by split<;>rfl
theorem ag{m n:Mo α}(h:∀Q,m Q↔n Q):m=n:=funext fun Q=>propext (h Q)
end
noncomputable def asI:W->Option Int
 | .d (.int i)=>some i
 | _=>none
noncomputable def asB:W->Option Bool
 | .d (.bool b)=>some b
 | _=>none
noncomputable def asS:W->Option Str
 | .d (.str b)=>some b
 | _=>none
noncomputable def asD:W->Option IJ
 | .d x=>some x
 | _=>none
noncomputable def lstD:IJ->Option (List IJ)
 | .list xs=>some xs
 | _=>none
noncomputable def tupD:IJ->Option (List IJ)
 | .tuple xs=>some xs
 | _=>none
def Ht(w:W):Option (List IJ):=w.dat.bind lstD
def Hq(w:W):Option (List IJ):=(asD w).bind tupD
def Hs(w:W):Option (List IJ):=w.dat.bind d_
noncomputable def FW:W->Option Int
 | .d (.int i)=>some i
 | .d (.bool b)=>some (if b then 1 else 0)
 | _=>none
noncomputable def EM:W->Option String
 | .vv (.ty T)=>some T
 | _=>none
noncomputable def xS:List IJ->Option (List Bool)
 | []=>some []
 | .bool b::r=>(xS r).map (b :: ·)
 | _=>none
noncomputable def jH:List IJ->Option (List Int)
 | []=>some []
 | .int b::r=>(jH r).map (b :: ·)
 | _=>none
theorem blsD_map:∀bs:List Bool,xS (bs.map .bool)=some bs
 | []=>rfl
 | b::bs=>by show(xS (bs.map .bool)).map (b :: ·)=_;rw[blsD_map bs];rfl
theorem rj:∀{xs:List IJ}{bs:List Bool},xS xs=some bs->xs=bs.map .bool
 | [],bs,h=>by cases h;rfl
 | .bool b::r,bs,h=>by
   have h:(xS r).map (b :: ·)=some bs:=h
   cases q:xS r with
   | none=>rw[q]at h;cases h
   | some cs=>rw[q]at h;cases h;rw[rj q];rfl
 | .none::_,_,h=>by cases h
 | .int _::_,_,h=>by cases h
 | .str _::_,_,h=>by cases h
 | .list _::_,_,h=>by cases h
 | .tuple _::_,_,h=>by cases h
 | .dict _::_,_,h=>by cases h
theorem cX:∀bs:List Int,jH (bs.map .int)=some bs
 | []=>rfl
 | b::bs=>by show(jH (bs.map .int)).map (b :: ·)=_;rw[cX bs];rfl
theorem mw:∀{xs:List IJ}{bs:List Int},jH xs=some bs->xs=bs.map .int
 | [],bs,h=>by cases h;rfl
 | .int b::r,bs,h=>by
   have h:(jH r).map (b :: ·)=some bs:=h
   cases q:jH r with
   | none=>rw[q]at h;cases h
   | some cs=>rw[q]at h;cases h;rw[mw q];rfl
 | .none::_,_,h=>by cases h
 | .bool _::_,_,h=>by cases h
 | .str _::_,_,h=>by cases h
 | .list _::_,_,h=>by cases h
 | .tuple _::_,_,h=>by cases h
 | .dict _::_,_,h=>by cases h
theorem asI_d(i:Int):asI (.d (.int i))=some i:=rfl
theorem asB_d(i:Bool):asB (.d (.bool i))=some i:=rfl
theorem asS_d(i:Str):asS (.d (.str i))=some i:=rfl
theorem asD_d(i:IJ):asD (.d i)=some i:=rfl
theorem asT_d(x:IJ):Hq (.d x)=tupD x:=rfl
theorem asL_d(x:IJ):Ht (.d x)=lstD x:=rfl
theorem asL_ml(x:List IJ):Ht (.ml x)=some x:=rfl
theorem asL_pk(x:List IJ):Ht (.pk x)=some x:=rfl
theorem asQ_d(x:IJ):Hs (.d x)=d_ x:=rfl
theorem asQ_ml(x:List IJ):Hs (.ml x)=some x:=rfl
theorem asQ_pk(x:List IJ):Hs (.pk x)=some x:=rfl
theorem lstD_l(x:List IJ):lstD (.list x)=some x:=rfl
theorem tupD_t(x:List IJ):tupD (.tuple x)=some x:=rfl
theorem toI_i(i:Int):FW (.d (.int i))=some i:=rfl
theorem toI_b(i:Bool):FW (.d (.bool i))=some (if i then 1 else 0):=rfl
theorem isiT_t(T:String):EM (.vv (.ty T))=some T:=rfl
theorem cL{w:W}{i:Int}:asI w=some i↔w = .d (.int i):=by
 constructor
 · intro h;unfold asI at h;split at h<;>simp_all
 · rintro rfl;rfl
theorem mM{w:W}{i:Bool}:asB w=some i↔w = .d (.bool i):=by
 constructor
 · intro h;unfold asB at h;split at h<;>simp_all
 · rintro rfl;rfl
theorem AQ{w:W}{i:Str}:asS w=some i↔w = .d (.str i):=by
 constructor
 · intro h;unfold asS at h;split at h<;>simp_all
 · rintro rfl;rfl
theorem gL{w:W}{i:IJ}:asD w=some i↔w = .d i:=by
 constructor
 · intro h;unfold asD at h;split at h<;>simp_all
 · rintro rfl;rfl
theorem B5{w:IJ}{i:List IJ}:lstD w=some i↔w = .list i:=by
 constructor
 · intro h;unfold lstD at h;split at h<;>simp_all
 · rintro rfl;rfl
theorem v6{w:IJ}{i:List IJ}:tupD w=some i↔w = .tuple i:=by
 constructor
 · intro h;unfold tupD at h;split at h<;>simp_all
 · rintro rfl;rfl
theorem io{w:W}{i:List IJ}:Hq w=some i↔w = .d (.tuple i):=by
 constructor
 · intro h;unfold Hq at h
   cases q:asD w with
   | none=>rw[q]at h;cases h
   | some x=>rw[q]at h;rw[gL.mp q,v6.mp h]
 · rintro rfl;rfl
theorem rq{w:W}{i:List IJ}:Ht w=some i↔w.dat=some (.list i):=by
 unfold Ht;constructor
 · intro h
   cases q:w.dat with
   | none=>rw[q]at h;cases h
   | some x=>rw[q]at h;rw[B5.mp h]
 · intro h;rw[h];rfl
theorem aq{o:Option α}{k:α->Mo β}{Q:β->Prop}:aQ o k Q↔∃a,o=some a/\k a Q:=by
 cases o with
 | none=>exact⟨fun z=>z.elim,fun⟨_,z,_⟩=>by cases z⟩
 | some a=>exact⟨fun z=>⟨a,rfl,z⟩,fun⟨_,e,z⟩=>by cases e;exact z⟩
section
variable{fa fb fc:TV}{fs:HA}{f g:TB}{ρ:En}{t u:HB}
theorem m_vC(x:IJ):vC x ρ=ret (.d x):=nr rfl
theorem m_vVar(i:Nat):xY i ρ=aQ ((ρ[i]?).join) fun w=>ret w.peek:=by
 refine ag fun Q=>?_;rw[aq];constructor
 · rintro⟨w,e,q⟩;exact⟨w,by rw[e];rfl,q⟩
 · rintro⟨w,e,q⟩;refine⟨w,?_,q⟩
   cases h:ρ[i]? with
   | none=>rw[h]at e;cases e
   | some o=>rw[h]at e;cases o with
     | none=>cases e
     | some x=>cases e;rfl
theorem m_vNil:uy ρ=ret []:=nr rfl
theorem m_vCons{f:TV}:jf f fs ρ=Hl (f ρ) fun w=>Hl (fs ρ) fun ws=>ret (w.fz::ws):=nr rfl
theorem m_vOp(h:W->W->(W->Prop)->Prop):FO h fa fb ρ=Hl (fa ρ) fun x=>Hl (fb ρ) fun y=>h x y:=nr rfl
theorem m_gI(C:Int->Int->Prop)(h:Int->Int->IJ)(x y:W):gI C h x y=aQ (asI x) fun i=>aQ (asI y) fun j=>G6 (C i j) (ret (.d (h i j))):=by
 refine ag fun Q=>?_;simp only[aq,cL,gI,G6,ret];exact⟨fun⟨i,j,a,b,c,q⟩=>⟨i,a,j,b,c,q⟩,fun⟨i,a,j,b,c,q⟩=>⟨i,j,a,b,c,q⟩⟩
theorem m_gI0(h:Int->Int->IJ)(x y:W):Ha h x y=aQ (asI x) fun i=>aQ (asI y) fun j=>ret (.d (h i j)):=by
 refine ag fun Q=>?_;simp only[aq,cL,Ha,ret];exact⟨fun⟨i,j,a,b,q⟩=>⟨i,a,j,b,q⟩,fun⟨i,a,j,b,q⟩=>⟨i,j,a,b,q⟩⟩
theorem m_vNeg:Bs fa ρ=Hl (fa ρ) fun x=>aQ (asI x) fun i=>ret (.d (.int (-i))):=by
 refine ag fun Q=>?_;simp only[Bs,Hl,aq,cL,ret]
theorem m_vTest{f:TV}:mT f ρ=Hl (f ρ) fun w=>aQ (asB w) ret:=by
 refine ag fun Q=>?_;simp only[mT,Hl,aq,mM,ret]
theorem m_gEqD(neg:Bool)(x y:W):Cm neg x y=aQ x.dat fun dx=>aQ y.dat fun dy=>G6 (K8 dx=true) (G6 (K8 dy=true) (ret (.d (.bool (if neg then !Mv dx dy else Mv dx dy))))):=by
 refine ag fun Q=>?_;simp only[aq,Cm,G6,ret];exact⟨fun⟨i,j,a,b,c,d,q⟩=>⟨i,a,j,b,c,d,q⟩,fun⟨i,a,j,b,c,d,q⟩=>⟨i,j,a,b,c,d,q⟩⟩
theorem m_vAnd:Bw f g ρ=Hl (f ρ) fun b=>if b=true then g ρ else ret false:=by
 refine ag fun Q=>?_;simp only[Bw,Hl,gA,ret]
theorem m_vOr:FN f g ρ=Hl (f ρ) fun b=>if b=true then ret true else g ρ:=by
 refine ag fun Q=>?_;simp only[FN,Hl,gA,ret]
theorem m_vAndV:vV fa fb ρ=Hl (fa ρ) fun w=>aQ (asB w) fun b=>if b=true then fb ρ else ret (.d (.bool false)):=by
 refine ag fun Q=>?_;simp only[vV,Hl,aq,mM,gA,ret]
theorem m_vOrV:AX fa fb ρ=Hl (fa ρ) fun w=>aQ (asB w) fun b=>if b=true then ret (.d (.bool true))else fb ρ:=by
 refine ag fun Q=>?_;simp only[AX,Hl,aq,mM,gA,ret]
theorem m_vNotV:vR fa ρ=Hl (fa ρ) fun w=>aQ (asB w) fun b=>ret (.d (.bool (!b))):=by
 refine ag fun Q=>?_;simp only[vR,Hl,aq,mM,ret]
theorem m_vIf{t:TB}:FP t fa fb ρ=Hl (t ρ) fun c=>if c=true then fa ρ else fb ρ:=by
 refine ag fun Q=>?_;simp only[FP,Hl,gA]
theorem m_vTup:yE fs ρ=Hl (fs ρ) fun ws=>aQ (li ws) fun ds=>G6 (ds.length<=sizeLine) (ret (.d (.tuple ds))):=by
 refine ag fun Q=>?_;simp only[yE,Hl,aq,G6,ret]
theorem m_vLst:Bt fs ρ=Hl (fs ρ) fun ws=>aQ (li ws) fun ds=>G6 (ds.length<=sizeLine) (ret (.ml ds)):=by
 refine ag fun Q=>?_;simp only[Bt,Hl,aq,G6,ret]
theorem m_gIx(x y:W):G9 x y=aQ x.dat fun dx=>aQ (asI y) fun i=>aQ (itemAt dx i) fun z=>ret (.d z):=by
 refine ag fun Q=>?_;simp only[G9,aq,cL,ret];exact⟨fun⟨i,j,z,a,b,c,q⟩=>⟨i,a,j,b,z,c,q⟩,fun⟨i,a,j,b,z,c,q⟩=>⟨i,j,z,a,b,c,q⟩⟩
theorem m_vCall(h:List W->(W->Prop)->Prop):cR h fs ρ=Hl (fs ρ) h:=nr rfl
theorem m_gAbs(w:W):Bc [w]=aQ (asI w) fun i=>ret (.d (.int (if i<0 then -i else i))):=by
 refine ag fun Q=>?_;simp only[Bc,aq,cL,ret,Kf,and_true]
theorem m_gLen(w:W):x_ [w]=aQ w.dat fun d=>aQ (qu d) fun n=>ret (.d (.int n)):=by
 refine ag fun Q=>?_;simp only[x_,aq,ret,Kf,and_true];exact⟨fun⟨w',d,n,e,a,b,q⟩=>by subst e;exact⟨d,a,n,b,q⟩,fun⟨d,a,n,b,q⟩=>⟨w,d,n,rfl,a,b,q⟩⟩
theorem m_gTupO(w:W):qE [w]=aQ (Hs w) fun xs=>ret (.d (.tuple xs)):=by
 refine ag fun Q=>?_;simp only[qE,aq,ret,Kf,and_true];constructor
 · rintro⟨w',d,xs,e,a,b,q⟩;subst e;exact⟨xs,by unfold Hs;rw[a];exact b,q⟩
 · rintro⟨xs,e,q⟩;unfold Hs at e
   cases h:w.dat with
   | none=>rw[h]at e;cases e
   | some d=>rw[h]at e;exact⟨w,d,xs,rfl,h,e,q⟩
theorem m_gLstO(w:W):tS [w]=aQ (Hs w) fun xs=>ret (.ml xs):=by
 refine ag fun Q=>?_;simp only[tS,aq,ret,Kf,and_true];constructor
 · rintro⟨w',d,xs,e,a,b,q⟩;subst e;exact⟨xs,by unfold Hs;rw[a];exact b,q⟩
 · rintro⟨xs,e,q⟩;unfold Hs at e
   cases h:w.dat with
   | none=>rw[h]at e;cases e
   | some d=>rw[h]at e;exact⟨w,d,xs,rfl,h,e,q⟩
theorem m_gIsN(neg:Bool)(x:W):A_ neg x (.d .none)=aQ x.dat fun d=>ret (.d (.bool (if neg then !ii d else ii d))):=by
 refine ag fun Q=>?_;simp only[aq,A_,ret,true_and]
theorem m_gI2(h:Int->Int->IJ)(x y:W):G_ h [x,y]=aQ (asI x) fun i=>aQ (asI y) fun j=>ret (.d (h i j)):=by
 refine ag fun Q=>?_;simp only[aq,cL,G_,ret,Kf,and_true];exact⟨fun⟨i,j,⟨a,b⟩,q⟩=>⟨i,a,j,b,q⟩,fun⟨i,a,j,b,q⟩=>⟨i,j,⟨a,b⟩,q⟩⟩
theorem m_gDivmod(x y:W):iY [x,y]=aQ (asI x) fun i=>aQ (asI y) fun j=>G6 (0<j) (G6 (j<1073741824) (ret (.d (.tuple [.int (i / j),.int (i%j)])))):=by
 refine ag fun Q=>?_;simp only[aq,cL,iY,G6,ret,Kf,and_true];exact⟨fun⟨i,j,⟨a,b⟩,c,d,q⟩=>⟨i,a,j,b,c,d,q⟩,fun⟨i,a,j,b,c,d,q⟩=>⟨i,j,⟨a,b⟩,c,d,q⟩⟩
theorem yO{w:W}{i:Int}:FW w=some i↔(w = .d (.int i)\/∃b:Bool,w = .d (.bool b)/\i=if b then 1 else 0):=by
 constructor
 · intro h;unfold FW at h;split at h
   · cases h;exact .inl rfl
   · cases h;exact .inr ⟨_,rfl,rfl⟩
   · cases h
 · rintro(rfl|⟨b,rfl,rfl⟩)<;>rfl
theorem m_gInt1(w:W):qF [w]=aQ (FW w) fun i=>ret (.d (.int i)):=by
 refine ag fun Q=>?_;simp only[aq,yO,qF,ret,Kf,and_true];constructor
 · rintro(⟨i,rfl,q⟩|⟨k,rfl,q⟩)
   · exact⟨i,.inl rfl,q⟩
   · exact⟨_,.inr ⟨k,rfl,rfl⟩,q⟩
 · rintro⟨i,rfl|⟨b,rfl,rfl⟩,q⟩
   · exact .inl ⟨i,rfl,q⟩
   · exact .inr ⟨b,rfl,q⟩
theorem m_oNo:GL ρ=ret none:=nr rfl
theorem m_oIt:GM fa ρ=Hl (fa ρ) fun w=>aQ (asI w) fun i=>ret (some i):=by
 refine ag fun Q=>?_;simp only[GM,Hl,aq,cL,ret]
theorem m_vSlL{fl fh:HC}:DR fa fl fh ρ=Hl (fa ρ) fun w=>Hl (fl ρ) fun l=>Hl (fh ρ) fun h=>aQ (Ht w) fun xs=>ret (.ml (cutD xs l h)):=by
 refine ag fun Q=>?_;simp only[DR,Hl,aq,rq,ret]
theorem m_vSlA{fl fh:HC}:Bq fa fl fh ρ=Hl (fa ρ) fun w=>Hl (fl ρ) fun l=>Hl (fh ρ) fun h=>aQ (Hq w) fun xs=>ret (.d (.tuple (cutD xs l h))):=by
 refine ag fun Q=>?_;simp only[Bq,Hl,aq,io,ret]
theorem m_gCatD(x y:W):tU x y=aQ (Ht x) fun xs=>aQ (Ht y) fun ys=>G6 (xs.length+ys.length<=sizeLine) (ret (.ml (xs++ys))):=by
 refine ag fun Q=>?_;simp only[tU,aq,rq,G6,ret];exact⟨fun⟨i,j,a,b,c,q⟩=>⟨i,a,j,b,c,q⟩,fun⟨i,a,j,b,c,q⟩=>⟨i,j,a,b,c,q⟩⟩
theorem m_gCatA(x y:W):qG x y=aQ (Hq x) fun xs=>aQ (Hq y) fun ys=>G6 (xs.length+ys.length<=sizeLine) (ret (.d (.tuple (xs++ys)))):=by
 refine ag fun Q=>?_;simp only[qG,aq,io,G6,ret];exact⟨fun⟨i,j,a,b,c,q⟩=>⟨i,a,j,b,c,q⟩,fun⟨i,a,j,b,c,q⟩=>⟨i,j,a,b,c,q⟩⟩
noncomputable def FT(ws:List W):Option (Int×Int):=match ws with
 | [a,b]=>(asI a).bind fun i=>(asI b).map fun j=>(i,j)
 | _=>none
theorem two_d(a b:Int):FT [.d (.int a),.d (.int b)]=some (a,b):=rfl
theorem yL{ws:List W}{p:Int×Int}:FT ws=some p↔ws=[.d (.int p.1),.d (.int p.2)]:=by
 constructor
 · intro h
   match ws with
   | []=>cases h
   | [_]=>cases h
   | _::_::_::_=>cases h
   | [a,b] =>
     have h:((asI a).bind fun i=>(asI b).map fun j=>(i,j))=some p:=h
     cases ha:asI a with
     | none=>rw[ha]at h;cases h
     | some i =>
       cases hb:asI b with
       | none=>rw[ha,hb]at h;cases h
       | some j=>rw[ha,hb]at h;cases h;rw[cL.mp ha,cL.mp hb]
 · rintro rfl;rfl
theorem m_iL:iL fa ρ=Hl (fa ρ) fun w=>aQ ((asD w.fz).bind lstD) ret:=by
 show(Hl (fa ρ) fun w=>fun(Q:List IJ->Prop)=>∃xs,w.fz = .d (.list xs)/\Q xs)=_;congr 1;funext w;refine ag fun Q=>?_;simp only[aq,ret];constructor
 · rintro⟨xs,e,q⟩;exact⟨xs,by rw[e];rfl,q⟩
 · rintro⟨xs,e,q⟩
   cases h:asD w.fz with
   | none=>rw[h]at e;cases e
   | some x=>rw[h]at e;rw[gL.mp h,B5.mp e];exact⟨xs,rfl,q⟩
theorem m_iT:iT fa ρ=Hl (fa ρ) fun w=>aQ ((asD w.fz).bind tupD) ret:=by
 show(Hl (fa ρ) fun w=>fun(Q:List IJ->Prop)=>∃xs,w.fz = .d (.tuple xs)/\Q xs)=_;congr 1;funext w;refine ag fun Q=>?_;simp only[aq,ret];constructor
 · rintro⟨xs,e,q⟩;exact⟨xs,by rw[e];rfl,q⟩
 · rintro⟨xs,e,q⟩
   cases h:asD w.fz with
   | none=>rw[h]at e;cases e
   | some x=>rw[h]at e;rw[gL.mp h,v6.mp e];exact⟨xs,rfl,q⟩
theorem m_iR1:G4 fs ρ=Hl (fs ρ) fun ws=>aQ (ws.head?.bind asI) fun j=>G6 (ws.length=1) (G6 (-(2^62)<=j/\j<2^62) (ret (bp 0 j.toNat))):=by
 show(Hl (fs ρ) fun ws=>fun(Q:List IJ->Prop)=>∃j:Int,ws=[.d (.int j)]/\(-(2^62)<=j/\j<2^62)/\Q (bp 0 j.toNat))=_;congr 1;funext ws;refine ag fun Q=>?_;simp only[aq,G6,ret];constructor
 · rintro⟨j,rfl,a,q⟩;exact⟨j,rfl,rfl,a,q⟩
 · rintro⟨j,e,l,a,q⟩
   match ws,l with
   | [w],_=>rw[show w = .d (.int j)from cL.mp e];exact⟨j,rfl,a,q⟩
theorem m_iR2:G3 fs ρ=Hl (fs ρ) fun ws=>aQ (FT ws) fun p=>G6 (-(2^62)<=p.1/\p.1<2^62 /\ -(2^62)<=p.2/\p.2<2^62) (ret (bp p.1 (p.2-p.1).toNat)):=by
 show(Hl (fs ρ) fun ws=>fun(Q:List IJ->Prop)=>∃i j:Int,ws=[.d (.int i),.d (.int j)]/\(-(2^62)<=i/\i<2^62 /\ -(2^62)<=j/\j<2^62)/\Q (bp i (j-i).toNat))=_;congr 1;funext ws;refine ag fun Q=>?_;simp only[aq,yL,G6,ret];exact⟨fun⟨i,j,a,b,q⟩=>⟨(i,j),a,b,q⟩,fun⟨p,a,b,q⟩=>⟨p.1,p.2,a,b,q⟩⟩
noncomputable def Bi(b1 b2:Bool)(ws:List W):Option (List IJ):=match ws with
 | [.d x,.d y]=>if dw x=b1/\dw y=b2 then(d_ x).bind fun xs=>(d_ y).map fun ys=>i9 xs ys else none
 | _=>none
theorem m_iZb(b1 b2:Bool):G0 b1 b2 fs ρ=Hl (fs ρ) fun ws=>aQ (Bi b1 b2 ws) ret:=by
 show(Hl (fs ρ) fun ws=>fun(Q:List IJ->Prop)=>∃dx dy xs ys,ws=[.d dx,.d dy]/\d_ dx=some xs/\d_ dy=some ys/\dw dx=b1/\dw dy=b2/\Q (i9 xs ys))=_;congr 1;funext ws;refine ag fun Q=>?_;simp only[aq,ret];constructor
 · rintro⟨dx,dy,xs,ys,rfl,a,b,c,d,q⟩;exact⟨_,by show(if dw dx=b1/\dw dy=b2 then(d_ dx).bind fun xs=>(d_ dy).map fun ys=>i9 xs ys else none)=_;rw[if_pos ⟨c,d⟩,a,b];rfl,q⟩
 · rintro⟨zs,e,q⟩;unfold Bi at e;split at e
   · rename_i dx dy;split at e
     · rename_i c
       cases ha:d_ dx with
       | none=>rw[ha]at e;cases e
       | some xs =>
         cases hb:d_ dy with
         | none=>rw[ha,hb]at e;cases e
         | some ys=>rw[ha,hb]at e;cases e;exact⟨dx,dy,xs,ys,rfl,ha,hb,c.1,c.2,q⟩
     · cases e
   · cases e
theorem m_vUse(Pd:List W->(IJ->Prop)->Prop):Bn Pd fs ρ=Hl (fs ρ) fun ws=>G6 (ws.all d6=true) (Hl (Pd ws) fun d=>ret (.d d)):=nr rfl
theorem m_gAll(h:List Bool->Bool)(w:W):Bb h [w]=aQ ((Ht w).bind xS) fun bs=>ret (.d (.bool (h bs))):=by
 refine ag fun Q=>?_;simp only[Bb,aq,ret,Kf,and_true];constructor
 · rintro⟨w',bs,rfl,e,q⟩;exact⟨bs,by rw[rq.mpr e];exact blsD_map bs,q⟩
 · rintro⟨bs,e,q⟩
   cases hl:Ht w with
   | none=>rw[hl]at e;cases e
   | some xs=>rw[hl]at e;refine⟨w,bs,rfl,?_,q⟩;rw[<- rj e];exact rq.mp hl
theorem m_gRepT(x y:W):tQ x y=aQ (Hq x) fun xs=>aQ (asI y) fun k=>G6 (xs≠[]/\1<=k/\k<2^62/\xs.length*k.toNat<=sizeLine) (ret (.d (.tuple (I0 k.toNat xs).flatten))):=by
 refine ag fun Q=>?_;simp only[tQ,aq,io,cL,G6,ret];exact⟨fun⟨i,j,a,b,c,d,e,f,q⟩=>⟨i,a,j,b,⟨c,d,e,f⟩,q⟩,fun⟨i,a,j,b,⟨c,d,e,f⟩,q⟩=>⟨i,j,a,b,c,d,e,f,q⟩⟩
theorem m_gRepL(x y:W):tR x y=aQ (Ht x) fun xs=>aQ (asI y) fun k=>G6 (-(2^63)<=k/\k<2^63/\xs.length*k.toNat<=sizeLine) (ret (.ml (I0 k.toNat xs).flatten)):=by
 refine ag fun Q=>?_;simp only[tR,aq,rq,cL,G6,ret];exact⟨fun⟨i,j,a,b,c,d,e,q⟩=>⟨i,a,j,b,⟨c,d,e⟩,q⟩,fun⟨i,a,j,b,⟨c,d,e⟩,q⟩=>⟨i,j,a,b,c,d,e,q⟩⟩
theorem m_vRevT:vQ fa ρ=Hl (fa ρ) fun w=>aQ (Hq w) fun xs=>ret (.d (.tuple xs.reverse)):=by
 refine ag fun Q=>?_;simp only[vQ,Hl,aq,io,ret]
theorem m_gEqS(neg:Bool)(x y:W):Ba neg x y=aQ (asS x) fun i=>aQ (asS y) fun j=>ret (.d (.bool (if neg then !decide (i=j)else decide (i=j)))):=by
 refine ag fun Q=>?_;simp only[aq,AQ,Ba,ret];exact⟨fun⟨i,j,a,b,q⟩=>⟨i,a,j,b,q⟩,fun⟨i,a,j,b,q⟩=>⟨i,j,a,b,q⟩⟩
end
inductive Fl where
 | nx (ρ:En)|rt (w:W)|bk (ρ:En)|ct (ρ:En)
def mS(t:HB)(ρ:En):Mo Fl:=fun Q=>t ⟨fun ρ=>Q (.nx ρ),fun w=>Q (.rt w),fun ρ=>Q (.bk ρ),fun ρ=>Q (.ct ρ)⟩ ρ
def sq(m:Mo Fl)(k:En->Mo Fl):Mo Fl:=Hl m fun fl=>match fl with
 | .nx ρ=>k ρ
 | .rt w=>ret (.rt w)
 | .bk ρ=>ret (.bk ρ)
 | .ct ρ=>ret (.ct ρ)
def ya(Q:IJ->Prop):Fl->Prop
 | .nx _=>Q .none
 | .rt w=>∃d,w.fz = .d d/\Q d
 | _=>False
section
variable{fa fb fc:TV}{fs:HA}{f g:TB}{ρ:En}{t u:HB}{k:En->Mo Fl}
theorem aB{Q:IJ->Prop}(h:mS t ρ (ya Q)):t (mU Q) ρ:=h
theorem end_d(Q:IJ->Prop)(d:IJ):ya Q (.rt (.d d))=Q d:=propext ⟨fun⟨_,e,q⟩=>by cases e;exact q,fun q=>⟨d,rfl,q⟩⟩
theorem end_ml(Q:IJ->Prop)(d:List IJ):ya Q (.rt (.ml d))=Q (.list d):=propext ⟨fun⟨_,e,q⟩=>by cases e;exact q,fun q=>⟨_,rfl,q⟩⟩
theorem end_nx(Q:IJ->Prop)(ρ:En):ya Q (.nx ρ)=Q .none:=nr rfl
theorem sq_nx:sq (ret (.nx ρ)) k=k ρ:=nr rfl
theorem sq_rt(w:W):sq (ret (.rt w)) k=ret (.rt w):=nr rfl
theorem sq_bk:sq (ret (.bk ρ)) k=ret (.bk ρ):=nr rfl
theorem sq_ct:sq (ret (.ct ρ)) k=ret (.ct ρ):=nr rfl
theorem sq_grd(P:Prop)(m:Mo Fl):sq (G6 P m) k=G6 P (sq m k):=nr rfl
theorem sq_stk:sq stk k=stk:=nr rfl
theorem sq_ite(c:Prop)[Decidable c](a b:Mo Fl):sq (if c then a else b) k=if c then sq a k else sq b k:=by split<;>rfl
theorem yZ(o:Option α)(h:α->Mo Fl):sq (aQ o h) k=aQ o fun a=>sq (h a) k:=by cases o<;>rfl
theorem s_next:mS vS ρ=ret (.nx ρ):=nr rfl
theorem s_seq:mS (xZ t u) ρ=sq (mS t ρ) (mS u):=by
 refine ag fun Q=>?_;show t ⟨fun ρ=>u ⟨_,_,_,_⟩ ρ,_,_,_⟩ ρ↔_;exact MS
theorem s_ret:mS (Br fa) ρ=Hl (fa ρ) fun w=>ret (.rt w):=nr rfl
theorem s_ifS:mS (AY f t u) ρ=Hl (f ρ) fun b=>if b=true then mS t ρ else mS u ρ:=by
 refine ag fun Q=>?_;simp only[mS,AY,Hl,gA]
theorem s_set(i:Nat):mS (AW i fa) ρ=Hl (fa ρ) fun w=>G6 (w.isPk=false) (ret (.nx (ρ.set i (some w)))):=nr rfl
theorem s_never:mS (fun _ _=>False) ρ=stk:=nr rfl
theorem m_hName(i:Nat)(x:IJ):xv i x ρ=ret (ρ.set i (some (.d x))):=nr rfl
theorem Ad(xs:List IJ):Cj xs ρ=G6 (xs=[]) (ret ρ):=nr rfl
theorem xf{g:HE}{gs:rN}(xs:List IJ):tL g gs xs ρ=aQ (match xs with | []=>none|y::r=>some (y,r)) fun p=>Hl (g p.1 ρ) fun ρ'=>gs p.2 ρ':=by
 refine ag fun Q=>?_;simp only[aq,tL,Hl];constructor
 · rintro⟨y,r,rfl,q⟩;exact⟨(y,r),rfl,q⟩
 · rintro⟨p,e,q⟩
   cases xs with
   | nil=>cases e
   | cons y r=>cases e;exact⟨y,r,rfl,q⟩
theorem m_hCons_c{g:HE}{gs:rN}(y:IJ)(r:List IJ):tL g gs (y::r) ρ=Hl (g y ρ) fun ρ'=>gs r ρ':=by rw[xf];rfl
theorem m_hNil_n:Cj [] ρ=ret ρ:=by rw[Ad,ai rfl]
theorem m_hTup(n:Nat){gs:rN}(x:IJ):Ci n gs x ρ=aQ (tupD x) fun xs=>G6 (xs.length=n) (gs xs ρ):=by
 refine ag fun Q=>?_;simp only[aq,v6,Ci,G6]
theorem s_asg{g:HE}:mS (A0 fa g) ρ=Hl (fa ρ) fun w=>aQ (asD w) fun x=>Hl (g x ρ) fun ρ'=>ret (.nx ρ'):=by
 refine ag fun Q=>?_;simp only[mS,A0,Hl,aq,gL,ret]
theorem s_par(i j:Nat):mS (DS i j fs) ρ=Hl (fs ρ) fun ws=>aQ (li ws) fun ds=>aQ (match ds with | [x,y]=>some (x,y)|_=>none) fun p=>ret (.nx ((ρ.set i (some (.d p.1))).set j (some (.d p.2)))):=by
 show(Hl (fs ρ) fun ws=>fun(Q:Fl->Prop)=>∃x y,li ws=some [x,y]/\Q (.nx ((ρ.set i (some (.d x))).set j (some (.d y)))))=_;congr 1;funext ws;refine ag fun Q=>?_;simp only[aq,ret];constructor
 · rintro⟨x,y,e,q⟩;exact⟨_,e,(x,y),rfl,q⟩
 · rintro⟨ds,e,p,e2,q⟩;split at e2
   · cases e2;exact⟨_,_,e,q⟩
   · cases e2
noncomputable def Gq(ρ:En)(i:Nat):Option Int:=((ρ[i]?).join).bind asI
noncomputable def asM:W->Option (List IJ)
 | .ml xs=>some xs
 | _=>none
noncomputable def Go(ρ:En)(i:Nat):Option (List IJ):=((ρ[i]?).join).bind asM
theorem asM_ml(xs:List IJ):asM (.ml xs)=some xs:=rfl
theorem D_{w:W}:asM w=some xs↔w = .ml xs:=by
 constructor
 · intro h;unfold asM at h;split at h<;>simp_all
 · rintro rfl;rfl
theorem o7:Go ρ i=some xs↔ρ[i]?=some (some (.ml xs)):=by
 unfold Go;constructor
 · intro h
   cases q:ρ[i]? with
   | none=>rw[q]at h;cases h
   | some o=>rw[q]at h;cases o with
     | none=>cases h
     | some w=>rw[D_.mp h]
 · intro h;rw[h];rfl
theorem y_{n:Int}:Gq ρ i=some n↔ρ[i]?=some (some (.d (.int n))):=by
 unfold Gq;constructor
 · intro h
   cases q:ρ[i]? with
   | none=>rw[q]at h;cases h
   | some o=>rw[q]at h;cases o with
     | none=>cases h
     | some w=>rw[cL.mp h]
 · intro h;rw[h];rfl
theorem s_aug(i:Nat)(C:Int->Int->Prop)(h:Int->Int->Int):mS (Bv i C h fa) ρ=aQ (Gq ρ i) fun n=>Hl (fa ρ) fun w=>aQ (asI w) fun m=>G6 (C n m) (ret (.nx (ρ.set i (some (.d (.int (h n m))))))):=by
 refine ag fun Q=>?_;simp only[mS,Bv,Hl,aq,y_,cL,G6,ret]
theorem s_frz(i:Nat):mS (Bu i t) ρ=aQ (Go ρ i) fun xs=>mS t (ρ.set i (some (.d (.list xs)))):=by
 refine ag fun Q=>?_;simp only[mS,Bu,aq,o7]
theorem s_mut(i:Nat)(h:List IJ->List W->(List IJ->Prop)->Prop):mS (x5 i h fs) ρ=aQ (Go ρ i) fun xs=>Hl (fs ρ) fun ws=>Hl (h xs ws) fun ys=>ret (.nx (ρ.set i (some (.ml ys)))):=by
 refine ag fun Q=>?_;simp only[mS,x5,Hl,aq,o7,ret]
theorem m_gApp(xs:List IJ)(w:W):Au xs [w]=aQ (asD w) fun x=>G6 (xs.length<sizeLine) (ret (xs++[x])):=by
 refine ag fun Q=>?_;simp only[Au,aq,gL,G6,ret];constructor
 · rintro⟨x,e,a,q⟩;cases w<;>first|(cases e;exact⟨_,rfl,a,q⟩)|cases e
 · rintro⟨x,rfl,a,q⟩;exact⟨x,rfl,a,q⟩
end
def Le(a b:En):Prop:=a.length=b.length/\∀(i:Nat) w,a[i]?=some (some w)->b[i]?=some (some w)
theorem Le.refl(a:En):Le a a:=⟨rfl,fun _ _ h=>h⟩
theorem Le.trans{a b c:En}(h:Le a b)(h':Le b c):Le a c:=⟨h.1.trans h'.1,fun i w e=>h'.2 i w (h.2 i w e)⟩
theorem le_nil:Le [] []=True:=propext ⟨fun _=>trivial,fun _=>Le.refl _⟩
theorem le_cn(x:Option W)(a b:En):Le (none::a) (x::b)=Le a b:=by
 refine propext ⟨fun h=>⟨by have:=h.1;simpa using this,fun i w e=>by have:=h.2 (i+1) w (by simpa using e);simpa using this⟩,fun h=>⟨by simp[h.1],fun i w e=>?_⟩⟩
 cases i with
 | zero=>simp at e
 | succ i=>simpa using h.2 i w (by simpa using e)
theorem le_cs(x:Option W)(a b:En):Le (x::a) (x::b)=Le a b:=by
 refine propext ⟨fun h=>⟨by have:=h.1;simpa using this,fun i w e=>by have:=h.2 (i+1) w (by simpa using e);simpa using this⟩,fun h=>⟨by simp[h.1],fun i w e=>?_⟩⟩
 cases i with
 | zero=>simpa using e
 | succ i=>simpa using h.2 i w (by simpa using e)
theorem VR.le{K:W.Frag}{ρ0:En}(R:VR K rl F₀ H₀ F H σ ρ)(h:Le ρ0 ρ):VR K rl F₀ H₀ F H σ ρ0 :=
 ⟨R.g,fun i w e=>R.sl i w (h.2 i w e),fun i j x y v n e1 e2=>R.ap i j x y v n (h.2 i x e1) (h.2 j y e2),fun i xs e=>R.np i xs (h.2 i _ e),h.1.trans R.len⟩
noncomputable def fo:List Nat->En->En
 | [],ρ=>ρ
 | i::l,ρ=>fo l (ρ.set i none)
theorem Ag(ρ:En)(i:Nat):Le (ρ.set i none) ρ:=by
 refine⟨by simp,fun j w e=>?_⟩;rw[J8]at e;split at e
 · split at e
   · cases e
   · cases e
 · exact e
theorem ff:∀(l:List Nat)(ρ:En),Le (fo l ρ) ρ
 | [],ρ=>Le.refl ρ
 | i::l,ρ=>(ff l (ρ.set i none)).trans (Ag ρ i)
theorem fo_nil(ρ:En):fo [] ρ=ρ:=rfl
theorem fo_cons(i:Nat)(l:List Nat)(ρ:En):fo (i::l) ρ=fo l (ρ.set i none):=rfl
def cf(fl:List Nat)(g:HE)(t:HB):List IJ->HB
 | [],D,ρ=>D.nx ρ
 | x::xs,D,ρ=>g x ρ fun ρ2=>t {D with nx:=fun ρ'=>cf fl g t xs D (fo fl ρ'),ct:=fun ρ'=>cf fl g t xs D (fo fl ρ'),bk:=fun ρ'=>D.nx (fo fl ρ')} ρ2
def yH(fl:List Nat)(fi:En->(List IJ->Prop)->Prop)(g:HE)(t:HB):HB:=fun D ρ=>fi ρ fun xs=>cf fl g t xs D (fo fl ρ)
section
variable{X:Cx}{rl:RlT}{st:Stmt}{rest body:List Stmt}{t u:HB}{a b c e:Expr}{es:List Expr}{fa fb:TV}{fs:HA}{f:TB}{pos p:Pos}
theorem bV(fl:List Nat){g:HE}(hp:O1 (Jv X.prog X.w) X.A X.env X.xe)(hc:X.calm=true)(hi:HW X rl tg iter fi)(hg:HZ X rl tg g)(hb:mP X rl body t)
 (hs:∀x,JE iter X.env x=pure x:=by intro _;rfl):HS X rl (.For tg iter body [] pos) (yH fl fi g t):=by
 obtain⟨wi,p0,k0⟩:=hi;obtain⟨G,p1,k1⟩:=hg;obtain⟨T,p2,k2⟩:=hb;refine⟨_,uI hp hc p0 p1 p2 hs,fun{F₀ H₀ F H σ ρ} R Dv D ok q=>k0 R _ _ q fun J xs F1 H1 g1 vi q1=>?_⟩;refine⟨fun i m σ H=>m=xs.length-i/\i<=xs.length/\∃F ρ,bE F1 F/\VR X.K rl F₀ H₀ F H σ ρ/\cf fl g t (xs.drop i) Dv ρ,⟨xs.length,by simp,Kc _,F1,fo fl ρ,.refl _,(R.grow g1).le (ff fl ρ),by simpa using q1⟩,?_⟩;rintro i m σ H ⟨rfl,hi,F2,ρ2,s2,R2,j2⟩;have sH:bE F1 H:=s2.trans R2.sub;by_cases hlt:i<xs.length
 · have ei:xs[i]?=some xs[i]:=by simp[hlt]
   rw[J1 hlt]at j2;refine .inr ⟨vi.go i H _ ei sH,fun σ' H'=>∃F ρ,bE F1 F/\VR X.K rl F₀ H₀ F H' σ' ρ/\cf fl g t (xs.drop (i+1)) Dv ρ,fun σ' H' z=>⟨xs.length-(i+1),by omega,rfl,hlt,z⟩,fun v H' y=>?_⟩;obtain⟨Fy,gy,rv⟩:=vi.yld i H v H' _ F2 ei s2 R2.sub R2.reel y;refine k1 (R2.grow gy) v _ _ _ rv j2 fun F3 H3 σ3 ρ3 s3 n3 R3 q3=>?_;have s13:bE F1 F3:=s2.trans (gy.fs.trans s3.fs)
   exact k2 R3 {Dv with nx:=fun ρ'=>cf fl g t (xs.drop (i+1)) Dv (fo fl ρ'),ct:=fun ρ'=>cf fl g t (xs.drop (i+1)) Dv (fo fl ρ'),bk:=fun ρ'=>Dv.nx (fo fl ρ')} _
    ⟨fun F4 H4 σ4 ρ4 s4 R4 q4=>⟨F4,fo fl ρ4,s13.trans s4,R4.le (ff fl ρ4),q4⟩,ok.rt,fun F4 H4 σ4 ρ4 s4 R4 q4=>ok.nx _ _ _ _ (g1.fs.trans (s13.trans s4)) (R4.le (ff fl ρ4)) q4,fun F4 H4 σ4 ρ4 s4 R4 q4=>⟨F4,fo fl ρ4,s13.trans s4,R4.le (ff fl ρ4),q4⟩⟩ q3
 · have e:i=xs.length:=by omega
   subst e;rw[Lc]at j2;exact .inl ⟨vi.stop _ H (I_ _) sH,ok.nx _ _ _ _ (g1.fs.trans s2) R2 j2⟩
def FI(fl:List Nat)(f:TB)(t:HB)(m:Nat):HB:=fun D ρ=>f ρ fun b=>if b=true then t {D with nx:=fun ρ'=>∃k,∃h:k<m,FI fl f t k D (fo fl ρ'),ct:=fun ρ'=>∃k,∃h:k<m,FI fl f t k D (fo fl ρ'),bk:=fun ρ'=>D.nx (fo fl ρ')} ρ else D.nx ρ
termination_by m
def oD(fl:List Nat)(f:TB)(t:HB):HB:=fun D ρ=>∃m,FI fl f t m D (fo fl ρ)
theorem uw(fl:List Nat)(f:TB)(t:HB)(m:Nat)(D:VEnds)(ρ:En):FI fl f t m D ρ=f ρ fun b=>if b=true then t {D with nx:=fun ρ'=>∃k,∃h:k<m,FI fl f t k D (fo fl ρ'),ct:=fun ρ'=>∃k,∃h:k<m,FI fl f t k D (fo fl ρ'),bk:=fun ρ'=>D.nx (fo fl ρ')} ρ else D.nx ρ:=by
 conv=>lhs;unfold FI
theorem fO(fl:List Nat)(hp:O1 (Jv X.prog X.w) X.A X.env X.xe)(hc:PB X rl c f)(hb:mP X rl body t):HS X rl (.While c body [] pos) (oD fl f t):=by
 obtain⟨t0,p0,k0⟩:=hc;obtain⟨t1,p1,k1⟩:=hb;refine⟨_,sI hp p0 p1,fun{F₀ H₀ F H σ ρ} R Dv D ok q=>?_⟩;obtain⟨m,j0⟩:=q;refine⟨fun m σ' H'=>∃F' ρ',bE F F'/\VR X.K rl F₀ H₀ F' H' σ' ρ'/\FI fl f t m Dv ρ',⟨m,F,fo fl ρ,.refl _,R.le (ff fl ρ),j0⟩,?_⟩;rintro m σ2 H2 ⟨F2,ρ2,s2,R2,j⟩;rw[uw]at j;refine k0 R2 _ _ j fun b F1 H1 g1 q1=>?_
 cases b with
 | false=>exact ok.nx _ _ _ _ (s2.trans g1.fs) (R2.grow g1) q1
 | true =>
   refine⟨fun σ' H'=>∃F' ρ',bE F F'/\VR X.K rl F₀ H₀ F' H' σ' ρ'/\∃m',m'<m/\FI fl f t m' Dv ρ',fun σ' H' ⟨F',ρ',s',R',m',hm,j⟩=>⟨m',hm,F',ρ',s',R',j⟩,?_⟩
   exact k1 (R2.grow g1) {Dv with nx:=fun ρ'=>∃k,∃h:k<m,FI fl f t k Dv (fo fl ρ'),ct:=fun ρ'=>∃k,∃h:k<m,FI fl f t k Dv (fo fl ρ'),bk:=fun ρ'=>Dv.nx (fo fl ρ')} _
    ⟨fun F3 H3 σ3 ρ3 s3 R3 ⟨m',hm,q3⟩=>⟨F3,fo fl ρ3,(s2.trans g1.fs).trans s3,R3.le (ff fl ρ3),m',hm,q3⟩,ok.rt,fun F3 H3 σ3 ρ3 s3 R3 q3=>ok.nx _ _ _ _ ((s2.trans g1.fs).trans s3) (R3.le (ff fl ρ3)) q3,fun F3 H3 σ3 ρ3 s3 R3 ⟨m',hm,q3⟩=>⟨F3,fo fl ρ3,(s2.trans g1.fs).trans s3,R3.le (ff fl ρ3),m',hm,q3⟩⟩ q1
end
noncomputable def GS(fl:List Nat)(k:En->Mo Fl):Fl->Mo Fl
 | .nx ρ=>k (fo fl ρ)
 | .ct ρ=>k (fo fl ρ)
 | .bk ρ=>ret (.nx (fo fl ρ))
 | .rt w=>ret (.rt w)
def cp(fl:List Nat)(b:IJ->En->Mo Fl):List IJ->En->Mo Fl
 | [],ρ=>ret (.nx ρ)
 | x::xs,ρ=>Hl (b x ρ) (GS fl (cp fl b xs))
theorem kW(fl:List Nat)(g:HE)(t:HB):∀(xs:List IJ)(ρ:En),mS (cf fl g t xs) ρ=cp fl (fun x ρ=>Hl (g x ρ) (mS t)) xs ρ
 | [],ρ=>rfl
 | x::xs,ρ=>by
   refine ag fun Q=>?_;show(g x ρ fun ρ2=>t ⟨fun ρ'=>mS (cf fl g t xs) (fo fl ρ') Q,fun w=>Q (.rt w),fun ρ'=>Q (.nx (fo fl ρ')),fun ρ'=>mS (cf fl g t xs) (fo fl ρ') Q⟩ ρ2)↔_;simp only[kW fl g t xs];exact MS
def Ho(g:HE)(t:HB):IJ->En->Mo Fl:=fun x ρ=>Hl (g x ρ) (mS t)
theorem bdy_ap(g:HE)(t:HB)(x:IJ)(ρ:En):Ho g t x ρ=Hl (g x ρ) (mS t):=nr rfl
theorem s_for(fl:List Nat)(fi:En->(List IJ->Prop)->Prop)(g:HE)(t:HB)(ρ:En):mS (yH fl fi g t) ρ=Hl (fi ρ) fun xs=>cp fl (Ho g t) xs (fo fl ρ):=by
 refine ag fun Q=>?_;show(fi ρ fun xs=>mS (cf fl g t xs) (fo fl ρ) Q)↔_;simp only[kW];exact MS
def GR(fl:List Nat)(J:En->Prop)(Q:Fl->Prop):Fl->Prop
 | .nx ρ=>J (fo fl ρ)
 | .ct ρ=>J (fo fl ρ)
 | .bk ρ=>Q (.nx (fo fl ρ))
 | .rt w=>Q (.rt w)
section
variable{α σ:Type}{fl:List Nat}{b:IJ->En->Mo Fl}
theorem lZ(J:Nat->En->Prop){Q:Fl->Prop}:∀{xs:List IJ}{ρ:En}(n:Nat),J n ρ->(∀i x ρ,xs[i]?=some x->J (n+i) ρ->∀k:Fl->Prop,(∀r,GR fl (J (n+i+1)) Q r->k r)->b x ρ k)->(∀ρ,J (n+xs.length) ρ->Q (.nx ρ))->cp fl b xs ρ Q
 | [],ρ,n,h0,_,fin=>fin ρ h0
 | x::xs,ρ,n,h0,step,fin=>by
   refine step 0 x ρ rfl h0 (fun r=>GS fl (cp fl b xs) r Q) fun r hr=>?_;have rc:∀ρ',J (n+1) ρ'->cp fl b xs ρ' Q:=fun ρ' h'=>lZ J (n+1) h' (fun i y ρ e j k hk=>step (i+1) y ρ (by simpa using e) (by rw[show n+(i+1)=n+1+i by omega];exact j) k (by rw[show n+(i+1)+1=n+1+i+1 by omega];exact hk)) (fun ρ j=>fin ρ (by rw[JL,show n+(xs.length+1)=n+1+xs.length by omega];exact j))
   cases r with
   | nx ρ'=>exact rc _ hr
   | ct ρ'=>exact rc _ hr
   | bk ρ'=>exact hr
   | rt w=>exact hr
theorem qr{xs:List α}{enc:α->IJ}{Q:Fl->Prop}(J:Nat->En->Prop)(h0:J 0 ρ)
 (step:∀i (h:i<xs.length) ρ,J i ρ->∀k:Fl->Prop,(∀r,GR fl (J (i+1)) Q r->k r)->b (enc xs[i]) ρ k)(fin:∀ρ,J xs.length ρ->Q (.nx ρ)):cp fl b (xs.map enc) ρ Q:=by
 refine lZ J 0 h0 (fun i x ρ e j k hk=>?_) (fun ρ j=>fin ρ (by simpa using j));have hi:i<xs.length:=by have:=(Jj.mp e).1;simpa using this
 rw[JW,IV hi]at e;cases e;rw[Nat.zero_add]at j hk;exact step i hi ρ j k hk
theorem tf{lo:Int}{Q:Fl->Prop}(J:Nat->En->Prop)(h0:J 0 ρ)
 (step:∀i,i<n->∀ρ,J i ρ->∀k:Fl->Prop,(∀r,GR fl (J (i+1)) Q r->k r)->b (.int (lo+i)) ρ k)(fin:∀ρ,J n ρ->Q (.nx ρ)):cp fl b (bp lo n) ρ Q:=by
 refine qr (xs:=Jq n) J h0 (fun i h ρ j k hk=>?_) (fun ρ j=>fin ρ (by simpa using j));rw[MG];exact step i (by simpa using h) ρ j k hk
theorem qo{xs:List α}{enc:α->IJ}(st:σ->En)(f:σ->α->σ)(s:σ)(I:σ->Prop)(h0:I s)(step:∀x∈xs,∀s,I s->I (f s x)/\∃ρ',b (enc x) (st s)=ret (.nx ρ')/\fo fl ρ'=st (f s x)):cp fl b (xs.map enc) (st s)=ret (.nx (st (xs.foldl f s))):=by
 induction xs generalizing s with
 | nil=>rfl
 | cons x xs ih =>
   obtain⟨h1,ρ',e1,e2⟩:=step x IS s h0;show Hl (b (enc x) (st s)) (GS fl (cp fl b (xs.map enc)))=_;rw[e1,bnd_ret];show cp fl b (xs.map enc) (fo fl ρ')=_;rw[e2];exact ih (f s x) h1 fun y hy=>step y (IM _ hy)
theorem nB{lo:Int}(st:Nat->En)(h0:∀i,i<n->∃ρ',b (.int (lo+i)) (st i)=ret (.nx ρ')/\fo fl ρ'=st (i+1)):cp fl b (bp lo n) (st 0)=ret (.nx (st n)):=by
 have key:∀k m,m+k=n->cp fl b ((bp lo n).drop m) (st m)=ret (.nx (st n)):=by
  intro k
  induction k with
  | zero => intro m e;have e:m=n:=by omega
            subst e;rw[K5 (by rw[ae];omega)];rfl
  | succ k ih =>
    intro m e;have hm:m<(bp lo n).length:=by rw[ae];omega
    rw[J1 hm];have ex:(bp lo n)[m] = .int (lo+m):=by simp[bp]
    rw[ex];obtain⟨ρ',e1,e2⟩:=h0 m (by omega);show Hl (b (.int (lo+m)) (st m)) (GS fl (cp fl b ((bp lo n).drop (m+1))))=_;rw[e1,bnd_ret];show cp fl b _ (fo fl ρ')=_;rw[e2];exact ih (m+1) (by omega)
 have:=key n 0 (by omega);simpa using this
theorem qp{xs:List α}{enc:α->IJ}(p:α->Bool)(w:α->W)(step:∀x∈xs,(p x=true->b (enc x) ρ=ret (.rt (w x)))/\(p x=false->∃ρ',b (enc x) ρ=ret (.nx ρ')/\fo fl ρ'=ρ)) :
 cp fl b (xs.map enc) ρ=match xs.find? p with|some x=>ret (.rt (w x))|none=>ret (.nx ρ):=by
 induction xs with
 | nil=>rfl
 | cons x xs ih =>
   have h:=step x IS;show Hl (b (enc x) ρ) (GS fl (cp fl b (xs.map enc)))=_
   cases hp:p x with
   | true=>rw[h.1 hp,bnd_ret,List.find?_cons_of_pos hp];rfl
   | false =>
     obtain⟨ρ',e1,e2⟩:=h.2 hp;rw[e1,bnd_ret,List.find?_cons_of_neg (by rw[hp];decide)];show cp fl b _ (fo fl ρ')=_;rw[e2];exact ih fun y hy=>step y (IM _ hy)
end
def hE(fl:List Nat)(f:TB)(t:HB)(ρ:En):Mo Fl:=fun Q=>∃m,mS (FI fl f t m) ρ Q
theorem s_while(fl:List Nat)(f:TB)(t:HB)(ρ:En):mS (oD fl f t) ρ=hE fl f t (fo fl ρ):=nr rfl
theorem rP(fl:List Nat)(f:TB)(t:HB)(m:Nat)(ρ:En):mS (FI fl f t m) ρ=Hl (f ρ) fun b=>if b=true then Hl (mS t ρ) (GS fl fun ρ'=>fun Q=>∃k,∃h:k<m,mS (FI fl f t k) ρ' Q)else ret (.nx ρ):=by
 refine ag fun Q=>?_;show FI fl f t m _ ρ↔_;rw[uw];simp only[Hl,gA];exact MS
theorem vt{fl:List Nat}{f:TB}{t:HB}(h:f ρ=ret false):hE fl f t ρ=ret (.nx ρ):=by
 refine ag fun Q=>?_;constructor
 · rintro⟨m,q⟩;rw[rP,h,bnd_ret,if_neg (by decide)]at q;exact q
 · intro q;refine⟨0,?_⟩;rw[rP,h,bnd_ret,if_neg (by decide)];exact q
theorem vq{fl:List Nat}{f:TB}{t:HB}{ρ':En}(h:f ρ=ret true)(h2:mS t ρ=ret (.nx ρ')):hE fl f t ρ=hE fl f t (fo fl ρ'):=by
 refine ag fun Q=>?_;constructor
 · rintro⟨m,q⟩;rw[rP,h,bnd_ret,if_pos rfl,h2,bnd_ret]at q;obtain⟨k,_,q⟩:=q;exact⟨k,q⟩
 · rintro⟨m,q⟩;refine⟨m+1,?_⟩;rw[rP,h,bnd_ret,if_pos rfl,h2,bnd_ret];exact⟨m,Nat.lt_succ_self m,q⟩
theorem n6{σ:Type}{fl:List Nat}{f:TB}{t:HB}(st:σ->En)(c:σ->Bool)(nxt:σ->σ)(μ:σ->Nat)(I:σ->Prop)
 (hf:∀s,I s->f (st s)=ret (c s))(ht:∀s,I s->c s=true->I (nxt s)/\μ (nxt s)<μ s/\∃ρ',mS t (st s)=ret (.nx ρ')/\fo fl ρ'=st (nxt s))(s:σ)(hs:I s):∃s',I s'/\c s'=false/\hE fl f t (st s)=ret (.nx (st s')):=by
 induction hm:μ s using Os generalizing s with
 | ind n ih =>
   subst hm
   cases hc:c s with
   | false=>exact⟨s,hs,hc,vt (by rw[hf s hs,hc])⟩
   | true =>
     obtain⟨i1,m1,ρ',e1,e2⟩:=ht s hs hc;obtain⟨s',a,b,e⟩:=ih _ m1 (nxt s) i1 rfl;exact⟨s',a,b,by rw[vq (by rw[hf s hs,hc]) e1,e2,e]⟩
def lG(ρ0:En)(g:HE)(ft:TB)(fe:TV):List IJ->List IJ->(List IJ->Prop)->Prop
 | [],acc,Q=>Q acc
 | x::xs,acc,Q=>g x ρ0 fun ρ2=>Le ρ0 ρ2/\ft ρ2 fun b=>if b=true then fe ρ2 fun w=>∃d,w.fz = .d d/\acc.length<sizeLine/\lG ρ0 g ft fe xs (acc++[d]) Q else lG ρ0 g ft fe xs acc Q
def lH(fi:En->(List IJ->Prop)->Prop)(fr:List (Option Nat))(g:HE)(ft:TB)(fe:TV):TV:=fun ρ Q=>fi ρ fun xs=>lG (dX fr ρ) g ft fe xs [] fun ds=>Q (.ml ds)
section
variable{X:Cx}{rl:RlT}{elt tg iter:Expr}{ifs:List Expr}{scope:Scope}{pos:Pos}{fi:En->(List IJ->Prop)->Prop}{g:HE}{ft:TB}{fe:TV}
theorem me{N':List Str}{wi:TI}(fr:List (Option Nat))(k0:∀{F₀ H₀ F H:Hp}{σ:St}{ρ:En},VR X.K rl F₀ H₀ F H σ ρ->∀(Qd:List IJ->Prop)(R:It->Hp->Prop),fi ρ Qd ->
 (∀J xs F' H',Grow rl F H F' H'->VIt X.K rl F' J xs->Qd xs->R J H')->wi σ H R)
 (hg:∀y,HZ (Hm X N' scope y) rl tg g)(ht:∀y,rK (Hm X N' scope y) rl ifs ft)(he:∀y,PV (Hm X N' scope y) rl elt fe)
 (R:VR X.K rl F₀ H₀ F H σ ρ)(Qd:W->Prop)(Q:VK)(q:lH fi fr g ft fe ρ Qd)
 (k:∀v w F' H',Grow rl F H F' H'->cY X.K rl F' H' v w->dL H v w->Qd w->Q v H'):si wi fr (fun y=>Jt (hg y)) (fun y=>Jt (ht y)) (fun y=>Jt (he y)) σ H Q:=by
 refine k0 R _ _ q fun J xs F1 H1 g1 vi q1=>?_;intro D hD;have rD:rl.a≠some D:=fun e=>by obtain⟨o,z⟩:=g1.reel.live e;rw[hD]at z;cases z
 have FD:F1 D=none:=g1.sub.free hD;have gD:Grow rl F1 H1 F1 (upd H1 D (.lst [])):=Grow.laid g1.sub g1.reel hD;have R1:=R.grow g1;have n0:nQ (dX fr ρ):=dH
 refine⟨fun i m acc σc Hc=>m=xs.length-i/\i<=xs.length/\∃Fc ds,VR X.K rl F1 H1 Fc Hc σc (dX fr ρ)/\Hc D=some (.lst acc)/\Fc D=none/\Reps X.K Fc acc ds/\lG (dX fr ρ) g ft fe (xs.drop i) ds (fun ds=>Qd (.ml ds)),
  ⟨xs.length,by simp,Kc _,F1,[],fH R1 gD,ax,FD,.nil,by simpa using q1⟩,?_⟩
 rintro z i m acc σc Hc ⟨rfl,hi,Fc,ds,Rc,hDc,fDc,rs,q2⟩;have sH:bE F1 Hc:=Rc.g.fs.trans Rc.sub;by_cases hlt:i<xs.length
 · have ei:xs[i]?=some xs[i]:=by simp[hlt]
   have ed:xs.drop i=xs[i]::xs.drop (i+1):=J1 hlt;rw[ed]at q2;refine .inr ⟨vi.go i Hc _ ei sH,fun v H' y=>?_⟩;obtain⟨Fy,gy,rv⟩:=vi.yld i Hc v H' _ Fc ei Rc.g.fs Rc.sub Rc.reel y;refine(IN (hg z)).2 (Rc.grow gy) v _ _ _ rv q2 fun F3 H3 σ3 ρ3 g3 n3 R3 ⟨le3,q3⟩=>?_;refine(IN (ht z)).2 R3 _ _ q3 fun b F4 H4 g4 q4=>?_;have R4:=R3.grow g4;have g34:=(gy.trans g3).trans g4;have keepD:∀{Fx Hx:Hp},Grow rl Fc Hc Fx Hx->Hx D=some (.lst acc)/\Fx D=none:=fun gx=>⟨gx.same D _ hDc rD,by rw[gx.old D _ hDc];exact fDc⟩
   cases b with
   | false=>exact⟨xs.length-(i+1),by omega,rfl,hlt,F4,ds,R4.le le3,(keepD g34).1,(keepD g34).2,rs.mono g34.fs,q4⟩
   | true =>
     refine(IN (he z)).2 R4 _ _ q4 fun v5 w5 F5 H5 g5 r5 n5 ⟨d,ed5,hl,q5⟩=>?_;obtain⟨F6,g6,s6,r6⟩:=cY.fz g5 r5 n5;rw[ed5]at r6;have g36:=g34.trans g6;refine⟨(keepD g36).1,by rw[rs.length];exact hl,xs.length-(i+1),by omega,rfl,hlt,F6,ds++[d],((R4.grow g6).le le3).other n0 hD (keepD g36).2 rD,ax,(keepD g36).2,(rs.mono g36.fs).snoc r6,q5⟩
 · have e:i=xs.length:=by omega
   subst e;rw[Lc]at q2;refine .inl ⟨vi.stop _ Hc (I_ _) sH,k _ (.ml ds) Fc Hc (g1.trans Rc.g) ⟨D,acc,rfl,fDc,rD,hDc,rs⟩ (fun a ea=>by cases ea;exact g1.freeB hD) q2⟩
theorem bM(N':List Str)(fr:List (Option Nat))(hc:X.calm=true)(hi:HW X rl tg iter fi)
 (hg:∀y,HZ (Hm X N' scope y) rl tg g)(ht:∀y,rK (Hm X N' scope y) rl ifs ft)(he:∀y,PV (Hm X N' scope y) rl elt fe)
 (hfr:nI fr N' X.N scope X.env.scope=true:=by rfl)(hsc:nT scope X.env.scope=true:=by rfl)
 (hs:∀x,JE iter X.env x=pure x:=by intro _;rfl):PV X rl (.ListComp elt [⟨tg,iter,ifs,0⟩] scope pos) (lH fi fr g ft fe):=by
 obtain⟨wi,p0,k0⟩:=hi;exact⟨_,fI N' fr hc p0 hfr hsc (fun y=>(IN (hg y)).1) (fun y=>(IN (ht y)).1) (fun y=>(IN (he y)).1) hs,fun R Qd Q q k=>me fr k0 hg ht he R Qd Q q k⟩
theorem ka(i:Nat){b:Bool}{x:Str}{spos:Pos}(hN:X.N.Nodup)(N':List Str)(fr:List (Option Nat))(hc:X.calm=true)(hi:HW X rl tg iter fi)
 (hg:∀y,HZ (Hm X N' scope y) rl tg g)(ht:∀y,rK (Hm X N' scope y) rl ifs ft)(he:∀y,PV (Hm X N' scope y) rl elt fe)
 (hsw:K0 (.ListComp elt [⟨tg,iter,ifs,0⟩] scope pos) (some (.Name x px)) spos.line X.env=pure b:=by rfl)
 (hix:X.N[i]?=some x:=by rfl)(hx:Loc X.env.scope x:=by first|exact Kz rfl|exact J0 rfl)(hf:X.fn x=true\/X.env.scope.names.lookup x=some .local:=by first|exact .inl rfl|exact .inr rfl)
 (hfr:nI fr N' X.N scope X.env.scope=true:=by rfl)(hsc:nT scope X.env.scope=true:=by rfl)
 (hs:∀x,JE iter X.env x=pure x:=by intro _;rfl):HS X rl (.Assign [.Name x px] (.ListComp elt [⟨tg,iter,ifs,0⟩] scope pos) spos) (AW i (lH fi fr g ft fe)):=by
 obtain⟨wi,p0,k0⟩:=hi;refine⟨_,nj N' fr hc p0 hfr hsc (fun y=>(IN (hg y)).1) (fun y=>(IN (ht y)).1) (fun y=>(IN (he y)).1) hN hix hx hf hsw hs,fun R Dv D ok q=>me fr k0 hg ht he R _ _ q fun v w F1 H1 g1 r1 n1 ⟨hp,q1⟩=>?_⟩;exact ok.nx _ _ _ _ g1.fs (R.set g1 r1 n1 (fun xs z=>by subst z;cases hp) i) q1
end
def GW(ρ0:En)(g:HE)(ft:TB)(fe:TV)(x:IJ):Mo (Option IJ):=Hl (g x ρ0) fun ρ2=>G6 (Le ρ0 ρ2) (Hl (ft ρ2) fun b=>if b=true then Hl (fe ρ2) fun w=>aQ (asD w.fz) fun d=>ret (some d)else ret none)
noncomputable def ce(b:IJ->Mo (Option IJ)):List IJ->List IJ->Mo (List IJ)
 | [],acc=>ret acc
 | x::xs,acc=>Hl (b x) fun o=>match o with
   | some d=>G6 (acc.length<sizeLine) (ce b xs (acc++[d]))
   | none=>ce b xs acc
theorem i5(ρ0:En)(g:HE)(ft:TB)(fe:TV):∀(xs acc:List IJ),lG ρ0 g ft fe xs acc=ce (GW ρ0 g ft fe) xs acc
 | [],acc=>rfl
 | x::xs,acc=>by
   refine ag fun Q=>?_;show(g x ρ0 fun ρ2=>Le ρ0 ρ2/\ft ρ2 fun b=>if b=true then fe ρ2 fun w=>∃d,w.fz = .d d/\acc.length<sizeLine/\lG ρ0 g ft fe xs (acc++[d]) Q else lG ρ0 g ft fe xs acc Q)↔(Hl (GW ρ0 g ft fe x) _) Q;simp only[i5 ρ0 g ft fe xs]
   have:∀(ρ2:En)(b:Bool),(if b=true then fe ρ2 fun w=>∃d,w.fz = .d d/\acc.length<sizeLine/\ce (GW ρ0 g ft fe) xs (acc++[d]) Q else ce (GW ρ0 g ft fe) xs acc Q)=(Hl (if b=true then Hl (fe ρ2) fun w=>aQ (asD w.fz) fun d=>ret (some d)else ret none) fun o=>match o with
   | some d=>G6 (acc.length<sizeLine) (ce (GW ρ0 g ft fe) xs (acc++[d]))
   | none=>ce (GW ρ0 g ft fe) xs acc) Q:=by
     intro ρ2 b
     cases b with
     | false=>rfl
     | true =>
       rw[if_pos rfl,if_pos rfl];show _=fe ρ2 fun w=>_;congr 1;funext w;refine propext ?_;show _↔(Hl (aQ (asD w.fz) fun d=>ret (some d)) _) Q;rw[bnd_opt,aq];simp only[gL];exact MS
   simp only[this];exact MS
theorem m_comp(fi:En->(List IJ->Prop)->Prop)(fr:List (Option Nat))(g:HE)(ft:TB)(fe:TV)(ρ:En):lH fi fr g ft fe ρ=Hl (fi ρ) fun xs=>Hl (ce (GW (dX fr ρ) g ft fe) xs []) fun ds=>ret (.ml ds):=by
 refine ag fun Q=>?_;show(fi ρ fun xs=>lG (dX fr ρ) g ft fe xs [] fun ds=>Q (.ml ds))↔_;simp only[i5];exact MS
section
variable{α:Type}{b:IJ->Mo (Option IJ)}
theorem eS{enc:α->IJ}(f:α->Option IJ):∀(xs:List α)(acc:List IJ),(∀x∈xs,b (enc x)=ret (f x))->acc.length+xs.length<=sizeLine->ce b (xs.map enc) acc=ret (acc++xs.filterMap f)
 | [],acc,_,_=>by simp[ce]
 | x::xs,acc,h,hl=>by
   show Hl (b (enc x)) _=_;rw[h x IS,bnd_ret];simp at hl
   cases e:f x with
   | none =>
     show ce b (xs.map enc) acc=_
     rw[eS f xs acc (fun y hy=>h y (IM _ hy)) (by omega),List.filterMap_cons_none e]
   | some d =>
     show G6 (acc.length<sizeLine) (ce b (xs.map enc) (acc++[d]))=_;rw[ai (by omega),eS f xs (acc++[d]) (fun y hy=>h y (IM _ hy)) (by simp;omega),List.filterMap_cons_some e];simp
theorem qU{xs:List α}{enc:α->IJ}(f:α->Option IJ)(h:∀x∈xs,b (enc x)=ret (f x))(hl:xs.length<=sizeLine):ce b (xs.map enc) []=ret (xs.filterMap f):=by
 have:=eS f xs [] h (by simpa using hl);simpa using this
theorem comp_map{xs:List α}{enc:α->IJ}(f:α->IJ)(h:∀x∈xs,b (enc x)=ret (some (f x)))(hl:xs.length<=sizeLine):ce b (xs.map enc) []=ret (xs.map f):=by
 rw[qU (fun x=>some (f x)) h hl,Of]
theorem jQ{lo:Int}(f:Nat->IJ)(h:∀j,j<n->b (.int (lo+j))=ret (some (f j)))(hl:n<=sizeLine):ce b (bp lo n) []=ret ((Jq n).map f) :=
 comp_map (xs:=Jq n) f (fun j hj=>h j (Ko.mp hj)) (by simpa using hl)
theorem fE{enc:α->IJ}(R:α->IJ->Prop){Q:List IJ->Prop}:∀(xs:List α)(acc:List IJ),(∀x∈xs,∀k:Option IJ->Prop,(∀d,R x d->k (some d))->b (enc x) k)->acc.length+xs.length<=sizeLine->(∀ds,Kx R xs ds->Q (acc++ds))->ce b (xs.map enc) acc Q
 | [],acc,_,_,fin=>by have:=fin [] .nil;rw[KO]at this;exact this
 | x::xs,acc,h,hl,fin=>by
   simp at hl;refine h x IS _ fun d r=>?_;refine⟨by omega,fE R xs (acc++[d]) (fun y hy=>h y (IM _ hy)) (by simp;omega) fun ds ps=>?_⟩;have:=fin (d::ds) (.cons r ps);simpa using this
theorem t9{xs:List α}{enc:α->IJ}(R:α->IJ->Prop){Q:List IJ->Prop}(h:∀x∈xs,∀k:Option IJ->Prop,(∀d,R x d->k (some d))->b (enc x) k)(hl:xs.length<=sizeLine)(fin:∀ds,Kx R xs ds->Q ds):ce b (xs.map enc) [] Q :=
 fE R xs [] h (by simpa using hl) (by simpa using fin)
theorem qV{lo:Int}(P:IJ->Prop){Q:List IJ->Prop}(h:∀j,j<n->∀k:Option IJ->Prop,(∀d,P d->k (some d))->b (.int (lo+j)) k)(hl:n<=sizeLine)(fin:∀ds:List IJ,ds.length=n->(∀d∈ds,P d)->Q ds):ce b (bp lo n) [] Q:=by
 refine t9 (xs:=Jq n) (fun _ d=>P d) (fun j hj=>h j (Ko.mp hj)) (by simpa using hl) fun ds ps=>?_;refine fin ds ?_ ?_
 · have:=Kt ps;simpa using this.symm
 · clear fin h hl;intro d hd;generalize Jq n=l at ps
   induction ps with
   | nil=>cases hd
   | cons r _ ih=>exact(JV.mp hd).elim (fun e=>by rw[e];exact r) ih
end
section
variable(c:Prop)[Decidable c]
theorem ite_nx(a b:En):(if c then ret (Fl.nx a)else ret (Fl.nx b))=ret (Fl.nx (if c then a else b)):=by split<;>rfl
theorem ite_rt(a b:W):(if c then ret (Fl.rt a)else ret (Fl.rt b))=ret (Fl.rt (if c then a else b)):=by split<;>rfl
theorem ite_retd(a b:IJ):(if c then ret (W.d a)else ret (W.d b))=ret (W.d (if c then a else b)):=by split<;>rfl
theorem ite_retb(a b:Bool):(if c then ret a else ret b)=ret (if c then a else b):=by split<;>rfl
theorem ite_rets(a b:IJ):(if c then ret (some a)else ret (some b))=ret (some (if c then a else b)):=by split<;>rfl
theorem ite_cons{α:Type}(x y:α)(l m:List α):(if c then x::l else y::m)=(if c then x else y)::(if c then l else m):=by split<;>rfl
theorem ite_some{α:Type}(x y:α):(if c then some x else some y)=some (if c then x else y):=by split<;>rfl
theorem ite_d(a b:IJ):(if c then W.d a else W.d b)=W.d (if c then a else b):=by split<;>rfl
theorem ite_pi(a b:Int):(if c then Jl a else Jl b)=Jl (if c then a else b):=by split<;>rfl
theorem ite_pb(a b:Bool):(if c then N5 a else N5 b)=N5 (if c then a else b):=by split<;>rfl
theorem itb_tt(b y:Bool):(if b=true then true else y)=(b||y):=by cases b<;>rfl
theorem itb_ff(b y:Bool):(if b=true then y else false)=(b&&y):=by cases b<;>rfl
theorem itb_ft(b y:Bool):(if b=true then false else y)=(!b&&y):=by cases b<;>rfl
theorem itb_tf(b y:Bool):(if b=true then y else true)=(!b||y):=by cases b<;>rfl
end
theorem af(h:n<=1000):(n<=sizeLine)=True:=by have:=Ji;exact propext ⟨fun _=>trivial,fun _=>by omega⟩
theorem tup2(x y:IJ):(match [x,y]with | [x,y]=>some (x,y)|_=>none)=some (x,y):=rfl
theorem bnd_tt{α β:Type}(a:α)(f:α->Mo β):Hl (fun Q=>Q a) f=f a:=nr rfl
section
variable{α β:Type}
theorem az{P:α->Prop}{f:α->Mo β}{Q:β->Prop}(h:∀a,P a->f a Q):Hl (anyM P) f Q:=h
theorem bX{P:Prop}{m:Mo α}{Q:α->Prop}(h:P)(h':m Q):G6 P m Q:=⟨h,h'⟩
theorem eP{c:Prop}[Decidable c]{a b:Mo α}{Q:α->Prop}(h:c->a Q)(h':¬c->b Q):(if c then a else b) Q:=by split<;>simp_all
end
theorem aH{Q:IJ->Prop}(h:Q d):ret (Fl.rt (.d d)) (ya Q):=⟨d,rfl,h⟩
theorem kI{Q:IJ->Prop}{d:List IJ}(h:Q (.list d)):ret (Fl.rt (.ml d)) (ya Q):=⟨_,rfl,h⟩
section
variable{α:Type}{k:En->Mo Fl}{Q:Fl->Prop}
theorem Gk{m:Mo α}{h:α->Mo Fl}(z:Hl m (fun a=>sq (h a) k) Q):sq (Hl m h) k Q:=z
theorem Gj{o:Option α}{h:α->Mo Fl}(z:aQ o (fun a=>sq (h a) k) Q):sq (aQ o h) k Q:=by rw[yZ];exact z
def kc(k1 k2:En->Mo Fl):En->Mo Fl:=fun ρ=>sq (k1 ρ) k2
theorem kc_ap(k1 k2:En->Mo Fl)(ρ:En):kc k1 k2 ρ=sq (k1 ρ) k2:=nr rfl
theorem sq_sq(m:Mo Fl)(k1 k2:En->Mo Fl):sq (sq m k1) k2=sq m (kc k1 k2):=by
 refine ag fun Q=>?_;show m _↔m _;have:∀fl:Fl,(sq (match fl with | .nx ρ=>k1 ρ | .rt w=>ret (.rt w) | .bk ρ=>ret (.bk ρ) | .ct ρ=>ret (.ct ρ)) k2) Q=(match fl with | .nx ρ=>kc k1 k2 ρ | .rt w=>ret (.rt w) | .bk ρ=>ret (.bk ρ) | .ct ρ=>ret (.ct ρ):Mo Fl) Q:=by intro fl;cases fl<;>rfl
 exact Iff.of_eq (congrArg m (funext this))
theorem aI{P:α->Prop}{f:α->Mo Fl}(z:∀a,P a->sq (f a) k Q):sq (Hl (anyM P) f) k Q:=z
end
theorem pk_sc(x:List Int):L2.VL.W.peek (.sc x) = .sc x:=rfl
theorem fz_sc(x:List Int):(W.sc x).fz = .sc x:=rfl
theorem arg_sc(x:List Int):d6 (.sc x)=true:=rfl
theorem isPk_sc(x:List Int):(W.sc x).isPk=false:=rfl
section
variable{X:Cx}{rl:RlT}{a b c e:Expr}{es:List Expr}{fa fb fc:TV}{fs:HA}{pos p p2:Pos}{ρ:En}
def tT:List W->(W->Prop)->Prop:=fun ws Q=>∃ns,ws=[.sc ns]/\Q (.d (.int ns.length))
theorem vJ:d8 X rl (fun xs H Q=>∃p ys,xs=[.ref p]/\(HH X.K H p ys\/HG X.K H p ys)/\Q (.int ys.length) H) tT:=fun{F H vs ws} Qd Q s ra r ⟨ns,ew,q⟩ k=>by
 subst ew;obtain⟨v,rfl,⟨a,rfl,sq⟩⟩:=nU r;exact⟨a,_,rfl,.inl (kH s sq),k _ (.d _) _ _ (Grow.refl s ra) (by rw[IP];exact .int _) trivial q⟩
theorem ke(hm:X.mg "len" = none)(ha:HN X rl [a] fs)(hg:Gl X "len" := by rfl)(he:IZ [a] X.env=(false,eval a X.env)::IZ [] X.env:=by rfl)(hpl:(KC pos (IZ [] X.env)).any (·.1)=false:=by rfl) :
 PV X rl (.Call (.Name "len" p) [a] [] pos) (cR tT fs):=dA dE vJ hm boot_len ha hg (by decide) (by decide) he hpl
noncomputable def asSc:W->Option (List Int)
 | .sc ns=>some ns
 | _=>none
theorem asSc_s(ns:List Int):asSc (.sc ns)=some ns:=rfl
theorem lp{w:W}{i:List Int}:asSc w=some i↔w = .sc i:=by
 constructor
 · intro h;unfold asSc at h;split at h<;>simp_all
 · rintro rfl;rfl
theorem m_gLenS(w:W):tT [w]=aQ (asSc w) fun ns=>ret (.d (.int ns.length)):=by
 refine ag fun Q=>?_;simp only[tT,aq,lp,ret,Kf,and_true]
def A8:W->W->(W->Prop)->Prop:=fun x y Q=>∃ns i n,x = .sc ns/\y = .d (.int i)/\atI ns i=some n/\Q (.d (.int n))
theorem cq(f:α->β)(xs:List α)(i:Int):atI (xs.map f) i=(atI xs i).map f:=by
 unfold atI;rw[IP];cases ixN xs.length i<;>simp
theorem yk:Hw X rl (Gz X.K) A8:=fun{F H x y wx wy} Qd Q s ra r1 r2 q k=>by
 obtain⟨ns,i,n,rfl,rfl,e,q⟩:=q;obtain⟨a,rfl,sq⟩:=r1;have ey:=aJ r2;subst ey;exact .inl ⟨a,_,i,.int n,rfl,rfl,kH s sq,by rw[cq,e];rfl,k _ (.d _) _ _ (Grow.refl s ra) (.int n) trivial q⟩
theorem yC(ha:PV X rl a fa)(hb:PV X rl b fb)(hs:gN b:=by exact fun _ _=>rfl):PV X rl (.Subscript a b pos) (FO A8 fa fb):=ja yk ha hb fun _ _ p1 p2=>sP mi p1 p2 hs
theorem m_gIxS(x y:W):A8 x y=aQ (asSc x) fun ns=>aQ (asI y) fun i=>aQ (atI ns i) fun n=>ret (.d (.int n)):=by
 refine ag fun Q=>?_;simp only[A8,aq,lp,cL,ret];exact⟨fun⟨i,j,z,a,b,c,q⟩=>⟨i,a,j,b,z,c,q⟩,fun⟨i,a,j,b,z,c,q⟩=>⟨i,j,z,a,b,c,q⟩⟩
theorem pA{K:W.Frag}{F:Hp}:∀ns:List Int,Reps K F (ns.map V.int) (ns.map Jl)
 | []=>.nil
 | n::ns=>.cons (.int n) (pA ns)
def Bp(fa:TV)(fl fh:HC):TV:=fun ρ Q=>fa ρ fun w=>fl ρ fun l=>fh ρ fun h=>∃ns:List Int,w = .sc ns/\Q (.ml (cutD (ns.map .int) l h))
theorem yz{lo hi:Option Expr}{fl fh:HC}(ha:PV X rl a fa)(hl:HP X rl lo fl)(hh:HP X rl hi fh):PV X rl (.Subscript a (.Slice lo hi none p2) pos) (Bp fa fl fh):=by
 obtain⟨t,p,k⟩:=ha;obtain⟨tl,pl,kl⟩:=hl;obtain⟨th,ph,kh⟩:=hh;refine⟨_,lU wb p pl ph,fun R Qd Q q h=>k R _ _ q fun v w F1 H1 g1 r1 n1 q1=>?_⟩;refine kl (R.grow g1) _ _ q1 fun l F2 H2 g2 q2=>kh ((R.grow g1).grow g2) _ _ q2 fun u F3 H3 g3 q3=>?_;obtain⟨ns,rfl,q3⟩:=q3;obtain⟨a,rfl,sq⟩:=(r1.grow g2).grow g3;have g:=(g1.trans g2).trans g3;exact⟨a,_,rfl,kH g3.sub sq,fun p hp=>h _ (.ml _) _ _ (g.trans (Grow.laid g3.sub g3.reel hp)) (dG g3.sub g3.reel hp ((pA ns).cut l u)) (fun a ea=>by cases ea;exact g.freeB hp) q3⟩
theorem m_vSlS{fl fh:HC}:Bp fa fl fh ρ=Hl (fa ρ) fun w=>Hl (fl ρ) fun l=>Hl (fh ρ) fun h=>aQ (asSc w) fun ns=>ret (.ml (cutD (ns.map .int) l h)):=by
 refine ag fun Q=>?_;simp only[Bp,Hl,aq,lp,ret]
end
def Gm(K:W.Frag)(pre:List W->Prop):Sp:=fun vs H Q _=>∃F ws,bE F H/\eW K RlT.no F H vs ws/\ws.all d6=true/\pre ws/\∀r F' H',H r=none->Grow RlT.no F H F' H'->HM (RlT.at' r BM) F' H'->Q (.ref r) H'
structure DfnR (P:Ju) (w:J_) (K:W.Frag) (mg:Str->Option IR) (base:Heap) (x:Str) (ps:List Str) (k:Nat) (pre:List W->Prop):Prop where
 ex:∃f fd,mg x=some (.ref f)/\W.keepIn K (.ref f)=true/\Binds K fd ps []/\FnOk P w K mg base IA k f fd ps (Gm K pre)
noncomputable def GO:Option W->Option W
 | some .reel=>none
 | o=>o
noncomputable def nR(ρ:En):En:=ρ.map GO
def W.isR:W->Bool
 | .reel=>true
 | _=>false
def yG(i:Nat)(pre:List W->Prop)(fs:HA)(t:HB):HB:=fun D ρ=>fs ρ fun ws=>ws.all d6=true/\pre ws/\t ⟨fun ρ'=>D.nx (nR ρ'),fun w=>w.isR=false/\D.rt w,fun ρ'=>D.bk (nR ρ'),fun ρ'=>D.ct (nR ρ')⟩ (ρ.set i (some .reel))
theorem xw{r:Addr}(g:Grow RlT.no F₀ H₀ F H)(ra:HM (RlT.at' r BM) F H):Grow (RlT.at' r BM) F₀ H₀ F H:=⟨fun b o e _=>g.same b o e (by simp),g.fs,g.sub,g.old,ra⟩
theorem mB{r:Addr}{n':Nat}(g:Grow (RlT.at' r n') F₀ H₀ F H)(n:H₀ r=none):Grow RlT.no F₀ H₀ F H:=⟨fun b o e _=>g.same b o e (fun z=>by cases z;rw[n]at e;cases e),g.fs,g.sub,g.old,fun _ z=>by cases z⟩
theorem zh{K:W.Frag}{r:Addr}{w:W}(h:cY K RlT.no F H v w)(ne:∀a,w.own=true\/(∃xs,w = .pk xs)->v = .ref a->a≠r):cY K (RlT.at' r BM) F H v w:=by
 cases w with
 | d x=>exact h
 | ml xs=>obtain⟨a,vs,e,f,_,g⟩:=h;exact⟨a,vs,e,f,fun z=>ne a (.inl rfl) e (by cases z;rfl),g⟩
 | pk xs=>obtain⟨a,vs,e,f,_,g⟩:=h;exact⟨a,vs,e,f,fun z=>ne a (.inr ⟨_,rfl⟩) e (by cases z;rfl),g⟩
 | reel=>obtain⟨_,z,_⟩:=h;cases z
 | vv u=>exact h
 | md kvs=>obtain⟨a,vs,e,f,_,g⟩:=h;exact⟨a,vs,e,f,fun z=>ne a (.inl rfl) e (by cases z;rfl),g⟩
 | mk kvs=>obtain⟨a,vs,e,f,_,g⟩:=h;exact⟨a,vs,e,f,fun z=>ne a (.inl rfl) e (by cases z;rfl),g⟩
 | nt ds=>exact h
 | lk=>trivial
 | sc ns=>exact h
 | fd _=>exact h
 | fw _=>exact h
 | ft _=>exact h
 | xc _ _=>exact h
 | dp _ _=>exact h
theorem pF{K:W.Frag}{r:Addr}{n':Nat}{w:W}(h:cY K (RlT.at' r n') F H v w)(n:w.isR=false):cY K RlT.no F H v w:=by
 cases w with
 | d x=>exact h
 | ml xs=>obtain⟨a,vs,e,f,_,g⟩:=h;exact⟨a,vs,e,f,by simp,g⟩
 | pk xs=>obtain⟨a,vs,e,f,_,g⟩:=h;exact⟨a,vs,e,f,by simp,g⟩
 | reel=>cases n
 | vv u=>exact h
 | md kvs=>obtain⟨a,vs,e,f,_,g⟩:=h;exact⟨a,vs,e,f,by simp,g⟩
 | mk kvs=>obtain⟨a,vs,e,f,_,g⟩:=h;exact⟨a,vs,e,f,by simp,g⟩
 | nt ds=>exact h
 | lk=>trivial
 | sc ns=>exact h
 | fd _=>exact h
 | fw _=>exact h
 | ft _=>exact h
 | xc _ _=>exact h
 | dp _ _=>exact h
theorem lY{w:W}(h:(nR ρ)[i]?=some (some w)):ρ[i]?=some (some w)/\w.isR=false:=by
 unfold nR at h;rw[JW]at h
 cases e:ρ[i]? with
 | none=>rw[e]at h;cases h
 | some o =>
   rw[e]at h
   cases o with
   | none=>cases h
   | some u=>cases u<;>first|(cases h;exact⟨rfl,rfl⟩)|cases h
theorem VR.out{K:W.Frag}{r:Addr}{n':Nat}(R:VR K (RlT.at' r n') F₀ H₀ F H σ ρ)(n:H₀ r=none):VR K RlT.no F₀ H₀ F H σ (nR ρ):=by
 refine⟨mB R.g n,fun i w e=>?_,fun i j x y v hn e1 e2=>R.ap i j x y v hn (lY e1).1 (lY e2).1,fun i xs e=>R.np i xs (lY e).1,?_⟩
 · obtain⟨e1,e2⟩:=lY e;obtain⟨v,h1,h2,h3⟩:=R.sl i w e1;exact⟨v,h1,pF h2 e2,h3⟩
 · have:=R.len;simpa[nR]using this
theorem VR.into{K:W.Frag}{r:Addr}(R:VR K RlT.no F₀ H₀ F H σ ρ)(n:H r=none)(g:Grow RlT.no F H F' H')(ra:HM (RlT.at' r BM) F' H')(i:Nat):VR K (RlT.at' r BM) F₀ H₀ F' H' (σ.set i (some (.ref r))) (ρ.set i (some .reel)):=by
 have R1:=R.grow g;refine⟨xw R1.g ra,fun j w e=>?_,fun j k x y v hn e1 e2 o1 o2 s1 s2=>?_,fun j xs e=>?_,by simp[R.len]⟩
 · by_cases hj:i=j
   · subst hj
     have hi:i<ρ.length:=by
      rw[J8]at e;by_cases hi:i<ρ.length
      · exact hi
      · simp[hi]at e
     rw[Jp hi]at e;cases e;exact⟨.ref r,by rw[Jp (by rw[<- R.len];exact hi)],⟨r,rfl,rfl⟩,trivial⟩
   · rw[Jk hj]at e;obtain⟨v,h1,h2,h3⟩:=R1.sl j w e;refine⟨v,by rw[Jk hj];exact h1,zh h2 fun a ow ea z=>?_,h3⟩;obtain⟨v0,h10,h20,_⟩:=R.sl j w e;rw[h1]at h10;cases h10;rcases ow with ow|⟨xs,rfl⟩
     · obtain⟨b,o,eb,hb⟩:=h20.live ow;rw[ea]at eb;cases eb;rw[z,n]at hb;cases hb
     · exact absurd e (R.np j xs)
 · have key:∀(m:Nat)(z:W),(ρ.set i (some W.reel))[m]?=some (some z)->z.own=true->i≠m/\ρ[m]?=some (some z):=fun m z e o=>by
     by_cases hm:i=m
     · subst hm;rw[J8]at e;split at e
       · split at e
         · cases e;cases o
         · cases e
       · exact absurd rfl (by assumption)
     · rw[Jk hm]at e;exact⟨hm,e⟩
   obtain⟨n1,d1⟩:=key j x e1 o1;obtain⟨n2,d2⟩:=key k y e2 o2;rw[Jk n1]at s1;rw[Jk n2]at s2;exact R1.ap j k x y v hn d1 d2 o1 o2 s1 s2
 · rw[J8]at e;split at e
   · split at e
     · cases e
     · cases e
   · exact R1.np j xs e
section
variable{X:Cx}{st:Stmt}{rest body:List Stmt}{t u:HB}{a b c e:Expr}{es:List Expr}{fa fb:TV}{fs:HA}{pos p px cpos:Pos}{ρ:En}
end
def FQ:Fl->Mo Fl
 | .nx ρ=>ret (.nx (nR ρ))
 | .rt w=>G6 (w.isR=false) (ret (.rt w))
 | .bk ρ=>ret (.bk (nR ρ))
 | .ct ρ=>ret (.ct (nR ρ))
theorem s_newR(i:Nat)(pre:List W->Prop)(fs:HA)(t:HB)(ρ:En):mS (yG i pre fs t) ρ=Hl (fs ρ) fun ws=>G6 (ws.all d6=true) (G6 (pre ws) (Hl (mS t (ρ.set i (some .reel))) FQ)):=nr rfl
theorem nR_nil:nR []=[]:=rfl
theorem nR_r(l:En):nR (some .reel::l)=none::nR l:=rfl
theorem nR_n(l:En):nR (none::l)=none::nR l:=rfl
theorem nR_d(x:IJ)(l:En):nR (some (.d x)::l)=some (.d x)::nR l:=rfl
theorem nR_ml(x:List IJ)(l:En):nR (some (.ml x)::l)=some (.ml x)::nR l:=rfl
theorem nR_sc(x:List Int)(l:En):nR (some (.sc x)::l)=some (.sc x)::nR l:=rfl
def hW(K:W.Frag):Sp:=fun vs H Q _=>∃(a:Addr)(ns:List Int),vs=[.ref a]/\HH K H a (ns.map V.int)/\ns.length<=63/\∀H',Q (.bl true) H'
def EK:VEnds:=⟨fun _=>False,fun w=>w = .d (.bool true),fun _=>False,fun _=>False⟩
def x9:Fl->Prop
 | .rt w=>w = .d (.bool true)
 | _=>False
theorem un_law(m:Mo Fl):Hl m FQ x9=m x9:=by
 show m (fun fl=>FQ fl x9)=m x9;congr 1;funext fl
 cases fl with
 | rt w=>exact propext ⟨fun⟨_,h⟩=>h,fun h=>⟨by rw[show w = .d (.bool true)from h];rfl,h⟩⟩
 | _=>rfl
theorem xm:ret (Fl.rt (.d (.bool true))) x9:=rfl
section
variable{P:Ju}{w:J_}{K:W.Frag}{mg:Str->Option IR}{base:Heap}{st:Stmt}{N:List Str}{k:Nat}{t:HB}{x:Str}
theorem w6(F:Fun K "law" "law" st f fd)(S:FnScope N [x] (defScope st))
 (hbody:∀(cdv:IR)(A:Kh)(outer:List Env)(s:IW)(H:Hp)(E:XK),Room k (A.deeper (NR "law" (defScope st) s.heap.objs.size f cdv))->mP (nX IA P w K mg base N "law" (defScope st) f cdv A outer s H E).nox RlT.no (defBody st) t)
 (hread:∀ns:List Int,ns.length<=63->mS t (dv N [.sc ns]) x9):FnOk P w K mg base IA (k+1) f fd [x] (hW K):=by
 refine F.ok S (fun vs H Q E h=>?_) (fun cdv A outer s H vs Q E hr h=>?_)
 · obtain⟨a,ns,rfl,_⟩:=h;rfl
 · obtain⟨a,ns,rfl,hS,hl,kq⟩:=h;obtain⟨T,p,kk⟩:=hbody cdv A outer s H E hr;have rw0:eW K RlT.no H H [.ref a] [.sc ns]:=.cons ⟨a,rfl,hS⟩ .nil;have R:VR K RlT.no H H H H (start N [.ref a]) (dv N [.sc ns]):=eg (.refl H) (fun _ z=>by cases z) rw0 rfl;refine⟨T,p,kk R EK _ ⟨fun _ _ _ _ _ _ z=>J7 z,?_,fun _ _ _ _ _ _ z=>J7 z,fun _ _ _ _ _ _ z=>J7 z⟩ (hread ns hl)⟩;rintro v w1 F1 H1 g1 r1 n1 z;have z:w1 = .d (.bool true):=z;subst z;have e:=dM r1;subst e;exact kq H1
end
def rZ(i:Nat)(fa:TV):HB:=fun D ρ=>fa ρ fun w=>∃d,w.fz = .d d/\D.nx (ρ.set i (some (.d d)))
section
variable{X:Cx}{rl:RlT}{st:Stmt}{rest body:List Stmt}{t u:HB}{a b c e:Expr}{es:List Expr}{fa fb:TV}{fs:HA}{f:TB}{pos p:Pos}{ρ:En}
theorem aD(i:Nat){x:Str}(hN:X.N.Nodup)(he:PV X rl e fa)(hi:X.N[i]?=some x:=by rfl)(hx:Loc X.env.scope x:=by first|exact Kz rfl|exact J0 rfl)
 (hs:K0 e (some (.Name x pos')) pos.line X.env=pure false:=by rfl)(hf:X.fn x=true\/X.env.scope.names.lookup x=some .local:=by first|exact .inl rfl|exact .inr rfl) :
 HS X rl (.Assign [.Name x pos'] e pos) (rZ i fa):=by
 obtain⟨t,p,k⟩:=he;refine⟨_,ib hN hi hx p hs hf,fun R Dv D ok q=>k R _ _ q fun v w F1 H1 g1 r1 n1 ⟨d,ed,q1⟩=>?_⟩;obtain⟨F2,g2,s2,r2⟩:=cY.fz g1 r1 n1;rw[ed]at r2;exact ok.nx _ _ _ _ g2.fs (R.set g2 r2 trivial (fun xs z=>by cases z) i) q1
theorem s_setZ(i:Nat):mS (rZ i fa) ρ=Hl (fa ρ) fun w=>aQ (asD w.fz) fun d=>ret (.nx (ρ.set i (some (.d d)))):=by
 show(Hl (fa ρ) fun w=>fun(Q:Fl->Prop)=>∃d,w.fz = .d d/\Q (.nx (ρ.set i (some (.d d)))))=_;congr 1;funext w;refine ag fun Q=>?_;simp only[aq,gL,ret]
end
section
variable{X:Cx}{rl:RlT}{elt tg iter:Expr}{ifs:List Expr}{scope:Scope}{pos:Pos}{fi:En->(List IJ->Prop)->Prop}{g:HE}{ft:TB}{fe:TV}
end
def aR(xs:List Int):IJ:=.tuple (xs.map .int)
def gY(xs:List Int):IJ:=.list (xs.map .int)
theorem dj:∀{xs ys:List Int},xs.map Jl=ys.map Jl↔xs=ys:=by
 intro xs ys;constructor
 · intro h;have:=congrArg jH h;rw[cX,cX]at this;exact JN this
 · rintro rfl;rfl
theorem lJ{xs:List Int}:aR xs=aR ys↔xs=ys:=by
 unfold aR;rw[Kv,dj]
theorem s_{xs:List Int}:gY xs=gY ys↔xs=ys:=by
 unfold gY;rw[NX,dj]
theorem cy{α:Type}{f:α->IJ}(h:∀a b,f a=f b↔a=b):∀{xs ys:List α},xs.map f=ys.map f↔xs=ys
 | [],[]=>by simp
 | [],_::_=>by simp
 | _::_,[]=>by simp
 | x::xs,y::ys=>by simp[h,cy h (xs:=xs) (ys:=ys)]
noncomputable def BB(xs:List (List Int)):IJ:=.tuple (xs.map aR)
theorem sg{xs ys:List (List Int)}:BB xs=BB ys↔xs=ys:=by
 unfold BB;rw[Kv,cy fun _ _=>lJ]
theorem mL{xs:List α}{i:Int}(h0:0<=i)(h1:i<(xs.length:Int)):atI xs i=some (xs[i.toNat]'(by omega)):=by
 obtain⟨n,rfl⟩:=JS h0;exact cK (IV (by omega))
section
variable{α σ:Type}{fl:List Nat}{b:IJ->En->Mo Fl}{k:En->Mo Fl}{Q:Fl->Prop}{ρ:En}
theorem iu{f:TB}{t:HB}(st:σ->En)(c:σ->Bool)(nxt:σ->σ)(μ:σ->Nat)(I:σ->Prop)(s:σ)(h0:ρ=st s)(hs:I s)
 (hf:∀s,I s->f (st s)=ret (c s))(ht:∀s,I s->c s=true->I (nxt s)/\μ (nxt s)<μ s/\∃ρ',mS t (st s)=ret (.nx ρ')/\fo fl ρ'=st (nxt s))(fin:∀s,I s->c s=false->k (st s) Q):sq (hE fl f t ρ) k Q:=by
 subst h0;obtain⟨s',a,b,e⟩:=n6 st c nxt μ I hf ht s hs;rw[e];exact fin s' a b
theorem qI{xs:List α}{enc:α->IJ}(st:σ->En)(f:σ->α->σ)(s:σ)(I:σ->Prop)(h0:ρ=st s)(hx:xs'=xs.map enc)(hs:I s)(step:∀x∈xs,∀s,I s->I (f s x)/\∃ρ',b (enc x) (st s)=ret (.nx ρ')/\fo fl ρ'=st (f s x))
 (fin:k (st (xs.foldl f s)) Q):sq (cp fl b xs' ρ) k Q:=by
 subst h0 hx;rw[qo st f s I hs step];exact fin
theorem i3{lo:Int}(st:Nat->En)(h0:ρ=st 0)(step:∀i,i<n->∃ρ',b (.int (lo+i)) (st i)=ret (.nx ρ')/\fo fl ρ'=st (i+1))(fin:k (st n) Q):sq (cp fl b (bp lo n) ρ) k Q:=by
 subst h0;rw[nB st step];exact fin
theorem xA{xs:List α}{enc:α->IJ}(p:α->Bool)(w:α->W)(hx:xs'=xs.map enc)(step:∀x∈xs,(p x=true->b (enc x) ρ=ret (.rt (w x)))/\(p x=false->∃ρ',b (enc x) ρ=ret (.nx ρ')/\fo fl ρ'=ρ))
 (hit:∀x∈xs,p x=true->Q (.rt (w x)))(fin:(∀x∈xs,p x=false)->k ρ Q):sq (cp fl b xs' ρ) k Q:=by
 subst hx;rw[qp p w step]
 cases h:xs.find? p with
 | none=>exact fin fun x hx=>by have:=List.find?_eq_none.mp h x hx;simpa using this
 | some x=>exact hit x (NP h) (by have:=List.find?_some h;exact this)
def GQ(fl:List Nat)(J:En->Prop)(k:En->Mo Fl)(Q:Fl->Prop):Fl->Prop
 | .nx ρ=>J (fo fl ρ)
 | .ct ρ=>J (fo fl ρ)
 | .bk ρ=>k (fo fl ρ) Q
 | .rt w=>Q (.rt w)
theorem cI{J:En->Prop}{ρ:En}(h:J (fo fl ρ)):GQ fl J k Q (.nx ρ):=h
theorem qm{J:En->Prop}{w:W}(h:Q (.rt w)):GQ fl J k Q (.rt w):=h
theorem jG{xs:List α}{enc:α->IJ}(J:Nat->En->Prop)(hx:xs'=xs.map enc)(h0:J 0 ρ)
 (step:∀i (h:i<xs.length) ρ,J i ρ->∀K:Fl->Prop,(∀r,GQ fl (J (i+1)) k Q r->K r)->b (enc xs[i]) ρ K)(fin:∀ρ,J xs.length ρ->k ρ Q):sq (cp fl b xs' ρ) k Q:=by
 subst hx;refine qr (Q:=fun r=>(match r with | .nx ρ=>k ρ | .rt w=>ret (.rt w) | .bk ρ=>ret (.bk ρ) | .ct ρ=>ret (.ct ρ):Mo Fl) Q) J h0 (fun i hi ρ j K hK=>step i hi ρ j K fun r hr=>hK r ?_) fin;cases r<;>exact hr
theorem dD{lo:Int}(J:Nat->En->Prop)(h0:J 0 ρ)
 (step:∀i,i<n->∀ρ,J i ρ->∀K:Fl->Prop,(∀r,GQ fl (J (i+1)) k Q r->K r)->b (.int (lo+i)) ρ K)(fin:∀ρ,J n ρ->k ρ Q):sq (cp fl b (bp lo n) ρ) k Q:=by
 refine tf (Q:=fun r=>(match r with | .nx ρ=>k ρ | .rt w=>ret (.rt w) | .bk ρ=>ret (.bk ρ) | .ct ρ=>ret (.ct ρ):Mo Fl) Q) J h0 (fun i hi ρ j K hK=>step i hi ρ j K fun r hr=>hK r ?_) fin;cases r<;>exact hr
theorem i4{lo:Int}(step:∀i,i<n->∀K:Fl->Prop,(∀r,GQ fl (fun ρ'=>ρ'=ρ) k Q r->K r)->b (.int (lo+i)) ρ K)(fin:k ρ Q):sq (cp fl b (bp lo n) ρ) k Q :=
 dD (fun _ ρ'=>ρ'=ρ) rfl (fun i h ρ' e K hK=>by subst e;exact step i h K hK) fun ρ' e=>by subst e;exact fin
end
theorem EV{m:Mo Fl}{Q:Fl->Prop}(h:sq m (fun ρ=>ret (.nx ρ)) Q):m Q:=by
 have e:(fun fl:Fl=>(match fl with | .nx ρ=>ret (.nx ρ) | .rt w=>ret (.rt w) | .bk ρ=>ret (.bk ρ) | .ct ρ=>ret (.ct ρ):Mo Fl) Q)=Q:=by
  funext fl;cases fl<;>rfl
 have h:m (fun fl:Fl=>(match fl with | .nx ρ=>ret (.nx ρ) | .rt w=>ret (.rt w) | .bk ρ=>ret (.bk ρ) | .ct ρ=>ret (.ct ρ):Mo Fl) Q):=h;rw[e]at h;exact h
section
variable{α β:Type}{b:IJ->Mo (Option IJ)}{k:List IJ->Mo β}{Q:β->Prop}
theorem AG{xs:List α}{enc:α->IJ}(f:α->Option IJ)(hx:xs'=xs.map enc)(h:∀x∈xs,b (enc x)=ret (f x))(hl:xs.length<=sizeLine)(fin:k (xs.filterMap f) Q):Hl (ce b xs' []) k Q:=by
 subst hx;rw[qU f h hl];exact fin
theorem dZ{xs:List α}{enc:α->IJ}(f:α->IJ)(hx:xs'=xs.map enc)(h:∀x∈xs,b (enc x)=ret (some (f x)))(hl:xs.length<=sizeLine)(fin:k (xs.map f) Q):Hl (ce b xs' []) k Q:=by
 subst hx;rw[comp_map f h hl];exact fin
theorem i6{lo:Int}(f:Nat->IJ)(h:∀j,j<n->b (.int (lo+j))=ret (some (f j)))(hl:n<=sizeLine)(fin:k ((Jq n).map f) Q):Hl (ce b (bp lo n) []) k Q:=by
 rw[jQ f h hl];exact fin
theorem mJ{lo:Int}(P:IJ->Prop)(h:∀j,j<n->∀K:Option IJ->Prop,(∀d,P d->K (some d))->b (.int (lo+j)) K)(hl:n<=sizeLine)(fin:∀ds:List IJ,ds.length=n->(∀d∈ds,P d)->k ds Q):Hl (ce b (bp lo n) []) k Q :=
 qV P h hl fin
end
section
variable{α β:Type}
theorem ql{i:Int}{k:IJ->Mo β}{Q:β->Prop}(h0:0<=i)(h1:i<(xs.length:Int))(h:∀z∈xs,k z Q):aQ (atI xs i) k Q:=by
 obtain⟨z,e,m⟩:=AN h0 h1;rw[e];exact h z m
theorem nw{xs:List α}{enc:α->IJ}{i:Int}{k:IJ->Mo β}{Q:β->Prop}(P:α->Prop)(hx:xs'=xs.map enc)(h0:0<=i)(h1:i<(xs.length:Int))(hP:∀z∈xs,P z)(h:∀z,P z->k (enc z) Q):aQ (atI xs' i) k Q:=by
 subst hx;refine ql h0 (by simpa using h1) fun z mz=>?_;obtain⟨x,hx,rfl⟩:=Jo.mp mz;exact h x (hP x hx)
end
theorem eR{α:Type}{enc:α->IJ}{P:α->Prop}:∀{ds:List IJ},(∀d∈ds,∃x,P x/\d=enc x)->∃xs:List α,ds=xs.map enc/\xs.length=ds.length/\∀x∈xs,P x
 | [],_=>⟨[],rfl,rfl,by simp⟩
 | d::ds,h=>by
   obtain⟨x,hx,e⟩:=h d IS;obtain⟨xs,e1,e2,e3⟩:=eR (ds:=ds) fun d hd=>h d (IM _ hd);exact⟨x::xs,by rw[e,e1];rfl,by simp[e2],fun y hy=>(JV.mp hy).elim (fun z=>by rw[z];exact hx) (e3 y)⟩
section
variable{X:Cx}{rl:RlT}{a b c o e:Expr}{es:List Expr}{fa fb:TV}{fs:HA}{pos p apos cpos:Pos}{ρ:En}
end
end L2.VL
namespace L2
section
variable{X:Cx}{pos:Pos}
end
end L2
namespace L2.VL
section
variable{X:Cx}{rl:RlT}{es:List Expr}{pos:Pos}{ρ:En}
end
def C0:=IL @bnd_tt (IL @bnd_ret (IL @bnd_bnd (IL @bnd_grd (IL @bnd_stk (IL @bnd_ite (IL @bnd_opt (IL @opt_some (IL @opt_none (IL @grd_T (IL @sq_nx (IL @sq_rt (IL @sq_bk (IL @sq_ct (IL @sq_grd (IL @sq_stk (IL @sq_ite (IL @sq_sq (@kc_ap))))))))))))))))))
def C3:=IL @ite_nx (IL @ite_rt (IL @ite_retd (IL @ite_retb (IL @ite_rets (IL @ite_cons (IL @ite_some (IL @ite_d (IL @ite_pi (IL @ite_pb (IL @itb_tt (IL @itb_ff (IL @itb_ft (IL @itb_tf (@ite_self.{1}))))))))))))))
def C6:=IL @m_vC (IL @m_vVar (IL @m_vNil (IL @m_vCons (IL @m_vOp (IL @m_gI (IL @m_gI0 (IL @m_vNeg (IL @m_vTest (IL @m_gEqD (IL @m_vAnd (IL @m_vOr (IL @m_vAndV (IL @m_vOrV (IL @m_vNotV (IL @m_vIf (IL @m_vTup (IL @m_vLst (IL @m_gIx (IL @m_vCall (IL @m_gAbs (@m_gLen)))))))))))))))))))))
def C5:=IL @m_gTupO (IL @m_gLstO (IL @m_gIsN (IL @m_gI2 (IL @m_gDivmod (IL @m_gInt1 (IL @m_oNo (IL @m_oIt (IL @m_vSlL (IL @m_vSlA (IL @m_gCatD (IL @m_gCatA (IL @m_iL (IL @m_iT (IL @m_iR1 (@m_iR2)))))))))))))))
def C4:=IL @m_iZb (IL @m_vUse (IL @m_gAll (IL @m_gRepT (IL @m_gRepL (IL @m_vRevT (IL @m_gEqS (IL @m_comp (IL @m_gLenS (IL @m_gIxS (@m_vSlS))))))))))
def CU:=IL @s_next (IL @s_seq (IL @s_ret (IL @s_ifS (IL @s_set (IL @s_setZ (IL @s_never (IL @s_asg (IL @s_par (IL @s_aug (IL @s_frz (IL @s_mut (IL @s_for (IL @bdy_ap (IL @s_while (IL @s_newR (IL @m_hName (@m_hNil_n)))))))))))))))))
def CT:=IL @m_hCons_c (IL @m_hTup (@m_gApp))
def CZ:=IL @pk_sc (IL @fz_sc (IL @arg_sc (IL @isPk_sc (IL @asI_d (IL @asB_d (IL @asS_d (IL @asD_d (IL @asT_d (IL @asL_d (IL @asL_ml (IL @asL_pk (IL @asQ_d (IL @asQ_ml (IL @asQ_pk (IL @lstD_l (IL @tupD_t (IL @toI_i (IL @toI_b (IL @isiT_t (IL @asM_ml (IL @asSc_s (IL @two_d (@fz_d)))))))))))))))))))))))
def CY:=IL @fz_ml (IL @fz_pk (IL @fz_reel (IL @fz_vv (IL @pk_d (IL @pk_ml (IL @pk_reel (IL @pk_vv (IL @dat_d (IL @dat_ml (IL @dat_pk (IL @isPk_d (IL @isPk_ml (IL @isPk_reel (IL @dats_nil (IL @dats_d (IL @arg_d (IL @arg_reel (IL @item_l (IL @item_t (IL @len_l (IL @len_t (IL @seq_l (@seq_t)))))))))))))))))))))))
def CW:=IL @at0 (IL @at1 (IL @blsD_map (IL @tup2 (IL @fo_nil (IL @fo_cons (IL @nR_nil (IL @nR_r (IL @nR_n (IL @nR_d (IL @nR_ml (IL @nR_sc (IL @le_nil (IL @le_cn (IL @le_cs (IL @end_d (IL @end_ml (IL @end_nx (@un_law))))))))))))))))))
def C2:=IL @Jg.{0,0} (IL @ND.{0,0} (IL @JL.{0} (IL @My.{0} (IL @List.getElem?_cons_zero.{0} (IL @List.getElem?_cons_succ.{0} (IL @List.set_cons_zero.{0} (IL @List.set_cons_succ.{0} (IL @List.set_nil.{0} (IL @N7.{0} (IL @Nl.{0} (IL @List.all_cons.{0} (IL @List.all_nil.{0} (IL @List.head?_cons.{0} (IL @Bool.and_true (IL @Option.some.injEq.{0} (IL @Option.map_some.{0,0} (IL @Option.bind_some.{0,0} (IL @Option.bind_none.{0,0} (IL @Option.join_some.{0} (IL @Option.join_none.{0} (IL @MF (IL @and_self (@and_true)))))))))))))))))))))))
def C1:=IL @true_and (IL @shaped_i (IL @eqv_ii (IL @shaped_b (IL @Bool.true_and (IL @Bool.and_self (IL @Bool.not_true (IL @Bool.not_false (IL @IP.{0,0} (IL @JR (IL @Bool.true_eq_false (IL @decide_true (IL @decide_false (IL @List.isEmpty_cons.{0} (IL @List.isEmpty_nil.{0} (@List.isEmpty_map.{0,0})))))))))))))))
section
variable{X:Cx}{rl:RlT}{e:Expr}{fa:TV}{pos dpos q1 q2 q3 q4:Pos}{ρ:En}{j1 j2 j3 j4:Nat}{a b x y:Str}
end
theorem HM.pay{a:Option Addr}{b b':Nat}{F H:Hp}(r:HM ⟨a,b⟩ F H)(h:b'<=b):HM ⟨a,b'⟩ F H:=fun x e=>by
 obtain⟨z,⟨o,q,ro⟩⟩:=r x e;exact⟨z,⟨o,q,ro.pay h⟩⟩
theorem Grow.pay{a:Option Addr}{b b':Nat}{F H F' H':Hp}(g:Grow ⟨a,b⟩ F H F' H')(h:b'<=b):Grow ⟨a,b'⟩ F H F' H':=⟨g.same,g.fs,g.sub,g.old,g.reel.pay h⟩
theorem Grow.tr{a:Option Addr}{b b':Nat}{F1 H1 F2 H2:Hp}(g:Grow ⟨a,b⟩ F H F1 H1)(g':Grow ⟨a,b'⟩ F1 H1 F2 H2):Grow ⟨a,b'⟩ F H F2 H2 :=
 ⟨fun c o e n=>g'.same c o (g.same c o e n) n,g.fs.trans g'.fs,g'.sub,fun c o e=>by obtain⟨o',e'⟩:=g.live e;rw[g'.old c o' e',g.old c o e],g'.reel⟩
theorem cY.on{K:W.Frag}{a:Option Addr}{b b':Nat}{w:W}(r:cY K ⟨a,b⟩ F H v w):cY K ⟨a,b'⟩ F H v w:=by cases w<;>exact r
theorem cY.gr{K:W.Frag}{a:Option Addr}{b b' b2:Nat}{w:W}(g:Grow ⟨a,b'⟩ F H F' H')(r:cY K ⟨a,b⟩ F H v w):cY K ⟨a,b2⟩ F' H' v w:=((r.on (b':=b')).grow g).on
theorem VR.gr{K:W.Frag}{a:Option Addr}{b b':Nat}{F₀ H₀ F H F' H':Hp}{σ:St}{ρ:En}(r:VR K ⟨a,b⟩ F₀ H₀ F H σ ρ)(g:Grow ⟨a,b'⟩ F H F' H'):VR K ⟨a,b'⟩ F₀ H₀ F' H' σ ρ :=
 ⟨r.g.tr g,fun i w e=>let ⟨v,e1,e2,e3⟩:=r.sl i w e;⟨v,e1,e2.gr g,e3⟩,r.ap,r.np,r.len⟩
theorem VR.pay{K:W.Frag}{a:Option Addr}{b b':Nat}{F₀ H₀ F H:Hp}{σ:St}{ρ:En}(r:VR K ⟨a,b⟩ F₀ H₀ F H σ ρ)(h:b'<=b):VR K ⟨a,b'⟩ F₀ H₀ F H σ ρ:=r.gr ((Grow.refl r.sub r.reel).pay h)
theorem EndsOk.pay{K:W.Frag}{a:Option Addr}{b b':Nat}{F₀ H₀ Fs:Hp}{Dv:VEnds}{D:Ends}(ok:EndsOk K ⟨a,b'⟩ F₀ H₀ Fs Dv D)(h:b'<=b):EndsOk K ⟨a,b⟩ F₀ H₀ Fs Dv D :=
 ⟨fun F H σ ρ s R=>ok.nx F H σ ρ s (R.pay h),fun v w F H g r n=>ok.rt v w F H (g.pay h) r.on n,fun F H σ ρ s R=>ok.bk F H σ ρ s (R.pay h),fun F H σ ρ s R=>ok.ct F H σ ρ s (R.pay h)⟩
def CV(X:Cx)(al:Option Addr)(c:Nat)(e:Expr)(f:TV):Prop:=∃t,PE X e t/\∀{b:Nat}{F₀ H₀ F H:Hp}{σ:St}{ρ:En},VR X.K ⟨al,b+c⟩ F₀ H₀ F H σ ρ->∀(Qd:W->Prop)(Q:VK),f ρ Qd ->
 (∀v w F' H',Grow ⟨al,b⟩ F H F' H'->cY X.K ⟨al,b⟩ F' H' v w->dL H v w->Qd w->Q v H')->t σ H Q
def CB(X:Cx)(al:Option Addr)(c:Nat)(e:Expr)(f:TB):Prop:=∃t,PT X e t/\∀{b:Nat}{F₀ H₀ F H:Hp}{σ:St}{ρ:En},VR X.K ⟨al,b+c⟩ F₀ H₀ F H σ ρ->∀(Qd:Bool->Prop)(Q:Bool->Hp->Prop),f ρ Qd ->
 (∀k F' H',Grow ⟨al,b⟩ F H F' H'->Qd k->Q k H')->t σ H Q
def IB(X:Cx)(al:Option Addr)(c:Nat)(es:List Expr)(f:HA):Prop:=∃t,PA X es t/\∀{b:Nat}{F₀ H₀ F H:Hp}{σ:St}{ρ:En},VR X.K ⟨al,b+c⟩ F₀ H₀ F H σ ρ->∀(Qd:List W->Prop)(Q:List V->Hp->Prop),f ρ Qd ->
 (∀vs ws F' H',Grow ⟨al,b⟩ F H F' H'->eW X.K ⟨al,b⟩ F' H' vs ws->Qd ws->Q vs H')->t σ H Q
def CS(X:Cx)(al:Option Addr)(c:Nat)(st:Stmt)(t:HB):Prop:=∃T,PS X st T/\∀{b:Nat}{F₀ H₀ F H:Hp}{σ:St}{ρ:En},VR X.K ⟨al,b+c⟩ F₀ H₀ F H σ ρ->∀Dv D,EndsOk X.K ⟨al,b⟩ F₀ H₀ F Dv D->t Dv ρ->T D σ H
def ID(X:Cx)(al:Option Addr)(c:Nat)(st:List Stmt)(t:HB):Prop:=∃T,HR X st T/\∀{b:Nat}{F₀ H₀ F H:Hp}{σ:St}{ρ:En},VR X.K ⟨al,b+c⟩ F₀ H₀ F H σ ρ->∀Dv D,EndsOk X.K ⟨al,b⟩ F₀ H₀ F Dv D->t Dv ρ->T D σ H
def CI(X:Cx)(al:Option Addr)(c:Nat)(tg iter:Expr)(fi:En->(List IJ->Prop)->Prop):Prop:=∃wi,PI X tg iter wi/\∀{b:Nat}{F₀ H₀ F H:Hp}{σ:St}{ρ:En},VR X.K ⟨al,b+c⟩ F₀ H₀ F H σ ρ->∀(Qd:List IJ->Prop)(R:It->Hp->Prop),fi ρ Qd ->
 (∀J xs F' H',Grow ⟨al,b⟩ F H F' H'->(∀b',VIt X.K ⟨al,b'⟩ F' J xs)->Qd xs->R J H')->wi σ H R
section
variable{X:Cx}{al:Option Addr}{c c1 c2 c3:Nat}{st:Stmt}{rest body:List Stmt}{t u:HB}{a b e ec:Expr}{es:List Expr}{fa fb:TV}{fs:HA}{f g:TB}{pos p:Pos}
theorem cv(h:∀n,PV X ⟨al,n⟩ e fa):CV X al 0 e fa :=
 ⟨fun σ H Q=>∃n,Jt (h n) σ H Q,fun pins s σ H Q I ⟨n,z⟩=>(IN (h n)).1 pins s σ H Q I z,fun{b F₀ H₀ F H σ ρ} R Qd Q q k=>⟨b,(IN (h b)).2 R Qd Q q k⟩⟩
theorem cb(h:∀n,PB X ⟨al,n⟩ e f):CB X al 0 e f :=
 ⟨fun σ H Q=>∃n,Jt (h n) σ H Q,fun pins s σ H Q I ⟨n,z⟩=>(IN (h n)).1 pins s σ H Q I z,fun{b F₀ H₀ F H σ ρ} R Qd Q q k=>⟨b,(IN (h b)).2 R Qd Q q k⟩⟩
theorem Hi(h:∀n,HN X ⟨al,n⟩ es fs):IB X al 0 es fs :=
 ⟨fun σ H Q=>∃n,Jt (h n) σ H Q,fun p pins s σ H Q I ⟨n,z⟩=>(IN (h n)).1 p pins s σ H Q I z,fun{b F₀ H₀ F H σ ρ} R Qd Q q k=>⟨b,(IN (h b)).2 R Qd Q q k⟩⟩
theorem cs(h:∀n,HS X ⟨al,n⟩ st t):CS X al 0 st t :=
 ⟨fun D σ H=>∃n,Jt (h n) D σ H,fun pins s σ H D I ⟨n,z⟩=>(IN (h n)).1 pins s σ H D I z,fun{b F₀ H₀ F H σ ρ} R Dv D ok q=>⟨b,(IN (h b)).2 R Dv D ok q⟩⟩
theorem Hj(h:∀n,mP X ⟨al,n⟩ body t):ID X al 0 body t :=
 ⟨fun D σ H=>∃n,Jt (h n) D σ H,fun pins s σ H D I ⟨n,z⟩=>(IN (h n)).1 pins s σ H D I z,fun{b F₀ H₀ F H σ ρ} R Dv D ok q=>⟨b,(IN (h b)).2 R Dv D ok q⟩⟩
theorem VIt.on{K:W.Frag}{r r':RlT}{J:It}(h:VIt K r F J xs):VIt K r' F J xs:=⟨h.go,h.stop,h.yld⟩
theorem ci(h:∀n,HW X ⟨al,n⟩ tg iter fi):CI X al 0 tg iter fi :=
 ⟨fun σ H Q=>∃n,Jt (h n) σ H Q,fun pins s σ H Q I ⟨n,z⟩=>(IN (h n)).1 pins s σ H Q I z,fun{b F₀ H₀ F H σ ρ} R Qd Q q k=>⟨b,(IN (h b)).2 R Qd Q q fun J xs F' H' g v=>k J xs F' H' g fun _=>v.on⟩⟩
theorem aN:IB X al 0 [] uy:=Hi fun _=>ac
theorem aj(h1:CV X al c1 e fa)(h2:IB X al c2 es fs)(hs:IZ (e::es) X.env=(false,eval e X.env)::IZ es X.env:=by rfl):IB X al (c1+c2) (e::es) (jf fa fs):=by
 obtain⟨t,p1,k1⟩:=h1;obtain⟨ts,p2,k2⟩:=h2;refine⟨_,dU p1 p2 hs,fun{n _ _ _ _ _ _} R Qd Q q k=>?_⟩;refine k1 (b:=n+c2) (R.pay (by omega)) _ _ q fun v w F1 H1 g1 r1 n1 q1=>?_;obtain⟨F2,g2,s2,r2⟩:=cY.fz g1 r1 n1;refine k2 (b:=n) (R.gr g2) _ _ q1 fun vs ws F3 H3 g3 r3 q3=>?_;exact k (v::vs) (w.fz::ws) F3 H3 (g2.tr g3) (.cons (r2.gr g3) r3) q3
theorem jP{r:R2}{g:W->W->(W->Prop)->Prop}(vo:∀n,Hw X ⟨al,n⟩ r g)(ha:CV X al c1 a fa)(hb:CV X al c2 b fb){e:Expr}(hp:∀ta tb,PE X a ta->PE X b tb->PE X e (Gb r ta tb)):CV X al (c1+c2) e (FO g fa fb):=by
 obtain⟨ta,p1,k1⟩:=ha;obtain⟨tb,p2,k2⟩:=hb;refine⟨_,hp ta tb p1 p2,fun{n _ _ _ _ _ _} R Qd Q q k=>?_⟩;refine k1 (b:=n+c2) (R.pay (by omega)) _ _ q fun v w F1 H1 g1 r1 n1 q1=>?_;refine k2 (b:=n) (R.gr g1) _ _ q1 fun v2 w2 F2 H2 g2 r2 n2 q2=>?_;exact vo n Qd Q g2.sub g2.reel (r1.gr g2) r2 q2 fun v3 w3 F3 H3 g3 r3 n3 q3=>k v3 w3 F3 H3 ((g1.tr g2).tr g3) r3 ((n3.back g2).back g1) q3
theorem AL{op:O0}{r:R2}{g:W->W->(W->Prop)->Prop}(ho:H_ X (LD op) r)(vo:∀n,Hw X ⟨al,n⟩ r g)(ha:CV X al c1 a fa)(hb:CV X al c2 b fb):CV X al (c1+c2) (.BinOp a op b pos) (FO g fa fb) :=
 jP vo ha hb fun _ _ p1 p2=>zH ho p1 p2
theorem ud(ha:CV X al c1 a fa)(hb:CV X al c2 b fb):CV X al (c1+c2) (.BinOp a .Add b pos) (FO (Ha fun i j=>.int (i+j)) fa fb):=AL uR (fun _=>eh fun _ _ _ _=>.int _) ha hb
theorem Cz(ha:CV X al c1 a fa)(hb:CV X al c2 b fb):CV X al (c1+c2) (.BinOp a .Mult b pos) (FO (gI bo fun i j=>.int (i*j)) fa fb):=AL qh (fun _=>fP fun _ _ _ _=>.int _) ha hb
theorem E2(ha:CV X al c1 a fa)(hb:CV X al c2 b fb)(hs:gN b:=by exact fun _ _=>rfl):CV X al (c1+c2) (.Subscript a b pos) (FO G9 fa fb):=jP (fun _=>yn) ha hb fun _ _ p1 p2=>sP mi p1 p2 hs
theorem AK{r:R2}{g:W->W->(W->Prop)->Prop}(ho:H_ X (Lk op) r)(vo:∀n,Hw X ⟨al,n⟩ r g)(hm:KM op b=false)(ha:CV X al c1 a fa)(hb:CV X al c2 b fb):CV X al (c1+c2) (.Compare a [op] [b] pos) (FO g fa fb) :=
 jP vo ha hb fun _ _ p1 p2=>pX ho p1 p2 hm
theorem AH{r:R2}{g:W->W->(W->Prop)->Prop}(ho:H_ X (Lk op) r)(vo:∀n,Hw X ⟨al,n⟩ r g)(hm:KM op b=false)(ha:CV X al c1 a fa)(hb:CV X al c2 b fb):CB X al (c1+c2) (.Compare a [op] [b] pos) (mT (FO g fa fb)):=by
 obtain⟨ta,p1,k1⟩:=ha;obtain⟨tb,p2,k2⟩:=hb;refine⟨_,pK ho p1 p2 hm,fun{n _ _ _ _ _ _} R Qd Q q k=>?_⟩;refine k1 (b:=n+c2) (R.pay (by omega)) _ _ q fun v w F1 H1 g1 r1 n1 q1=>?_;refine k2 (b:=n) (R.gr g1) _ _ q1 fun v2 w2 F2 H2 g2 r2 n2 q2=>?_;refine vo n _ _ g2.sub g2.reel (r1.gr g2) r2 q2 fun v3 w3 F3 H3 g3 r3 n3 ⟨kb,ew,q3⟩=>?_;subst ew;exact⟨kb,dM r3,k kb F3 H3 ((g1.tr g2).tr g3) q3⟩
theorem Cy{op}(ha:CV X al c a fa):CV X al c (.BoolOp op [a] pos) fa:=by
 obtain⟨t,p,k⟩:=ha;exact⟨t,uM p,k⟩
theorem E1{rest:List Expr}(ha:CV X al c1 a fa)(hb:CV X al c2 (.BoolOp .Or (b::rest) pos) fb):CV X al (c1+c2) (.BoolOp .Or (a::b::rest) pos) (AX fa fb):=by
 obtain⟨t,p,k⟩:=ha;obtain⟨t2,p2,k2⟩:=hb;refine⟨_,zG p p2,fun{n _ _ _ _ _ _} R Qd Q q h=>k (b:=n+c2) (R.pay (by omega)) _ _ q fun v w F1 H1 g1 r1 n1 ⟨c,ew,q1⟩=>?_⟩;subst ew;refine⟨c,dM r1,?_⟩
 cases c with
 | false=>exact k2 (b:=n) (R.gr g1) _ _ q1 fun v w F2 H2 g2 r2 n2 q2=>h v w F2 H2 (g1.tr g2) r2 (n2.back g1) q2
 | true=>exact h _ (.d _) F1 H1 (g1.pay (by omega)) (.bl true) trivial q1
theorem Cw{x1}(h:IB X al c es fs):CV X al c (.Tuple es x1 pos) (yE fs):=by
 obtain⟨t,p,k⟩:=h;refine⟨_,pU p,fun R Qd Q q h=>k R _ _ q fun vs ws F1 H1 g1 r1 ⟨ds,e1,z,q1⟩=>?_⟩;have rs:=dI r1 e1;refine⟨by rw[rs.length];exact z,fun p hp=>?_⟩;have g2:=g1.tr (Grow.data (a:=p) (o:=.tup vs) g1.sub g1.reel hp);exact h _ (.d (.tuple ds)) _ _ g2 (.tup (.inl (.inl ax)) (rs.mono (Grow.data (o:=.tup vs) g1.sub g1.reel hp).fs)) trivial q1
theorem t_{r:List V->Hp->VK->Prop}{g:List W->(W->Prop)->Prop}(vc:∀n,d8 X ⟨al,n⟩ r g)(ha:IB X al c es fs){e:Expr}(hp:∀ta,PA X es ta->PE X e (Gf r ta)):CV X al c e (cR g fs):=by
 obtain⟨ta,p1,k1⟩:=ha;refine⟨_,hp ta p1,fun{n _ _ _ _ _ _} R Qd Q q k=>k1 R _ _ q fun vs ws F1 H1 g1 r1 q1=>?_⟩;exact vc n Qd Q g1.sub g1.reel r1 q1 fun v w F2 H2 g2 r2 n2 q2=>k v w F2 H2 (g1.tr g2) r2 (n2.back g1) q2
theorem mK{T:String}{x:Str}{r:List V->Hp->VK->Prop}{g:List W->(W->Prop)->Prop}(hc:d9 X (.type T) r)(vc:∀n,d8 X ⟨al,n⟩ r g)(hm:X.mg x=none)(hv:L3 x=some (.type T))(ha:IB X al c (e::es) fs)(hg:Gl X x:=by rfl)(hn:x ≠ "__name__" := by decide)(hdb:(x==("__debug__" : Str))=false:=by decide)
 (he:IZ (e::es) X.env=(false,eval e X.env)::IZ es X.env:=by rfl)(hpl:(KC pos (IZ es X.env)).any (·.1)=false:=by rfl):CV X al c (.Call (.Name x p) (e::es) [] pos) (cR g fs) :=
 t_ vc ha fun _ p1=>gi hc hg hm hv p1 hn hdb he hpl
theorem xP(hm:X.mg "tuple" = none)(ha:IB X al c [a] fs)(hg:Gl X "tuple" := by rfl)(he:IZ [a] X.env=(false,eval a X.env)::IZ [] X.env:=by rfl)(hpl:(KC pos (IZ [] X.env)).any (·.1)=false:=by rfl) :
 CV X al c (.Call (.Name "tuple" p) [a] [] pos) (cR qE fs):=mK dr (fun _=>uk) hm (by rfl) ha hg (by decide) (by decide) he hpl
theorem u_(hm:X.mg "int" = none)(ha:IB X al c [a] fs)(hg:Gl X "int" := by rfl)(he:IZ [a] X.env=(false,eval a X.env)::IZ [] X.env:=by rfl)(hpl:(KC pos (IZ [] X.env)).any (·.1)=false:=by rfl) :
 CV X al c (.Call (.Name "int" p) [a] [] pos) (cR qF fs):=mK jU (fun _=>ot) hm (by rfl) ha hg (by decide) (by decide) he hpl
theorem qR:ID X al 0 [] vS:=Hj fun _=>bP
theorem ck(h:CS X al c st t):ID X al c [st] t:=by
 obtain⟨T,p,k⟩:=h;exact⟨T,kK p,k⟩
theorem ay(h:CS X al c1 st t)(h2:ID X al c2 rest u):ID X al (c1+c2) (st::rest) (xZ t u):=by
 obtain⟨T,p,k⟩:=h;obtain⟨T2,p2,k2⟩:=h2;refine⟨_,da p p2,fun{n _ _ _ _ _ _} R Dv D ok q=>k (b:=n+c2) (R.pay (by omega)) {Dv with nx:=u Dv} {D with nx:=T2 D} ?_ q⟩;have o2:=ok.pay (b:=n+c2) (by omega);exact⟨fun F H σ ρ s' R' q'=>k2 (b:=n) R' Dv D (ok.on s') q',o2.rt,o2.bk,o2.ct⟩
theorem u3(h:CV X al c e fa):CS X al c (.Return (some e) pos) (Br fa):=by
 obtain⟨t,p,k⟩:=h;exact⟨_,lS p,fun R Dv D ok q=>k R _ _ q fun v w F1 H1 g1 r1 n1 q1=>ok.rt v w F1 H1 (R.g.tr g1) r1 (n1.back R.g) q1⟩
theorem xL{A B:List Stmt}(hc:CB X al c1 ec f)(ha:ID X al c2 A t)(hb:ID X al c3 B u):CS X al (c1+(c2+c3)) (.If ec A B pos) (AY f t u):=by
 obtain⟨t0,p0,k0⟩:=hc;obtain⟨t1,p1,k1⟩:=ha;obtain⟨t2,p2,k2⟩:=hb;refine⟨_,zC p0 p1 p2,fun{n _ _ _ _ _ _} R Dv D ok q=>k0 (b:=n+(c2+c3)) (R.pay (by omega)) _ _ q fun k F1 H1 g1 q1=>?_⟩
 cases k with
 | true=>exact k1 (b:=n) ((R.gr g1).pay (by omega)) Dv D (ok.on g1.fs) q1
 | false=>exact k2 (b:=n) ((R.gr g1).pay (by omega)) Dv D (ok.on g1.fs) q1
theorem VR.setC{K:W.Frag}{n':Nat}(r:VR K ⟨al,n⟩ F₀ H₀ F H σ ρ){H1 F1:Hp}(g:Grow ⟨al,n'⟩ F H F1 H1)(hn:n'<=n){w:W}(rw':cY K ⟨al,n'⟩ F1 H1 v w)(hw:dL H v w)(hp:∀xs,w ≠ .pk xs)(i:Nat):VR K ⟨al,n'⟩ F₀ H₀ F1 H1 (σ.set i (some v)) (ρ.set i (some w)) :=
 (r.pay hn).set g rw' hw hp i
theorem bO(i:Nat){x:Str}(hN:X.N.Nodup)(he:CV X al c e fa)(hi:X.N[i]?=some x:=by rfl)(hx:Loc X.env.scope x:=by first|exact Kz rfl|exact J0 rfl)
 (hs:K0 e (some (.Name x pos')) pos.line X.env=pure false:=by rfl)(hf:X.fn x=true\/X.env.scope.names.lookup x=some .local:=by first|exact .inl rfl|exact .inr rfl) :
 CS X al c (.Assign [.Name x pos'] e pos) (rZ i fa):=by
 obtain⟨t,p,k⟩:=he;refine⟨_,ib hN hi hx p hs hf,fun R Dv D ok q=>k R _ _ q fun v w F1 H1 g1 r1 n1 ⟨d,ed,q1⟩=>?_⟩;obtain⟨F2,g2,s2,r2⟩:=cY.fz g1 r1 n1;rw[ed]at r2;exact ok.nx _ _ _ _ g2.fs (R.setC g2 (by omega) r2 trivial (fun xs z=>by cases z) i) q1
theorem u6{g:HE}(he:CV X al c e fa)(hg:∀n,HZ X ⟨al,n⟩ tg g)(hs:LS [tg] e pos.line X.env=pure false:=by rfl)(hw:LU [tg] e X.env=pure none:=by rfl)
 (h1:(Ky [tg] X.env).map (·.2)=[LH tg X.env]:=by rfl):CS X al c (.Assign [tg] e pos) (A0 fa g):=by
 obtain⟨t,p,k⟩:=he;refine⟨_,jB p (g:=fun v σ H Q=>∃n,Jt (hg n) v σ H Q) (fun pins s σ H v u Q I rv ⟨n,z⟩=>(IN (hg n)).1 pins s σ H v u Q I rv z) hs hw h1,fun{n _ _ _ _ _ _} R Dv D ok q=>k R _ _ q fun v w F1 H1 g1 r1 n1 ⟨x,ew,q1⟩=>?_⟩;subst ew;exact⟨n,(IN (hg n)).2 (R.gr g1) v x _ _ r1 q1 fun F2 H2 σ2 ρ2 s2 n2 R2 q2=>ok.nx _ _ _ _ (g1.fs.trans s2.fs) R2 q2⟩
theorem AD(i:Nat){x:Str}{nm:Str}{id:String}{r:V->List V->Hp->VK->Prop}{g:List IJ->List W->(List IJ->Prop)->Prop}{apos cpos:Pos}(slot:Slot "list" nm id)(hty:typeOf (.builtin id)=pure (.type "method_descriptor"))(hm:Ib X id r)(vm:∀n,CF X.K ⟨al,n⟩ r g)(ha:IB X al c (e::es) fs)
 (hN:X.N[i]?=some x:=by rfl)(hv:Hv X.env.scope x:=by first|exact Kz rfl|exact J0 (Kz rfl)|exact J0 (J0 rfl))
 (hd:(x==("__debug__" : Str))=false:=by decide)(hcd:(x==("__classdict__" : Str))=false:=by decide)
 (hbase:Nb (.Name x px) nm X.env (eval (.Name x px) X.env)=eval (.Name x px) X.env:=by rfl)
 (hfew:((KC cpos (IZ (e::es) X.env)).all (fun x=>!x.1)&&(Pq cpos (N2 [] X.env)).all (fun x=>x.1.isSome)
  && decide ((e::es).length+([]:List NK).length+(if([]:List NK).isEmpty then 0 else 1)<30))=true:=by rfl)
 (hline:(apos.endLine==cpos.line)=true:=by rfl)(hs:IZ (e::es) X.env=(false,eval e X.env)::IZ es X.env:=by rfl)(hplain:(KC cpos (IZ es X.env)).any (·.1)=false:=by rfl)
 (hsw:K0 (.Call (.Attribute (.Name x px) nm apos) (e::es) [] cpos) none pos.line X.env=pure false:=by rfl) :
 CS X al c (.Expr (.Call (.Attribute (.Name x px) nm apos) (e::es) [] cpos) pos) (x5 i g fs):=by
 obtain⟨t,p1,k⟩:=ha;refine⟨_,pL (wQ MD slot hty hm (cu hN hv hd hcd) p1 hbase hfew hline hs hplain) hsw,fun{n F₀ H₀ F H σ ρ} R Dv D ok ⟨xs,e1,q⟩=>?_⟩;obtain⟨v,h1,h2,h3⟩:=R.sl i _ e1;obtain⟨a,vs,rfl,f,hr,hh,rs⟩:=(show gO X.K ⟨al,n+c⟩ F H v xs from h2);refine⟨.ref a,h1,.inl ⟨rfl,vs,.inl (.inl hh)⟩,k R _ _ q fun args ws F1 H1 g1 r1 q1=>?_⟩;refine vm n _ _ g1.sub (g1.same a _ hh hr) (rs.mono g1.fs) r1 q1 fun us ys r2 q2=>?_;exact ok.nx _ _ _ _ g1.fs ((R.gr g1).own e1 h1 r2) q2
theorem AE(i:Nat){x:Str}{apos cpos:Pos}(ha:IB X al c [e] fs)(hN:X.N[i]?=some x:=by rfl)(hv:Hv X.env.scope x:=by first|exact Kz rfl|exact J0 (Kz rfl)|exact J0 (J0 rfl))
 (hd:(x==("__debug__" : Str))=false:=by decide)(hcd:(x==("__classdict__" : Str))=false:=by decide)
 (hbase:Nb (.Name x px) "append" X.env (eval (.Name x px) X.env)=eval (.Name x px) X.env:=by rfl)
 (hfew:((KC cpos (IZ [e] X.env)).all (fun x=>!x.1)&&(Pq cpos (N2 [] X.env)).all (fun x=>x.1.isSome)
  && decide (([e]).length+([]:List NK).length+(if([]:List NK).isEmpty then 0 else 1)<30))=true:=by rfl)
 (hline:(apos.endLine==cpos.line)=true:=by rfl)(hs:IZ [e] X.env=(false,eval e X.env)::IZ [] X.env:=by rfl)(hplain:(KC cpos (IZ [] X.env)).any (·.1)=false:=by rfl)
 (hsw:K0 (.Call (.Attribute (.Name x px) "append" apos) [e] [] cpos) none pos.line X.env=pure false:=by rfl) :
 CS X al c (.Expr (.Call (.Attribute (.Name x px) "append" apos) [e] [] cpos) pos) (x5 i Au fs) :=
 AD i NU NV eK (fun _=>ui) ha hN hv hd hcd hbase hfew hline hs hplain hsw
end
theorem fR{c:Nat}(h:i<n):(n-i)*c=(n-(i+1))*c+c:=by
 have:n-i=(n-(i+1))+1:=by omega
 rw[this,NB]
def yI(n:Nat)(fl:List Nat)(fi:En->(List IJ->Prop)->Prop)(g:HE)(t:HB):HB:=fun D ρ=>fi ρ fun xs=>xs.length<=n/\cf fl g t xs D (fo fl ρ)
section
variable{X:Cx}{al:Option Addr}{c c1 c2 c3:Nat}{st:Stmt}{rest body:List Stmt}{t u:HB}{a b e ec:Expr}{es:List Expr}{fa fb:TV}{fs:HA}{f:TB}{pos p:Pos}
theorem gJ(n:Nat)(fl:List Nat){g:HE}(hp:O1 (Jv X.prog X.w) X.A X.env X.xe)(hc:X.calm=true)(hi:CI X al c1 tg iter fi)(hg:∀m,HZ X ⟨al,m⟩ tg g)(hb:ID X al c2 body t)
 (hs:∀x,JE iter X.env x=pure x:=by intro _;rfl):CS X al (c1+n*c2) (.For tg iter body [] pos) (yI n fl fi g t):=by
 obtain⟨wi,p0,k0⟩:=hi;obtain⟨T,p2,k2⟩:=hb;have p1:PG X tg (fun v σ H Q=>∃m,Jt (hg m) v σ H Q):=fun pins s σ H v u Q I rv ⟨m,z⟩=>(IN (hg m)).1 pins s σ H v u Q I rv z;refine⟨_,uI hp hc p0 p1 p2 hs,fun{b F₀ H₀ F H σ ρ} R Dv D ok q=>k0 (b:=b+n*c2) (R.pay (by omega)) _ _ q fun J xs F1 H1 g1 vi ⟨hn,q1⟩=>?_⟩;refine⟨fun i m σ H=>m=xs.length-i/\i<=xs.length/\∃F ρ,bE F1 F/\VR X.K ⟨al,b+(n-i)*c2⟩ F₀ H₀ F H σ ρ/\cf fl g t (xs.drop i) Dv ρ,⟨xs.length,by simp,Kc _,F1,fo fl ρ,.refl _,(R.gr g1).le (ff fl ρ),by simpa using q1⟩,?_⟩;rintro i m σ H ⟨rfl,hi,F2,ρ2,s2,R2,j2⟩;have sH:bE F1 H:=s2.trans R2.sub;by_cases hlt:i<xs.length
 · have ei:xs[i]?=some xs[i]:=by simp[hlt]
   rw[J1 hlt]at j2;have el:=fR (n:=n) (i:=i) (c:=c2) (by omega);refine .inr ⟨(vi 0).go i H _ ei sH,fun σ' H'=>∃F ρ,bE F1 F/\VR X.K ⟨al,b+(n-(i+1))*c2⟩ F₀ H₀ F H' σ' ρ/\cf fl g t (xs.drop (i+1)) Dv ρ,fun σ' H' z=>⟨xs.length-(i+1),by omega,rfl,hlt,z⟩,fun v H' y=>?_⟩;obtain⟨Fy,gy,rv⟩:=(vi 0).yld i H v H' _ F2 ei s2 R2.sub R2.reel y;refine⟨_,(IN (hg (b+(n-i)*c2))).2 (R2.gr gy) v _ _ _ rv j2 fun F3 H3 σ3 ρ3 s3 n3 R3 q3=>?_⟩;have s13:bE F1 F3:=s2.trans (gy.fs.trans s3.fs);have o2:=ok.pay (b:=b+(n-(i+1))*c2) (by omega)
   exact k2 (b:=b+(n-(i+1))*c2) (R3.pay (by omega)) {Dv with nx:=fun ρ'=>cf fl g t (xs.drop (i+1)) Dv (fo fl ρ'),ct:=fun ρ'=>cf fl g t (xs.drop (i+1)) Dv (fo fl ρ'),bk:=fun ρ'=>Dv.nx (fo fl ρ')} _
    ⟨fun F4 H4 σ4 ρ4 s4 R4 q4=>⟨F4,fo fl ρ4,s13.trans s4,R4.le (ff fl ρ4),q4⟩,o2.rt,fun F4 H4 σ4 ρ4 s4 R4 q4=>o2.nx _ _ _ _ (g1.fs.trans (s13.trans s4)) (R4.le (ff fl ρ4)) q4,fun F4 H4 σ4 ρ4 s4 R4 q4=>⟨F4,fo fl ρ4,s13.trans s4,R4.le (ff fl ρ4),q4⟩⟩ q3
 · have e:i=xs.length:=by omega
   subst e;rw[Lc]at j2;exact .inl ⟨(vi 0).stop _ H (I_ _) sH,ok.nx _ _ _ _ (g1.fs.trans s2) (R2.pay (by omega)) j2⟩
def EZ(K:W.Frag)(al:Option Addr)(c:Nat)(P:List W->(IJ->Prop)->Prop):Sp:=fun vs H Q _=>∃b F ws,bE F H/\HM ⟨al,b+c⟩ F H/\eW K ⟨al,b+c⟩ F H vs ws/\ws.all d6=true/\P ws fun d=>∀v F' H',Grow ⟨al,b⟩ F H F' H'->Rep K F' v d->Q v H'
structure DfnC (P:Ju) (w:J_) (K:W.Frag) (mg:Str->Option IR) (base:Heap) (al:Option Addr) (c:Nat) (x:Str) (ps:List Str) (k:Nat) (Pd:List W->(IJ->Prop)->Prop):Prop where
 mono:∀ws Q Q',(∀d,Q d->Q' d)->Pd ws Q->Pd ws Q'
 ex:∃f fd,mg x=some (.ref f)/\W.keepIn K (.ref f)=true/\Binds K fd ps []/\FnOk P w K mg base IA k f fd ps (EZ K al c Pd)
theorem bC{x:Str}{ps:List Str}{k:Nat}{Pd:List W->(IJ->Prop)->Prop}(D:DfnC X.prog X.w X.K X.mg X.base al c2 x ps k Pd)(hr:Room k X.A)(ha:IB X al c1 (e::es) fs)(hg:Gl X x:=by rfl)
 (hdb:(x==("__debug__" : Str))=false:=by decide)(he:IZ (e::es) X.env=(false,eval e X.env)::IZ es X.env:=by rfl)(hpl:(KC pos (IZ es X.env)).any (·.1)=false:=by rfl) :
 CV X al (c1+c2) (.Call (.Name x p) (e::es) [] pos) (Bn Pd fs):=by
 obtain⟨f,fd,hm,hk,hb,F⟩:=D.ex;obtain⟨t,p1,kk⟩:=ha;refine⟨_,gj F hr hg hm hk hb .nil pY p1 hdb he hpl,fun{n _ _ _ _ _ _} R Qd Q q h=>kk (b:=n+c2) (R.pay (by omega)) _ _ q fun vs ws F1 H1 g1 r1 ⟨ok,q1⟩=>?_⟩;refine⟨n,F1,ws,g1.sub,g1.reel,by rw[KO];exact r1,ok,?_⟩;exact D.mono ws _ _ (fun d qd v F2 H2 g2 r2=>h v (.d d) F2 H2 (g1.tr g2) r2 trivial qd) q1
end
section
variable{P:Ju}{w:J_}{K:W.Frag}{mg:Str->Option IR}{base:Heap}{al:Option Addr}{c c0:Nat}{x:Str}{st:Stmt}{N ps:List Str}{k:Nat}{Pd:List W->(IJ->Prop)->Prop}{t:HB}
theorem DfnC.of(Fn:FnIn K mg x st ps)(S:FnScope N ps (defScope st))(mono:∀ws Q Q',(∀d,Q d->Q' d)->Pd ws Q->Pd ws Q')(len:∀ws Q,Pd ws Q->ws.length=ps.length)
 (hbody:∀{f:Addr}(cdv:IR)(A:Kh)(outer:List Env)(s:IW)(H:Hp)(E:XK),Room k (A.deeper (NR x (defScope st) s.heap.objs.size f cdv)) ->
  ID (nX IA P w K mg base N x (defScope st) f cdv A outer s H E).nox al c0 (defBody st) t)
 (hle:c0<=c)(hread:∀ws Q,Pd ws Q->t (mU Q) (dv N ws)):DfnC P w K mg base al c x ps (k+1) Pd:=by
 obtain⟨f,fd,hm,F,hb⟩:=Fn.ex;refine⟨mono,f,fd,hm,F.kp,hb,?_⟩;refine F.ok S (fun vs H Q E ⟨n,F,ws,_,_,r,_,q⟩=>(Kt r).trans (len ws _ q)) fun cdv A outer s H vs Q E hr h=>?_;obtain⟨n,F1,ws,sm,ra,r,ok,q⟩:=h;obtain⟨T,p,kk⟩:=hbody cdv A outer s H E hr;refine⟨T,p,kk (b:=n) ((eg sm ra r ok).pay (by omega)) (mU _) _ ⟨?_,?_,fun _ _ _ _ _ _ z=>J7 z,fun _ _ _ _ _ _ z=>J7 z⟩ (hread ws _ q)⟩
 · intro F2 H2 σ1 ρ1 _ R1 q1;exact q1 .non F2 H2 R1.g .non
 · rintro v w1 F2 H2 g1 r1 n1 ⟨d,ed,q1⟩;obtain⟨F3,g2,s2,r2⟩:=cY.fz g1 r1 n1;rw[ed]at r2;exact q1 v F3 H2 g2 r2
end
def oI(n:Nat)(fi:En->(List IJ->Prop)->Prop)(fr:List (Option Nat))(g:HE)(ft:TB)(fe:TV):TV:=fun ρ Q=>fi ρ fun xs=>xs.length<=n/\lG (dX fr ρ) g ft fe xs [] fun ds=>Q (.ml ds)
def IC(X:Cx)(al:Option Addr)(c:Nat)(ifs:List Expr)(f:TB):Prop:=∃t,HQ X ifs t/\∀{b:Nat}{F₀ H₀ F H:Hp}{σ:St}{ρ:En},VR X.K ⟨al,b+c⟩ F₀ H₀ F H σ ρ->∀(Qd:Bool->Prop)(Q:Bool->Hp->Prop),f ρ Qd ->
 (∀k F' H',Grow ⟨al,b⟩ F H F' H'->Qd k->Q k H')->t σ H Q
theorem AC{al:Option Addr}:IC X al 0 [] (fun _ Q=>Q true):=⟨_,kJ,fun R Qd Q q k=>k true _ _ (Grow.refl R.sub R.reel) q⟩
section
variable{X:Cx}{al:Option Addr}{c1 c2 c3:Nat}{elt tg iter:Expr}{ifs:List Expr}{scope:Scope}{pos:Pos}{fi:En->(List IJ->Prop)->Prop}{g:HE}{ft:TB}{fe:TV}
abbrev FY{Y:Cx}(hg:∀m,HZ Y ⟨al,m⟩ tg g):TG:=fun v σ H Q=>∃m,Jt (hg m) v σ H Q
theorem BC{Y:Cx}(hg:∀m,HZ Y ⟨al,m⟩ tg g):PG Y tg (FY hg):=fun pins s σ H v u Q I rv ⟨m,z⟩=>(IN (hg m)).1 pins s σ H v u Q I rv z
theorem tm{N':List Str}{wi:TI}(n:Nat)(fr:List (Option Nat))(k0:∀{b:Nat}{F₀ H₀ F H:Hp}{σ:St}{ρ:En},VR X.K ⟨al,b+c1⟩ F₀ H₀ F H σ ρ->∀(Qd:List IJ->Prop)(R:It->Hp->Prop),fi ρ Qd ->
 (∀J xs F' H',Grow ⟨al,b⟩ F H F' H'->(∀b',VIt X.K ⟨al,b'⟩ F' J xs)->Qd xs->R J H')->wi σ H R)
 (hg:∀y m,HZ (Hm X N' scope y) ⟨al,m⟩ tg g)(ht:∀y,IC (Hm X N' scope y) al c2 ifs ft)(he:∀y,CV (Hm X N' scope y) al c3 elt fe)
 {b:Nat}(R:VR X.K ⟨al,b+(c1+n*(c2+c3))⟩ F₀ H₀ F H σ ρ)(Qd:W->Prop)(Q:VK)(q:oI n fi fr g ft fe ρ Qd)
 (k:∀v w F' H',Grow ⟨al,b⟩ F H F' H'->cY X.K ⟨al,b⟩ F' H' v w->dL H v w->Qd w->Q v H'):si wi fr (fun y=>FY (hg y)) (fun y=>Jt (ht y)) (fun y=>Jt (he y)) σ H Q:=by
 refine k0 (b:=b+n*(c2+c3)) (R.pay (by omega)) _ _ q fun J xs F1 H1 g1 vi ⟨hn,q1⟩=>?_;intro D hD;have rD:al≠some D:=fun e=>by obtain⟨o,z⟩:=g1.reel.live e;rw[hD]at z;cases z
 have FD:F1 D=none:=g1.sub.free hD;have gD:Grow ⟨al,b+n*(c2+c3)⟩ F1 H1 F1 (upd H1 D (.lst [])):=Grow.laid g1.sub g1.reel hD;have R1:=R.gr g1;have n0:nQ (dX fr ρ):=dH
 refine⟨fun i m acc σc Hc=>m=xs.length-i/\i<=xs.length/\∃Fc ds,VR X.K ⟨al,b+(n-i)*(c2+c3)⟩ F1 H1 Fc Hc σc (dX fr ρ)/\Hc D=some (.lst acc)/\Fc D=none/\Reps X.K Fc acc ds/\lG (dX fr ρ) g ft fe (xs.drop i) ds (fun ds=>Qd (.ml ds)),
  ⟨xs.length,by simp,Kc _,F1,[],fH R1 gD,ax,FD,.nil,by simpa using q1⟩,?_⟩
 rintro z i m acc σc Hc ⟨rfl,hi,Fc,ds,Rc,hDc,fDc,rs,q2⟩;have sH:bE F1 Hc:=Rc.g.fs.trans Rc.sub;by_cases hlt:i<xs.length
 · have ei:xs[i]?=some xs[i]:=by simp[hlt]
   have ed:xs.drop i=xs[i]::xs.drop (i+1):=J1 hlt;rw[ed]at q2;have el:=fR (n:=n) (i:=i) (c:=c2+c3) (by omega);refine .inr ⟨(vi 0).go i Hc _ ei sH,fun v H' y=>?_⟩;obtain⟨Fy,gy,rv⟩:=(vi 0).yld i Hc v H' _ Fc ei Rc.g.fs Rc.sub Rc.reel y;refine⟨_,(IN (hg z _)).2 (Rc.gr gy) v _ _ _ rv q2 fun F3 H3 σ3 ρ3 g3 n3 R3 ⟨le3,q3⟩=>?_⟩;obtain⟨_,kt⟩:=IN (ht z);refine kt (b:=b+(n-(i+1))*(c2+c3)+c3) (R3.pay (by omega)) _ _ q3 fun k4 F4 H4 g4 q4=>?_;have R4:=R3.gr g4;have g34:=(gy.tr g3).tr g4;have keepD:∀{m:Nat}{Fx Hx:Hp},Grow ⟨al,m⟩ Fc Hc Fx Hx->Hx D=some (.lst acc)/\Fx D=none:=fun gx=>⟨gx.same D _ hDc rD,by rw[gx.old D _ hDc];exact fDc⟩
   cases k4 with
   | false=>exact⟨xs.length-(i+1),by omega,rfl,hlt,F4,ds,(R4.pay (by omega)).le le3,(keepD g34).1,(keepD g34).2,rs.mono g34.fs,q4⟩
   | true =>
     obtain⟨_,kv⟩:=IN (he z);refine kv (b:=b+(n-(i+1))*(c2+c3)) R4 _ _ q4 fun v5 w5 F5 H5 g5 r5 n5 ⟨d,ed5,hl,q5⟩=>?_;obtain⟨F6,g6,s6,r6⟩:=cY.fz g5 r5 n5;rw[ed5]at r6;have g36:=g34.tr g6;refine⟨(keepD g36).1,by rw[rs.length];exact hl,xs.length-(i+1),by omega,rfl,hlt,F6,ds++[d],((R4.gr g6).le le3).other n0 hD (keepD g36).2 rD,ax,(keepD g36).2,(rs.mono g36.fs).snoc r6,q5⟩
 · have e:i=xs.length:=by omega
   subst e;rw[Lc]at q2;refine .inl ⟨(vi 0).stop _ Hc (I_ _) sH,k _ (.ml ds) Fc Hc (g1.tr (Rc.g.pay (by omega))) ⟨D,acc,rfl,fDc,rD,hDc,rs⟩ (fun a ea=>by cases ea;exact g1.freeB hD) q2⟩
theorem xQ(n:Nat)(N':List Str)(fr:List (Option Nat))(hc:X.calm=true)(hi:CI X al c1 tg iter fi)
 (hg:∀y m,HZ (Hm X N' scope y) ⟨al,m⟩ tg g)(ht:∀y,IC (Hm X N' scope y) al c2 ifs ft)(he:∀y,CV (Hm X N' scope y) al c3 elt fe)
 (hfr:nI fr N' X.N scope X.env.scope=true:=by rfl)(hsc:nT scope X.env.scope=true:=by rfl)
 (hs:∀x,JE iter X.env x=pure x:=by intro _;rfl):CV X al (c1+n*(c2+c3)) (.ListComp elt [⟨tg,iter,ifs,0⟩] scope pos) (oI n fi fr g ft fe):=by
 obtain⟨wi,p0,k0⟩:=hi;exact⟨_,fI N' fr hc p0 hfr hsc (fun y=>BC (hg y)) (fun y=>(IN (ht y)).1) (fun y=>(IN (he y)).1) hs,fun R Qd Q q k=>tm n fr k0 hg ht he R Qd Q q k⟩
end
noncomputable def kC:Ie:=LA "cell"
noncomputable def kL:Ie:=LA "left"
noncomputable def kT:Ie:=LA "turn"
theorem B9:¬kC=kL:=by decide +kernel
theorem B8:¬kC=kT:=by decide +kernel
theorem A6:¬kL=kT:=by decide +kernel
noncomputable def bU(c l t:Int):List (Ie×V):=[(kC,.int c),(kL,.int l),(kT,.int t)]
theorem kd{p:Ie×V}{r:List (Ie×V)}{k:Ie}(e:¬p.1=k):fF (p::r) k=fF r k:=by
 unfold fF;rw[Ka];simp[e]
theorem yR(c l t:Int):fF (bU c l t) kC=some (.int c):=dF rfl
theorem yQ(c l t:Int):fF (bU c l t) kL=some (.int l):=by unfold bU;rw[kd B9];exact dF rfl
theorem uB(c l t:Int):fF (bU c l t) kT=some (.int t):=by unfold bU;rw[kd B8,kd A6];exact dF rfl
theorem GN{a b:Ie}(h:¬a=b):¬b=a:=fun e=>h e.symm
theorem BX(c l t n:Int):dN (bU c l t) kL (.int n)=bU c n t:=by
 unfold dN bU;rw[if_pos (by simp)];simp[B9,GN A6]
theorem BW(c l t n:Int):dN (bU c l t) kT (.int n)=bU c l n:=by
 unfold dN bU;rw[if_pos (by simp)];simp[B8,A6]
theorem CC:(0:Int)+BM<2^59990:=by
 have h:BM<2^59990:=OH (by decide) (by decide);rw[M3]
 exact_mod_cast h
theorem ReelOk.kv{r:Addr}(h:ReelOk n F H r):∃c l t:Int,H r=some (.dK (bU c l t))/\0<=l/\0<=t/\t+n<2^59990:=by
 obtain⟨o,e,c,l,t,rfl,q⟩:=h.ex;exact⟨c,l,t,e,q⟩
theorem HM.put{al:Option Addr}{n':Nat}{K:W.Frag}{r:Addr}{l t:Int}(R:VR K ⟨al,n⟩ F₀ H₀ F H σ ρ)(e:al=some r)(h:0<=l/\0<=t/\t+n'<2^59990):VR K ⟨al,n'⟩ F₀ H₀ F (upd H r (.dK (bU c l t))) σ ρ:=by
 have fr:F r=none:=(R.reel r e).1;have neF:∀b u,F b=some u->b≠r:=fun b u q z=>by subst z;rw[fr]at q;cases q
 have g:Grow ⟨al,n'⟩ F H F (upd H r (.dK (bU c l t))):=by
  refine⟨fun b o q n=>by rw[ar (fun z=>n (by rw[z];exact e))];exact q,.refl F,fun b o q=>by rw[ar (neF b o q)];exact R.sub b o q,fun _ _ _=>rfl,fun y z=>?_⟩;have:y=r:=JN (z.symm.trans e);subst this;exact⟨fr,⟨_,ax,c,l,t,rfl,h⟩⟩
 exact R.gr g
section
variable{X:Cx}{rl:RlT}{e:Expr}{fa:TV}{pos p p1 p2:Pos}{ρ:En}
def FK(i:Nat):TV:=fun ρ Q=>ρ[i]?=some (some .reel)/\∀n:Int,0<=n->Q (.d (.int n))
def FM(i:Nat):TV:=fun ρ Q=>ρ[i]?=some (some .reel)/\∀n:Int,Q (.d (.int n))
theorem oB{x:Str}{k:Str}{j}(hr:Room 0 X.A)(hk:(LA k:Ie)=kL\/(LA k:Ie)=kT)(hN:X.N[i]?=some x:=by rfl)(hv:Hv X.env.scope x:=by first|exact Kz rfl|exact J0 (Kz rfl)|exact J0 (J0 rfl))
 (hd:(x==("__debug__" : Str))=false:=by decide)(hcd:(x==("__classdict__" : Str))=false:=by decide)(hs:vd (.Constant (.str k) j p2):=by exact fun _ _=>rfl):PV X rl (.Subscript (.Name x p1) (.Constant (.str k) j p2) pos) (FK i):=by
 refine⟨_,gf (nG hr) (cu hN hv hd hcd) eI hs,fun{F₀ H₀ F H σ ρ} R Qd Q ⟨e1,q⟩ h=>?_⟩;obtain⟨v,s1,⟨r,er,ev⟩,_⟩:=R.sl i _ e1;subst ev;obtain⟨_,ok⟩:=R.reel r er;obtain⟨c,l,t,hH,b2,b3,b4⟩:=ok.kv
 have go:∀n:Int,0<=n->fF (bU c l t) (LA k)=some (.int n)->yV (x6 i) (tC (.str k)) σ H Q:=fun n hn e=>by
  refine⟨.ref r,s1,r,.int n,rfl,?_,h _ (.d _) F H (Grow.refl R.sub R.reel) (.int n) trivial (q n hn)⟩;have g:=yc.k (k:=(LA k:Ie)) hH;rw[e]at g;exact g
 rcases hk with hk|hk
 · exact go l b2 (by rw[hk];exact yQ c l t)
 · exact go t b3 (by rw[hk];exact uB c l t)
theorem vN{x:Str}{j}(hr:Room 0 X.A)(hN:X.N[i]?=some x:=by rfl)(hv:Hv X.env.scope x:=by first|exact Kz rfl|exact J0 (Kz rfl)|exact J0 (J0 rfl))
 (hd:(x==("__debug__" : Str))=false:=by decide)(hcd:(x==("__classdict__" : Str))=false:=by decide)(hs:vd (.Constant (.str "cell") j p2):=by exact fun _ _=>rfl):PV X rl (.Subscript (.Name x p1) (.Constant (.str "cell") j p2) pos) (FM i):=by
 refine⟨_,gf (nG hr) (cu hN hv hd hcd) eI hs,fun{F₀ H₀ F H σ ρ} R Qd Q ⟨e1,q⟩ h=>?_⟩;obtain⟨v,s1,⟨r,er,ev⟩,_⟩:=R.sl i _ e1;subst ev;obtain⟨_,ok⟩:=R.reel r er;obtain⟨c,l,t,hH,b2,b3,b4⟩:=ok.kv;refine⟨.ref r,s1,r,.int c,rfl,?_,h _ (.d _) F H (Grow.refl R.sub R.reel) (.int c) trivial (q c)⟩;have g:=yc.k (k:=kC) hH;rw[yR]at g;exact g
def yF(i:Nat)(fa:TV):HB:=fun D ρ=>fa ρ fun w=>∃n,w = .d (.int n)/\0<=n/\ρ[i]?=some (some .reel)/\D.nx ρ
theorem vw{x:Str}{k:Str}{j}(hr:Room 0 X.A)(hk:(LA k:Ie)=kL\/False)(ha:PV X rl e fa)(hN:X.N[i]?=some x:=by rfl)(hv:Hv X.env.scope x:=by first|exact Kz rfl|exact J0 (Kz rfl)|exact J0 (J0 rfl))
 (hd:(x==("__debug__" : Str))=false:=by decide)(hcd:(x==("__classdict__" : Str))=false:=by decide)(hsw:K0 e (some (.Subscript (.Name x p1) (.Constant (.str k) j p2) pos')) pos.line X.env=pure false:=by rfl) :
 HS X rl (.Assign [.Subscript (.Name x p1) (.Constant (.str k) j p2) pos'] e pos) (yF i fa):=by
 obtain⟨t,p3,kk⟩:=ha;refine⟨_,kN (nG hr) (cu hN hv hd hcd) eI p3 hsw,fun{F₀ H₀ F H σ ρ} R Dv D ok q=>kk R _ _ q fun v w F1 H1 g1 r1 n1 ⟨n,ew,hn,e1,q1⟩=>?_⟩;subst ew;have ev:=aJ r1;subst ev;have R1:=R.grow g1;obtain⟨v,s1,⟨r,er,ev⟩,_⟩:=R1.sl i _ e1;subst ev;obtain⟨_,okr⟩:=R1.reel r er;obtain⟨c,l,t,hH,b2,b3,b4⟩:=okr.kv;refine⟨.ref r,s1,r,_,rfl,CP.k (k:=(LA k:Ie)) hH (jm (by show 3<=1000;decide)),?_⟩
 have go:∀l' t':Int,0<=l'->0<=t'->t'+rl.b<2^59990->dN (bU c l t) (LA k) (.int n)=bU c l' t'->D.nx σ (upd H1 r (.dK (dN (bU c l t) (LA k) (.int n)))):=fun l' t' x2 x3 x4 e=>by
  rw[e];exact ok.nx _ _ _ _ g1.fs (HM.put (al:=rl.a) (n:=rl.b) (n':=rl.b) R1 er ⟨x2,x3,x4⟩) q1
 rcases hk with hk|hk
 · exact go n t hn b3 b4 (by rw[hk];exact BX c l t n)
 · exact hk.elim
noncomputable def Hr:W->Option Unit
 | .reel=>some ()
 | _=>none
theorem aW:Hr .reel=some ():=rfl
theorem DT:(((ρ[i]?).join).bind Hr=some ())↔ρ[i]?=some (some .reel):=by
 constructor
 · intro h
   cases q:ρ[i]? with
   | none=>rw[q]at h;cases h
   | some o=>rw[q]at h;cases o with
     | none=>cases h
     | some w=>cases w<;>first|rfl|cases h
 · intro h;rw[h];rfl
theorem y9{k:Unit->Mo β}{Q:β->Prop}:aQ (((ρ[i]?).join).bind Hr) k Q↔ρ[i]?=some (some .reel)/\k () Q:=by
 rw[aq];exact⟨fun⟨u,a,q⟩=>⟨DT.mp a,q⟩,fun⟨a,q⟩=>⟨(),DT.mpr a,q⟩⟩
theorem aU(i:Nat):FK i ρ=aQ (((ρ[i]?).join).bind Hr) fun _=>Hl (anyM fun n:Int=>0<=n) fun n=>ret (.d (.int n)):=ag fun Q=>(Iff.intro (fun⟨a,q⟩=>y9.mpr ⟨a,fun n h=>q n h⟩) fun h=>⟨(y9.mp h).1,fun n hn=>(y9.mp h).2 n hn⟩)
theorem aV(i:Nat):FM i ρ=aQ (((ρ[i]?).join).bind Hr) fun _=>Hl (anyM fun _:Int=>True) fun n=>ret (.d (.int n)):=ag fun Q=>(Iff.intro (fun⟨a,q⟩=>y9.mpr ⟨a,fun n _=>q n⟩) fun h=>⟨(y9.mp h).1,fun n=>(y9.mp h).2 n trivial⟩)
theorem aE(i:Nat):mS (yF i fa) ρ=Hl (fa ρ) fun w=>aQ (asI w) fun n=>G6 (0<=n) (aQ (((ρ[i]?).join).bind Hr) fun _=>ret (.nx ρ)):=by
 show(Hl (fa ρ) fun w=>fun(Q:Fl->Prop)=>∃n,w = .d (.int n)/\0<=n/\ρ[i]?=some (some .reel)/\Q (.nx ρ))=_;congr 1;funext w;refine ag fun Q=>?_;simp only[aq (o:=asI w),cL,G6,y9,ret]
end
theorem nu(c l t:Int):eL [] [(kC,V.int c),(kL,.int l),(kT,.int t)]=bU c l t:=by
 unfold eL bU;simp only[KQ,List.foldl_nil];have p0:dN ([]:List (Ie×V)) kC (V.int c)=[(kC,V.int c)]:=rfl;rw[p0];unfold dN;simp[B9,B8,A6]
section
variable{X:Cx}{s1 s2:Stmt}{t1 t2:HB}{e1 e2 e3:Expr}{f1 f2 f3:TV}{pos dpos q1 q2 q3:Pos}{j1 j2 j3:Nat}
theorem oV(hs1:HS X RlT.no s1 t1)(hs2:HS X RlT.no s2 t2)(h1:PV X RlT.no e1 f1)(h2:PV X RlT.no e2 f2)(h3:PV X RlT.no e3 f3) :
 ∃ T,HR X [s1,s2,.Return (some (.Dict [some (.Constant (.str "cell") j1 q1),some (.Constant (.str "left") j2 q2),some (.Constant (.str "turn") j3 q3)] [e1,e2,e3] dpos)) pos] T /\
   ∀ {F H:Hp}{σ:St}{ρ:En},VR X.K RlT.no F H F H σ ρ->∀D:Ends,(mS (xZ t1 t2) ρ fun r=>∃ρ',r = .nx ρ'/\(Hl (f1 ρ') fun w1=>Hl (f2 ρ') fun w2=>Hl (f3 ρ') fun w3=>ret (w1,w2,w3)) fun p=>∃c l t:Int,p=(.d (.int c),.d (.int l),.d (.int t))/\0<=l/\t=0) ->
     (∀r F' H',H r=none->Grow RlT.no F H F' H'->HM (RlT.at' r BM) F' H'->D.rt (.ref r) H')->T D σ H:=by
 obtain⟨T1,p1,k1⟩:=hs1;obtain⟨T2,p2,k2⟩:=hs2;obtain⟨g1,pe1,ke1⟩:=h1;obtain⟨g2,pe2,ke2⟩:=h2;obtain⟨g3,pe3,ke3⟩:=h3;refine⟨_,da p1 (da p2 (kK (lS (pW (db eI pe1 (db eI pe2 (db eI pe3 pM))) rfl rfl (by intro z;cases z) (by show 3<=15;decide))))),fun{F H σ ρ} R D q fin=>?_⟩
 have qq:t1 ⟨fun ρ=>t2 ⟨fun ρ'=>(Hl (f1 ρ') fun w1=>Hl (f2 ρ') fun w2=>Hl (f3 ρ') fun w3=>ret (w1,w2,w3)) fun p=>∃c l t:Int,p=(.d (.int c),.d (.int l),.d (.int t))/\0<=l/\t=0,fun _=>False,fun _=>False,fun _=>False⟩ ρ,fun _=>False,fun _=>False,fun _=>False⟩ ρ:=by
  simpa[mS,xZ]using q
 refine k1 R ⟨_,fun _=>False,fun _=>False,fun _=>False⟩ _ ⟨fun F1 H1 σ1 ρ1 sm1 R1 qa=>?_,fun _ _ _ _ _ _ _ z=>J7 z,fun _ _ _ _ _ _ z=>J7 z,fun _ _ _ _ _ _ z=>J7 z⟩ qq;refine k2 R1 ⟨_,fun _=>False,fun _=>False,fun _=>False⟩ _ ⟨fun F2 H2 σ2 ρ2 sm2 R2 qb=>?_,fun _ _ _ _ _ _ _ z=>J7 z,fun _ _ _ _ _ _ z=>J7 z,fun _ _ _ _ _ _ z=>J7 z⟩ qa;intro p hp;have gp:Grow RlT.no F2 H2 F2 (upd H2 p (.dK [])):=Grow.laid R2.sub R2.reel hp;refine ke1 (R2.grow gp) _ _ qb fun v1 w1 F3 H3 g3' r1 n1 qc=>?_;refine ke2 ((R2.grow gp).grow g3') _ _ qc fun v2 w2 F4 H4 g4 r2 n2 qd=>?_;refine ke3 (((R2.grow gp).grow g3').grow g4) _ _ qd fun v3 w3 F5 H5 g5 r3 n3 qe=>?_;obtain⟨c,l,t,e,hl,ht⟩:=qe;cases e;have a1:=aJ r1;have a2:=aJ r2;have a3:=aJ r3;subst a1 a2 a3;have gg:Grow RlT.no (F2) (upd H2 p (.dK [])) F5 H5:=(g3'.trans g4).trans g5;have hp5:H5 p=some (.dK []):=gg.same p _ ax (by simp);refine⟨hp5,[(kC,.int c),(kL,.int l),(kT,.int t)],rfl,(by show 3<=15;decide),?_⟩;rw[nu];have h0:H p=none:=R2.g.freeB hp;have f5:F5 p=none:=by rw[gg.old p _ ax];exact R2.sub.free hp
 have g0:Grow RlT.no F H F5 H5:=(R2.g.trans gp).trans gg;refine fin p F5 _ h0 ⟨fun b o eb _=>by rw[ar (aS eb h0)];exact g0.same b o eb (by simp),g0.fs,fun b o eb=>?_,g0.old,fun _ z=>by cases z⟩ (fun r er=>?_)
 · have:b≠p:=fun z=>by subst z;rw[f5]at eb;cases eb
   rw[ar this];exact g0.sub b o eb
 · cases er;subst ht;exact⟨f5,⟨_,ax,c,l,0,rfl,hl,by omega,CC⟩⟩
end
def FJ(m:Nat)(i:Nat):TV:=fun ρ Q=>ρ[i]?=some (some .reel)/\∀n:Int,0<=n->n+m<2^59990->Q (.d (.int n))
section
variable{X:Cx}{al:Option Addr}{m m' c:Nat}{rest:List Stmt}{u:HB}{e:Expr}{fa:TV}{pos p p1 p2:Pos}{ρ:En}
theorem vM{x:Str}{j}(hr:Room 0 X.A)(hN:X.N[i]?=some x:=by rfl)(hv:Hv X.env.scope x:=by first|exact Kz rfl|exact J0 (Kz rfl)|exact J0 (J0 rfl))
 (hd:(x==("__debug__" : Str))=false:=by decide)(hcd:(x==("__classdict__" : Str))=false:=by decide)(hs:vd (.Constant (.str "turn") j p2):=by exact fun _ _=>rfl):PV X ⟨al,m⟩ (.Subscript (.Name x p1) (.Constant (.str "turn") j p2) pos) (FJ m i):=by
 refine⟨_,gf (nG hr) (cu hN hv hd hcd) eI hs,fun{F₀ H₀ F H σ ρ} R Qd Q ⟨e1,q⟩ h=>?_⟩;obtain⟨v,s1,⟨r,er,ev⟩,_⟩:=R.sl i _ e1;subst ev;obtain⟨_,ok⟩:=R.reel r er;obtain⟨c,l,t,hH,b2,b3,b4⟩:=ok.kv;refine⟨.ref r,s1,r,.int t,rfl,?_,h _ (.d _) F H (Grow.refl R.sub R.reel) (.int t) trivial (q t b3 b4)⟩;have g:=yc.k (k:=kT) hH;rw[uB]at g;exact g
def yJ(i ih:Nat)(u:HB):HB:=fun D ρ=>ρ[ih]?=some (some .reel)/\i<ρ.length/\∀n:Int,0<=n->n<2^59990->u D (ρ.set i (some (.d (.int n))))
theorem xM(i ih:Nat){x h:Str}{j1 j2:Nat}{q1 q2 q3 q4 q5 q6 q7 q8 q9 q10 q11:Pos}(hr:Room 0 X.A)(hN:X.N.Nodup)(hne:i≠ih)(hrest:ID X al c rest u)(hi:X.N[i]?=some x:=by rfl)(hih:X.N[ih]?=some h:=by rfl)
 (hx:Loc X.env.scope x:=by first|exact Kz rfl|exact J0 rfl)(hf:X.fn x=true\/X.env.scope.names.lookup x=some .local:=by first|exact .inl rfl|exact .inr rfl)
 (hv:Hv X.env.scope h:=by first|exact Kz rfl|exact J0 (Kz rfl)|exact J0 (J0 rfl))(hvx:Hv X.env.scope x:=by first|exact Kz rfl|exact J0 (Kz rfl)|exact J0 (J0 rfl))
 (hd:(h==("__debug__" : Str))=false:=by decide)(hcd:(h==("__classdict__" : Str))=false:=by decide)(hd':(x==("__debug__" : Str))=false:=by decide)(hcd':(x==("__classdict__" : Str))=false:=by decide)
 (hs:K0 (.BinOp (.Subscript (.Name h q1) (.Constant (.str "turn") j1 q2) q3) .Add (.Constant (.int 1) j2 q4) q5) (some (.Name x q6)) q7.line X.env=pure false:=by rfl)
 (hsw:K0 (.Name x q8) (some (.Subscript (.Name h q9) (.Constant (.str "turn") j1 q10) q11)) pos.line X.env=pure false:=by rfl)
 (hsl:vd (.Constant (.str "turn") j1 q2):=by exact fun _ _=>rfl) :
 ID X al (1+c) (.Assign [.Name x q6] (.BinOp (.Subscript (.Name h q1) (.Constant (.str "turn") j1 q2) q3) .Add (.Constant (.int 1) j2 q4) q5) q7 :: .Assign [.Subscript (.Name h q9) (.Constant (.str "turn") j1 q10) q11] (.Name x q8) pos::rest) (yJ i ih u):=by
 obtain⟨T,pT,kR⟩:=hrest
 have s1:∀n,HS X ⟨al,n⟩ (.Assign [.Name x q6] (.BinOp (.Subscript (.Name h q1) (.Constant (.str "turn") j1 q2) q3) .Add (.Constant (.int 1) j2 q4) q5) q7) (rZ i (FO (Ha fun i j=>.int (i+j)) (FJ n ih) (vC (.int 1)))):=fun n =>
  aD i hN (v_add (vM hr hih hv hd hcd hsl) ah) hi hx hs hf
 refine⟨_,da (t:=fun D σ H=>∃n,Jt (s1 n) D σ H) (fun pins s σ H D I ⟨n,z⟩=>(IN (s1 n)).1 pins s σ H D I z) (da (kN (nG hr) (cu hih hv hd hcd) eI (cu hi hvx hd' hcd') hsw) pT),fun{b F₀ H₀ F H σ ρ} R Dv D ok ⟨e1,hlen,q⟩=>⟨b+(1+c),?_⟩⟩;refine(IN (s1 (b+(1+c)))).2 R {Dv with nx:=fun ρ'=>∃n:Int,(0<=n/\n+(b+c:Nat)<2^59990)/\ρ'=ρ.set i (some (.d (.int n)))} _ ⟨fun F1 H1 σ1 ρ1 sm R1 qn=>?_,fun v w F1 H1 g r n q=>(ok.pay (by omega)).rt v w F1 H1 g r n q,fun F1 H1 σ1 ρ1 sm R1 q=>(ok.pay (b:=b+(1+c)) (by omega)).bk F1 H1 σ1 ρ1 sm R1 q,fun F1 H1 σ1 ρ1 sm R1 q=>(ok.pay (b:=b+(1+c)) (by omega)).ct F1 H1 σ1 ρ1 sm R1 q⟩ ?_
 · obtain⟨n,⟨hn,hl⟩,rfl⟩:=qn;obtain⟨v,s1',r1,_⟩:=R1.sl i (.d (.int n)) (by rw[Jp hlen]);have ev:=aJ r1;subst ev;obtain⟨v2,s2,⟨r,er,ev2⟩,_⟩:=R1.sl ih .reel (by rw[Jk hne];exact e1);subst ev2;obtain⟨_,okr⟩:=R1.reel r er;obtain⟨cc,l,t,hH,b2,b3,b4⟩:=okr.kv;refine⟨.int n,s1',.ref r,s2,r,_,rfl,CP.k (k:=kT) hH (jm (by show 3<=1000;decide)),?_⟩;rw[BW];exact kR (b:=b) (HM.put (n':=b+c) R1 er ⟨b2,hn,hl⟩) Dv D (ok.on sm) (q n hn (by omega))
 · refine⟨e1,fun n h0 h1=>?_⟩;refine⟨n,1,rfl,rfl,.int (n+1),rfl,n+1,⟨by omega,by omega⟩,rfl⟩
theorem aG(i ih:Nat):mS (yJ i ih u) ρ=aQ (((ρ[ih]?).join).bind Hr) fun _=>G6 (i<ρ.length) (Hl (anyM fun n:Int=>0<=n/\n<2^59990) fun n=>mS u (ρ.set i (some (.d (.int n))))):=ag fun Q=>(Iff.intro (fun⟨a,l,q⟩=>y9.mpr ⟨a,l,fun n hn=>q n hn.1 hn.2⟩) fun h=>⟨(y9.mp h).1,(y9.mp h).2.1,fun n h0 h1=>(y9.mp h).2.2 n ⟨h0,h1⟩⟩)
theorem xK(i:Nat){x f:Str}{ps:List Str}{k:Nat}{pre:List W->Prop}{fs:HA}{es:List Expr}{cpos:Pos}(D:DfnR X.prog X.w X.K X.mg X.base f ps k pre)(hr:Room k X.A)(hN:X.N.Nodup)(ha:HN X RlT.no (e::es) fs)(hrest:∀r,ID X (some r) c rest u)(hc:c<=BM)
 (hi:X.N[i]?=some x:=by rfl)(hx:Loc X.env.scope x:=by first|exact Kz rfl|exact J0 rfl)(hg:Gl X f:=by rfl)(hdb:(f==("__debug__" : Str))=false:=by decide)
 (he:IZ (e::es) X.env=(false,eval e X.env)::IZ es X.env:=by rfl)(hpl:(KC cpos (IZ es X.env)).any (·.1)=false:=by rfl)
 (hs:K0 (.Call (.Name f p) (e::es) [] cpos) (some (.Name x px)) pos.line X.env=pure false:=by rfl)(hf:X.fn x=true\/X.env.scope.names.lookup x=some .local:=by first|exact .inl rfl|exact .inr rfl) :
 mP X RlT.no (.Assign [.Name x px] (.Call (.Name f p) (e::es) [] cpos) pos::rest) (yG i pre fs u):=by
 obtain⟨fa,fd,hm,hk,hb,F⟩:=D.ex;obtain⟨ta,p1,k1⟩:=ha;refine⟨_,da (ib hN hi hx (gj F hr hg hm hk hb .nil pY p1 hdb he hpl) hs hf) (wG X rest),fun{F₀ H₀ F H σ ρ} R Dv D ok q=>k1 R _ _ q fun vs ws F1 H1 g1 r1 ⟨ao,pw,q1⟩=>?_⟩;have R1:=R.grow g1;refine⟨F1,ws,g1.sub,by rw[KO];exact r1,ao,pw,fun r F2 H2 hr2 g2 ra=>?_⟩;intro pins s I;obtain⟨T,pT,kT⟩:=hrest r;have h0:H₀ r=none:=R1.g.freeB hr2;refine pT pins s _ H2 D I (kT (b:=0) ((R1.into hr2 g2 ra i).pay (by omega)) _ D ⟨fun F3 H3 σ3 ρ3 s3 R3 q3=>?_,fun v w F3 H3 g3 r3 n3 q3=>?_,fun F3 H3 σ3 ρ3 s3 R3 q3=>?_,fun F3 H3 σ3 ρ3 s3 R3 q3=>?_⟩ q1)
 · exact ok.nx F3 H3 σ3 _ (g1.fs.trans (g2.fs.trans s3)) (R3.out h0) q3
 · exact ok.rt v w F3 H3 (mB g3 h0) (pF r3 q3.1) n3 q3.2
 · exact ok.bk F3 H3 σ3 _ (g1.fs.trans (g2.fs.trans s3)) (R3.out h0) q3
 · exact ok.ct F3 H3 σ3 _ (g1.fs.trans (g2.fs.trans s3)) (R3.out h0) q3
end
theorem aF(n:Nat)(fl:List Nat)(fi:En->(List IJ->Prop)->Prop)(g:HE)(t:HB)(ρ:En):mS (yI n fl fi g t) ρ=Hl (fi ρ) fun xs=>G6 (xs.length<=n) (cp fl (Ho g t) xs (fo fl ρ)):=by
 refine ag fun Q=>?_;show(fi ρ fun xs=>xs.length<=n/\mS (cf fl g t xs) (fo fl ρ) Q)↔_;simp only[kW];exact MS
theorem aw(n:Nat)(fi:En->(List IJ->Prop)->Prop)(fr:List (Option Nat))(g:HE)(ft:TB)(fe:TV)(ρ:En):oI n fi fr g ft fe ρ=Hl (fi ρ) fun xs=>G6 (xs.length<=n) (Hl (ce (GW (dX fr ρ) g ft fe) xs []) fun ds=>ret (.ml ds)):=by
 refine ag fun Q=>?_;show(fi ρ fun xs=>xs.length<=n/\lG (dX fr ρ) g ft fe xs [] fun ds=>Q (.ml ds))↔_;simp only[i5];exact MS
noncomputable def fr(q:Rat):IJ:=.tuple [.int q.num,.int q.den]
theorem jJ{r:Rat}(h:fr q=fr r):q=r:=by
 simp only[fr,Kv,Kf,N8,and_true]at h;exact Rat.ext h.1 (by omega)
theorem eM(n:Int)(d:Nat)(h:d≠0):x8 n d=fr (N6 n d h):=by
 unfold x8 fr;rw[Rat.normalize_eq];have g:(LL n d:Int)=((n.natAbs.gcd d:Nat):Int):=by simp[LL]
 have gp:0<n.natAbs.gcd d:=Nat.gcd_pos_of_pos_right _ (by omega);have e1:n.fdiv (LL n d)=n / ((n.natAbs.gcd d:Nat):Int):=by rw[g,J5 _ (by omega)]
 have e2:(d:Int).fdiv (LL n d)=((d / n.natAbs.gcd d:Nat):Int):=by rw[g,J5 _ (by omega),Int.natCast_ediv]
 rw[e1,e2]
theorem gv{a:Int}(hb:0<b):x8 a b=fr ((a:Rat) / (b:Rat)):=by
 obtain⟨d,rfl⟩:=JS (show 0<=b by omega);rw[eM a d (by omega)];congr 1;have:(N6 a d (by omega))=mkRat a d:=by rw[Rat.normalize_eq_mkRat]
 rw[this,Rat.mkRat_eq_div];rfl
theorem Ax(q r:Rat):x8 (q.num*r.den+r.num*q.den) (q.den*r.den)=fr (q+r):=by
 have:=eM (q.num*r.den+r.num*q.den) (q.den*r.den) (Ot q.den_nz r.den_nz);rw[LM]at this;rw[this,Rat.add_def]
theorem Av(q r:Rat):x8 (q.num*r.den-r.num*q.den) (q.den*r.den)=fr (q-r):=by
 have:=eM (q.num*r.den-r.num*q.den) (q.den*r.den) (Ot q.den_nz r.den_nz);rw[LM]at this;rw[this,Rat.sub_def]
theorem Aw(q r:Rat):x8 (q.num*r.num) (q.den*r.den)=fr (q*r):=by
 have:=eM (q.num*r.num) (q.den*r.den) (Ot q.den_nz r.den_nz);rw[LM]at this;rw[this,Rat.mul_def]
theorem Cp(q r:Rat):decide (q.num*r.den<r.num*q.den)=decide (q<r):=by
 rw[decide_eq_decide];exact(Rat.lt_iff q r).symm
def GD(n:Nat)(q:Rat):Prop:=q.num.natAbs<2^n/\q.den<2^n
theorem GD.mono(h:GD n q)(hm:n<=m):GD m q:=⟨Jh h.1 (JK (by decide) hm),Jh h.2 (JK (by decide) hm)⟩
theorem rm{i:Int}(h:i.natAbs<2^2000):IE i:=Jh h (JK (by decide) (by decide))
theorem GD.bn(h:GD 2000 q):IE q.num:=rm h.1
theorem GD.bd(h:GD 2000 q):IE (q.den:Int):=rm (by rw[Ly];exact h.2)
theorem fm(q r:Rat):(0:Int)<(q.den:Int)*(r.den:Int):=PH (by have:=q.den_nz;omega) (by have:=r.den_nz;omega)
theorem gF{r:Rat}(h:GD 2000 q)(h':GD 2000 r):((q.den:Int)*(r.den:Int)).natAbs<2^8000:=by
 rw[MX,Ly,Ly];have:q.den*r.den<2^2000*2^2000:=N9 h.2 h'.2;rw[<- PJ]at this;exact Jh this (JK (by decide) (by decide))
inductive Sd where
 | to (t:Rat)|from(a b:Rat)|round (a b:Rat)
noncomputable def Sd.last:Sd->Rat
 | .to t=>t | .from _ b=>b | .round _ b=>b
def Sd.first:Sd->Rat
 | .to t=>t | .from a _=>a | .round a _=>a
noncomputable def Gw:Sd->IJ
 | .to t=>.tuple [.str "to", fr t]
 | .from a b=>.tuple [.str "from", fr a,fr b]
 | .round a b=>.tuple [.str "round", fr a,fr b]
def mx(q r:Rat):Rat:=if q<r then r else q
def mn(q r:Rat):Rat:=if q<r then q else r
noncomputable def szQ:Sd->Rat
 | .to t=>mx t 0
 | .from a b=>mx (mx b 0-mx a 0) 0
 | .round a b=>mn (1+(mx b 0-mx a 0)) 1
def Sd.Sm(s:Sd):Prop:=GD 60 s.first/\GD 60 s.last
theorem fr0:pr 0 1=fr 0:=rfl
theorem fr1:pr 1 1=fr 1:=rfl
theorem sE:GD 60 0:=⟨by decide,by decide⟩
theorem A3:GD 60 1:=⟨by decide,by decide⟩
theorem gX{r:Rat}(h:GD n q)(h':GD n r):GD n (mx q r):=by unfold mx;split<;>assumption
theorem B3{r:Rat}(h:GD n q)(h':GD n r):GD n (mn q r):=by unfold mn;split<;>assumption
theorem kP{n:Int}{d k:Nat}(hd:d≠0)(h1:n.natAbs<2^k)(h2:d<2^k):GD k (N6 n d hd):=by
 rw[Rat.normalize_eq];refine⟨?_,Lw (Nat.div_le_self _ _) h2⟩;show(n / ((n.natAbs.gcd d:Nat):Int)).natAbs<2^k;have hdv:((n.natAbs.gcd d:Nat):Int)∣n:=Int.ofNat_dvd_left.mpr (Nat.gcd_dvd_left _ _);rw[Int.natAbs_ediv_of_dvd hdv,Ly];exact Lw (Nat.div_le_self _ _) h1
theorem cW{a b:Nat}(h1:a<2^m)(h2:b<2^n):a*b<2^(m+n):=by
 rw[PJ];exact N9 h1 h2
theorem Aa{r:Rat}(h:GD m q)(h':GD n r):GD (m+n) (q*r):=by
 rw[Rat.mul_def];refine kP _ ?_ (cW h.2 h'.2);rw[MX];exact cW h.1 h'.1
theorem rF{r:Rat}(h:GD m q)(h':GD n r):GD (m+n+1) (q+r):=by
 rw[Rat.add_def];have a1:=cW h.1 h'.2;have a2:=cW h'.1 h.2;rw[Nat.add_comm n m]at a2;have a3:=cW h.2 h'.2;refine kP _ ?_ (Jh a3 (JK (by decide) (by omega)));have t:=Int.natAbs_add_le (q.num*r.den) (r.num*q.den);rw[MX,MX,Ly,Ly]at t;rw[Ou];omega
theorem ji{r:Rat}(h:GD m q)(h':GD n r):GD (m+n+1) (q-r):=by
 rw[Rat.sub_eq_add_neg];exact rF h ⟨by rw[Rat.neg_num,Int.natAbs_neg];exact h'.1,h'.2⟩
theorem GD.up(h:GD 60 q):GD 2000 q:=h.mono (by decide)
noncomputable def G8(x y:Rat)(b:Bool):Bool:=if b then !decide (y<x)else decide (x<y)
def GY(w:Str):Prop:=w = "half" \/ w = "shut" \/ w = "open"
noncomputable def GP(s:Sd)(w:Str)(x:Rat):Bool :=
 let ahead:=G8 x s.last (decide (w = "shut"))
 let behind:=G8 s.first x (!decide (w = "open"))
 match s with
 | .to _=>ahead
 | .from _ _=>behind&&ahead
 | .round _ _=>behind||ahead
noncomputable def sK(qs:List Rat):Rat:=qs.foldl (· * ·) 1
noncomputable def eX(ss:List Sd):IJ:=.tuple (ss.map Gw)
def nZ(ss:List Sd):Prop:=1<=ss.length/\ss.length<=4/\∀s∈ss,s.Sm
noncomputable def jp(ss:List Sd):Rat:=sK (ss.map szQ)
noncomputable def GG(qs:List Rat):IJ:=.tuple (qs.map fr)
def Bg(n:Nat)(qs:List Rat):Prop:=qs.length=n/\∀q∈qs,GD 60 q
noncomputable def GT(qs:List Rat)(ss:List Sd)(w:Str):Bool:=(qs.zip ss).all fun p=>GP p.2 w p.1
noncomputable def iK(ps:List (List Rat)):IJ:=.tuple (ps.map GG)
def ug(n:Nat)(ps:List (List Rat)):Prop:=1<=ps.length/\ps.length<=40/\∀p∈ps,Bg n p
noncomputable def cntN(ps:List (List Rat))(ss:List Sd)(w:Str):Nat:=(ps.filter fun p=>GT p ss w).length
noncomputable def dB(ps:List (List Rat))(ss:List Sd)(w:Str):Rat:=(cntN ps ss w:Int) / (ps.length:Int)
theorem at_last2{α:Type}(x y:α):L2.atI [x,y] (-1)=some y:=rfl
theorem at_last3{α:Type}(x y z:α):L2.atI [x,y,z] (-1)=some z:=rfl
theorem iq{α β:Type}(f:α->IJ)(g:β->IJ):∀(xs:List α)(ys:List β),i9 (xs.map f) (ys.map g)=(xs.zip ys).map fun p=>.tuple [f p.1,g p.2]
 | [],_=>by simp[i9]
 | _::_,[]=>by simp[i9]
 | x::xs,y::ys=>by
   show Jz [f x,g y]::i9 (xs.map f) (ys.map g)=_;rw[iq f g xs ys];rfl
theorem uY{α:Type}(p:α->Bool)(f:α->IJ):∀xs:List α,(xs.filterMap fun x=>if p x=true then some (f x)else none).length=(xs.filter p).length
 | []=>rfl
 | x::xs=>by
   have ih:=uY p f xs;cases h:p x<;>simp[h,ih]
theorem at_last1{α:Type}(x:α):L2.atI [x] (-1)=some x:=rfl
theorem gP{r:Rat}:fr q=fr r↔q=r:=⟨jJ,fun h=>by rw[h]⟩
theorem cU{s t:Sd}:Gw s=Gw t↔s=t:=by
 constructor
 · intro h;have n1:¬(Str.ofString "from" = Str.ofString "round"):=by decide +kernel
   cases s<;>cases t<;>simp[Gw,gP,n1,MO n1]at h ⊢ <;> first|exact h|exact(n1 h.1.symm).elim|exact(n1 h.1).elim
 · rintro rfl;rfl
theorem cV{a b:List Rat}:GG a=GG b↔a=b:=by
 unfold GG;rw[Kv,cy fun _ _=>gP]
theorem bY{a b:List Sd}:eX a=eX b↔a=b:=by
 unfold eX;rw[Kv,cy fun _ _=>cU]
theorem bW{a b:List (List Rat)}:iK a=iK b↔a=b:=by
 unfold iK;rw[Kv,cy fun _ _=>cV]
theorem dn{a b:List Rat}:a.map fr=b.map fr↔a=b:=cy fun _ _=>gP
theorem item_fr0(q:Rat):itemAt (fr q) 0=some (.int q.num):=rfl
theorem item_fr1(q:Rat):itemAt (fr q) 1=some (.int q.den):=rfl
theorem tupD_pt(a:List Rat):tupD (GG a)=some (a.map fr):=rfl
theorem seqD_pt(a:List Rat):d_ (GG a)=some (a.map fr):=rfl
theorem lenD_pt(a:List Rat):qu (GG a)=some a.length:=by show some (a.map fr).length=_;rw[IP]
theorem item_pt(a:List Rat)(i:Int):itemAt (GG a) i=(atI a i).map fr:=cq _ _ _
theorem tupD_bx(a:List Sd):tupD (eX a)=some (a.map Gw):=rfl
theorem seqD_bx(a:List Sd):d_ (eX a)=some (a.map Gw):=rfl
theorem lenD_bx(a:List Sd):qu (eX a)=some a.length:=by show some (a.map Gw).length=_;rw[IP]
theorem item_bx(a:List Sd)(i:Int):itemAt (eX a) i=(atI a i).map Gw:=cq _ _ _
theorem tupD_ps(a:List (List Rat)):tupD (iK a)=some (a.map GG):=rfl
theorem seqD_ps(a:List (List Rat)):d_ (iK a)=some (a.map GG):=rfl
theorem lenD_ps(a:List (List Rat)):qu (iK a)=some a.length:=by show some (a.map GG).length=_;rw[IP]
theorem item_ps(a:List (List Rat))(i:Int):itemAt (iK a) i=(atI a i).map GG:=cq _ _ _
theorem kind_pt(a:List Rat):dw (GG a)=dw (.tuple []):=rfl
theorem kind_bx(a:List Sd):dw (eX a)=dw (.tuple []):=rfl
def qd(a b:Int):Rat:=(a:Rat) / (b:Rat)
theorem Ae{a:Int}(hb:0<b):Jz [.int (a.fdiv (LL a b)),.int (b.fdiv (LL a b))]=fr (qd a b):=gv hb
theorem zt(q r:Rat):qd (q.num*r.den+r.num*q.den) (q.den*r.den)=q+r:=jJ (by rw[<- Ax];exact(gv (fm q r)).symm)
theorem zn(q r:Rat):qd (q.num*r.den-r.num*q.den) (q.den*r.den)=q-r:=jJ (by rw[<- Av];exact(gv (fm q r)).symm)
theorem zp(q r:Rat):qd (q.num*r.num) (q.den*r.den)=q*r:=jJ (by rw[<- Aw];exact(gv (fm q r)).symm)
theorem sD{a:Int}{k:Nat}(hb:0<b)(h1:a.natAbs<2^k)(h2:b.natAbs<2^k):GD k (qd a b):=by
 obtain⟨d,rfl⟩:=JS (show 0<=b by omega);have hd:d≠0:=by omega
 have e:qd a d=N6 a d hd:=jJ (by rw[<- eM,gv (by omega)];rfl);rw[e];exact kP _ h1 (by simpa using h2)
theorem uD{s:Sd}(h:s.Sm):GD 190 (szQ s):=by
 cases s with
 | to t=>exact(gX h.2 sE).mono (by decide)
 | «from» a b=>exact(gX (ji (gX h.2 sE) (gX h.1 sE)) (sE.mono (by decide))).mono (by decide)
 | round a b=>exact(B3 (rF A3 (ji (gX h.2 sE) (gX h.1 sE))) (A3.mono (by decide))).mono (by decide)
theorem iM:∀(qs:List Rat)(k:Nat)(a:Rat),GD k a->(∀q∈qs,GD 190 q)->GD (k+190*qs.length) (qs.foldl (· * ·) a)
 | [],k,a,h,_=>h
 | q::qs,k,a,h,hq=>by
   have:=iM qs (k+190) (a*q) (Aa h (hq q IS)) fun r hr=>hq r (IM _ hr);rw[KQ];refine this.mono ?_;rw[JL];omega
theorem so{ss:List Sd}(h:nZ ss):GD 850 (jp ss):=by
 obtain⟨h1,h4,hs⟩:=h
 have:=iM (ss.map szQ) 60 1 A3 fun q hq=>by
  obtain⟨s,ms,rfl⟩:=Jo.mp hq;exact uD (hs s ms)
 rw[IP]at this;exact this.mono (by omega)
theorem fW{ps:List (List Rat)}(h:ug n ps)(ss:List Sd)(w:Str):GD 60 (dB ps ss w):=by
 obtain⟨p1,p40,_⟩:=h;have hc:cntN ps ss w<=ps.length:=Ov _ _;exact sD (a:=(cntN ps ss w:Int)) (b:=(ps.length:Int)) (by omega) (by omega) (by omega)
def Ed(qs:List Rat):Prop:=∀q∈qs,0<=q/\q<1
def CM(ps:List (List Rat)):Prop:=∀p∈ps,Ed p
theorem nh{a:Int}(hb:0<b)(h:0<=a):0<=qd a b:=by
 unfold qd;have h1:(0:Rat)<=(a:Rat):=by exact_mod_cast h
 have h2:(0:Rat)<(b:Rat):=by exact_mod_cast hb
 rw[PK];exact Rat.mul_nonneg h1 (Rat.le_of_lt (Rat.inv_pos.mpr h2))
theorem zq{a:Int}(hb:0<b)(h:a<b):qd a b<1:=by
 unfold qd;have h1:(a:Rat)<(b:Rat):=by exact_mod_cast h
 have h2:(0:Rat)<(b:Rat):=by exact_mod_cast hb
 exact(Rat.div_lt_iff h2).mpr (by rw[Rat.one_mul];exact h1)
def IG:=IL @item_fr0 (IL @item_fr1 (IL @tupD_pt (IL @seqD_pt (IL @lenD_pt (IL @item_pt (IL @tupD_bx (IL @seqD_bx (IL @lenD_bx (IL @item_bx (IL @tupD_ps (IL @seqD_ps (IL @lenD_ps (IL @item_ps (IL @at_last1 (IL @at_last2 (IL @at_last3 (IL @kind_pt (IL @kind_bx (IL @fr0 (@fr1))))))))))))))))))))
noncomputable def fv(b:Int):List Int->Rat
 | []=>0
 | d::ds=>((d:Rat)+fv b ds) / (b:Rat)
noncomputable def nv(b:Int):List Int->Int
 | []=>0
 | d::ds=>d+b*nv b ds
noncomputable def tv(b:Int)(ds:List Int):Int:=ds.foldl (fun t d=>t*b+d) 0
def Ix(b:Int)(ds:List Int):Prop:=∀d∈ds,0<=d/\d<b
theorem iZ(b:Int):∀(ds:List Int)(t:Int),ds.foldl (fun t d=>t*b+d) t=t*b^ds.length+tv b ds
 | [],t=>by simp[tv]
 | d::ds,t=>by
   rw[KQ,iZ b ds (t*b+d),show tv b (d::ds)=ds.foldl (fun t d=>t*b+d) (0*b+d)from rfl,iZ b ds (0*b+d),JL,KY]
   grind
theorem oM(b d:Int)(ds:List Int):tv b (d::ds)=d*b^ds.length+tv b ds:=by
 rw[show tv b (d::ds)=ds.foldl (fun t d=>t*b+d) (0*b+d)from rfl,iZ];grind
theorem cQ(h:0<b):(b:Rat)≠0:=by
 intro z;have:b=0:=by exact_mod_cast z
 omega
theorem BA{b:Int}(hb:2<=b):∀ds:List Int,qd (tv b ds) (b^ds.length)=fv b ds
 | []=>by rw[show tv b []=0 from rfl,My,L8];show((0:Int):Rat) / ((1:Int):Rat)=0;rw[PK,show((0:Int):Rat)=0 from rfl,Rat.zero_mul]
 | d::ds=>by
   have ih:=BA hb ds;have h1:=cQ (show 0<b by omega);have h2:=cQ (show 0<b^ds.length from J6 (by omega));rw[oM,fv,<- ih,JL,KY];unfold qd;rw[Rat.intCast_add,KR,KR]
   grind
theorem yN{b:Int}(hb:2<=b):∀ds:List Int,Ix b ds->0<=tv b ds/\tv b ds<b^ds.length
 | [],_=>⟨N3 _,by simp[tv]⟩
 | d::ds,h=>by
   obtain⟨i1,i2⟩:=yN hb ds fun x m=>h x (IM _ m);obtain⟨j1,j2⟩:=h d IS;have hp:0<b^ds.length:=J6 (by omega);rw[oM,JL,KY,Ow (b^ds.length) b];have h1:0<=d*b^ds.length:=Int.mul_nonneg j1 (by omega);have h2:(d+1)*b^ds.length<=b*b^ds.length:=LP (by omega) (by omega);rw[Int.add_mul,Int.one_mul]at h2;omega
def ix(p:List Int)(f:Int):Int:=(p.idxOf f:Int)
noncomputable def Hh(b n:Int):List Int:=(digs b.toNat n.toNat).map fun(k:Nat)=>(k:Int)
theorem xa{b:Nat}(hb:2<=b):∀n:Nat,nv (b:Int) ((digs b n).map fun(k:Nat)=>(k:Int))=n:=by
 intro n
 induction n using Os with
 | _ n ih =>
   by_cases h:0<n
   · rw[fN hb h,Jg,nv,ih (n / b) (Oq h (by omega))];have:=Nat.mod_add_div n b
     exact_mod_cast this
   · have:n=0:=by omega
     subst this;rw[eQ];rfl
theorem zY{n:Int}(hb:2<=b)(hn:0<=n):nv b (Hh b n)=n:=by
 have:=xa (b:=b.toNat) (by omega) n.toNat;rw[Kk (by omega),Kk hn]at this;exact this
theorem xB(hb:2<=b)(n:Int):Ix b (Hh b n):=by
 intro d m;obtain⟨k,mk,rfl⟩:=Jo.mp m;have:=xI (b:=b.toNat) (by omega) _ k mk;omega
theorem lW(b:Int)(m:Nat):∀xs:List Int,nv b (xs++I0 m 0)=nv b xs
 | []=>by
   show nv b (I0 m 0)=0
   induction m with
   | zero=>rfl
   | succ m ih=>rw[Jx,nv,ih];simp
 | x::xs=>by rw[N7,nv,lW b m xs,nv]
theorem vX(b:Int)(ds:List Int)(d:Int):tv b (ds++[d])=tv b ds*b+d:=by simp[tv]
theorem jh(b:Int):∀xs:List Int,tv b xs.reverse=nv b xs
 | []=>rfl
 | x::xs=>by rw[Me,vX,jh b xs,nv];grind
theorem l_{b:Nat}(hb:2<=b):∀(k n:Nat),n<b^k->(digs b n).length<=k
 | k,n,h=>by
   by_cases hn:0<n
   · cases k with
     | zero=>simp at h;omega
     | succ k =>
       rw[fN hb hn,JL];have:n / b<b^k:=by rw[Nat.div_lt_iff_lt_mul (by omega)];rw[Ou]at h;exact h
       have:=l_ hb k (n / b) this;omega
   · have:n=0:=by omega
     subst this;rw[eQ];simp
theorem kX{n:Int}{k:Nat}(hb:2<=b)(hn:0<=n)(h:n<b^k):(Hh b n).length<=k:=by
 unfold Hh;rw[IP];refine l_ (by omega) k _ ?_
 have:((n.toNat:Nat):Int)<((b.toNat^k:Nat):Int):=by
  rw[Kk hn,L9,Kk (by omega)];exact h
 exact_mod_cast this
noncomputable def GJ(b c:Int)(k:Nat):List Int:=Hh b c++I0 (k-(Hh b c).length) 0
theorem kO{k:Nat}(hb:2<=b)(hc:0<=c)(h:c<b^k):(GJ b c k).length=k:=by
 have:=kX hb hc h;simp[GJ];omega
theorem pZ{k:Nat}(hb:2<=b):Ix b (GJ b c k):=by
 intro d m;rcases JU.mp m with m|m
 · exact xB hb c d m
 · rw[(NG.mp m).2];omega
theorem uN{k:Nat}(hb:2<=b)(hc:0<=c):nv b (GJ b c k)=c:=by
 unfold GJ;rw[lW,zY hb hc]
theorem Cv(b:Int):Hh b 0=[]:=by unfold Hh;rw[show(0:Int).toNat=0 from rfl,eQ];rfl
theorem xJ{n:Int}(hb:2<=b)(hn:0<n):Hh b n=(n%b)::Hh b (n / b):=by
 unfold Hh;rw[fN (show 2<=b.toNat by omega) (show 0<n.toNat by omega),Jg];have m1:=sZ (b:=b) (n:=n) (by omega) (by omega);have m2:=xH (b:=b) (n:=n) (by omega) (by omega);rw[m1,m2,JR]
theorem wI{n k:Int}(h2:2<=b)(h16:b<=16)(h0:0<=n)(hk:k<=1000)(h:n<b^k.toNat):n.toNat<2^4000:=by
 have h1:b^k.toNat<=16^k.toNat:=iN (by omega) h16 _;have h3:(16:Int)^k.toNat<=16^1000:=e8 (by decide) (by omega);have h4:(16:Int)^1000=2^4000:=by rw[show(16:Int)=2^4 by decide,<- Int.pow_mul]
 have h5:n<2^4000:=by rw[<- h4];exact Int.lt_of_lt_of_le h (Pj h1 h3)
 have:((n.toNat:Nat):Int)<((2^4000:Nat):Int):=by rw[Kk h0];exact_mod_cast h5
 exact_mod_cast this
theorem sL{k:Nat}(h2:2<=b)(h16:b<=16)(hk:k<=1000):(b^k).natAbs<2^8000:=by
 have h1:b^k<=16^k:=iN (by omega) h16 _;have h3:(16:Int)^k<=16^1000:=e8 (by decide) (by omega);have h4:(16:Int)^1000=2^4000:=by rw[show(16:Int)=2^4 by decide,<- Int.pow_mul]
 have h5:b^k<=2^4000:=by rw[<- h4];exact Pj h1 h3
 have h0:0<b^k:=J6 (by omega)
 have h6:(b^k).natAbs<=2^4000:=by
  have:((b^k).natAbs:Int)<=((2^4000:Nat):Int):=by rw[OI (by omega)];exact_mod_cast h5
  exact_mod_cast this
 exact Lw h6 (OH (by decide) (by decide))
def Fx(b:Int)(N:Nat)(q:Rat):Prop:=∃(T:Int)(k:Nat),q=qd T (b^k)/\0<=T/\T<b^k/\b^k<2^N
theorem BS{a d:Int}(hb:0<b)(hd:0<d):qd a b*qd c d=qd (a*c) (b*d):=by
 have h1:=cQ hb;have h2:=cQ hd;unfold qd;rw[KR,KR]
 grind
theorem jq(q:Rat):K8 (fr q)=true:=by
 simp[K8,fr,IJ.canLay0,IJ.canLayAll0,IJ.depth,IJ.depthAll]
noncomputable def q9:Rat:=⟨999999999998,999999999999,by decide,by decide⟩
theorem uS{b:Int}(hb:2<=b):∀xs ys:List Int,Ix b xs->Ix b ys->xs.length=ys.length->nv b xs=nv b ys->xs=ys
 | [],[],_,_,_,_=>rfl
 | [],_::_,_,_,h,_=>by simp at h
 | _::_,[],_,_,h,_=>by simp at h
 | x::xs,y::ys,fx,fy,h,e=>by
   obtain⟨x0,x1⟩:=fx x IS;obtain⟨y0,y1⟩:=fy y IS;rw[nv,nv]at e
   have hxy:x=y:=by
    have h1:(x+b*nv b xs)%b=x:=by rw[Ls,LN x0 x1]
    have h2:(y+b*nv b ys)%b=y:=by rw[Ls,LN y0 y1]
    rw[<- h1,<- h2,e]
   subst hxy;have e2:nv b xs=nv b ys:=Int.eq_of_mul_eq_mul_left (show b≠0 by omega) (by omega);rw[uS hb xs ys (fun z m=>fx z (IM _ m)) (fun z m=>fy z (IM _ m)) (by simpa using h) e2]
theorem oK(hb:2<=b){xs:List Int}(fx:Ix b xs)(fy:Ix b ys)(h:xs.length=ys.length)(e:tv b xs=tv b ys):xs=ys:=by
 have:=uS hb xs.reverse ys.reverse (fun d m=>fx d (List.mem_reverse.mp m)) (fun d m=>fy d (List.mem_reverse.mp m)) (by simpa using h) (by rw[<- jh,<- jh,Na,Na,e]);exact List.reverse_inj.mp this
theorem qQ(xs:List IJ)(l u:Option Int):(cutD xs l u).length<=xs.length:=by
 unfold cutD;rw[JF,Kn];omega
end L2.VL
namespace L2
theorem nM{prog:Ju}{R:Pv->IW->Prop}{kx vx target:Expr}{it:IR}{D:Addr}{env:Env}(I:Nat->IW->Prop)
 (turn:∀n s,I n s->Jn (Jv prog w) A (Ni it) (fun r s₁=>(r=none/\R (.ok .next) s₁)\/∃v,r=some v /\
  Jn (Jv prog w) A (K7 target it v) (fun _ s₂=>Jn (Jv prog w) A (LH target env v) (fun _ s₃=>Jn (Jv prog w) A (dR ifs env) (fun ok s₄ =>
   if ok=true then Jn (Jv prog w) A (eval kx env) (fun x s₅=>Jn (Jv prog w) A (eval vx env) (fun y s₆=>Jn (Jv prog w) A (dictSet D x y) (fun _ s₇=>∃m,m<n/\I m s₇) (fun _ _=>False) s₆) (fun _ _=>False) s₅) (fun _ _=>False) s₄
   else ∃m,m<n/\I m s₄) (fun _ _=>False) s₃) (fun _ _=>False) s₂) (fun _ _=>False) s₁) (fun _ _=>False) s)
 (n:Nat)(h:I n s):Lo (Jv prog w) A (.compLoop (.DictComp kx vx [⟨target,iter,ifs,0⟩] scope pos) 0 it (.ref D) env) R s:=by
 refine On rfl I (fun n s hI=>?_) n h;show Jn _ A ((O5 (.DictComp kx vx [⟨target,iter,ifs,0⟩] scope pos) 0 it (.ref D) env).onRaise (fun x=>do O6 x env;Nn x)) _ _ s;refine OS ?_;rw[compTurn_dict];refine IK (KN (IK (JJ (turn n s hI) (fun r s₁ h₁=>?_) fun _ _ h'=>h'.elim)));rcases h₁ with⟨rfl,h₁⟩|⟨v,rfl,h₁⟩
 · exact IU h₁
 · refine IK (JJ h₁ (fun _ s₂ h₂=>IK (JJ h₂ (fun _ s₃ h₃=>IK (JJ h₃ (fun ok s₄ h₄=>?_) fun _ _ z=>z.elim)) fun _ _ z=>z.elim)) fun _ _ z=>z.elim)
   cases ok with
   | false=>exact IU ⟨rfl,h₄⟩
   | true=>exact IK (IK (JJ h₄ (fun x s₅ h₅=>IK (Lv (JJ h₅ (fun y s₆ h₆=>IK (KN (Lv (JJ h₆ (fun _ s₇ h₇=>IU ⟨rfl,h₇⟩) fun _ _ z=>z.elim)))) fun _ _ z=>z.elim))) fun _ _ z=>z.elim))
def oY(wi:TI)(fr:List (Option Nat))(g:CompA->TG)(tt:CompA->TT)(tk te:CompA->TE):TE:=fun σ H Q=>wi σ H fun J H1=>∀D,H1 D=none->∃Wv:Nat->Nat->List (Ie×V)->St->Hp->Prop,(∃m,Wv 0 m [] (nW fr σ) (upd H1 D (.dK []))) /\
 ∀ (z:CompA) i m acc σc H,Wv i m acc σc H->(J.stop i H/\Q (.ref D) H)\/(J.go i H/\∀x H',J.yld i H x H'->g z x σc H' fun σ2 H2=>tt z σ2 H2 fun b H3 =>
   if b=true then tk z σ2 H3 fun ky H4=>te z σ2 H4 fun y H5=>∃k:Ie,ky=kV k/\H5 D=some (.dK acc)/\acc.length<sizeLine/\∃m',m'<m/\Wv (i+1) m' (dN acc k y) σ2 (upd H5 D (.dK (dN acc k y)))else ∃m',m'<m/\Wv (i+1) m' acc σ2 H3)
theorem gK{kx vx:Expr}{g:TG}{tt:TT}{tk te:TE}{H3:Hp}{s3:IW}{D:Addr}{J:It}{Q:VK}
 {cl:List (Str×Addr)}(N':List Str)(fr:List (Option Nat))(hc:X.calm=true)(hkind:scope.kind = .function)(hcell:∀y∈scope.names,y.2 = .cell->scope.names.lookup y.1=some .cell)
 (hfree:∀y∈scope.names,y.2 = .free->X.env.kindOf y.1=some .cell\/X.env.kindOf y.1=some .free)(frl:fr.length=N'.length)
 (frg:∀(i j:Nat),fr[i]?=some (some j)->∃x,N'[i]?=some x/\X.N[j]?=some x/\scope.names.lookup x=some .free/\(X.env.scope.names.lookup x=some .cell\/X.env.scope.names.lookup x=some .free))
 (cl1:∀x c,cl.lookup x=some c->X.env.cells.lookup x=some c)(cl2:∀x,(x,Kb)∈scope.names->(cl.lookup x).isSome=true)
 (I3:Inv X pins σ H3 s3)(T:Turn X.prog X.w X.K tg J fp it tn)(tn3:tn 0 s3.heap)(fpD:∀b∈fp,H3 b=none)(fp3:∀b∈fp,b<s3.heap.objs.size)
 (fpk:∀b∈fp,b≠X.env.locals/\b∉X.fs/\(b∈X.ex\/X.s₀.heap.objs.size<=b)/\(∀x c,X.env.cells.lookup x=some c->c≠b)/\∀p∈X.pn++pins,p.1≠b)
 (hg:PG (bg X N' scope cl fp (X.pn++pins) s3 H3) tg g)(ht:HQ (bg X N' scope cl fp (X.pn++pins) s3 H3) ifs tt)(hk:PE (bg X N' scope cl fp (X.pn++pins) s3 H3) kx tk)(he:PE (bg X N' scope cl fp (X.pn++pins) s3 H3) vx te)
 {Wv:Nat->Nat->List (Ie×V)->St->Hp->Prop}{m0:Nat}(w0:Wv 0 m0 [] (nW fr σ) H3)
 (turn:∀i m acc σc H,Wv i m acc σc H->(J.stop i H/\Q (.ref D) H)\/(J.go i H/\∀x H',J.yld i H x H'->g x σc H' fun σ2 H2=>tt σ2 H2 fun b H3 =>
  if b=true then tk σ2 H3 fun ky H4=>te σ2 H4 fun y H5=>∃k:Ie,ky=kV k/\H5 D=some (.dK acc)/\acc.length<sizeLine/\∃m',m'<m/\Wv (i+1) m' (dN acc k y) σ2 (upd H5 D (.dK (dN acc k y)))else ∃m',m'<m/\Wv (i+1) m' acc σ2 H3))
 (fin:∀s5 H4 m,s5.heap.Ns s3.heap.objs.size m->(∀h',Lg s3.heap.objs.size s5.heap h'->Inv X pins σ H4 {s5 with heap:=h' })->j_ X pins H4 s3.heap.objs.size->Q (.ref D) H4->Rp s3.heap.objs.size (.ok .next) s5) :
 Jn (Jv X.prog X.w) X.A (MV scope X.env.globals cl [] X.env.qual none .none (some X.env)) (fun cenv s₄ =>
  Lo (Jv X.prog X.w) X.A (.compStart (.DictComp kx vx [⟨tg,iter,ifs,0⟩] scope pos) 0 (.ref it) (.ref D) {cenv with scope:=PU scope X.env})
   (Rp cenv.locals) s₄) X.xe s3:=by
 refine dY N' fr hc hkind hcell hfree frl frg cl1 cl2 I3 T tn3 fpD fp3 fpk (fun s' IY tY stat=>?_) fin
 have loop:Lo (Jv X.prog X.w) X.A (.compLoop (.DictComp kx vx [⟨tg,iter,ifs,0⟩] scope pos) 0 (.ref it) (.ref D) (bg X N' scope cl fp (X.pn++pins) s3 H3).env)
  (fun r s5=>r = .ok .next/\∃σ5 H4,Inv (bg X N' scope cl fp (X.pn++pins) s3 H3) [] σ5 H4 s5/\Q (.ref D) H4) s':=by
  refine nM (fun n s'=>∃i acc σ' H',Inv (bg X N' scope cl fp (X.pn++pins) s3 H3) [] σ' H' s'/\tn i s'.heap/\(∀b∈fp,H' b=none)/\Wv i n acc σ' H') ?_ m0
   ⟨0,[],_,_,IY,tY,fpD,w0⟩
  rintro n s4 ⟨i,acc,σ4,H4,I4,st4,fr4,w4⟩;rcases turn i n acc σ4 H4 w4 with⟨stop,qn⟩|⟨go,step⟩
  · exact FX (T.done (bg X N' scope cl fp (X.pn++pins) s3 H3) rfl rfl rfl hc i [] s4 σ4 H4 (fun _ _=>False) I4 (stat fr4) st4 stop) fun r s5 ⟨hr,I5⟩=>.inl ⟨hr,rfl,σ4,H4,I5,qn⟩
  · refine FX (T.item (bg X N' scope cl fp (X.pn++pins) s3 H3) rfl rfl rfl hc i [] s4 σ4 H4 (fun _ _=>False) I4 (stat fr4) st4 go) fun r s5 ⟨u,hr,h5⟩=>.inr ⟨u,hr,?_⟩;refine FX h5 fun _ s6 ⟨x,H6,I6,r6,y6,st6,fr6⟩=>?_;have I6':=I6.pinned (stat fr6) (T.obj _ _ st6)
    have again:∀{σ7:St}{H7:Hp}{s7:IW},Inv (bg X N' scope cl fp (X.pn++pins) s3 H3) ([]++fB fp s6.heap) σ7 H7 s7->∀{acc':List (Ie×V)}{m':Nat},m'<n->Wv (i+1) m' acc' σ7 H7 ->
     ∃m,m<n/\∃i acc σ' H',Inv (bg X N' scope cl fp (X.pn++pins) s3 H3) [] σ' H' s7/\tn i s7.heap/\(∀b∈fp,H' b=none)/\Wv i m acc σ' H':=fun{σ7 H7 s7} I7 {acc' m'} hm w7=>by
     refine⟨m',hm,i+1,acc',σ7,H7,I7.unpinned,T.keep _ _ _ st6 fun b hb o e=>(I7.pin (b,o) (Jm _ (Jm _ (bD hb e)))).1,fun b hb=>?_,w7⟩;obtain⟨o,e,d⟩:=T.obj _ _ st6 b hb;exact(I7.pin (b,o) (Jm _ (Jm _ (bD hb e)))).2.1
    refine FX (hg _ s6 σ4 H6 x u _ I6' r6 (step x H6 y6)) fun _ s7 ⟨σ7,H7,I7,q7⟩=>?_;refine FX (ht _ s7 σ7 H7 _ I7 q7) fun ok s8 ⟨H8,I8,q8⟩=>?_
    cases ok with
    | false =>
      rw[if_neg JB]at q8 ⊢;obtain⟨m',hm,w8⟩:=q8
      exact again I8 hm w8
    | true =>
      rw[if_pos rfl]at q8 ⊢;refine FX (hk _ s8 σ7 H8 _ I8 q8) fun ku s9 ⟨ky,H9,I9,rk,q9⟩=>?_;refine FX (he _ s9 σ7 H9 _ I9 q9) fun y s10 ⟨yv,H10,I10,r10,k,ek,eD,hl,m',hm,w10⟩=>?_;subst ek;obtain⟨z,hd,vs,rel,dd⟩:=xG I10.hok eD;have hz:vs.length<=sizeLine:=by rw[<- rel.length];exact z
      have hl2:(dN acc k yv).length<=sizeLine:=by have:=dk acc k yv;omega
      refine wpAny_dictSet_pairs (hsz:=hz) (nF rk) dd fun h' dd' hs=>?_;have hex:∃q,h'.get? D=some q:=let ⟨q,_,_,hq,_⟩:=dd';⟨q,hq⟩
      exact again (gG I10 (by rw[eD];exact Nd) hs hex (dk_new hl2 hd (rel.put k r10) dd')) hm w10
 exact codeAny_compStart_dict loop (T.self X.A 0 _ _ _ tY loop)
section
variable{X:Cx}{kx vx tg iter:Expr}{ifs:List Expr}{scope:Scope}{pos:Pos}{wi:TI}{g:CompA->TG}{tt:CompA->TT}{tk te:CompA->TE}
theorem sS(N':List Str)(fr:List (Option Nat))(hc:X.calm=true)(hi:PI X tg iter wi)(hfr:nI fr N' X.N scope X.env.scope=true)(hsc:nT scope X.env.scope=true)
 (hg:∀y,PG (Hm X N' scope y) tg (g y))(ht:∀y,HQ (Hm X N' scope y) ifs (tt y))(hk:∀y,PE (Hm X N' scope y) kx (tk y))(he:∀y,PE (Hm X N' scope y) vx (te y))
 (hs:∀x,JE iter X.env x=pure x:=by intro _;rfl):PE X (.DictComp kx vx [⟨tg,iter,ifs,0⟩] scope pos) (oY wi fr g tt tk te):=by
 intro pins s σ H Q I h;obtain⟨sk,sn⟩:=Ja.mp hsc;have hkind:scope.kind = .function:=of_decide_eq_true sk;have hall:=Lb.mp sn
 have hcell:∀y∈scope.names,y.2 = .cell->scope.names.lookup y.1=some .cell:=fun y hy hl=>by
  rcases Jr.mp (Ja.mp (Ja.mp (hall y hy)).1).1 with z|z
  · exact absurd hl (of_decide_eq_true z)
  · exact of_decide_eq_true z
 have hnames:∀y∈scope.names,y.2 = .local->scope.names.lookup y.1=some .local:=fun y hy hl=>by
  rcases Jr.mp (Ja.mp (Ja.mp (hall y hy)).1).2 with z|z
  · exact absurd hl (of_decide_eq_true z)
  · exact of_decide_eq_true z
 have hfree:∀y∈scope.names,y.2 = .free->X.env.kindOf y.1=some .cell\/X.env.kindOf y.1=some .free:=fun y hy hl=>by
  rcases Jr.mp (Ja.mp (hall y hy)).2 with z|z
  · exact absurd hl (of_decide_eq_true z)
  · exact(Jr.mp z).imp of_decide_eq_true of_decide_eq_true
 obtain⟨frl,frg⟩:=nI.get hfr;obtain⟨cl,hclos,cl1,cl2⟩:=cJ (env:=X.env) (scope:=scope) fun y hy hl=>I.ok.has y.1 (hfree y hy hl);rw[arm_eval_DictComp];refine K9 (use:=none) rfl hs hclos hkind hnames (FX (hi pins s σ H _ I h) fun v s1 h1=>FX h1 fun itv s2 h2=>?_);obtain⟨it,fp,tn,J,H2,e,I2,T,st2,f2,q2⟩:=h2;subst e;refine JC ?_;have hD:H2 s2.heap.objs.size=none:=I2.hok.fresh (I_ _)
 have I3:Inv X pins σ (upd H2 s2.heap.objs.size (.dK [])) {s2 with heap:=s2.heap.push {cls:=.type "dict", data:=.dict #[]}} :=
  I2.laid (t':=s2.toks) (fun b u e=>IQ _ e) (I_ _) (fM s2.heap I2.big)
 obtain⟨Wv,⟨m0,w0⟩,turn⟩:=q2 _ hD;have tn3:tn 0 (s2.heap.push {cls:=.type "dict", data:=.dict #[]}):=T.keep _ _ _ st2 fun b _ o e=>IQ _ e
 have fpD:∀b∈fp,(upd H2 s2.heap.objs.size (.dK [])) b=none:=fun b hb=>by
  obtain⟨o,e,_⟩:=T.obj _ _ st2 b hb;rw[ar (JP (Jd e))];exact(f2 b hb).1
 have fp3:∀b∈fp,b<(s2.heap.push {cls:=.type "dict", data:=.dict #[]}).objs.size:=fun b hb=>by
  obtain⟨o,e,_⟩:=T.obj _ _ tn3 b hb;exact Jd e
 exact gK N' fr hc hkind hcell hfree frl frg cl1 cl2 I3 T tn3 fpD fp3 (fun b hb=>(f2 b hb).2) (hg ⟨cl,fp,X.pn++pins,_,_⟩) (ht ⟨cl,fp,X.pn++pins,_,_⟩) (hk ⟨cl,fp,X.pn++pins,_,_⟩) (he ⟨cl,fp,X.pn++pins,_,_⟩) w0 (turn ⟨cl,fp,X.pn++pins,_,_⟩)
  (Rp:=Pr (Jv X.prog X.w) X.A X.xe none (EP X pins σ Q) (.ref s2.heap.objs.size)) fun s5 H4 m hn k _ qn=>⟨m,hn,fun h' hs'=>⟨.ref _,H4,k h' hs',rfl,qn⟩⟩
theorem kM{b:Bool}{x:Str}{spos:Pos}{ix:Nat}(N':List Str)(fr:List (Option Nat))(hc:X.calm=true)(hi:PI X tg iter wi)(hfr:nI fr N' X.N scope X.env.scope=true)(hsc:nT scope X.env.scope=true)
 (hg:∀y,PG (Hm X N' scope y) tg (g y))(ht:∀y,HQ (Hm X N' scope y) ifs (tt y))(hk:∀y,PE (Hm X N' scope y) kx (tk y))(he:∀y,PE (Hm X N' scope y) vx (te y))(hN:X.N.Nodup)(hix:X.N[ix]?=some x)(hx:Loc X.env.scope x)
 (hf:X.fn x=true\/X.env.scope.names.lookup x=some .local)(hsw:K0 (.DictComp kx vx [⟨tg,iter,ifs,0⟩] scope pos) (some (.Name x px)) spos.line X.env=pure b)
 (hs:∀x,JE iter X.env x=pure x):PS X (.Assign [.Name x px] (.DictComp kx vx [⟨tg,iter,ifs,0⟩] scope pos) spos) (A2 (oY wi fr g tt tk te) (jI ix)):=by
 cases b with
 | false=>exact ib hN hix hx (sS N' fr hc hi hfr hsc hg ht hk he hs) hsw hf
 | true =>
 intro pins s σ H DD I h;obtain⟨sk,sn⟩:=Ja.mp hsc;have hkind:scope.kind = .function:=of_decide_eq_true sk;have hall:=Lb.mp sn
 have hcell:∀y∈scope.names,y.2 = .cell->scope.names.lookup y.1=some .cell:=fun y hy hl=>by
  rcases Jr.mp (Ja.mp (Ja.mp (hall y hy)).1).1 with z|z
  · exact absurd hl (of_decide_eq_true z)
  · exact of_decide_eq_true z
 have hnames:∀y∈scope.names,y.2 = .local->scope.names.lookup y.1=some .local:=fun y hy hl=>by
  rcases Jr.mp (Ja.mp (Ja.mp (hall y hy)).1).2 with z|z
  · exact absurd hl (of_decide_eq_true z)
  · exact of_decide_eq_true z
 have hfree:∀y∈scope.names,y.2 = .free->X.env.kindOf y.1=some .cell\/X.env.kindOf y.1=some .free:=fun y hy hl=>by
  rcases Jr.mp (Ja.mp (hall y hy)).2 with z|z
  · exact absurd hl (of_decide_eq_true z)
  · exact(Jr.mp z).imp of_decide_eq_true of_decide_eq_true
 obtain⟨frl,frg⟩:=nI.get hfr;obtain⟨cl,hclos,cl1,cl2⟩:=cJ (env:=X.env) (scope:=scope) fun y hy hl=>I.ok.has y.1 (hfree y hy hl);rw[Oo _ _ _ _ hsw];refine IK (KN (IK ?_));show Jn _ X.A (do let _ <- comprehension (.DictComp kx vx [⟨tg,iter,ifs,0⟩] scope pos) scope X.env _ newDict false (eval iter X.env) (some (LH (.Name x px) X.env))) _ _ s
 refine IK (JJ (K9 (use:=some (LH (.Name x px) X.env)) (Q:=fun _ s'=>SP X pins DD .next s') rfl hs hclos hkind hnames
  (FX (hi pins s σ H _ I h) fun v s1 h1=>FX h1 fun itv s2 h2=>?_)) (fun _ s' hq=>IU (IU hq)) fun _ _ e=>e)
 obtain⟨it,fp,tn,J,H2,e,I2,T,st2,f2,q2⟩:=h2;subst e;refine JC ?_;have hD:H2 s2.heap.objs.size=none:=I2.hok.fresh (I_ _)
 have I3:Inv X pins σ (upd H2 s2.heap.objs.size (.dK [])) {s2 with heap:=s2.heap.push {cls:=.type "dict", data:=.dict #[]}} :=
  I2.laid (t':=s2.toks) (fun b u e=>IQ _ e) (I_ _) (fM s2.heap I2.big)
 obtain⟨Wv,⟨m0,w0⟩,turn⟩:=q2 _ hD;have tn3:tn 0 (s2.heap.push {cls:=.type "dict", data:=.dict #[]}):=T.keep _ _ _ st2 fun b _ o e=>IQ _ e
 have fpD:∀b∈fp,(upd H2 s2.heap.objs.size (.dK [])) b=none:=fun b hb=>by
  obtain⟨o,e,_⟩:=T.obj _ _ st2 b hb;rw[ar (JP (Jd e))];exact(f2 b hb).1
 have fp3:∀b∈fp,b<(s2.heap.push {cls:=.type "dict", data:=.dict #[]}).objs.size:=fun b hb=>by
  obtain⟨o,e,_⟩:=T.obj _ _ tn3 b hb;exact Jd e
 refine gK (Q:=fun v H1=>jI ix v σ H1 DD.nx) N' fr hc hkind hcell hfree frl frg cl1 cl2 I3 T tn3 fpD fp3 (fun b hb=>(f2 b hb).2) (hg ⟨cl,fp,X.pn++pins,_,_⟩) (ht ⟨cl,fp,X.pn++pins,_,_⟩) (hk ⟨cl,fp,X.pn++pins,_,_⟩) (he ⟨cl,fp,X.pn++pins,_,_⟩) w0 (turn ⟨cl,fp,X.pn++pins,_,_⟩)
  (Rp:=Pr (Jv X.prog X.w) X.A X.xe (some (LH (.Name x px) X.env)) (fun _ s'=>SP X pins DD .next s') (.ref s2.heap.objs.size)) fun s5 H4 m hn k fpo qn=>?_
 show Jn _ X.A (LH (.Name x px) X.env (.ref s2.heap.objs.size)) _ _ s5;have I5:Inv X pins σ H4 s5:=k s5.heap (NW _ _);obtain⟨f0,f1,f2',f3,f4,f5⟩:=fpo;refine NQ (fU I5 hN hix hx (v:=.ref s2.heap.objs.size) rfl (fun s6 I6 sb=>?_) hf);obtain⟨a,sb,ha⟩:=sb
 have hne:(s2.heap.push {cls:=.type "dict", data:=.dict #[]}).objs.size≠a:=by
  rcases ha with rfl|ha
  · exact f1
  · exact fun z=>f4 x a ha z.symm
 refine⟨m,hn.at' fun o e=>sb.extBut _ o hne e,fun h' hs'=>?_⟩;exact⟨_,H4,I6.turned (t':=s6.toks) (fun b o hb e=>hs'.extBut b o hb e) f0 f1 f3 f4 f5,qn⟩
end
section
variable{prog:Ju}{w:J_}{A:Kh}{E:IR->IW->Prop}
end
section
variable{X:Cx}
end
end L2
theorem L2.Room.un1{k:Nat}{A:PySem.Around}(r:L2.Room k A):A.units+1<PySem.cLine:=by have:=r.un;omega
namespace L2.VL
noncomputable def nS(kvs:List (Ie×IJ))(k:Ie):Option IJ:=(kvs.find? fun kv=>decide (kv.1=k)).map (·.2)
noncomputable def putF(kvs:List (Ie×IJ))(k:Ie)(x:IJ):List (Ie×IJ) :=
 if(kvs.any fun kv=>decide (kv.1=k))=true then kvs.map (fun kv=>if kv.1=k then(kv.1,x)else kv)else kvs++[(k,x)]
section
variable{K:W.Frag}{F:Hp}{us:List (Ie×V)}{kvs:List (Ie×IJ)}
theorem Ih.val(r:Ih K F us kvs)(k:Ie):(fF us k=none/\nS kvs k=none)\/∃v d,fF us k=some v/\nS kvs k=some d/\Rep K F v d:=by
 induction r with
 | nil=>exact .inl ⟨rfl,rfl⟩
 | @cons p q ps qs h t ih =>
   unfold fF nS at *;rw[Ka,Ka,h.1];by_cases e:q.1=k
   · simp only[e,decide_true];exact .inr ⟨p.2,q.2,rfl,rfl,h.2⟩
   · simp only[e,decide_false];exact ih
theorem Ih.any(r:Ih K F us kvs)(k:Ie):(us.any fun kv=>decide (kv.1=k))=kvs.any fun kv=>decide (kv.1=k):=by
 induction r with
 | nil=>rfl
 | cons h t ih=>rw[Nc,Nc,ih,h.1]
theorem Ih.keys(r:Ih K F us kvs):us.map (·.1)=kvs.map (·.1):=by
 induction r with
 | nil=>rfl
 | cons h t ih=>rw[Jg,Jg,ih,h.1]
theorem Ih.repl(r:Ih K F us kvs)(k:Ie)(rv:Rep K F v d):Ih K F (us.map fun kv=>if kv.1=k then(kv.1,v)else kv) (kvs.map fun kv=>if kv.1=k then(kv.1,d)else kv):=by
 induction r with
 | nil=>exact .nil
 | @cons p q ps qs h t ih =>
   refine .cons ?_ ih;show(if p.1=k then(p.1,v)else p).1=(if q.1=k then(q.1,d)else q).1/\Rep K F (if p.1=k then(p.1,v)else p).2 (if q.1=k then(q.1,d)else q).2;by_cases e:q.1=k
   · have e':p.1=k:=h.1.trans e;rw[if_pos e,if_pos e'];exact⟨h.1,rv⟩
   · have e':¬p.1=k:=fun z=>e (h.1.symm.trans z);rw[if_neg e,if_neg e'];exact h
theorem Ih.snoc(r:Ih K F us kvs)(k:Ie)(rv:Rep K F v d):Ih K F (us++[(k,v)]) (kvs++[(k,d)]):=by
 induction r with
 | nil=>exact .cons ⟨rfl,rv⟩ .nil
 | cons h t ih=>exact .cons h ih
theorem Ih.put(r:Ih K F us kvs)(k:Ie)(rv:Rep K F v d):Ih K F (dN us k v) (putF kvs k d):=by
 unfold dN putF;rw[r.any k];split
 · exact r.repl k rv
 · exact r.snoc k rv
theorem Ih.mono{F':Hp}(s:bE F F')(r:Ih K F us kvs):Ih K F' us kvs:=Kx.mapP r fun _ _ z=>⟨z.1,z.2.mono s⟩
end
noncomputable def j9:W->Option Ie
 | .d (.int i)=>some (.inl i)
 | .d (.str x)=>some (.inr x)
 | _=>none
theorem keyW_i(i:Int):j9 (.d (.int i))=some (.inl i):=rfl
theorem keyW_s(x:Str):j9 (.d (.str x))=some (.inr x):=rfl
theorem fJ{K:W.Frag}{w:W}{k:Ie}(e:j9 w=some k)(r:cY K rl F H v w):v=kV k:=by
 unfold j9 at e;split at e
 · cases e;exact aJ r
 · cases e;exact gb r
 · cases e
def uz(ρ0:En)(g:HE)(ft:TB)(fk fe:TV):List IJ->List (Ie×IJ)->(List (Ie×IJ)->Prop)->Prop
 | [],acc,Q=>Q acc
 | x::xs,acc,Q=>g x ρ0 fun ρ2=>Le ρ0 ρ2/\ft ρ2 fun b=>if b=true then fk ρ2 fun wk=>∃k,j9 wk=some k/\fe ρ2 fun w=>∃d,w.fz = .d d/\acc.length<sizeLine/\uz ρ0 g ft fk fe xs (putF acc k d) Q else uz ρ0 g ft fk fe xs acc Q
section
variable{X:Cx}{rl:RlT}{kx vx tg iter:Expr}{ifs:List Expr}{scope:Scope}{pos:Pos}{fi:En->(List IJ->Prop)->Prop}{g:HE}{ft:TB}{fk fe:TV}
end
def GX(ρ0:En)(g:HE)(ft:TB)(fk fe:TV)(x:IJ):Mo (Option (Ie×IJ)):=Hl (g x ρ0) fun ρ2=>G6 (Le ρ0 ρ2) (Hl (ft ρ2) fun b=>if b=true then Hl (fk ρ2) fun wk=>aQ (j9 wk) fun k=>Hl (fe ρ2) fun w=>aQ (asD w.fz) fun d=>ret (some (k,d))else ret none)
noncomputable def eV(b:IJ->Mo (Option (Ie×IJ))):List IJ->List (Ie×IJ)->Mo (List (Ie×IJ))
 | [],acc=>ret acc
 | x::xs,acc=>Hl (b x) fun o=>match o with
   | some d=>G6 (acc.length<sizeLine) (eV b xs (putF acc d.1 d.2))
   | none=>eV b xs acc
theorem mE(ρ0:En)(g:HE)(ft:TB)(fk fe:TV):∀(xs:List IJ)(acc:List (Ie×IJ)),uz ρ0 g ft fk fe xs acc=eV (GX ρ0 g ft fk fe) xs acc
 | [],acc=>rfl
 | x::xs,acc=>by
   refine ag fun Q=>?_;show(g x ρ0 fun ρ2=>Le ρ0 ρ2/\ft ρ2 fun b=>if b=true then fk ρ2 fun wk=>∃k,j9 wk=some k/\fe ρ2 fun w=>∃d,w.fz = .d d/\acc.length<sizeLine/\uz ρ0 g ft fk fe xs (putF acc k d) Q else uz ρ0 g ft fk fe xs acc Q)↔(Hl (GX ρ0 g ft fk fe x) _) Q;simp only[mE ρ0 g ft fk fe xs]
   have:∀(ρ2:En)(b:Bool),(if b=true then fk ρ2 fun wk=>∃k,j9 wk=some k/\fe ρ2 fun w=>∃d,w.fz = .d d/\acc.length<sizeLine/\eV (GX ρ0 g ft fk fe) xs (putF acc k d) Q else eV (GX ρ0 g ft fk fe) xs acc Q)=(Hl (if b=true then Hl (fk ρ2) fun wk=>aQ (j9 wk) fun k=>Hl (fe ρ2) fun w=>aQ (asD w.fz) fun d=>ret (some (k,d))else ret none) fun o=>match o with
   | some d=>G6 (acc.length<sizeLine) (eV (GX ρ0 g ft fk fe) xs (putF acc d.1 d.2))
   | none=>eV (GX ρ0 g ft fk fe) xs acc) Q:=by
     intro ρ2 b
     cases b with
     | false=>rfl
     | true =>
       rw[if_pos rfl,if_pos rfl];show _=fk ρ2 fun wk=>_;congr 1;funext wk;refine propext ?_;show _↔(Hl (aQ (j9 wk) fun k=>Hl (fe ρ2) fun w=>aQ (asD w.fz) fun d=>ret (some (k,d))) _) Q;rw[bnd_opt,aq]
       have e2:∀(k:Ie),(fe ρ2 fun w=>∃d,w.fz = .d d/\acc.length<sizeLine/\eV (GX ρ0 g ft fk fe) xs (putF acc k d) Q)=(Hl (Hl (fe ρ2) fun w=>aQ (asD w.fz) fun d=>ret (some (k,d))) fun o=>match o with
        | some d=>G6 (acc.length<sizeLine) (eV (GX ρ0 g ft fk fe) xs (putF acc d.1 d.2))
        | none=>eV (GX ρ0 g ft fk fe) xs acc) Q:=fun k=>by
        show _=fe ρ2 fun w=>_;congr 1;funext w;refine propext ?_;show _↔(Hl (aQ (asD w.fz) fun d=>ret (some (k,d))) _) Q;rw[bnd_opt,aq];simp only[gL];exact MS
       simp only[e2]
   simp only[this];exact MS
theorem sG(kvs:List (Ie×IJ))(k:Ie)(x:IJ):(putF kvs k x).length<=kvs.length+1:=by
 unfold putF;split<;>simp
section
variable{α:Type}{b:IJ->Mo (Option (Ie×IJ))}
theorem jR{enc:α->IJ}(f:α->Ie×IJ):∀(xs:List α)(acc:List (Ie×IJ)),(∀x∈xs,b (enc x)=ret (some (f x)))->acc.length+xs.length<=sizeLine->eV b (xs.map enc) acc=ret ((xs.map f).foldl (fun a p=>putF a p.1 p.2) acc)
 | [],acc,_,_=>rfl
 | x::xs,acc,h,hl=>by
   show Hl (b (enc x)) _=_;rw[h x IS,bnd_ret];show G6 (acc.length<sizeLine) (eV b (xs.map enc) (putF acc (f x).1 (f x).2))=_;simp only[JL]at hl;have:=sG acc (f x).1 (f x).2;rw[ai (by omega),jR f xs _ (fun y hy=>h y (IM _ hy)) (by omega)];rfl
theorem xF{Q:β->Prop}{k:List (Ie×IJ)->Mo β}{xs:List α}{enc:α->IJ}(f:α->Ie×IJ)(hx:xs'=xs.map enc)(h:∀x∈xs,b (enc x)=ret (some (f x)))(hl:xs.length<=sizeLine)
 (fin:k ((xs.map f).foldl (fun a p=>putF a p.1 p.2) []) Q):Hl (eV b xs' []) k Q:=by
 subst hx;rw[jR f xs [] h (by simpa using hl)];exact fin
end
section
variable{X:Cx}{rl:RlT}{a c e o i:Expr}{es:List Expr}{fa fb:TV}{fs:HA}{pos p kpos:Pos}{ρ:En}
end
end L2.VL
namespace L2
end L2
namespace L2.VL
section
variable{X:Cx}{rl:RlT}{tg:Expr}{fa:TV}{ρ:En}
end
end L2.VL
namespace L2
variable{X:Cx}
end L2
namespace L2.VL
section
variable{X:Cx}{rl:RlT}{a e:Expr}{es:List Expr}{fs:HA}{pos:Pos}
end
theorem Dfn.never{K:W.Frag}{mg:Str->Option IR}{base:Heap}{x:Str}{st:Stmt}{ps:List Str}{k:Nat}{Pd:List W->(IJ->Prop)->Prop}(Fn:FnIn K mg x st ps)(no:∀ws Q,Pd ws Q->False:=by exact fun _ _ z=>z):Dfn P w K mg base rl x ps k Pd:=by
 obtain⟨f,fd,hm,F,hb⟩:=Fn.ex;exact⟨fun ws Q Q' _ z=>(no ws Q z).elim,f,fd,hm,F.kp,hb,⟨fun vs H Q E ⟨_,ws,_,_,_,_,z⟩=>(no ws _ z).elim,fun A outer s H args us vs Q E _ _ _ _ ⟨_,ws,_,_,_,_,z⟩=>(no ws _ z).elim⟩⟩
end L2.VL
namespace L2
section
variable{X:Cx}
theorem iX{ns:List Int}(r:cn (ns.map V.int) its){v:IR}(e:its[i]?=some v):∃t,v = .int (ns.getD i 0) t:=by
 have hl:=r.length;rw[IP]at hl;have hi:i<ns.length:=by have:=(Jj.mp e).1;omega
 have hb:(ns.map V.int)[i]?=some (.int ns[i]):=by simp[hi]
 obtain⟨u,hu,ru⟩:=r.get hb;rw[e]at hu;cases hu;have:ns.getD i 0=ns[i]:=by simp[Pz,hi]
 rw[this];exact ru
theorem preSum_eq(ns:List Int):preSum (fun i=>ns.getD i 0) ns.length=ns.sum:=by
 have key:∀k,k<=ns.length->preSum (fun i=>ns.getD i 0) k=(ns.take k).sum:=by
  intro k
  induction k with
  | zero=>intro _;rfl
  | succ k ih =>
    intro hk;have hk':k<ns.length:=by omega
    show preSum _ k+ns.getD k 0=_;rw[ih (by omega),KZ hk',Np];simp[Pz,hk']
 rw[key _ (I_ _),JO (I_ _)]
theorem qZ(hc:X.calm=true):d9 X (.builtin "sum") (fun xs H Q=>∃(p:Addr)(ns:List Int),xs=[.ref p]/\HH X.K H p (ns.map V.int)/\Q (.int ns.sum) H):=by
 intro pins s σ H xs us Q I r ⟨p,ns,ex,hq,q⟩;subst ex;obtain⟨u,rfl,ru⟩:=vals1 r;cases ru;obtain⟨its,rv,pl,hz⟩:=I.list hq;have hl:=rv.length;rw[IP]at hl;refine call_sum_walkG (MP pl.isList ?_);have ne:p≠s.heap.objs.size:=by obtain⟨o,ho,_⟩:=pl.isList;exact JP (Jd ho)
 refine⟨s.heap.objs.size,_,_,_,_,_,fun i=>ns.getD i 0,rfl,Walks.list (A:=X.A.in1) (I.ok.hd hc) s.heap.objs.size p ne its.toArray,⟨⟨_,Jf _ rfl,rfl,rfl⟩,pl.isList.push _⟩,?_,?_,?_⟩
 · intro b hb;have hb:b=s.heap.objs.size\/b=p:=by simpa using hb
   show b<(Heap.push _ _).objs.size;rw[KB];rcases hb with rfl|rfl
   · exact Nat.lt_succ_self _
   · obtain⟨o,ho,_⟩:=pl.isList;exact Nat.lt_succ_of_lt (Jd ho)
 · intro i v hP;exact iX rv (by simpa using hP)
 · intro h' tk t' k;have e:preSum (fun i=>ns.getD i 0) its.toArray.size=ns.sum:=by rw[Je,<- hl];exact preSum_eq ns
   rw[e];exact⟨.int _,H,I.kept (t':=tk) fun b o eb=>k b o (by simp;exact JP (Jd eb)) (IQ _ eb),⟨t',rfl⟩,q⟩
end
end L2
namespace L2.VL
section
variable{X:Cx}{rl:RlT}{a:Expr}{fs:HA}{pos p:Pos}
def Ck:List W->(W->Prop)->Prop:=fun ws Q=>∃(w:W)(ns:List Int),ws=[w]/\w.dat=some (.list (ns.map .int))/\Q (.d (.int ns.sum))
theorem yp:d8 X rl (fun xs H Q=>∃(p:Addr)(ns:List Int),xs=[.ref p]/\HH X.K H p (ns.map V.int)/\Q (.int ns.sum) H) Ck:=fun{F H vs ws} Qd Q s ra r ⟨w,ns,ew,ed,q⟩ k=>by
 subst ew;obtain⟨v,rfl,r1⟩:=nU r;obtain⟨a,us,rfl,sq,rs⟩:=r1.items s ed;have e:=lP rs;subst e;exact⟨a,ns,rfl,sq,k _ (.d _) _ _ (Grow.refl s ra) (.int _) trivial q⟩
theorem v_sum(hm:X.mg "sum" = none)(ha:HN X rl [a] fs)(hc:X.calm=true:=by rfl)(hg:Gl X "sum" := by rfl)(he:IZ [a] X.env=(false,eval a X.env)::IZ [] X.env:=by rfl)(hpl:(KC pos (IZ [] X.env)).any (·.1)=false:=by rfl) :
 PV X rl (.Call (.Name "sum" p) [a] [] pos) (cR Ck fs):=dA (qZ hc) yp hm (by rfl) ha hg (by decide) (by decide) he hpl
def xr:IJ->Option (List Int)
 | .list xs=>jH xs
 | _=>none
theorem A7{ns:List Int}:xr d=some ns↔d = .list (ns.map .int):=by
 constructor
 · intro h
   cases d with
   | list xs=>rw[mw h]
   | _=>cases h
 · rintro rfl;exact cX _
theorem m_gSum(w:W):Ck [w]=aQ (w.dat.bind xr) fun ns=>ret (.d (.int ns.sum)):=by
 refine ag fun Q=>?_;rw[aq];constructor
 · rintro⟨w',ns,e,ed,q⟩;cases e;exact⟨ns,by rw[ed];exact cX ns,q⟩
 · rintro⟨ns,e,q⟩
   cases ed:w.dat with
   | none=>rw[ed]at e;cases e
   | some d =>
     rw[ed]at e;exact⟨w,ns,rfl,by rw[ed,A7.mp e],q⟩
theorem intsO_l(ns:List Int):xr (.list (ns.map .int))=some ns:=cX ns
def IF:=IL @m_gSum (@intsO_l)
end
theorem Reps.put{K:W.Frag}{ds:List IJ}(k:Nat)(r:Reps K F vs ds)(h:Rep K F v d):Reps K F (vs.set k v) (ds.set k d):=by
 induction vs generalizing ds k with
 | nil=>cases r;exact .nil
 | cons x vs ih =>
   cases r with
   | cons r1 r2 =>
     cases k with
     | zero=>exact .cons h r2
     | succ k=>exact .cons r1 (ih k r2)
def r_(i:Nat)(fx fv:TV):HB:=fun D ρ=>fv ρ fun w=>∃d,w.fz = .d d/\∃xs,ρ[i]?=some (some (.ml xs))/\fx ρ fun wx=>∃k:Int,wx = .d (.int k)/\0<=k/\k<(xs.length:Int)/\D.nx (ρ.set i (some (.ml (xs.set k.toNat d))))
section
variable{X:Cx}{rl:RlT}{ei e:Expr}{fx fv:TV}{pos p1 pos':Pos}{ρ:En}
theorem vA(i:Nat){x:Str}(hx:PV X rl ei fx)(hv:PV X rl e fv)(hN:X.N[i]?=some x:=by rfl)(hvis:Hv X.env.scope x:=by first|exact Kz rfl|exact J0 (Kz rfl)|exact J0 (J0 rfl))
 (hd:(x==("__debug__" : Str))=false:=by decide)(hcd:(x==("__classdict__" : Str))=false:=by decide)
 (ha:∀v,LH (.Subscript (.Name x p1) ei pos') X.env v=(do
  let ov <- Ng [v] (eval (.Name x p1) X.env)
  let iv <- Ng [v,ov] (eval ei X.env)
  N0 pos'
  Ng [v,ov,iv] (PR ov iv v)
  release [v,ov,iv] []):=by intro _;rfl)
 (hs:LS [.Subscript (.Name x p1) ei pos'] e pos.line X.env=pure false:=by rfl)(hw:LU [.Subscript (.Name x p1) ei pos'] e X.env=pure none:=by rfl)
 (h1:(Ky [.Subscript (.Name x p1) ei pos'] X.env).map (·.2)=[LH (.Subscript (.Name x p1) ei pos') X.env]:=by rfl) :
 HS X rl (.Assign [.Subscript (.Name x p1) ei pos'] e pos) (r_ i fx fv):=by
 obtain⟨tv,pv,kv⟩:=hv;obtain⟨tx,px,kx⟩:=hx;refine⟨_,jB pv (uL (cu hN hvis hd hcd) px lM ha) hs hw h1,fun{F₀ H₀ F H σ ρ} R Dv D ok q=>kv R _ _ q fun v w F1 H1 g1 r1 n1 ⟨d,ed,xs,e1,q1⟩=>?_⟩;obtain⟨F2,g2,s2,r2⟩:=cY.fz g1 r1 n1;rw[ed]at r2;have R1:=R.grow g2;obtain⟨u,h1',h2,h3⟩:=R1.sl i _ e1;obtain⟨a,vs,rfl,f,hr,hh,rs⟩:=(show gO X.K rl F2 H1 u xs from h2);refine⟨.ref a,h1',kx R1 _ _ q1 fun y wy F3 H3 g3 r3 n3 ⟨k,ek,k0,k1,q3⟩=>?_⟩;subst ek;have ey:=aJ r3;subst ey;have R3:=R1.grow g3;have vl:vs.length=xs.length:=rs.length;refine⟨a,vs,k,k.toNat,rfl,rfl,g3.same a _ hh hr,?_,ok.nx _ _ _ _ (g2.fs.trans g3.fs) (R3.own e1 h1' (Reps.put k.toNat (rs.mono g3.fs) (Rep.mono g3.fs r2))) q3⟩;obtain⟨n,rfl⟩:=JS k0;unfold ixN;simp;omega
theorem lN(i:Nat):mS (r_ i fx fv) ρ=Hl (fv ρ) fun w=>aQ (asD w.fz) fun d=>aQ (Go ρ i) fun xs=>Hl (fx ρ) fun wx=>aQ (asI wx) fun k=>G6 (0<=k/\k<(xs.length:Int)) (ret (.nx (ρ.set i (some (.ml (xs.set k.toNat d)))))):=by
 refine ag fun Q=>?_;simp only[mS,r_,Hl,aq,o7,gL,cL,G6,ret,and_assoc]
end
section
variable{X:Cx}{al:Option Addr}{c1 c2:Nat}{ei e:Expr}{fx fv:TV}{pos p1 pos':Pos}{ρ:En}
theorem qS(i:Nat){x:Str}(hx:CV X al c2 ei fx)(hv:CV X al c1 e fv)(hN:X.N[i]?=some x:=by rfl)(hvis:Hv X.env.scope x:=by first|exact Kz rfl|exact J0 (Kz rfl)|exact J0 (J0 rfl))
 (hd:(x==("__debug__" : Str))=false:=by decide)(hcd:(x==("__classdict__" : Str))=false:=by decide)
 (ha:∀v,LH (.Subscript (.Name x p1) ei pos') X.env v=(do
  let ov <- Ng [v] (eval (.Name x p1) X.env)
  let iv <- Ng [v,ov] (eval ei X.env)
  N0 pos'
  Ng [v,ov,iv] (PR ov iv v)
  release [v,ov,iv] []):=by intro _;rfl)
 (hs:LS [.Subscript (.Name x p1) ei pos'] e pos.line X.env=pure false:=by rfl)(hw:LU [.Subscript (.Name x p1) ei pos'] e X.env=pure none:=by rfl)
 (h1:(Ky [.Subscript (.Name x p1) ei pos'] X.env).map (·.2)=[LH (.Subscript (.Name x p1) ei pos') X.env]:=by rfl) :
 CS X al (c1+c2) (.Assign [.Subscript (.Name x p1) ei pos'] e pos) (r_ i fx fv):=by
 obtain⟨tv,pv,kv⟩:=hv;obtain⟨tx,px,kx⟩:=hx;refine⟨_,jB pv (uL (cu hN hvis hd hcd) px lM ha) hs hw h1,fun{b F₀ H₀ F H σ ρ} R Dv D ok q=>kv (b:=b+c2) (R.pay (by omega)) _ _ q fun v w F1 H1 g1 r1 n1 ⟨d,ed,xs,e1,q1⟩=>?_⟩;obtain⟨F2,g2,s2,r2⟩:=cY.fz g1 r1 n1;rw[ed]at r2;have R1:=R.gr g2;obtain⟨u,h1',h2,h3⟩:=R1.sl i _ e1;obtain⟨a,vs,rfl,f,hr,hh,rs⟩:=(show gO X.K ⟨al,b+c2⟩ F2 H1 u xs from h2);refine⟨.ref a,h1',kx (b:=b) R1 _ _ q1 fun y wy F3 H3 g3 r3 n3 ⟨k,ek,k0,k1,q3⟩=>?_⟩;subst ek;have ey:=aJ r3;subst ey;have R3:=R1.gr g3;have vl:vs.length=xs.length:=rs.length;refine⟨a,vs,k,k.toNat,rfl,rfl,g3.same a _ hh hr,?_,ok.nx _ _ _ _ (g2.fs.trans g3.fs) (R3.own e1 h1' (Reps.put k.toNat (rs.mono g3.fs) (Rep.mono g3.fs r2))) q3⟩;obtain⟨n,rfl⟩:=JS k0;unfold ixN;simp;omega
end
theorem Grow.other{D:Addr}{o:HO}(g:Grow rl F₀ H₀ F H)(h0:H₀ D=none)(f:F D=none)(hr:rl.a≠some D):Grow rl F₀ H₀ F (upd H D o):=by
 have neF:∀b u,F b=some u->b≠D:=fun b u q z=>by subst z;rw[f]at q;cases q
 refine⟨fun b o q1 n=>by rw[ar (aS q1 h0)];exact g.same b o q1 n,g.fs,fun b o q1=>by rw[ar (neF b o q1)];exact g.sub b o q1,g.old,fun y z=>?_⟩;obtain⟨z1,⟨u,h1,h2⟩⟩:=g.reel y z;exact⟨z1,⟨u,by rw[ar (fun q=>hr (by rw[<- q];exact z))];exact h1,h2⟩⟩
section
variable{X:Cx}{rl:RlT}{iter:Expr}{scope:Scope}{fi:En->(List IJ->Prop)->Prop}{xk xl xh f:Str}{ps:List Str}{k:Nat}{Pd:List W->(IJ->Prop)->Prop}{pk p1 p2 p3 p4 p5 p6 p7 p8 p9 p10 ap pc rp:Pos}
end
def ux(n il ih:Nat)(fi:En->(List IJ->Prop)->Prop):HB:=fun Dv ρ=>fi ρ fun xs=>xs.length<=n/\∃ys:List IJ,ρ[il]?=some (some (.ml ys))/\ρ[ih]?=some (some .reel)/\xs.length<=ys.length/\ys.length<1000 /\
 ∀os:List IJ,os.length=xs.length->(∀o∈os,o∈ys)->Dv.rt (.d (.tuple os))
section
variable{X:Cx}{al:Option Addr}{c1 c2:Nat}{iter:Expr}{scope:Scope}{fi:En->(List IJ->Prop)->Prop}{xk xl xh f:Str}{ps:List Str}{k:Nat}{Pd:List W->(IJ->Prop)->Prop}{pk p1 p2 p3 p4 p5 p6 p7 p8 p9 p10 ap pc rp:Pos}
theorem nL(n il ih:Nat)(hc:X.calm=true)(Dd:DfnC X.prog X.w X.K X.mg X.base al c2 f ps k Pd)(hP:∀(m:Int)(Q:IJ->Prop),0<m->m<2^60->(∀j:Int,0<=j->j<m->Q (.int j))->Pd [.reel,.d (.int m)] Q)
 (hr:Room k X.A)(hml:X.mg "len" = none)(hmt:X.mg "tuple" = none)(hi:CI X al c1 (.Name xk pk) iter fi)(nd:([xk,xl,xh]:List Str).Nodup)
 (hgk:∀z,PG (Hm X [xk,xl,xh] scope z) (.Name xk pk) (jI 0))
 (he:∀z,(∀{t:TA},PA (Hm X [xk,xl,xh] scope z) [.Name xh p4,.Call (.Name "len" p5) [.Name xl p6] [] p7] t->∀{sp:Sp}{fa:Addr}{fd:LF},FnOk X.prog X.w X.K X.mg X.base IA k fa fd ps sp->X.mg f=some (.ref fa)->W.keepIn X.K (.ref fa)=true->Binds X.K fd ps [] ->
  PE (Hm X [xk,xl,xh] scope z) (.Call (.Attribute (.Name xl p2) "pop" ap) [.Call (.Name f p3) [.Name xh p4,.Call (.Name "len" p5) [.Name xl p6] [] p7] [] p8] [] p9) (Gg X.K "list" uH (x6 1) (oX (yW sp [] E0 t) A1))))
 (hl:∀z,PA (Hm X [xk,xl,xh] scope z) [.Name xh p4,.Call (.Name "len" p5) [.Name xl p6] [] p7] (oX (x6 2) (oX (Gf (fun xs H Q=>∃p ys,xs=[.ref p]/\(HH X.K H p ys\/HG X.K H p ys)/\Q (.int ys.length) H) (oX (x6 1) A1)) A1)))
 (hfr:nI [none,some il,some ih] [xk,xl,xh] X.N scope X.env.scope=true:=by rfl)(hsc:nT scope X.env.scope=true:=by rfl)
 (hs:∀x,JE iter X.env x=pure x:=by intro _;rfl)(hgt:Gl X "tuple" := by rfl)
 (hst:IZ [(.ListComp (.Call (.Attribute (.Name xl p2) "pop" ap) [.Call (.Name f p3) [.Name xh p4,.Call (.Name "len" p5) [.Name xl p6] [] p7] [] p8] [] p9) [⟨.Name xk pk,iter,[],0⟩] scope pc)] X.env=(false,eval (.ListComp (.Call (.Attribute (.Name xl p2) "pop" ap) [.Call (.Name f p3) [.Name xh p4,.Call (.Name "len" p5) [.Name xl p6] [] p7] [] p8] [] p9) [⟨.Name xk pk,iter,[],0⟩] scope pc) X.env)::IZ [] X.env:=by rfl) :
 CS X al (c1+n*c2) (.Return (some (.Call (.Name "tuple" p1) [.ListComp (.Call (.Attribute (.Name xl p2) "pop" ap) [.Call (.Name f p3) [.Name xh p4,.Call (.Name "len" p5) [.Name xl p6] [] p7] [] p8] [] p9) [⟨.Name xk pk,iter,[],0⟩] scope pc] [] p10)) rp) (ux n il ih fi):=by
 obtain⟨fa,fd,hm,hk,hb,Fo⟩:=Dd.ex;obtain⟨wi,p0,k0⟩:=hi;refine⟨_,lS (gi dr hgt hmt (by rfl) (dU (fI [xk,xl,xh] [none,some il,some ih] hc p0 hfr hsc hgk (fun z=>kJ) (fun z=>he z (hl z) Fo hm hk hb) hs) jC hst) (by decide) (by decide) hst (by rfl)),fun{b F₀ H₀ F H σ ρ} R Dv D ok q=>?_⟩;refine k0 (b:=b+n*c2) (R.pay (by omega)) _ _ q fun J xs F1 H1 g1 vi ⟨hn,ys,e1,e2,hxy,hyl,fin⟩=>?_;intro DD hD;have R1:=R.gr g1;obtain⟨v,s1,⟨a,vs,ev,fa1,ra1,ha1,rs1⟩,nw1⟩:=R1.sl il _ e1;subst ev;obtain⟨v2,s2,⟨r,er,ev2⟩,_⟩:=R1.sl ih _ e2;subst ev2;have nD:DD≠a:=fun z=>by rw[z,ha1]at hD;cases hD
 have H0a:H₀ a=none:=nw1 a rfl;have H0D:H₀ DD=none:=R1.g.freeB hD;have rD:al≠some DD:=fun e=>by obtain⟨o,z⟩:=g1.reel.live e;rw[hD]at z;cases z
 have FD:F1 DD=none:=g1.sub.free hD;have sz:=Ji;have g10:Grow ⟨al,b+n*c2⟩ F₀ H₀ F1 (upd H1 DD (.lst [])):=R1.g.other H0D FD rD
 refine⟨fun i m acc σc Hc=>m=xs.length-i/\i<=xs.length/\∃Fc us zs ds,Grow ⟨al,b+(n-i)*c2⟩ F₀ H₀ Fc Hc/\bE F1 Fc/\Hc DD=some (.lst acc)/\Fc DD=none/\Reps X.K Fc acc ds/\ds.length=i/\(∀o∈ds,o∈ys)/\Hc a=some (.lst us)/\Fc a=none/\Reps X.K Fc us zs/\zs.length+i=ys.length/\(∀o∈zs,o∈ys)/\σc.length=3/\σc[1]?=some (some (.ref a))/\σc[2]?=some (some (.ref r)),
  ⟨xs.length,by simp,Kc _,F1,vs,ys,[],g10,.refl _,ax,FD,.nil,rfl,(fun o m=>nomatch m),by rw[ar (MO nD)];exact ha1,fa1,rs1,rfl,(fun o m=>m),rfl,?_,?_⟩,?_⟩
 · show some (((σ[il]?).join))=_;rw[s1];rfl
 · show some (((σ[ih]?).join))=_;rw[s2];rfl
 rintro z i m acc σc Hc ⟨rfl,hi,Fc,us,zs,ds,gc,smc,hDc,fDc,rds,hdl,hds,hac,fac,ruz,hzl,hzs,sl3,sa,sr⟩;have sH:bE F1 Hc:=smc.trans gc.sub;by_cases hlt:i<xs.length
 · have ei:xs[i]?=some xs[i]:=by simp[hlt]
   have el:=fR (n:=n) (i:=i) (c:=c2) (by omega);refine .inr ⟨(vi 0).go i Hc _ ei sH,fun v H' y=>?_⟩;obtain⟨Fy,gy,rv⟩:=(vi 0).yld i Hc v H' _ Fc ei smc gc.sub gc.reel y;have hay:H' a=some (.lst us):=gy.same a _ hac ra1;have hDy:H' DD=some (.lst acc):=gy.same DD _ hDc rD;have fay:Fy a=none:=by rw[gy.old a _ hac];exact fac
   have fDy:Fy DD=none:=by rw[gy.old DD _ hDc];exact fDc
   unfold jI;dsimp only;rw[if_pos rfl];have t1:(σc.set 0 (some v))[1]?=some (some (.ref a)):=by rw[Jk (by decide)];exact sa
   have t2:(σc.set 0 (some v))[2]?=some (some (.ref r)):=by rw[Jk (by decide)];exact sr
   have ul:us.length=zs.length:=ruz.length;have upos:0<us.length:=by omega
   refine⟨.ref a,t1,.inl ⟨rfl,us,.inl (.inl hay)⟩,?_⟩;refine⟨.ref r,t2,.ref a,t1,a,us,rfl,.inl (.inl (.inl hay)),?_⟩;refine⟨b+(n-(i+1))*c2,Fy,[.reel,.d (.int us.length)],gy.sub,gy.reel.pay (by omega),.cons ⟨r,er,rfl⟩ (.cons (.int _) .nil),rfl,?_⟩;refine hP us.length _ (by omega) (by omega) fun j j0 j1 v5 F5 H5 g5 r5=>?_;have e5:=aJ r5;subst e5;have ha5:H5 a=some (.lst us):=g5.same a _ hay ra1;have hD5:H5 DD=some (.lst acc):=g5.same DD _ hDy rD;have fa5:F5 a=none:=by rw[g5.old a _ hay];exact fay
   have fD5:F5 DD=none:=by rw[g5.old DD _ hDy];exact fDy
   have g05:=(gc.tr gy).tr g5;have jl:j.toNat<us.length:=by omega
   obtain⟨d,hd,rd⟩:=(ruz.mono (gy.fs.trans g5.fs)).getV (i:=j.toNat) (v:=us[j.toNat]) (by simp[jl]);refine⟨a,us,j,j.toNat,us[j.toNat],rfl,rfl,ha5,by omega,by omega,?_,by simp[jl],?_⟩
   · unfold Px;have h1:(if j<0 then j+(us.length:Int)else j)=j:=if_neg (by omega);rw[h1]
     first|rw[if_pos (by omega)]|rw[if_neg (by omega)]|(simp;omega)
   · refine⟨by rw[ar nD];exact hD5,by rw[rds.length,hdl];omega,xs.length-(i+1),by omega,rfl,hlt,F5,us.eraseIdx j.toNat,zs.eraseIdx j.toNat,ds++[d],?_,smc.trans (gy.fs.trans g5.fs),ax,fD5,(rds.mono (gy.fs.trans g5.fs)).snoc rd,by simp[hdl],?_,by rw[ar (MO nD),ax],fa5,(ruz.mono (gy.fs.trans g5.fs)).erase _,?_,?_,by simpa using sl3,t1,t2⟩
     · exact(g05.other H0a fa5 ra1).other H0D fD5 rD
     · intro o mo;rcases JU.mp mo with mo|mo
       · exact hds o mo
       · have:o=d:=by simpa using mo
         subst this;exact hzs o (M9 hd)
     · rw[List.length_eraseIdx_of_lt (by omega)];omega
     · exact fun o mo=>hzs o (List.mem_of_mem_eraseIdx mo)
 · have ee:i=xs.length:=by omega
   refine .inl ⟨(vi 0).stop _ Hc (by omega) sH,?_⟩;refine⟨DD,acc,rfl,.inl ⟨.inl (.inl hDc),fun l hl=>?_⟩⟩;have g9:Grow ⟨al,b⟩ F₀ H₀ (upd Fc l (.tup acc)) (upd Hc l (.tup acc)):=(gc.tr (Grow.data gc.sub gc.reel hl)).pay (by omega);have sm9:bE Fc (upd Fc l (.tup acc)):=fun b o z=>by rw[ar (aS z (gc.sub.free hl))];exact z
   exact ok.rt (.ref l) (.d (.tuple ds)) _ _ g9 (Rep.tup (.inl (.inl ax)) (rds.mono sm9)) trivial (fin ds (by omega) hds)
end
section
variable{X:Cx}{rl:RlT}{e:Expr}{fa:TV}{pos dpos q1 q2 q3 q4 q5 q6 q7 q8:Pos}{ρ:En}{j1 j2 j3 j4 j5 j6 j7 j8:Nat}{a1 a2 a3 a4 x1 x2 x3 x4:Int}
def oE(ps:List (Int×Int))(fa:TV):TV:=fun ρ Q=>fa ρ fun w=>∃k,w = .d (.int k)/\∃v,ps.lookup k=some v/\Q (.d (.int v))
theorem oy(ps:List (Int×Int))(k:Int):fF (ps.map fun p=>((JZ p.1:Ie),V.int p.2)) (JZ k)=(ps.lookup k).map V.int:=by
 induction ps with
 | nil=>rfl
 | cons p ps ih =>
   unfold fF at ih ⊢;rw[Jg,Ka,J9];by_cases h:p.1=k
   · simp[h]
   · have h1:(k==p.1)=false:=by simpa using fun z=>h z.symm
     have h2:decide ((JZ p.1:Ie)=JZ k)=false:=by simpa using h
     rw[h1];simp only[h2,MF,if_false];exact ih
theorem vO(hr:Room 0 X.A)(hd:a1≠a2/\a1≠a3/\a1≠a4/\a2≠a3/\a2≠a4/\a3≠a4)(h:PV X rl e fa)(hs:vd e:=by exact fun _ _=>rfl) :
 PV X rl (.Subscript (.Dict [some (.Constant (.int a1) j1 q1),some (.Constant (.int a2) j2 q2),some (.Constant (.int a3) j3 q3),some (.Constant (.int a4) j4 q4)] [.Constant (.int x1) j5 q5,.Constant (.int x2) j6 q6,.Constant (.int x3) j7 q7,.Constant (.int x4) j8 q8] dpos) e pos) (oE [(a1,x1),(a2,x2),(a3,x3),(a4,x4)] fa):=by
 obtain⟨t,p,k⟩:=h;obtain⟨d12,d13,d14,d23,d24,d34⟩:=hd;refine⟨_,gf (nG hr) (pW (db dO dO (db dO dO (db dO dO (db dO dO pM)))) rfl rfl (by intro z;cases z) (by show 4<=15;decide)) p hs,fun{F₀ H₀ F H σ ρ} R Qd Q q h=>?_⟩;intro d hd;refine⟨ax,[(JZ a1,.int x1),(JZ a2,.int x2),(JZ a3,.int x3),(JZ a4,.int x4)],rfl,(by show 4<=15;decide),?_⟩
 have em:eL [] [((JZ a1:Ie),V.int x1),(JZ a2,.int x2),(JZ a3,.int x3),(JZ a4,.int x4)]=[(JZ a1,.int x1),(JZ a2,.int x2),(JZ a3,.int x3),(JZ a4,.int x4)]:=by
  unfold eL;simp only[KQ,List.foldl_nil];have p0:dN ([]:List (Ie×V)) (JZ a1) (V.int x1)=[(JZ a1,V.int x1)]:=rfl;rw[p0];unfold dN;simp[d12,d13,d14,d23,d24,d34]
 rw[em,vW];have g0:Grow rl F H F (upd H d (.dK [(JZ a1,.int x1),(JZ a2,.int x2),(JZ a3,.int x3),(JZ a4,.int x4)])):=Grow.laid R.sub R.reel hd;refine k (R.grow g0) _ _ q fun v w F1 H1 g1 r1 n1 ⟨kk,ew,vv,lk,q1⟩=>?_;subst ew;have ev:=aJ r1;subst ev;have rd:rl.a≠some d:=fun z=>by obtain⟨o,zz⟩:=R.reel.live z;rw[hd]at zz;cases zz
 have hD:H1 d=some (.dK [(JZ a1,.int x1),(JZ a2,.int x2),(JZ a3,.int x3),(JZ a4,.int x4)]):=g1.same d _ ax rd;have gd:=yc.k (k:=(JZ kk:Ie)) hD
 have:fF [((JZ a1:Ie),V.int x1),(JZ a2,.int x2),(JZ a3,.int x3),(JZ a4,.int x4)] (JZ kk)=some (.int vv):=by
  have z:=oy [(a1,x1),(a2,x2),(a3,x3),(a4,x4)] kk;rw[lk]at z;exact z
 rw[this]at gd;exact⟨d,.int vv,rfl,gd,h _ (.d (.int vv)) _ _ (g0.trans g1) (.int vv) trivial q1⟩
theorem iU(ps:List (Int×Int)):oE ps fa ρ=Hl (fa ρ) fun w=>aQ (asI w) fun k=>aQ (ps.lookup k) fun v=>ret (.d (.int v)):=by
 refine ag fun Q=>?_;simp only[oE,Hl,aq,cL,ret]
end
end L2.VL
namespace L2.TI
section
variable{prog:Ju}{w:J_}{A:Kh}{E:IR->IW->Prop}{s:IW}{t:Addr}{vs:List IR}{ns:List Int}{k:Int}{tok:Tok}{j:Nat}
theorem iX:∀{vs:List IR}{ns:List Int}{i:Nat}{n:Int},OR vs ns->ns[i]?=some n->∃u,vs[i]?=some (.int n u)
 | _,_,_,_,.nil,e=>by simp at e
 | _,_,0,_,.cons n t r,e=>by simp at e;subst e;exact⟨t,rfl⟩
 | _,_,i+1,_,.cons n t r,e=>by
   obtain⟨u,h⟩:=iX (i:=i) r (by simpa using e);exact⟨u,by simpa using h⟩
theorem scan{Q:Option Fin×Unit->IW->Prop}(hI:OR vs ns)(hj:ns[j]?=some k)(hno:∀m,m<j->ns[m]?≠some k)(q:Q (some (.done (.ret (.int j s.toks))),()) {s with toks:=s.toks+1}) :
 ∀ len start:Nat,start<=j->j<start+len->Jn (Jv prog w) A (forIn (List.range' start len) ((none,()):Option Fin×Unit) fun(i:Nat)(_:Option Fin×Unit) =>
   match vs.toArray[i]? with
   | some y=>do
     let b <- eqBool y (OX k tok)
     if b=true then do
      let r <- retInt (i:Int)
      pure (ForInStep.done (some r,()))
     else pure (L6 (none,()))
   | _=>pure (L6 (none,()))) Q E s
 | 0,start,h1,h2=>by omega
 | len+1,start,h1,h2=>by
   rw[List.range'_succ,ME];have hl:start<ns.length:=by have:=(Jj.mp hj).1;omega
   obtain⟨u,hu⟩:=iX (i:=start) (n:=ns[start]) hI (IV hl);have hv:vs.toArray[start]?=some (.int ns[start] u):=by simpa using hu
   refine IK ?_;rw[hv];refine IK (wpAny_eqBool_int ?_);by_cases e:ns[start]=k
   · have es:start=j:=by
       rcases Nat.lt_or_eq_of_le h1 with z|z
       · exact absurd (by rw[IV hl,e]) (hno start z)
       · exact z
     subst es;rw[if_pos (by simpa using e)];exact IK (IK (PL (IU (IU (IU q)))))
   · rw[if_neg (by simpa using e)];refine IU ?_;have ne:start≠j:=fun z=>by subst z;rw[IV hl]at hj;exact e (JN hj)
     exact scan hI hj hno q len (start+1) (by omega) (by omega)
theorem body{R:Pv->IW->Prop}(tp:Oh s.heap t vs.toArray)(hI:OR vs ns)(hj:ns[j]?=some k)(hno:∀m,m<j->ns[m]?≠some k)
 (q:R (.ok (.ret (.int j s.toks))) {s with toks:=s.toks+1}) :
 Jn (Jv prog w) A.in1 (Builtin.«tuple.index» ⟨[.ref t,.int k tok],[]⟩) (fun fin s'=>match fin with | .done f=>R (.ok f) s' | .again c'=>c'.quiet=true/\Lo (Jv prog w) A c' R s') (fun e s'=>R (.error e) s') s:=by
 unfold Builtin.«tuple.index»;show Jn _ _ (do let z <- Lr (.ref t);_) _ _ s;refine IK (MC tp ?_);refine IK (IU (IK (IU ?_)));dsimp only;rw[Std.Legacy.Range.forIn_eq_forIn_range']
 have hl:j<vs.toArray.size:=by
  have h1:=(Jj.mp hj).1;have h2:=hI.length;simp only[Je];omega
 refine IK (scan hI hj hno ?_ _ 0 (Kc _) ?_)
 · exact IU q
 · show j<0+Std.Legacy.Range.size _;simp[Std.Legacy.Range.size];simpa using hl
end
end L2.TI
namespace L2
section
variable{X:Cx}
end
end L2
namespace L2.VL
section
variable{X:Cx}{rl:RlT}{a b c o e:Expr}{es:List Expr}{fa fb:TV}{fs:HA}{pos p apos cpos:Pos}{ρ:En}
end
end L2.VL
namespace L2.RT
theorem qf:Manifest.owners.lookup (String.ofList ['d','e','s','r','e','v','e','r'].reverse)=some Manifest.sig_reversed:=by kernel_rfl
theorem eE:Slot "reversed" "__next__" "reversed.__next__" :=
 .of (owner := "reversed") (n := "__next__") (by rw[MH,Lz];kernel_rfl) (by decide +kernel) (by decide +kernel) (by decide +kernel)
  (by first|exact .inl (by decide +kernel)|exact .inr (by decide +kernel)) (by rw[MY];kernel_rfl)
theorem ij:entryFor table "reversed.__next__" = some Builtin.«reversed.__next__»:=entryFor_of_tree (by kernel_rfl)
theorem jZ(a:IR):argsOk "reversed.__next__" ⟨[a],[]⟩:=by
 unfold argsOk;rw[signature?_of (id := "reversed.__next__") (n:=['_','_','t','x','e','n','_','_']) (o:=['d','e','s','r','e','v','e','r']) (by kernel_rfl) qf];kernel_rfl
theorem jn:Slot "reversed" "__iter__" "reversed.__iter__" :=
 .of (owner := "reversed") (n := "__iter__") (by rw[MH,Lz];kernel_rfl) (by decide +kernel) (by decide +kernel) (by decide +kernel)
  (by first|exact .inl (by decide +kernel)|exact .inr (by decide +kernel)) (by rw[MY];kernel_rfl)
theorem rB(a:IR):argsOk "reversed.__iter__" ⟨[a],[]⟩:=by
 unfold argsOk;rw[signature?_of (id := "reversed.__iter__") (n:=['_','_','r','e','t','i','_','_']) (o:=['d','e','s','r','e','v','e','r']) (by kernel_rfl) qf];kernel_rfl
theorem nK:entryFor table "reversed.__iter__" = some Builtin.«dict_keyiterator.__iter__» :=
 entryFor_alias (id' := "dict_keyiterator.__iter__") (by kernel_rfl) (by first|rfl|decide +kernel|(unfold String.splitOn;simp +decide [String.splitOnAux])) (by decide +kernel) (by kernel_rfl)
theorem o6:Slot "reversed" "__init__" "object.__init__" :=
 .of (owner := "object") (n := "__init__") (by rw[MH,Lz];kernel_rfl) (by decide +kernel) (by decide +kernel) (by decide +kernel)
  (by first|exact .inl (by decide +kernel)|exact .inr (by decide +kernel)) (by rw[MY];kernel_rfl)
theorem AJ:TypeCalled "reversed" "reversed.__new__" "object.__init__" :=
 ⟨by decide +kernel,by decide +kernel,⟨_,_,F.mro_reversed⟩,F.made_reversed,by decide +kernel,by rw[MY];kernel_rfl,o6⟩
theorem oS:OD (.type "tuple") "__reversed__" = pure none:=by rw[MH,Lz];kernel_rfl
theorem mX:isSubtype (.type "tuple") (.type "dict")=pure false:=by rw[MY];kernel_rfl
def rObj(a:Addr)(i:Int):Obj:={cls:=.type "reversed", data:=.fields #[.ref a,ML i]}
def IsRv(h:Heap)(r a:Addr)(i:Int):Prop:=∃o,h.get? r=some o/\o.cls = .type "reversed" /\ o.data = .fields #[.ref a,ML i]
section
variable{prog:Ju}{w:J_}{A:Kh}{E:IR->IW->Prop}{s:IW}
theorem IsRv.typeIs{r:Addr}{i:Int}(x:IsRv s.heap r a i):s.TypeIs (.ref r) "reversed" := let ⟨o,ho,hc,_⟩:=x;⟨o,ho,hc⟩
theorem IsRv.at{r:Addr}{i:Int}(x:IsRv h r a i)(e:∀o,h.get? r=some o->h'.get? r=some o):IsRv h' r a i:=let ⟨o,ho,z⟩:=x;⟨o,e _ ho,z⟩
theorem qj(t:Addr)(xs:Array IR)(hz:(xs.size:Int)<2^63) :
 Meets (Builtin.«reversed.__new__» ⟨[.type "reversed", .ref t],[]⟩) (fun _ R s=>Oh s.heap t xs/\∀tk,R (.ok (.ret (.ref s.heap.objs.size))) {s with heap:=s.heap.push (rObj t ((xs.size:Int)-1)),toks:=tk}) :=
 .of_wp fun prog w A R s h=>by
  obtain⟨ht,h⟩:=h;unfold Builtin.«reversed.__new__»;refine IK (LB (newClass_reversed _) ?_)
  try dsimp only
  refine IK (LB (a:=()) (by first|rfl|kernel_rfl) ?_);refine IK (LB (a:=()) (by first|rfl|kernel_rfl) ?_)
  try dsimp only
  refine IK (Nm ht.typeIs oS ?_)
  try dsimp only
  refine IK (IK (M6 ht.typeIs mX ?_));refine IK (Nm ht.typeIs F.slot_tuple_getitem.lookup ?_)
  try dsimp only
  rw[if_pos (by decide +kernel)];refine IU ?_
  try dsimp only
  rw[if_neg (by decide)];refine IK (len_tuple ht hz ?_);refine IK (LB (a:=some (xs.size:Int)) rfl ?_)
  try dsimp only
  show Jn _ _ (newObj (.type "reversed") (.fields #[.ref t,ML ((xs.size:Int)-1)]) >>= _) _ _ _;refine IK (JC ?_ (by size_fits));exact IU ⟨_,rfl,h _⟩
theorem call_rev{xs:Array IR}(ht:Oh s.heap t xs)(hz:(xs.size:Int)<2^63)
 (h:∀tk,Q (.ref s.heap.objs.size) {s with heap:=s.heap.push (rObj t ((xs.size:Int)-1)),toks:=tk}):Jn (Jv prog w) A (call (.type "reversed") [.ref t]) Q E s :=
 Pk AJ (by decide) (F.typeCall_reversed_1 _) (F.newCall_reversed_1 _) (fun u=>F.args_object_init_2 u _) F.entry_reversed_new (qj t xs hz) ⟨ht,fun tk=>⟨⟨_,Jf _ rfl,rfl⟩,h tk⟩⟩
theorem next_item{r:Addr}{xs:Array IR}{x:IR}{Q:Option IR->IW->Prop}(hr:IsRv s.heap r t (i:Int))(ht:Oh s.heap t xs)(hx:xs[i]?=some x)(hz:(xs.size:Int)<2^63)
 (hQ:∀h' tk,IsRv h' r t ((i:Int)-1)->Lg r s.heap h'->Q (some x) {s with heap:=h',toks:=tk}):Jn (Jv prog w) A (Ni (.ref r)) Q E s:=by
 obtain⟨o,ho,hc,hd⟩:=id hr;have hi:i<xs.size:=(Array.getElem?_eq_some_iff.mp hx).1;unfold Ni
 refine IK (Mh (JG (name:=Str.ofString "__next__") hr.typeIs eE
  (Kd eE hr.typeIs ij ?_ (jZ _))))
 unfold Builtin.«reversed.__next__»;refine IK (LB (a:=(Lj r,[])) rfl ?_)
 try dsimp only
 refine IK (JM ho hd (x:=.ref t) rfl ?_);refine IK (JM ho hd (x:=ML (i:Int)) rfl ?_);show Jn _ _ (if(i:Int)<0 then _ else _) _ _ s;rw[if_neg (by omega)];refine IK (Nm ht.typeIs F.slot_tuple_getitem.lookup ?_);rw[if_neg (by decide)];refine IK (PL ?_);refine IK (Mh (getItem_tuple (s:={s with toks:=s.toks+1}) ht (by omega) (by omega) (OP (by omega) (by omega)) (x:=x) (by rw[JR];exact hx) ?_))
 try dsimp only
 refine IK (JM (s:={s with toks:=s.toks+1}) ho hd (x:=ML (i:Int)) rfl ?_);show Jn _ _ (setField (.ref r) 1 (ML ((i:Int)-1)) >>= _) _ _ _;refine IK (MW (s:={s with toks:=s.toks+1}) ho hd (by simp) ?_);refine IU ⟨x,rfl,IU (hQ _ _ ?_ (LW ..))⟩
 exact⟨_,L5 _ ho (M2 (Lx hd _)),(Obj.cls_mapFields ..).trans hc,by
  rw[Lx hd];simp⟩
theorem next_end{r:Addr}{Q:Option IR->IW->Prop}(hh:A.handled=none)(hr:IsRv s.heap r t (-1))
 (hQ:∀h',OT r s.heap h'->Q none {s with heap:=h' }):Jn (Jv prog w) A (Ni (.ref r)) Q E s:=by
 obtain⟨o,ho,hc,hd⟩:=id hr;unfold Ni
 refine IK (Mh (JG (name:=Str.ofString "__next__") hr.typeIs eE
  (Kd eE hr.typeIs ij ?_ (jZ _))))
 unfold Builtin.«reversed.__next__»;refine IK (LB (a:=(Lj r,[])) rfl ?_)
 try dsimp only
 refine IK (JM ho hd (x:=.ref t) rfl ?_);refine IK (JM ho hd (x:=ML (-1)) rfl ?_);show Jn _ _ (if(-1:Int)<0 then _ else _) _ _ s;rw[if_pos (by decide)];refine IK (Mc ?_);refine IK (IK (MW ho hd (by simp) ?_));have ho2:=L5 (MI (·.setIfInBounds 1 (ML (-1)))) ho (M2 (Lx hd _));refine MW (s:={s with heap:=s.heap.update r (MI (·.setIfInBounds 1 (ML (-1))))}) ho2 (Lx hd _) (by simp) ?_;have eb:OT r s.heap ((s.heap.update r (MI (·.setIfInBounds 1 (ML (-1))))).update r (MI (·.setIfInBounds 0 LZ))):=fun b o hb e=>(LW ..).extBut b o hb ((LW ..).extBut b o hb e);generalize ((s.heap.update r (MI (·.setIfInBounds 1 (ML (-1))))).update r (MI (·.setIfInBounds 0 LZ)))=g at eb ⊢
 first
 | show Jn _ _ (newExc (.type "StopIteration") [] >>= _) _ _ _
 | (refine IK ?_;show Jn _ _ (newExc (.type "StopIteration") [] >>= _) _ _ _)
 refine IK ?_;simp only[newExc,newTuple];refine IK (JC ?_ (by size_fits));refine IK (m:=NO _ _) (LB (a:=LZ) (by first|rfl|(simp only[NO];rfl)) ?_);refine JC ?_ (by size_fits);simp only[raiseNew];refine IK (wpAny_handled ?_)
 first|rw[show A.in1.handled=none from hh]|rw[hh]
 refine IK (IU (wpAny_throw ?_));refine IK (M6 (T := "StopIteration") (b:=true) ⟨_,Jf _ rfl,rfl⟩ OL ?_);exact IU (hQ _ ((eb.push _).push _))
theorem iter_self{r:Addr}{i:Int}(hr:IsRv s.heap r t i)(h:Q (.ref r) s):Jn (Jv prog w) A (Pe (.ref r)) Q E s:=by
 refine wpAny_pyIter_slot hr.typeIs jn (Kd jn hr.typeIs nK ?_ (rB _));show Jn _ _ (ret (.ref r)) _ _ s;exact IU ⟨_,rfl, "reversed", _,hr.typeIs,eE.lookup,h⟩
end
end L2.RT
namespace L2
def Ik(K:W.Frag)(a:Addr)(n:Nat):It :=
 ⟨fun i H=>i<n/\∃xs,HG K H a xs/\xs.length=n,fun i H x H'=>H'=H/\∀xs,HG K H a xs->xs[n-1-i]?=some x,fun i H=>n<=i⟩
theorem oN{K:W.Frag}(a it:Addr)(n:Nat):Turn P w K tg (Ik K a n) [it] it (fun i h=>RT.IsRv h it a ((n:Int)-1-(min i n:Nat))) where
 mem:=by simp
 obj:=fun i h st b hb=>by
  have e:b=it:=by simpa using hb
  subst e;obtain⟨o,e,c,d⟩:=st;exact⟨o,e,fun v z=>by rw[d]at z;cases z⟩
 keep:=fun i h h' st k=>st.at fun o e=>k it (by simp) o e
 item:=by
  intro X hP hw hK hc i pins s σ H E I hf st hg;subst hP hw hK;obtain⟨hi,xs,hq,hl⟩:=hg;obtain⟨its,rv,p,hz⟩:=I.tuple hq;have hx:xs[n-1-i]?=some xs[n-1-i]:=IV (by omega);obtain⟨u,hu,ru⟩:=rv.get hx;obtain⟨f0,f1,f2,f3,f4,f5⟩:=hf it (by simp);have e1:(n:Int)-1-(min i n:Nat)=((n-1-i:Nat):Int):=by omega
  rw[e1]at st;have hl2:=rv.length;have sz:=Ji;refine RT.next_item st p (x:=u) (by simpa using hu) (by rw[Je];omega) fun h' tk st' sb=>?_;have I1:Inv X pins σ H {s with heap:=h',toks:=tk}:=I.turned (t':=tk) (fun b o hb e=>(sb.2 b hb).trans e) f0 f1 f3 f4 f5;have e2:((n-1-i:Nat):Int)-1=(n:Int)-1-(min (i+1) n:Nat):=by omega
  rw[e2]at st';obtain⟨o,e,c,d⟩:=id st';exact⟨u,rfl,nH (s:={s with heap:=h',toks:=tk}) e c d (by decide) ⟨_,H,I1,ru,⟨rfl,fun ys hy=>by rw[I.tuple_inj hy hq];exact hx⟩,st',fun b hb=>(hf b hb).1⟩⟩
 done:=by
  intro X hP hw hK hc i pins s σ H E I hf st hg;subst hP hw hK;have hg:n<=i:=hg;obtain⟨f0,f1,f2,f3,f4,f5⟩:=hf it (by simp);have e1:(n:Int)-1-(min i n:Nat) = -1:=by omega
  rw[e1]at st;exact RT.next_end (I.ok.hd hc) st fun h' eb=>⟨rfl,I.turned (t':=s.toks) (fun b o hb e=>eb b o hb e) f0 f1 f3 f4 f5⟩
 self:=fun _ _ _ _ _ st h=>RT.iter_self st h
section
variable{X:Cx}{tg e:Expr}{ta te:TE}{p p2 pos:Pos}
def Cf(K:W.Frag)(t:TA):TI:=fun σ H R=>t σ H fun vs H1=>∃a xs,vs=[.ref a]/\HG K H1 a xs/\R (Ik K a xs.length) H1
theorem wK{a:Expr}{ta:TA}(hg:Gl X "reversed")(hm:X.mg "reversed" = none)(ha:PA X [a] ta)(hs:IZ [a] X.env=[(false,eval a X.env)]:=by rfl):PI X tg (.Call (.Name "reversed" p) [a] [] pos) (Cf X.K ta):=by
 intro pins s σ H R I h;refine Call_ (fD I hg hm (by rfl) (Ke (FX (ha pos pins s σ H _ I h) fun us s1 ⟨vs,H1,I1,r1,q1⟩=>?_) hs rfl) (by decide) (by decide));obtain⟨a,xs,e,hq,q⟩:=q1;subst e
 cases r1 with
 | cons r rr =>
   cases rr;cases r;obtain⟨its,rv,p,hz⟩:=I1.tuple hq;have hl:=rv.length;have sz:=Ji;refine RT.call_rev p (by rw[Je];omega) fun tk=>?_;refine RT.iter_self (r:=s1.heap.objs.size) (t:=a) (i:=(xs.length:Int)-1) ⟨_,Jf _ rfl,rfl,by simp[hl,RT.rObj]⟩ ?_;refine⟨s1.heap.objs.size,[s1.heap.objs.size],_,_,H1,rfl,I1.kept (t':=tk) fun b o e=>IQ _ e,oN a _ xs.length,?_,fun b hb=>?_,q⟩
   · exact⟨_,Jf _ rfl,rfl,by simp[hl,RT.rObj]⟩
   · have e:b=s1.heap.objs.size:=by simpa using hb
     subst e;exact I1.fpOk (I_ _) (I1.hok.fresh (I_ _))
end
end L2
namespace L2.VL
section
variable{X:Cx}{rl:RlT}{a b c e tg:Expr}{es:List Expr}{fa fb fc:TV}{fs:HA}{pos pos2 p p2 q:Pos}
def D6(fs:HA):En->(List IJ->Prop)->Prop:=fun ρ Q=>fs ρ fun ws=>∃xs,ws=[.d (.tuple xs)]/\Q xs.reverse
theorem jd(hm:X.mg "reversed" = none)(ha:HN X rl [a] fs)(hg:Gl X "reversed" := by rfl)(hs:IZ [a] X.env=[(false,eval a X.env)]:=by rfl):HW X rl tg (.Call (.Name "reversed" p) [a] [] pos) (D6 fs):=by
 obtain⟨t,p1,k⟩:=ha;refine⟨_,wK hg hm p1 hs,fun R Qd Q q h=>k R _ _ q fun vs ws F1 H1 g1 r1 ⟨xs,ew,q1⟩=>?_⟩;subst ew;obtain⟨v,rfl,rv⟩:=nU r1;have rv:Rep X.K F1 v (.tuple xs):=rv
 obtain⟨a,vs,rfl,sq0,rs⟩:∃a vs,v = .ref a/\(∀H,bE F1 H->HG X.K H a vs)/\Reps X.K F1 vs xs:=by
  cases rv with
  | @tup a vs _ sq rs=>exact⟨a,vs,rfl,fun H s=>dJ s sq,rs⟩
 have sqH:∀H,bE F1 H->HG X.K H a vs:=fun H s=>sq0 H s;have hl:=rs.length;refine⟨a,vs,rfl,sqH H1 g1.sub,h _ xs.reverse F1 H1 g1 (.of (fun i H x e s=>⟨?_,vs,sqH H s,rfl⟩) (fun i H hl' s=>?_) (fun i H v H' x e s y=>?_)) q1⟩
 · have:=(Jj.mp e).1;rw[Ms]at this;omega
 · show vs.length<=i;rw[Ms]at hl';omega
 · obtain⟨e',hy⟩:=y;obtain⟨v',ev,rv'⟩:=rs.rev.get e;have h1:=hy vs (sqH H s)
   have hi:i<vs.length:=by
    have:=(Jj.mp ev).1;simpa using this
   rw[List.getElem?_reverse hi,h1]at ev;cases ev;exact⟨e',rv'⟩
noncomputable def A5:List W->Option (List IJ)
 | [.d (.tuple xs)]=>some xs
 | _=>none
theorem wZ{ws:List W}:A5 ws=some xs↔ws=[.d (.tuple xs)]:=by
 constructor
 · intro h;unfold A5 at h;split at h
   · cases h;rfl
   · cases h
 · rintro rfl;rfl
theorem Ac:D6 fs ρ=Hl (fs ρ) fun ws=>aQ (A5 ws) fun xs=>ret xs.reverse:=by
 show(Hl (fs ρ) fun ws=>fun(Q:List IJ->Prop)=>∃xs,ws=[.d (.tuple xs)]/\Q xs.reverse)=_;congr 1;funext ws;refine ag fun Q=>?_;simp only[aq,wZ,ret]
end
end L2.VL
namespace L2
open L2.ZP
section
variable{X:Cx}{e1 e2:Expr}{elts:List Expr}{kt:Nat}{pt p pos:Pos}{ta:TA}
end
end L2
namespace L2.VL
section
variable{X:Cx}{rl:RlT}{a b:Expr}{elts:List Expr}{kt:Nat}{pt p pos:Pos}{fs:HA}
end
end L2.VL
namespace L2
abbrev GU(elt t1 i1:Expr)(f1:List Expr)(t2 i2:Expr)(f2:List Expr)(scope:Scope)(pos:Pos):Expr:=.ListComp elt [⟨t1,i1,f1,0⟩,⟨t2,i2,f2,0⟩] scope pos
theorem vZ(elt t1 i1:Expr)(f1:List Expr)(t2 i2:Expr)(f2:List Expr)(scope:Scope)(pos:Pos)(it acc:IR)(env:Env) :
 O5 (GU elt t1 i1 f1 t2 i2 f2 scope pos) 0 it acc env=(N0 i1.pos >>= fun _=>Ni it >>= fun r=>match r with
  | none=>pure (.done .next)
  | some v=>K7 t1 it v >>= fun _=>LH t1 env v >>= fun _=>dR f1 env >>= fun ok=>(if ok=true then
      (eval i2 env >>= fun x=>N0 i2.pos >>= fun _=>JE i2 env x >>= fun x=>Ng [x] (Pe x) >>= fun y=>runOwn (.compStart (GU elt t1 i1 f1 t2 i2 f2 scope pos) 1 y acc env) env >>= fun _=>again (.compLoop (GU elt t1 i1 f1 t2 i2 f2 scope pos) 0 it acc env))
      else again (.compLoop (GU elt t1 i1 f1 t2 i2 f2 scope pos) 0 it acc env))):=by rfl
theorem vY(elt t1 i1:Expr)(f1:List Expr)(t2 i2:Expr)(f2:List Expr)(scope:Scope)(pos:Pos)(it acc:IR)(env:Env) :
 O5 (GU elt t1 i1 f1 t2 i2 f2 scope pos) 1 it acc env=(N0 i2.pos >>= fun _=>Ni it >>= fun r=>match r with
  | none=>pure (.done .next)
  | some v=>K7 t2 it v >>= fun _=>LH t2 env v >>= fun _=>dR f2 env >>= fun ok=>(if ok=true then
      ((eval elt env >>= fun x=>call (.builtin "list.append") [acc,x] >>= fun _=>pure ()) >>= fun _=>again (.compLoop (GU elt t1 i1 f1 t2 i2 f2 scope pos) 1 it acc env))
      else again (.compLoop (GU elt t1 i1 f1 t2 i2 f2 scope pos) 1 it acc env))):=by rfl
section
variable{prog:Ju}{w:J_}{A:Kh}{R:Pv->IW->Prop}{s:IW}{elt t1 i1 t2 i2:Expr}{f1 f2:List Expr}{scope:Scope}{pos:Pos}{it acc:IR}{env:Env}
theorem xj(I:Nat->IW->Prop)(hs:∀x,JE i2 env x=pure x)
 (turn:∀n s,I n s->Jn (Jv prog w) A (Ni it) (fun r s₁=>(r=none/\R (.ok .next) s₁)\/∃v,r=some v /\
  Jn (Jv prog w) A (K7 t1 it v) (fun _ s₂=>Jn (Jv prog w) A (LH t1 env v) (fun _ s₃=>Jn (Jv prog w) A (dR f1 env) (fun ok s₄ =>
   if ok=true then Jn (Jv prog w) A (eval i2 env) (fun x s₅=>Jn (Jv prog w) A (Pe x) (fun y s₆=>Lo (Jv prog w) A (.compStart (GU elt t1 i1 f1 t2 i2 f2 scope pos) 1 y acc env) (fun r s₇=>r = .ok .next/\∃m,m<n/\I m s₇) s₆) (fun _ _=>False) s₅) (fun _ _=>False) s₄
   else ∃m,m<n/\I m s₄) (fun _ _=>False) s₃) (fun _ _=>False) s₂) (fun _ _=>False) s₁) (fun _ _=>False) s)
 (n:Nat)(h:I n s):Lo (Jv prog w) A (.compLoop (GU elt t1 i1 f1 t2 i2 f2 scope pos) 0 it acc env) R s:=by
 refine On rfl I (fun n s hI=>?_) n h;show Jn _ A ((O5 (GU elt t1 i1 f1 t2 i2 f2 scope pos) 0 it acc env).onRaise (fun x=>do O6 x env;Nn x)) _ _ s;refine OS ?_;rw[vZ];refine IK (KN (IK (JJ (turn n s hI) (fun r s₁ h₁=>?_) fun _ _ h'=>h'.elim)));rcases h₁ with⟨rfl,h₁⟩|⟨v,rfl,h₁⟩
 · exact IU h₁
 · refine IK (JJ h₁ (fun _ s₂ h₂=>IK (JJ h₂ (fun _ s₃ h₃=>IK (JJ h₃ (fun ok s₄ h₄=>?_) fun _ _ z=>z.elim)) fun _ _ z=>z.elim)) fun _ _ z=>z.elim)
   cases ok with
   | false=>exact IU ⟨rfl,h₄⟩
   | true =>
     refine IK (JJ h₄ (fun x s₅ h₅=>IK (KN (IK (LB (hs x) (IK (Lv (JJ h₅ (fun y s₆ h₆=>?_) fun _ _ z=>z.elim))))))) fun _ _ z=>z.elim);refine IK (wpAny_runOwn (Nx h₆ fun r s₇ ⟨hr,h₇⟩=>?_));subst hr;exact IU ⟨rfl,h₇⟩
theorem xi(I:Nat->IW->Prop)
 (turn:∀n s,I n s->Jn (Jv prog w) A (Ni it) (fun r s₁=>(r=none/\R (.ok .next) s₁)\/∃v,r=some v /\
  Jn (Jv prog w) A (K7 t2 it v) (fun _ s₂=>Jn (Jv prog w) A (LH t2 env v) (fun _ s₃=>Jn (Jv prog w) A (dR f2 env) (fun ok s₄ =>
   if ok=true then Jn (Jv prog w) A (eval elt env) (fun x s₅=>Jn (Jv prog w) A (call (.builtin "list.append") [acc,x]) (fun _ s₆=>∃m,m<n/\I m s₆) (fun _ _=>False) s₅) (fun _ _=>False) s₄
   else ∃m,m<n/\I m s₄) (fun _ _=>False) s₃) (fun _ _=>False) s₂) (fun _ _=>False) s₁) (fun _ _=>False) s)
 (n:Nat)(h:I n s):Lo (Jv prog w) A (.compLoop (GU elt t1 i1 f1 t2 i2 f2 scope pos) 1 it acc env) R s:=by
 refine On rfl I (fun n s hI=>?_) n h;show Jn _ A ((O5 (GU elt t1 i1 f1 t2 i2 f2 scope pos) 1 it acc env).onRaise (fun x=>do O6 x env;Nn x)) _ _ s;refine OS ?_;rw[vY];refine IK (KN (IK (JJ (turn n s hI) (fun r s₁ h₁=>?_) fun _ _ h'=>h'.elim)));rcases h₁ with⟨rfl,h₁⟩|⟨v,rfl,h₁⟩
 · exact IU h₁
 · refine IK (JJ h₁ (fun _ s₂ h₂=>IK (JJ h₂ (fun _ s₃ h₃=>IK (JJ h₃ (fun ok s₄ h₄=>?_) fun _ _ z=>z.elim)) fun _ _ z=>z.elim)) fun _ _ z=>z.elim)
   cases ok with
   | false=>exact IU ⟨rfl,h₄⟩
   | true=>exact IK (IK (JJ h₄ (fun x s₅ h₅=>IK (JJ h₅ (fun _ s₆ h₆=>IU (IU ⟨rfl,h₆⟩)) fun _ _ z=>z.elim)) fun _ _ z=>z.elim))
theorem sj
 (h0:Lo (Jv prog w) A (.compLoop (GU elt t1 i1 f1 t2 i2 f2 scope pos) 1 it acc env) R s)
 (h:Jn (Jv prog w) A (Pe it) (fun it' s'=>Lo (Jv prog w) A (.compLoop (GU elt t1 i1 f1 t2 i2 f2 scope pos) 1 it' acc env) R s') (notedBy (Jv prog w) A env fun x s'=>R (.error x) s') s) :
 Lo (Jv prog w) A (.compStart (GU elt t1 i1 f1 t2 i2 f2 scope pos) 1 it acc env) R s:=by
 refine codeAny_of_tree ?_;show Jn _ _ ((compStart (GU elt t1 i1 f1 t2 i2 f2 scope pos) 1 it acc env).onRaise (fun x=>do O6 x env;N0 theWindowsPlace)) _ _ s;refine wpAny_notedAt ?_;unfold compStart;show Jn _ _ (ask >>= _) _ _ s;refine IK (wpAny_askSetting (wpAny_ite ?_));split
 · first
     | exact IK (IU (IU (IL rfl h0)))
     | exact IU (IL rfl h0)
 · first
     | exact IK (Mc (IK (KN (IK (JJ h (fun it' s' h'=>IU (IL rfl h')) fun _ _ x=>x)))))
     | (refine IK (Mc ?_);show Jn _ _ (N0 i2.pos >>= _) _ _ s;exact IK (KN (IK (JJ h (fun it' s' h'=>IU (IL rfl h')) fun _ _ x=>x))))
end
def Gc(wi:TI)(g:TG)(tt:TT)(te:TE)(D:Addr)(acc:List V)(σ:St)(H:Hp)(R:List V->St->Hp->Prop):Prop:=wi σ H fun J H1=>∃Wv:Nat->Nat->List V->St->Hp->Prop,(∃m,Wv 0 m acc σ H1) /\
 ∀ i m acc σc H,Wv i m acc σc H->(J.stop i H/\R acc σc H)\/(J.go i H/\∀x H',J.yld i H x H'->g x σc H' fun σ2 H2=>tt σ2 H2 fun b H3 =>
   if b=true then te σ2 H3 fun y H4=>H4 D=some (.lst acc)/\acc.length<sizeLine/\∃m',m'<m/\Wv (i+1) m' (acc++[y]) σ2 (upd H4 D (.lst (acc++[y])))else ∃m',m'<m/\Wv (i+1) m' acc σ2 H3)
section
variable{Y:Cx}{elt t1 i1 t2 i2:Expr}{f1 f2:List Expr}{scope:Scope}{pos:Pos}{wi:TI}{g:TG}{tt:TT}{te:TE}{D:Addr}
theorem Ap(hc:Y.calm=true)(hx:Y.xe=fun _ _=>False)(hi:PI Y t2 i2 wi)(hg:PG Y t2 g)(ht:HQ Y f2 tt)(he:PE Y elt te){acc:List V}{R:List V->St->Hp->Prop}{Rp:IW->Prop}
 (I:Inv Y pins σ H s)(q:Gc wi g tt te D acc σ H R)(fin:∀acc σ5 H5 s5,Inv Y pins σ5 H5 s5->R acc σ5 H5->Rp s5) :
 Jn (Jv Y.prog Y.w) Y.A (eval i2 Y.env) (fun x s₅=>Jn (Jv Y.prog Y.w) Y.A (Pe x) (fun y s₆=>Lo (Jv Y.prog Y.w) Y.A (.compStart (GU elt t1 i1 f1 t2 i2 f2 scope pos) 1 y (.ref D) Y.env) (fun r s₇=>r = .ok .next/\Rp s₇) s₆) (fun _ _=>False) s₅) (fun _ _=>False) s:=by
 have hi':=hi pins s σ H _ I q;rw[hx]at hi';refine FX hi' fun v s1 h1=>FX h1 fun itv s2 h2=>?_;obtain⟨it,fp,tn,J,H2,e,I2,T,st2,f2',Wv,⟨m0,w0⟩,turn⟩:=h2;subst e;have stat:∀{H':Hp},(∀b∈fp,H' b=none)->∀b∈fp,j_ Y pins H' b:=fun hn b hb=>⟨hn b hb,(f2' b hb).2⟩
 have loop:Lo (Jv Y.prog Y.w) Y.A (.compLoop (GU elt t1 i1 f1 t2 i2 f2 scope pos) 1 (.ref it) (.ref D) Y.env) (fun r s₇=>r = .ok .next/\Rp s₇) s2:=by
  refine xi (fun n s'=>∃i acc σ' H',Inv Y pins σ' H' s'/\tn i s'.heap/\(∀b∈fp,H' b=none)/\Wv i n acc σ' H') ?_ m0 ⟨0,acc,σ,H2,I2,st2,fun b hb=>(f2' b hb).1,w0⟩;rintro n s4 ⟨i,acc,σ4,H4,I4,st4,fr4,w4⟩;rcases turn i n acc σ4 H4 w4 with⟨stop,qn⟩|⟨go,step⟩
  · exact FX (T.done Y rfl rfl rfl hc i pins s4 σ4 H4 (fun _ _=>False) I4 (stat fr4) st4 stop) fun r s5 ⟨hr,I5⟩=>.inl ⟨hr,rfl,fin acc σ4 H4 s5 I5 qn⟩
  · refine FX (T.item Y rfl rfl rfl hc i pins s4 σ4 H4 (fun _ _=>False) I4 (stat fr4) st4 go) fun r s5 ⟨u,hr,h5⟩=>.inr ⟨u,hr,?_⟩;refine FX h5 fun _ s6 ⟨x,H6,I6,r6,y6,st6,fr6⟩=>?_;have I6':=I6.pinned (stat fr6) (T.obj _ _ st6)
    have again:∀{σ7:St}{H7:Hp}{s7:IW},Inv Y (pins++fB fp s6.heap) σ7 H7 s7->∀{acc':List V}{m':Nat},m'<n->Wv (i+1) m' acc' σ7 H7 ->
     ∃m,m<n/\∃i acc σ' H',Inv Y pins σ' H' s7/\tn i s7.heap/\(∀b∈fp,H' b=none)/\Wv i m acc σ' H':=fun{σ7 H7 s7} I7 {acc' m'} hm w7=>by
     refine⟨m',hm,i+1,acc',σ7,H7,I7.unpinned,T.keep _ _ _ st6 fun b hb o e=>(I7.pin (b,o) (Jm _ (Jm _ (bD hb e)))).1,fun b hb=>?_,w7⟩;obtain⟨o,e,d⟩:=T.obj _ _ st6 b hb;exact(I7.pin (b,o) (Jm _ (Jm _ (bD hb e)))).2.1
    have h7:=hg _ s6 σ4 H6 x u _ I6' r6 (step x H6 y6);rw[hx]at h7;refine FX h7 fun _ s7 ⟨σ7,H7,I7,q7⟩=>?_;have h8:=ht _ s7 σ7 H7 _ I7 q7;rw[hx]at h8;refine FX h8 fun ok s8 ⟨H8,I8,q8⟩=>?_
    cases ok with
    | false =>
      rw[if_neg JB]at q8 ⊢;obtain⟨m',hm,w8⟩:=q8
      exact again I8 hm w8
    | true =>
      rw[if_pos rfl]at q8 ⊢;have h9:=he _ s8 σ7 H8 _ I8 q8;rw[hx]at h9;refine FX h9 fun y s9 ⟨yv,H9,I9,r9,eD,hl,m',hm,w9⟩=>?_;have h10:=eK (X:=Y) _ s9 σ7 H9 (.ref D) [yv] (.ref D) [y] (fun _ H'=>H'=upd H9 D (.lst (acc++[yv]))) I9 rfl (.cons r9 .nil) ⟨D,acc,yv,rfl,rfl,eD,hl,rfl⟩;rw[hx]at h10;exact FX h10 fun _ s10 ⟨_,H10,I10,_,e10⟩=>by subst e10;exact again I10 hm w9
 exact sj loop (T.self Y.A 0 _ _ _ st2 loop)
end
def uC(wi:TI)(fr:List (Option Nat))(g:CompA->TG)(tt:CompA->TT)(wj:CompA->TI)(g2:CompA->TG)(tt2:CompA->TT)(te:CompA->TE):TE:=fun σ H Q=>wi σ H fun J H1=>∀D,H1 D=none->∃Wv:Nat->Nat->List V->St->Hp->Prop,(∃m,Wv 0 m [] (nW fr σ) (upd H1 D (.lst []))) /\
 ∀ (z:CompA) i m acc σc H,Wv i m acc σc H->(J.stop i H/\Q (.ref D) H)\/(J.go i H/\∀x H',J.yld i H x H'->g z x σc H' fun σ2 H2=>tt z σ2 H2 fun b H3 =>
   if b=true then Gc (wj z) (g2 z) (tt2 z) (te z) D acc σ2 H3 fun acc' σ5 H5=>∃m',m'<m/\Wv (i+1) m' acc' σ5 H5 else ∃m',m'<m/\Wv (i+1) m' acc σ2 H3)
section
variable{Y:Cx}{elt t1 i1 t2 i2:Expr}{f1 f2:List Expr}{scope:Scope}{pos:Pos}{wj:TI}{g g2:TG}{tt tt2:TT}{te:TE}{D:Addr}
theorem zO(hc:Y.calm=true)(hx:Y.xe=fun _ _=>False)(hg:PG Y t1 g)(ht:HQ Y f1 tt)(hj:PI Y t2 i2 wj)(hg2:PG Y t2 g2)(ht2:HQ Y f2 tt2)(he:PE Y elt te)(hs:∀x,JE i2 Y.env x=pure x)
 {J:It}{Q:VK}(T:Turn Y.prog Y.w Y.K t1 J fp it tn)(I:Inv Y [] σ H s)(st0:tn 0 s.heap)(fp0:∀b∈fp,H b=none)(stat:∀{H':Hp},(∀b∈fp,H' b=none)->∀b∈fp,j_ Y [] H' b)
 {Wv:Nat->Nat->List V->St->Hp->Prop}{m0:Nat}(w0:Wv 0 m0 [] σ H)
 (turn:∀i m acc σc H,Wv i m acc σc H->(J.stop i H/\Q (.ref D) H)\/(J.go i H/\∀x H',J.yld i H x H'->g x σc H' fun σ2 H2=>tt σ2 H2 fun b H3 =>
  if b=true then Gc wj g2 tt2 te D acc σ2 H3 fun acc' σ5 H5=>∃m',m'<m/\Wv (i+1) m' acc' σ5 H5 else ∃m',m'<m/\Wv (i+1) m' acc σ2 H3)) :
 Lo (Jv Y.prog Y.w) Y.A (.compStart (GU elt t1 i1 f1 t2 i2 f2 scope pos) 0 (.ref it) (.ref D) Y.env) (fun r s5=>r = .ok .next/\∃σ5 H4,Inv Y [] σ5 H4 s5/\Q (.ref D) H4) s:=by
 have loop:Lo (Jv Y.prog Y.w) Y.A (.compLoop (GU elt t1 i1 f1 t2 i2 f2 scope pos) 0 (.ref it) (.ref D) Y.env) (fun r s5=>r = .ok .next/\∃σ5 H4,Inv Y [] σ5 H4 s5/\Q (.ref D) H4) s:=by
  refine xj (fun n s'=>∃i acc σ' H',Inv Y [] σ' H' s'/\tn i s'.heap/\(∀b∈fp,H' b=none)/\Wv i n acc σ' H') hs ?_ m0 ⟨0,[],_,_,I,st0,fp0,w0⟩;rintro n s4 ⟨i,acc,σ4,H4,I4,st4,fr4,w4⟩;rcases turn i n acc σ4 H4 w4 with⟨stop,qn⟩|⟨go,step⟩
  · exact FX (T.done Y rfl rfl rfl hc i [] s4 σ4 H4 (fun _ _=>False) I4 (stat fr4) st4 stop) fun r s5 ⟨hr,I5⟩=>.inl ⟨hr,rfl,σ4,H4,I5,qn⟩
  · refine FX (T.item Y rfl rfl rfl hc i [] s4 σ4 H4 (fun _ _=>False) I4 (stat fr4) st4 go) fun r s5 ⟨u,hr,h5⟩=>.inr ⟨u,hr,?_⟩;refine FX h5 fun _ s6 ⟨x,H6,I6,r6,y6,st6,fr6⟩=>?_;have I6':=I6.pinned (stat fr6) (T.obj _ _ st6)
    have again:∀{σ7:St}{H7:Hp}{s7:IW},Inv Y ([]++fB fp s6.heap) σ7 H7 s7->∀{acc':List V}{m':Nat},m'<n->Wv (i+1) m' acc' σ7 H7 ->
     ∃m,m<n/\∃i acc σ' H',Inv Y [] σ' H' s7/\tn i s7.heap/\(∀b∈fp,H' b=none)/\Wv i m acc σ' H':=fun{σ7 H7 s7} I7 {acc' m'} hm w7=>by
     refine⟨m',hm,i+1,acc',σ7,H7,I7.unpinned,T.keep _ _ _ st6 fun b hb o e=>(I7.pin (b,o) (Jm _ (Jm _ (bD hb e)))).1,fun b hb=>?_,w7⟩;obtain⟨o,e,d⟩:=T.obj _ _ st6 b hb;exact(I7.pin (b,o) (Jm _ (Jm _ (bD hb e)))).2.1
    have h7:=hg _ s6 σ4 H6 x u _ I6' r6 (step x H6 y6);rw[hx]at h7;refine FX h7 fun _ s7 ⟨σ7,H7,I7,q7⟩=>?_;have h8:=ht _ s7 σ7 H7 _ I7 q7;rw[hx]at h8;refine FX h8 fun ok s8 ⟨H8,I8,q8⟩=>?_
    cases ok with
    | false =>
      rw[if_neg JB]at q8 ⊢;obtain⟨m',hm,w8⟩:=q8
      exact again I8 hm w8
    | true =>
      rw[if_pos rfl]at q8 ⊢;exact Ap hc hx hj hg2 ht2 he I8 q8 fun acc' σ9 H9 s9 I9 ⟨m',hm,w9⟩=>again I9 hm w9
 exact Oe loop (T.self Y.A 0 _ _ _ st0 loop)
end
section
variable{X:Cx}{elt t1 i1 t2 i2:Expr}{f1 f2:List Expr}{scope:Scope}{pos:Pos}{wi:TI}{wj:CompA->TI}{g g2:CompA->TG}{tt tt2:CompA->TT}{te:CompA->TE}
theorem nT.get{scope scX:Scope}(hsc:nT scope scX=true):scope.kind = .function/\(∀y∈scope.names,y.2 = .cell->scope.names.lookup y.1=some .cell)/\(∀y∈scope.names,y.2 = .local->scope.names.lookup y.1=some .local) /\
 ∀y∈scope.names,y.2 = .free->scX.names.lookup y.1=some .cell\/scX.names.lookup y.1=some .free:=by
 obtain⟨sk,sn⟩:=Ja.mp hsc;have hall:=Lb.mp sn;refine⟨of_decide_eq_true sk,fun y hy hl=>?_,fun y hy hl=>?_,fun y hy hl=>?_⟩
 · rcases Jr.mp (Ja.mp (Ja.mp (hall y hy)).1).1 with z|z
   · exact absurd hl (of_decide_eq_true z)
   · exact of_decide_eq_true z
 · rcases Jr.mp (Ja.mp (Ja.mp (hall y hy)).1).2 with z|z
   · exact absurd hl (of_decide_eq_true z)
   · exact of_decide_eq_true z
 · rcases Jr.mp (Ja.mp (hall y hy)).2 with z|z
   · exact absurd hl (of_decide_eq_true z)
   · exact(Jr.mp z).imp of_decide_eq_true of_decide_eq_true
theorem pV(N':List Str)(fr:List (Option Nat))(hc:X.calm=true)(hi:PI X t1 i1 wi)(hfr:nI fr N' X.N scope X.env.scope=true)(hsc:nT scope X.env.scope=true)
 (hg:∀y,PG (Hm X N' scope y) t1 (g y))(ht:∀y,HQ (Hm X N' scope y) f1 (tt y))(hj:∀y,PI (Hm X N' scope y) t2 i2 (wj y))(hg2:∀y,PG (Hm X N' scope y) t2 (g2 y))(ht2:∀y,HQ (Hm X N' scope y) f2 (tt2 y))(he:∀y,PE (Hm X N' scope y) elt (te y))
 (hs:∀x,JE i1 X.env x=pure x:=by intro _;rfl)(hs2:∀y x,JE i2 (Hm X N' scope y).env x=pure x:=by intro _ _;rfl):PE X (GU elt t1 i1 f1 t2 i2 f2 scope pos) (uC wi fr g tt wj g2 tt2 te):=by
 intro pins s σ H Q I h;obtain⟨hkind,hcell,hnames,hfree⟩:=nT.get hsc;obtain⟨frl,frg⟩:=nI.get hfr;obtain⟨cl,hclos,cl1,cl2⟩:=cJ (env:=X.env) (scope:=scope) fun y hy hl=>I.ok.has y.1 (hfree y hy hl);rw[eval_ListComp];refine K9 (use:=none) rfl hs hclos hkind hnames (FX (hi pins s σ H _ I h) fun v s1 h1=>FX h1 fun itv s2 h2=>?_);obtain⟨it,fp,tn,J,H2,e,I2,T,st2,f2,q2⟩:=h2;subst e;refine JC ?_;have hD:H2 s2.heap.objs.size=none:=I2.hok.fresh (I_ _)
 have I3:Inv X pins σ (upd H2 s2.heap.objs.size (.lst [])) {s2 with heap:=s2.heap.push {cls:=.type "list", data:=.seq ([]:List IR).toArray}} :=
  I2.laid (t':=s2.toks) (fun b u e=>IQ _ e) (I_ _) ⟨by show 0<=sizeLine;exact Kc _,[],0,.nil,Jf _ rfl⟩
 obtain⟨Wv,⟨m0,w0⟩,turn⟩:=q2 _ hD;have tn3:tn 0 (s2.heap.push {cls:=.type "list", data:=.seq ([]:List IR).toArray}):=T.keep _ _ _ st2 fun b _ o e=>IQ _ e
 have fpD:∀b∈fp,(upd H2 s2.heap.objs.size (.lst [])) b=none:=fun b hb=>by
  obtain⟨o,e,_⟩:=T.obj _ _ st2 b hb;rw[ar (JP (Jd e))];exact(f2 b hb).1
 have fp3:∀b∈fp,b<(s2.heap.push {cls:=.type "list", data:=.seq ([]:List IR).toArray}).objs.size:=fun b hb=>by
  obtain⟨o,e,_⟩:=T.obj _ _ tn3 b hb;exact Jd e
 exact dY N' fr hc hkind hcell hfree frl frg cl1 cl2 I3 T tn3 fpD fp3 (fun b hb=>(f2 b hb).2)
  (fun s' IY tY stat=>zO (Y:=Hm X N' scope ⟨cl,fp,X.pn++pins,_,_⟩) hc rfl (hg ⟨cl,fp,X.pn++pins,_,_⟩) (ht ⟨cl,fp,X.pn++pins,_,_⟩) (hj ⟨cl,fp,X.pn++pins,_,_⟩) (hg2 ⟨cl,fp,X.pn++pins,_,_⟩) (ht2 ⟨cl,fp,X.pn++pins,_,_⟩) (he ⟨cl,fp,X.pn++pins,_,_⟩) (hs2 ⟨cl,fp,X.pn++pins,_,_⟩) T IY tY fpD stat w0 (turn ⟨cl,fp,X.pn++pins,_,_⟩))
  (Rp:=Pr (Jv X.prog X.w) X.A X.xe none (EP X pins σ Q) (.ref s2.heap.objs.size)) fun s5 H4 m hn k _ qn=>⟨m,hn,fun h' hs'=>⟨.ref _,H4,k h' hs',rfl,qn⟩⟩
end
end L2
namespace L2.VL
def sd(ρ0:En)(g:HE)(ft:TB)(fj:En->(List IJ->Prop)->Prop)(g2:HE)(ft2:TB)(fe:TV):List IJ->List IJ->(List IJ->Prop)->Prop
 | [],acc,Q=>Q acc
 | x::xs,acc,Q=>g x ρ0 fun ρ2=>Le ρ0 ρ2/\ft ρ2 fun b=>if b=true then fj ρ2 fun ys=>lG ρ2 g2 ft2 fe ys acc fun acc'=>sd ρ0 g ft fj g2 ft2 fe xs acc' Q else sd ρ0 g ft fj g2 ft2 fe xs acc Q
def oJ(fi:En->(List IJ->Prop)->Prop)(fr:List (Option Nat))(g:HE)(ft:TB)(fj:En->(List IJ->Prop)->Prop)(g2:HE)(ft2:TB)(fe:TV):TV:=fun ρ Q=>fi ρ fun xs=>sd (dX fr ρ) g ft fj g2 ft2 fe xs [] fun ds=>Q (.ml ds)
section
variable{X:Cx}{rl:RlT}{elt t1 i1 t2 i2:Expr}{f1 f2:List Expr}{scope:Scope}{pos:Pos}{fi fj:En->(List IJ->Prop)->Prop}{g g2:HE}{ft ft2:TB}{fe:TV}
theorem tq{N':List Str}{wi:TI}(fr:List (Option Nat))(k0:∀{F₀ H₀ F H:Hp}{σ:St}{ρ:En},VR X.K rl F₀ H₀ F H σ ρ->∀(Qd:List IJ->Prop)(R:It->Hp->Prop),fi ρ Qd ->
 (∀J xs F' H',Grow rl F H F' H'->VIt X.K rl F' J xs->Qd xs->R J H')->wi σ H R)
 (hg:∀y,HZ (Hm X N' scope y) rl t1 g)(ht:∀y,rK (Hm X N' scope y) rl f1 ft)(hj:∀y,HW (Hm X N' scope y) rl t2 i2 fj)(hg2:∀y,HZ (Hm X N' scope y) rl t2 g2)(ht2:∀y,rK (Hm X N' scope y) rl f2 ft2)(he:∀y,PV (Hm X N' scope y) rl elt fe)
 (R:VR X.K rl F₀ H₀ F H σ ρ)(Qd:W->Prop)(Q:VK)(q:oJ fi fr g ft fj g2 ft2 fe ρ Qd)
 (k:∀v w F' H',Grow rl F H F' H'->cY X.K rl F' H' v w->dL H v w->Qd w->Q v H') :
 uC wi fr (fun y=>Jt (hg y)) (fun y=>Jt (ht y)) (fun y=>Jt (hj y)) (fun y=>Jt (hg2 y)) (fun y=>Jt (ht2 y)) (fun y=>Jt (he y)) σ H Q:=by
 refine k0 R _ _ q fun J xs F1 H1 g1 vi q1=>?_;intro D hD;have rD:rl.a≠some D:=fun e=>by obtain⟨o,z⟩:=g1.reel.live e;rw[hD]at z;cases z
 have FD:F1 D=none:=g1.sub.free hD;have gD:Grow rl F1 H1 F1 (upd H1 D (.lst [])):=Grow.laid g1.sub g1.reel hD;have R1:=R.grow g1;have n0:nQ (dX fr ρ):=dH;have keepD:∀{acc:List V}{Fc Hc Fx Hx:Hp},Hc D=some (.lst acc)->Fc D=none->Grow rl Fc Hc Fx Hx->Hx D=some (.lst acc)/\Fx D=none:=fun hDc fDc gx=>⟨gx.same D _ hDc rD,by rw[gx.old D _ hDc];exact fDc⟩
 refine⟨fun i m acc σc Hc=>m=xs.length-i/\i<=xs.length/\∃Fc ds,VR X.K rl F1 H1 Fc Hc σc (dX fr ρ)/\Hc D=some (.lst acc)/\Fc D=none/\Reps X.K Fc acc ds/\sd (dX fr ρ) g ft fj g2 ft2 fe (xs.drop i) ds (fun ds=>Qd (.ml ds)),
  ⟨xs.length,by simp,Kc _,F1,[],fH R1 gD,ax,FD,.nil,by simpa using q1⟩,?_⟩
 rintro z i m acc σc Hc ⟨rfl,hi,Fc,ds,Rc,hDc,fDc,rs,q2⟩;have sH:bE F1 Hc:=Rc.g.fs.trans Rc.sub;by_cases hlt:i<xs.length
 · have ei:xs[i]?=some xs[i]:=by simp[hlt]
   have ed:xs.drop i=xs[i]::xs.drop (i+1):=J1 hlt;rw[ed]at q2;refine .inr ⟨vi.go i Hc _ ei sH,fun v H' y=>?_⟩;obtain⟨Fy,gy,rv⟩:=vi.yld i Hc v H' _ Fc ei Rc.g.fs Rc.sub Rc.reel y;refine(IN (hg z)).2 (Rc.grow gy) v _ _ _ rv q2 fun F3 H3 σ3 ρ3 g3 n3 R3 ⟨le3,q3⟩=>?_;refine(IN (ht z)).2 R3 _ _ q3 fun b F4 H4 g4 q4=>?_;have R4:=R3.grow g4;have g34:=(gy.trans g3).trans g4;have nm3:nQ ρ3:=n3 n0
   cases b with
   | false=>exact⟨xs.length-(i+1),by omega,rfl,hlt,F4,ds,R4.le le3,(keepD hDc fDc g34).1,(keepD hDc fDc g34).2,rs.mono g34.fs,q4⟩
   | true =>
     refine(IN (hj z)).2 R4 _ _ q4 fun J2 ys F5 H5 g5 vi2 q5=>?_;have g35:=g34.trans g5
     refine⟨fun j m acc σe He=>m=ys.length-j/\j<=ys.length/\∃Fe es,VR X.K rl F1 H1 Fe He σe ρ3/\bE F5 Fe/\He D=some (.lst acc)/\Fe D=none/\Reps X.K Fe acc es /\
      lG ρ3 g2 ft2 fe (ys.drop j) es (fun es=>sd (dX fr ρ) g ft fj g2 ft2 fe (xs.drop (i+1)) es (fun ds=>Qd (.ml ds))),
      ⟨ys.length,by simp,Kc _,F5,ds,R4.grow g5,.refl _,(keepD hDc fDc g35).1,(keepD hDc fDc g35).2,rs.mono g35.fs,by simpa using q5⟩,?_⟩
     rintro j m acc2 σe He ⟨rfl,hj',Fe,es,Re,s5,hDe,fDe,res,q6⟩;have sHe:bE F5 He:=s5.trans Re.sub;by_cases hlt2:j<ys.length
     · have ej:ys[j]?=some ys[j]:=by simp[hlt2]
       have edj:ys.drop j=ys[j]::ys.drop (j+1):=J1 hlt2;rw[edj]at q6;refine .inr ⟨vi2.go j He _ ej sHe,fun v2 H2' y2=>?_⟩;obtain⟨Fy2,gy2,rv2⟩:=vi2.yld j He v2 H2' _ Fe ej s5 Re.sub Re.reel y2;refine(IN (hg2 z)).2 (Re.grow gy2) v2 _ _ _ rv2 q6 fun F7 H7 σ7 ρ7 g7 n7 R7 ⟨le7,q7⟩=>?_;refine(IN (ht2 z)).2 R7 _ _ q7 fun b2 F8 H8 g8 q8=>?_;have R8:=R7.grow g8;have g78:=(gy2.trans g7).trans g8
       cases b2 with
       | false=>exact⟨ys.length-(j+1),by omega,rfl,hlt2,F8,es,R8.le le7,s5.trans g78.fs,(keepD hDe fDe g78).1,(keepD hDe fDe g78).2,res.mono g78.fs,q8⟩
       | true =>
         refine(IN (he z)).2 R8 _ _ q8 fun v9 w9 F9 H9 g9 r9 n9 ⟨d,ed9,hl,q9⟩=>?_;obtain⟨F10,g10,s10,r10⟩:=cY.fz g9 r9 n9;rw[ed9]at r10;have g710:=g78.trans g10;refine⟨(keepD hDe fDe g710).1,by rw[res.length];exact hl,ys.length-(j+1),by omega,rfl,hlt2,F10,es++[d],((R8.grow g10).le le7).other nm3 hD (keepD hDe fDe g710).2 rD,s5.trans g710.fs,ax,(keepD hDe fDe g710).2,(res.mono g710.fs).snoc r10,q9⟩
     · have e:j=ys.length:=by omega
       subst e;rw[Lc]at q6;exact .inl ⟨vi2.stop _ He (I_ _) sHe,xs.length-(i+1),by omega,rfl,hlt,Fe,es,Re.le le3,hDe,fDe,res,q6⟩
 · have e:i=xs.length:=by omega
   subst e;rw[Lc]at q2;refine .inl ⟨vi.stop _ Hc (I_ _) sH,k _ (.ml ds) Fc Hc (g1.trans Rc.g) ⟨D,acc,rfl,fDc,rD,hDc,rs⟩ (fun a ea=>by cases ea;exact g1.freeB hD) q2⟩
theorem rW(N':List Str)(fr:List (Option Nat))(hc:X.calm=true)(hi:HW X rl t1 i1 fi)
 (hg:∀y,HZ (Hm X N' scope y) rl t1 g)(ht:∀y,rK (Hm X N' scope y) rl f1 ft)(hj:∀y,HW (Hm X N' scope y) rl t2 i2 fj)(hg2:∀y,HZ (Hm X N' scope y) rl t2 g2)(ht2:∀y,rK (Hm X N' scope y) rl f2 ft2)(he:∀y,PV (Hm X N' scope y) rl elt fe)
 (hfr:nI fr N' X.N scope X.env.scope=true:=by rfl)(hsc:nT scope X.env.scope=true:=by rfl)
 (hs:∀x,JE i1 X.env x=pure x:=by intro _;rfl)(hs2:∀y x,JE i2 (Hm X N' scope y).env x=pure x:=by intro _ _;rfl):PV X rl (.ListComp elt [⟨t1,i1,f1,0⟩,⟨t2,i2,f2,0⟩] scope pos) (oJ fi fr g ft fj g2 ft2 fe):=by
 obtain⟨wi,p0,k0⟩:=hi
 exact⟨_,pV N' fr hc p0 hfr hsc (fun y=>(IN (hg y)).1) (fun y=>(IN (ht y)).1) (fun y=>(IN (hj y)).1) (fun y=>(IN (hg2 y)).1) (fun y=>(IN (ht2 y)).1) (fun y=>(IN (he y)).1) hs hs2,
  fun R Qd Q q k=>tq fr k0 hg ht hj hg2 ht2 he R Qd Q q k⟩
end
def uW(ρ0:En)(g:HE)(ft:TB)(fj:En->(List IJ->Prop)->Prop)(g2:HE)(ft2:TB)(fe:TV)(x:IJ)(acc:List IJ):Mo (List IJ) :=
 Hl (g x ρ0) fun ρ2=>G6 (Le ρ0 ρ2) (Hl (ft ρ2) fun b=>if b=true then Hl (fj ρ2) fun ys=>ce (GW ρ2 g2 ft2 fe) ys acc else ret acc)
def eU(b:IJ->List IJ->Mo (List IJ)):List IJ->List IJ->Mo (List IJ)
 | [],acc=>ret acc
 | x::xs,acc=>Hl (b x acc) (eU b xs)
theorem mF(ρ0:En)(g:HE)(ft:TB)(fj:En->(List IJ->Prop)->Prop)(g2:HE)(ft2:TB)(fe:TV):∀(xs acc:List IJ),sd ρ0 g ft fj g2 ft2 fe xs acc=eU (uW ρ0 g ft fj g2 ft2 fe) xs acc
 | [],acc=>rfl
 | x::xs,acc=>by
   refine ag fun Q=>?_;show(g x ρ0 fun ρ2=>Le ρ0 ρ2/\ft ρ2 fun b=>if b=true then fj ρ2 fun ys=>lG ρ2 g2 ft2 fe ys acc fun acc'=>sd ρ0 g ft fj g2 ft2 fe xs acc' Q else sd ρ0 g ft fj g2 ft2 fe xs acc Q)↔(Hl (uW ρ0 g ft fj g2 ft2 fe x acc) (eU (uW ρ0 g ft fj g2 ft2 fe) xs)) Q;simp only[mF ρ0 g ft fj g2 ft2 fe xs,i5]
   have:∀(ρ2:En)(b:Bool),(if b=true then fj ρ2 fun ys=>ce (GW ρ2 g2 ft2 fe) ys acc fun acc'=>eU (uW ρ0 g ft fj g2 ft2 fe) xs acc' Q else eU (uW ρ0 g ft fj g2 ft2 fe) xs acc Q)
    = (Hl (if b=true then Hl (fj ρ2) fun ys=>ce (GW ρ2 g2 ft2 fe) ys acc else ret acc) (eU (uW ρ0 g ft fj g2 ft2 fe) xs)) Q:=by
    intro ρ2 b;cases b<;>rfl
   simp only[this];exact MS
theorem m_comp2(fi:En->(List IJ->Prop)->Prop)(fr:List (Option Nat))(g:HE)(ft:TB)(fj:En->(List IJ->Prop)->Prop)(g2:HE)(ft2:TB)(fe:TV)(ρ:En) :
 oJ fi fr g ft fj g2 ft2 fe ρ=Hl (fi ρ) fun xs=>Hl (eU (uW (dX fr ρ) g ft fj g2 ft2 fe) xs []) fun ds=>ret (.ml ds):=by
 refine ag fun Q=>?_;show(fi ρ fun xs=>sd (dX fr ρ) g ft fj g2 ft2 fe xs [] fun ds=>Q (.ml ds))↔_;simp only[mF];exact MS
section
variable{α β:Type}{b:IJ->Mo (Option IJ)}
theorem lj{c:IJ->List IJ->Mo (List IJ)}{xs:List α}{enc:α->IJ}(F:α->List IJ)(h:∀x∈xs,∀acc:List IJ,acc.length+(F x).length<=sizeLine->c (enc x) acc=ret (acc++F x)) :
 ∀acc:List IJ,acc.length+(xs.flatMap F).length<=sizeLine->eU c (xs.map enc) acc=ret (acc++xs.flatMap F):=by
 induction xs with
 | nil=>intro acc _;show ret acc=_;simp
 | cons x xs ih =>
   intro acc hl;rw[Li,JQ]at hl;show Hl (c (enc x) acc) _=_;rw[h x IS acc (by omega),bnd_ret,ih (fun y my=>h y (IM _ my)) (acc++F x) (by rw[JQ];omega),Li,NT]
theorem CA{γ:Type}{c:IJ->List IJ->Mo (List IJ)}{k:List IJ->Mo γ}{Q:γ->Prop}{xs:List α}{enc:α->IJ}(F:α->List IJ)(hx:xs'=xs.map enc)
 (h:∀x∈xs,∀acc:List IJ,acc.length+(F x).length<=sizeLine->c (enc x) acc=ret (acc++F x))(hl:(xs.flatMap F).length<=sizeLine)(fin:k (xs.flatMap F) Q):Hl (eU c xs' []) k Q:=by
 subst hx;rw[lj F h [] (by simpa using hl),bnd_ret];simpa using fin
end
def II:=IL @m_comp2 (@bnd_ret)
section
variable{X:Cx}{rl:RlT}{a b c o e:Expr}{es:List Expr}{fa fb:TV}{fs:HA}{pos p apos cpos:Pos}{ρ:En}
end
end L2.VL
namespace L2
theorem dh:OD (.type "tuple") (dunderI "add")=pure none:=by
 have e:dunderI "add" = "__iadd__" := by decide
 rw[e,MH,Lz];kernel_rfl
section
variable{prog:Ju}{w:J_}{A:Kh}{E:IR->IW->Prop}{s:IW}
theorem dm{T id:String}{B:Builtin}{a b:IR}{S:PySem.Spec}(ha:s.TypeIs a T)(hb:s.TypeIs b T)(hno:OD (.type T) (dunderI "add")=pure none)
 (hfill:fillsNumberSlot (.type T) "add" = pure false)(hseq:seqSlot? (.type T) "__add__" = pure (some (.builtin id)))(slot:Slot T "__add__" id)
 (entry:entryFor table id=some B)(args:argsOk id ⟨[a,b],[]⟩)(g:Meets (B ⟨[a,b],[]⟩) S)(h:S A (wants Q E) s):Jn (Jv prog w) A (Pt .Add a b) Q E s :=
 wpAny_inplaceOp_concat ha hb hno hfill hseq (MR slot ha entry args g h)
theorem tH{b:Addr}{vs ws:List IR}(ht:Oh s.heap t vs.toArray)(hb:Oh s.heap b ws.toArray)(hv:vs≠[])
 (h1:ws=[]->Q (.ref t) s)(h2:ws≠[]->Q (.ref s.heap.objs.size) {s with heap:=s.heap.push {cls:=.type "tuple", data:=.seq (vs++ws).toArray}})
 (hsz:vs.length+ws.length<=sizeLine):Jn (Jv prog w) A (Pt .Add (.ref t) (.ref b)) Q E s:=by
 obtain⟨⟨cls,dd,data,sl⟩,ho,hc,n,hd⟩:=id ht;obtain⟨⟨cls2,dd2,data2,sl2⟩,ho2,hc2,n2,hd2⟩:=id hb;simp only at hc hd hc2 hd2;subst hc hd hc2 hd2;have e:vs.toArray++ws.toArray=(vs++ws).toArray:=by simp
 by_cases hw:ws=[]
 · exact dm ⟨_,ho,rfl⟩ ⟨_,ho2,rfl⟩ dh LX MB K3 KP (KJ _ _)
     (tuple_addW1 t b vs.toArray ws.toArray n n2 dd dd2 sl sl2 (by simpa using hv) (by simp[hw])) ⟨ho,ho2,h1 hw⟩
 · refine dm ⟨_,ho,rfl⟩ ⟨_,ho2,rfl⟩ dh LX MB K3 KP (KJ _ _)
     (tuple_addW2 t b vs.toArray ws.toArray n n2 dd dd2 sl sl2 (by simpa using hv) (by simpa using hw) (by rw[Je,Je];exact hsz)) ⟨ho,ho2,?_⟩
   rw[e];exact h2 hw
end
section
variable{X:Cx}
theorem xq:HV X .Add (wA X.K):=by
 intro pins s σ H x y v u Q I rx ry h;rcases h with h|h
 · obtain⟨a,b,xs,ys,rfl,rfl,ha,hb,hx,hz,q1,q2⟩:=h;cases rx;cases ry;obtain⟨its,r1,p1,_⟩:=I.tuple ha;obtain⟨its2,r2,p2,_⟩:=I.tuple hb;refine tH p1 p2 (fun z=>hx (r1.nil_iff.mp z)) (fun z=>⟨.ref a,H,I,rfl,q1 (r2.nil_iff.mp z)⟩) (fun z=>?_) (by rw[<- r1.length,<- r2.length];exact hz);refine⟨.ref s.heap.objs.size,_,I.laid (t':=s.toks) (o:=.tup (xs++ys)) (fun b ob q=>IQ _ q) (I_ _) ?_,rfl,q2 (fun w=>z (r2.nil_iff.mpr w)) _ (I.hok.fresh (I_ _))⟩;exact⟨by rw[JQ];exact hz,_,r1.append r2,rL.new _ _⟩
 · obtain⟨a,b,ys,rfl,rfl,ha,hb,q⟩:=h;cases rx;cases ry;obtain⟨its,r1,p1,_⟩:=I.tuple ha;obtain⟨its2,r2,p2,_⟩:=I.tuple hb;cases r1;obtain⟨⟨c1,d1,e1,sl1⟩,ho,hc,n,hd⟩:=p1;obtain⟨⟨c2,d2,e2,sl2⟩,ho2,hc2,n2,hd2⟩:=p2;cases hc;cases hd;cases hc2;cases hd2
   exact dm ⟨_,ho,rfl⟩ ⟨_,ho2,rfl⟩ dh LX MB K3 KP (KJ _ _)
    (tuple_addW0 a b _ its2.toArray n n2 d1 d2 sl1 sl2 rfl) ⟨ho,ho2,⟨.ref b,H,I,rfl,q⟩⟩
end
end L2
namespace L2.VL
section
variable{X:Cx}{rl:RlT}{e:Expr}{fa:TV}{pos:Pos}{ρ:En}
def vU(i:Nat)(fa:TV):HB:=fun D ρ=>∃xs,ρ[i]?=some (some (.d (.tuple xs)))/\fa ρ fun w=>∃ys,w = .d (.tuple ys)/\xs.length+ys.length<=sizeLine/\D.nx (ρ.set i (some (.d (.tuple (xs++ys)))))
theorem vB(i:Nat){x:Str}(hN:X.N.Nodup)(he:PV X rl e fa)(hi:X.N[i]?=some x:=by rfl)(hx:Loc X.env.scope x:=by first|exact Kz rfl|exact J0 rfl)
 (hf:X.fn x=true\/X.env.scope.names.lookup x=some .local:=by first|exact .inl rfl|exact .inr rfl):HS X rl (.AugAssign (.Name x pos') .Add e pos) (vU i fa):=by
 obtain⟨t,p,k⟩:=he;refine⟨_,uJ hN hi hx p xq hf,fun{F₀ H₀ F H σ ρ} R Dv D ok ⟨xs,e1,q⟩=>?_⟩;obtain⟨v,s1,r1,_⟩:=R.sl i _ e1;refine⟨_,s1,k R _ _ q fun v2 w2 F1 H1 g1 r2 n1 ⟨ys,ew,hz,q1⟩=>?_⟩;subst ew;have R1:=R.grow g1;refine oh (wx:=.d (.tuple xs)) (wy:=.d (.tuple ys)) (fun w=>w = .d (.tuple (xs++ys))) _ g1.sub R1.reel (r1.grow g1) r2 ⟨xs,ys,rfl,rfl,hz,rfl⟩ fun v' w' F2 H2 g2 r' n' ew=>?_;subst ew;exact ok.nx _ _ _ _ (g1.fs.trans g2.fs) (R1.set g2 r' n' (fun _ z=>by cases z) i) q1
noncomputable def Gn(ρ:En)(i:Nat):Option (List IJ):=((ρ[i]?).join).bind Hq
theorem y8{n:List IJ}:Gn ρ i=some n↔ρ[i]?=some (some (.d (.tuple n))):=by
 unfold Gn
 cases h:ρ[i]? with
 | none=>simp
 | some o=>cases o with
   | none=>simp
   | some w=>simp[io]
theorem uG(i:Nat):mS (vU i fa) ρ=aQ (Gn ρ i) fun n=>Hl (fa ρ) fun w=>aQ (Hq w) fun m=>G6 (n.length+m.length<=sizeLine) (ret (.nx (ρ.set i (some (.d (.tuple (n++m))))))):=by
 refine ag fun Q=>?_;simp only[mS,vU,Hl,aq,y8,io,G6,ret]
end
section
variable{X:Cx}{rl:RlT}{a b e:Expr}{fa fb:TV}{pos:Pos}{ρ:En}
end
end L2.VL
namespace L2
section
variable{X:Cx}
end
end L2
namespace L2.VL
section
variable{X:Cx}{rl:RlT}{a e:Expr}{fs:HA}{pos p:Pos}
end
end L2.VL
namespace L2.ZP
section
variable{prog:Ju}{w:J_}{A:Kh}{E:IR->IW->Prop}{s:IW}{z it a:Addr}{k:Nat}{xs:Array IR}{x p:IR}{b:Bool}
abbrev e2(h:Heap)(b:Bool)(a:Addr):Heap:=(y1 h b a).push {cls:=.type "enumerate", data:=.fields #[.none,.bool false,.ref h.objs.size,ML 0,.none,.none]}
theorem tW(b:Bool)(a:Addr)(o:Obj)(xs:Array IR)(hr:∀h:Heap,h.get? a=some o->HJ b h a xs) :
 Meets (Builtin.«enumerate.__new__» ⟨[.type "enumerate", .ref a],[]⟩) (fun _ R s=>s.heap.get? a=some o/\R (.ok (.ret (.ref (y1 s.heap b a).objs.size))) {s with heap:=e2 s.heap b a}) :=
 .of_wp fun prog w A R s h=>by
  obtain⟨hp,g,d,tk,os⟩:=s;obtain⟨l0,h⟩:=h;have hsub:=sub_enumerate;have k1:HJ b (PF ⟨hp,g,d,tk,os⟩) a xs:=hr _ l0
  wp_walk using Mw l0
  refine wpAny_stack_any fun st=>IU ?_;split
  · rename_i c _ _ _ _ _;cases(c==IR.type "enumerate")<;>(wp_walk using Mw l0,tE k1;exact⟨_,rfl,h⟩)
  · wp_walk using Mw l0,tE k1
    exact⟨_,rfl,h⟩
theorem HJ.obj(q:HJ b h a xs):∃o,h.get? a=some o/\∀h':Heap,h'.get? a=some o->HJ b h' a xs:=by
 cases b with
 | true=>obtain⟨o,h1,r⟩:=(show h.IsTuple a xs from q);exact⟨o,h1,fun h' e=>⟨o,e,r⟩⟩
 | false=>obtain⟨o,h1,r⟩:=(show h.IsList a xs from q);exact⟨o,h1,fun h' e=>⟨o,e,r⟩⟩
theorem rh(q1:HJ b s.heap a xs)
 (done:∀g,PM g (s.heap.objs.size+1) s.heap.objs.size 0 .none->Iu g s.heap.objs.size a xs 0->g.objs.size=s.heap.objs.size+2->(∀c o,s.heap.get? c=some o->g.get? c=some o)->Q (.ref (s.heap.objs.size+1)) {s with heap:=g}) :
 Jn (Jv prog w) A (call (.type "enumerate") [.ref a]) Q E s:=by
 obtain⟨o,h1,hr⟩:=q1.obj;refine Pk F.called_enumerate (by decide) (F.typeCall_enumerate_1 _) (F.newCall_enumerate_1 _) (fun u=>F.args_object_init_2 u _) F.entry_enumerate_new (tW b a o xs hr) ⟨h1,?_⟩;have n1:(y1 s.heap b a).objs.size=s.heap.objs.size+1:=KB ..;have n2:(e2 s.heap b a).objs.size=s.heap.objs.size+2:=by rw[KB,n1]
 have pu:∀{h:Heap}{o u:Obj}{c:Addr},h.get? c=some u->(h.push o).get? c=some u:=fun e=>IQ _ e;have kp:∀c o,s.heap.get? c=some o->(e2 s.heap b a).get? c=some o:=fun c o e=>pu (pu e);have f2:(e2 s.heap b a).get? (y1 s.heap b a).objs.size=some _:=Jf _ rfl;have f1:(e2 s.heap b a).get? s.heap.objs.size=some _:=pu (Jf _ rfl);show _/\_;rw[n1]at f2;rw[n1]
 have mk:Iu (e2 s.heap b a) s.heap.objs.size a xs 0:=by
  have e:=hr _ (kp _ _ h1)
  cases b with
  | true=>exact .inr ⟨⟨_,f1,rfl,rfl⟩,e⟩
  | false=>exact .inl ⟨⟨_,f1,rfl,rfl⟩,e⟩
 exact⟨⟨_,f2,rfl⟩,done _ f2 mk n2 kp⟩
theorem xE(oz:PM s.heap z it k p)(s1:Iu s.heap it a xs k)(ex:xs[k]?=some x)(ne:z≠it)(nz:a≠z)(ni:a≠it)
 (done:∀g,IsEnumOut g z it ((k:Int)+1) x s.heap.objs.size->Iu g it a xs (k+1)->g.get? s.heap.objs.size=some {cls:=.type "tuple", data:=.seq #[.int k s.toks,x]}->g.objs.size=s.heap.objs.size+1 ->
  (∀b o,b≠z->b≠it->s.heap.get? b=some o->g.get? b=some o)->Q (.ref s.heap.objs.size) {s with heap:=g,toks:=s.toks+1}) :
 Jn (Jv prog w) A (Builtin.«enumerate.__next__» ⟨[.ref z],[]⟩) (fun r s'=>∃u,r = .done (.ret u)/\Q u s') E s:=by
 show Jn _ _ (do let c <- PD (.ref z) 2;_) _ _ _;refine IK (JM oz rfl (x:=.ref it) rfl ?_);refine IK (s1.item ni ex fun g1 s1a b1=>?_);have z1:PM g1 z it k p:=b1.extBut _ _ ne oz;show Jn _ _ (do let c <- PD (.ref z) 3;_) _ _ _;refine IK (JM z1 rfl (x:=ML k) rfl ?_);show Jn _ _ (do let c <- PD (.ref z) 4;_) _ _ _;refine IK (JM z1 rfl (x:=.none) rfl ?_);show Jn _ _ (do let c <- mkInt k;_) _ _ _;refine IK (PL ?_);show Jn _ _ (do setField (.ref z) 3 (ML ((k:Int)+1));_) _ _ _;refine IK (Kg z1 (by simp) fun g2 z2 b2=>?_);have z2:PM g2 z it ((k:Int)+1) p:=z2;show Jn _ _ (do setField (.ref z) 4 .none;_) _ _ _;refine IK (Kg z2 (by simp) fun g3 z3 b3=>?_);have z3:PM g3 z it ((k:Int)+1) p:=z3;have size:g3.objs.size=s.heap.objs.size:=by rw[b3.1,b2.1,b1.1]
 have s3:Iu g3 it a xs (k+1):=(s1a.keep (SameBut.keep b2 ne.symm) (SameBut.keep b2 nz)).keep (SameBut.keep b3 ne.symm) (SameBut.keep b3 nz);have k3:∀b o,b≠z->b≠it->s.heap.get? b=some o->g3.get? b=some o:=fun b o n1 n2 e=>b3.extBut _ _ n1 (b2.extBut _ _ n1 (b1.extBut _ _ n2 e));have zl:z<g3.objs.size:=Jd z3;show Jn _ _ (do let c <- newTuple [.int k s.toks,x];_) _ _ _;refine IK (wpAny_newTuple ?_);have z4:PM (g3.push {cls:=.type "tuple", data:=.seq #[.int k s.toks,x]}) z it ((k:Int)+1) p:=IQ _ z3;show Jn _ _ (do let c <- J3 (.ref z);_) _ _ _;refine IK ?_;unfold J3;refine IK (JM z4 rfl (x:=LZ) rfl (IU ?_));simp only[if_true];refine IK (Mc (IK (JM z4 rfl (x:=p) rfl (IK (Kg z4 (by simp) fun g5 z5 b5=>?_)))));have z5:PM g5 z it ((k:Int)+1) x:=z5;show Jn _ _ (do KH (.ref z) (.ref g3.objs.size);_) _ _ _;refine IK ?_;unfold KH;refine IK (Kg z5 (by simp) fun g6 z6 b6=>?_);have z6:IsEnumOut g6 z it ((k:Int)+1) x g3.objs.size:=z6;refine Kg z6 (by simp) fun g7 z7 b7=>?_;have z7:IsEnumOut g7 z it ((k:Int)+1) x g3.objs.size:=z7;have up:∀b o,b≠z->g3.get? b=some o->g7.get? b=some o:=fun b o n e=>b7.extBut _ _ n (b6.extBut _ _ n (b5.extBut _ _ n (IQ _ e)))
 have t7:g7.get? g3.objs.size=some {cls:=.type "tuple", data:=.seq #[.int k s.toks,x]} :=
  b7.extBut _ _ (L4 zl) (b6.extBut _ _ (L4 zl) (b5.extBut _ _ (L4 zl) (Jf _ rfl)))
 have l7:g7.objs.size=g3.objs.size+1:=by rw[b7.1,b6.1,b5.1,KB]
 rw[size]at z7 t7 l7;refine IK (OU (IU ⟨_,rfl,?_⟩));show Q (.ref g3.objs.size) _;rw[size];exact done g7 z7 (s3.keep (fun o e=>up _ o ne.symm e) fun o e=>up _ o nz e) t7 l7 fun b o n1 n2 e=>up b o n1 (k3 b o n1 n2 e)
end
end L2.ZP
namespace L2
open PySem PySem.Spec PyProof.Rows L2.ZP
def Ip(K:W.Frag)(b:Bool)(a:Addr):It :=
 ⟨fun i H=>∃xs x,HI b K H a xs/\xs[i]?=some x,
  fun i H v H'=>∃x p,(∀xs,HI b K H a xs->xs[i]?=some x)/\H p=none/\v = .ref p/\H'=upd H p (.tup [.int i,x]),
  fun i H=>∃xs,HI b K H a xs/\xs.length<=i⟩
def ES(b:Bool)(z it a:Addr)(i:Nat)(h:Heap):Prop:=(∃p,PM h z it i p)/\Iv b h it a i
theorem oP{K:W.Frag}{elts:List Expr}{kt:Nat}{pt:Pos}(b:Bool)(z it a:Addr)(ne:z≠it)(nz:a≠z)(ni:a≠it) :
 Turn P w K (.Tuple elts kt pt) (Ip K b a) [z,it] z (ES b z it a) where
 mem:=by simp
 obj:=fun i h ⟨⟨p,h1⟩,h4⟩ c hb=>by
  simp at hb;rcases hb with rfl|rfl
  · exact⟨_,h1,fun v c=>by cases c⟩
  · exact h4.obj
 keep:=fun i h h' ⟨⟨p,h1⟩,h4⟩ k=>⟨⟨p,k z (by simp) _ h1⟩,h4.keep fun o e=>k it (by simp) o e⟩
 item:=by
  intro X hP hw hK hc i pins s σ H E I hf st hg;subst hP hw hK;obtain⟨⟨p,h1⟩,h4⟩:=st;obtain⟨xs,x,q1,ex⟩:=hg;obtain⟨its,r1,t1⟩:=I.sqB q1;obtain⟨u,hu,ru⟩:=r1.get ex;have ty:s.TypeIs (.ref z) "enumerate" := ⟨_,h1,rfl⟩;unfold Ni
  refine IK (Mh (JG (name:=Str.ofString "__next__") ty F.slot_enumerate_next (Kd F.slot_enumerate_next ty F.entry_enumerate_next
   (xE h1 (h4.it1 t1) (by simpa using hu) ne nz ni fun g e1 e3 e5 e6 e7=>IU ?_) (F.args_enumerate_next_1 _))))
  have hz:s.heap.objs.size≠z:=L4 (Jd h1);refine⟨.ref s.heap.objs.size,rfl,wpAny_letOwnedTupleGo_enum e1 fun g' f1 fb=>?_⟩;have hp:H s.heap.objs.size=none:=I.hok.fresh (I_ _)
  have I1:Inv X pins σ (upd H s.heap.objs.size (.tup [.int i,x])) {s with heap:=s.heap.push {cls:=.type "tuple", data:=.seq [.int i s.toks,u].toArray},toks:=s.toks+1} :=
   I.laid (t':=s.toks+1) (o:=.tup [.int i,x]) (fun b ob e=>IQ _ e) (I_ _) ⟨(by show 2<=sizeLine;decide),[.int i s.toks,u],.cons ⟨_,rfl⟩ (.cons ru .nil),rL.new _ _⟩
  have ne':∀b∈[z,it],b≠s.heap.objs.size:=fun b hb e=>by
   simp at hb;rcases hb with rfl|rfl
   · exact hz e.symm
   · obtain⟨o,ho,_⟩:=h4.obj;exact absurd (Jd ho) (by rw[e];exact Ku _)
  have kg:∀b o,b∉[z,it]->(s.heap.push {cls:=.type "tuple", data:=.seq [.int i s.toks,u].toArray}).get? b=some o->g'.get? b=some o:=fun b o hb e=>by
   simp at hb;obtain⟨n1,n2⟩:=hb;refine fb.extBut _ _ n1 ?_;by_cases hbn:b=s.heap.objs.size
   · subst hbn;rw[Jf _ rfl]at e;cases e;exact e5
   · exact e7 b o n1 n2 (by rw[Heap.get?_push_ne _ _ _ hbn]at e;exact e)
  have fp1:∀b∈[z,it],j_ X pins (upd H s.heap.objs.size (.tup [.int i,x])) b:=fun b hb=>by
   obtain⟨f0,fr⟩:=hf b hb;exact⟨by rw[ar (ne' b hb)];exact f0,fr⟩
  have I2:Inv X pins σ (upd H s.heap.objs.size (.tup [.int i,x])) {s with heap:=g',toks:=s.toks+1}:=I1.turnedL (t':=s.toks+1) kg fp1;have k8:∀b o,b≠z->g.get? b=some o->g'.get? b=some o:=fun b o n e=>fb.extBut _ _ n e;have t1':HJ b g a its.toArray:=HJ.of t1 fun o e=>e7 _ o nz ni e;refine⟨.ref s.heap.objs.size,_,I2,rfl,⟨x,_,fun xs' q'=>by rw[I.sqB_inj q' q1];exact ex,hp,rfl,rfl⟩,⟨⟨_,by simpa using f1⟩,(Iu.ir e3 h4 t1').keep fun o e=>k8 _ o ne.symm e⟩,fun b hb=>(fp1 b hb).1⟩
 done:=by
  intro X hP hw hK hc i pins s σ H E I hf st hg;subst hP hw hK;obtain⟨⟨p,h1⟩,h4⟩:=st;obtain⟨xs,q1,ex⟩:=hg;obtain⟨its,r1,t1⟩:=I.sqB q1;have l1:=r1.length;have ty:s.TypeIs (.ref z) "enumerate" := ⟨_,h1,rfl⟩;unfold Ni;refine IK (Mh (JG (name:=Str.ofString "__next__") ty F.slot_enumerate_next (Kd F.slot_enumerate_next ty F.entry_enumerate_next ?_ (F.args_enumerate_next_1 _))));show Jn _ _ (do let c <- PD (.ref z) 2;_) _ _ _;refine IK (JM h1 rfl (x:=.ref it) rfl ?_);refine IK ((h4.it1 t1).fin (I.ok.hd hc) (by simp;omega) fun g e kg ⟨o,ho,hoc⟩=>?_);refine IK (M6 (T := "StopIteration") (b:=true) ⟨o,ho,hoc⟩ OL (IU ⟨rfl,?_⟩));exact I.turnedL (t':=s.toks) (fun b o hb e=>by simp at hb;exact kg b o hb.2 e) hf
 self:=fun _ _ _ _ _ st h=>by
  obtain⟨⟨p,h1⟩,_⟩:=st;exact wpAny_pyIter_enum h1 h
section
variable{X:Cx}{e1:Expr}{ta:TA}{elts:List Expr}{kt:Nat}{pt p pos:Pos}
def EQ(K:W.Frag)(b:Bool)(t:TA):TI:=fun σ H R=>t σ H fun vs H1=>∃a xs,vs=[.ref a]/\HI b K H1 a xs/\R (Ip K b a) H1
theorem wM(b:Bool)(hg:Gl X "enumerate")(hm:X.mg "enumerate" = none)(ha:PA X [e1] ta)(hs:IZ [e1] X.env=(false,eval e1 X.env)::IZ [] X.env:=by rfl)(hpl:(KC pos (IZ [] X.env)).any (·.1)=false:=by rfl) :
 PI X (.Tuple elts kt pt) (.Call (.Name "enumerate" p) [e1] [] pos) (EQ X.K b ta):=by
 intro pins s σ H R I h;refine Call_ (fD I hg hm (by rfl) (Ke (FX (ha pos pins s σ H _ I h) fun us s1 ⟨vs,H1,I1,r1,q1⟩=>?_) hs hpl) (by decide) (by decide));obtain⟨a,xs,ev,q1,q⟩:=q1;subst ev
 cases r1 with
 | cons r rr =>
   cases rr;cases r;obtain⟨its,v1,t1⟩:=I1.sqB q1;refine rh t1 fun g f1 f4 f6 kp=>wpAny_pyIter_enum f1 ?_
   have l1:a<s1.heap.objs.size:=by
    obtain⟨o,ho,_⟩:=t1.obj;exact Jd ho
   have I2:Inv X pins σ H1 {s1 with heap:=g}:=I1.kept (t':=s1.toks) kp
   have ir:Iv b g s1.heap.objs.size a 0:=by
    have r':=HJ.of t1 fun o e=>kp _ o e
    cases b with
    | true =>
      rcases f4 with⟨_,⟨o,e,c,_⟩⟩|⟨q,_⟩
      · obtain⟨o',e',c',_⟩:=(show g.IsTuple a _ from r');rw[e]at e';cases e';rw[c]at c';injection c' with z;exact absurd z (by decide)
      · exact q
    | false =>
      rcases f4 with⟨q,_⟩|⟨_,⟨o,e,c,_⟩⟩
      · exact q
      · obtain⟨o',e',c',_⟩:=(show g.IsList a _ from r');rw[e]at e';cases e';rw[c]at c';injection c' with z;exact absurd z (by decide)
   refine⟨_,[s1.heap.objs.size+1,s1.heap.objs.size],_,_,H1,rfl,I2,oP b _ _ a (by simp) (JP (Nat.lt_succ_of_lt l1)) (JP l1),⟨⟨_,f1⟩,ir⟩,fun b hb=>?_,q⟩
   have hb':s1.heap.objs.size<=b:=by
    simp at hb;rcases hb with rfl|rfl
    · exact Mq _ 1
    · exact I_ _
   exact I1.fpOk hb' (I1.hok.fresh hb')
end
end L2
namespace L2.VL
section
variable{X:Cx}{rl:RlT}{a:Expr}{elts:List Expr}{kt:Nat}{pt p pos:Pos}{fs:HA}
noncomputable def gC(xs:List IJ):List IJ:=xs.zipIdx.map fun z=>.tuple [.int (z.2:Nat),z.1]
theorem jL(h:(gC xs)[i]?=some d):∃x,xs[i]?=some x/\d = .tuple [.int (i:Nat),x]:=by
 unfold gC at h;rw[JW,List.getElem?_zipIdx]at h
 cases ex:xs[i]? with
 | none=>rw[ex]at h;cases h
 | some x=>rw[ex]at h;simp at h;exact⟨x,rfl,h.symm⟩
def G5(b:Bool)(fs:HA):En->(List IJ->Prop)->Prop:=fun ρ Q=>fs ρ fun ws=>∃dx xs,ws=[.d dx]/\d_ dx=some xs/\dw dx=b/\Q (gC xs)
theorem vI(b:Bool)(hm:X.mg "enumerate" = none)(ha:HN X rl [a] fs)(hg:Gl X "enumerate" := by rfl)(hs:IZ [a] X.env=(false,eval a X.env)::IZ [] X.env:=by rfl)(hpl:(KC pos (IZ [] X.env)).any (·.1)=false:=by rfl) :
 HW X rl (.Tuple elts kt pt) (.Call (.Name "enumerate" p) [a] [] pos) (G5 b fs):=by
 obtain⟨t,p1,k⟩:=ha;refine⟨_,wM b hg hm p1 hs hpl,fun R Qd Q q h=>k R _ _ q fun vs ws F1 H1 g1 r1 ⟨dx,xs,ew,e1,kb1,q1⟩=>?_⟩;subst ew kb1;obtain⟨v,rfl,rv⟩:=nU r1;obtain⟨a1,vs,rfl,rs,sq1⟩:=pC rv e1;refine⟨a1,vs,rfl,sq1 _ g1.sub,h _ (gC xs) F1 H1 g1 ⟨fun i H x e s=>?_,fun i H hl s=>?_,fun i H v H' x F2 e s s2 ra y=>?_⟩ q1⟩
 · obtain⟨x1,ex,_⟩:=jL e;obtain⟨v1,ev1,_⟩:=rs.get ex;exact⟨vs,v1,sq1 _ s,ev1⟩
 · refine⟨vs,sq1 _ s,?_⟩;unfold gC at hl;rw[IP,NH]at hl;rw[rs.length];omega
 · obtain⟨x1,ex,ed⟩:=jL e;obtain⟨vx,pp,hx,hp,ev,eH⟩:=y;obtain⟨v1,ev1,rv1⟩:=rs.get ex;have h1:=hx vs (sq1 _ (s.trans s2));rw[ev1]at h1;cases h1;subst ev eH ed;have g:=Grow.data (a:=pp) (o:=.tup [.int (i:Nat),vx]) s2 ra hp;exact⟨_,g,.tup (.inl (.inl ax)) (.cons (.int _) (.cons ((rv1.mono s).mono g.fs) .nil))⟩
theorem eA(hm:X.mg "enumerate" = none)(ha:HN X rl [a] fs)(hg:Gl X "enumerate" := by rfl)(hs:IZ [a] X.env=(false,eval a X.env)::IZ [] X.env:=by rfl)(hpl:(KC pos (IZ [] X.env)).any (·.1)=false:=by rfl) :
 HW X rl (.Tuple elts kt pt) (.Call (.Name "enumerate" p) [a] [] pos) (G5 true fs):=vI true hm ha hg hs hpl
end
noncomputable def Bd(ws:List W):Option (List IJ):=match ws with
 | [.d (.tuple xs)]=>some (gC xs)
 | _=>none
theorem uU{fs:HA}:G5 true fs ρ=Hl (fs ρ) fun ws=>aQ (Bd ws) ret:=by
 show(Hl (fs ρ) fun ws=>fun(Q:List IJ->Prop)=>∃dx xs,ws=[.d dx]/\d_ dx=some xs/\dw dx=true/\Q (gC xs))=_;congr 1;funext ws;refine ag fun Q=>?_;simp only[aq,ret];constructor
 · rintro⟨dx,xs,rfl,a,b,q⟩
   cases dx with
   | tuple ys=>cases a;exact⟨_,rfl,q⟩
   | _=>cases b
 · rintro⟨zs,e,q⟩;unfold Bd at e;split at e
   · cases e;exact⟨_,_,rfl,rfl,rfl,q⟩
   · cases e
theorem jK(xs:List α)(enc:α->IJ):gC (xs.map enc)=xs.zipIdx.map fun z=>Jz [.int (z.2:Nat),enc z.1]:=by
 unfold gC;rw[List.zipIdx_map,JY];rfl
section
variable{α β:Type}{b:IJ->Mo (Option IJ)}
end
end L2.VL
namespace L2
theorem qJ{o:Obj}(ok:Iw P w H h)(e:H a=some (.frz o (.dK us))) :
 us.length<=sizeLine/\(a==Mb)=false/\∃vs es ep,KV us vs/\o.data = .dict es ep/\h.DictAt (bL P w) a vs ep:=by
 obtain⟨e1,z,hd,vs,rel,o',es,ep,ho,hx,hdat,r⟩:=ok a _ e;rw[e1]at ho;cases ho;exact⟨z,hd,vs,es,ep,rel,hdat,o,es,e1,hx,hdat,r⟩
theorem Al{k:Ie}{v:IR}(h:(bL P w).is k v=true):RelV (kV k) v:=by
 have h:kY k v=true:=h;rcases bj h with⟨i,t,e1,e2⟩|⟨y,t,e1,e2⟩<;>subst e1 e2<;>exact⟨_,rfl⟩
def Ir(a:Addr)(o:Obj)(us:List (Ie×V)):It :=
 ⟨fun i H=>i<us.length/\H a=some (.frz o (.dK us)),fun i H x H'=>H'=H/\∃p,us[i]?=some p/\x=kV p.1,fun i H=>us.length<=i/\H a=some (.frz o (.dK us))⟩
theorem B7{vs:List (Ie×IR)}(r:KV us vs):∀{i:Nat}{p:Ie×V},us[i]?=some p->∃q,vs[i]?=some q/\p.1=q.1:=by
 unfold KV at r
 induction r with
 | nil=>intro i p e;simp at e
 | @cons p q ps qs h t ih =>
   intro i p' e
   cases i with
   | zero=>simp at e;subst e;exact⟨q,rfl,h.1⟩
   | succ j=>obtain⟨q',e1,e2⟩:=ih (i:=j) (p:=p') (by simpa using e);exact⟨q',by simpa using e1,e2⟩
theorem oR{K:W.Frag}(a it:Addr){o:Obj}{es:Array DictEntry}{ep:Nat}(hep:o.data = .dict es ep) :
 Turn P w K tg (Ir a o us) [it] it (fun i h=>h.IsKeyIter it a i us.length ep) where
 mem:=by simp
 obj:=fun i h st b hb=>by
  have e:b=it:=by simpa using hb
  subst e;obtain⟨o,e,c,d⟩:=st;exact⟨o,e,fun v z=>by rw[d]at z;cases z⟩
 keep:=fun i h h' st k=>by
  obtain⟨o,e,r⟩:=st;exact⟨o,k it (by simp) o e,r⟩
 item:=by
  intro X hP hw hK hc i pins s σ H E I hf st hg;subst hP hw hK;obtain⟨hi,ha⟩:=hg;obtain⟨z,hd,vs,es',ep',rel,hdat,dd⟩:=qJ I.hok ha;rw[hep]at hdat;cases hdat;have hl:us.length=vs.length:=Kt rel;have eu:us[i]?=some us[i]:=by simp[hi]
  obtain⟨⟨k,v⟩,ev,ek⟩:=B7 rel eu;obtain⟨f0,f1,f2,f3,f4,f5⟩:=hf it (by simp);rw[hl]at st;refine wpAny_pyNext_dict_item st dd ev fun key h' hkey st' sb=>?_;have I1:Inv X pins σ H {s with heap:=h' }:=I.turned (t':=s.toks) (fun b o hb e=>(sb.2 b hb).trans e) f0 f1 f3 f4 f5;obtain⟨oi,e,c,d⟩:=id st';rw[<- hl]at st';exact⟨key,rfl,nH (s:={s with heap:=h' }) e c d (by decide) ⟨kV us[i].1,H,I1,by rw[ek];exact Al hkey,⟨rfl,_,eu,rfl⟩,st',fun b hb=>(hf b hb).1⟩⟩
 done:=by
  intro X hP hw hK hc i pins s σ H E I hf st hg;subst hP hw hK;obtain⟨hi,ha⟩:=hg;obtain⟨z,hd,vs,es',ep',rel,hdat,dd⟩:=qJ I.hok ha;rw[hep]at hdat;cases hdat;have hl:us.length=vs.length:=Kt rel;obtain⟨f0,f1,f2,f3,f4,f5⟩:=hf it (by simp);rw[hl]at st;refine wpAny_pyNext_dict_end (I.ok.hd hc) st dd (by rw[M0];omega) fun h' sb=>⟨rfl,?_⟩;exact I.turned (t':=s.toks) (fun b o hb e=>sb b o hb e) f0 f1 f3 f4 f5
 self:=fun A i s Q E st h=>by
  refine wpAny_pyIter_slot st.typeIs F.slot_dict_keyiterator_iter (Kd F.slot_dict_keyiterator_iter st.typeIs F.entry_dict_keyiterator_iter ?_ (F.args_dict_keyiterator_iter_1 _));show Jn _ _ (ret (.ref it)) _ _ s;exact IU ⟨_,rfl, "dict_keyiterator", _,st.typeIs,F.slot_dict_keyiterator_next.lookup,h⟩
section
variable{X:Cx}{e:Expr}{tg:Expr}{te:TE}
def Aq(t:TE):TI:=fun σ H R=>t σ H fun v H1=>∃a o us,v = .ref a/\H1 a=some (.frz o (.dK us))/\R (Ir a o us) H1
theorem wN(he:PE X e te):PI X tg e (Aq te):=by
 intro pins s σ H R I h;refine FX (he pins s σ H _ I h) fun v s1 ⟨x,H1,I1,r1,q1⟩=>?_;obtain⟨a,o,us,ev,ha,q⟩:=q1;subst ev;cases r1;obtain⟨z,hd,vs,es,ep,rel,hdat,dd⟩:=qJ I1.hok ha;have hl:us.length=vs.length:=Kt rel;refine wpAny_pyIter_dict hd dd ?_;refine⟨s1.heap.objs.size,[s1.heap.objs.size],_,_,H1,rfl,I1.kept (t':=s1.toks) fun b o e=>IQ _ e,oR a _ hdat,⟨_,Jf _ rfl,rfl,by rw[hl];rfl⟩,fun b hb=>?_,q⟩;have e:b=s1.heap.objs.size:=by simpa using hb
 subst e;exact I1.fpOk (I_ _) (I1.hok.fresh (I_ _))
def BN(i:Nat)(T:TS):TS:=fun D σ H=>T {D with nx:=fun σ' H'=>∃a us,σ'[i]?=some (some (.ref a))/\H' a=some (.dK us)/\∀o,D.nx σ' (upd H' a (.frz o (.dK us)))} σ H
theorem wH{st:Stmt}{T:TS}(i:Nat)(h:PS X st T):PS X st (BN i T):=fun pins s σ H D I q=>FX (h pins s σ H _ I q) fun f s' z=>by
 cases f with
 | next =>
   obtain⟨σ',H',I',a,us,e1,e2,k⟩:=z;obtain⟨z,hd,vs,rel,o,es,ep,ho,r⟩:=I'.hok a _ e2;refine⟨σ',_,?_,k o⟩
   exact gG (t':=s'.toks) I' (by rw[e2];trivial) (NW _ _) ⟨o,ho⟩ ⟨ho,z,hd,vs,rel,o,es,ep,ho,r⟩
 | brk=>exact z
 | cont=>exact z
 | ret u=>exact z
end
end L2
namespace L2.VL
section
variable{X:Cx}{rl:RlT}{a b e o i':Expr}{es:List Expr}{fa fb:TV}{fs:HA}{pos p px apos cpos:Pos}{ρ:En}{st:Stmt}{t:HB}
noncomputable def asFw:W->Option (List (Ie×IJ))
 | .fw kvs=>some kvs
 | _=>none
theorem asFw_f(kvs:List (Ie×IJ)):asFw (.fw kvs)=some kvs:=rfl
theorem lq{w:W}{kvs:List (Ie×IJ)}:asFw w=some kvs↔w = .fw kvs:=by
 constructor
 · intro h;unfold asFw at h;split at h<;>simp_all
 · rintro rfl;rfl
noncomputable def asDp:W->Option (List (Ie×IJ)×IJ)
 | .dp kvs x=>some (kvs,x)
 | _=>none
theorem asDp_f(kvs:List (Ie×IJ))(x:IJ):asDp (.dp kvs x)=some (kvs,x):=rfl
theorem rA{w:W}{z:List (Ie×IJ)×IJ}:asDp w=some z↔w = .dp z.1 z.2:=by
 constructor
 · intro h;unfold asDp at h;split at h
   · cases h;rfl
   · cases h
 · rintro rfl;rfl
theorem wu{K:W.Frag}(k:Ie):Rep K F (kV k) (rM k):=by cases k<;>constructor
def xu(fa:TV):En->(List IJ->Prop)->Prop:=fun ρ Q=>fa ρ fun w=>∃kvs,w = .fw kvs/\Q (kvs.map fun p=>rM p.1)
theorem xn{K:W.Frag}{kvs:List (Ie×IJ)}(r:Ih K F us kvs){x:IJ}(h:(kvs.map fun p=>rM p.1)[i]?=some x):∃p,us[i]?=some p/\x=rM p.1:=by
 have e:=congrArg (fun l=>(l.map rM)[i]?) r.keys;simp only[JY]at e;rw[show(kvs.map (rM ∘ fun x=>x.1))=kvs.map fun p=>rM p.1 from rfl,h,JW]at e
 cases q:us[i]? with
 | none=>rw[q]at e;cases e
 | some p=>rw[q]at e;exact⟨p,rfl,(JN e).symm⟩
theorem oj(ha:PV X rl a fa):HW X rl tg a (xu fa):=by
 obtain⟨t,p1,k⟩:=ha;refine⟨_,wN p1,fun R Qd Q q h=>k R _ _ q fun v w F1 H1 g1 r1 n1 ⟨kvs,ew,q1⟩=>?_⟩;subst ew;obtain⟨x,us,ob,rfl,hx,rk⟩:=r1;have hl:us.length=kvs.length:=Kt rk;refine⟨x,ob,us,rfl,g1.sub _ _ hx,h _ (kvs.map fun p=>rM p.1) F1 H1 g1 (VIt.of (fun i H y e s=>⟨?_,s _ _ hx⟩) (fun i H hl' s=>⟨by rw[IP]at hl';omega,s _ _ hx⟩) fun i H v H' y e s z=>?_) q1⟩
 · have:=(Jj.mp e).1;rw[IP]at this;omega
 · obtain⟨e1,pp,e2,e3⟩:=z;obtain⟨p',e4,e5⟩:=xn rk e;rw[e2]at e4;cases e4;subst e3 e5;exact⟨e1,wu _⟩
theorem m_iWalk:xu fa ρ=Hl (fa ρ) fun w=>aQ (asFw w) fun kvs=>ret (kvs.map fun p=>rM p.1):=by
 refine ag fun Q=>?_;simp only[xu,Hl,aq,lq,ret]
def oH(fa fb:TV):TV:=fun ρ Q=>fa ρ fun x=>fb ρ fun y=>∃kvs k d,x = .fw kvs/\j9 y=some k/\nS kvs k=some d/\Q (.d d)
theorem kf(hu:X.A.units+1<O8)(ho:PV X rl o fa)(hi:PV X rl i' fb)(hs:vd i':=by intro _ _;rfl):PV X rl (.Subscript o i' pos) (oH fa fb):=by
 obtain⟨t1,p1,k1⟩:=ho;obtain⟨t2,p2,k2⟩:=hi;refine⟨_,gf hu p1 p2 hs,fun R Qd Q q h=>k1 R _ _ q fun v w F1 H1 g1 r1 n1 q1=>k2 (R.grow g1) _ _ q1 fun v2 w2 F2 H2 g2 r2 n2 ⟨kvs,k,d,ex,ek,ed,q2⟩=>?_⟩;subst ex;obtain⟨x,us,ob,rfl,hx,rk⟩:=r1.grow g2;have ev:=fJ ek r2;subst ev;rcases rk.val k with⟨_,z⟩|⟨v3,d3,e1,e2,r3⟩
 · rw[ed]at z;cases z
 · rw[ed]at e2;cases e2;refine⟨x,v3,rfl,?_,h v3 (.d d) F2 H2 (g1.trans g2) r3 trivial q2⟩;rw[<- e1];exact .inl ⟨us,k,.inr ⟨ob,g2.sub _ _ hx⟩,rfl,rfl⟩
theorem m_vDGetW:oH fa fb ρ=Hl (fa ρ) fun x=>Hl (fb ρ) fun y=>aQ (asFw x) fun kvs=>aQ (j9 y) fun k=>aQ (nS kvs k) fun d=>ret (.d d):=by
 refine ag fun Q=>?_;simp only[oH,Hl,aq,lq,ret];constructor
 · intro h;refine cast ?_ h;congr 1;funext x;congr 1;funext y;exact propext ⟨fun⟨a,b,c,d,e,f,g⟩=>⟨a,d,b,e,c,f,g⟩,fun⟨a,d,b,e,c,f,g⟩=>⟨a,b,c,d,e,f,g⟩⟩
 · intro h;refine cast ?_ h;congr 1;funext x;congr 1;funext y;exact propext ⟨fun⟨a,d,b,e,c,f,g⟩=>⟨a,b,c,d,e,f,g⟩,fun⟨a,b,c,d,e,f,g⟩=>⟨a,d,b,e,c,f,g⟩⟩
def vT(fb fa:TV):TV:=fun ρ Q=>fb ρ fun y=>fa ρ fun x=>∃kvs k,x = .fw kvs/\j9 y=some k/\Q (.d (.bool (nS kvs k).isSome))
theorem vK(hu:X.A.units+1<O8)(hi:PV X rl i' fb)(ho:PV X rl o fa)(hm:KM .In o=false:=by rfl):PB X rl (.Compare i' [.In] [o] pos) (mT (vT fb fa)):=by
 obtain⟨t1,p1,k1⟩:=hi;obtain⟨t2,p2,k2⟩:=ho;refine⟨_,zA (zM hu p1 p2) hm,fun R Qd Q q h=>k1 R _ _ q fun v w F1 H1 g1 r1 n1 q1=>k2 (R.grow g1) _ _ q1 fun v2 w2 F2 H2 g2 r2 n2 ⟨kvs,k,ex,ek,c,ec,q2⟩=>?_⟩;subst ex;cases ec;obtain⟨x,us,ob,rfl,hx,rk⟩:=r2;have ev:=fJ ek (r1.grow g2);subst ev;refine⟨x,fF us k,rfl,.inl ⟨us,k,.inr ⟨ob,g2.sub _ _ hx⟩,rfl,rfl⟩,(nS kvs k).isSome,?_,h _ F2 H2 (g1.trans g2) q2⟩;rcases rk.val k with⟨e1,z⟩|⟨v3,d3,e1,e2,r3⟩
 · rw[e1,z];rfl
 · rw[e1,e2];rfl
theorem m_vDInW:vT fb fa ρ=Hl (fb ρ) fun y=>Hl (fa ρ) fun x=>aQ (asFw x) fun kvs=>aQ (j9 y) fun k=>ret (.d (.bool (nS kvs k).isSome)):=by
 refine ag fun Q=>?_;simp only[vT,Hl,aq,lq,ret];constructor
 · intro h;refine cast ?_ h;congr 1;funext y;congr 1;funext x;exact propext ⟨fun⟨a,b,c,d,e⟩=>⟨a,c,b,d,e⟩,fun⟨a,c,b,d,e⟩=>⟨a,b,c,d,e⟩⟩
 · intro h;refine cast ?_ h;congr 1;funext y;congr 1;funext x;exact propext ⟨fun⟨a,c,b,d,e⟩=>⟨a,b,c,d,e⟩,fun⟨a,b,c,d,e⟩=>⟨a,c,b,d,e⟩⟩
def oF:TV:=fun _ Q=>Q (.mk [])
theorem rY:PV X rl (.Dict [] [] pos) oF:=by
 refine⟨_,sR,fun R Qd Q q h p hp=>?_⟩;refine h _ (.mk []) _ _ (Grow.laid R.sub R.reel hp) ⟨p,[],rfl,R.sub.free hp,fun e=>?_,ax,.nil⟩ (fun a ea=>by cases ea;exact hp) q;obtain⟨o,z⟩:=R.reel.live e;rw[hp]at z;cases z
theorem m_vDict0K:oF ρ=ret (.mk []):=nr rfl
theorem VR.ownK{K:W.Frag}{ρ:En}(r:VR K rl F₀ H₀ F H σ ρ){xs ys:List (Ie×IJ)}{a:Addr}(e:ρ[i]?=some (some (.mk xs)))(es:σ[i]?=some (some (.ref a)))(rs:Ih K F us ys) :
 VR K rl F₀ H₀ F (upd H a (.dK us)) σ (ρ.set i (some (.mk ys))):=by
 obtain⟨v,h1,h2,h3⟩:=r.sl i _ e;rw[es]at h1;cases h1;obtain⟨a',vs,ev,f,hr,hh,q⟩:=(show nY K rl F H (.ref a) xs from h2);cases ev;have n0:H₀ a=none:=h3 a rfl;have hi:i<ρ.length:=(Jj.mp e).1;have neF:∀b u,F b=some u->b≠a:=fun b u q z=>by subst z;rw[f]at q;cases q
 have g:Grow rl F₀ H₀ F (upd H a (.dK us)):=by
  refine⟨fun b o q1 n=>by rw[ar (aS q1 n0)];exact r.g.same b o q1 n,r.g.fs,fun b o q1=>by rw[ar (neF b o q1)];exact r.sub b o q1,r.g.old,fun y z=>?_⟩;obtain⟨z1,⟨u,h1,h2⟩⟩:=r.reel y z;exact⟨z1,⟨u,by rw[ar (fun q=>hr (by rw[<- q];exact z))];exact h1,h2⟩⟩
 refine⟨g,fun j w e1=>?_,fun j k ys' zs u hjk e1 e2 w1 w2 s1 s2=>?_,fun j ys' z=>?_,by simp[r.len]⟩
 · by_cases hj:i=j
   · subst hj;rw[Jp hi]at e1;cases e1;exact⟨_,es,⟨a,us,rfl,f,hr,ax,rs⟩,h3⟩
   · rw[Jk hj]at e1;obtain⟨u,g1,g2,g3⟩:=r.sl j w e1;refine⟨u,g1,?_,g3⟩;have ap:w.own=true->∀b,u = .ref b->b≠a:=fun ow b eb z=>r.ap i j _ _ (.ref a) hj e e1 rfl ow es (by rw[g1,eb,z])
     cases w with
     | ml zs=>obtain⟨b,us',eb,f1,f2,f3,f4⟩:=(show gO K rl F H u zs from g2);exact⟨b,us',eb,f1,f2,by rw[ar (ap rfl b eb)];exact f3,f4⟩
     | md zs=>obtain⟨b,us',eb,f1,f2,f3,f4⟩:=(show vb K rl F H u zs from g2);exact⟨b,us',eb,f1,f2,by rw[ar (ap rfl b eb)];exact f3,f4⟩
     | mk zs=>obtain⟨b,us',eb,f1,f2,f3,f4⟩:=(show nY K rl F H u zs from g2);exact⟨b,us',eb,f1,f2,by rw[ar (ap rfl b eb)];exact f3,f4⟩
     | pk zs=>exact absurd e1 (r.np j zs)
     | _=>exact g2
 · have nd:∀(j:Nat)(z:W),(ρ.set i (some (W.mk ys)))[j]?=some (some z)->z.own=true->∃z',ρ[j]?=some (some z')/\z'.own=true:=fun j zs z o=>by
     by_cases hj:i=j
     · subst hj;exact⟨_,e,rfl⟩
     · rw[Jk hj]at z;exact⟨zs,z,o⟩
   obtain⟨_,d1,o1⟩:=nd j _ e1 w1;obtain⟨_,d2,o2⟩:=nd k _ e2 w2;exact r.ap j k _ _ u hjk d1 d2 o1 o2 s1 s2
 · rw[J8]at z;split at z
   · first|cases z|(split at z<;>cases z)
   · exact r.np j ys' z
theorem VR.frzK{K:W.Frag}{ρ:En}(r:VR K rl F₀ H₀ F H σ ρ){xs:List (Ie×IJ)}{a:Addr}{ob:Obj}(e:ρ[i]?=some (some (.mk xs)))(es:σ[i]?=some (some (.ref a)))(hH:H a=some (.dK us))(rs:Ih K F us xs) :
 bE F (upd F a (.frz ob (.dK us)))/\VR K rl F₀ H₀ (upd F a (.frz ob (.dK us))) (upd H a (.frz ob (.dK us))) σ (ρ.set i (some (.fw xs))):=by
 obtain⟨v,h1,h2,h3⟩:=r.sl i _ e;rw[es]at h1;cases h1;obtain⟨a',vs,ev,f,hr,hh,q⟩:=(show nY K rl F H (.ref a) xs from h2);cases ev;have n0:H₀ a=none:=h3 a rfl;have hi:i<ρ.length:=(Jj.mp e).1;have neF:∀b u,F b=some u->b≠a:=fun b u q z=>by subst z;rw[f]at q;cases q
 have fsm:bE F (upd F a (.frz ob (.dK us))):=fun b u z=>by rw[ar (neF b u z)];exact z
 have g:Grow rl F₀ H₀ (upd F a (.frz ob (.dK us))) (upd H a (.frz ob (.dK us))):=by
  refine⟨fun b o q1 n=>by rw[ar (aS q1 n0)];exact r.g.same b o q1 n,r.g.fs.trans fsm,fun b o q1=>?_,fun b o q1=>by rw[ar (aS q1 n0)];exact r.g.old b o q1,fun y z=>?_⟩
  · by_cases hb:b=a
    · subst hb;rw[ax]at q1 ⊢;exact q1
    · rw[ar hb]at q1 ⊢;exact r.sub b o q1
  · obtain⟨z1,⟨u,h1,h2⟩⟩:=r.reel y z;have ny:y≠a:=fun q=>hr (by rw[<- q];exact z);exact⟨by rw[ar ny];exact z1,⟨u,by rw[ar ny];exact h1,RO.mono fsm h2⟩⟩
 refine⟨fsm,g,fun j w e1=>?_,fun j k ys' zs u hjk e1 e2 w1 w2 s1 s2=>?_,fun j ys' z=>?_,by simp[r.len]⟩
 · by_cases hj:i=j
   · subst hj;rw[Jp hi]at e1;cases e1;exact⟨_,es,⟨a,us,ob,rfl,ax,rs.mono fsm⟩,trivial⟩
   · rw[Jk hj]at e1;obtain⟨u,g1,g2,g3⟩:=r.sl j w e1;refine⟨u,g1,?_,g3⟩;have ap:w.own=true->∀b,u = .ref b->b≠a:=fun ow b eb z=>r.ap i j _ _ (.ref a) hj e e1 rfl ow es (by rw[g1,eb,z])
     cases w with
     | d x=>exact Rep.mono fsm g2
     | ml zs=>obtain⟨b,us',eb,f1,f2,f3,f4⟩:=(show gO K rl F H u zs from g2);exact⟨b,us',eb,by rw[ar (ap rfl b eb)];exact f1,f2,by rw[ar (ap rfl b eb)];exact f3,f4.mono fsm⟩
     | md zs=>obtain⟨b,us',eb,f1,f2,f3,f4⟩:=(show vb K rl F H u zs from g2);exact⟨b,us',eb,by rw[ar (ap rfl b eb)];exact f1,f2,by rw[ar (ap rfl b eb)];exact f3,Kx.mapP f4 fun _ _ z=>⟨z.1,z.2.mono fsm⟩⟩
     | mk zs=>obtain⟨b,us',eb,f1,f2,f3,f4⟩:=(show nY K rl F H u zs from g2);exact⟨b,us',eb,by rw[ar (ap rfl b eb)];exact f1,f2,by rw[ar (ap rfl b eb)];exact f3,Kx.mapP f4 fun _ _ z=>⟨z.1,z.2.mono fsm⟩⟩
     | pk zs=>exact absurd e1 (r.np j zs)
     | reel=>exact g2
     | vv u=>exact g2
     | lk=>trivial
     | nt ds=>obtain⟨b,us,eb,f1,f2⟩:=g2;exact⟨b,us,eb,fsm _ _ f1,f2.mono fsm⟩
     | sc ns=>obtain⟨b,eb,f1⟩:=g2;exact⟨b,eb,kH fsm f1⟩
     | fd kvs=>obtain⟨b,us,eb,f1,f2⟩:=g2;exact⟨b,us,eb,fsm _ _ f1,Kx.mapP f2 fun _ _ z=>⟨z.1,z.2.mono fsm⟩⟩
     | fw kvs=>obtain⟨b,us,o,eb,f1,f2⟩:=g2;exact⟨b,us,o,eb,fsm _ _ f1,Kx.mapP f2 fun _ _ z=>⟨z.1,z.2.mono fsm⟩⟩
     | ft kvs=>obtain⟨b,us,o,eb,f1,f2⟩:=g2;exact⟨b,us,o,eb,fsm _ _ f1,Kx.mapP f2 fun _ _ z=>⟨z.1,z.2.mono fsm⟩⟩
     | xc _ _=>obtain⟨b,dx,us,C,eb,n,f1,f3,f2⟩:=g2;exact⟨b,dx,us,C,eb,n,fsm _ _ f1,fsm _ _ f3,Kx.mapP f2 fun _ _ z=>⟨z.1,z.2.mono fsm⟩⟩
     | dp _ _=>obtain⟨c,b,us,u,o,eb,f1,f3,f2,z⟩:=g2;exact⟨c,b,us,u,o,eb,fsm _ _ f1,fsm _ _ f3,Kx.mapP f2 fun _ _ z=>⟨z.1,z.2.mono fsm⟩,z.mono fsm⟩
 · have nd:∀(j:Nat)(y:W),(ρ.set i (some (W.fw xs)))[j]?=some (some y)->y.own=true->ρ[j]?=some (some y):=fun j y z o=>by
     by_cases hj:i=j
     · subst hj;rw[Jp hi]at z;cases z;cases o
     · rw[Jk hj]at z;exact z
   exact r.ap j k _ _ u hjk (nd j _ e1 w1) (nd k _ e2 w2) w1 w2 s1 s2
 · rw[J8]at z;split at z
   · first|cases z|(split at z<;>cases z)
   · exact r.np j ys' z
noncomputable def Be:W->Option (List (Ie×IJ))
 | .mk kvs=>some kvs
 | _=>none
theorem asMk_m(kvs:List (Ie×IJ)):Be (.mk kvs)=some kvs:=rfl
noncomputable def Gp(ρ:En)(i:Nat):Option (List (Ie×IJ)):=((ρ[i]?).join).bind Be
theorem uF{kvs:List (Ie×IJ)}:Gp ρ i=some kvs↔ρ[i]?=some (some (.mk kvs)):=by
 unfold Gp;constructor
 · intro h
   cases q:ρ[i]? with
   | none=>rw[q]at h;cases h
   | some o=>rw[q]at h;cases o with
     | none=>cases h
     | some w =>
       have h:Be w=some kvs:=h;unfold Be at h;split at h
       · cases h;rfl
       · cases h
 · intro h;rw[h];rfl
def AZ(i:Nat):HB:=fun D ρ=>∃kvs,ρ[i]?=some (some (.mk kvs))/\D.nx (ρ.set i (some (.fw kvs)))
theorem n8(i:Nat)(h:HS X rl st t):HS X rl st (xZ t (AZ i)):=by
 obtain⟨T,p,k⟩:=h;refine⟨_,wH i p,fun{F₀ H₀ F H σ ρ} R Dv D ok q=>k R {Dv with nx:=AZ i Dv} _ ⟨fun F' H' σ' ρ' s' R' z=>?_,ok.rt,ok.bk,ok.ct⟩ q⟩;obtain⟨kvs,e,q'⟩:=z;obtain⟨v,h1,h2,h3⟩:=R'.sl i _ e;obtain⟨a,us,rfl,f,hr,hh,rs⟩:=(show nY X.K rl F' H' v kvs from h2);refine⟨a,us,h1,hh,fun o=>?_⟩;obtain⟨fsm,R2⟩:=R'.frzK (ob:=o) e h1 hh rs;exact ok.nx _ _ _ _ (s'.trans fsm) R2 q'
theorem s_fzS(i:Nat):mS (AZ i) ρ=aQ (Gp ρ i) fun kvs=>ret (.nx (ρ.set i (some (.fw kvs)))):=by
 refine ag fun Q=>?_;simp only[mS,AZ,aq,uF,ret]
def oG(i:Nat)(fk fx:TV):HB:=fun D ρ=>∃kvs,ρ[i]?=some (some (.mk kvs))/\fx ρ fun wx=>fk ρ fun wk=>∃k x,j9 wk=some k/\wx = .d x/\kvs.length<sizeLine/\D.nx (ρ.set i (some (.mk (putF kvs k x))))
theorem rR(i:Nat){x:Str}{f:Expr}{fk fx:TV}(hu:X.A.units+1<O8)(hk:PV X rl e fk)(hx:PV X rl f fx)(hN:X.N[i]?=some x:=by rfl)(hv:Hv X.env.scope x:=by first|exact Kz rfl|exact J0 (Kz rfl)|exact J0 (J0 rfl))
 (hd:(x==("__debug__" : Str))=false:=by decide)(hcd:(x==("__classdict__" : Str))=false:=by decide)(hs:K0 f (some (.Subscript (.Name x px) e pos')) pos.line X.env=pure false:=by rfl) :
 HS X rl (.Assign [.Subscript (.Name x px) e pos'] f pos) (oG i fk fx):=by
 obtain⟨t,p1,k1⟩:=hk;obtain⟨t2,p2,k2⟩:=hx;refine⟨_,kN hu (cu hN hv hd hcd) p1 p2 hs,fun{F₀ H₀ F H σ ρ} R Dv D ok ⟨kvs,e1,q⟩=>?_⟩;obtain⟨v,h1,h2,h3⟩:=R.sl i _ e1;obtain⟨a,us,rfl,f0,hr,hh,rs⟩:=(show nY X.K rl F H v kvs from h2);refine k2 R _ _ q fun v2 w2 F2 H2 g2 r2 n2 q2=>⟨.ref a,h1,k1 (R.grow g2) _ _ q2 fun v1 w1 F1 H1 g1 r1 n1 q3=>?_⟩;obtain⟨k,d,ek,rfl,hz,q3⟩:=q3;have ev:=fJ ek r1;subst ev;have g:=g2.trans g1;have hl:us.length=kvs.length:=Kt rs;refine⟨a,_,rfl,.inl ⟨us,k,g.same a _ hh hr,rfl,by omega,rfl⟩,?_⟩;have rs1:Ih X.K F1 us kvs:=rs.mono g.fs;exact ok.nx _ _ _ _ g.fs ((R.grow g).ownK e1 h1 (rs1.put k (Rep.mono g1.fs r2))) q3
theorem s_dputK(i:Nat){fk fx:TV}:mS (oG i fk fx) ρ=aQ (Gp ρ i) fun kvs=>Hl (fx ρ) fun wx=>Hl (fk ρ) fun wk=>aQ (j9 wk) fun k=>aQ (asD wx) fun x=>G6 (kvs.length<sizeLine) (ret (.nx (ρ.set i (some (.mk (putF kvs k x)))))):=by
 refine ag fun Q=>?_;simp only[mS,oG,aq,uF,Hl,G6,ret,gL];refine exists_congr fun kvs=>and_congr_right fun _=>?_;constructor
 · intro h;refine cast ?_ h;congr 1;funext x;congr 1;funext y;exact propext ⟨fun⟨a,b,c,d,e⟩=>⟨a,c,b,d,e⟩,fun⟨a,c,b,d,e⟩=>⟨a,b,c,d,e⟩⟩
 · intro h;refine cast ?_ h;congr 1;funext x;congr 1;funext y;exact propext ⟨fun⟨a,c,b,d,e⟩=>⟨a,b,c,d,e⟩,fun⟨a,b,c,d,e⟩=>⟨a,c,b,d,e⟩⟩
noncomputable def asFwD:List W->Option (List (Ie×IJ)×IJ)
 | [.fw kvs,.d x]=>some (kvs,x)
 | _=>none
theorem asFwD_f(kvs:List (Ie×IJ))(x:IJ):asFwD [.fw kvs,.d x]=some (kvs,x):=rfl
theorem uf{ws:List W}{z:List (Ie×IJ)×IJ}:asFwD ws=some z↔ws=[.fw z.1,.d z.2]:=by
 constructor
 · intro h;unfold asFwD at h;split at h
   · cases h;rfl
   · cases h
 · rintro rfl;rfl
def vP(fs:HA):TV:=fun ρ Q=>fs ρ fun ws=>∃z:List (Ie×IJ)×IJ,ws=[.fw z.1,.d z.2]/\Q (.dp z.1 z.2)
theorem um{x1}(h:HN X rl es fs):PV X rl (.Tuple es x1 pos) (vP fs):=by
 obtain⟨t,p,k⟩:=h;refine⟨_,pU p,fun R Qd Q q h=>k R _ _ q fun vs ws F1 H1 g1 r1 ⟨z,ew,q1⟩=>?_⟩;subst ew
 cases r1 with
 | cons ra rb =>
   cases rb with
   | @cons u2 _ _ _ rb rc =>
     cases rc;obtain⟨b,us,o,rfl,hb,rk⟩:=ra;refine⟨by rw[Ji];show 2<=16777216;decide,fun p hp=>?_⟩;have gd:=Grow.data (a:=p) (o:=.tup [.ref b,u2]) g1.sub g1.reel hp;exact h _ (.dp z.1 z.2) _ _ (g1.trans gd) ⟨p,b,us,_,o,rfl,ax,gd.fs _ _ hb,rk.mono gd.fs,Rep.mono gd.fs rb⟩ trivial q1
theorem m_vTupP:vP fs ρ=Hl (fs ρ) fun ws=>aQ (asFwD ws) fun z=>ret (.dp z.1 z.2):=by
 refine ag fun Q=>?_;simp only[vP,Hl,aq,uf,ret]
def A9:W->W->(W->Prop)->Prop:=fun x y Q=>∃z:List (Ie×IJ)×IJ,x = .dp z.1 z.2/\y = .d (.int 1)/\Q (.d z.2)
theorem ym:Hw X rl (Gz X.K) A9:=fun{F H x y wx wy} Qd Q s ra r1 r2 q k=>by
 obtain⟨z,rfl,rfl,q⟩:=q;have ey:=aJ r2;subst ey;obtain⟨a,b,us,u,o,rfl,h1,h2,rk,ru⟩:=r1;exact .inr (.inl ⟨a,_,1,u,rfl,rfl,.inl (.inl (s _ _ h1)),rfl,k _ (.d _) _ _ (Grow.refl s ra) ru trivial q⟩)
theorem Bl(ha:PV X rl a fa)(hb:PV X rl b fb)(hs:gN b:=by exact fun _ _=>rfl):PV X rl (.Subscript a b pos) (FO A9 fa fb):=ja ym ha hb fun _ _ p1 p2=>sP mi p1 p2 hs
noncomputable def isOne:W->Option Unit
 | .d (.int 1)=>some ()
 | _=>none
theorem isOne_1:isOne (.d (.int 1))=some ():=rfl
theorem m_gIxP(x y:W):A9 x y=aQ (asDp x) fun z=>aQ (isOne y) fun _=>ret (.d z.2):=by
 have key:∀u,isOne y=some u↔y = .d (.int 1):=fun u=>by
  constructor
  · intro h;unfold isOne at h;split at h
    · rfl
    · cases h
  · rintro rfl;rfl
 refine ag fun Q=>?_;simp only[A9,aq,rA,key,ret];exact exists_congr fun z=>and_congr_right fun _=>⟨fun h=>⟨(),h⟩,fun⟨_,h⟩=>h⟩
def Bo(i j:Nat)(fa:TV):HB:=fun D ρ=>fa ρ fun w=>∃z:List (Ie×IJ)×IJ,w = .dp z.1 z.2/\D.nx ((ρ.set i (some (.fw z.1))).set j (some (.d z.2)))
theorem yg(i j:Nat){x y:Str}{px py pt:Pos}{kt:Nat}(hc:X.calm=true)(hN:X.N.Nodup)(he:PV X rl e fa)(hi:X.N[i]?=some x:=by rfl)(hj:X.N[j]?=some y:=by rfl)
 (hx:Loc X.env.scope x:=by first|exact Kz rfl|exact J0 rfl)(hf:X.fn x=true\/X.env.scope.names.lookup x=some .local:=by first|exact .inl rfl|exact .inr rfl)
 (hy:Loc X.env.scope y:=by first|exact Kz rfl|exact J0 rfl)(hg:X.fn y=true\/X.env.scope.names.lookup y=some .local:=by first|exact .inl rfl|exact .inr rfl)
 (hs:LS [.Tuple [.Name x px,.Name y py] kt pt] e pos.line X.env=pure false:=by rfl)(hw:LU [.Tuple [.Name x px,.Name y py] kt pt] e X.env=pure none:=by rfl)
 (h1:(Ky [.Tuple [.Name x px,.Name y py] kt pt] X.env).map (·.2)=[LH (.Tuple [.Name x px,.Name y py] kt pt) X.env]:=by rfl)
 (hn:(Ky [.Name x px,.Name y py] X.env).length=2:=by rfl)(hst:(Ky [.Name x px,.Name y py] X.env).findIdx? (·.1)=none:=by rfl)
 (hs1:(Ky [.Name x px,.Name y py] X.env).map (·.2)=LH (.Name x px) X.env::(Ky [.Name y py] X.env).map (·.2):=by rfl)
 (hs2:(Ky [.Name y py] X.env).map (·.2)=LH (.Name y py) X.env::(Ky [] X.env).map (·.2):=by rfl) :
 HS X rl (.Assign [.Tuple [.Name x px,.Name y py] kt pt] e pos) (Bo i j fa):=by
 obtain⟨t,p,k⟩:=he;refine⟨_,jB p (uK hc (iO (iP hN hi hx hf) (iO (iP hN hj hy hg) pS hs2) hs1) hn hst) hs hw h1,fun R Dv D ok q=>k R _ _ q fun v w F1 H1 g1 r1 n1 ⟨z,ew,q1⟩=>?_⟩;subst ew;obtain⟨a,b,us,u,o,rfl,h1,h2,rk,ru⟩:=r1;have R1:=(R.grow g1).set (w:=.fw z.1) (Grow.refl g1.sub g1.reel) (v:=.ref b) ⟨b,us,o,rfl,h2,rk⟩ trivial (fun _ z=>by cases z) i;have R2:=R1.set (w:=.d z.2) (Grow.refl g1.sub g1.reel) ru trivial (fun _ z=>by cases z) j;exact⟨a,_,rfl,.inl (.inl (g1.sub _ _ h1)),rfl,_,_,rfl,_,_,rfl,rfl,ok.nx _ _ _ _ g1.fs R2 q1⟩
theorem s_unP(i j:Nat):mS (Bo i j fa) ρ=Hl (fa ρ) fun w=>aQ (asDp w) fun z=>ret (.nx ((ρ.set i (some (.fw z.1))).set j (some (.d z.2)))):=by
 refine ag fun Q=>?_;simp only[mS,Bo,Hl,aq,rA,ret]
end
def ki(fi:En->(List IJ->Prop)->Prop)(fr:List (Option Nat))(g:HE)(ft:TB)(fk fe:TV):TV:=fun ρ Q=>fi ρ fun xs=>uz (dX fr ρ) g ft fk fe xs [] fun kvs=>Q (.mk kvs)
section
variable{X:Cx}{rl:RlT}{kx vx tg iter:Expr}{ifs:List Expr}{scope:Scope}{pos:Pos}{fi:En->(List IJ->Prop)->Prop}{g:HE}{ft:TB}{fk fe:TV}
theorem t3{N':List Str}{wi:TI}(fr:List (Option Nat))(k0:∀{F₀ H₀ F H:Hp}{σ:St}{ρ:En},VR X.K rl F₀ H₀ F H σ ρ->∀(Qd:List IJ->Prop)(R:It->Hp->Prop),fi ρ Qd ->
 (∀J xs F' H',Grow rl F H F' H'->VIt X.K rl F' J xs->Qd xs->R J H')->wi σ H R)
 (hg:∀y,HZ (Hm X N' scope y) rl tg g)(ht:∀y,rK (Hm X N' scope y) rl ifs ft)(hk:∀y,PV (Hm X N' scope y) rl kx fk)(he:∀y,PV (Hm X N' scope y) rl vx fe)
 (R:VR X.K rl F₀ H₀ F H σ ρ)(Qd:W->Prop)(Q:VK)(q:ki fi fr g ft fk fe ρ Qd)
 (k:∀v w F' H',Grow rl F H F' H'->cY X.K rl F' H' v w->dL H v w->Qd w->Q v H'):oY wi fr (fun y=>Jt (hg y)) (fun y=>Jt (ht y)) (fun y=>Jt (hk y)) (fun y=>Jt (he y)) σ H Q:=by
 refine k0 R _ _ q fun J xs F1 H1 g1 vi q1=>?_;intro D hD;have rD:rl.a≠some D:=fun e=>by obtain⟨o,z⟩:=g1.reel.live e;rw[hD]at z;cases z
 have FD:F1 D=none:=g1.sub.free hD;have gD:Grow rl F1 H1 F1 (upd H1 D (.dK [])):=Grow.laid g1.sub g1.reel hD;have R1:=R.grow g1;have n0:nQ (dX fr ρ):=dH
 refine⟨fun i m acc σc Hc=>m=xs.length-i/\i<=xs.length/\∃Fc ds,VR X.K rl F1 H1 Fc Hc σc (dX fr ρ)/\Hc D=some (.dK acc)/\Fc D=none/\Ih X.K Fc acc ds/\uz (dX fr ρ) g ft fk fe (xs.drop i) ds (fun ds=>Qd (.mk ds)),
  ⟨xs.length,by simp,Kc _,F1,[],fH R1 gD,ax,FD,.nil,by simpa using q1⟩,?_⟩
 rintro z i m acc σc Hc ⟨rfl,hi,Fc,ds,Rc,hDc,fDc,rs,q2⟩;have sH:bE F1 Hc:=Rc.g.fs.trans Rc.sub;by_cases hlt:i<xs.length
 · have ei:xs[i]?=some xs[i]:=by simp[hlt]
   have ed:xs.drop i=xs[i]::xs.drop (i+1):=J1 hlt;rw[ed]at q2;refine .inr ⟨vi.go i Hc _ ei sH,fun v H' y=>?_⟩;obtain⟨Fy,gy,rv⟩:=vi.yld i Hc v H' _ Fc ei Rc.g.fs Rc.sub Rc.reel y;refine(IN (hg z)).2 (Rc.grow gy) v _ _ _ rv q2 fun F3 H3 σ3 ρ3 g3 n3 R3 ⟨le3,q3⟩=>?_;refine(IN (ht z)).2 R3 _ _ q3 fun b F4 H4 g4 q4=>?_;have R4:=R3.grow g4;have g34:=(gy.trans g3).trans g4;have keepD:∀{Fx Hx:Hp},Grow rl Fc Hc Fx Hx->Hx D=some (.dK acc)/\Fx D=none:=fun gx=>⟨gx.same D _ hDc rD,by rw[gx.old D _ hDc];exact fDc⟩
   cases b with
   | false=>exact⟨xs.length-(i+1),by omega,rfl,hlt,F4,ds,R4.le le3,(keepD g34).1,(keepD g34).2,rs.mono g34.fs,q4⟩
   | true =>
     refine(IN (hk z)).2 R4 _ _ q4 fun vk wk Fk Hk gk rk nk ⟨kk,ekk,qk⟩=>?_;have evk:=fJ ekk rk;have R5:=R4.grow gk;refine(IN (he z)).2 R5 _ _ qk fun v5 w5 F5 H5 g5 r5 n5 ⟨d,ed5,hl,q5⟩=>?_;obtain⟨F6,g6,s6,r6⟩:=cY.fz g5 r5 n5;rw[ed5]at r6;have g36:=(g34.trans gk).trans g6;have lds:acc.length=ds.length:=Kt rs;refine⟨kk,evk,(keepD g36).1,by rw[lds];exact hl,xs.length-(i+1),by omega,rfl,hlt,F6,putF ds kk d,((R5.grow g6).le le3).other n0 hD (keepD g36).2 rD,ax,(keepD g36).2,(rs.mono g36.fs).put kk r6,q5⟩
 · have e:i=xs.length:=by omega
   subst e;rw[Lc]at q2;refine .inl ⟨vi.stop _ Hc (I_ _) sH,k _ (.mk ds) Fc Hc (g1.trans Rc.g) ⟨D,acc,rfl,fDc,rD,hDc,rs⟩ (fun a ea=>by cases ea;exact g1.freeB hD) q2⟩
theorem i_(i:Nat){b:Bool}{x:Str}{spos:Pos}(hN:X.N.Nodup)(N':List Str)(fr:List (Option Nat))(hc:X.calm=true)(hi:HW X rl tg iter fi)
 (hg:∀y,HZ (Hm X N' scope y) rl tg g)(ht:∀y,rK (Hm X N' scope y) rl ifs ft)(hk:∀y,PV (Hm X N' scope y) rl kx fk)(he:∀y,PV (Hm X N' scope y) rl vx fe)
 (hsw:K0 (.DictComp kx vx [⟨tg,iter,ifs,0⟩] scope pos) (some (.Name x px)) spos.line X.env=pure b:=by rfl)
 (hix:X.N[i]?=some x:=by rfl)(hx:Loc X.env.scope x:=by first|exact Kz rfl|exact J0 rfl)(hf:X.fn x=true\/X.env.scope.names.lookup x=some .local:=by first|exact .inl rfl|exact .inr rfl)
 (hfr:nI fr N' X.N scope X.env.scope=true:=by rfl)(hsc:nT scope X.env.scope=true:=by rfl)
 (hs:∀x,JE iter X.env x=pure x:=by intro _;rfl):HS X rl (.Assign [.Name x px] (.DictComp kx vx [⟨tg,iter,ifs,0⟩] scope pos) spos) (AW i (ki fi fr g ft fk fe)):=by
 obtain⟨wi,p0,k0⟩:=hi;refine⟨_,kM N' fr hc p0 hfr hsc (fun y=>(IN (hg y)).1) (fun y=>(IN (ht y)).1) (fun y=>(IN (hk y)).1) (fun y=>(IN (he y)).1) hN hix hx hf hsw hs,fun R Dv D ok q=>t3 fr k0 hg ht hk he R _ _ q fun v w F1 H1 g1 r1 n1 ⟨hp,q1⟩=>?_⟩;exact ok.nx _ _ _ _ g1.fs (R.set g1 r1 n1 (fun xs z=>by subst z;cases hp) i) q1
end
theorem m_compDK(fi:En->(List IJ->Prop)->Prop)(fr:List (Option Nat))(g:HE)(ft:TB)(fk fe:TV)(ρ:En):ki fi fr g ft fk fe ρ=Hl (fi ρ) fun xs=>Hl (eV (GX (dX fr ρ) g ft fk fe) xs []) fun kvs=>ret (.mk kvs):=by
 refine ag fun Q=>?_;show(fi ρ fun xs=>uz (dX fr ρ) g ft fk fe xs [] fun ds=>Q (.mk ds))↔_;simp only[mE];exact MS
abbrev Iy:=List (Ie×IJ)×IJ
def Er(K:W.Frag)(rl:RlT)(P:List W->(Iy->Prop)->Prop):Sp:=fun vs H Q _=>∃F ws,bE F H/\HM rl F H/\eW K rl F H vs ws/\ws.all d6=true/\P ws fun z=>∀v F' H',Grow rl F H F' H'->cY K rl F' H' v (.dp z.1 z.2)->Q v H'
def wR(Q:Iy->Prop):VEnds:=⟨fun _=>False,fun w=>∃z:Iy,w = .dp z.1 z.2/\Q z,fun _=>False,fun _=>False⟩
structure DfnP (P:Ju) (w:J_) (K:W.Frag) (mg:Str->Option IR) (base:Heap) (rl:RlT) (x:Str) (ps:List Str) (k:Nat) (Pd:List W->(Iy->Prop)->Prop):Prop where
 mono:∀ws Q Q',(∀d,Q d->Q' d)->Pd ws Q->Pd ws Q'
 ex:∃f fd,mg x=some (.ref f)/\W.keepIn K (.ref f)=true/\Binds K fd ps []/\FnOk P w K mg base IA k f fd ps (Er K rl Pd)
section
variable{P:Ju}{w:J_}{K:W.Frag}{mg:Str->Option IR}{base:Heap}{rl:RlT}{x:Str}{st:Stmt}{N ps:List Str}{k:Nat}{Pd:List W->(Iy->Prop)->Prop}{t:HB}
theorem DfnP.of(Fn:FnIn K mg x st ps)(S:FnScope N ps (defScope st))(mono:∀ws Q Q',(∀d,Q d->Q' d)->Pd ws Q->Pd ws Q')(len:∀ws Q,Pd ws Q->ws.length=ps.length)
 (hbody:∀{f:Addr}(cdv:IR)(A:Kh)(outer:List Env)(s:IW)(H:Hp)(E:XK),Room k (A.deeper (NR x (defScope st) s.heap.objs.size f cdv)) ->
  mP (nX IA P w K mg base N x (defScope st) f cdv A outer s H E).nox rl (defBody st) t)
 (hread:∀ws Q,Pd ws Q->t (wR Q) (dv N ws)):DfnP P w K mg base rl x ps (k+1) Pd:=by
 obtain⟨f,fd,hm,F,hb⟩:=Fn.ex;refine⟨mono,f,fd,hm,F.kp,hb,?_⟩;refine F.ok S (fun vs H Q E ⟨F,ws,_,_,r,_,q⟩=>(Kt r).trans (len ws _ q)) fun cdv A outer s H vs Q E hr h=>?_;obtain⟨F,ws,sm,ra,r,ok,q⟩:=h;obtain⟨T,p,kk⟩:=hbody cdv A outer s H E hr;refine⟨T,p,kk (eg sm ra r ok) (wR _) _ ⟨fun _ _ _ _ _ _ z=>J7 z,?_,fun _ _ _ _ _ _ z=>J7 z,fun _ _ _ _ _ _ z=>J7 z⟩ (hread ws _ q)⟩;rintro v w1 F1 H1 g1 r1 n1 ⟨z,rfl,q1⟩;exact q1 v F1 H1 g1 r1
def D8(Q:Iy->Prop):Fl->Prop
 | .rt w=>∃z:Iy,w = .dp z.1 z.2/\Q z
 | _=>False
theorem sC{Q:Iy->Prop}(h:mS t ρ (D8 Q)):t (wR Q) ρ:=h
theorem pz{Q:Iy->Prop}{kvs:List (Ie×IJ)}(h:Q (kvs,d)):ret (Fl.rt (.dp kvs d)) (D8 Q):=⟨(kvs,d),rfl,h⟩
end
section
variable{X:Cx}{rl:RlT}{e:Expr}{es:List Expr}{fs:HA}{pos p:Pos}{ρ:En}
def yD(Pd:List W->(Iy->Prop)->Prop)(fs:HA):TV:=fun ρ Q=>fs ρ fun ws=>ws.all d6=true/\Pd ws fun z=>Q (.dp z.1 z.2)
theorem oC{x:Str}{ps:List Str}{k:Nat}{Pd:List W->(Iy->Prop)->Prop}(D:DfnP X.prog X.w X.K X.mg X.base rl x ps k Pd)(hr:Room k X.A)(ha:HN X rl (e::es) fs)(hg:Gl X x:=by rfl)
 (hdb:(x==("__debug__" : Str))=false:=by decide)(he:IZ (e::es) X.env=(false,eval e X.env)::IZ es X.env:=by rfl)(hpl:(KC pos (IZ es X.env)).any (·.1)=false:=by rfl) :
 PV X rl (.Call (.Name x p) (e::es) [] pos) (yD Pd fs):=by
 obtain⟨f,fd,hm,hk,hb,F⟩:=D.ex;obtain⟨t,p1,kk⟩:=ha;refine⟨_,gj F hr hg hm hk hb .nil pY p1 hdb he hpl,fun R Qd Q q h=>kk R _ _ q fun vs ws F1 H1 g1 r1 ⟨ok,q1⟩=>?_⟩;refine⟨F1,ws,g1.sub,g1.reel,by rw[KO];exact r1,ok,?_⟩;exact D.mono ws _ _ (fun z qd v F2 H2 g2 r2=>h v (.dp z.1 z.2) F2 H2 (g1.trans g2) r2 trivial qd) q1
theorem m_vUseP(Pd:List W->(Iy->Prop)->Prop):yD Pd fs ρ=Hl (fs ρ) fun ws=>G6 (ws.all d6=true) (Hl (Pd ws) fun z=>ret (.dp z.1 z.2)):=nr rfl
end
theorem fz_fw(kvs:List (Ie×IJ)):(W.fw kvs).fz = .fw kvs:=rfl
theorem pk_fw(kvs:List (Ie×IJ)):(W.fw kvs).peek = .fw kvs:=rfl
theorem isPk_fw(kvs:List (Ie×IJ)):(W.fw kvs).isPk=false:=rfl
theorem isPk_mk(kvs:List (Ie×IJ)):(W.mk kvs).isPk=false:=rfl
theorem isPk_dp(kvs:List (Ie×IJ))(x:IJ):(W.dp kvs x).isPk=false:=rfl
def IH:=IL @m_compDK (IL @m_iWalk (IL @m_vDGetW (IL @m_vDInW (IL @m_vDict0K (IL @s_fzS (IL @s_dputK (IL @m_vTupP (IL @m_gIxP (IL @s_unP (IL @m_vUseP (IL @fz_fw (IL @pk_fw (IL @isPk_fw (IL @isPk_mk (IL @isPk_dp (IL @asFw_f (IL @asDp_f (IL @asMk_m (IL @asFwD_f (IL @isOne_1 (IL @keyW_i (@keyW_s))))))))))))))))))))))
end L2.VL
namespace L2.GA
def Cg(p a b:Int):Prop:=∃t,a=b+p*t
theorem Cg.refl(a:Int):Cg p a a:=⟨0,by omega⟩
theorem Cg.of{a:Int}(h:a=b):Cg p a b:=h ▸ .refl a
theorem Cg.symm{a:Int}(h:Cg p a b):Cg p b a:=let ⟨t,e⟩:=h;⟨-t,by grind⟩
theorem Cg.trans{a:Int}(h:Cg p a b)(k:Cg p b c):Cg p a c:=let ⟨t,e⟩:=h;let ⟨u,f⟩:=k;⟨t+u,by grind⟩
theorem Cg.add{a d:Int}(h:Cg p a b)(k:Cg p c d):Cg p (a+c) (b+d):=let ⟨t,e⟩:=h;let ⟨u,f⟩:=k;⟨t+u,by grind⟩
theorem Cg.sub{a d:Int}(h:Cg p a b)(k:Cg p c d):Cg p (a-c) (b-d):=let ⟨t,e⟩:=h;let ⟨u,f⟩:=k;⟨t-u,by grind⟩
theorem Cg.mul{a d:Int}(h:Cg p a b)(k:Cg p c d):Cg p (a*c) (b*d):=let ⟨t,e⟩:=h;let ⟨u,f⟩:=k;⟨t*d+b*u+p*t*u,by grind⟩
theorem Cg.mod(a:Int):Cg p (a.fmod p) a:=⟨-(a.fdiv p),by have:=Int.fmod_add_fdiv_mul a p;grind⟩
theorem Cg.eq{a:Int}(h:Cg p a b)(a0:0<=a)(a1:a<p)(b0:0<=b)(b1:b<p):a=b:=by
 obtain⟨t,e⟩:=h;have:a%p=b%p:=by rw[e,Ls]
 rwa [LN a0 a1,LN b0 b1]at this
theorem Cg.iff{a:Int}:Cg p a b↔a%p=b%p:=by
 constructor
 · rintro⟨t,e⟩;rw[e,Ls]
 · intro h;refine⟨a / p-b / p,?_⟩;have h1:=M4 a p;have h2:=M4 b p
   grind
theorem Ay(hp:0<p)(a:Int):a.fmod p=a%p:=Nv _ (by omega)
theorem fm_in(hp:0<p)(a:Int):0<=a.fmod p/\a.fmod p<p:=by rw[Ay hp];exact⟨Ox _ (by omega),NJ _ hp⟩
theorem lg{a:Int}(h0:0<=a)(h1:a<p):a.fmod p=a:=by rw[Ay (by omega)];exact LN h0 h1
def Sg(n:Nat)(f:Nat->Int):Int:=((Jq n).map f).sum
theorem cM(n:Nat)(f:Nat->Int):Sg (n+1) f=Sg n f+f n:=by unfold Sg;rw[Oy,JI,Np];simp
theorem mO(n:Nat)(f g:Nat->Int):Sg n (fun k=>f k+g k)=Sg n f+Sg n g:=by
 induction n with
 | zero=>rfl
 | succ n ih=>rw[cM,cM,cM,ih];omega
theorem gM(n:Nat)(f:Nat->Int)(c:Int):Sg n (fun k=>c*f k)=c*Sg n f:=by
 induction n with
 | zero=>simp[Sg]
 | succ n ih=>rw[cM,cM,ih,Int.mul_add]
theorem i8(n:Nat):Sg n (fun _=>0)=0:=by
 induction n with
 | zero=>rfl
 | succ n ih=>rw[cM,ih];rfl
theorem rH(n m:Nat)(f:Nat->Nat->Int):Sg n (fun i=>Sg m fun k=>f i k)=Sg m fun k=>Sg n fun i=>f i k:=by
 induction n with
 | zero =>
   have e:(fun k=>Sg 0 fun i=>f i k)=fun _=>(0:Int):=by funext k;rfl
   rw[e,i8];rfl
 | succ n ih =>
   rw[cM,ih,<- mO];congr 1;funext k;rw[cM]
theorem gZ(n:Nat){f g:Nat->Int}(h:∀k,k<n->f k=g k):Sg n f=Sg n g:=by
 unfold Sg;congr 1;exact KA fun k mk=>h k (Ko.mp mk)
theorem nP(n:Nat){f g:Nat->Int}(h:∀k,k<n->Cg p (f k) (g k)):Cg p (Sg n f) (Sg n g):=by
 induction n with
 | zero=>exact .refl _
 | succ n ih=>rw[cM,cM];exact(ih fun k hk=>h k (by omega)).add (h n (by omega))
theorem mN(n:Nat){a:Nat}(ha:a<n)(v:Int):Sg n (fun k=>if k=a then v else 0)=v:=by
 induction n with
 | zero=>omega
 | succ n ih =>
   rw[cM];by_cases e:a=n
   · subst e;rw[gZ (g:=fun _=>0) a fun k hk=>by rw[if_neg (by omega)],i8,if_pos rfl];omega
   · rw[ih (by omega),if_neg (by omega)];omega
noncomputable def clr(p:Int)(r o:List Int)(c:Nat):List Int:=(r.zip o).map fun z=>(z.1-r.getD c 0*z.2).fmod p
noncomputable def scl(p:Int)(r:List Int)(k:Int):List Int:=r.map fun x=>(k*x).fmod p
noncomputable def uni(n a:Nat):List Int:=(Jq n).map fun k=>if k=a then 1 else 0
def Fg(p:Int)(n:Nat)(r:List Int):Prop:=r.length=n/\∀k,k<n->0<=r.getD k 0/\r.getD k 0<p
theorem gD{xs:List Int}{k:Nat}(h:k<xs.length):xs.getD k 0=xs[k]:=by rw[IT,IV h];rfl
theorem clr_len{c:Nat}(hr:r.length=n)(ho:o.length=n):(clr p r o c).length=n:=by unfold clr;simp[hr,ho]
theorem jS{c k:Nat}(hr:r.length=n)(ho:o.length=n)(hk:k<n):(clr p r o c).getD k 0=(r.getD k 0-r.getD c 0*o.getD k 0).fmod p:=by
 rw[gD (by rw[clr_len hr ho];exact hk)];unfold clr;rw[KI,M7,gD (xs:=r) (k:=k) (by omega),gD (xs:=o) (k:=k) (by omega)]
theorem u8(hp:0<p){c:Nat}(hr:r.length=n)(ho:o.length=n):Fg p n (clr p r o c):=⟨clr_len hr ho,fun k hk=>by rw[jS hr ho hk];exact fm_in hp _⟩
theorem mG{c k:Nat}(hr:r.length=n)(ho:o.length=n)(hk:k<n):Cg p ((clr p r o c).getD k 0) (r.getD k 0-r.getD c 0*o.getD k 0):=by rw[jS hr ho hk];exact .mod _
theorem scl_len{a:Int}:(scl p r a).length=r.length:=by unfold scl;simp
theorem pf{a:Int}{k:Nat}(hk:k<r.length):(scl p r a).getD k 0=(a*r.getD k 0).fmod p:=by
 rw[gD (by rw[scl_len];exact hk)];unfold scl;rw[KI,gD hk]
theorem uni_len(n a:Nat):(uni n a).length=n:=by unfold uni;simp
theorem lI{a k:Nat}(hk:k<n):(uni n a).getD k 0=if k=a then 1 else 0:=by
 rw[gD (by rw[uni_len];exact hk)];unfold uni;simp
theorem nN{xs:List Int}{k:Nat}(h:k<xs.length):(xs++ys).getD k 0=xs.getD k 0:=by
 rw[IT,IT,K6 h]
theorem rC{xs:List Int}{k:Nat}:(xs++ys).getD (xs.length+k) 0=ys.getD k 0:=by
 rw[IT,IT,Lp (by omega)];congr 2;omega
theorem gE{xs:List Int}{c k:Nat}:(xs.drop c).getD k 0=xs.getD (c+k) 0:=by
 rw[IT,IT,List.getElem?_drop]
abbrev Kp:=List (Nat×List Int)
noncomputable def KS(ks:Kp)(f:Nat×List Int->Int):Int:=(ks.map f).sum
theorem cN(z:Nat×List Int)(ks:Kp)(f:Nat×List Int->Int):KS (z::ks) f=f z+KS ks f:=by unfold KS;simp
theorem xW(z:Nat×List Int)(ks:Kp)(f:Nat×List Int->Int):KS (ks++[z]) f=KS ks f+f z:=by unfold KS;simp
theorem AS(ks:Kp)(g:Nat×List Int->Nat×List Int)(f:Nat×List Int->Int):KS (ks.map g) f=KS ks fun z=>f (g z):=by unfold KS;rw[JY];rfl
theorem CK{ks:Kp}{f g:Nat×List Int->Int}(h:∀z∈ks,Cg p (f z) (g z)):Cg p (KS ks f) (KS ks g):=by
 induction ks with
 | nil=>exact .refl _
 | cons z ks ih=>rw[cN,cN];exact(h z IS).add (ih fun y hy=>h y (IM _ hy))
theorem AT(ks:Kp)(f g:Nat×List Int->Int):KS ks (fun z=>f z+g z)=KS ks f+KS ks g:=by
 induction ks with
 | nil=>rfl
 | cons z ks ih=>rw[cN,cN,cN,ih];omega
theorem ve(ks:Kp)(f:Nat×List Int->Int)(c:Int):KS ks (fun z=>f z*c)=KS ks f*c:=by
 induction ks with
 | nil=>simp[KS]
 | cons z ks ih=>rw[cN,cN,ih,Int.add_mul]
theorem xV{ks:Kp}{f:Nat×List Int->Int}(h:∀z∈ks,f z=0):KS ks f=0:=by
 induction ks with
 | nil=>rfl
 | cons z ks ih=>rw[cN,h z IS,ih fun y hy=>h y (IM _ hy)];rfl
theorem xX{ks:Kp}{f:Nat×List Int->Int}(nd:(ks.map (·.1)).Nodup){y:Nat×List Int}(hy:y∈ks)(h:∀z∈ks,z.1≠y.1->f z=0):KS ks f=f y:=by
 induction ks with
 | nil=>cases hy
 | cons z ks ih =>
   rw[cN];rw[Jg,Km]at nd;rcases JV.mp hy with rfl|hy'
   · rw[xV fun x hx=>h x (IM _ hx) fun e=>nd.1 (by rw[<- e];exact Lm hx)];omega
   · rw[h z IS fun e=>nd.1 (by rw[e];exact Lm hy'),ih nd.2 hy' fun x hx=>h x (IM _ hx)];omega
noncomputable def clrs(p:Int)(r:List Int)(ks:Kp):List Int:=ks.foldl (fun r z=>clr p r z.2 z.1) r
def Gd(p:Int)(C R:Nat)(T:List (List Int))(r:List Int):Prop:=∀c,c<C->Cg p (r.getD c 0) (Sg R fun k=>r.getD (C+k) 0*(T.getD k []).getD c 0)
structure GI (p:Int) (C R:Nat) (T:List (List Int)) (n:Nat) (ks:Kp):Prop where
 len:ks.length=n
 nd:(ks.map (·.1)).Nodup
 lt:∀z∈ks,z.1<C
 fg:∀z∈ks,Fg p (C+R) z.2
 pv:∀z∈ks,∀y∈ks,y.2.getD z.1 0=if y.1=z.1 then 1 else 0
 gd:∀z∈ks,Gd p C R T z.2
 su:∀z∈ks,∀k,n<=k->k<R->z.2.getD (C+k) 0=0
 jj:∀i,i<n->∀c,c<C+R->Cg p ((T.getD i []++uni R i).getD c 0) (KS ks fun z=>(T.getD i []).getD z.1 0*z.2.getD c 0)
theorem GI.nil(p:Int)(C R:Nat)(T:List (List Int)):GI p C R T 0 []:=⟨rfl,.nil,fun _ h=>(nomatch h),fun _ h=>(nomatch h),fun _ h=>(nomatch h),fun _ h=>(nomatch h),fun _ h=>(nomatch h),fun _ h=>by omega⟩
theorem Gd.clr{C R:Nat}{c:Nat}(hr:r.length=C+R)(ho:o.length=C+R)(g:Gd p C R T r)(g':Gd p C R T o):Gd p C R T (clr p r o c):=fun k hk=>by
 refine(mG hr ho (by omega)).trans ?_;refine((g k hk).sub ((Cg.refl (r.getD c 0)).mul (g' k hk))).trans ?_;rw[<- gM,Int.sub_eq_add_neg,<- Int.neg_one_mul,<- gM,<- mO];refine nP R fun j hj=>?_;refine Cg.symm ?_;refine((mG hr ho (k:=C+j) (by omega)).mul (.refl _)).trans (.of ?_)
 grind
theorem Gd.scl{C R:Nat}{a:Int}(hr:r.length=C+R)(g:Gd p C R T r):Gd p C R T (scl p r a):=fun k hk=>by
 rw[pf (by omega)];refine(Cg.mod _).trans (((Cg.refl a).mul (g k hk)).trans ?_);rw[<- gM];refine nP R fun j hj=>?_;rw[pf (by omega)];exact(((Cg.mod _).mul (.refl _)).trans (.of (by grind))).symm
theorem qW{p:Int}(hp:0<p){C R n:Nat}{T:List (List Int)}:∀{ks:Kp}{r:List Int},(ks.map (·.1)).Nodup->(∀z∈ks,z.1<C)->(∀z∈ks,Fg p (C+R) z.2)->(∀z∈ks,∀y∈ks,y.2.getD z.1 0=if y.1=z.1 then 1 else 0) ->
 (∀z∈ks,Gd p C R T z.2)->(∀z∈ks,∀k,n<=k->k<R->z.2.getD (C+k) 0=0)->Fg p (C+R) r->Gd p C R T r ->
 Fg p (C+R) (clrs p r ks)/\Gd p C R T (clrs p r ks)/\(∀c,c<C+R->Cg p ((clrs p r ks).getD c 0) (r.getD c 0-KS ks fun z=>r.getD z.1 0*z.2.getD c 0))/\∀k,n<=k->k<R->(clrs p r ks).getD (C+k) 0=r.getD (C+k) 0
 | [],r,_,_,_,_,_,_,fr,gr=>⟨fr,gr,fun c _=>.of (by simp[clrs,KS]),fun _ _ _=>rfl⟩
 | z::ks,r,nd,lt,fg,pv,gd,su,fr,gr=>by
   rw[Jg,Km]at nd;have fz:=fg z IS;have mm:∀{y},y∈ks->y∈z::ks:=fun h=>IM _ h
   obtain⟨a1,a2,a3,a4⟩:=qW hp (C:=C) (R:=R) (n:=n) (T:=T) (ks:=ks) (r:=clr p r z.2 z.1) nd.2 (fun y hy=>lt y (mm hy)) (fun y hy=>fg y (mm hy)) (fun y hy x hx=>pv y (mm hy) x (mm hx)) (fun y hy=>gd y (mm hy)) (fun y hy=>su y (mm hy))
    (u8 hp fr.1 fz.1) (Gd.clr fr.1 fz.1 gr (gd z IS))
   refine⟨a1,a2,fun c hc=>(a3 c hc).trans ?_,fun k h1 h2=>(a4 k h1 h2).trans ?_⟩
   · rw[cN]
     have e:∀y∈ks,(clr p r z.2 z.1).getD y.1 0=r.getD y.1 0:=fun y hy=>by
      have hl:=lt y (mm hy);rw[jS fr.1 fz.1 (by omega),pv y (mm hy) z IS,if_neg fun e=>nd.1 (by rw[e];exact Lm hy),LQ,Oz];exact lg (fr.2 _ (by omega)).1 (fr.2 _ (by omega)).2
     have e2:(KS ks fun y=>(clr p r z.2 z.1).getD y.1 0*y.2.getD c 0)=KS ks fun y=>r.getD y.1 0*y.2.getD c 0:=by
      unfold KS;congr 1;exact KA fun y hy=>by rw[e y hy]
     rw[e2];exact((mG fr.1 fz.1 hc).sub (.refl _)).trans (.of (by grind))
   · rw[jS fr.1 fz.1 (by omega),su z IS k h1 h2,LQ,Oz];exact lg (fr.2 _ (by omega)).1 (fr.2 _ (by omega)).2
structure Hg (p:Int) (C:Nat) (T:List (List Int)) (h:List Int):Prop where
 fg:Fg p T.length h
 ne:∃k,k<T.length/\h.getD k 0≠0
 no:∀c,c<C->Cg p (Sg T.length fun k=>h.getD k 0*(T.getD k []).getD c 0) 0
def row0(R n:Nat)(fs:List Int):List Int:=fs++uni R n
section
variable{p:Int}{C:Nat}{T:List (List Int)}{n:Nat}{ks:Kp}
theorem wq(p2:2<=p)(ht:∀t∈T,Fg p C t)(hn:n<T.length):Fg p (C+T.length) (row0 T.length n (T.getD n [])):=by
 have hT:Fg p C (T.getD n []):=by rw[IT,IV hn];exact ht _ (Jy hn)
 refine⟨by unfold row0;rw[JQ,uni_len,hT.1],fun k hk=>?_⟩;unfold row0;by_cases h:k<C
 · rw[nN (by rw[hT.1];exact h)];exact hT.2 k h
 · obtain⟨j,rfl⟩:∃j,k=(T.getD n []).length+j:=⟨k-C,by rw[hT.1];omega⟩;rw[rC,lI (by have:=hT.1;omega)];split<;>omega
theorem wp(ht:∀t∈T,Fg p C t)(hn:n<T.length):Gd p C T.length T (row0 T.length n (T.getD n [])):=fun c hc=>by
 have hT:(T.getD n []).length=C:=by rw[IT,IV hn];exact(ht _ (Jy hn)).1
 unfold row0;rw[nN (by rw[hT];exact hc)];refine .of ?_
 have e:∀k,k<T.length->(T.getD n []++uni T.length n).getD (C+k) 0*(T.getD k []).getD c 0=if k=n then(T.getD n []).getD c 0 else 0:=fun k hk=>by
  rw[<- hT,rC,lI hk];by_cases e:k=n
  · subst e;simp
  · rw[if_neg e,if_neg e,Int.zero_mul]
 rw[gZ _ e,mN _ hn]
theorem GI.row(p2:2<=p)(ht:∀t∈T,Fg p C t)(g:GI p C T.length T n ks)(hn:n<T.length) :
 Fg p (C+T.length) (clrs p (row0 T.length n (T.getD n [])) ks)/\Gd p C T.length T (clrs p (row0 T.length n (T.getD n [])) ks) /\
 (∀c,c<C+T.length->Cg p ((clrs p (row0 T.length n (T.getD n [])) ks).getD c 0) ((row0 T.length n (T.getD n [])).getD c 0-KS ks fun z=>(T.getD n []).getD z.1 0*z.2.getD c 0)) /\
 (∀z∈ks,(clrs p (row0 T.length n (T.getD n [])) ks).getD z.1 0=0)/\(clrs p (row0 T.length n (T.getD n [])) ks).getD (C+n) 0=1/\∀k,n<k->k<T.length->(clrs p (row0 T.length n (T.getD n [])) ks).getD (C+k) 0=0:=by
 have hT:(T.getD n []).length=C:=by rw[IT,IV hn];exact(ht _ (Jy hn)).1
 obtain⟨a1,a2,a3,a4⟩:=qW (by omega) (n:=n) g.nd g.lt g.fg g.pv g.gd g.su (wq p2 ht hn) (wp ht hn);have e0:∀z∈ks,(row0 T.length n (T.getD n [])).getD z.1 0=(T.getD n []).getD z.1 0:=fun z hz=>by unfold row0;exact nN (by rw[hT];exact g.lt z hz)
 have ek:∀c,(KS ks fun z=>(row0 T.length n (T.getD n [])).getD z.1 0*z.2.getD c 0)=KS ks fun z=>(T.getD n []).getD z.1 0*z.2.getD c 0:=fun c=>by
  unfold KS;congr 1;exact KA fun z hz=>by rw[e0 z hz]
 have er:∀k,k<T.length->(row0 T.length n (T.getD n [])).getD (C+k) 0=if k=n then 1 else 0:=fun k hk=>by unfold row0;rw[<- hT,rC,lI hk]
 refine⟨a1,a2,fun c hc=>by have:=a3 c hc;rwa [ek c]at this,fun z hz=>?_,?_,fun k h1 h2=>?_⟩
 · have hl:=g.lt z hz;have q:=a3 z.1 (by omega);rw[ek,e0 z hz,xX g.nd hz fun y hy ne=>by rw[g.pv z hz y hy,if_neg ne,LQ],g.pv z hz z hz,if_pos rfl,Nj,Int.sub_self]at q;exact q.eq (a1.2 _ (by omega)).1 (a1.2 _ (by omega)).2 (by omega) (by omega)
 · rw[a4 n (I_ _) hn,er n hn,if_pos rfl]
 · rw[a4 k (by omega) h2,er k h2,if_neg (by omega)]
theorem GI.hang(p2:2<=p)(ht:∀t∈T,Fg p C t)(g:GI p C T.length T n ks)(hn:n<T.length)(h0:∀c,c<C->(clrs p (row0 T.length n (T.getD n [])) ks).getD c 0=0) :
 Hg p C T ((clrs p (row0 T.length n (T.getD n [])) ks).drop C):=by
 obtain⟨a1,a2,a3,a4,a5,a6⟩:=g.row p2 ht hn;refine⟨⟨by rw[Kn,a1.1];omega,fun k hk=>by rw[gE];exact a1.2 _ (by omega)⟩,⟨n,hn,by rw[gE,a5];decide⟩,fun c hc=>?_⟩;have q:=a2 c hc;rw[h0 c hc]at q;refine Cg.symm (q.trans (.of (gZ _ fun k hk=>by rw[gE])))
theorem GI.step(p2:2<=p)(ht:∀t∈T,Fg p C t)(g:GI p C T.length T n ks)(hn:n<T.length){v:Nat}(hv:v<C){a:Int}
 (ha:Cg p (a*(clrs p (row0 T.length n (T.getD n [])) ks).getD v 0) 1) :
 (∀z∈ks,z.1≠v)/\GI p C T.length T (n+1) (ks.map (fun z=>(z.1,clr p z.2 (scl p (clrs p (row0 T.length n (T.getD n [])) ks) a) v))++[(v,scl p (clrs p (row0 T.length n (T.getD n [])) ks) a)]):=by
 obtain⟨a1,a2,a3,a4,a5,a6⟩:=g.row p2 ht hn;have hTl:∀i,i<T.length->(T.getD i []).length=C:=fun i hi=>by rw[IT,IV hi];exact(ht _ (Jy hi)).1
 have a3':∀c,c<C+T.length->Cg p ((T.getD n []++uni T.length n).getD c 0) ((clrs p (row0 T.length n (T.getD n [])) ks).getD c 0+KS ks fun z=>(T.getD n []).getD z.1 0*z.2.getD c 0):=fun c hc =>
  Cg.symm (((a3 c hc).add (.refl _)).trans (.of (by unfold row0;grind)))
 generalize hw:clrs p (row0 T.length n (T.getD n [])) ks=w at *;have sl:(scl p w a).length=C+T.length:=by rw[scl_len,a1.1]
 have sa:∀k,k<C+T.length->(scl p w a).getD k 0=(a*w.getD k 0).fmod p:=fun k hk=>pf (by rw[a1.1];exact hk)
 have sv:(scl p w a).getD v 0=1:=by
  rw[sa v (by omega)];exact((Cg.mod _).trans ha).eq (fm_in (by omega) _).1 (fm_in (by omega) _).2 (by omega) (by omega)
 have sz:∀z∈ks,(scl p w a).getD z.1 0=0:=fun z hz=>by
  have:=g.lt z hz;rw[sa z.1 (by omega),a4 z hz,LQ];exact lg (by omega) (by omega)
 have ne:∀z∈ks,z.1≠v:=fun z hz e=>by
  have:=a4 z hz;rw[e]at this;rw[this,LQ]at ha;have:=ha.eq (by omega) (by omega) (by omega) (by omega);omega
 have cl:∀z∈ks,∀k,k<C+T.length->(clr p z.2 (scl p w a) v).getD k 0=(z.2.getD k 0-z.2.getD v 0*(scl p w a).getD k 0).fmod p:=fun z hz k hk=>jS (g.fg z hz).1 sl hk
 have mem:∀y,y∈ks.map (fun z=>(z.1,clr p z.2 (scl p w a) v))++[(v,scl p w a)]->(∃z∈ks,y=(z.1,clr p z.2 (scl p w a) v))\/y=(v,scl p w a):=fun y hy=>by
  rcases JU.mp hy with h|h
  · obtain⟨z,hz,e⟩:=Jo.mp h;exact .inl ⟨z,hz,e.symm⟩
  · exact .inr (Kw.mp h)
 refine⟨ne,by simp[g.len],?_,fun y hy=>?_,fun y hy=>?_,fun y hy x hx=>?_,fun y hy=>?_,fun y hy k h1 h2=>?_,fun i hi c hc=>?_⟩
 · rw[JI,JY];refine List.nodup_append.mpr ⟨g.nd,by simp,fun x hx y hy=>?_⟩;obtain⟨z,hz,rfl⟩:=Jo.mp hx;simp at hy;subst hy;exact ne z hz
 · rcases mem y hy with⟨z,hz,rfl⟩|rfl
   · exact g.lt z hz
   · exact hv
 · rcases mem y hy with⟨z,hz,rfl⟩|rfl
   · exact u8 (by omega) (g.fg z hz).1 sl
   · exact⟨sl,fun k hk=>by rw[sa k hk];exact fm_in (by omega) _⟩
 · rcases mem y hy with⟨z,hz,rfl⟩|rfl
   · have zl:=g.lt z hz;rcases mem x hx with⟨u,hu,rfl⟩|rfl
     · show(clr p u.2 (scl p w a) v).getD z.1 0=_;rw[cl u hu z.1 (by omega),sz z hz,LQ,Oz,g.pv z hz u hu];show _=if u.1=z.1 then(1:Int)else 0
       split<;>exact lg (by omega) (by omega)
     · show(scl p w a).getD z.1 0=if v=z.1 then(1:Int)else 0
       rw[sz z hz,if_neg (MO (ne z hz))]
   · rcases mem x hx with⟨u,hu,rfl⟩|rfl
     · show(clr p u.2 (scl p w a) v).getD v 0=if u.1=v then(1:Int)else 0
       rw[cl u hu v (by omega),sv,Nj,Int.sub_self,if_neg (ne u hu)];exact lg (by omega) (by omega)
     · show(scl p w a).getD v 0=if v=v then(1:Int)else 0
       rw[sv,if_pos rfl]
 · rcases mem y hy with⟨z,hz,rfl⟩|rfl
   · exact Gd.clr (g.fg z hz).1 sl (g.gd z hz) (Gd.scl a1.1 a2)
   · exact Gd.scl a1.1 a2
 · have s0:(scl p w a).getD (C+k) 0=0:=by rw[sa (C+k) (by omega),a6 k (by omega) h2,LQ];exact lg (by omega) (by omega)
   rcases mem y hy with⟨z,hz,rfl⟩|rfl
   · show(clr p z.2 (scl p w a) v).getD (C+k) 0=0;rw[cl z hz (C+k) (by omega),s0,g.su z hz k (by omega) h2,LQ,Oz];exact lg (by omega) (by omega)
   · exact s0
 · -- every row is told by the kept ones
   have hil:i<T.length:=by omega
   obtain⟨q,hq⟩:∃q:Int,∀c,c<C+T.length->Cg p ((T.getD i []++uni T.length i).getD c 0) (KS ks (fun z=>(T.getD i []).getD z.1 0*z.2.getD c 0)+q*(scl p w a).getD c 0):=by
    by_cases e:i<n
    · exact⟨0,fun c hc=>(g.jj i e c hc).trans (.of (by omega))⟩
    · have e:i=n:=by omega
      subst e;refine⟨w.getD v 0,fun c hc=>(a3' c hc).trans ?_⟩;rw[OA];refine(Cg.refl _).add ?_;rw[sa c hc];refine Cg.symm (((Cg.refl _).mul (Cg.mod _)).trans ?_);refine Cg.trans (.of (show w.getD v 0*(a*w.getD c 0)=a*w.getD v 0*w.getD c 0 by grind)) ((ha.mul (.refl _)).trans (.of (by omega)))
   have qv:=hq v (by omega);rw[nN (by rw[hTl i hil];exact hv),sv,Nj]at qv;refine(hq c hc).trans ?_;rw[xW,AS];show Cg p _ ((KS ks fun z=>(T.getD i []).getD z.1 0*(clr p z.2 (scl p w a) v).getD c 0)+(T.getD i []).getD v 0*(scl p w a).getD c 0);refine Cg.symm (((CK (g:=fun z=>(T.getD i []).getD z.1 0*z.2.getD c 0 + -((T.getD i []).getD z.1 0*z.2.getD v 0)*(scl p w a).getD c 0) fun z hz=>?_).add (qv.mul (.refl _))).trans ?_)
   · exact((Cg.refl _).mul (mG (g.fg z hz).1 sl hc)).trans (.of (by grind))
   · rw[AT,ve];refine .of ?_
     have:(KS ks fun z=>-((T.getD i []).getD z.1 0*z.2.getD v 0)) = -(KS ks fun z=>(T.getD i []).getD z.1 0*z.2.getD v 0):=by
      have:=ve ks (fun z=>(T.getD i []).getD z.1 0*z.2.getD v 0) (-1);simp only[Int.mul_neg,Nj]at this;exact this
     rw[this]
     grind
noncomputable def xrow(C R:Nat)(ks:Kp)(c:Nat):List Int:=match ks.find? (fun z=>decide (z.1=c))with
 | some z=>z.2.drop C
 | none=>I0 R 0
theorem pE(R k:Nat):(I0 R (0:Int)).getD k 0=0:=by
 rw[IT,MA];split<;>rfl
theorem ly{C R k:Nat}(f:Nat->Int):∀{ks:Kp},(ks.map (·.1)).Nodup->(∀z∈ks,z.1<C)->Sg C (fun c=>f c*(xrow C R ks c).getD k 0)=KS ks fun z=>f z.1*z.2.getD (C+k) 0
 | [],_,_=>by
   rw[gZ (g:=fun _=>0) C fun c hc=>by show f c*(I0 R 0).getD k 0=0;rw[pE,LQ],i8];rfl
 | z::ks,nd,lt=>by
   rw[Jg,Km]at nd;have lz:=lt z IS;rw[cN,<- ly f nd.2 fun y hy=>lt y (IM _ hy)];rw[<- mN C lz (f z.1*z.2.getD (C+k) 0),<- mO];refine gZ C fun c hc=>?_;by_cases e:c=z.1
   · subst e;rw[if_pos rfl];have e1:xrow C R (z::ks) z.1=z.2.drop C:=by unfold xrow;rw[Ka];simp
     have e2:xrow C R ks z.1=I0 R 0:=by
      unfold xrow
      have:ks.find? (fun y=>decide (y.1=z.1))=none:=by
       rw[List.find?_eq_none];intro y hy h;exact nd.1 (by rw[<- of_decide_eq_true h];exact Lm hy)
      rw[this]
     rw[e1,e2,pE,gE];omega
   · rw[if_neg e];have e1:xrow C R (z::ks) c=xrow C R ks c:=by unfold xrow;rw[Ka];simp[MO e]
     rw[e1];omega
def IsRi(p:Int)(C:Nat)(T X:List (List Int)):Prop:=X.length=C/\(∀r∈X,Fg p T.length r)/\∀i,i<T.length->∀k,k<T.length->Cg p (Sg C fun c=>(T.getD i []).getD c 0*(X.getD c []).getD k 0) (if k=i then 1 else 0)
theorem GI.ri(p2:2<=p)(ht:∀t∈T,Fg p C t)(g:GI p C T.length T T.length ks):IsRi p C T ((Jq C).map fun c=>xrow C T.length ks c):=by
 refine⟨by simp,fun r hr=>?_,fun i hi k hk=>?_⟩
 · obtain⟨c,_,rfl⟩:=Jo.mp hr;unfold xrow;split
   · rename_i z e;have fz:=g.fg z (NP e);exact⟨by rw[Kn,fz.1];omega,fun k hk=>by rw[gE];exact fz.2 _ (by omega)⟩
   · exact⟨by simp,fun k hk=>by rw[pE];omega⟩
 · have hT:(T.getD i []).length=C:=by rw[IT,IV hi];exact(ht _ (Jy hi)).1
   have e:∀c,c<C->(T.getD i []).getD c 0*(((Jq C).map fun c=>xrow C T.length ks c).getD c []).getD k 0=(T.getD i []).getD c 0*(xrow C T.length ks c).getD k 0:=fun c hc=>by
    congr 2;rw[IT,IV (by simpa using hc)];simp
   rw[gZ C e,ly _ g.nd g.lt];have j:=g.jj i hi (C+k) (by omega);rw[<- hT,rC,lI hk,hT]at j;exact j.symm
def Ind(p:Int)(C:Nat)(T:List (List Int)):Prop:=∀f:Nat->Int,(∀c,c<C->Cg p (Sg T.length fun k=>f k*(T.getD k []).getD c 0) 0)->∀k,k<T.length->Cg p (f k) 0
theorem IsRi.ind{X:List (List Int)}(h:IsRi p C T X):Ind p C T:=fun f hf k hk=>by
 have e1:Cg p (Sg C fun c=>(Sg T.length fun i=>f i*(T.getD i []).getD c 0)*(X.getD c []).getD k 0) 0:=by
  refine(nP (g:=fun _=>0) C fun c hc=>((hf c hc).mul (.refl _)).trans (.of (by omega))).trans (.of (i8 C))
 have e2:(Sg C fun c=>(Sg T.length fun i=>f i*(T.getD i []).getD c 0)*(X.getD c []).getD k 0)=Sg T.length fun i=>f i*Sg C fun c=>(T.getD i []).getD c 0*(X.getD c []).getD k 0:=by
  have a1:(fun c=>(Sg T.length fun i=>f i*(T.getD i []).getD c 0)*(X.getD c []).getD k 0)=fun c=>Sg T.length fun i=>f i*((T.getD i []).getD c 0*(X.getD c []).getD k 0):=by
   funext c;rw[Ow,<- gM];congr 1;funext i
   grind
  rw[a1,rH];congr 1;funext i;rw[gM]
 rw[e2]at e1
 have e3:Cg p (Sg T.length fun i=>f i*Sg C fun c=>(T.getD i []).getD c 0*(X.getD c []).getD k 0) (f k):=by
  refine(nP (g:=fun i=>if i=k then f k else 0) T.length fun i hi=>((Cg.refl (f i)).mul (h.2.2 i hi k hk)).trans (.of ?_)).trans (.of (mN T.length hk (f k)));by_cases e:i=k
  · subst e;simp
  · rw[if_neg (MO e),if_neg e];simp
 exact e3.symm.trans e1
theorem Hg.not{h:List Int}(a:Hg p C T h):¬Ind p C T:=fun i=>by
 obtain⟨k,hk,ne⟩:=a.ne;have:=i (fun k=>h.getD k 0) a.no k hk;exact ne (this.eq (a.fg.2 k hk).1 (a.fg.2 k hk).2 (by omega) (by have:=a.fg.2 k hk;omega))
theorem xb:∀(C:Nat)(l:List Nat),l.Nodup->(∀x∈l,x<C)->l.length<=C
 | 0,l,_,h=>by
   cases l with
   | nil=>exact I_ _
   | cons x l=>exact absurd (h x IS) (by omega)
 | C+1,l,nd,h=>by
   by_cases m:C∈l
   · have:=xb C (l.erase C) (nd.erase C) fun x hx=>by
       rw[nd.mem_erase_iff]at hx;have:=h x hx.2;omega
     rw[Mx m]at this;omega
   · have:=xb C l nd fun x hx=>by
       have h1:=h x hx;have:x≠C:=fun e=>m (e▸hx);omega
     omega
theorem GI.le(g:GI p C T.length T n ks):n<=C:=by
 have:=xb C (ks.map (·.1)) g.nd fun x hx=>by
  obtain⟨z,hz,rfl⟩:=Jo.mp hx;exact g.lt z hz
 rw[IP,g.len]at this;exact this
end
def E4(p:Int)(C:Nat)(T:List (List Int)):Prop:=∀cs:List (Int×List Int),cs.map (·.2)=T->(∀c,c<C->Cg p (cs.map fun z=>z.1*z.2.getD c 0).sum 0)->∀z∈cs,Cg p z.1 0
theorem xU(cs:List α)(d:α)(g:α->Int):Sg cs.length (fun k=>g (cs.getD k d))=(cs.map g).sum:=by
 unfold Sg;congr 1;refine Mp (by simp) fun k a b=>?_;have hk:k<cs.length:=by simpa using b
 rw[KI,KI,MG,IT,IV hk];rfl
theorem Cb{C:Nat}:Ind p C T↔E4 p C T:=by
 constructor
 · intro h cs e hs z mz;obtain⟨k,hk,rfl⟩:=Ln mz;have hl:T.length=cs.length:=by rw[<- e,IP]
   have eT:∀k,T.getD k []=(cs.getD k (0,[])).2:=fun k=>by
    rw[<- e,IT,IT,JW];cases cs[k]?<;>rfl
   have q:=h (fun k=>(cs.getD k (0,[])).1) (fun c hc=>by
    have:=hs c hc;rw[<- xU cs (0,[]) fun z=>z.1*z.2.getD c 0]at this;rw[hl];refine(Cg.of (gZ _ fun k _=>?_)).trans this
    rw[eT]) k (by omega)
   have e1:cs.getD k (0,[])=cs[k]:=by rw[IT,IV hk];rfl
   have q:Cg p (cs.getD k (0,[])).1 0:=q
   rwa [e1]at q
 · intro h f hf k hk;refine h ((Jq T.length).map fun k=>(f k,T.getD k [])) ?_ (fun c hc=>?_) (f k,T.getD k []) (Jo.mpr ⟨k,Ko.mpr hk,rfl⟩)
   · rw[JY];refine Mp (by simp) fun i a b=>?_;have hi:i<T.length:=by simpa using a
     simp[IT,IV hi]
   · rw[JY];exact hf c hc
theorem tj{T':List (List Int)}(h:T'.Sublist T):∀cs:List (Int×List Int),cs.map (·.2)=T'->∃cs':List (Int×List Int),cs'.map (·.2)=T/\(∀z∈cs,z∈cs')/\∀c,(cs'.map fun z=>z.1*z.2.getD c 0).sum=(cs.map fun z=>z.1*z.2.getD c 0).sum:=by
 induction h with
 | slnil=>intro cs e;exact⟨cs,e,fun z h=>h,fun _=>rfl⟩
 | cons a h ih =>
   intro cs e;obtain⟨cs',h1,h2,h3⟩:=ih cs e
   exact⟨(0,a)::cs',by rw[Jg,h1],fun z hz=>IM _ (h2 z hz),fun c=>by rw[Jg,JD,h3];omega⟩
 | cons_cons a h ih =>
   intro cs e
   cases cs with
   | nil=>cases e
   | cons z cs =>
     rw[Jg,Kf]at e;obtain⟨cs',h1,h2,h3⟩:=ih cs e.2;refine⟨z::cs',by rw[Jg,h1,e.1],fun y hy=>?_,fun c=>by rw[Jg,Jg,JD,JD,h3]⟩;rcases JV.mp hy with rfl|hy
     · exact IS
     · exact IM _ (h2 y hy)
theorem Ind.sub{C:Nat}{T':List (List Int)}(h:T'.Sublist T)(i:Ind p C T):Ind p C T':=Cb.mpr fun cs e hs z mz=>by
 obtain⟨cs',h1,h2,h3⟩:=tj h cs e;exact Cb.mp i cs' h1 (fun c hc=>by rw[h3];exact hs c hc) z (h2 z mz)
noncomputable def rowsG(ts:List (List (List Int)))(ks:List Int):List (List Int):=(ts.zip ks).flatMap fun z=>z.1.take z.2.toNat
def Net(p:Int)(m:Nat)(ts:List (List (List Int)))(w:Int):Prop:=∀ks:List Int,ks.length=ts.length->(∀k∈ks,0<=k)->ks.sum=w->Ind p m (rowsG ts ks)
theorem Net.down{w:Int}(t1:1<=ts.length)(h:Net p m ts (w+1)):Net p m ts w:=fun ks kl k0 ksum=>by
 cases ts with
 | nil=>simp at t1
 | cons t ts =>
   cases ks with
   | nil=>simp at kl
   | cons k ks =>
     have k0':=k0 k IS;refine(h ((k+1)::ks) (by simpa using kl) (fun y hy=>?_) (by rw[JD]at ksum ⊢;omega)).sub ?_
     · rcases JV.mp hy with rfl|hy
       · omega
       · exact k0 y (IM _ hy)
     · unfold rowsG;rw[La,Li,La,Li];refine List.Sublist.append ?_ (List.Sublist.refl _);show(t.take k.toNat).Sublist (t.take (k+1).toNat);have:t.take k.toNat=(t.take (k+1).toNat).take k.toNat:=by rw[List.take_take];congr 1;omega
       rw[this];exact List.take_sublist _ _
theorem Net.le{p:Int}{m:Nat}{ts:List (List (List Int))}(t1:1<=ts.length):∀(n:Nat){w:Int},Net p m ts (w+n)->Net p m ts w
 | 0,w,h=>by simpa using h
 | n+1,w,h=>Net.le t1 n (Net.down t1 (by rwa [show w+(n:Int)+1=w+((n+1:Nat):Int) by omega]))
structure Str (p:Int) (m:Nat) (ts:List (List (List Int))) (o:Int):Prop where
 o0:0<=o
 om:o<=m
 net:o≠0->Net p m ts o
 FV:∀w,o<w->w<=m->¬Net p m ts w
theorem Str.all{o w:Int}(h:Str p m ts o)(t1:1<=ts.length)(w1:1<=w)(wo:w<=o):Net p m ts w:=by
 have q:=h.net (by omega);exact Net.le t1 (o-w).toNat (by rwa [show w+((o-w).toNat:Int)=o by omega])
end L2.GA
namespace L2
section
variable{X:Cx}
end
end L2
namespace L2.VL
section
variable{X:Cx}{rl:RlT}{a e:Expr}{fs:HA}{pos p:Pos}
end
end L2.VL
namespace L2.TM
end L2.TM
namespace L2
section
variable{X:Cx}
end
end L2
namespace L2.VL
section
variable{X:Cx}{rl:RlT}{a b:Expr}{fa fb:TV}{pos:Pos}
end
section
variable{X:Cx}{al:Option Addr}{c:Nat}{a:Expr}{lo hi:Option Expr}{fa:TV}{fl fh:HC}{pos p2:Pos}{tg:Expr}
end
section
variable{X:Cx}{rl:RlT}{iter:Expr}{scope:Scope}{fi:En->(List IJ->Prop)->Prop}{xk xl xh f:Str}{ps:List Str}{k:Nat}{Pd:List W->(IJ->Prop)->Prop}{pk p1 p2 p3 p4 p5 p6 p7 p8 p9 p10 ap pc rp:Pos}
end
section
variable{X:Cx}{al:Option Addr}{c1 c2:Nat}{iter:Expr}{scope:Scope}{fi:En->(List IJ->Prop)->Prop}{xk xl xh f:Str}{ps:List Str}{k:Nat}{Pd:List W->(IJ->Prop)->Prop}{pk p1 p2 p3 p4 p5 p6 p7 p8 p9 p10 ap pc rp:Pos}
end
end L2.VL
namespace L2
def Iq(hi:Int)(n:Nat):It:=⟨fun i _=>i<n,fun i H x H'=>H'=H/\x = .int (hi-i),fun i _=>n<=i⟩
theorem oQ{K:W.Frag}(it:Addr)(hi:Int)(n:Nat):Turn P w K tg (Iq hi n) [it] it (fun i h=>OO h it (hi+(i:Nat)*(-1)) ((n:Int)-(i:Nat)) (-1)) where
 mem:=by simp
 obj:=fun i h st b hb=>by
  have e:b=it:=by simpa using hb
  subst e
  exact⟨_,st,fun v z=>by
   have z':Data.fields _=Data.cell v:=z
   cases z'⟩
 keep:=fun i h h' st k=>k it (by simp) _ st
 item:=by
  intro X hP hw hK hc i pins s σ H E I hf st hg;subst hP hw hK;obtain⟨f0,f1,f2,f3,f4,f5⟩:=hf it (by simp);have W:=Walks.range (prog:=X.prog) (w:=X.w) (I.ok.hd hc) it hi (-1) n;refine W.item i s _ _ hg st fun v h' tk hv st' kk=>?_;obtain⟨t,rfl⟩:=hv;have I1:Inv X pins σ H {s with heap:=h',toks:=tk}:=I.turned (fun b o hb e=>kk b o (by simpa using hb) e) f0 f1 f3 f4 f5;refine⟨_,rfl,nH (s:={s with heap:=h',toks:=tk}) (n := "range_iterator") st' rfl rfl (by decide) ⟨.int (hi-i),H,I1,⟨t,?_⟩,⟨rfl,rfl⟩,st',fun b hb=>(hf b hb).1⟩⟩;congr 1;omega
 done:=by
  intro X hP hw hK hc i pins s σ H E I hf st hg;subst hP hw hK;obtain⟨f0,f1,f2,f3,f4,f5⟩:=hf it (by simp);exact Oa (I.ok.hd hc) st (by have:n<=i:=hg;omega) fun h' eb=>⟨rfl,I.turned (t':=s.toks) (fun b o hb e=>eb b o hb e) f0 f1 f3 f4 f5⟩
 self:=fun _ _ _ _ _ st h=>Ob st h
theorem rangeSize_down(a b:Int):LV a b (-1)=if b<a then a-b else 0:=by
 unfold LV;rw[if_neg (by decide)];simp only[show(-(-1):Int)=1 by decide,Pg];by_cases h:b<a
 · rw[if_pos h,if_pos h];omega
 · rw[if_neg h,if_neg h]
theorem small_down{a:Int}(ha : -(2^61)<=a)(ha':a<2^61)(hb : -(2^61)<=b)(hb':b<2^61):OV a b (-1)=true:=by
 unfold OV;rw[rangeSize_down];simp only[Builtin.Range.rangeFitsLong,Mn,Bool.or_eq_true,decide_eq_true_eq,beq_iff_eq,show ¬((-1:Int)>0) by decide,if_false];split<;>omega
section
variable{X:Cx}{tg:Expr}
def Cc(ta:TA):TI:=fun σ H R=>ta σ H fun vs H1=>∃i j:Int,vs=[.int i,.int j,.int (-1)]/\(-(2^61)<=i/\i<2^61 /\ -(2^61)<=j/\j<2^61)/\R (Iq i (i-j).toNat) H1
theorem pP{a b c:Expr}{ta:TA}{p:Pos}(hg:Gl X "range")(hm:X.mg "range" = none)(ha:PA X [a,b,c] ta)(hs:IZ [a,b,c] X.env=(false,eval a X.env)::IZ [b,c] X.env:=by rfl)(hpl:(KC pos (IZ [b,c] X.env)).any (·.1)=false:=by rfl) :
 PI X tg (.Call (.Name "range" p) [a,b,c] [] pos) (Cc ta):=by
 intro pins s σ H R I h;refine Call_ (fD I hg hm boot_range (Ke (FX (ha pos pins s σ H _ I h) fun us s1 ⟨vs,H1,I1,r1,q1⟩=>?_) hs hpl));obtain⟨i,j,e,⟨h1,h2,h3,h4⟩,q⟩:=q1;subst e
 cases r1 with
 | cons r rr =>
   cases rr with
   | cons r' rr =>
     cases rr with
     | cons r'' rr =>
       cases rr;obtain⟨t,rfl⟩:=r;obtain⟨u,rfl⟩:=r';obtain⟨v,rfl⟩:=r'';refine call_range_3 (by decide) ?_;refine wpAny_pyIter_range (IsRange.new ..) (small_down h1 h2 h3 h4) ?_;have I2:Inv X pins σ H1 {s1 with heap:=s1.heap.push {cls:=.type "range", data:=.fields #[.int i t,.int j u,.int (-1) v]}}:=I1.kept (t':=s1.toks) fun b o e=>IQ _ e
       refine⟨(s1.heap.push {cls:=.type "range", data:=.fields #[.int i t,.int j u,.int (-1) v]}).objs.size,[(s1.heap.push {cls:=.type "range", data:=.fields #[.int i t,.int j u,.int (-1) v]}).objs.size],_,_,H1,rfl,
        I2.kept (t':=s1.toks) fun b o e=>IQ _ e,oQ _ i (i-j).toNat,?_,fun b hb=>?_,q⟩
       · have e1:i+((0:Nat):Int)*(-1)=i:=by simp
         have e2:(((i-j).toNat:Nat):Int)-((0:Nat):Int)=LV i j (-1):=by rw[rangeSize_down];split<;>omega
         show OO _ _ (i+((0:Nat):Int)*(-1)) ((((i-j).toNat:Nat):Int)-((0:Nat):Int)) (-1);rw[e1,e2];exact Jf _ rfl
       · have e:b=(s1.heap.push {cls:=.type "range", data:=.fields #[.int i t,.int j u,.int (-1) v]}).objs.size:=by simpa using hb
         subst e;exact I2.fpOk (I_ _) (I2.hok.fresh (I_ _))
end
end L2
namespace L2.VL
section
variable{X:Cx}{rl:RlT}{a b c tg:Expr}{fs:HA}{pos p:Pos}{ρ:En}
noncomputable def jO(hi:Int)(n:Nat):List IJ:=(Jq n).map fun(i:Nat)=>.int (hi-i)
theorem jN{hi:Int}{x:IJ}(h:(jO hi n)[i]?=some x):i<n/\x = .int (hi-i):=by
 unfold jO at h;rw[JW]at h;by_cases q:i<n
 · rw[List.getElem?_range q]at h;cases h;exact⟨q,rfl⟩
 · rw[M0 (by simpa using q)]at h;cases h
theorem jM(hi:Int)(n:Nat):(jO hi n).length=n:=by unfold jO;simp
theorem rS{K:W.Frag}(hi:Int)(n:Nat):VIt K rl F (Iq hi n) (jO hi n) :=
 .of (fun i H x e s=>(jN e).1) (fun i H hl s=>by rw[jM]at hl;exact hl) (fun i H v H' x e s y=>by
  obtain⟨e1,e2⟩:=y;subst e2;rw[(jN e).2]
  exact⟨e1,.int _⟩)
def G1(fs:HA):En->(List IJ->Prop)->Prop:=fun ρ Q=>fs ρ fun ws=>∃i j:Int,ws=[.d (.int i),.d (.int j),.d (.int (-1))]/\(-(2^61)<=i/\i<2^61 /\ -(2^61)<=j/\j<2^61)/\Q (jO i (i-j).toNat)
theorem ol(hm:X.mg "range" = none)(ha:HN X rl [a,b,c] fs)(hg:Gl X "range" := by rfl)(hs:IZ [a,b,c] X.env=(false,eval a X.env)::IZ [b,c] X.env:=by rfl)(hpl:(KC pos (IZ [b,c] X.env)).any (·.1)=false:=by rfl) :
 HW X rl tg (.Call (.Name "range" p) [a,b,c] [] pos) (G1 fs):=by
 obtain⟨t,p1,k⟩:=ha;refine⟨_,pP hg hm p1 hs hpl,fun R Qd Q q h=>k R _ _ q fun vs ws F1 H1 g1 r1 ⟨i,j,ew,b,q1⟩=>?_⟩;subst ew
 cases r1 with
 | cons ra r1 =>
   obtain⟨v,u,rfl,rv,ru⟩:=zi r1;have e:=aJ ra;have e':=aJ rv;have e'':=aJ ru;subst e e' e'';exact⟨i,j,rfl,b,h _ _ F1 H1 g1 (rS i _) q1⟩
noncomputable def Ca(ws:List W):Option (Int×Int):=match ws with
 | [.d (.int i),.d (.int j),.d (.int (-1))]=>some (i,j)
 | _=>none
theorem An(i j:Int):Ca [.d (.int i),.d (.int j),.d (.int (-1))]=some (i,j):=rfl
theorem B4:G1 fs ρ=Hl (fs ρ) fun ws=>aQ (Ca ws) fun z=>G6 (-(2^61)<=z.1/\z.1<2^61 /\ -(2^61)<=z.2/\z.2<2^61) (ret (jO z.1 (z.1-z.2).toNat)):=by
 show(Hl (fs ρ) fun ws=>fun(Q:List IJ->Prop)=>∃i j:Int,ws=[.d (.int i),.d (.int j),.d (.int (-1))]/\(-(2^61)<=i/\i<2^61 /\ -(2^61)<=j/\j<2^61)/\Q (jO i (i-j).toNat))=_;congr 1;funext ws;refine ag fun Q=>?_;simp only[aq,G6,ret];constructor
 · rintro⟨i,j,rfl,h,q⟩;exact⟨(i,j),rfl,h,q⟩
 · rintro⟨⟨i,j⟩,e,h,q⟩;unfold Ca at e;split at e
   · cases e;exact⟨i,j,rfl,h,q⟩
   · cases e
end
end L2.VL
namespace L2.GA
noncomputable def AF(p:Nat):Nat->List (List Int)
 | 0=>[[]]
 | n+1=>(AF p n).flatMap fun x=>(Jq p).map fun(f:Nat)=>x++[(f:Int)]
def ex(p:Nat)(xs:List (List Int)):List (List Int):=xs.flatMap fun x=>(Jq p).map fun(f:Nat)=>x++[(f:Int)]
noncomputable def ap(p:Int)(C:Nat)(T:List (List Int))(x:List Int):List Int:=T.map fun row=>(Sg C fun c=>row.getD c 0*x.getD c 0).fmod p
theorem Fg.ext{y:List Int}(hx:Fg p n x)(hy:Fg p n y)(h:∀k,k<n->x.getD k 0=y.getD k 0):x=y:=by
 refine Mp (hx.1.trans hy.1.symm) fun k a b=>?_;have:=h k (by rw[<- hx.1];exact a)
 rwa [gD a,gD b]at this
theorem Fg.snoc{f:Int}(hx:Fg p n x)(h0:0<=f)(h1:f<p):Fg p (n+1) (x++[f]):=by
 refine⟨by simp[hx.1],fun k hk=>?_⟩;by_cases e:k<n
 · rw[nN (by rw[hx.1];exact e)];exact hx.2 k e
 · have:k=x.length+0:=by rw[hx.1];omega
   rw[this,rC];exact⟨h0,h1⟩
theorem Fg.unsnoc{y:List Int}(hy:Fg p (n+1) y):∃x f,y=x++[f]/\Fg p n x/\0<=f/\f<p:=by
 have l:n<y.length:=by rw[hy.1];omega
 have e:y=y.take n++[y[n]]:=by
  conv=>lhs;rw[<- L_ n y,J1 l,List.drop_eq_nil_of_le (by rw[hy.1];omega)]
 refine⟨y.take n,y[n],e,⟨by rw[JF];omega,fun k hk=>?_⟩,?_⟩
 · have q:=hy.2 k (by omega);rw[e,nN (by rw[JF];omega)]at q;exact q
 · have q:=hy.2 n (by omega)
   rwa [gD l]at q
theorem mem_AF{p:Nat}:∀{n:Nat}{x:List Int},x∈AF p n↔Fg p n x
 | 0,x=>by
   show x∈[[]]↔_;rw[Kw]
   exact⟨fun h=>by subst h;exact⟨rfl,fun k hk=>absurd hk (by omega)⟩,fun h=>Kl.mp h.1⟩
 | n+1,y=>by
   show y∈(AF p n).flatMap _↔_;rw[Lu];constructor
   · rintro⟨x,mx,h⟩;obtain⟨f,mf,rfl⟩:=Jo.mp h;have:=Ko.mp mf;exact(mem_AF.mp mx).snoc (by omega) (by omega)
   · intro h;obtain⟨x,f,rfl,hx,f0,f1⟩:=h.unsnoc;exact⟨x,mem_AF.mpr hx,Jo.mpr ⟨f.toNat,Ko.mpr (by omega),by rw[Kk f0]⟩⟩
theorem AF_len(p:Nat):∀n,(AF p n).length=p^n
 | 0=>rfl
 | n+1=>by
   show((AF p n).flatMap _).length=_;rw[Mt,KA (g:=fun _=>p) fun x _=>by rw[IP,KL],Nq,L1,AF_len p n,Ou]
theorem AF_nd(p:Nat):∀n,(AF p n).Nodup
 | 0=>by show [[]].Nodup;simp
 | n+1=>by
   show((AF p n).flatMap _).Nodup;rw[JH,List.pairwise_flatMap];refine⟨fun x _=>?_,(JH.mp (AF_nd p n)).imp fun ne a ha b hb e=>?_⟩
   · rw[Mi];refine MT (fun{a b} ne e=>ne ?_) (JH.mp N_);have:=List.append_cancel_left e;have:(a:Int)=b:=by simpa using this
     omega
   · obtain⟨f,_,rfl⟩:=Jo.mp ha;obtain⟨g,_,rfl⟩:=Jo.mp hb;exact ne (List.append_inj_left' e rfl)
theorem nd_sub{α:Type}[DecidableEq α]:∀{A B:List α},A.Nodup->(∀a∈A,a∈B)->A.length<=B.length
 | [],_,_,_=>Kc _
 | a::A,B,h,s=>by
   have h':=Km.mp h;have hb:=s a (IS ..);have:=nd_sub (B:=B.erase a) h'.2 fun x mx=>(OJ (fun e=>h'.1 (by rw[e]at mx;exact mx))).mpr (s x (IM _ mx));rw[Mx hb]at this;have:=List.length_pos_of_mem hb;simp only[JL];omega
theorem oZ{β:Type}[DecidableEq β](y:β):∀{gs:List β},gs.Nodup->y∈gs->(gs.map fun g=>if y=g then 1 else 0).sum=1
 | [],_,h=>(nomatch h)
 | g::gs,nd,h=>by
   have nd':=Km.mp nd;rw[Jg,JD];by_cases e:y=g
   · subst e;rw[if_pos rfl,KA (g:=fun _=>0) fun g mg=>if_neg fun z=>nd'.1 (by rw[z];exact mg),Nq,L1];simp
   · rw[if_neg e,oZ y nd'.2 ((JV.mp h).resolve_left e)]
theorem lL{β:Type}(f g:β->Nat):∀gs:List β,(gs.map fun x=>f x+g x).sum=(gs.map f).sum+(gs.map g).sum
 | []=>rfl
 | x::xs=>by simp only[Jg,JD,lL f g xs];omega
theorem fT{α β:Type}[DecidableEq β](f:α->β){gs:List β}(nd:gs.Nodup):∀{xs:List α},(∀x∈xs,f x∈gs)->(gs.map fun g=>xs.countP fun x=>decide (f x=g)).sum=xs.length
 | [],_=>by
   have e:(fun g=>([]:List α).countP fun x=>decide (f x=g))=fun _=>0:=rfl
   rw[e,Nq,L1];simp
 | x::xs,h=>by
   have ih:=fT f nd (xs:=xs) fun y my=>h y (IM _ my)
   have e:(fun g=>(x::xs).countP fun x=>decide (f x=g))=fun g=>(xs.countP fun x=>decide (f x=g))+if f x=g then 1 else 0:=by
    funext g;rw[List.countP_cons];simp
   rw[e,lL,ih,oZ (f x) nd (h x (IS ..))];rfl
section
variable{p C:Nat}{T X:List (List Int)}
theorem rE(hp:0<p)(x:List Int):Fg p T.length (ap p C T x):=by
 refine⟨by unfold ap;rw[IP],fun k hk=>?_⟩;unfold ap;rw[gD (by rw[IP];exact hk),KI];exact fm_in (by omega) _
theorem AR{k:Nat}(hk:k<T.length):Cg p ((ap p C T x).getD k 0) (Sg C fun c=>(T.getD k []).getD c 0*x.getD c 0):=by
 unfold ap;rw[gD (by rw[IP];exact hk),KI,show T.getD k []=T[k] by rw[IT,IV hk];rfl];exact .mod _
theorem ze(h:IsRi p C T X)(d:Nat->Int)(hi:i<T.length):Cg p (Sg C fun c=>(T.getD i []).getD c 0*Sg T.length fun k=>(X.getD c []).getD k 0*d k) (d i):=by
 have e:(Sg C fun c=>(T.getD i []).getD c 0*Sg T.length fun k=>(X.getD c []).getD k 0*d k)=Sg T.length fun k=>d k*Sg C fun c=>(T.getD i []).getD c 0*(X.getD c []).getD k 0:=by
  rw[gZ (g:=fun c=>Sg T.length fun k=>(T.getD i []).getD c 0*((X.getD c []).getD k 0*d k)) _ fun c _=>(gM _ _ _).symm,rH];refine gZ _ fun k _=>?_;rw[<- gM];exact gZ _ fun c _=>by grind
 rw[e];refine(nP (g:=fun k=>if k=i then d i else 0) _ fun k hk=>?_).trans (.of (mN _ hi _));refine(Cg.mul (.refl _) (h.2.2 i hi k hk)).trans (.of ?_);by_cases z:k=i
 · subst z;simp
 · have z':¬i=k:=fun q=>z q.symm;simp[z,z']
noncomputable def mv(p C:Nat)(X:List (List Int))(R:Nat)(g g' x:List Int):List Int:=(Jq C).map fun c=>(x.getD c 0+Sg R fun k=>(X.getD c []).getD k 0*(g'.getD k 0-g.getD k 0)).fmod p
theorem sX{R:Nat}{c:Nat}(hc:c<C):(mv p C X R g g' x).getD c 0=(x.getD c 0+Sg R fun k=>(X.getD c []).getD k 0*(g'.getD k 0-g.getD k 0)).fmod p:=by
 unfold mv;rw[gD (by simpa using hc),KI,MG]
theorem B1(hp:0<p){R:Nat}:Fg p C (mv p C X R g g' x):=⟨by unfold mv;simp,fun c hc=>by rw[sX hc];exact fm_in (by omega) _⟩
theorem B2(hp:0<p)(h:IsRi p C T X)(hg':Fg p T.length g')(e:ap p C T x=g):ap p C T (mv p C X T.length g g' x)=g':=by
 refine(rE hp _).ext hg' fun i hi=>?_;refine Cg.eq ((AR hi).trans ?_) ((rE (C:=C) hp _).2 i hi).1 ((rE (C:=C) hp _).2 i hi).2 (hg'.2 i hi).1 (hg'.2 i hi).2;have q1:Cg p (Sg C fun c=>(T.getD i []).getD c 0*x.getD c 0) (g.getD i 0):=by rw[<- e];exact(AR hi).symm
 have q2:=ze h (fun k=>g'.getD k 0-g.getD k 0) hi;refine(nP (g:=fun c=>(T.getD i []).getD c 0*x.getD c 0+(T.getD i []).getD c 0*Sg T.length fun k=>(X.getD c []).getD k 0*(g'.getD k 0-g.getD k 0)) _ fun c hc=>?_).trans ?_
 · rw[sX hc];exact(Cg.mul (.refl _) (.mod _)).trans (.of (by rw[Int.mul_add]))
 · rw[mO];exact(q1.add q2).trans (.of (by omega))
theorem z_{R:Nat}{y:List Int}(hx:Fg p C x)(hy:Fg p C y)(e:mv p C X R g g' x=mv p C X R g g' y):x=y:=by
 refine hx.ext hy fun c hc=>?_;have q:(mv p C X R g g' x).getD c 0=(mv p C X R g g' y).getD c 0:=by rw[e]
 rw[sX hc,sX hc]at q;have:Cg p (x.getD c 0+Sg R fun k=>(X.getD c []).getD k 0*(g'.getD k 0-g.getD k 0)) (y.getD c 0+Sg R fun k=>(X.getD c []).getD k 0*(g'.getD k 0-g.getD k 0)):=(Cg.mod _).symm.trans (by rw[q];exact .mod _);obtain⟨t,et⟩:=this;exact Cg.eq ⟨t,by omega⟩ (hx.2 c hc).1 (hx.2 c hc).2 (hy.2 c hc).1 (hy.2 c hc).2
noncomputable def cnt(p C:Nat)(T:List (List Int))(g:List Int):Nat:=(AF p C).countP fun x=>decide (ap p C T x=g)
theorem u7(hp:0<p)(h:IsRi p C T X)(hg':Fg p T.length g'):cnt p C T g<=cnt p C T g':=by
 unfold cnt;rw[Lf,Lf]
 have nd:(((AF p C).filter fun x=>decide (ap p C T x=g)).map (mv p C X T.length g g')).Nodup:=by
  rw[JH,Mi];refine O4.imp_of_mem (fun{a b} ma mb ne e=>ne ?_) (JH.mp ((AF_nd p C).filter _));exact z_ (mem_AF.mp (LG.mp ma).1) (mem_AF.mp (LG.mp mb).1) e
 have:=nd_sub nd (B:=(AF p C).filter fun x=>decide (ap p C T x=g')) fun y my=>by
  obtain⟨x,mx,rfl⟩:=Jo.mp my;have:=LG.mp mx;exact LG.mpr ⟨mem_AF.mpr (B1 hp),by simpa using B2 hp h hg' (by simpa using this.2)⟩
 simpa using this
theorem xN(hp:0<p)(h:IsRi p C T X)(hg:Fg p T.length g):cnt p C T g*p^T.length=p^C:=by
 have s:=fT (ap p C T) (AF_nd p T.length) (xs:=AF p C) fun x _=>mem_AF.mpr (rE hp x);have s:((AF p T.length).map fun g=>cnt p C T g).sum=(AF p C).length:=s;rw[AF_len,KA (g:=fun _=>cnt p C T g) fun g' m=>Nat.le_antisymm (u7 hp h hg) (u7 hp h (mem_AF.mp m)),Nq,L1,AF_len]at s;rw[Om];exact s
end
theorem Ao(hp:p=2\/p=3\/p=5\/p=7){x:Int}(h0:0<x)(h1:x<p):∃a,Cg p (a*x) 1:=by
 have:∃a:Int,(a*x)%p=1%p:=by
  rcases hp with rfl|rfl|rfl|rfl
  · obtain rfl:x=1:=by omega
    exact⟨1,by decide⟩
  · rcases(by omega:x=1\/x=2)with rfl|rfl
    · exact⟨1,by decide⟩
    · exact⟨2,by decide⟩
  · rcases(by omega:x=1\/x=2\/x=3\/x=4)with rfl|rfl|rfl|rfl
    · exact⟨1,by decide⟩
    · exact⟨3,by decide⟩
    · exact⟨2,by decide⟩
    · exact⟨4,by decide⟩
  · rcases(by omega:x=1\/x=2\/x=3\/x=4\/x=5\/x=6)with rfl|rfl|rfl|rfl|rfl|rfl
    · exact⟨1,by decide⟩
    · exact⟨4,by decide⟩
    · exact⟨5,by decide⟩
    · exact⟨2,by decide⟩
    · exact⟨3,by decide⟩
    · exact⟨6,by decide⟩
 obtain⟨a,h⟩:=this;exact⟨a,Cg.iff.mpr h⟩
theorem As{p:Int}(hp:p=2\/p=3\/p=5\/p=7){C:Nat}{T:List (List Int)}(ht:∀t∈T,Fg p C t):∀n,n<=T.length->(∃h,Hg p C T h)\/∃ks,GI p C T.length T n ks
 | 0,_=>.inr ⟨[],GI.nil p C T.length T⟩
 | n+1,hn=>by
   have p2:2<=p:=by omega
   rcases As hp ht n (by omega)with h|⟨ks,g⟩
   · exact .inl h
   · by_cases z:∀c,c<C->(clrs p (row0 T.length n (T.getD n [])) ks).getD c 0=0
     · exact .inl ⟨_,g.hang p2 ht (by omega) z⟩
     · obtain⟨v,hv⟩:=Classical.not_forall.mp z;obtain⟨hv,nz⟩:=Classical.not_imp.mp hv;obtain⟨a1,_⟩:=g.row p2 ht (show n<T.length by omega);have b:=a1.2 v (by omega);obtain⟨a,ha⟩:=Ao hp (x:=(clrs p (row0 T.length n (T.getD n [])) ks).getD v 0) (by omega) b.2;exact .inr ⟨_,(g.step p2 ht (by omega) hv ha).2⟩
theorem ri_or(hp:p=2\/p=3\/p=5\/p=7){C:Nat}(ht:∀t∈T,Fg p C t):(∃h,Hg p C T h)\/∃X,IsRi p C T X:=by
 rcases As hp ht T.length (I_ _)with h|⟨ks,g⟩
 · exact .inl h
 · exact .inr ⟨_,g.ri (by omega) ht⟩
def tvN(p:Int)(fs:List Int):Int:=fs.foldl (fun s d=>s*p+d) 0
noncomputable def Eg(p:Int):List Nat->List Int->List Int
 | [],_=>[]
 | k::ks,g=>tvN p (g.take k)::Eg p ks (g.drop k)
theorem hV(p:Int):∀(fs:List Int)(s:Int),fs.foldl (fun s d=>s*p+d) s=s*p^fs.length+tvN p fs
 | [],s=>by simp[tvN]
 | d::fs,s=>by
   unfold tvN;rw[KQ,KQ,hV p fs,hV p fs (0*p+d),JL,KY]
   grind
theorem se{p:Int}(hp:0<p):∀{fs:List Int},(∀d∈fs,0<=d/\d<p)->0<=tvN p fs/\tvN p fs<p^fs.length
 | [],_=>by simp[tvN]
 | d::fs,h=>by
   have hd:=h d (IS ..);have ih:=se hp (fs:=fs) fun x mx=>h x (IM _ mx)
   have e:tvN p (d::fs)=d*p^fs.length+tvN p fs:=by
    show L0 _ (0*p+d) fs=_;rw[hV];grind
   have q:0<p^fs.length:=J6 hp;rw[e,JL,KY];constructor
   · have:=Int.mul_nonneg hd.1 (M1 q);omega
   · have:(d+1)*p^fs.length<=p*p^fs.length:=LP (by omega) (M1 q)
     grind
theorem oK{p:Int}(hp:0<p):∀{fs gs:List Int},fs.length=gs.length->(∀d∈fs,0<=d/\d<p)->(∀d∈gs,0<=d/\d<p)->tvN p fs=tvN p gs->fs=gs
 | [],[],_,_,_,_=>rfl
 | d::fs,e::gs,hl,h1,h2,q=>by
   have l:fs.length=gs.length:=by simpa using hl
   have i1:=se hp (fs:=fs) fun x mx=>h1 x (IM _ mx);have i2:=se hp (fs:=gs) fun x mx=>h2 x (IM _ mx)
   have e1:tvN p (d::fs)=d*p^fs.length+tvN p fs:=by
    show L0 _ (0*p+d) fs=_;rw[hV];grind
   have e2:tvN p (e::gs)=e*p^fs.length+tvN p gs:=by
    show L0 _ (0*p+e) gs=_;rw[hV,<- l];grind
   rw[<- l]at i2;rw[e1,e2]at q;have pp:0<p^fs.length:=J6 hp;generalize p^fs.length=B at *
   have de:d=e:=by
    have a1:(d*B+tvN p fs) / B=d:=by rw[OA,MM _ _ (by omega),MN i1.1 i1.2];omega
    have a2:(e*B+tvN p gs) / B=e:=by rw[OA,MM _ _ (by omega),MN i2.1 i2.2];omega
    rw[<- a1,<- a2,q]
   subst de;rw[oK hp l (fun x mx=>h1 x (IM _ mx)) (fun x mx=>h2 x (IM _ mx)) (by omega)]
theorem vh{p:Int}(hp:0<p):∀{ks:List Nat}{g g':List Int},g.length=ks.sum->g'.length=ks.sum->(∀d∈g,0<=d/\d<p)->(∀d∈g',0<=d/\d<p)->Eg p ks g=Eg p ks g'->g=g'
 | [],g,g',h1,h2,_,_,_=>by
   have a1:g=[]:=Kl.mp (by simpa using h1);have a2:g'=[]:=Kl.mp (by simpa using h2)
   rw[a1,a2]
 | k::ks,g,g',h1,h2,b1,b2,e=>by
   rw[JD]at h1 h2;unfold Eg at e;rw[Kf]at e;have t1:g.take k=g'.take k:=oK hp (by rw[JF,JF];omega) (fun d m=>b1 d (KW m)) (fun d m=>b2 d (KW m)) e.1;have t2:=vh hp (ks:=ks) (g:=g.drop k) (g':=g'.drop k) (by rw[Kn];omega) (by rw[Kn];omega) (fun d m=>b1 d (Mk m)) (fun d m=>b2 d (Mk m)) e.2;rw[<- L_ k g,<- L_ k g',t1,t2]
theorem tv_cut(hp:0<p){fs:List Int}{k:Nat}(hk:k<=fs.length)(h:∀d∈fs,0<=d/\d<p):(tvN p fs).fdiv (p^(fs.length-k))=tvN p (fs.take k):=by
 have e:tvN p fs=tvN p (fs.take k)*p^(fs.length-k)+tvN p (fs.drop k):=by
  have:tvN p fs=(fs.take k++fs.drop k).foldl (fun s d=>s*p+d) 0:=by rw[L_];rfl
  rw[this,Mg,hV,Kn];rfl
 have i:=se hp (fs:=fs.drop k) fun d m=>h d (Mk m);rw[Kn]at i;have pp:0<p^(fs.length-k):=J6 hp;rw[e,J5 _ (M1 pp),OA,MM _ _ (by omega),MN i.1 i.2,M3]
end L2.GA
namespace L2.VL
section
variable{X:Cx}{rl:RlT}{a b c o e:Expr}{es:List Expr}{fa fb:TV}{fs:HA}{pos p px apos cpos:Pos}{ρ:En}
end
end L2.VL
namespace L2
section
variable{X:Cx}{o e f:Expr}{apos cpos:Pos}{td ty tx:TE}
end
end L2
namespace L2.VL
section
variable{X:Cx}{rl:RlT}{a b c o e:Expr}{es:List Expr}{fa fb:TV}{fs:HA}{pos p px apos cpos:Pos}{ρ:En}
end
end L2.VL
namespace L2.GA
section
variable{p C:Nat}{T X:List (List Int)}{ks:List Nat}
theorem Fg.bd{p:Int}(h:Fg p n x):∀d∈x,0<=d/\d<p:=fun d m=>by
 obtain⟨k,hk,rfl⟩:=Ln m;have:=h.2 k (by rw[<- h.1];exact hk)
 rwa [gD hk]at this
theorem sM(hp:0<p)(hk:ks.sum=T.length)(hg:Fg p T.length g):((AF p C).map fun x=>Eg p ks (ap p C T x)).count (Eg p ks g)=cnt p C T g:=by
 unfold cnt;rw[List.count,Ma];refine MU fun x mx=>?_;show(Eg p ks (ap p C T x)==Eg p ks g)=true↔_;rw[beq_iff_eq,decide_eq_true_iff];have f:=rE (C:=C) (T:=T) hp x;exact⟨fun e=>vh (by omega) (by rw[f.1,hk]) (by rw[hg.1,hk]) f.bd hg.bd e,fun e=>by rw[e]⟩
end
end L2.GA
namespace L2.VL
open PySem PySem.Spec
noncomputable def lim(c:List Rat):List Rat:=0::(c++[1])
theorem BR{d:Int}(h:0<d):qd 0 d=0:=by unfold qd;rw[PK];show(0:Rat)*_=0;rw[Rat.zero_mul]
theorem D1{d:Int}(h:0<d):qd d d=1:=by
 unfold qd;have:=cQ h
 grind
theorem wB(a b:Int){d:Int}(h:0<d):qd a d-qd b d=qd (a-b) d:=by
 unfold qd;have:=cQ h;rw[Rat.intCast_sub]
 grind
theorem pJ(a b:Int){d:Int}(h:0<d):qd a d+qd b d=qd (a+b) d:=by
 unfold qd;have:=cQ h;rw[Rat.intCast_add]
 grind
theorem getD_mem{xs:List α}{k:Nat}{d:α}(h:k<xs.length):xs.getD k d∈xs:=by
 rw[IT,IV h];exact Jy h
theorem iD(xs:List Int):d_ (aR xs)=some (xs.map .int):=rfl
theorem c_(xs:List Int):tupD (aR xs)=some (xs.map .int):=rfl
theorem k_(xs:List Int)(i:Int):itemAt (aR xs) i=(atI xs i).map .int:=cq _ _ _
theorem iW(xs:List Int):qu (aR xs)=some xs.length:=by show some (xs.map Jl).length=_;rw[IP]
theorem du(xs:List Int):Jz (xs.map Jl)=aR xs:=rfl
theorem di(l:List α)(f:α->Int):l.map (fun z=>Jl (f z))=(l.map f).map .int:=by rw[JY];rfl
theorem iS(l:List α)(f:α->List Int):l.map (fun z=>aR (f z))=(l.map f).map aR:=by rw[JY];rfl
theorem getD_of{xs:List α}{k:Nat}{d:α}(h:k<xs.length):xs.getD k d=xs[k]:=by rw[IT,IV h];rfl
theorem ue{xs:List α}{i:Int}(d:α)(h0:0<=i)(h1:i<(xs.length:Int)):atI xs i=some (xs.getD i.toNat d):=by rw[mL h0 h1,getD_of (by omega)]
open PySem PySem.Spec
theorem fV{α:Type}:∀{l:List α}{n:Nat},l.length=n+1->∃b t,l=b++[t]
 | [],_,h=>by simp at h
 | [x],_,_=>⟨[],x,rfl⟩
 | x::y::l,n,h=>by
   obtain⟨b,t,e⟩:=fV (l:=y::l) (n:=l.length) (by simp);exact⟨x::b,t,by rw[e];rfl⟩
theorem tN(l r:List α)(i:Nat)(d:α)(h:i<l.length):(l++r).getD i d=l.getD i d:=by
 rw[IT,IT,K6 h]
theorem tM(l r:List α)(i:Nat)(d:α)(h:l.length<=i):(l++r).getD i d=r.getD (i-l.length) d:=by
 rw[IT,IT,Lp h]
noncomputable def chP{α:Type}(rows:List (List α)):List (List α):=rows.foldl (fun ch r=>ch.flatMap fun b=>r.map fun t=>b++[t]) [[]]
theorem i7(rows:List (List α))(r:List α):chP (rows++[r])=(chP rows).flatMap fun b=>r.map fun t=>b++[t]:=by
 unfold chP;rw[Mg];rfl
theorem iR{α:Type}(d:α):∀(n:Nat)(rows:List (List α)),rows.length=n->∀es,es∈chP rows↔es.length=n/\∀i,i<n->es.getD i d∈rows.getD i []
 | 0,rows,h,es=>by
   cases Kl.mp h;show es∈[[]]↔_;rw[Kw];constructor
   · rintro rfl;exact⟨rfl,fun i hi=>by omega⟩
   · rintro⟨e,_⟩;exact Kl.mp e
 | n+1,rows,h,es=>by
   obtain⟨rs,r,rfl⟩:∃rs r,rows=rs++[r]:=fV h;have hl:rs.length=n:=by simp at h;exact h
   rw[i7,Lu];constructor
   · rintro⟨b,mb,mes⟩;obtain⟨t,mt,rfl⟩:=Jo.mp mes;obtain⟨bl,hb⟩:=(iR d n rs hl b).mp mb;refine⟨by simp[bl],fun i hi=>?_⟩;by_cases z:i<n
     · rw[tN _ _ _ _ (by omega),tN _ _ _ _ (by omega)];exact hb i z
     · have:i=n:=by omega
       subst this;rw[tM _ _ _ _ (by omega),tM _ _ _ _ (by omega),bl,hl,Nat.sub_self];exact mt
   · rintro⟨el,he⟩;obtain⟨b,t,rfl⟩:∃b t,es=b++[t]:=fV el;have bl:b.length=n:=by simp at el;exact el
     refine⟨b,(iR d n rs hl b).mpr ⟨bl,fun i hi=>?_⟩,Jo.mpr ⟨t,?_,rfl⟩⟩
     · have:=he i (by omega);rw[tN _ _ _ _ (by omega),tN _ _ _ _ (by omega)]at this;exact this
     · have:=he n (by omega);rw[tM _ _ _ _ (by omega),tM _ _ _ _ (by omega),bl,hl,Nat.sub_self]at this;exact this
noncomputable def Gs(p es:List Rat):Bool:=(p.zip es).all fun z=>!decide (z.2<z.1)
noncomputable def Gi(es:List Rat):Rat:=sK (es.map fun e=>mx e 0)
noncomputable def Gr(ps:List (List Rat))(es:List Rat):Nat:=(ps.filter fun p=>Gs p es).length
noncomputable def ov(ps:List (List Rat))(es:List Rat):Rat:=qd (Gr ps es) ps.length-Gi es
end L2.VL
namespace L2.GA
open L2.VL PySem
theorem yM{p:Int}(hp:0<p):∀(k:Nat)(c:Int),0<=c->c<p^k->∃fs:List Int,fs.length=k/\(∀d∈fs,0<=d/\d<p)/\tvN p fs=c
 | 0,c,h0,h1=>⟨[],rfl,by simp,by show(0:Int)=c;rw[L8]at h1;omega⟩
 | k+1,c,h0,h1=>by
   have q0:0<=c / p:=Nr h0 (by omega);have q1:c / p<p^k:=Int.ediv_lt_of_lt_mul hp (by rw[KY]at h1;exact h1);obtain⟨fs,fl,hf,e⟩:=yM hp k (c / p) q0 q1;refine⟨fs++[c%p],by simp[fl],fun d md=>?_,?_⟩
   · rcases JU.mp md with h|h
     · exact hf d h
     · rw[Kw.mp h];exact⟨Ox _ (by omega),NJ _ hp⟩
   · unfold tvN at *;rw[Mg,e];show c / p*p+c%p=c;have:=Int.mul_ediv_add_emod c p;rw[Ow];exact this
theorem AV{p:Int}(hp:0<p):∀(ks:List Nat)(cs:List Int),cs.length=ks.length->(∀z∈cs.zip ks,0<=z.1/\z.1<p^z.2)->∃g:List Int,g.length=ks.sum/\(∀d∈g,0<=d/\d<p)/\Eg p ks g=cs
 | [],[],_,_=>⟨[],rfl,by simp,rfl⟩
 | k::ks,c::cs,hl,h=>by
   obtain⟨c0,c1⟩:=h (c,k) IS;obtain⟨fs,fl,hf,e⟩:=yM hp k c c0 c1;obtain⟨g,gl,hg,e2⟩:=AV hp ks cs (by simpa using hl) fun z mz=>h z (IM _ mz);refine⟨fs++g,by rw[JQ,JD,fl,gl],fun d md=>?_,?_⟩
   · rcases JU.mp md with h|h
     · exact hf d h
     · exact hg d h
   · show tvN p ((fs++g).take k)::Eg p ks ((fs++g).drop k)=_
     rw[List.take_left' fl,List.drop_left' fl,e,e2]
 | [],_::_,hl,_=>by simp at hl
 | _::_,[],hl,_=>by simp at hl
theorem ie{α β:Type}{f:α->List β}:∀{l:List α},l.Nodup->(∀a∈l,(f a).Nodup)->(∀a∈l,∀b∈l,∀x,x∈f a->x∈f b->a=b)->(l.flatMap f).Nodup
 | [],_,_,_=>.nil
 | a::l,nd,h1,h2=>by
   rw[Li,List.nodup_append];have nd':=Km.mp nd;refine⟨h1 a IS,ie nd'.2 (fun b mb=>h1 b (IM _ mb)) (fun b mb c mc=>h2 b (IM _ mb) c (IM _ mc)),fun x mx y my e=>?_⟩;obtain⟨b,mb,my⟩:=Lu.mp my;subst e;have:=h2 a IS b (IM _ mb) x mx my;subst this;exact nd'.1 mb
theorem u9{α:Type}:∀(n:Nat)(rows:List (List α)),rows.length=n->(∀r∈rows,r.Nodup)->(chP rows).Nodup
 | 0,rows,h,_=>by cases Kl.mp h;exact Km.mpr ⟨by simp,.nil⟩
 | n+1,rows,h,hr=>by
   obtain⟨rs,r,rfl⟩:=fV h;have hl:rs.length=n:=by simp at h;exact h
   rw[i7];refine ie (u9 n rs hl fun x mx=>hr x (M8 _ mx)) (fun b _=>?_) fun a _ b _ x mx my=>?_
   · have:=hr r (Jm _ IS);rw[JH,Mi];exact MT (fun{a c} ne e=>ne (by simpa using e)) (JH.mp this)
   · obtain⟨s,_,rfl⟩:=Jo.mp mx;obtain⟨t,_,e⟩:=Jo.mp my;have:=List.append_inj' e rfl;exact this.1.symm
def prdN(ns:List Nat):Nat:=ns.foldl (· * ·) 1
theorem prdN_snoc(ns:List Nat)(n:Nat):prdN (ns++[n])=prdN ns*n:=by unfold prdN;rw[Mg];rfl
theorem qY{α:Type}:∀(n:Nat)(rows:List (List α)),rows.length=n->(chP rows).length=prdN (rows.map N1)
 | 0,rows,h=>by cases Kl.mp h;rfl
 | n+1,rows,h=>by
   obtain⟨rs,r,rfl⟩:=fV h;have hl:rs.length=n:=by simp at h;exact h
   rw[i7,Mt,JI,Jg,ND,prdN_snoc,<- qY n rs hl]
   have:∀(l:List (List α)),(l.map fun b=>(r.map fun t=>b++[t]).length).sum=l.length*r.length:=fun l=>by
    induction l with
    | nil=>simp
    | cons b l ih=>rw[Jg,JD,ih,IP,JL,NB];omega
   exact this _
theorem rO{cs:List Int}{ks:List Nat}(hl:cs.length=ks.length){P:Int->Nat->Prop}(h:∀i,i<ks.length->P (cs.getD i 0) (ks.getD i 0)):∀z∈cs.zip ks,P z.1 z.2:=by
 intro z mz;obtain⟨i,hi,rfl⟩:=Ln mz;rw[LO]at hi;have:=h i (by omega);rw[M7]
 rwa [L2.VL.getD_of (show i<cs.length by omega),L2.VL.getD_of (show i<ks.length by omega)]at this
variable{p C:Nat}{T X:List (List Int)}{ks:List Nat}
theorem box_cnt(hp:0<p)(h:IsRi p C T X)(hk:ks.sum=T.length){rows:List (List Int)}(rl:rows.length=ks.length)(rn:∀r∈rows,r.Nodup)(rin:∀i,i<ks.length->∀c∈rows.getD i [],0<=c/\c<(p:Int)^ks.getD i 0) :
 ((AF p C).countP fun x=>decide (Eg p ks (ap p C T x)∈chP rows))*p^T.length=prdN (rows.map N1)*p^C:=by
 have nd:=u9 _ rows rl rn
 have hc:∀c∈chP rows,((AF p C).countP fun x=>decide (Eg p ks (ap p C T x)=c))*p^T.length=p^C:=fun c mc=>by
  obtain⟨cl,hci⟩:=(iR 0 _ rows rl c).mp mc;obtain⟨g,gl,hg,e⟩:=AV (p:=(p:Int)) (by omega) ks c cl (rO cl (P:=fun a k=>0<=a/\a<(p:Int)^k) fun i hi=>rin i hi _ (hci i hi))
  have fg:Fg p T.length g:=⟨by rw[gl,hk],fun k hk'=>by
   have kl:k<g.length:=by rw[gl,hk];exact hk'
   rw[gD kl];exact hg _ (Jy kl)⟩
  have pc:=sM (C:=C) hp hk fg;rw[List.count,Ma,e]at pc
  have:(AF p C).countP (fun x=>decide (Eg p ks (ap p C T x)=c))=cnt p C T g:=by
   rw[<- pc];refine MU fun x mx=>?_;show _↔(Eg p ks (ap p C T x)==c)=true;rw[beq_iff_eq,decide_eq_true_iff]
  rw[this];exact xN hp h fg
 have sc:=fT (fun x=>Eg p ks (ap p C T x)) nd (xs:=(AF p C).filter fun x=>decide (Eg p ks (ap p C T x)∈chP rows)) fun x mx=>of_decide_eq_true (LG.mp mx).2;rw[<- Lf]at sc;rw[<- sc,<- qY _ rows rl]
 have key:∀l:List (List Int),(∀c∈l,c∈chP rows)->(l.map fun g=>((AF p C).filter fun x=>decide (Eg p ks (ap p C T x)∈chP rows)).countP fun x=>decide (Eg p ks (ap p C T x)=g)).sum*p^T.length=l.length*p^C:=by
  intro l
  induction l with
  | nil=>intro _;simp
  | cons c l ih =>
    intro hl;rw[Jg,JD,Nat.add_mul,ih fun d md=>hl d (IM _ md),JL,NB,List.countP_filter];have mc:=hl c IS
    have e:(AF p C).countP (fun x=>decide (Eg p ks (ap p C T x)=c)&&decide (Eg p ks (ap p C T x)∈chP rows))=(AF p C).countP fun x=>decide (Eg p ks (ap p C T x)=c):=by
     refine MU fun x mx=>?_;rw[Mn,decide_eq_true_iff,decide_eq_true_iff];exact⟨fun z=>z.1,fun z=>⟨z,by rw[z];exact mc⟩⟩
    rw[e,hc c mc];omega
 exact key _ fun c mc=>mc
end L2.GA
namespace K68
open PySem PySem.Spec PyProof.Rows L2 L2.VL
local macro_rules | `(tactic| simp_arith only [$xs,*])=>`(tactic| simp (maxSteps:=2000000) (disch:=(first | assumption | omega | decide)) only [C0,C3,C6,C5,C4,CU,CT,CZ,CY,CW,C2,C1,Bi,Gq,Go,dw,dv,dX,W.cap,GR,List.replicate,id,↓reduceIte,if_true,Nat.reduceAdd,Nat.reduceSub,Nat.reduceLeDiff,Int.cast_ofNat_Int,Int.reduceBEq,Int.reduceSub,Int.reduceAdd,Int.reduceLT,Int.reduceLE,Int.reduceMul,Int.reduceNeg,reduceCtorEq,ii,$xs,*])
local macro_rules | `(tactic| simp_arith only [$xs,*] at $h:ident)=>`(tactic| simp only [List.cons.injEq,W.d.injEq,PyData.int.injEq,PyData.bool.injEq,PyData.str.injEq,PyData.list.injEq,PyData.tuple.injEq,lJ,s_,sg,dj,and_true,true_and,reduceCtorEq,$xs,*] at $h:ident)
section
variable{P:Ju}{w:J_}{K:LR}{mg:Str->Option IR}{base:Heap}{rl:RlT}{al:Option Addr}
def A4(ws:List W):Prop:=∃(ns:List Int)(k:Int),ws=[.sc ns,.d (.int k)]/\ns.length<=63/\0<=k/\k<1000
theorem jv:FnScope ["_law_script", "_law_at", "_law_cell"] ["_law_script", "_law_at"] (defScope (FV 51)):=⟨rfl,rfl,rfl,by decide +kernel,rfl,by decide +kernel,by decide +kernel⟩
theorem d__law_tape(Fn:FnIn K mg "_law_tape" (FV 51) ["_law_script", "_law_at"])(Z:Bz mg):DfnR P w K mg base "_law_tape" ["_law_script", "_law_at"] 2 A4:=by
 have sc:=jv;obtain⟨f,fd,hm,F,hb⟩:=Fn.ex;refine⟨f,fd,hm,F.kp,hb,?_⟩;refine F.ok (k:=1) sc (fun vs H Q E h=>?_) (fun cdv A outer s H vs Q E hr h=>?_)
 · obtain⟨F,ws,_,r,_,⟨ns,k,rfl,_⟩,_⟩:=h;have:=Kt r;simpa using this
 · obtain⟨F,ws,sm,r,ao,⟨ns,k,rfl,hn,k0,k1⟩,fin⟩:=h;obtain⟨T,p,kk⟩:=oV (X:=(nX IA P w K mg base ["_law_script", "_law_at", "_law_cell"] "_law_tape" (defScope (FV 51)) f cdv A outer s H E).nox) (aD 2 sc.nd (vn 1)) (cS (bm iQ iw (aT _) (ke Z.len_ (aa (vn 0) ac)) ah) (au (aD 2 sc.nd (v_add (yC (vn 0) (v_mod (vn 1) (ke Z.len_ (aa (vn 0) ac)))) (v_div (vn 1) (ke Z.len_ (aa (vn 0) ac)))))) bP) (vn 2) (ut Z.max_ (aa ah (aa (v_sub (vn 2) (v_pow ah ah)) ac))) ah;refine⟨T,p,kk (eg sm (fun _ z=>by cases z) r ao) _ ?_ fin⟩;simp_arith only[af];by_cases h:(0:Int)<(ns.length:Int)
   · have hz:(ns.length:Int)≠0:=by omega
     obtain⟨z,hz'⟩:∃z,L2.atI ns (k.fmod (ns.length:Int))=some z:=by
      obtain⟨z,e,_⟩:=AN (xs:=ns) (KE k h) (K_ k h);exact⟨z,e⟩
     have cd:g_ k (ns.length:Int):=g_.of hz (by omega);rw[if_pos (by simpa using h)];simp_arith only[ai,af,hz'];refine⟨_,rfl,?_⟩;simp_arith only[af];refine⟨⟨by decide,by decide,by decide⟩,?_⟩;exact⟨_,_,_,rfl,by omega,rfl⟩
   · rw[if_neg (by simpa using h)];refine⟨_,rfl,?_⟩;simp_arith only[af];refine⟨⟨by decide,by decide,by decide⟩,?_⟩;exact⟨_,_,_,rfl,by omega,rfl⟩
def bf:List W->(IJ->Prop)->Prop:=fun ws Q=>∃(m:Int),ws=[.reel,.d (.int m)]/\((0<m)/\(m<2^60))/\∀k:Int,(0<=k/\k<m)->Q (.int k)
theorem bf.mono:∀ws (Q Q':IJ->Prop),(∀d,Q d->Q' d)->bf ws Q->bf ws Q':=fun _ _ _ h_ ⟨m,e_,p_,q_⟩=>⟨m,e_,p_,fun o_ ho_=>h_ _ (q_ o_ ho_)⟩
theorem bf.len:∀ws (Q:IJ->Prop),bf ws Q->ws.length=2:=fun _ _ ⟨_,e_,_⟩=>by subst e_;rfl
theorem bf.eq(m:Int)(hm:0<m)(hb:m<2^60):bf [.reel,.d (.int m)]=Hl (anyM fun k:Int=>0<=k/\k<m) fun k=>VL.ret (.int k:IJ):=by
 refine ag fun Q=>⟨?_,fun q_=>⟨m,rfl,⟨hm,hb⟩,q_⟩⟩;rintro⟨m',e_,_,q_⟩;simp_arith only[and_true]at e_;obtain rfl:=e_;exact q_
theorem jx:FnScope ["_law_tape_here", "_law_many", "_law_turn", "_law_found", "_law_stirred"] ["_law_tape_here", "_law_many"] (defScope (FV 52)):=⟨rfl,rfl,rfl,by decide +kernel,rfl,by decide +kernel,by decide +kernel⟩
theorem d__law_pick(Fn:FnIn K mg "_law_pick" (FV 52) ["_law_tape_here", "_law_many"])(Z:Bz mg)    : DfnC P w K mg base al 1 "_law_pick" ["_law_tape_here", "_law_many"] 1 bf:=by
 have sc:=jx
 refine DfnC.of Fn sc (bf.mono) (bf.len) (fun cdv A outer s H E hr=>(xM 2 0 (hr.mono (Kc _)) sc.nd (by decide) (ay (cs fun _=>(cS (bm iQ iw (aT _) (oB (i:=0) (hr.mono (Kc _)) (.inl rfl)) ah) (ak (aD 3 sc.nd (v_mod (oB (i:=0) (hr.mono (Kc _)) (.inl rfl)) (vn 1)))
  (ak (vw (i:=0) (hr.mono (Kc _)) (.inl rfl) (v_div (oB (i:=0) (hr.mono (Kc _)) (.inl rfl)) (vn 1)))
  (au (aC (vn 3))))) bP))
  (ay (cs fun _=>(aD 4 sc.nd (v_mul (v_add (v_add (v_mod (vN (i:=0) (hr.mono (Kc _))) ah) (v_mul (v_mul ah (vn 2)) (vn 2))) ah) ah)))
  (ay (cs fun _=>(aD 4 sc.nd (v_mul (v_add (v_mod (vn 4) ah) (v_mul ah (vn 2))) ah)))
  (ck (cs fun _=>(aC (v_mod (v_div (v_mod (vn 4) ah) ah) (vn 1)))))))))) (by decide) ?_
 rintro ws Q ⟨m,rfl,⟨hm,hb⟩,hQ⟩;have hm0:m≠0:=by omega
 have hmd:∀i:Int,g_ i m:=fun i=>g_.of hm0 (by omega);refine aB ?_;simp_arith only[ai,af,aU,aV,aE,aG,aW,aF,aw,ae];refine az fun n hn=>?_
 have h59:n.natAbs<2^59990:=by
  have h1:=hn.2;rw[<- OI hn.1]at h1
  exact_mod_cast h1
 have bn:IE n:=Jh h59 (JK (by decide) (by decide));have c1:bo 31 n:=.lt (by decide)
 have bn2:IE (31*n):=by
  unfold IE at bn ⊢;rw[MX];have h2:n.natAbs<2^59990:=h59;have:(31:Int).natAbs*n.natAbs<2^5*2^59990:=N9 (by decide) h2;rw[<- PJ]at this;exact Jh this (JK (by decide) (by decide))
 have c2:bo (31*n) n:=.bb bn2 bn;have c3:bo 7 n:=.lt (by decide);have c4:∀z:Int,bo z 48271:=fun z=>.rt (by decide);have c5:∀z:Int,bo z 69621:=fun z=>.rt (by decide);have d7:∀z:Int,g_ z 7:=fun z=>g_.of (by decide) (by decide)
 (with_reducible (first|refine az fun l hl=>?_|refine aI fun l hl=>?_))
 rw[sq_ite];refine eP (fun _=>?_) fun _=>?_
 · simp_arith only[ai,af,aU,aV,aE,aG,aW,aF,aw,ae]
   (with_reducible (first|refine az fun l2 hl2=>?_|refine aI fun l2 hl2=>?_))
   try simp_arith only[ai,af,aU,aV,aE,aG,aW,aF,aw,ae]
   (with_reducible (first|refine az fun l3 hl3=>?_|refine aI fun l3 hl3=>?_))
   have h0:=Int.fdiv_nonneg hl3 (show 0<=m by omega)
   try simp_arith only[ai,af,aU,aV,aE,aG,aW,aF,aw,ae]
   exact bX (hmd _) (aH (hQ _ ⟨KE _ hm,K_ _ hm⟩))
 · simp_arith only[ai,af,aU,aV,aE,aG,aW,aF,aw,ae]
   (with_reducible (first|refine az fun z hz=>?_|refine aI fun z hz=>?_))
   try simp_arith only[ai,af,aU,aV,aE,aG,aW,aF,aw,ae]
   exact bX (c4 _) (bX (c5 _) (bX (d7 _) (aH (hQ _ ⟨KE _ hm,K_ _ hm⟩))))
def tbD(t:List (List Int)):IJ:=.tuple (t.map aR)
def lv(p:Int)(r c:Nat)(t:List (List Int)):Prop:=t.length=r/\∀row∈t,row.length=c/\∀x∈row,0<=x/\x<p
theorem du(xs:List Int):Jz (xs.map Jl)=aR xs:=rfl
def ca:List W->(IJ->Prop)->Prop:=fun ws Q=>∃(p r c:Int),ws=[.reel,.d (.int p),.d (.int r),.d (.int c)]/\((2<=p)/\(p<=7)/\(1<=r)/\(r<=8)/\(1<=c)/\(c<=8))/\∀t:List (List Int),(lv p r.toNat c.toNat t)->Q (tbD t)
theorem ca.mono:∀ws (Q Q':IJ->Prop),(∀d,Q d->Q' d)->ca ws Q->ca ws Q':=fun _ _ _ h_ ⟨p,r,c,e_,p_,q_⟩=>⟨p,r,c,e_,p_,fun o_ ho_=>h_ _ (q_ o_ ho_)⟩
theorem ca.len:∀ws (Q:IJ->Prop),ca ws Q->ws.length=4:=fun _ _ ⟨_,_,_,e_,_⟩=>by subst e_;rfl
theorem ca.eq(p r c:Int)(p2:2<=p)(p7:p<=7)(r1:1<=r)(r8:r<=8)(c1:1<=c)(c8:c<=8):ca [.reel,.d (.int p),.d (.int r),.d (.int c)]=Hl (anyM fun t:List (List Int)=>lv p r.toNat c.toNat t) fun t=>VL.ret (tbD t:IJ):=by
 refine ag fun Q=>⟨?_,fun q_=>⟨p,r,c,rfl,⟨p2,p7,r1,r8,c1,c8⟩,q_⟩⟩;rintro⟨p',r',c',e_,_,q_⟩;simp_arith only[and_true]at e_;obtain⟨rfl,rfl,rfl⟩:=e_;exact q_
theorem kG:FnScope ["_law_tape_here", "_law_p", "_law_rows", "_law_columns", "_law_few", "_law_found", "_law_i", "_law_row", "_law_k"] ["_law_tape_here", "_law_p", "_law_rows", "_law_columns"] (defScope (FV 55)):=⟨rfl,rfl,rfl,by decide +kernel,rfl,by decide +kernel,by decide +kernel⟩
theorem d__law_any(Fn:FnIn K mg "_law_any" (FV 55) ["_law_tape_here", "_law_p", "_law_rows", "_law_columns"])(Z:Bz mg)(d__law_pick:∀al,DfnC P w K mg base al 1 "_law_pick" ["_law_tape_here", "_law_many"] 1 bf)   : DfnC P w K mg base al 8193 "_law_any" ["_law_tape_here", "_law_p", "_law_rows", "_law_columns"] 2 ca:=by
 have sc:=kG
 refine DfnC.of Fn sc (ca.mono) (ca.len) (fun cdv A outer s H E hr=>(ay (bO 4 sc.nd (bC (d__law_pick _) (hr.mono (by decide)) (aj (cv fun _=>(vn 0)) (aj (cv fun _=>ah) aN))))
  (ay (cs fun _=>(cO 5 sc.nd (eB ac)))
  (ay (gJ 64 [6,7,8] JA rfl (ci fun _=>(aM Z.range_ (aa (vn 2) ac))) (fun _=>(av 6 sc.nd)) (ay (cs fun _=>(cO 7 sc.nd (eB ac)))
  (ay (gJ 64 [8] JA rfl (ci fun _=>(aM Z.range_ (aa (vn 3) ac))) (fun _=>(av 8 sc.nd)) (ck (AE 7 (aj (Cz (bC (d__law_pick _) (hr.mono (by decide)) (aj (cv fun _=>(vn 0)) (aj (cv fun _=>(vn 1)) aN))) (u_ Z.int_ (aj (E1 (cv fun _=>(mR iQ iw (aT _) (vn 4) ah)) (Cy (AK (eJ hr.units) (fun _=>cz) (aT _) (bC (d__law_pick _) (hr.mono (by decide)) (aj (cv fun _=>(vn 0)) (aj (cv fun _=>ah) aN))) (cv fun _=>ah)))) aN))) aN))))
  (ck (cs fun _=>(fu 5 (aa (bF Z.tuple_ (aa (vn 7) ac)) ac)))))))
  (ck (cs fun _=>(aC (bF Z.tuple_ (aa (vn 5) ac))))))))) (by decide) ?_
 rintro ws Q ⟨p,r,c,rfl,⟨p2,p7,r1,r8,c1,c8⟩,hQ⟩;refine aB ?_;have sz:=Ji;have gr : -(2^62)<=r/\r<2^62:=by omega
 have gc : -(2^62)<=c/\c<2^62:=by omega
 simp_arith only[ai,af,aU,aV,aE,aG,aW,aF,aw,ae,bf.eq]
 (with_reducible (first|refine az fun f hf=>?_|refine aI fun f hf=>?_))
 try simp_arith only[ai,af,aU,aV,aE,aG,aW,aF,aw,ae]
 refine dD (fun i ρ=>∃t:List (List Int),lv p i c.toNat t/\ρ=[some .reel,some (.d (.int p)),some (.d (.int r)),some (.d (.int c)),some (.d (.int f)),some (.ml (t.map aR)),none,none,none]) ⟨[],⟨rfl,by simp⟩,rfl⟩ ?_ ?_
 · rintro i hi ρ ⟨t,ht,rfl⟩ K hK;simp_arith only[ai,af,aU,aV,aE,aG,aW,aF,aw,ae];refine dD (fun j ρ=>∃row:List Int,(row.length=j/\∀x∈row,0<=x/\x<p)/\ρ=[some .reel,some (.d (.int p)),some (.d (.int r)),some (.d (.int c)),some (.d (.int f)),some (.ml (t.map aR)),some (.d (.int (0+i))),some (.ml (row.map .int)),none]) ⟨[],⟨rfl,by simp⟩,rfl⟩ ?_ ?_
   · rintro j hj ρ ⟨row,⟨hl,hx⟩,rfl⟩ K2 hK2;simp_arith only[ai,af,aU,aV,aE,aG,aW,aF,aw,ae,bf.eq];refine az fun a ha=>?_
     have fin:∀x:Int,0<=x/\x<p->∀y:Int,K2 (Fl.nx [some W.reel,some (W.d (.int p)),some (W.d (.int r)),some (W.d (.int c)),some (W.d (.int f)),some (W.ml (t.map aR)),some (W.d (.int (0+(i:Int)))),some (W.ml (row.map Jl++[Jl x])),some (W.d (.int y))]):=fun x hxx y =>
      hK2 _ (cI ⟨row++[x],⟨by simp[hl],fun z hz=>by rcases JU.mp hz with h|h;exact hx z h;simp at h;rw[h];exact hxx⟩,by simp[fo,JI]⟩)
     refine eP (fun _=>?_) fun _=>az fun b hb=>?_
     · exact bX (.rt (by decide)) (fin _ (by omega) _)
     · refine bX (.rt (by split<;>decide)) (fin _ ?_ _);split<;>omega
   · rintro ρ ⟨row,⟨hl,hx⟩,rfl⟩;have tl:t.length<sizeLine:=by have:=ht.1;omega
     simp_arith only[ai,af,aU,aV,aE,aG,aW,aF,aw,ae,du];refine hK _ (cI ⟨t++[row],⟨by simp[ht.1],fun z hz=>?_⟩,by simp[fo,JI,aR]⟩);rcases JU.mp hz with h|h
     · exact ht.2 z h
     · simp at h;subst h;exact⟨hl,hx⟩
 · rintro ρ ⟨t,ht,rfl⟩;simp_arith only[ai,af,aU,aV,aE,aG,aW,aF,aw,ae];exact aH (hQ t ht)
noncomputable def Hf(xs ys:List Int):Int:=((xs.zip ys).map fun z=>z.1*z.2).sum
noncomputable def Hu(p:Int)(t:List (List Int))(fs:List Int):List Int:=t.map fun row=>(Hf row fs).fmod p
theorem lw(xs ys:List Int):i9 (xs.map Jl) (ys.map Jl)=(xs.zip ys).map fun z=>Jz [.int z.1,.int z.2]:=by
 induction xs generalizing ys with
 | nil=>rfl
 | cons x xs ih=>cases ys with
   | nil=>rfl
   | cons y ys=>rw[Jg,Jg,La,Jg];show _::i9 _ _=_;rw[ih]
def rG(xs:List Int):Prop:=xs.length<=8/\∀x∈xs,0<=x/\x<10
theorem iD(xs:List Int):d_ (aR xs)=some (xs.map .int):=rfl
theorem c_(xs:List Int):tupD (aR xs)=some (xs.map .int):=rfl
noncomputable def FZ(k:Bool)(t:List (List Int)):IJ:=bif k then .tuple (t.map aR)else .list (t.map aR)
def Hz(p:Int)(t:List (List Int)):Prop:=t.length<=8/\∀row∈t,rG row
theorem BD{k k':Bool}{a b:List (List Int)}:FZ k a=FZ k' b↔k=k'/\a=b:=by
 have h:a.map aR=b.map aR↔a=b:=List.map_inj_right fun x y h=>lJ.mp h;cases k<;>cases k'
 · show Nt _=Nt _↔_;rw[NX,h];simp
 · show Nt _=Jz _↔_;simp
 · show Jz _=Nt _↔_;simp
 · show Jz _=Jz _↔_;rw[Kv,h];simp
theorem oU{a b:List (List Int)}:tbD a=tbD b↔a=b:=by
 have:=BD (k:=true) (k':=true) (a:=a) (b:=b);show FZ true a=FZ true b↔_;simpa using this
theorem uO{c:Prop}[Decidable c]{x:α}{k:α->Mo β}{Q:β->Prop}(h:c)(q:k x Q):aQ (if c then some x else none) k Q:=by rw[if_pos h];exact q
theorem kj(t:List (List Int)):tupD (tbD t)=some (t.map aR):=rfl
theorem di(l:List α)(f:α->Int):l.map (fun z=>Jl (f z))=(l.map f).map .int:=by rw[JY];rfl
theorem iS(l:List α)(f:α->List Int):l.map (fun z=>aR (f z))=(l.map f).map aR:=by rw[JY];rfl
theorem k_(xs:List Int)(i:Int):VL.itemAt (aR xs) i=(atI xs i).map .int:=cq _ _ _
theorem kZ(t:List (List Int))(i:Int):VL.itemAt (tbD t) i=(atI t i).map aR:=cq _ _ _
theorem iW(xs:List Int):qu (aR xs)=some xs.length:=by show some (xs.map Jl).length=_;rw[IP]
theorem iV(t:List (List Int)):qu (tbD t)=some t.length:=by show some (t.map aR).length=_;rw[IP]
theorem lv.t8{r c:Nat}{t:List (List Int)}(h:lv p r c t)(p7:p<=7)(r8:r<=8)(c8:c<=8):Hz p t:=⟨by rw[h.1];exact r8,fun row mr=>⟨by rw[(h.2 row mr).1];exact c8,fun x mx=>by have:=(h.2 row mr).2 x mx;omega⟩⟩
theorem qQ(xs:List IJ)(l u:Option Int):(VL.cutD xs l u).length<=xs.length:=by unfold VL.cutD;rw[JF,Kn];omega
def S(n:Nat)(f:Nat->Int):Int:=((Jq n).map f).sum
theorem Cu{xs:List Int}(h1:xs.length=n)(h2:ys.length=n):Hf xs ys=S n fun k=>xs.getD k 0*ys.getD k 0:=by
 unfold Hf S;congr 1;refine Mp (by simp[h1,h2]) fun k a b=>?_;have k1:k<xs.length:=by simp at a;omega
 have k2:k<ys.length:=by simp at a;omega
 simp[IT,IV k1,IV k2]
theorem getD_of{xs:List α}{k:Nat}{d:α}(h:k<xs.length):xs.getD k d=xs[k]:=by rw[IT,IV h];rfl
theorem By(ρ:En):FQ (.nx ρ)=VL.ret (.nx (nR ρ)):=rfl
theorem Bx(x:IJ):FQ (.rt (.d x))=VL.ret (.rt (.d x)):=ag fun Q=>⟨fun⟨_,h⟩=>h,fun h=>⟨rfl,h⟩⟩
theorem A4.eq{ns:List Int}{k:Int}(h:ns.length<=63)(k0:0<=k)(k1:k<1000):A4 [.sc ns,.d (.int k)]=True:=eq_true ⟨ns,k,rfl,h,k0,k1⟩
theorem qB{a b:List Int}:a.map Jl=b.map Jl↔a=b:=dj
theorem Az{a b:List Int}:Hb a=Hb b↔a=b:=by unfold Hb;rw[Kv];exact qB
def aX:List W->(IJ->Prop)->Prop:=fun ws Q=>∃(i j:Int),ws=[.d (.int i),.d (.int j)]/\(True)/\Q (.int (LL i j:Nat))
theorem aX.mono:∀ws (Q Q':IJ->Prop),(∀d,Q d->Q' d)->aX ws Q->aX ws Q':=fun _ _ _ h_ ⟨i,j,e_,p_,q_⟩=>⟨i,j,e_,p_,h_ _ q_⟩
theorem aX.len:∀ws (Q:IJ->Prop),aX ws Q->ws.length=2:=fun _ _ ⟨_,_,e_,_⟩=>by subst e_;rfl
theorem aX.eq(i j:Int)  : aX [.d (.int i),.d (.int j)]=VL.ret (.int (LL i j:Nat):IJ):=by
 refine ag fun Q=>⟨?_,fun q_=>⟨i,j,rfl,trivial,q_⟩⟩;rintro⟨i',j',e_,_,q_⟩;simp_arith only[and_true]at e_;obtain⟨rfl,rfl⟩:=e_;exact q_
theorem eY:FnScope ["one", "other"] ["one", "other"] (defScope (FV 6)):=⟨rfl,rfl,rfl,by decide +kernel,rfl,by decide +kernel,by decide +kernel⟩
theorem d_common_divisor(Fn:FnIn K mg "common_divisor" (FV 6) ["one", "other"])(Z:Bz mg)    : Dfn P w K mg base rl "common_divisor" ["one", "other"] 1 aX:=by
 have sc:=eY
 refine Dfn.of Fn sc (aX.mono) (aX.len) (fun cdv A outer s H E hr=>(ak (fO [] JA (bm (ic hr.units) cz (aT _) (vn 1) ah) (au (hG 0 1 rfl sc.nd (aa (vn 1) (aa (v_mod (vn 0) (vn 1)) ac)))))
  (au (aC (Bm Z.abs_ (aa (vn 0) ac)))))) ?_
 rintro ws Q ⟨i,j,rfl,_,hQ⟩;refine aB ?_;simp_arith only[af];refine iu (σ:=Int×Int) (fun s=>[some (.d (.int s.1)),some (.d (.int s.2))]) (fun s=>!(s.2==0)) (fun s=>(s.2,s.1.fmod s.2)) (fun s=>s.2.natAbs) (fun s=>LL s.1 s.2=LL i j) (i,j) rfl rfl ?_ ?_ ?_
 · intro s _;simp_arith only[af]
 · intro s e c;have hc:s.2≠0:=by simpa using c
   refine⟨by rw[tO];exact e,lf hc,_,?_,rfl⟩;simp_arith only[ai,af]
 · intro s e c;have hc:s.2=0:=by simpa using c
   simp_arith only[af];rw[hc,Int.gcd_zero_right]at e;refine aH ?_;have:(if s.1<0 then -s.1 else s.1)=((LL i j:Nat):Int):=by rw[<- e];split<;>omega
   rw[this];exact hQ
def ba:List W->(IJ->Prop)->Prop:=fun ws Q=>∃(a b:Int),ws=[.d (.int a),.d (.int b)]/\((0<b)/\(b.natAbs<2^8000))/\Q (fr (qd a b))
theorem ba.mono:∀ws (Q Q':IJ->Prop),(∀d,Q d->Q' d)->ba ws Q->ba ws Q':=fun _ _ _ h_ ⟨a,b,e_,p_,q_⟩=>⟨a,b,e_,p_,h_ _ q_⟩
theorem ba.len:∀ws (Q:IJ->Prop),ba ws Q->ws.length=2:=fun _ _ ⟨_,_,e_,_⟩=>by subst e_;rfl
theorem ba.eq(a b:Int)(hb:0<b)(hz:b.natAbs<2^8000):ba [.d (.int a),.d (.int b)]=VL.ret (fr (qd a b):IJ):=by
 refine ag fun Q=>⟨?_,fun q_=>⟨a,b,rfl,⟨hb,hz⟩,q_⟩⟩;rintro⟨a',b',e_,_,q_⟩;simp_arith only[and_true]at e_;obtain⟨rfl,rfl⟩:=e_;exact q_
theorem kE:FnScope ["top", "bottom", "divisor"] ["top", "bottom"] (defScope (FV 7)):=⟨rfl,rfl,rfl,by decide +kernel,rfl,by decide +kernel,by decide +kernel⟩
theorem d_fraction(Fn:FnIn K mg "fraction" (FV 7) ["top", "bottom"])(Z:Bz mg)(d_common_divisor:∀rl,Dfn P w K mg base rl "common_divisor" ["one", "other"] 1 aX)   : Dfn P w K mg base rl "fraction" ["top", "bottom"] 2 ba:=by
 have sc:=kE
 refine Dfn.of Fn sc (ba.mono) (ba.len) (fun cdv A outer s H E hr=>(ak (cS (bm (eJ hr.units) cz (aT _) (vn 1) ah) (au rQ) bP)
  (ak (aD 2 sc.nd (aA (d_common_divisor _) (hr.mono (by decide)) (aa (vn 0) (aa (vn 1) ac))))
  (ak (cS (bm wU vF (aT _) (vn 1) ah) (au (aD 2 sc.nd (rV (vn 2)))) bP)
  (au (aC (cZ (aa (v_div (vn 0) (vn 2)) (aa (v_div (vn 1) (vn 2)) ac))))))))) ?_
 rintro ws Q ⟨a,b,rfl,⟨hb,hz⟩,hQ⟩;refine aB ?_;have c1:g_ a (LL a b:Int):=qD hb hz _;have c2:g_ b (LL a b:Int):=qD hb hz _;have h0:(b==0)=false:=by simp;omega
 have h1:decide (b<0)=false:=by simp;omega
 simp_arith only[ai,af,aX.eq,h0,h1];rw[Ae hb];exact aH hQ
def dC:List W->(IJ->Prop)->Prop:=fun ws Q=>∃(b k:Int),ws=[.d (.int b),.d (.int k)]/\((2<=b)/\(b<=16)/\(0<=k)/\(k<=4000))/\Q (.int (b^k.toNat))
theorem dC.mono:∀ws (Q Q':IJ->Prop),(∀d,Q d->Q' d)->dC ws Q->dC ws Q':=fun _ _ _ h_ ⟨b,k,e_,p_,q_⟩=>⟨b,k,e_,p_,h_ _ q_⟩
theorem dC.len:∀ws (Q:IJ->Prop),dC ws Q->ws.length=2:=fun _ _ ⟨_,_,e_,_⟩=>by subst e_;rfl
theorem dC.eq(b k:Int)(h2:2<=b)(h16:b<=16)(h0:0<=k)(hk:k<=4000):dC [.d (.int b),.d (.int k)]=VL.ret (.int (b^k.toNat):IJ):=by
 refine ag fun Q=>⟨?_,fun q_=>⟨b,k,rfl,⟨h2,h16,h0,hk⟩,q_⟩⟩;rintro⟨b',k',e_,_,q_⟩;simp_arith only[and_true]at e_;obtain⟨rfl,rfl⟩:=e_;exact q_
theorem sA:FnScope ["base", "exponent", "product", "step"] ["base", "exponent"] (defScope (FV 16)):=⟨rfl,rfl,rfl,by decide +kernel,rfl,by decide +kernel,by decide +kernel⟩
theorem d_power(Fn:FnIn K mg "power" (FV 16) ["base", "exponent"])(Z:Bz mg)    : Dfn P w K mg base rl "power" ["base", "exponent"] 1 dC:=by
 have sc:=sA
 refine Dfn.of Fn sc (dC.mono) (dC.len) (fun cdv A outer s H E hr=>(ak (aD 2 sc.nd ah)
  (ak (bV [3] JA rfl (aM Z.range_ (aa (vn 1) ac)) (av 3 sc.nd) (au (yi 2 sc.nd xp (vn 0))))
  (au (aC (vn 2)))))) ?_
 rintro ws Q ⟨b,k,rfl,⟨h2,h16,h0,hk⟩,hQ⟩;refine aB ?_;simp_arith only[ai,af];refine i3 (fun i=>[some (.d (.int b)),some (.d (.int k)),some (.d (.int (b^i))),none]) (by rw[L8]) ?_ ?_
 · intro i hi;have c:bo (b^i) b:=.rt (by omega);refine⟨_,by(simp_arith only[ai,af])<;>rfl,?_⟩;simp_arith only[af,KY]
 · simp_arith only[af];exact aH hQ
def bJ:List W->(IJ->Prop)->Prop:=fun ws Q=>∃(b n:Int),ws=[.d (.int b),.d (.int n)]/\((2<=b)/\(b<=16)/\(0<=n)/\(n.toNat<2^4000))/\Q (.list ((Hh b n).map .int))
theorem bJ.mono:∀ws (Q Q':IJ->Prop),(∀d,Q d->Q' d)->bJ ws Q->bJ ws Q':=fun _ _ _ h_ ⟨b,n,e_,p_,q_⟩=>⟨b,n,e_,p_,h_ _ q_⟩
theorem bJ.len:∀ws (Q:IJ->Prop),bJ ws Q->ws.length=2:=fun _ _ ⟨_,_,e_,_⟩=>by subst e_;rfl
theorem bJ.eq(b n:Int)(h2:2<=b)(h16:b<=16)(h0:0<=n)(hn:n.toNat<2^4000):bJ [.d (.int b),.d (.int n)]=VL.ret (.list ((Hh b n).map .int):IJ):=by
 refine ag fun Q=>⟨?_,fun q_=>⟨b,n,rfl,⟨h2,h16,h0,hn⟩,q_⟩⟩;rintro⟨b',n',e_,_,q_⟩;simp_arith only[gP,cU,cV,bY,bW,dn,Az,qB]at e_;obtain⟨rfl,rfl⟩:=e_;exact q_
theorem iH:FnScope ["base", "n", "figures", "figure"] ["base", "n"] (defScope (FV 17)):=⟨rfl,rfl,rfl,by decide +kernel,rfl,by decide +kernel,by decide +kernel⟩
theorem d_figures_of(Fn:FnIn K mg "figures_of" (FV 17) ["base", "n"])(Z:Bz mg)    : Dfn P w K mg base rl "figures_of" ["base", "n"] 1 bJ:=by
 have sc:=iH
 refine Dfn.of Fn sc (bJ.mono) (bJ.len) (fun cdv A outer s H E hr=>(ak (cO 2 sc.nd (eB ac))
  (ak (fO [3] JA (bm iQ iw (aT _) (vn 1) ah) (ak (oa (rX Z.divmod_ (aa (vn 1) (aa (vn 0) ac))) (dz (n:=2) rfl (aO (av 1 sc.nd) (aO (av 3 sc.nd) cA))))
  (au (fu 2 (aa (vn 3) ac)))))
  (au (n_ 2 (aC (vn 2))))))) ?_
 rintro ws Q ⟨b,n,rfl,⟨h2,h16,h0,hn⟩,hQ⟩;refine aB ?_;have sz:=Ji;simp_arith only[ai,af];refine iu (σ:=Int×List Int) (fun s=>[some (.d (.int b)),some (.d (.int s.1)),some (.ml (s.2.map .int)),none]) (fun s=>decide (0<s.1)) (fun s=>(s.1 / b,s.2++[s.1%b])) (fun s=>s.1.toNat) (fun s=>0<=s.1/\s.2++Hh b s.1=Hh b n) (n,[]) rfl ⟨h0,rfl⟩ ?_ ?_ ?_
 · intro s _;simp_arith only[af]
 · rintro⟨m,f⟩ ⟨i0,e⟩ c;have hm:0<m:=by simpa using c
   have e:f++Hh b m=Hh b n:=e
   have hl:f.length<sizeLine:=by
    have h1:=congrArg N1 e;rw[JQ]at h1
    have h3:(Hh b n).length<=4000:=kX h2 h0 (by
     have e1:n<2^4000:=by
      have:((n.toNat:Nat):Int)<((2^4000:Nat):Int):=by exact_mod_cast hn
      rw[Kk h0]at this
      exact_mod_cast this
     exact Int.lt_of_lt_of_le e1 (hU h2 4000))
    omega
   have b1:b<1073741824:=by omega
   have b0:0<b:=by omega
   refine⟨⟨Nr i0 (by omega),?_⟩,?_,_,by(simp_arith only[ai,af])<;>rfl,?_⟩
   · rw[<- e,xJ h2 hm];simp
   · have:=Int.ediv_lt_self_of_pos_of_ne_one hm (show b≠1 by omega);have h9:0<=m / b:=Nr i0 (by omega);show(m / b).toNat<m.toNat;omega
   · simp_arith only[af,JI]
 · rintro⟨m, f⟩ ⟨i0, e⟩ c
   have hm : m = 0 := by have:¬0<m:=by simpa using c
                         omega
   subst hm;rw[Cv,KO]at e;have e:f=Hh b n:=e;subst e;simp_arith only[ai,af];exact aH hQ
def bK:List W->(IJ->Prop)->Prop:=fun ws Q=>∃(b n k:Int),ws=[.d (.int b),.d (.int n),.d (.int k)]/\((2<=b)/\(b<=16)/\(0<=n)/\(0<=k)/\(k<=1000)/\(n<b^k.toNat))/\Q (.list ((GJ b n k.toNat).map .int))
theorem bK.mono:∀ws (Q Q':IJ->Prop),(∀d,Q d->Q' d)->bK ws Q->bK ws Q':=fun _ _ _ h_ ⟨b,n,k,e_,p_,q_⟩=>⟨b,n,k,e_,p_,h_ _ q_⟩
theorem bK.len:∀ws (Q:IJ->Prop),bK ws Q->ws.length=3:=fun _ _ ⟨_,_,_,e_,_⟩=>by subst e_;rfl
theorem bK.eq(b n k:Int)(h2:2<=b)(h16:b<=16)(h0:0<=n)(hk0:0<=k)(hk:k<=1000)(hn:n<b^k.toNat):bK [.d (.int b),.d (.int n),.d (.int k)]=VL.ret (.list ((GJ b n k.toNat).map .int):IJ):=by
 refine ag fun Q=>⟨?_,fun q_=>⟨b,n,k,rfl,⟨h2,h16,h0,hk0,hk,hn⟩,q_⟩⟩;rintro⟨b',n',k',e_,_,q_⟩;simp_arith only[gP,cU,cV,bY,bW,dn,Az,qB]at e_;obtain⟨rfl,rfl,rfl⟩:=e_;exact q_
theorem iI:FnScope ["base", "n", "k", "figures"] ["base", "n", "k"] (defScope (FV 18)):=⟨rfl,rfl,rfl,by decide +kernel,rfl,by decide +kernel,by decide +kernel⟩
theorem d_figures_in(Fn:FnIn K mg "figures_in" (FV 18) ["base", "n", "k"])(Z:Bz mg)(d_figures_of:∀rl,Dfn P w K mg base rl "figures_of" ["base", "n"] 1 bJ)   : Dfn P w K mg base rl "figures_in" ["base", "n", "k"] 2 bK:=by
 have sc:=iI
 refine Dfn.of Fn sc (bK.mono) (bK.len) (fun cdv A outer s H E hr=>(ak (aD 3 sc.nd (aA (d_figures_of _) (hr.mono (by decide)) (aa (vn 0) (aa (vn 1) ac))))
  (au (aC (uv (vn 3) (uq (eB (aa ah ac)) (v_sub (vn 2) (cT Z.len_ (aa (vn 3) ac))))))))) ?_
 rintro ws Q ⟨b,n,k,rfl,⟨h2,h16,h0,hk0,hk,hn⟩,hQ⟩;refine aB ?_;have sz:=Ji;have l1:=kX h2 h0 hn;have hb:n.toNat<2^4000:=wI h2 h16 h0 hk hn;have e1:(k-((Hh b n).length:Int)).toNat=k.toNat-(Hh b n).length:=by omega
 have e2:(I0 (k.toNat-(Hh b n).length) [Jl 0]).flatten=I0 (k.toNat-(Hh b n).length) (Jl 0):=by simp
 have g2:(Hh b n).length+(k.toNat-(Hh b n).length)<=sizeLine:=by omega
 simp_arith only[af,bJ.eq,IP,e1,e2,MZ];refine bX (by omega) ?_;have e3:(Hh b n).map Jl++I0 (k.toNat-(Hh b n).length) (Jl 0)=(GJ b n k.toNat).map .int:=by unfold GJ;rw[JI,KU]
 rw[e3];exact kI hQ
def bq:List W->(IJ->Prop)->Prop:=fun ws Q=>∃(b k:Int),ws=[.d (.int b),.d (.int k)]/\((2<=b)/\(b<=16)/\(0<=k)/\(k<=4000))/\Q (.int (b^k.toNat))
theorem bq.mono:∀ws (Q Q':IJ->Prop),(∀d,Q d->Q' d)->bq ws Q->bq ws Q':=fun _ _ _ h_ ⟨b,k,e_,p_,q_⟩=>⟨b,k,e_,p_,h_ _ q_⟩
theorem bq.len:∀ws (Q:IJ->Prop),bq ws Q->ws.length=2:=fun _ _ ⟨_,_,e_,_⟩=>by subst e_;rfl
theorem bq.eq(b k:Int)(h2:2<=b)(h16:b<=16)(h0:0<=k)(hk:k<=4000):bq [.d (.int b),.d (.int k)]=VL.ret (.int (b^k.toNat):IJ):=by
 refine ag fun Q=>⟨?_,fun q_=>⟨b,k,rfl,⟨h2,h16,h0,hk⟩,q_⟩⟩;rintro⟨b',k',e_,_,q_⟩;simp_arith only[and_true]at e_;obtain⟨rfl,rfl⟩:=e_;exact q_
theorem iJ:FnScope ["_law_p", "_law_many", "_law_found", "_law_k"] ["_law_p", "_law_many"] (defScope (FV 54)):=⟨rfl,rfl,rfl,by decide +kernel,rfl,by decide +kernel,by decide +kernel⟩
theorem d__law_power(Fn:FnIn K mg "_law_power" (FV 54) ["_law_p", "_law_many"])(Z:Bz mg)    : Dfn P w K mg base rl "_law_power" ["_law_p", "_law_many"] 1 bq:=by
 have sc:=iJ
 refine Dfn.of Fn sc (bq.mono) (bq.len) (fun cdv A outer s H E hr=>(ak (aD 2 sc.nd ah)
  (ak (bV [3] JA rfl (aM Z.range_ (aa (vn 1) ac)) (av 3 sc.nd) (au (aD 2 sc.nd (v_mul (vn 2) (vn 0)))))
  (au (aC (vn 2)))))) ?_
 rintro ws Q ⟨b,k,rfl,⟨h2,h16,h0,hk⟩,hQ⟩;refine aB ?_;simp_arith only[ai,af];refine i3 (fun i=>[some (.d (.int b)),some (.d (.int k)),some (.d (.int (b^i))),none]) (by rw[L8]) ?_ ?_
 · intro i hi;have c:bo (b^i) b:=.rt (by omega);refine⟨_,by(simp_arith only[ai,af])<;>rfl,?_⟩;simp_arith only[af,KY]
 · simp_arith only[af];exact aH hQ
noncomputable def Gh(p:Int):Int:=if p=2 then 5 else if p=3 then 3 else if p=5 then 2 else 1
theorem B6(h:p=2\/p=3\/p=5\/p=7):List.lookup p [((2:Int),(5:Int)),(3,3),(5,2),(7,1)]=some (Gh p):=by rcases h with rfl|rfl|rfl|rfl<;>rfl
theorem uE(h:p=2\/p=3\/p=5\/p=7):1<=Gh p/\Gh p<=5:=by rcases h with rfl|rfl|rfl|rfl<;>decide
def Pm(p m:Int):Prop:=(p=2\/p=3\/p=5\/p=7)/\1<=m/\m<=Gh p
def bT:List W->(IJ->Prop)->Prop:=fun ws Q=>ws=[.reel]/\(True)/\∀z:Int×Int,(Pm z.1 z.2)->Q (.tuple [.int z.1,.int z.2])
theorem bT.mono:∀ws (Q Q':IJ->Prop),(∀d,Q d->Q' d)->bT ws Q->bT ws Q':=fun _ _ _ h_ ⟨e_,p_,q_⟩=>⟨e_,p_,fun o_ ho_=>h_ _ (q_ o_ ho_)⟩
theorem bT.len:∀ws (Q:IJ->Prop),bT ws Q->ws.length=1:=fun _ _ ⟨e_,_⟩=>by subst e_;rfl
theorem bT.eq   : bT [.reel]=Hl (anyM fun z:Int×Int=>Pm z.1 z.2) fun z=>VL.ret (.tuple [.int z.1,.int z.2]:IJ):=by
 refine ag fun Q=>⟨?_,fun q_=>⟨rfl,trivial,q_⟩⟩;rintro⟨e_,_,q_⟩;simp_arith only[and_true]at e_;exact q_
theorem jw:FnScope ["_law_tape_here", "_law_p"] ["_law_tape_here"] (defScope (FV 53)):=⟨rfl,rfl,rfl,by decide +kernel,rfl,by decide +kernel,by decide +kernel⟩
theorem d__law_size(Fn:FnIn K mg "_law_size" (FV 53) ["_law_tape_here"])(Z:Bz mg)(d__law_pick:∀al,DfnC P w K mg base al 1 "_law_pick" ["_law_tape_here", "_law_many"] 1 bf)   : DfnC P w K mg base al 2 "_law_size" ["_law_tape_here"] 2 bT:=by
 have sc:=jw
 refine DfnC.of Fn sc (bT.mono) (bT.len) (fun cdv A outer s H E hr=>(ay (bO 1 sc.nd (E2 (cv fun _=>(eB (aa ah (aa ah (aa ah (aa ah (aa ah (aa ah (aa ah ac))))))))) (bC (d__law_pick _) (hr.mono (by decide)) (aj (cv fun _=>(vn 0)) (aj (cv fun _=>ah) aN)))))
  (ck (u3 (Cw (aj (cv fun _=>(vn 1)) (aj (ud (cv fun _=>ah) (bC (d__law_pick _) (hr.mono (by decide)) (aj (cv fun _=>(vn 0)) (aj (cv fun _=>(vO (hr.mono (Kc _)) (by decide) (vn 1))) aN)))) aN))))))) (by decide) ?_
 rintro ws Q ⟨rfl,_,hQ⟩;refine aB ?_;have sz:=Ji;simp_arith only[ai,af,aU,aV,aE,aG,aW,aF,aw,ae,bf.eq,iU]
 (with_reducible (first|refine az fun a ha=>?_|refine aI fun a ha=>?_))
 try simp_arith only[ai,af,aU,aV,aE,aG,aW,aF,aw,ae,bf.eq,iU]
 refine Gj (nw (xs:=[2,2,2,3,3,5,7]) (enc:=Jl) (fun p=>p=2\/p=3\/p=5\/p=7) rfl ha.1 (by show a<7;omega) (by intro z hz;simp at hz;omega) fun p hp=>?_);have e1:=B6 hp;obtain⟨s1,s5⟩:=uE hp;have g1:0<Gh p:=by omega
 have g2:Gh p<2^60:=by omega
 simp_arith only[ai,af,aU,aV,aE,aG,aW,aF,aw,ae,bf.eq,iU,e1]
 (with_reducible (first|refine az fun m hm=>?_|refine aI fun m hm=>?_))
 exact aH (hQ (p,1+m) ⟨hp,by show 1<=1+m;omega,by show 1+m<=Gh p;omega⟩)
theorem o9(xs:List Int):d_ (gY xs)=some (xs.map .int):=rfl
theorem wY(xs:List Int):A5 [.d (aR xs)]=some (xs.map .int):=rfl
theorem AO(xs:List Int):Hq (.d (aR xs))=some (xs.map .int):=rfl
theorem wr(xs:List Int):W.d (.tuple (xs.map Jl).reverse) = .d (aR xs.reverse):=by rw[<- List.map_reverse];rfl
theorem xg(xs:List Int):lstD (gY xs)=some (xs.map .int):=rfl
def br:List W->(IJ->Prop)->Prop:=fun ws Q=>∃(p:Int)(xs ys:List Int),ws=[.d (.int p),.d (aR xs),.d (gY ys)]/\((2<=p)/\(rG xs)/\(rG ys))/\Q (.int ((Hf xs ys).fmod p))
theorem br.mono:∀ws (Q Q':IJ->Prop),(∀d,Q d->Q' d)->br ws Q->br ws Q':=fun _ _ _ h_ ⟨p,xs,ys,e_,p_,q_⟩=>⟨p,xs,ys,e_,p_,h_ _ q_⟩
theorem br.len:∀ws (Q:IJ->Prop),br ws Q->ws.length=3:=fun _ _ ⟨_,_,_,e_,_⟩=>by subst e_;rfl
theorem br.eq(p:Int)(xs ys:List Int)(p2:2<=p)(hx:rG xs)(hy:rG ys):br [.d (.int p),.d (aR xs),.d (gY ys)]=VL.ret (.int ((Hf xs ys).fmod p):IJ):=by
 refine ag fun Q=>⟨?_,fun q_=>⟨p,xs,ys,rfl,⟨p2,hx,hy⟩,q_⟩⟩;rintro⟨p',xs',ys',e_,_,q_⟩;simp_arith only[and_true]at e_;obtain⟨rfl,rfl,rfl⟩:=e_;exact q_
theorem gQ:FnScope ["p", "one", "other"] ["p", "one", "other"] (defScope (FV 23)):=⟨rfl,rfl,rfl,by decide +kernel,rfl,by decide +kernel,by decide +kernel⟩
theorem d_product_sum(Fn:FnIn K mg "product_sum" (FV 23) ["p", "one", "other"])(Z:Bz mg)    : Dfn P w K mg base rl "product_sum" ["p", "one", "other"] 1 br:=by
 have sc:=gQ;refine Dfn.of Fn sc (br.mono) (br.len) (fun cdv A outer s H E hr=>(au (aC (v_mod (v_sum Z.sum_ (aa (bM ["x", "y"] [none,none] rfl (rT Z.zip_ (aa (vn 1) (aa (vn 2) ac))) (fun _=>(dz (n:=2) rfl (aO (av 0 (show Ki (["x", "y"]:List Str) by decide +kernel)) (aO (av 1 (show Ki (["x", "y"]:List Str) by decide +kernel)) cA)))) (fun _=>cr) (fun _=>(v_mul (vn 0) (vn 1)))) ac)) (vn 0))))) ?_;rintro ws Q ⟨p,xs,ys,rfl,⟨p2,hx,hy⟩,hQ⟩;refine aB ?_;have sz:=Ji;have p0:p≠0:=by omega
 simp_arith only[ai,af,iD,c_,o9,xg];refine uO (by exact⟨rfl,rfl⟩) ?_;rw[lw];refine dZ (xs:=xs.zip ys) (enc:=fun z=>Jz [.int z.1,.int z.2]) (fun z=>.int (z.1*z.2)) rfl ?_ (by rw[LO];have:=hx.1;omega) ?_
 · rintro⟨a,b⟩ mz;have ha:=hx.2 a (KG mz).1;have cm:bo a b:=.lt (by omega);simp_arith only[ai,af,GW]
 · rw[di];simp_arith only[ai,af,IF];exact aH hQ
def cH:List W->(IJ->Prop)->Prop:=fun ws Q=>∃(p:Int)(t:List (List Int))(fs:List Int),ws=[.d (.int p),.d (tbD t),.d (gY fs)]/\((2<=p)/\(Hz p t)/\(rG fs))/\Q (aR (Hu p t fs))
theorem cH.mono:∀ws (Q Q':IJ->Prop),(∀d,Q d->Q' d)->cH ws Q->cH ws Q':=fun _ _ _ h_ ⟨p,t,fs,e_,p_,q_⟩=>⟨p,t,fs,e_,p_,h_ _ q_⟩
theorem cH.len:∀ws (Q:IJ->Prop),cH ws Q->ws.length=3:=fun _ _ ⟨_,_,_,e_,_⟩=>by subst e_;rfl
theorem cH.eq(p:Int)(t:List (List Int))(fs:List Int)(p2:2<=p)(ht:Hz p t)(hf:rG fs):cH [.d (.int p),.d (tbD t),.d (gY fs)]=VL.ret (aR (Hu p t fs):IJ):=by
 refine ag fun Q=>⟨?_,fun q_=>⟨p,t,fs,rfl,⟨p2,ht,hf⟩,q_⟩⟩;rintro⟨p',t',fs',e_,_,q_⟩;simp_arith only[oU]at e_;obtain⟨rfl,rfl,rfl⟩:=e_;exact q_
theorem ng:FnScope ["p", "table", "figures"] ["p", "table", "figures"] (defScope (FV 24)):=⟨rfl,rfl,rfl,by decide +kernel,rfl,by decide +kernel,by decide +kernel⟩
theorem d_applied(Fn:FnIn K mg "applied" (FV 24) ["p", "table", "figures"])(Z:Bz mg)(d_product_sum:∀rl,Dfn P w K mg base rl "product_sum" ["p", "one", "other"] 1 br)   : Dfn P w K mg base rl "applied" ["p", "table", "figures"] 2 cH:=by
 have sc:=ng;refine Dfn.of Fn sc (cH.mono) (cH.len) (fun cdv A outer s H E hr=>(au (aC (bF Z.tuple_ (aa (bM ["row", "p", "figures"] [none,some 0,some 2] rfl (jc (vn 1)) (fun _=>(av 0 (show Ki (["row", "p", "figures"]:List Str) by decide +kernel))) (fun _=>cr) (fun _=>(aA (d_product_sum _) (hr.mono (by decide)) (aa (vn 1) (aa (vn 0) (aa (vn 2) ac)))))) ac))))) ?_;rintro ws Q ⟨p,t,fs,rfl,⟨p2,ht,hf⟩,hQ⟩;refine aB ?_;have sz:=Ji;have t8:=ht.1;simp_arith only[ai,af,kj];refine dZ (xs:=t) (enc:=aR) (fun row=>.int ((Hf row fs).fmod p)) rfl ?_ (by omega) ?_
 · intro row mr;have hr:=ht.2 row mr;simp_arith only[ai,af,GW,br.eq]
 · rw[di];simp_arith only[ai,af,du];exact aH hQ
def bR:List W->(IJ->Prop)->Prop:=fun ws Q=>∃(b:Int)(xs:List Int),ws=[.d (.int b),.d (aR xs)]/\((0<=b)/\(b<=16))/\Q (.int (nv b xs))
theorem bR.mono:∀ws (Q Q':IJ->Prop),(∀d,Q d->Q' d)->bR ws Q->bR ws Q':=fun _ _ _ h_ ⟨b,xs,e_,p_,q_⟩=>⟨b,xs,e_,p_,h_ _ q_⟩
theorem bR.len:∀ws (Q:IJ->Prop),bR ws Q->ws.length=2:=fun _ _ ⟨_,_,e_,_⟩=>by subst e_;rfl
theorem bR.eq(b:Int)(xs:List Int)(h0:0<=b)(h16:b<=16):bR [.d (.int b),.d (aR xs)]=VL.ret (.int (nv b xs):IJ):=by
 refine ag fun Q=>⟨?_,fun q_=>⟨b,xs,rfl,⟨h0,h16⟩,q_⟩⟩;rintro⟨b',xs',e_,_,q_⟩;simp_arith only[and_true]at e_;obtain⟨rfl,rfl⟩:=e_;exact q_
theorem jt:FnScope ["base", "figures", "n", "figure"] ["base", "figures"] (defScope (FV 19)):=⟨rfl,rfl,rfl,by decide +kernel,rfl,by decide +kernel,by decide +kernel⟩
theorem d_number_of(Fn:FnIn K mg "number_of" (FV 19) ["base", "figures"])(Z:Bz mg)    : Dfn P w K mg base rl "number_of" ["base", "figures"] 1 bR:=by
 have sc:=jt
 refine Dfn.of Fn sc (bR.mono) (bR.len) (fun cdv A outer s H E hr=>(ak (aD 2 sc.nd ah)
  (ak (bV [3] JA rfl (jd Z.reversed_ (aa (vn 1) ac)) (av 3 sc.nd) (au (aD 2 sc.nd (v_add (v_mul (vn 2) (vn 0)) (vn 3)))))
  (au (aC (vn 2)))))) ?_
 rintro ws Q ⟨b,xs,rfl,⟨h0,h16⟩,hQ⟩;refine aB ?_;have c:∀i,bo i b:=fun i=>.rt (by omega);simp_arith only[ai,af,Ac,wY];refine qI (xs:=xs.reverse) (enc:=Jl) (fun t:Int=>[some (.d (.int b)),some (.d (aR xs)),some (.d (.int t)),none]) (fun t a=>t*b+a) 0 (fun _=>True) rfl (by rw[List.map_reverse]) trivial ?_ ?_
 · intro x mx t _;refine⟨trivial,_,by(simp_arith only[ai,af,c])<;>rfl,?_⟩;simp_arith only[af]
 · have e:xs.reverse.foldl (fun t a=>t*b+a) 0=nv b xs:=jh b xs;rw[e];simp_arith only[af];exact aH hQ
def aZ:List W->(IJ->Prop)->Prop:=fun ws Q=>∃(p:Int)(t:List (List Int))(fs:List Int),ws=[.d (.int p),.d (tbD t),.d (gY fs)]/\((2<=p)/\(p<=7)/\(Hz p t)/\(rG fs))/\Q (fr (qd (tv p (Hu p t fs)) (p^t.length)))
theorem aZ.mono:∀ws (Q Q':IJ->Prop),(∀d,Q d->Q' d)->aZ ws Q->aZ ws Q':=fun _ _ _ h_ ⟨p,t,fs,e_,p_,q_⟩=>⟨p,t,fs,e_,p_,h_ _ q_⟩
theorem aZ.len:∀ws (Q:IJ->Prop),aZ ws Q->ws.length=3:=fun _ _ ⟨_,_,_,e_,_⟩=>by subst e_;rfl
theorem aZ.eq(p:Int)(t:List (List Int))(fs:List Int)(p2:2<=p)(p7:p<=7)(ht:Hz p t)(hf:rG fs):aZ [.d (.int p),.d (tbD t),.d (gY fs)]=VL.ret (fr (qd (tv p (Hu p t fs)) (p^t.length)):IJ):=by
 refine ag fun Q=>⟨?_,fun q_=>⟨p,t,fs,rfl,⟨p2,p7,ht,hf⟩,q_⟩⟩;rintro⟨p',t',fs',e_,_,q_⟩;simp_arith only[oU]at e_;obtain⟨rfl,rfl,rfl⟩:=e_;exact q_
theorem fY:FnScope ["p", "table", "figures", "told"] ["p", "table", "figures"] (defScope (FV 33)):=⟨rfl,rfl,rfl,by decide +kernel,rfl,by decide +kernel,by decide +kernel⟩
theorem d_table_number(Fn:FnIn K mg "table_number" (FV 33) ["p", "table", "figures"])(Z:Bz mg)(d_applied:∀rl,Dfn P w K mg base rl "applied" ["p", "table", "figures"] 2 cH)(d_fraction:∀rl,Dfn P w K mg base rl "fraction" ["top", "bottom"] 2 ba)(d_number_of:∀rl,Dfn P w K mg base rl "number_of" ["base", "figures"] 1 bR)(d_power:∀rl,Dfn P w K mg base rl "power" ["base", "exponent"] 1 dC)   : Dfn P w K mg base rl "table_number" ["p", "table", "figures"] 3 aZ:=by
 have sc:=fY
 refine Dfn.of Fn sc (aZ.mono) (aZ.len) (fun cdv A outer s H E hr=>(ak (aD 3 sc.nd (aA (d_applied _) (hr.mono (by decide)) (aa (vn 0) (aa (vn 1) (aa (vn 2) ac)))))
  (au (aC (aA (d_fraction _) (hr.mono (by decide)) (aa (aA (d_number_of _) (hr.mono (by decide)) (aa (vn 0) (aa (yA (vn 3)) ac))) (aa (aA (d_power _) (hr.mono (by decide)) (aa (vn 0) (aa (cT Z.len_ (aa (vn 3) ac)) ac))) ac))))))) ?_
 rintro ws Q ⟨p,t,fs,rfl,⟨p2,p7,ht,hf⟩,hQ⟩;refine aB ?_;have sz:=Ji;have t8:=ht.1;have al:(Hu p t fs).length=t.length:=by unfold Hu;rw[IP]
 have h00:0<=p:=by omega
 have h16:p<=16:=by omega
 have k0:(0:Int)<=(t.length:Int):=by omega
 have k4:((t.length:Nat):Int)<=4000:=by omega
 have hp:0<p^t.length:=J6 (by omega)
 have hz:(p^t.length).natAbs<2^8000:=by
  have:=sL p2 h16 (k:=t.length) (by omega);exact this
 have en:nv p (Hu p t fs).reverse=tv p (Hu p t fs):=by rw[<- jh,Na]
 simp_arith only[ai,af,cH.eq,ba.eq,bR.eq,dC.eq,iW,al,en,JR,c_,AO,wr];exact aH hQ
theorem xo(xs:List Int)(i:Int):VL.itemAt (gY xs) i=(atI xs i).map .int:=cq _ _ _
def bw:List W->(IJ->Prop)->Prop:=fun ws Q=>∃(m:Int),ws=[.d (.int m)]/\((1<=m)/\(m<=5))/\Q (tbD ((Jq m.toNat).map fun i:Nat=>(Jq m.toNat).map fun k:Nat=>if(i:Int)+k=m-1 then(1:Int)else 0))
theorem bw.mono:∀ws (Q Q':IJ->Prop),(∀d,Q d->Q' d)->bw ws Q->bw ws Q':=fun _ _ _ h_ ⟨m,e_,p_,q_⟩=>⟨m,e_,p_,h_ _ q_⟩
theorem bw.len:∀ws (Q:IJ->Prop),bw ws Q->ws.length=1:=fun _ _ ⟨_,e_,_⟩=>by subst e_;rfl
theorem bw.eq(m:Int)(m1:1<=m)(m5:m<=5):bw [.d (.int m)]=VL.ret (tbD ((Jq m.toNat).map fun i:Nat=>(Jq m.toNat).map fun k:Nat=>if(i:Int)+k=m-1 then(1:Int)else 0):IJ):=by
 refine ag fun Q=>⟨?_,fun q_=>⟨m,rfl,⟨m1,m5⟩,q_⟩⟩;rintro⟨m',e_,_,q_⟩;simp_arith only[and_true]at e_;obtain rfl:=e_;exact q_
theorem gT:FnScope ["_law_m"] ["_law_m"] (defScope (FV 57)):=⟨rfl,rfl,rfl,by decide +kernel,rfl,by decide +kernel,by decide +kernel⟩
theorem d__law_mirror(Fn:FnIn K mg "_law_mirror" (FV 57) ["_law_m"])(Z:Bz mg)    : Dfn P w K mg base rl "_law_mirror" ["_law_m"] 1 bw:=by
 have sc:=gT;refine Dfn.of Fn sc (bw.mono) (bw.len) (fun cdv A outer s H E hr=>(au (aC (bF Z.tuple_ (aa (bM ["_law_i", "_law_m"] [none,some 0] rfl (aM Z.range_ (aa (vn 0) ac)) (fun _=>(av 0 (show Ki (["_law_i", "_law_m"]:List Str) by decide +kernel))) (fun _=>cr) (fun _=>(bF Z.tuple_ (aa (bM ["_law_k", "_law_i", "_law_m"] [none,some 0,some 1] rfl (aM Z.range_ (aa (vn 1) ac)) (fun _=>(av 0 (show Ki (["_law_k", "_law_i", "_law_m"]:List Str) by decide +kernel))) (fun _=>cr) (fun _=>(uu Z.int_ (aa (mR (eJ hr.units) cz (aT _) (v_add (vn 1) (vn 0)) (v_sub (vn 2) ah)) ac)))) ac)))) ac))))) ?_;rintro ws Q ⟨m,rfl,⟨m1,m5⟩,hQ⟩;refine aB ?_;have sz:=Ji;have g1 : -(2^62)<=m/\m<2^62:=by omega
 simp_arith only[ai,af];refine i6 (fun i=>aR ((Jq m.toNat).map fun k:Nat=>if(i:Int)+k=m-1 then(1:Int)else 0)) ?_ (by omega) ?_
 · intro i hi;simp_arith only[ai,af,GW];rw[jQ (fun k=>.int (if(i:Int)+k=m-1 then(1:Int)else 0)) ?_ (by omega),bnd_ret,di]
   · try simp_arith only[ai,af,du]
   · intro k hk;simp_arith only[ai,af,GW];have e:(0+(i:Int)+(0+(k:Int))==m-1)=decide ((i:Int)+k=m-1):=by rw[Ll,beq_iff_eq,decide_eq_true_iff];omega
     rw[e];simp only[decide_eq_true_eq]
 · rw[iS]
   try simp_arith only[ai,af]
   exact aH hQ
def aY:List W->(IJ->Prop)->Prop:=fun ws Q=>∃(p m j:Int),ws=[.d (.int p),.d (.int m),.d (.int j)]/\((2<=p)/\(p<=7)/\(1<=m)/\(m<=5)/\(0<=j)/\(j<=7))/\∀t:List (List Int),(lv p m.toNat m.toNat t)->Q (tbD t)
theorem aY.mono:∀ws (Q Q':IJ->Prop),(∀d,Q d->Q' d)->aY ws Q->aY ws Q':=fun _ _ _ h_ ⟨p,m,j,e_,p_,q_⟩=>⟨p,m,j,e_,p_,fun o_ ho_=>h_ _ (q_ o_ ho_)⟩
theorem aY.len:∀ws (Q:IJ->Prop),aY ws Q->ws.length=3:=fun _ _ ⟨_,_,_,e_,_⟩=>by subst e_;rfl
theorem aY.eq(p m j:Int)(p2:2<=p)(p7:p<=7)(m1:1<=m)(m5:m<=5)(j0:0<=j)(j7:j<=7):aY [.d (.int p),.d (.int m),.d (.int j)]=Hl (anyM fun t:List (List Int)=>lv p m.toNat m.toNat t) fun t=>VL.ret (tbD t:IJ):=by
 refine ag fun Q=>⟨?_,fun q_=>⟨p,m,j,rfl,⟨p2,p7,m1,m5,j0,j7⟩,q_⟩⟩;rintro⟨p',m',j',e_,_,q_⟩;simp_arith only[and_true]at e_;obtain⟨rfl,rfl,rfl⟩:=e_;exact q_
theorem eZ:FnScope ["_law_p", "_law_m", "_law_j", "_law_found", "_law_i", "_law_row", "_law_k", "_law_above"] ["_law_p", "_law_m", "_law_j"] (defScope (FV 56)):=⟨rfl,rfl,rfl,by decide +kernel,rfl,by decide +kernel,by decide +kernel⟩
theorem d__law_sum_table(Fn:FnIn K mg "_law_sum_table" (FV 56) ["_law_p", "_law_m", "_law_j"])(Z:Bz mg)    : Dfn P w K mg base rl "_law_sum_table" ["_law_p", "_law_m", "_law_j"] 1 aY:=by
 have sc:=eZ
 refine Dfn.of Fn sc (aY.mono) (aY.len) (fun cdv A outer s H E hr=>(ak (cO 3 sc.nd (eB ac))
  (ak (bV [4,5,6,7] JA rfl (aM Z.range_ (aa (vn 1) ac)) (av 4 sc.nd) (ak (cO 5 sc.nd (eB (aa (uu Z.int_ (aa (mR (eJ hr.units) cz (aT _) (vn 4) ah) ac)) ac)))
  (ak (bV [6,7] JA rfl (oq Z.range_ (aa ah (aa (vn 1) ac))) (av 6 sc.nd) (ak (aD 7 sc.nd (fQ (bm iQ iw (aT _) (vn 4) ah) (cP (cP (vn 3) (v_sub (vn 4) ah)) (v_sub (vn 6) ah)) ah))
  (au (fu 5 (aa (v_mod (v_add (vn 7) (v_mul (vn 2) (cP (vn 5) (v_sub (vn 6) ah)))) (vn 0)) ac)))))
  (au (n_ 5 (fu 3 (aa (vn 5) ac)))))))
  (au (n_ 3 (aC (bF Z.tuple_ (aa (bM ["_law_row"] [none] rfl (iz (vn 3)) (fun _=>(av 0 (show Ki (["_law_row"]:List Str) by decide +kernel))) (fun _=>cr) (fun _=>(bF Z.tuple_ (aa (vn 0) ac)))) ac)))))))) ?_
 rintro ws Q ⟨p,m,j,rfl,⟨p2,p7,m1,m5,j0,j7⟩,hQ⟩;refine aB ?_;have sz:=Ji;have g1 : -(2^62)<=m/\m<2^62:=by omega
 simp_arith only[ai,af];refine dD (fun i ρ=>∃t:List (List Int),lv p i m.toNat t/\ρ=[some (.d (.int p)),some (.d (.int m)),some (.d (.int j)),some (.ml (t.map gY)),none,none,none,none]) ⟨[],⟨rfl,by simp⟩,rfl⟩ ?_ ?_
 · rintro i hi ρ ⟨t,ht,rfl⟩ K hK;simp_arith only[ai,af];have cm:∀x,bo j x:=fun x=>.lt (by omega);have p0:p≠0:=by omega
   have tl:=ht.1;have b0:0<=(if(0+(i:Int)==0)=true then(1:Int)else 0)/\(if(0+(i:Int)==0)=true then(1:Int)else 0)<p:=by split<;>omega
   generalize (if(0+(i:Int)==0)=true then(1:Int)else 0)=x0 at b0 ⊢;refine dD (fun n ρ=>∃row:List Int,(row.length=n+1/\∀x∈row,0<=x/\x<p)/\ρ=[some (.d (.int p)),some (.d (.int m)),some (.d (.int j)),some (.ml (t.map gY)),some (.d (.int (0+(i:Int)))),some (.ml (row.map .int)),none,none]) ⟨[x0],⟨rfl,by intro x mx;cases Kw.mp mx;exact b0⟩,rfl⟩ ?_ ?_
   · rintro n hn ρ ⟨row,⟨hl,hx⟩,rfl⟩ K2 hK2
     have a2:atI (row.map Jl) (1+(n:Int)-1)=some (.int (row[n]'(by omega))):=by
      rw[show 1+(n:Int)-1=(n:Int) by omega];exact cK (by rw[JW,IV (by omega)];rfl)
     have rl:row.length<sizeLine:=by omega
     have fin:∀u y z:Int,0<=z/\z<p->K2 (Fl.nx [some (.d (.int p)),some (.d (.int m)),some (.d (.int j)),some (.ml (t.map gY)),some (.d (.int (0+(i:Int)))),some (.ml (row.map Jl++[Jl z])),some (.d (.int u)),some (.d (.int y))]):=fun u y z hz =>
      hK2 _ (cI ⟨row++[z],⟨by simp[hl],fun w hw=>by rcases JU.mp hw with h|h;exact hx w h;simp at h;rw[h];exact hz⟩,by simp[fo,JI]⟩)
     have fz:∀w:Int,0<=w.fmod p/\w.fmod p<p:=fun w=>⟨KE _ (by omega),K_ _ (by omega)⟩;by_cases i0:i=0
     · have d0:decide ((0:Int)<0+(i:Int))=false:=by simp;omega
       simp_arith only[ai,af,d0,a2];exact bX (cm _) (fin _ _ _ (fz _))
     · have d0:decide ((0:Int)<0+(i:Int))=true:=by simp;omega
       have it:i-1<t.length:=by omega
       have t0:=ht.2 _ (Jy it)
       have a1:atI (t.map gY) (0+(i:Int)-1)=some (gY (t[i-1]'it)):=by
        rw[show 0+(i:Int)-1=((i-1:Nat):Int) by omega];exact cK (by rw[JW,IV it];rfl)
       have a3:VL.itemAt (gY (t[i-1]'it)) (1+(n:Int)-1)=some (.int ((t[i-1]'it)[n]'(by have:=t0.1;omega))):=by
        rw[xo,show 1+(n:Int)-1=(n:Int) by omega,cK (IV (by have:=t0.1;omega))];rfl
       simp_arith only[ai,af,d0,a1,a2,a3];exact bX (cm _) (fin _ _ _ (fz _))
   · rintro ρ ⟨row,⟨hl,hx⟩,rfl⟩;have tz:t.length<sizeLine:=by omega
     simp_arith only[ai,af];refine hK _ (cI ⟨t++[row],⟨by simp[tl],fun z hz=>?_⟩,by simp[fo,JI,gY]⟩);rcases JU.mp hz with h|h
     · exact ht.2 z h
     · simp at h;subst h;exact⟨by omega,hx⟩
 · rintro ρ ⟨t,ht,rfl⟩;have tl:=ht.1;simp_arith only[ai,af];refine dZ (xs:=t) (enc:=gY) aR rfl ?_ (by omega) ?_
   · intro row mr;have:=(ht.2 row mr).1;simp_arith only[ai,af,GW,o9,du]
   · try simp_arith only[ai,af]
     exact aH (hQ t ht)
theorem u0(xs:List α)(f:α->IJ){k:Int}(h:0<=k):VL.cutD (xs.map f) none (some k)=(xs.take k.toNat).map f:=by
 unfold VL.cutD;rw[HT.sIx_none,f_ h,NN,IP,NF,<- MJ];congr 1;by_cases z:k.toNat<=xs.length
 · rw[L7 z]
 · rw[LY (by omega),JO (by omega),JO (by omega)]
theorem mD(xs:List α)(f:α->IJ){k:Int}(h:0<=k):VL.cutD (xs.map f) (some k) none=(xs.drop k.toNat).map f:=by
 unfold VL.cutD;rw[HT.sIx_none,f_ h,IP,<- List.map_drop,<- MJ];congr 1;by_cases z:k.toNat<=xs.length
 · rw[L7 z,JO (by rw[Kn];omega)]
 · rw[LY (by omega),K5 (by omega),K5 (by omega)];simp
theorem po{il ih:Nat}{Q:Fl->Prop}:mS (ux n il ih fi) ρ Q=(fi ρ fun xs=>xs.length<=n/\∃ys:List IJ,ρ[il]?=some (some (.ml ys))/\ρ[ih]?=some (some .reel)/\xs.length<=ys.length/\ys.length<1000/\∀os:List IJ,os.length=xs.length->(∀o∈os,o∈ys)->Q (.rt (.d (.tuple os)))):=rfl
noncomputable def tbsD(ts:List (List (List Int))):IJ:=.tuple (ts.map tbD)
def ip(p:Int)(m:Nat)(ts:List (List (List Int))):Prop:=1<=ts.length/\ts.length<=4/\∀t∈ts,lv p m m t
def bv:List W->(IJ->Prop)->Prop:=fun ws Q=>∃(p m:Int),ws=[.reel,.d (.int p),.d (.int m)]/\((Pm p m))/\∀ts:List (List (List Int)),(ip p m.toNat ts)->Q (tbsD ts)
theorem bv.mono:∀ws (Q Q':IJ->Prop),(∀d,Q d->Q' d)->bv ws Q->bv ws Q':=fun _ _ _ h_ ⟨p,m,e_,p_,q_⟩=>⟨p,m,e_,p_,fun o_ ho_=>h_ _ (q_ o_ ho_)⟩
theorem bv.len:∀ws (Q:IJ->Prop),bv ws Q->ws.length=3:=fun _ _ ⟨_,_,e_,_⟩=>by subst e_;rfl
theorem bv.eq(p m:Int)(pm:Pm p m):bv [.reel,.d (.int p),.d (.int m)]=Hl (anyM fun ts:List (List (List Int))=>ip p m.toNat ts) fun ts=>VL.ret (tbsD ts:IJ):=by
 refine ag fun Q=>⟨?_,fun q_=>⟨p,m,rfl,pm,q_⟩⟩;rintro⟨p',m',e_,_,q_⟩;simp_arith only[and_true]at e_;obtain⟨rfl,rfl⟩:=e_;exact q_
theorem gS:FnScope ["_law_tape_here", "_law_p", "_law_m", "_law_way", "_law_s", "_law_found", "_law_j", "_law_i", "_law_k", "_law_row", "_law_left"] ["_law_tape_here", "_law_p", "_law_m"] (defScope (FV 58)):=⟨rfl,rfl,rfl,by decide +kernel,rfl,by decide +kernel,by decide +kernel⟩
theorem d__law_tables(Fn:FnIn K mg "_law_tables" (FV 58) ["_law_tape_here", "_law_p", "_law_m"])(Z:Bz mg)(d__law_pick:∀al,DfnC P w K mg base al 1 "_law_pick" ["_law_tape_here", "_law_many"] 1 bf)(d__law_sum_table:∀rl,Dfn P w K mg base rl "_law_sum_table" ["_law_p", "_law_m", "_law_j"] 1 aY)(d__law_any:∀al,DfnC P w K mg base al 8193 "_law_any" ["_law_tape_here", "_law_p", "_law_rows", "_law_columns"] 2 ca)(d__law_mirror:∀rl,Dfn P w K mg base rl "_law_mirror" ["_law_m"] 1 bw)   : DfnC P w K mg base al 524422 "_law_tables" ["_law_tape_here", "_law_p", "_law_m"] 3 bv:=by
 have sc:=gS
 refine DfnC.of Fn sc (bv.mono) (bv.len) (fun cdv A outer s H E hr=>(ay (bO 3 sc.nd (bC (d__law_pick _) (hr.mono (by decide)) (aj (cv fun _=>(vn 0)) (aj (cv fun _=>ah) aN))))
  (ay (bO 4 sc.nd (ud (cv fun _=>ah) (bC (d__law_pick _) (hr.mono (by decide)) (aj (cv fun _=>(vn 0)) (aj (cv fun _=>ah) aN)))))
  (ay (xL (cb fun _=>(bm (eJ hr.units) cz (aT _) (vn 3) ah)) (ck (u3 (xP Z.tuple_ (aj (xQ 64 ["_law_j", "_law_tape_here", "_law_p", "_law_m"] [none,some 0,some 1,some 2] rfl (ci fun _=>(aM Z.range_ (aa (vn 4) ac))) (fun _ _=>(av 0 (show Ki (["_law_j", "_law_tape_here", "_law_p", "_law_m"]:List Str) by decide +kernel))) (fun _=>AC) (fun _=>(bC (d__law_any _) (hr.mono (by decide)) (aj (cv fun _=>(vn 1)) (aj (cv fun _=>(vn 2)) (aj (cv fun _=>(vn 3)) (aj (cv fun _=>(vn 3)) aN))))))) aN)))) qR)
  (ay (cs fun _=>(ka 5 sc.nd ["_law_j", "_law_p", "_law_m"] [none,some 1,some 2] rfl (aM Z.range_ (aa (ur Z.min_ (aa (vn 4) (aa (vn 1) ac))) ac)) (fun _=>(av 0 (show Ki (["_law_j", "_law_p", "_law_m"]:List Str) by decide +kernel))) (fun _=>cr) (fun _=>(aA (d__law_sum_table _) (hr.mono (by decide)) (aa (vn 1) (aa (vn 2) (aa (vn 0) ac)))))))
  (ay (cs fun _=>(cS (H0.pb (yy (bm iQ iw (aT _) (vn 3) ah) (vL (bm wU vF (aT _) (cT Z.len_ (aa (vn 5) ac)) ah)))) (au (cO 5 sc.nd (uv (eB (aa (aA (d__law_mirror _) (hr.mono (by decide)) (aa (vn 2) ac)) ac)) (vn 5)))) bP))
  (ay (xL (cb fun _=>(bm (eJ hr.units) cz (aT _) (v_mod (vn 3) ah) ah)) (ay (bO 6 sc.nd (bC (d__law_pick _) (hr.mono (by decide)) (aj (cv fun _=>(vn 0)) (aj (cv fun _=>(cT Z.len_ (aa (vn 5) ac))) aN))))
  (ay (bO 7 sc.nd (bC (d__law_pick _) (hr.mono (by decide)) (aj (cv fun _=>(vn 0)) (aj (cv fun _=>(vn 2)) aN))))
  (ay (bO 8 sc.nd (bC (d__law_pick _) (hr.mono (by decide)) (aj (cv fun _=>(vn 0)) (aj (cv fun _=>(vn 2)) aN))))
  (ay (cs fun _=>(cO 9 sc.nd (lE Z.list_ (aa (cP (cP (vn 5) (vn 6)) (vn 7)) ac))))
  (ay (qS 9 (cv fun _=>(vn 8)) (bC (d__law_pick _) (hr.mono (by decide)) (aj (cv fun _=>(vn 0)) (aj (cv fun _=>(vn 1)) aN))))
  (ck (cs fun _=>(vA 5 (vn 6) (lF (lF (mQ (cP (vn 5) (vn 6)) dQ (dP (vn 7))) (cZ (aa (bF Z.tuple_ (aa (vn 9) ac)) ac))) (mQ (cP (vn 5) (vn 6)) (dP (v_add (vn 7) ah)) dQ)))))))))) qR)
  (ay (cs fun _=>(cO 10 sc.nd (lE Z.list_ (aa (vn 5) ac))))
  (ck (nL 64 10 0 rfl (d__law_pick _) (fun m Q h1 h2 h3=>⟨m,rfl,⟨h1,h2⟩,fun j hj=>h3 j hj.1 hj.2⟩) (hr.mono (by decide)) Z.len_ Z.tuple_ (ci fun _=>(aM Z.range_ (aa (cT Z.len_ (aa (vn 5) ac)) ac))) (show Ki (["_law_j", "_law_left", "_law_tape_here"]:List Str) by decide +kernel) (fun z=>iP (show Ki (["_law_j", "_law_left", "_law_tape_here"]:List Str) by decide +kernel) rfl (.inl rfl))
  (fun z _ pa _ _ _ F hm hk hb=>wQ MD PySem.F.slot_list_pop PySem.F.type_list_pop sY (cu (i:=1) rfl (by first|exact Kz rfl|exact J0 (Kz rfl)|exact J0 (J0 rfl))) (dU (gj F (hr.mono (by decide)) rfl hm hk hb .nil pY pa) jC))
  (fun z=>dU (cu (i:=2) rfl (by first|exact Kz rfl|exact J0 (Kz rfl)|exact J0 (J0 rfl))) (dU (lV dE rfl Z.len_ rfl (dU (cu (i:=1) rfl (by first|exact Kz rfl|exact J0 (Kz rfl)|exact J0 (J0 rfl))) jC)) jC)))))))))))) (by decide) ?_
 rintro ws Q ⟨p,m,rfl,pm,hQ⟩;refine aB ?_;have sz:=Ji;obtain⟨hp,m1,ms⟩:=pm;have s5:=(uE hp).2;have p2:2<=p:=by omega
 have p7:p<=7:=by omega
 have m5:m<=5:=by omega
 have m8:m<=8:=by omega
 simp_arith only[ai,af,aU,aV,aE,aG,aW,aF,aw,ae,bf.eq]
 (with_reducible (first|refine az fun w hw=>?_|refine aI fun w hw=>?_))
 try simp_arith only[ai,af,aU,aV,aE,aG,aW,aF,aw,ae,bf.eq]
 (with_reducible (first|refine az fun s0 hs0=>?_|refine aI fun s0 hs0=>?_))
 try simp_arith only[ai,af,aU,aV,aE,aG,aW,aF,aw,ae,bf.eq]
 refine eP (fun _=>?_) fun _=>?_
 · refine Gk (mJ (fun d=>∃t,lv p m.toNat m.toNat t/\d=tbD t) ?_ (by omega) ?_)
   · intro j hj K2 hK2;simp_arith only[ai,af,GW,ca.eq]
     (with_reducible (first|refine az fun t ht=>?_|refine aI fun t ht=>?_))
     exact hK2 _ ⟨t,ht,rfl⟩
   · intro ds hl hds;obtain⟨ts,rfl,tl,ht⟩:=eR hds;simp_arith only[ai,af];exact aH (hQ ts ⟨by omega,by omega,ht⟩)
 · refine Gk (mJ (fun d=>∃t,lv p m.toNat m.toNat t/\d=tbD t) ?_ (by omega) ?_)
   · intro j hj K2 hK2;simp_arith only[ai,af,GW,aY.eq]
     (with_reducible (first|refine az fun t ht=>?_|refine aI fun t ht=>?_))
     exact hK2 _ ⟨t,ht,rfl⟩
   · intro ds hl hds;obtain⟨ts,rfl,tl,ht⟩:=eR hds;have tn:1<=ts.length/\ts.length<=4:=by omega
     clear tl hl hds;simp_arith only[ai,af,aU,aV,aE,aG,aW,aF,aw,ae,bw.eq]
     obtain⟨us,eu,hu⟩:∃us:List (List (List Int)),(if(decide (2<w)&&decide ((ts.length:Int)<4))=true then W.ml (tbD ((Jq m.toNat).map fun i:Nat=>(Jq m.toNat).map fun k:Nat=>if(i:Int)+k=m-1 then(1:Int)else 0)::ts.map tbD)else W.ml (ts.map tbD))=W.ml (us.map tbD)/\ip p m.toNat us:=by
      split
      · rename_i h;refine⟨_::ts,rfl,by simp,by simp at h ⊢;omega,fun t mt=>?_⟩;rcases JV.mp mt with rfl|mt
        · refine⟨by simp,fun row mr=>?_⟩;obtain⟨i,_,rfl⟩:=Jo.mp mr;refine⟨by simp,fun x mx=>?_⟩;obtain⟨k,_,rfl⟩:=Jo.mp mx;split<;>omega
        · exact ht t mt
      · exact⟨ts,rfl,tn.1,tn.2,ht⟩
     simp only[eu];clear eu ht tn;have u4:=hu.2.1;have u1:=hu.1;refine eP (fun _=>?_) fun _=>?_
     · simp_arith only[ai,af,aU,aV,aE,aG,aW,aF,aw,ae,bf.eq];have mb:m<2^60:=by omega
       have pb:p<2^60:=by omega
       have m0:0<m:=by omega
       have pp:0<p:=by omega
       (with_reducible (first|refine az fun j hj=>?_|refine aI fun j hj=>?_))
       try simp_arith only[ai,af,aU,aV,aE,aG,aW,aF,aw,ae,bf.eq]
       (with_reducible (first|refine az fun i hi=>?_|refine aI fun i hi=>?_))
       try simp_arith only[ai,af,aU,aV,aE,aG,aW,aF,aw,ae,bf.eq]
       (with_reducible (first|refine az fun k hk=>?_|refine aI fun k hk=>?_))
       have hj':j.toNat<us.length:=by omega
       have ej:atI (us.map tbD) j=some (tbD (us[j.toNat]'hj')):=by rw[cq,mL hj.1 hj.2];rfl
       have ht:=hu.2.2 _ (Jy hj');generalize us[j.toNat]'hj'=t at ej ht;have tl:=ht.1;have hi':i.toNat<t.length:=by omega
       have ei':VL.itemAt (tbD t) i=some (aR (t[i.toNat]'hi')):=by rw[kZ,mL hi.1 (by omega)];rfl
       have hr:=ht.2 _ (Jy hi');generalize t[i.toNat]'hi'=row at ei' hr;have kg:0<=k/\k<((row.map Jl).length:Int):=by rw[IP];omega
       try simp_arith only[ai,af,aU,aV,aE,aG,aW,aF,aw,ae,bf.eq,lN,ej,ei',iD,kj]
       (with_reducible (first|refine az fun x hx=>?_|refine aI fun x hx=>?_))
       have c1:=u0 t aR hi.1;have c2:=mD t aR (show 0<=i+1 by omega);have rs:(row.map Jl).set k.toNat (.int x)=(row.set k.toNat x).map .int:=by rw[Pl]
       have jg:0<=j/\j<((us.map tbD).length:Int):=by rw[IP];exact hj
       have q1:(t.take i.toNat).length+1<=sizeLine:=by rw[JF];omega
       have q2:((t.take i.toNat).map aR++[aR (row.set k.toNat x)]).length+(t.drop (i+1).toNat).length<=sizeLine:=by simp;omega
       simp only[rs];simp_arith only[ai,af,aU,aV,aE,aG,aW,aF,aw,ae,lN,ej,c1,c2,kj,du]
       obtain⟨vs,ev,hu'⟩:∃vs:List (List (List Int)),(us.map tbD).set j.toNat (Jz ((t.take i.toNat).map aR++[aR (row.set k.toNat x)]++(t.drop (i+1).toNat).map aR))=vs.map tbD/\ip p m.toNat vs:=by
        refine⟨us.set j.toNat (t.take i.toNat++[row.set k.toNat x]++t.drop (i+1).toNat),by rw[Pl];simp[tbD,JI],by simp;exact u1,by simp;exact u4,fun z mz=>?_⟩;rcases Mm mz with h|h
        · exact hu.2.2 z h
        · subst h;refine⟨by simp;omega,fun y my=>?_⟩;rcases JU.mp my with h|h
          · rcases JU.mp h with h|h
            · exact ht.2 y (KW h)
            · cases Kw.mp h;refine⟨by rw[Ol];exact hr.1,fun v mv=>?_⟩;rcases Mm mv with h|h
              · exact hr.2 v h
              · subst h;exact hx
          · exact ht.2 y (Mk h)
       simp only[ev];have v4:=hu'.2.1;have v1:=hu'.1;rw[po];have gu : -(2^62)<=(vs.length:Int)/\(vs.length:Int)<2^62:=by omega
       have ei:G4 (jf (cR x_ (jf (xY 5) uy)) uy) [some W.reel,some (W.d (.int p)),some (W.d (.int m)),some (W.d (.int w)),some (W.d (.int (1+s0))),some (W.ml (vs.map tbD)),some (W.d (.int j)),some (W.d (.int i)),some (W.d (.int k)),some (W.ml ((row.set k.toNat x).map Jl)),some (W.ml (vs.map tbD))]=VL.ret (bp 0 vs.length):=by
        simp_arith only[ai,af]
       rw[ei];refine⟨by rw[ae];omega,vs.map tbD,rfl,rfl,by rw[ae,IP];omega,by rw[IP];omega,fun os hl hm=>?_⟩;obtain⟨ws,rfl,wl,hv⟩:=eR (enc:=tbD) (P:=fun t=>lv p m.toNat m.toNat t) (fun d md=>by obtain⟨t,mt,rfl⟩:=Jo.mp (hm d md);exact⟨t,hu'.2.2 t mt,rfl⟩);rw[ae,IP]at hl;exact aH (hQ ws ⟨by omega,by omega,hv⟩)
     · simp_arith only[ai,af,aU,aV,aE,aG,aW,aF,aw,ae];rw[po];have gu : -(2^62)<=(us.length:Int)/\(us.length:Int)<2^62:=by omega
       have ei:G4 (jf (cR x_ (jf (xY 5) uy)) uy) [some W.reel,some (W.d (.int p)),some (W.d (.int m)),some (W.d (.int w)),some (W.d (.int (1+s0))),some (W.ml (us.map tbD)),none,none,none,none,some (W.ml (us.map tbD))]=VL.ret (bp 0 us.length):=by
        simp_arith only[ai,af]
       rw[ei];refine⟨by rw[ae];omega,us.map tbD,rfl,rfl,by rw[ae,IP];omega,by rw[IP];omega,fun os hl hm=>?_⟩;obtain⟨ws,rfl,wl,hv⟩:=eR (enc:=tbD) (P:=fun t=>lv p m.toNat m.toNat t) (fun d md=>by obtain⟨t,mt,rfl⟩:=Jo.mp (hm d md);exact⟨t,hu.2.2 t mt,rfl⟩);rw[ae,IP]at hl;exact aH (hQ ws ⟨by omega,by omega,hv⟩)
noncomputable def nV(p:Int)(t:List (List Int))(fs:List Int):Rat:=qd (tv p (Hu p t fs)) (p^t.length)
noncomputable def GF(p:Int)(m:Nat)(ts:List (List (List Int)))(n:Int):List Rat:=ts.map fun t=>nV p t (GJ p n m)
noncomputable def ptsT(p:Int)(m:Nat)(ts:List (List (List Int))):List (List Rat):=(Jq (p^m).toNat).map fun n=>GF p m ts (n:Nat)
theorem ge{m:Int}(h:Pm p m):p^m.toNat<=40/\2<=p/\p<=7/\1<=m/\m<=5:=by
 obtain⟨hp,m1,ms⟩:=h;rcases hp with rfl|rfl|rfl|rfl<;>simp[Gh]at ms
 · obtain rfl|rfl|rfl|rfl|rfl:m=1\/m=2\/m=3\/m=4\/m=5:=by omega
   all_goals decide
 · obtain rfl|rfl|rfl:m=1\/m=2\/m=3:=by omega
   all_goals decide
 · obtain rfl|rfl:m=1\/m=2:=by omega
   all_goals decide
 · obtain rfl:m=1:=by omega
   decide
theorem mj(ts:List (List (List Int)))(i:Int):VL.itemAt (tbsD ts) i=(atI ts i).map tbD:=cq _ _ _
theorem sh(ts:List (List (List Int))):tupD (tbsD ts)=some (ts.map tbD):=rfl
theorem eO(ts:List (List (List Int))):qu (tbsD ts)=some ts.length:=by show some (ts.map tbD).length=_;rw[IP]
theorem lK{a b:List (List (List Int))}:tbsD a=tbsD b↔a=b:=by
 unfold tbsD;rw[Kv];exact List.map_inj_right fun x y h=>oU.mp h
theorem zN{n:Int}(p2:2<=p)(p7:p<=7)(m8:m<=8)(h0:0<=n)(h1:n<p^m):rG (GJ p n m) :=
 ⟨by rw[kO p2 h0 h1];exact m8,fun x mx=>by have:=pZ (k:=m) (c:=n) p2 x mx;omega⟩
theorem uT{t:List (List Int)}{fs:List Int}(p2:2<=p)(p7:p<=7)(w:p^m<=40)(ht:lv p m m t):GD 60 (nV p t fs)/\0<=nV p t fs/\nV p t fs<1:=by
 have al:(Hu p t fs).length=m:=by unfold Hu;rw[IP,ht.1]
 have fg:Ix p (Hu p t fs):=fun x mx=>by
  obtain⟨row,_,rfl⟩:=Jo.mp mx;exact⟨KE _ (by omega),K_ _ (by omega)⟩
 obtain⟨b0,b1⟩:=yN p2 _ fg;rw[al]at b1;have hp:0<p^m:=J6 (by omega);unfold nV;rw[ht.1];exact⟨sD hp (by omega) (by omega),nh hp b0,zq hp b1⟩
def aP:List W->(IJ->Prop)->Prop:=fun ws Q=>∃(p:Int)(ts:List (List (List Int))),ws=[.d (.int p),.d (tbsD ts)]/\((∃m:Int,Pm p m/\ip p m.toNat ts/\m.toNat=(ts.headD []).length))/\Q (iK (ptsT p (ts.headD []).length ts))
theorem aP.mono:∀ws (Q Q':IJ->Prop),(∀d,Q d->Q' d)->aP ws Q->aP ws Q':=fun _ _ _ h_ ⟨p,ts,e_,p_,q_⟩=>⟨p,ts,e_,p_,h_ _ q_⟩
theorem aP.len:∀ws (Q:IJ->Prop),aP ws Q->ws.length=2:=fun _ _ ⟨_,_,e_,_⟩=>by subst e_;rfl
theorem aP.eq(p:Int)(ts:List (List (List Int)))(hm:∃m:Int,Pm p m/\ip p m.toNat ts/\m.toNat=(ts.headD []).length):aP [.d (.int p),.d (tbsD ts)]=VL.ret (iK (ptsT p (ts.headD []).length ts):IJ):=by
 refine ag fun Q=>⟨?_,fun q_=>⟨p,ts,rfl,hm,q_⟩⟩;rintro⟨p',ts',e_,_,q_⟩;simp_arith only[lK]at e_;obtain⟨rfl,rfl⟩:=e_;exact q_
theorem dS:FnScope ["p", "tables", "m", "points", "n", "figures"] ["p", "tables"] (defScope (FV 34)):=⟨rfl,rfl,rfl,by decide +kernel,rfl,by decide +kernel,by decide +kernel⟩
theorem d_points_of_tables(Fn:FnIn K mg "points_of_tables" (FV 34) ["p", "tables"])(Z:Bz mg)(d_power:∀rl,Dfn P w K mg base rl "power" ["base", "exponent"] 1 dC)(d_figures_in:∀rl,Dfn P w K mg base rl "figures_in" ["base", "n", "k"] 2 bK)(d_table_number:∀rl,Dfn P w K mg base rl "table_number" ["p", "table", "figures"] 3 aZ)   : Dfn P w K mg base rl "points_of_tables" ["p", "tables"] 4 aP:=by
 have sc:=dS
 refine Dfn.of Fn sc (aP.mono) (aP.len) (fun cdv A outer s H E hr=>(ak (aD 2 sc.nd (cT Z.len_ (aa (cP (vn 1) ah) ac)))
  (ak (cO 3 sc.nd (eB ac))
  (ak (bV [4,5] JA rfl (aM Z.range_ (aa (aA (d_power _) (hr.mono (by decide)) (aa (vn 0) (aa (vn 2) ac))) ac)) (av 4 sc.nd) (ak (aD 5 sc.nd (aA (d_figures_in _) (hr.mono (by decide)) (aa (vn 0) (aa (vn 4) (aa (vn 2) ac)))))
  (au (fu 3 (aa (bF Z.tuple_ (aa (bM ["table", "p", "figures"] [none,some 0,some 5] rfl (jc (vn 1)) (fun _=>(av 0 (show Ki (["table", "p", "figures"]:List Str) by decide +kernel))) (fun _=>cr) (fun _=>(aA (d_table_number _) (hr.mono (by decide)) (aa (vn 1) (aa (vn 0) (aa (vn 2) ac)))))) ac)) ac)))))
  (au (aC (bF Z.tuple_ (aa (vn 3) ac)))))))) ?_
 rintro ws Q ⟨p,ts,rfl,hm,hQ⟩;refine aB ?_;have sz:=Ji;obtain⟨m,pm,ht,hh⟩:=hm;obtain⟨w40,p2,p7,m1,m5⟩:=ge pm;obtain⟨t1,t4,ht⟩:=ht;rw[<- hh]at hQ;have h16:p<=16:=by omega
 have e0:atI ts 0=some (ts.headD []):=by
  cases ts with
  | nil=>simp at t1
  | cons a l=>exact cK (j:=0) rfl
 have hp:0<p^m.toNat:=J6 (by omega);have m4:((m.toNat:Nat):Int)<=4000:=by omega
 have mk:((m.toNat:Nat):Int)<=1000:=by omega
 have g1 : -(2^62)<=p^m.toNat/\p^m.toNat<2^62:=by omega
 simp_arith only[ai,af,mj,e0,iV,dC.eq,<- hh];refine i3 (fun i=>[some (.d (.int p)),some (.d (tbsD ts)),some (.d (.int (m.toNat:Nat))),some (.ml ((Jq i).map fun n=>GG (GF p m.toNat ts (n:Nat)))),none,none]) rfl ?_ ?_
 · intro i hi;have h0:0<=0+(i:Int):=by omega
   have hn:0+(i:Int)<p^m.toNat:=by omega
   have hn':0+(i:Int)<p^((m.toNat:Nat):Int).toNat:=by rw[JR];exact hn
   have hf:rG (GJ p (0+(i:Int)) m.toNat):=zN p2 p7 (by omega) h0 hn
   have cm:∀(b:IJ->Mo (Option IJ)),(∀t∈ts,b (tbD t)=VL.ret (some (fr (nV p t (GJ p (0+(i:Int)) m.toNat)))))->ce b (ts.map tbD) []=VL.ret ((GF p m.toNat ts (0+(i:Int))).map fr):=fun b hb=>by
    rw[comp_map (enc:=tbD) (fun t=>fr (nV p t (GJ p (0+(i:Int)) m.toNat))) hb (by omega)];unfold GF;rw[JY];rfl
   refine⟨[some (.d (.int p)),some (.d (tbsD ts)),some (.d (.int (m.toNat:Nat))),some (.ml ((Jq i).map (fun n=>GG (GF p m.toNat ts (n:Nat)))++[GG (GF p m.toNat ts (0+(i:Int)))])),some (.d (.int (0+(i:Int)))),some (.d (gY (GJ p (0+(i:Int)) m.toNat)))],?_,?_⟩
   · simp_arith only[ai,af,bK.eq,sh,JR];rw[cm _ ?_]
     · have l4:(GF p m.toNat ts (0+(i:Int))).length<=sizeLine:=by unfold GF;rw[IP];omega
       have l5:(Jq i).length<sizeLine:=by rw[KL];omega
       simp_arith only[ai,af];rfl
     · intro t mt;have tb:=ht t mt;have t8:Hz p t:=tb.t8 p7 (by omega) (by omega);have et:aZ [W.d (.int p),W.d (tbD t),W.d (Nt ((GJ p (0+(i:Int)) m.toNat).map Jl))]=VL.ret (fr (nV p t (GJ p (0+(i:Int)) m.toNat))):=aZ.eq p t _ p2 p7 t8 hf;simp_arith only[ai,af,GW,et]
   · simp only[fo,Oy,JI,M3];rfl
 · simp_arith only[af]
   have e2:Jz ((Jq (p^m.toNat).toNat).map fun n=>GG (GF p m.toNat ts (n:Nat)))=iK (ptsT p m.toNat ts):=by
    unfold iK ptsT;rw[JY];rfl
   rw[e2];exact aH hQ
noncomputable def ko(p:Int)(m:Nat)(ts:List (List (List Int)))(n:Int):List Int:=ts.map fun t=>tv p (Hu p t (GJ p n m))
theorem zx{m:Int}(pm:Pm p m)(h:ip p m.toNat ts):ug ts.length (ptsT p m.toNat ts)/\CM (ptsT p m.toNat ts):=by
 obtain⟨w40,p2,p7,m1,m5⟩:=ge pm;have hp:0<p^m.toNat:=J6 (by omega)
 have ok:∀x∈ptsT p m.toNat ts,Bg ts.length x/\Ed x:=fun x mx=>by
  obtain⟨n,mn,rfl⟩:=Jo.mp mx;refine⟨⟨by unfold GF;rw[IP],fun q mq=>?_⟩,fun q mq=>?_⟩
  · obtain⟨t,mt,rfl⟩:=Jo.mp mq;exact(uT p2 p7 w40 (h.2.2 t mt)).1
  · obtain⟨t,mt,rfl⟩:=Jo.mp mq;exact(uT p2 p7 w40 (h.2.2 t mt)).2
 refine⟨⟨?_,?_,fun x mx=>(ok x mx).1⟩,fun x mx=>(ok x mx).2⟩
 · unfold ptsT;rw[IP,KL];omega
 · unfold ptsT;rw[IP,KL];omega
theorem tK(h:ip p m ts):m=(ts.headD []).length:=by
 obtain⟨h1,_,h3⟩:=h
 cases ts with
 | nil=>simp at h1
 | cons a l=>exact(h3 a IS).1.symm
theorem jP{a:Int}(hp:p=2\/p=3\/p=5\/p=7)(a1:1<=a)(ap:a<p):∃u v:Int,u*a+v*p=1:=by
 rcases hp with rfl|rfl|rfl|rfl
 · obtain rfl:a=1:=by omega
   exact⟨1,0,by decide⟩
 · rcases(show a=1\/a=2 by omega)with rfl|rfl
   · exact⟨1,0,by decide⟩
   · exact⟨2,-1,by decide⟩
 · rcases(show a=1\/a=2\/a=3\/a=4 by omega)with rfl|rfl|rfl|rfl
   · exact⟨1,0,by decide⟩
   · exact⟨3,-1,by decide⟩
   · exact⟨2,-1,by decide⟩
   · exact⟨4,-3,by decide⟩
 · rcases(show a=1\/a=2\/a=3\/a=4\/a=5\/a=6 by omega)with rfl|rfl|rfl|rfl|rfl|rfl
   · exact⟨1,0,by decide⟩
   · exact⟨4,-1,by decide⟩
   · exact⟨5,-2,by decide⟩
   · exact⟨2,-1,by decide⟩
   · exact⟨3,-2,by decide⟩
   · exact⟨6,-5,by decide⟩
noncomputable def optN:Option Nat->IJ
 | none=>.none
 | some v=>.int (v:Int)
def optT:Option (List Int)->IJ
 | none=>.none
 | some v=>aR v
def optTb:Option (List (List Int))->IJ
 | none=>.none
 | some v=>tbD v
theorem xD(xs:List Int):Bd [.d (aR xs)]=some (xs.zipIdx.map fun z=>Jz [.int (z.2:Nat),.int z.1]):=by
 show some (gC (xs.map Jl))=_;rw[jK]
theorem xC(t:List (List Int)):Bd [.d (tbD t)]=some (t.zipIdx.map fun z=>Jz [.int (z.2:Nat),aR z.1]):=by
 show some (gC (t.map aR))=_;rw[jK]
noncomputable def fL(ks:GA.Kp):List (Ie×IJ):=ks.map fun z=>(JZ (z.1:Int),aR z.2)
theorem lD{ks:GA.Kp}(nd:(ks.map (·.1)).Nodup){z:Nat×List Int}(hz:z∈ks):nS (fL ks) (JZ (z.1:Int))=some (aR z.2):=by
 unfold nS fL
 induction ks with
 | nil=>cases hz
 | cons y ks ih =>
   rw[Jg,Km]at nd;rw[Jg,Ka];by_cases e:y.1=z.1
   · have:y=z:=by
       rcases JV.mp hz with h|h
       · exact h.symm
       · exact absurd (by rw[e];exact Lm h) nd.1
     subst this;simp
   · have:decide ((JZ (y.1:Int):Ie)=JZ (z.1:Int))=false:=decide_eq_false fun h=>e (by have:=NY h;omega);rw[this];rcases JV.mp hz with h|h
     · exact absurd (by rw[h]) e
     · exact ih nd.2 h
theorem lR{kvs:List (Ie×IJ)}{k:Ie}{x:IJ}(h:∀kv∈kvs,kv.1≠k):VL.putF kvs k x=kvs++[(k,x)]:=by
 unfold VL.putF
 have:(kvs.any fun kv=>decide (kv.1=k))=false:=by
  rw[List.any_eq_false];intro kv hk;simp[h kv hk]
 rw[this,if_neg (by decide)]
theorem mC:∀(ks:GA.Kp)(acc:List (Ie×IJ)),(ks.map (·.1)).Nodup->(∀z∈ks,∀kv∈acc,kv.1≠(JZ (z.1:Int):Ie))->(fL ks).foldl (fun a p=>VL.putF a p.1 p.2) acc=acc++fL ks
 | [],acc,_,_=>by simp[fL]
 | z::ks,acc,nd,h=>by
   rw[Jg,Km]at nd;show(fL ks).foldl _ (VL.putF acc _ _)=_;rw[lR (h z IS),mC ks _ nd.2 fun y hy kv hk=>?_]
   · simp[fL]
   · rcases JU.mp hk with hk|hk
     · exact h y (IM _ hy) kv hk
     · rw[Kw.mp hk];intro e;have:z.1=y.1:=by have:=NY e;omega
       exact nd.1 (by rw[this];exact Lm hy)
theorem vg(h:GA.Fg p n r):∀x∈r,0<=x/\x<p:=fun x mx=>by
 obtain⟨k,hk,rfl⟩:=Ln mx;have:=h.2 k (by have:=h.1;omega)
 rwa [GA.gD hk]at this
theorem CN(hl:r.length=n)(h:∀x∈r,0<=x/\x<p):GA.Fg p n r:=⟨hl,fun k hk=>by rw[GA.gD (by omega)];exact h _ (Jy _)⟩
def bH:List W->(IJ->Prop)->Prop:=fun ws Q=>∃(a m:Int),ws=[.d (.int a),.d (.int m)]/\((1<=a)/\(a<m)/\(m<2^60)/\(∃u v:Int,u*a+v*m=1))/\∀o:Int,(GA.Cg m (o*a) 1)->Q (.int o)
theorem bH.mono:∀ws (Q Q':IJ->Prop),(∀d,Q d->Q' d)->bH ws Q->bH ws Q':=fun _ _ _ h_ ⟨a,m,e_,p_,q_⟩=>⟨a,m,e_,p_,fun o_ ho_=>h_ _ (q_ o_ ho_)⟩
theorem bH.len:∀ws (Q:IJ->Prop),bH ws Q->ws.length=2:=fun _ _ ⟨_,_,e_,_⟩=>by subst e_;rfl
theorem bH.eq(a m:Int)(a1:1<=a)(am:a<m)(m60:m<2^60)(cop:∃u v:Int,u*a+v*m=1):bH [.d (.int a),.d (.int m)]=Hl (anyM fun o:Int=>GA.Cg m (o*a) 1) fun o=>VL.ret (.int o:IJ):=by
 refine ag fun Q=>⟨?_,fun q_=>⟨a,m,rfl,⟨a1,am,m60,cop⟩,q_⟩⟩;rintro⟨a',m',e_,_,q_⟩;simp_arith only[and_true]at e_;obtain⟨rfl,rfl⟩:=e_;exact q_
theorem iF:FnScope ["one", "modulus", "former", "here", "rest", "divisor", "quotient"] ["one", "modulus"] (defScope (FV 21)):=⟨rfl,rfl,rfl,by decide +kernel,rfl,by decide +kernel,by decide +kernel⟩
theorem d_inverse_of(Fn:FnIn K mg "inverse_of" (FV 21) ["one", "modulus"])(Z:Bz mg)    : Dfn P w K mg base rl "inverse_of" ["one", "modulus"] 1 bH:=by
 have sc:=iF
 refine Dfn.of Fn sc (bH.mono) (bH.len) (fun cdv A outer s H E hr=>(ak (oa (cZ (aa ah (aa ah ac))) (dz (n:=2) rfl (aO (av 2 sc.nd) (aO (av 3 sc.nd) cA))))
  (ak (hG 4 5 rfl sc.nd (aa (vn 0) (aa (vn 1) ac)))
  (ak (fO [6] JA (bm iQ iw (aT _) (vn 4) ah) (ak (aD 6 sc.nd (v_div (vn 5) (vn 4)))
  (ak (hG 2 3 rfl sc.nd (aa (vn 3) (aa (v_sub (vn 2) (v_mul (vn 6) (vn 3))) ac)))
  (au (hG 5 4 rfl sc.nd (aa (vn 4) (aa (v_sub (vn 5) (v_mul (vn 6) (vn 4))) ac)))))))
  (au (aC (vn 3))))))) ?_
 rintro ws Q ⟨a,m,rfl,⟨a1,am,m60,cop⟩,hQ⟩;refine aB ?_;simp_arith only[ai,af]
 refine iu (σ:=Int×Int×Int×Int) (fun s=>[some (.d (.int a)),some (.d (.int m)),some (.d (.int s.1)),some (.d (.int s.2.1)),some (.d (.int s.2.2.1)),some (.d (.int s.2.2.2)),none]) (fun s=>decide (1<s.2.2.1)) (fun s=>(s.2.1,s.1-s.2.2.2.fdiv s.2.2.1*s.2.1,s.2.2.2-s.2.2.2.fdiv s.2.2.1*s.2.2.1,s.2.2.1)) (fun s=>s.2.2.1.toNat)
  (fun s=>1<=s.2.2.1/\s.2.2.1<s.2.2.2/\s.2.2.2<2^60/\(∃u v:Int,u*s.2.2.1+v*s.2.2.2=1)/\GA.Cg m (s.2.1*a) s.2.2.1/\GA.Cg m (s.1*a) s.2.2.2) (0,1,a,m) rfl ⟨a1,am,m60,cop,.of (by show 1*a=a;omega),⟨-1,by show 0*a=m+m * -1;omega⟩⟩ ?_ ?_ ?_
 · intro s _;simp_arith only[af]
 · rintro⟨f,h,r,d⟩ ⟨r1,rd,d60,⟨u,v,bz⟩,c1,c2⟩ c;dsimp only at *;have r2:1<r:=by simpa using c
   have q0:0<=d.fdiv r:=by rw[J5 _ (by omega)];exact Nr (by omega) (by omega)
   have q1:d.fdiv r<=d:=by rw[J5 _ (by omega)];exact Int.ediv_le_self _ (by omega)
   have em:d-d.fdiv r*r=d%r:=by rw[J5 _ (by omega)];have:=M4 d r;grind
   have m0:=Ox d (show r≠0 by omega);have m1:=NJ d (show 0<r by omega);have cd:g_ d r:=g_.of (by omega) (by omega);have cm1:bo (d.fdiv r) h:=.lt (by omega);have cm2:bo (d.fdiv r) r:=.lt (by omega)
   have mp:1<=d%r:=by
    rcases Int.lt_or_eq_of_le m0 with z|z
    · omega
    · exfalso;have h1:(u*r+v*d)%r=0:=by rw[Int.add_emod,Int.mul_emod_left,Int.mul_emod,<- z];simp
      rw[bz,LN (by omega) (by omega)]at h1;omega
   refine⟨⟨by rw[em];exact mp,by rw[em];exact m1,by omega,⟨v,u+v*d.fdiv r,by grind⟩,?_,c1⟩,by rw[em];omega,[some (.d (.int a)),some (.d (.int m)),some (.d (.int h)),some (.d (.int (f-d.fdiv r*h))),some (.d (.int (d-d.fdiv r*r))),some (.d (.int r)),some (.d (.int (d.fdiv r)))],?_,rfl⟩
   · exact GA.Cg.trans (.of (by grind)) (c2.sub ((GA.Cg.refl (d.fdiv r)).mul c1))
   · simp_arith only[ai,af]
 · rintro⟨f,h,r,d⟩ ⟨r1,rd,d60,⟨u,v,bz⟩,c1,c2⟩ c;dsimp only at *;have r2:¬1<r:=by simpa using c
   have:r=1:=by omega
   subst this;simp_arith only[af];exact aH (hQ h c1)
def bh:List W->(IJ->Prop)->Prop:=fun ws Q=>∃(n a:Int),ws=[.d (.int n),.d (.int a)]/\((0<=n)/\(n<=16)/\(0<=a))/\Q (aR (GA.uni n.toNat a.toNat))
theorem bh.mono:∀ws (Q Q':IJ->Prop),(∀d,Q d->Q' d)->bh ws Q->bh ws Q':=fun _ _ _ h_ ⟨n,a,e_,p_,q_⟩=>⟨n,a,e_,p_,h_ _ q_⟩
theorem bh.len:∀ws (Q:IJ->Prop),bh ws Q->ws.length=2:=fun _ _ ⟨_,_,e_,_⟩=>by subst e_;rfl
theorem bh.eq(n a:Int)(n0:0<=n)(n16:n<=16)(a0:0<=a):bh [.d (.int n),.d (.int a)]=VL.ret (aR (GA.uni n.toNat a.toNat):IJ):=by
 refine ag fun Q=>⟨?_,fun q_=>⟨n,a,rfl,⟨n0,n16,a0⟩,q_⟩⟩;rintro⟨n',a',e_,_,q_⟩;simp_arith only[and_true]at e_;obtain⟨rfl,rfl⟩:=e_;exact q_
theorem fX:FnScope ["many", "place"] ["many", "place"] (defScope (FV 25)):=⟨rfl,rfl,rfl,by decide +kernel,rfl,by decide +kernel,by decide +kernel⟩
theorem d_unit_figures(Fn:FnIn K mg "unit_figures" (FV 25) ["many", "place"])(Z:Bz mg)    : Dfn P w K mg base rl "unit_figures" ["many", "place"] 1 bh:=by
 have sc:=fX;refine Dfn.of Fn sc (bh.mono) (bh.len) (fun cdv A outer s H E hr=>(au (aC (bF Z.tuple_ (aa (bM ["k", "place"] [none,some 1] rfl (aM Z.range_ (aa (vn 0) ac)) (fun _=>(av 0 (show Ki (["k", "place"]:List Str) by decide +kernel))) (fun _=>cr) (fun _=>(fQ (bm (eJ hr.units) cz (aT _) (vn 0) (vn 1)) ah ah))) ac))))) ?_;rintro ws Q ⟨n,a,rfl,⟨n0,n16,a0⟩,hQ⟩;refine aB ?_;have sz:=Ji;have g1 : -(2^62)<=n/\n<2^62:=by omega
 simp_arith only[ai,af];refine i6 (fun k=>.int (if k=a.toNat then 1 else 0)) ?_ (by omega) ?_
 · intro k hk;have e:((0+(k:Int))==a)=decide (k=a.toNat):=by rw[Ll];simp;omega
   simp_arith only[ai,af,GW,e];by_cases h:k=a.toNat
   · simp[h];try rfl
   · simp[h];try rfl
 · rw[di];simp_arith only[ai,af,du];exact aH hQ
def bi:List W->(IJ->Prop)->Prop:=fun ws Q=>∃(xs:List Int),ws=[.d (aR xs)]/\((xs.length<=16))/\∀o:Option Nat,(match o with|none=>∀k,k<xs.length->xs.getD k 0=0|some v=>v<xs.length/\xs.getD v 0≠0)->Q (optN o)
theorem bi.mono:∀ws (Q Q':IJ->Prop),(∀d,Q d->Q' d)->bi ws Q->bi ws Q':=fun _ _ _ h_ ⟨xs,e_,p_,q_⟩=>⟨xs,e_,p_,fun o_ ho_=>h_ _ (q_ o_ ho_)⟩
theorem bi.len:∀ws (Q:IJ->Prop),bi ws Q->ws.length=1:=fun _ _ ⟨_,e_,_⟩=>by subst e_;rfl
theorem bi.eq(xs:List Int)(hl:xs.length<=16):bi [.d (aR xs)]=Hl (anyM fun o:Option Nat=>match o with|none=>∀k,k<xs.length->xs.getD k 0=0|some v=>v<xs.length/\xs.getD v 0≠0) fun o=>VL.ret (optN o:IJ):=by
 refine ag fun Q=>⟨?_,fun q_=>⟨xs,rfl,hl,q_⟩⟩;rintro⟨xs',e_,_,q_⟩;simp_arith only[and_true]at e_;obtain rfl:=e_;exact q_
theorem fZ:FnScope ["figures", "place", "figure"] ["figures"] (defScope (FV 26)):=⟨rfl,rfl,rfl,by decide +kernel,rfl,by decide +kernel,by decide +kernel⟩
theorem d_first_filled(Fn:FnIn K mg "first_filled" (FV 26) ["figures"])(Z:Bz mg)    : Dfn P w K mg base rl "first_filled" ["figures"] 1 bi:=by
 have sc:=fZ
 refine Dfn.of Fn sc (bi.mono) (bi.len) (fun cdv A outer s H E hr=>(ak (bV [1,2] JA rfl (eA Z.enumerate_ (aa (vn 0) ac)) (dz (n:=2) rfl (aO (av 1 sc.nd) (aO (av 2 sc.nd) cA))) (au (cS (bm (ic hr.units) cz (aT _) (vn 2) ah) (au (aC (vn 1))) bP)))
  (au (aC ia)))) ?_
 rintro ws Q ⟨xs,rfl,hl,hQ⟩;refine aB ?_;have sz:=Ji;simp_arith only[ai,af,uU,xD];refine xA (xs:=xs.zipIdx) (enc:=fun z=>Jz [.int (z.2:Nat),.int z.1]) (fun z=>z.1 != 0) (fun z=>.d (.int (z.2:Nat))) rfl ?_ ?_ ?_
 · rintro⟨x,k⟩ mz;refine⟨fun h=>?_,fun h=>?_⟩
   · have e:(x==0)=false:=by simpa using h
     simp_arith only[ai,af,e]
   · have e:(x==0)=true:=by simpa using h
     refine⟨[some (.d (aR xs)),some (.d (.int (k:Nat))),some (.d (.int x))],?_,rfl⟩;simp_arith only[ai,af,e]
 · rintro⟨x,k⟩ mz h;have hk:=List.mem_zipIdx mz;refine aH (hQ (some k) ⟨by omega,?_⟩);rw[GA.gD (by omega)];have:x=xs[k]:=by have:=hk.2.2;simpa using this
   rw[<- this];simpa using h
 · intro h;simp_arith only[af];refine aH (hQ none fun k hk=>?_);have:=h (xs[k],k) (by rw[List.mem_zipIdx_iff_getElem?];simp[hk]);rw[GA.gD hk];simpa using this
def df:List W->(IJ->Prop)->Prop:=fun ws Q=>∃(p:Int)(xs:List Int)(k:Int),ws=[.d (.int p),.d (aR xs),.d (.int k)]/\((2<=p)/\(xs.length<=16)/\(∀x∈xs,0<=x/\x<10))/\Q (aR (GA.scl p xs k))
theorem df.mono:∀ws (Q Q':IJ->Prop),(∀d,Q d->Q' d)->df ws Q->df ws Q':=fun _ _ _ h_ ⟨p,xs,k,e_,p_,q_⟩=>⟨p,xs,k,e_,p_,h_ _ q_⟩
theorem df.len:∀ws (Q:IJ->Prop),df ws Q->ws.length=3:=fun _ _ ⟨_,_,_,e_,_⟩=>by subst e_;rfl
theorem df.eq(p:Int)(xs:List Int)(k:Int)(p2:2<=p)(hl:xs.length<=16)(hx:∀x∈xs,0<=x/\x<10):df [.d (.int p),.d (aR xs),.d (.int k)]=VL.ret (aR (GA.scl p xs k):IJ):=by
 refine ag fun Q=>⟨?_,fun q_=>⟨p,xs,k,rfl,⟨p2,hl,hx⟩,q_⟩⟩;rintro⟨p',xs',k',e_,_,q_⟩;simp_arith only[and_true]at e_;obtain⟨rfl,rfl,rfl⟩:=e_;exact q_
theorem pg:FnScope ["p", "row", "often"] ["p", "row", "often"] (defScope (FV 27)):=⟨rfl,rfl,rfl,by decide +kernel,rfl,by decide +kernel,by decide +kernel⟩
theorem d_scaled(Fn:FnIn K mg "scaled" (FV 27) ["p", "row", "often"])(Z:Bz mg)    : Dfn P w K mg base rl "scaled" ["p", "row", "often"] 1 df:=by
 have sc:=pg;refine Dfn.of Fn sc (df.mono) (df.len) (fun cdv A outer s H E hr=>(au (aC (bF Z.tuple_ (aa (bM ["x", "often", "p"] [none,some 2,some 0] rfl (jc (vn 1)) (fun _=>(av 0 (show Ki (["x", "often", "p"]:List Str) by decide +kernel))) (fun _=>cr) (fun _=>(v_mod (v_mul (vn 1) (vn 0)) (vn 2)))) ac))))) ?_;rintro ws Q ⟨p,xs,k,rfl,⟨p2,hl,hx⟩,hQ⟩;refine aB ?_;have sz:=Ji;have p0:p≠0:=by omega
 simp_arith only[ai,af,c_];refine dZ (xs:=xs) (enc:=Jl) (fun x=>.int ((k*x).fmod p)) rfl ?_ (by omega) ?_
 · intro x mx;have:=hx x mx;have cm:bo k x:=.rt (by omega);simp_arith only[ai,af,GW]
 · rw[di];simp_arith only[ai,af,du];exact aH hQ
def cG:List W->(IJ->Prop)->Prop:=fun ws Q=>∃(p:Int)(xs ys:List Int)(c:Int),ws=[.d (.int p),.d (aR xs),.d (aR ys),.d (.int c)]/\((2<=p)/\(xs.length<=16)/\(ys.length<=16)/\(0<=c)/\(c<xs.length)/\(∀y∈ys,0<=y/\y<10))/\Q (aR (GA.clr p xs ys c.toNat))
theorem cG.mono:∀ws (Q Q':IJ->Prop),(∀d,Q d->Q' d)->cG ws Q->cG ws Q':=fun _ _ _ h_ ⟨p,xs,ys,c,e_,p_,q_⟩=>⟨p,xs,ys,c,e_,p_,h_ _ q_⟩
theorem cG.len:∀ws (Q:IJ->Prop),cG ws Q->ws.length=4:=fun _ _ ⟨_,_,_,_,e_,_⟩=>by subst e_;rfl
theorem cG.eq(p:Int)(xs ys:List Int)(c:Int)(p2:2<=p)(xl:xs.length<=16)(yl:ys.length<=16)(c0:0<=c)(cl:c<xs.length)(hy:∀y∈ys,0<=y/\y<10):cG [.d (.int p),.d (aR xs),.d (aR ys),.d (.int c)]=VL.ret (aR (GA.clr p xs ys c.toNat):IJ):=by
 refine ag fun Q=>⟨?_,fun q_=>⟨p,xs,ys,c,rfl,⟨p2,xl,yl,c0,cl,hy⟩,q_⟩⟩;rintro⟨p',xs',ys',c',e_,_,q_⟩;simp_arith only[and_true]at e_;obtain⟨rfl,rfl,rfl,rfl⟩:=e_;exact q_
theorem nc:FnScope ["p", "row", "other", "column", "often"] ["p", "row", "other", "column"] (defScope (FV 28)):=⟨rfl,rfl,rfl,by decide +kernel,rfl,by decide +kernel,by decide +kernel⟩
theorem d_cleared(Fn:FnIn K mg "cleared" (FV 28) ["p", "row", "other", "column"])(Z:Bz mg)    : Dfn P w K mg base rl "cleared" ["p", "row", "other", "column"] 1 cG:=by
 have sc:=nc
 refine Dfn.of Fn sc (cG.mono) (cG.len) (fun cdv A outer s H E hr=>(ak (aD 4 sc.nd (cP (vn 1) (vn 3)))
  (au (aC (bF Z.tuple_ (aa (bM ["x", "y", "often", "p"] [none,none,some 4,some 0] rfl (iy Z.zip_ (aa (vn 1) (aa (vn 2) ac))) (fun _=>(dz (n:=2) rfl (aO (av 0 (show Ki (["x", "y", "often", "p"]:List Str) by decide +kernel)) (aO (av 1 (show Ki (["x", "y", "often", "p"]:List Str) by decide +kernel)) cA)))) (fun _=>cr) (fun _=>(v_mod (v_sub (vn 0) (v_mul (vn 2) (vn 1))) (vn 3)))) ac)))))) ?_
 rintro ws Q ⟨p,xs,ys,c,rfl,⟨p2,xl,yl,c0,cl,hy⟩,hQ⟩;refine aB ?_;have sz:=Ji;have p0:p≠0:=by omega
 have e:VL.itemAt (aR xs) c=some (.int (xs.getD c.toNat 0)):=by rw[k_,mL c0 cl,GA.gD (by omega)];rfl
 simp_arith only[ai,af,e,iD];refine uO (by exact⟨rfl,rfl⟩) ?_;rw[lw];refine dZ (xs:=xs.zip ys) (enc:=fun z=>Jz [.int z.1,.int z.2]) (fun z=>.int ((z.1-xs.getD c.toNat 0*z.2).fmod p)) rfl ?_ (by rw[LO];omega) ?_
 · rintro⟨x,y⟩ mz;have:=hy y (KG mz).2;have cm:bo (xs.getD c.toNat 0) y:=.rt (by omega);simp_arith only[ai,af,GW]
 · rw[di];simp_arith only[ai,af,du];exact aH hQ
theorem zR:optN none = .none:=rfl
theorem zQ(v:Nat):optN (some v) = .int (v:Int):=rfl
theorem uQ:optT none = .none:=rfl
theorem uP(v:List Int):optT (some v)=aR v:=rfl
theorem AI(xs ys:List Int):Jz (xs.map Jl++ys.map Jl)=aR (xs++ys):=by unfold aR;rw[JI]
theorem EY(xs:List α)(f:α->IJ)(k:Nat):VL.cutD (xs.map f) none (some (k:Int))=(xs.take k).map f:=by
 unfold VL.cutD;rw[HT.sIx_none,HT.sIx_nat,NN,IP,NF,<- MJ];congr 1;by_cases z:k<=xs.length
 · rw[L7 z]
 · rw[LY (by omega),JO (by omega),JO (by omega)]
theorem D9(xs:List α)(f:α->IJ)(k:Nat):VL.cutD (xs.map f) (some (k:Int)) none=(xs.drop k).map f:=by
 unfold VL.cutD;rw[HT.sIx_none,HT.sIx_nat,IP,<- List.map_drop,<- MJ];congr 1;by_cases z:k<=xs.length
 · rw[L7 z,JO (by rw[Kn];omega)]
 · rw[LY (by omega),K5 (by omega),K5 (by omega)];simp
def va(p:Int)(t:List (List Int)):Prop:=1<=t.length/\t.length<=8/\(t.getD 0 []).length<=8/\∀r∈t,GA.Fg p (t.getD 0 []).length r
def CH(p:Int)(t:List (List Int))(z:GA.Kp×Option (List Int)):Prop:=match z.2 with
 | none=>GA.GI p (t.getD 0 []).length t.length t t.length z.1
 | some h=>GA.Hg p (t.getD 0 []).length t h
def cg:List W->(Iy->Prop)->Prop:=fun ws Q=>∃(p:Int)(t:List (List Int)),ws=[.d (.int p),.d (tbD t)]/\((p=2\/p=3\/p=5\/p=7)/\(va p t))/\∀z:GA.Kp×Option (List Int),(CH p t z)->Q ((fL z.1,optT z.2))
theorem cg.mono:∀ws (Q Q':Iy->Prop),(∀d,Q d->Q' d)->cg ws Q->cg ws Q':=fun _ _ _ h_ ⟨p,t,e_,p_,q_⟩=>⟨p,t,e_,p_,fun o_ ho_=>h_ _ (q_ o_ ho_)⟩
theorem cg.len:∀ws (Q:Iy->Prop),cg ws Q->ws.length=2:=fun _ _ ⟨_,_,e_,_⟩=>by subst e_;rfl
theorem cg.eq(p:Int)(t:List (List Int))(hp:p=2\/p=3\/p=5\/p=7)(ht:va p t):cg [.d (.int p),.d (tbD t)]=Hl (anyM fun z:GA.Kp×Option (List Int)=>CH p t z) fun z=>VL.ret ((fL z.1,optT z.2):Iy):=by
 refine ag fun Q=>⟨?_,fun q_=>⟨p,t,rfl,⟨hp,ht⟩,q_⟩⟩;rintro⟨p',t',e_,_,q_⟩;simp_arith only[oU]at e_;obtain⟨rfl,rfl⟩:=e_;exact q_
theorem m7:FnScope ["p", "table", "columns", "kept", "number", "figures", "row", "column", "pivot"] ["p", "table"] (defScope (FV 29)):=⟨rfl,rfl,rfl,by decide +kernel,rfl,by decide +kernel,by decide +kernel⟩
theorem d_reduced(Fn:FnIn K mg "reduced" (FV 29) ["p", "table"])(Z:Bz mg)(d_first_filled:∀rl,Dfn P w K mg base rl "first_filled" ["figures"] 1 bi)(d_scaled:∀rl,Dfn P w K mg base rl "scaled" ["p", "row", "often"] 1 df)(d_unit_figures:∀rl,Dfn P w K mg base rl "unit_figures" ["many", "place"] 1 bh)(d_cleared:∀rl,Dfn P w K mg base rl "cleared" ["p", "row", "other", "column"] 1 cG)(d_inverse_of:∀rl,Dfn P w K mg base rl "inverse_of" ["one", "modulus"] 1 bH)   : DfnP P w K mg base rl "reduced" ["p", "table"] 2 cg:=by
 have sc:=m7
 refine DfnP.of Fn sc (cg.mono) (cg.len) (fun cdv A outer s H E hr=>(ak (aD 2 sc.nd (cT Z.len_ (aa (cP (vn 1) ah) ac)))
  (ak (n8 3 (cO 3 sc.nd rY))
  (ak (bV [4,5,6,7,8] JA rfl (eA Z.enumerate_ (aa (vn 1) ac)) (dz (n:=2) rfl (aO (av 4 sc.nd) (aO (av 5 sc.nd) cA))) (ak (aD 6 sc.nd (lF (vn 5) (aA (d_unit_figures _) (hr.mono (by decide)) (aa (cT Z.len_ (aa (vn 1) ac)) (aa (vn 4) ac)))))
  (ak (bV [7] JA rfl (oj (vn 3)) (av 7 sc.nd) (au (aD 6 sc.nd (aA (d_cleared _) (hr.mono (by decide)) (aa (vn 0) (aa (vn 6) (aa (kf hr.un1 (vn 3) (vn 7)) (aa (vn 7) ac))))))))
  (ak (aD 8 sc.nd (aA (d_first_filled _) (hr.mono (by decide)) (aa (mQ (vn 6) dQ (dP (vn 2))) ac)))
  (ak (cS (bm zV yo (aT _) (vn 8) ia) (au (aC (um (aa (vn 3) (aa (mQ (vn 6) (dP (vn 2)) dQ) ac))))) bP)
  (ak (aD 6 sc.nd (aA (d_scaled _) (hr.mono (by decide)) (aa (vn 0) (aa (vn 6) (aa (aA (d_inverse_of _) (hr.mono (by decide)) (aa (cP (vn 6) (vn 8)) (aa (vn 0) ac))) ac)))))
  (ak (i_ 3 sc.nd ["column", "p", "kept", "row", "pivot"] [none,some 0,some 3,some 6,some 8] rfl (oj (vn 3)) (fun _=>(av 0 (show Ki (["column", "p", "kept", "row", "pivot"]:List Str) by decide +kernel))) (fun _=>cr) (fun _=>(vn 0)) (fun _=>(aA (d_cleared _) (hr.mono (by decide)) (aa (vn 1) (aa (kf hr.un1 (vn 2) (vn 0)) (aa (vn 3) (aa (vn 4) ac)))))))
  (au (n8 3 (rR 3 hr.un1 (vn 8) (vn 6)))))))))))
  (au (aC (um (aa (vn 3) (aa ia ac))))))))) ?_
 rintro ws Q ⟨p,t,rfl,⟨hp,ht⟩,hQ⟩;refine sC ?_;have sz:=Ji;have p2:2<=p:=by omega
 have p7:p<=7:=by omega
 obtain⟨t1,t8,c8,hf⟩:=ht;generalize hC:(t.getD 0 []).length=C at *;have e0:atI t 0=some (t.getD 0 []):=by rw[show(0:Int)=((0:Nat):Int)from rfl,cK (IV t1),IT,IV t1];rfl
 simp_arith only[ai,af,IH,Gp,kZ,e0,iW,hC,uU,xC];refine jG (xs:=t.zipIdx) (enc:=fun z=>Jz [.int (z.2:Nat),aR z.1]) (fun i ρ=>∃ks,ρ=[some (.d (.int p)),some (.d (tbD t)),some (.d (.int (C:Int))),some (.fw (fL ks)),none,none,none,none,none]/\GA.GI p C t.length t i ks) rfl ⟨[],rfl,GA.GI.nil p C t.length t⟩ ?_ ?_
 · rintro i hi ρ ⟨ks,rfl,g⟩ K hK;have it:i<t.length:=by rw[NH]at hi;exact hi
   have ez:t.zipIdx[i]=(t[i],i):=by simp
   rw[ez];have hti:=hf _ (Jy it);have eti:t.getD i []=t[i]:=by rw[IT,IV it];rfl
   have gl:t[i].length+(GA.uni t.length i).length<=sizeLine:=by rw[GA.uni_len,hti.1];omega
   simp_arith only[ai,af,IH,Gp,iV,bh.eq,c_,AI,JR];have hk:(fL ks).map (fun p=>rM p.1)=ks.map fun z=>Jl (z.1:Int):=by unfold fL;rw[JY];rfl
   refine qI (xs:=ks) (enc:=fun z=>Jl (z.1:Int)) (fun r:List Int=>[some (.d (.int p)),some (.d (tbD t)),some (.d (.int (C:Int))),some (.fw (fL ks)),some (.d (.int (i:Int))),some (.d (aR t[i])),some (.d (aR r)),none,none]) (fun r z=>GA.clr p r z.2 z.1) (t[i]++GA.uni t.length i) (fun r=>r.length=C+t.length) rfl hk (by rw[JQ,GA.uni_len,hti.1]) ?_ ?_
   · intro z hz r hr;have fz:=g.fg z hz;have lz:=g.lt z hz;have vz:=lD g.nd hz;have q1:r.length<=16:=by omega
     have q2:z.2.length<=16:=by have:=fz.1;omega
     have q3:(z.1:Int)<(r.length:Int):=by omega
     have q4:∀y∈z.2,0<=y/\y<10:=fun y my=>by have:=vg fz y my;omega
     refine⟨GA.clr_len hr fz.1,[some (.d (.int p)),some (.d (tbD t)),some (.d (.int (C:Int))),some (.fw (fL ks)),some (.d (.int (i:Int))),some (.d (aR t[i])),some (.d (aR (GA.clr p r z.2 z.1))),some (.d (.int (z.1:Int))),none],?_,rfl⟩;simp_arith only[ai,af,IH,Gp,vz,cG.eq,JR]
   have er:ks.foldl (fun r z=>GA.clr p r z.2 z.1) (t[i]++GA.uni t.length i)=GA.clrs p (GA.row0 t.length i (t.getD i [])) ks:=by rw[eti];rfl
   rw[er];obtain⟨a1,a2,a3,a4,a5,a6⟩:=g.row p2 hf it;have gh:=g.hang p2 hf it;have gs:=fun(v:Nat)(hv:v<C)(a:Int)=>g.step p2 hf it (v:=v) hv (a:=a);generalize GA.clrs p (GA.row0 t.length i (t.getD i [])) ks=w at *;have wt:(w.take C).length<=16:=by rw[JF];omega
   have tl:(w.take C).length=C:=by rw[JF,a1.1];omega
   have tk:∀k,k<C->(w.take C).getD k 0=w.getD k 0:=fun k hk=>by rw[IT,IT,NS hk]
   simp_arith only[ai,af,IH,Gp,bi.eq,c_,EY,du]
   (with_reducible (first|refine az fun o ho=>?_|refine aI fun o ho=>?_))
   cases o with
   | none =>
     simp_arith only[ai,af,IH,Gp,zR,c_,D9,du];refine hK _ (qm (pz (hQ (ks,some (w.drop C)) ?_)));show GA.Hg p (t.getD 0 []).length t _;rw[hC]
     exact gh fun c hc=>by rw[<- tk c hc];exact ho c (by omega)
   | some v =>
     have hv:v<C:=by have:=ho.1;omega
     have hw:w.getD v 0≠0:=by have:=ho.2;rwa [tk v hv]at this
     have wv:=a1.2 v (by omega);have ev:VL.itemAt (aR w) (v:Int)=some (.int (w.getD v 0)):=by rw[k_,cK (IV (by have:=a1.1;omega)),GA.gD (by have:=a1.1;omega)];rfl
     have b1:1<=w.getD v 0:=by omega
     have b2:w.getD v 0<p:=wv.2;have b3:p<2^60:=by omega
     have b4:=jP hp b1 b2;have wl:w.length<=16:=by have:=a1.1;omega
     have wx:∀x∈w,0<=x/\x<10:=fun x mx=>by have:=vg a1 x mx;omega
     simp_arith only[ai,af,IH,Gp,zQ,ev,bH.eq]
     (with_reducible (first|refine az fun a ha=>?_|refine aI fun a ha=>?_))
     obtain⟨ne,g2⟩:=gs v hv a ha;have sl:(GA.scl p w a).length=C+t.length:=by rw[GA.scl_len,a1.1]
     have s16:(GA.scl p w a).length<=16:=by omega
     have sx:∀x∈GA.scl p w a,0<=x/\x<10:=fun x mx=>by
      obtain⟨y,_,rfl⟩:=Jo.mp mx;have:=GA.fm_in (show 0<p by omega) (a*y);omega
     simp_arith only[ai,af,IH,Gp,df.eq];refine Gk (xF (xs:=ks) (enc:=fun z=>Jl (z.1:Int)) (fun z=>(JZ (z.1:Int),aR (GA.clr p z.2 (GA.scl p w a) v))) hk ?_ (by have:=g.len;omega) ?_)
     · intro z hz;have fz:=g.fg z hz;have vz:=lD g.nd hz;have q2:z.2.length<=16:=by have:=fz.1;omega
       have q3:(v:Int)<(z.2.length:Int):=by have:=fz.1;omega
       simp_arith only[ai,af,IH,Gp,GX,vz,cG.eq,JR]
     have ec:(ks.map fun z=>((JZ (z.1:Int):Ie),aR (GA.clr p z.2 (GA.scl p w a) v)))=fL (ks.map fun z=>(z.1,GA.clr p z.2 (GA.scl p w a) v)):=by unfold fL;rw[JY];rfl
     have nd2:((ks.map fun z=>(z.1,GA.clr p z.2 (GA.scl p w a) v)).map (·.1)).Nodup:=by rw[JY];exact g.nd
     rw[ec,mC _ [] nd2 (fun _ _ _ h=>nomatch h),Nl];have el:(fL (ks.map fun z=>(z.1,GA.clr p z.2 (GA.scl p w a) v))).length<sizeLine:=by unfold fL;rw[IP,IP,g.len];omega
     have ep:VL.putF (fL (ks.map fun z=>(z.1,GA.clr p z.2 (GA.scl p w a) v))) (JZ (v:Int)) (aR (GA.scl p w a))=fL (ks.map (fun z=>(z.1,GA.clr p z.2 (GA.scl p w a) v))++[(v,GA.scl p w a)]):=by
      rw[lR]
      · unfold fL;rw[JI];rfl
      · intro kv hk;unfold fL at hk;obtain⟨y,my,rfl⟩:=Jo.mp hk;obtain⟨z,mz,rfl⟩:=Jo.mp my;intro e;exact ne z mz (by have:=NY e;omega)
     simp_arith only[ai,af,IH,Gp,ep];exact hK _ (cI ⟨_,rfl,g2⟩)
 · rintro ρ ⟨ks,rfl,g⟩;rw[NH]at g;simp_arith only[ai,af,IH,Gp];exact pz (hQ (ks,none) (by show GA.GI p (t.getD 0 []).length _ _ _ _;rw[hC];exact g))
theorem oA(ks:GA.Kp)(c:Nat):nS (fL ks) (JZ (c:Int))=(ks.find? fun z=>decide (z.1=c)).map fun z=>aR z.2:=by
 unfold nS fL
 induction ks with
 | nil=>rfl
 | cons y ks ih =>
   rw[Jg,Ka,Ka]
   have:decide ((JZ (y.1:Int):Ie)=JZ (c:Int))=decide (y.1=c):=by
    by_cases e:y.1=c
    · rw[decide_eq_true e,decide_eq_true (by rw[e])]
    · rw[decide_eq_false e,decide_eq_false fun h=>e (by have:=NY h;omega)]
   dsimp only;rw[this]
   cases decide (y.1=c)with
   | true=>rfl
   | false=>exact ih
def CL(p:Int)(t:List (List Int))(o:Option (List (List Int))):Prop:=match o with
 | none=>∃h,GA.Hg p (t.getD 0 []).length t h
 | some x=>GA.IsRi p (t.getD 0 []).length t x/\t.length<=(t.getD 0 []).length
def CQ(p:Int)(t:List (List Int))(o:Option (List Int)):Prop:=match o with
 | none=>∃x,GA.IsRi p (t.getD 0 []).length t x
 | some h=>GA.Hg p (t.getD 0 []).length t h
theorem ww{t:List (List Int)}{z:GA.Kp×Option (List Int)}(p2:2<=p)(ht:va p t)(h:CH p t z):CQ p t z.2:=by
 obtain⟨ks,o⟩:=z
 cases o with
 | none=>exact⟨_,GA.GI.ri p2 ht.2.2.2 (show GA.GI p _ t.length t t.length ks from h)⟩
 | some x=>exact h
theorem zg(n:Nat):Jz (I0 n (Jl 0))=aR (I0 n 0):=by unfold aR;rw[KU]
def bu:List W->(IJ->Prop)->Prop:=fun ws Q=>∃(p:Int)(t:List (List Int)),ws=[.d (.int p),.d (tbD t)]/\((p=2\/p=3\/p=5\/p=7)/\(va p t))/\∀o:Option (List Int),(CQ p t o)->Q (optT o)
theorem bu.mono:∀ws (Q Q':IJ->Prop),(∀d,Q d->Q' d)->bu ws Q->bu ws Q':=fun _ _ _ h_ ⟨p,t,e_,p_,q_⟩=>⟨p,t,e_,p_,fun o_ ho_=>h_ _ (q_ o_ ho_)⟩
theorem bu.len:∀ws (Q:IJ->Prop),bu ws Q->ws.length=2:=fun _ _ ⟨_,_,e_,_⟩=>by subst e_;rfl
theorem bu.eq(p:Int)(t:List (List Int))(hp:p=2\/p=3\/p=5\/p=7)(ht:va p t):bu [.d (.int p),.d (tbD t)]=Hl (anyM fun o:Option (List Int)=>CQ p t o) fun o=>VL.ret (optT o:IJ):=by
 refine ag fun Q=>⟨?_,fun q_=>⟨p,t,rfl,⟨hp,ht⟩,q_⟩⟩;rintro⟨p',t',e_,_,q_⟩;simp_arith only[oU]at e_;obtain⟨rfl,rfl⟩:=e_;exact q_
theorem gR:FnScope ["p", "table"] ["p", "table"] (defScope (FV 31)):=⟨rfl,rfl,rfl,by decide +kernel,rfl,by decide +kernel,by decide +kernel⟩
theorem d_combination(Fn:FnIn K mg "combination" (FV 31) ["p", "table"])(Z:Bz mg)(d_reduced:∀rl,DfnP P w K mg base rl "reduced" ["p", "table"] 2 cg)   : Dfn P w K mg base rl "combination" ["p", "table"] 3 bu:=by
 have sc:=gR;refine Dfn.of Fn sc (bu.mono) (bu.len) (fun cdv A outer s H E hr=>(au (aC (Bl (oC (d_reduced _) (hr.mono (by decide)) (aa (vn 0) (aa (vn 1) ac))) ah)))) ?_;rintro ws Q ⟨p,t,rfl,⟨hp,ht⟩,hQ⟩;refine aB ?_;simp_arith only[ai,af,IH,Gp,cg.eq]
 (with_reducible (first|refine az fun z hz=>?_|refine aI fun z hz=>?_))
 try simp_arith only[ai,af,IH,Gp]
 exact aH (hQ z.2 (ww (by omega) ht hz))
def be:List W->(IJ->Prop)->Prop:=fun ws Q=>∃(p:Int)(t:List (List Int)),ws=[.d (.int p),.d (tbD t)]/\((p=2\/p=3\/p=5\/p=7)/\(va p t))/\∀o:Option (List (List Int)),(CL p t o)->Q (optTb o)
theorem be.mono:∀ws (Q Q':IJ->Prop),(∀d,Q d->Q' d)->be ws Q->be ws Q':=fun _ _ _ h_ ⟨p,t,e_,p_,q_⟩=>⟨p,t,e_,p_,fun o_ ho_=>h_ _ (q_ o_ ho_)⟩
theorem be.len:∀ws (Q:IJ->Prop),be ws Q->ws.length=2:=fun _ _ ⟨_,_,e_,_⟩=>by subst e_;rfl
theorem be.eq(p:Int)(t:List (List Int))(hp:p=2\/p=3\/p=5\/p=7)(ht:va p t):be [.d (.int p),.d (tbD t)]=Hl (anyM fun o:Option (List (List Int))=>CL p t o) fun o=>VL.ret (optTb o:IJ):=by
 refine ag fun Q=>⟨?_,fun q_=>⟨p,t,rfl,⟨hp,ht⟩,q_⟩⟩;rintro⟨p',t',e_,_,q_⟩;simp_arith only[oU]at e_;obtain⟨rfl,rfl⟩:=e_;exact q_
theorem fG:FnScope ["p", "table", "kept", "hanging", "columns", "noughts"] ["p", "table"] (defScope (FV 30)):=⟨rfl,rfl,rfl,by decide +kernel,rfl,by decide +kernel,by decide +kernel⟩
theorem d_right_inverse(Fn:FnIn K mg "right_inverse" (FV 30) ["p", "table"])(Z:Bz mg)(d_reduced:∀rl,DfnP P w K mg base rl "reduced" ["p", "table"] 2 cg)   : Dfn P w K mg base rl "right_inverse" ["p", "table"] 3 be:=by
 have sc:=fG
 refine Dfn.of Fn sc (be.mono) (be.len) (fun cdv A outer s H E hr=>(ak (yg 2 3 rfl sc.nd (oC (d_reduced _) (hr.mono (by decide)) (aa (vn 0) (aa (vn 1) ac))))
  (ak (cS (bm qg og (aT _) (vn 3) ia) (au (aC ia)) bP)
  (ak (aD 4 sc.nd (cT Z.len_ (aa (cP (vn 1) ah) ac)))
  (ak (aD 5 sc.nd (uo (cZ (aa ah ac)) (cT Z.len_ (aa (vn 1) ac))))
  (au (aC (bF Z.tuple_ (aa (bM ["column", "kept", "columns", "noughts"] [none,some 2,some 4,some 5] rfl (aM Z.range_ (aa (vn 4) ac)) (fun _=>(av 0 (show Ki (["column", "kept", "columns", "noughts"]:List Str) by decide +kernel))) (fun _=>cr) (fun _=>(fQ (vK hr.un1 (vn 0) (vn 1)) (mQ (kf hr.un1 (vn 1) (vn 0)) (dP (vn 2)) dQ) (vn 3)))) ac))))))))) ?_
 rintro ws Q ⟨p,t,rfl,⟨hp,ht⟩,hQ⟩;refine aB ?_;have sz:=Ji;have p2:2<=p:=by omega
 simp_arith only[ai,af,IH,Gp,cg.eq]
 (with_reducible (first|refine az fun z hz=>?_|refine aI fun z hz=>?_))
 obtain⟨ks,o⟩:=z
 cases o with
 | some h =>
   simp_arith only[ai,af,IH,Gp,uP]
   exact aH (hQ none ⟨h,hz⟩)
 | none =>
   obtain⟨t1,t8,c8,hf⟩:=ht;have g:GA.GI p (t.getD 0 []).length t.length t t.length ks:=hz;have ri:CL p t (some ((Jq (t.getD 0 []).length).map fun c=>GA.xrow (t.getD 0 []).length t.length ks c)):=⟨GA.GI.ri p2 hf g,g.le⟩;generalize hC:(t.getD 0 []).length=C at *;have e0:atI t 0=some (t.getD 0 []):=by rw[show(0:Int)=((0:Nat):Int)from rfl,cK (IV t1),IT,IV t1];rfl
   have g1 : -(2^62)<=(C:Int)/\(C:Int)<2^62:=by omega
   simp_arith only[ai,af,IH,Gp,uQ,kZ,e0,iW,iV,hC]
   have rf:Jz (I0 t.length [Jl 0]).flatten=aR (I0 t.length 0):=by
    rw[<- zg];congr 1;generalize t.length=n
    induction n with
    | zero=>rfl
    | succ n ih=>rw[Jx,Jx,Kr,ih];rfl
   rw[rf];refine bX ⟨by simp,by omega,by omega⟩ ?_;refine i6 (fun c=>aR (GA.xrow C t.length ks c)) ?_ (by omega) ?_
   · intro c hc;have ek:(0+(c:Int))=(c:Int):=M3 _;have vf:=oA ks c
     cases hf:ks.find? (fun z=>decide (z.1=c))with
     | none =>
       rw[hf]at vf;have ex:GA.xrow C t.length ks c=I0 t.length 0:=by unfold GA.xrow;rw[hf]
       simp_arith only[ai,af,IH,Gp,GW,ek,vf,Option.map_none,Option.isSome_none,ex]
     | some z =>
       rw[hf]at vf;have ex:GA.xrow C t.length ks c=z.2.drop C:=by unfold GA.xrow;rw[hf]
       simp_arith only[ai,af,IH,Gp,GW,ek,vf,Option.map_some,NC,ex,c_,D9,du]
   · rw[iS];exact aH (hQ _ ri)
noncomputable def shp:Nat->Nat->List (List Int)
 | 0,_=>[]
 | 1,w=>[[(w:Int)]]
 | m+2,w=>(Jq (w+1)).flatMap fun f=>(shp (m+1) (w-f)).map fun r=>(f:Int)::r
theorem yY{c:Nat}{f:Nat->Nat}(h:∀i,i<n->f i<=c):((Jq n).map f).sum<=n*c:=by
 induction n with
 | zero=>simp
 | succ n ih =>
   rw[Oy,JI,Np];have h1:=ih fun i hi=>h i (by omega);have h2:=h n (by omega);simp[NB];omega
theorem kz:∀(m w:Nat),w<=5->(shp (m+1) w).length<=6^m
 | 0,w,_=>by simp[shp]
 | m+1,w,h=>by
   rw[shp,Mt];refine Ks (yY (c:=6^m) fun f _=>?_) ?_
   · rw[IP];exact kz m (w-f) (by omega)
   · rw[Ou,Om];exact Nat.mul_le_mul_left _ (by omega)
theorem kr:∀(m w:Nat)(r:List Int),r∈shp (m+1) w->r.length=m+1/\(∀k∈r,0<=k)/\r.sum=w
 | 0,w,r,h=>by
   simp[shp]at h;subst h
   simp
 | m+1,w,r,h=>by
   rw[shp,Lu]at h;obtain⟨f,hf,h⟩:=h;rw[Ko]at hf;obtain⟨q,mq,rfl⟩:=Jo.mp h;obtain⟨a,b,c⟩:=kr m (w-f) q mq;refine⟨by rw[JL,a],fun k mk=>?_,?_⟩
   · rcases JV.mp mk with rfl|mk
     · omega
     · exact b k mk
   · rw[JD,c];omega
def aL:Nat->List W->(IJ->Prop)->Prop
 | 0,_,_=>False
 | n+1,ws,Q=>∃m w:Int,ws=[.d (.int m),.d (.int w)]/\(1<=m/\m<=n+1/\n<=3/\0<=w/\w<=5)/\Q (.list ((shp m.toNat w.toNat).map aR))
theorem aL.mono:∀n ws (Q Q':IJ->Prop),(∀d,Q d->Q' d)->aL n ws Q->aL n ws Q'
 | 0,_,_,_,_,z=>z
 | _+1,_,_,_,h,⟨m,w,e,p,q⟩=>⟨m,w,e,p,h _ q⟩
theorem aL.len:∀n ws (Q:IJ->Prop),aL n ws Q->ws.length=2
 | 0,_,_,z=>z.elim
 | _+1,_,_,⟨_,_,e,_⟩=>by subst e;rfl
theorem aL.eqn(n:Nat)(m w:Int)(h:1<=m/\m<=n+1/\n<=3/\0<=w/\w<=5):aL (n+1) [.d (.int m),.d (.int w)]=VL.ret (Nt ((shp m.toNat w.toNat).map aR)):=by
 refine ag fun Q=>⟨?_,fun q=>⟨m,w,rfl,h,q⟩⟩;rintro⟨m',w',e,_,q⟩;simp only[Kf,W.d.injEq,N8,and_true]at e;obtain⟨rfl,rfl⟩:=e;exact q
theorem js:FnScope ["many", "w"] ["many", "w"] (defScope (FV 35)):=⟨rfl,rfl,rfl,by decide +kernel,rfl,by decide +kernel,by decide +kernel⟩
theorem cx(n:Nat)(Fn:FnIn K mg "shapes_of" (FV 35) ["many", "w"])(Z:Bz mg)(d_shapes_of:∀rl,Dfn P w K mg base rl "shapes_of" ["many", "w"] (0+n) (aL n)):Dfn P w K mg base rl "shapes_of" ["many", "w"] (0+n+1) (aL (n+1)):=by
 have sc:=js
 refine Dfn.of Fn sc (aL.mono _) (aL.len _) (fun cdv A outer s H E hr=>(ak (cS (bm (eJ hr.units) cz (aT _) (vn 0) ah) (au (aC (eB (aa (cZ (aa (vn 1) ac)) ac)))) bP)
  (au (aC (rW ["first", "rest", "many", "w"] [none,none,some 0,some 1] rfl (aM Z.range_ (aa (v_add (vn 1) ah) ac)) (fun _=>(av 0 (show Ki (["first", "rest", "many", "w"]:List Str) by decide +kernel))) (fun _=>cr) (fun _=>(iz (aA (d_shapes_of _) (hr.mono (by omega)) (aa (v_sub (vn 2) ah) (aa (v_sub (vn 3) (vn 0)) ac))))) (fun _=>(av 1 (show Ki (["first", "rest", "many", "w"]:List Str) by decide +kernel))) (fun _=>cr) (fun _=>(lF (cZ (aa (vn 0) ac)) (vn 1)))))))) ?_
 rintro ws Q ⟨m,w,rfl,⟨m1,mn,n3,w0,w5⟩,hQ⟩;refine aB ?_;have sz:=Ji;by_cases h1:m=1
 · subst h1
   have e:(shp (K4 1) w.toNat).map aR=[Jz [.int w]]:=by
    show [aR [((w.toNat:Nat):Int)]]=_;rw[Kk w0];rfl
   rw[e]at hQ;simp_arith only[ai,af];exact kI hQ
 · have t1:(m==1)=false:=by simpa using h1
   obtain⟨n',rfl⟩:∃n',n=n'+1:=⟨n-1,by omega⟩;obtain⟨j,ej⟩:∃j:Nat,m.toNat=j+2:=⟨m.toNat-2,by omega⟩;have g1 : -(2^62)<=w+1/\w+1<2^62:=by omega
   have lb:=kz (j+1) w.toNat (by omega);have j2:j<=2:=by omega
   have l216:(shp (j+1+1) w.toNat).length<=216:=Ks lb (Ks (JK (by decide) (show j+1<=3 by omega)) (by decide))
   have eF:(Jq (w+1).toNat).flatMap (fun k:Nat=>(shp (j+1) (w.toNat-k)).map fun r=>aR ((k:Int)::r))=(shp m.toNat w.toNat).map aR:=by
    rw[ej,shp,List.map_flatMap,show(w+1).toNat=w.toNat+1 by omega];congr 1;funext f;rw[JY];rfl
   simp_arith only[ai,af,II,t1];refine CA (xs:=Jq (w+1).toNat) (enc:=fun k:Nat=>Jl (0+(k:Int))) (fun k=>(shp (j+1) (w.toNat-k)).map fun r=>aR ((k:Int)::r)) rfl ?_ ?_ ?_
   · intro k mk acc hl;have hk:k<(w+1).toNat:=Ko.mp mk;have en:=aL.eqn n' (m-1) (w-(0+(k:Int))) (by omega);rw[show(m-1).toNat=j+1 by omega,show(w-(0+(k:Int))).toNat=w.toNat-k by omega]at en;have ml:=kr j (w.toNat-k);simp_arith only[ai,af,uW,en];rw[IP]at hl;have hc:=eS (b:=GW [some (W.d (Jl (0+(k:Int)))),none,some (W.d (Jl m)),some (W.d (Jl w))] (xv 1) (fun x Q=>Q true) (FO qG (yE (jf (xY 0) uy)) (xY 1))) (enc:=aR) (fun r=>some (aR ((k:Int)::r))) (shp (j+1) (w.toNat-k)) acc ?_ hl
     · rw[hc,Of]
     · intro r mr;obtain⟨r1,_⟩:=ml r mr;have ek:(0+(k:Int))=(k:Int):=M3 _;have rz:1+r.length<=sizeLine:=by omega
       simp_arith only[ai,af,GW,c_];rw[ek];rfl
   · rw[eF,IP,ej];show(shp (j+1+1) w.toNat).length<=_;omega
   · rw[eF];exact kI hQ
theorem d_shapes_of(Fn:FnIn K mg "shapes_of" (FV 35) ["many", "w"])(Z:Bz mg)    : Dfn P w K mg base rl "shapes_of" ["many", "w"] 4 (aL 4):=by
 have d0:∀rl,Dfn P w K mg base rl "shapes_of" ["many", "w"] 0 (aL 0):=fun rl=>Dfn.never Fn;have d1:∀rl,Dfn P w K mg base rl "shapes_of" ["many", "w"] 1 (aL 1):=fun rl=>cx 0 Fn Z    d0;have d2:∀rl,Dfn P w K mg base rl "shapes_of" ["many", "w"] 2 (aL 2):=fun rl=>cx 1 Fn Z    d1;have d3:∀rl,Dfn P w K mg base rl "shapes_of" ["many", "w"] 3 (aL 3):=fun rl=>cx 2 Fn Z    d2;have d4:∀rl,Dfn P w K mg base rl "shapes_of" ["many", "w"] 4 (aL 4):=fun rl=>cx 3 Fn Z    d3;exact d4 rl
noncomputable def rowsT(ts:List (List (List Int)))(ks:List Int):List (List Int):=(ts.zip ks).flatMap fun z=>z.1.take z.2.toNat
theorem ye(ts:List (List (List Int)))(ks:List Int):i9 (ts.map tbD) (ks.map Jl)=(ts.zip ks).map fun z=>Jz [tbD z.1,.int z.2]:=iq tbD Jl ts ks
noncomputable def Gv(p k:Int)(fs:List Int):Sd:=.from (qd (tv p (fs.take k.toNat)) (p^k.toNat)) (qd (tv p (fs.take k.toNat)+1) (p^k.toNat))
noncomputable def Gs(p:Int):List Int->List Int->List Sd
 | [],_=>[]
 | k::ks,fs=>Gv p k fs::Gs p ks (fs.drop k.toNat)
theorem yX{ks:List Int}(h:∀x∈ks,0<=x):0<=ks.sum:=by
 induction ks with
 | nil=>simp
 | cons a l ihl=>rw[JD];have:=ihl fun y my=>h y (IM _ my);have:=h a IS;omega
theorem AB(f:α->IJ)(xs:List α){k:Int}(h:0<=k):VL.cutD (xs.map f) none (some k)=(xs.take k.toNat).map f:=by
 unfold VL.cutD;rw[f_ h,IP];show(((xs.map f).drop 0).take (min k.toNat xs.length-0))=_;rw[NN,NF,<- MJ];congr 1;rw[List.take_eq_take_iff];omega
theorem zP{o:Option α}{a:α}{k:α->Mo β}{Q:β->Prop}(e:o=some a)(h:k a Q):aQ o k Q:=by rw[e,opt_some];exact h
def cD:List W->(IJ->Prop)->Prop:=fun ws Q=>∃(ts:List (List (List Int)))(ks:List Int),ws=[.d (tbsD ts),.d (aR ks)]/\((ts.length<=4)/\(∀t∈ts,t.length<=8)/\(∀k∈ks,0<=k))/\Q (tbD (rowsT ts ks))
theorem cD.mono:∀ws (Q Q':IJ->Prop),(∀d,Q d->Q' d)->cD ws Q->cD ws Q':=fun _ _ _ h_ ⟨ts,ks,e_,p_,q_⟩=>⟨ts,ks,e_,p_,h_ _ q_⟩
theorem cD.len:∀ws (Q:IJ->Prop),cD ws Q->ws.length=2:=fun _ _ ⟨_,_,e_,_⟩=>by subst e_;rfl
theorem cD.eq(ts:List (List (List Int)))(ks:List Int)(t4:ts.length<=4)(t8:∀t∈ts,t.length<=8)(hk:∀k∈ks,0<=k):cD [.d (tbsD ts),.d (aR ks)]=VL.ret (tbD (rowsT ts ks):IJ):=by
 refine ag fun Q=>⟨?_,fun q_=>⟨ts,ks,rfl,⟨t4,t8,hk⟩,q_⟩⟩;rintro⟨ts',ks',e_,_,q_⟩;simp_arith only[lK]at e_;obtain⟨rfl,rfl⟩:=e_;exact q_
theorem mZ:FnScope ["tables", "shape", "rows", "table", "k"] ["tables", "shape"] (defScope (FV 36)):=⟨rfl,rfl,rfl,by decide +kernel,rfl,by decide +kernel,by decide +kernel⟩
theorem d_rows_of(Fn:FnIn K mg "rows_of" (FV 36) ["tables", "shape"])(Z:Bz mg)    : Dfn P w K mg base rl "rows_of" ["tables", "shape"] 1 cD:=by
 have sc:=mZ
 refine Dfn.of Fn sc (cD.mono) (cD.len) (fun cdv A outer s H E hr=>(ak (aD 2 sc.nd (cZ ac))
  (ak (bV [3,4] JA rfl (iy Z.zip_ (aa (vn 0) (aa (vn 1) ac))) (dz (n:=2) rfl (aO (av 3 sc.nd) (aO (av 4 sc.nd) cA))) (au (vB 2 sc.nd (mQ (vn 3) dQ (dP (vn 4))))))
  (au (aC (vn 2)))))) ?_
 rintro ws Q ⟨ts,ks,rfl,⟨t4,t8,hk⟩,hQ⟩;refine aB ?_;have sz:=Ji
 have zo:(if(match tbsD ts with|Jz xs=>true|x=>false)=true/\(match aR ks with|Jz xs=>true|x=>false)=true then(d_ (tbsD ts)).bind fun xs=>Option.map (fun ys=>i9 xs ys) (d_ (aR ks))else none)=some ((ts.zip ks).map fun z=>Jz [tbD z.1,.int z.2]):=by
  show some (i9 (ts.map tbD) (ks.map Jl))=_;rw[ye]
 simp_arith only[ai,af,uG,Gn];refine Gj (zP zo ?_);have zl:(ts.zip ks).length<=4:=by rw[LO];omega
 refine jG (xs:=ts.zip ks) (enc:=fun z=>Jz [tbD z.1,.int z.2]) (fun i ρ=>ρ=[some (.d (tbsD ts)),some (.d (aR ks)),some (.d (.tuple (((ts.zip ks).take i).flatMap fun z=>(z.1.take z.2.toNat).map aR))),none,none]) rfl rfl ?_ ?_
 · rintro i hi ρ rfl K hK;obtain⟨m1,m2⟩:((ts.zip ks)[i]).1∈ts/\((ts.zip ks)[i]).2∈ks:=KG (Jy hi);have k0:=hk _ m2;have l8:=t8 _ m1;have ec:VL.cutD (((ts.zip ks)[i]).1.map aR) none (some ((ts.zip ks)[i]).2)=(((ts.zip ks)[i]).1.take ((ts.zip ks)[i]).2.toNat).map aR:=AB aR _ k0
   have lb:(((ts.zip ks).take i).flatMap fun z=>(z.1.take z.2.toNat).map aR).length<=32:=by
    rw[Mt]
    have hs:∀n (l:List (List (List Int)×Int)),(∀z∈l,z.1.length<=8)->l.length<=n->(l.map fun z=>((z.1.take z.2.toNat).map aR).length).sum<=8*n:=by
     intro n l
     induction l generalizing n with
     | nil=>intro _ _;simp
     | cons a l ih =>
       intro h1 h2;rw[JL]at h2;obtain⟨n',rfl⟩:∃n',n=n'+1:=⟨n-1,by omega⟩;have q1:=ih n' (fun z mz=>h1 z (IM _ mz)) (by omega);have q2:=h1 a IS;rw[Jg,JD,IP,JF];omega
    exact hs 4 _ (fun z mz=>t8 _ (KG (KW mz)).1) (by rw[JF];omega)
   have eT:tbD ((ts.zip ks)[i]).1 = .tuple (((ts.zip ks)[i]).1.map aR):=rfl
   have es:(((ts.zip ks).take i).flatMap fun z=>(z.1.take z.2.toNat).map aR)++(((ts.zip ks)[i]).1.take ((ts.zip ks)[i]).2.toNat).map aR=((ts.zip ks).take (i+1)).flatMap fun z=>(z.1.take z.2.toNat).map aR:=by
    rw[KZ hi,List.flatMap_append];simp
   have l2:((((ts.zip ks)[i]).1.take ((ts.zip ks)[i]).2.toNat).map aR).length<=8:=by rw[IP,JF];omega
   have lz:(((ts.zip ks).take i).flatMap fun z=>(z.1.take z.2.toNat).map aR).length+(((ts.zip ks)[i]).1.take ((ts.zip ks)[i]).2.toNat).length<=sizeLine:=by rw[JF];omega
   simp_arith only[ai,af,uG,Gn,eT,ec,es];exact hK _ (cI rfl)
 · rintro ρ rfl;rw[JO (I_ _)]
   have er:Jz ((ts.zip ks).flatMap fun z=>(z.1.take z.2.toNat).map aR)=tbD (rowsT ts ks):=by
    unfold tbD rowsT;rw[List.map_flatMap]
   simp_arith only[ai,af,er];exact aH hQ
theorem uV:∀{ks:List Int},(∀x∈ks,0<=x)->∀k∈ks,k<=ks.sum
 | [],_,k,mk=>by simp at mk
 | a::l,h,k,mk=>by
   rw[JD];have s0:0<=l.sum:=yX fun x mx=>h x (IM _ mx);have a0:=h a IS;rcases JV.mp mk with rfl|mk
   · omega
   · have:=uV (fun x mx=>h x (IM _ mx)) k mk;omega
theorem lO:∀(ts:List (List (List Int)))(ks:List Int)(m:Nat),(∀t∈ts,t.length=m)->ks.length=ts.length->(∀k∈ks,0<=k/\k<=m)->((rowsT ts ks).length:Int)=ks.sum
 | [],[],m,_,_,_=>rfl
 | [],_::_,_,_,h,_=>by simp at h
 | _::_,[],_,_,h,_=>by simp at h
 | t::ts,k::ks,m,ht,hl,hk=>by
   have ih:=lO ts ks m (fun u mu=>ht u (IM _ mu)) (by simpa using hl) (fun x mx=>hk x (IM _ mx));obtain⟨k0,km⟩:=hk k IS;have tl:=ht t IS;show((t.take k.toNat++rowsT ts ks).length:Int)=_;rw[JQ,JF,JD];omega
theorem sB{ks:List Int}{row:List Int}(h:row∈rowsT ts ks):∃t∈ts,row∈t:=by
 obtain⟨z,mz,hr⟩:=Lu.mp h;exact⟨z.1,(KG mz).1,KW hr⟩
theorem o8:∀(n w:Nat)(r:List Int),r.length=n+1->(∀k∈r,0<=k)->r.sum=w->r∈shp (n+1) w
 | 0,w,r,hl,h0,hs=>by
   obtain⟨a,rfl⟩:∃a,r=[a]:=by cases r with|nil=>simp at hl|cons a r=>cases r with|nil=>exact⟨a,rfl⟩|cons b r=>simp at hl
   simp at hs;subst hs
   simp[shp]
 | n+1,w,r,hl,h0,hs=>by
   cases r with
   | nil=>simp at hl
   | cons a r =>
     rw[JD]at hs;have a0:=h0 a IS;have r0:∀k∈r,0<=k:=fun k hk=>h0 k (IM _ hk)
     have s0:0<=r.sum:=by
      clear hl hs h0
      induction r with
      | nil=>exact N3 _
      | cons x r ih=>rw[JD];have:=r0 x IS;have:=ih (fun k hk=>r0 k (IM _ hk));omega
     rw[shp,Lu];refine⟨a.toNat,Ko.mpr (by omega),Jo.mpr ⟨r,o8 n (w-a.toNat) r (by simpa using hl) r0 (by omega),?_⟩⟩;rw[Kk a0]
abbrev hdM(ts:List (List (List Int))):Nat:=(ts.headD []).length
theorem wg{ks:List Int}(ht:ip p m ts)(m5:m<=5)(kl:ks.length=ts.length)(k0:∀k∈ks,0<=k)(w1:1<=ks.sum)(wm:ks.sum<=m):va p (rowsT ts ks)/\((rowsT ts ks).getD 0 []).length=m:=by
 have km:∀k∈ks,0<=k/\k<=(m:Int):=fun k mk=>⟨k0 k mk,by have:=uV k0 k mk;omega⟩;have rl:=lO ts ks m (fun t mt=>(ht.2.2 t mt).1) kl km
 have al:∀r∈rowsT ts ks,GA.Fg p m r:=fun r mr=>by
  obtain⟨t,mt,hr⟩:=sB mr;exact CN ((ht.2.2 t mt).2 r hr).1 ((ht.2.2 t mt).2 r hr).2
 have l0:0<(rowsT ts ks).length:=by omega
 have e0:((rowsT ts ks).getD 0 []).length=m:=by rw[IT,IV l0];exact(al _ (Jy l0)).1
 exact⟨⟨l0,by omega,by omega,by rw[e0];exact al⟩,e0⟩
def Ec(p:Int)(ts:List (List (List Int)))(w:Int)(d:IJ):Prop:=(GA.Net p (hdM ts) ts w/\∃x,d = .tuple [.str "net", x])\/(¬GA.Net p (hdM ts) ts w/\∃x y,d = .tuple [.str "none", x,y])
theorem Pm.pr{m:Int}(h:Pm p m):p=2\/p=3\/p=5\/p=7:=h.1
def bS:List W->(IJ->Prop)->Prop:=fun ws Q=>∃(p:Int)(ts:List (List (List Int)))(w:Int),ws=[.d (.int p),.d (tbsD ts),.d (.int w)]/\((∃m:Int,Pm p m/\ip p m.toNat ts/\m.toNat=hdM ts/\1<=w/\w<=m))/\∀d:IJ,(Ec p ts w d)->Q (d)
theorem bS.mono:∀ws (Q Q':IJ->Prop),(∀d,Q d->Q' d)->bS ws Q->bS ws Q':=fun _ _ _ h_ ⟨p,ts,w,e_,p_,q_⟩=>⟨p,ts,w,e_,p_,fun o_ ho_=>h_ _ (q_ o_ ho_)⟩
theorem bS.len:∀ws (Q:IJ->Prop),bS ws Q->ws.length=3:=fun _ _ ⟨_,_,_,e_,_⟩=>by subst e_;rfl
theorem bS.eq(p:Int)(ts:List (List (List Int)))(w:Int)(hm:∃m:Int,Pm p m/\ip p m.toNat ts/\m.toNat=hdM ts/\1<=w/\w<=m):bS [.d (.int p),.d (tbsD ts),.d (.int w)]=Hl (anyM fun d:IJ=>Ec p ts w d) fun d=>VL.ret (d:IJ):=by
 refine ag fun Q=>⟨?_,fun q_=>⟨p,ts,w,rfl,hm,q_⟩⟩;rintro⟨p',ts',w',e_,_,q_⟩;simp_arith only[lK]at e_;obtain⟨rfl,rfl,rfl⟩:=e_;exact q_
theorem ju:FnScope ["p", "tables", "w", "inverses", "shape", "rows", "hanging"] ["p", "tables", "w"] (defScope (FV 47)):=⟨rfl,rfl,rfl,by decide +kernel,rfl,by decide +kernel,by decide +kernel⟩
theorem d_net_paper(Fn:FnIn K mg "net_paper" (FV 47) ["p", "tables", "w"])(Z:Bz mg)(d_shapes_of:∀rl,Dfn P w K mg base rl "shapes_of" ["many", "w"] 4 (aL 4))(d_rows_of:∀rl,Dfn P w K mg base rl "rows_of" ["tables", "shape"] 1 cD)(d_combination:∀rl,Dfn P w K mg base rl "combination" ["p", "table"] 3 bu)(d_right_inverse:∀rl,Dfn P w K mg base rl "right_inverse" ["p", "table"] 3 be)   : Dfn P w K mg base rl "net_paper" ["p", "tables", "w"] 5 bS:=by
 have sc:=ju
 refine Dfn.of Fn sc (bS.mono) (bS.len) (fun cdv A outer s H E hr=>(ak (cO 3 sc.nd (eB ac))
  (ak (bV [4,5,6] JA rfl (iz (aA (d_shapes_of _) (hr.mono (by decide)) (aa (cT Z.len_ (aa (vn 1) ac)) (aa (vn 2) ac)))) (av 4 sc.nd) (ak (aD 5 sc.nd (aA (d_rows_of _) (hr.mono (by decide)) (aa (vn 1) (aa (vn 4) ac))))
  (ak (aD 6 sc.nd (aA (d_combination _) (hr.mono (by decide)) (aa (vn 0) (aa (vn 5) ac))))
  (ak (cS (bm qg og (aT _) (vn 6) ia) (au (aC (cZ (aa cB (aa (vn 4) (aa (vn 6) ac)))))) bP)
  (au (fu 3 (aa (aA (d_right_inverse _) (hr.mono (by decide)) (aa (vn 0) (aa (vn 5) ac))) ac)))))))
  (au (aC (cZ (aa cB (aa (bF Z.tuple_ (aa (vn 3) ac)) ac)))))))) ?_
 rintro ws Q ⟨p,ts,w,rfl,hm,hQ⟩;refine aB ?_;have sz:=Ji;obtain⟨m,pm,ht,hh,w1,wm⟩:=hm;obtain⟨w40,p2,p7,m1,m5⟩:=ge pm;have hp:=pm.pr;obtain⟨t1,t4,htt⟩:=id ht;have t8:∀t∈ts,t.length<=8:=fun t mt=>by have:=(htt t mt).1;omega
 have en:aL 4 [.d (.int (ts.length:Int)),.d (.int w)]=_:=aL.eqn 3 (ts.length:Int) w (by omega);rw[JR]at en;have en0:ts.length=(ts.length-1)+1:=by omega
 have sm:∀ks∈shp ts.length w.toNat,ks.length=ts.length/\(∀k∈ks,0<=k)/\ks.sum=w:=fun ks mk=>by
  rw[en0]at mk;obtain⟨a,b,c⟩:=kr _ _ ks mk;exact⟨by omega,b,by omega⟩
 have l216:(shp ts.length w.toNat).length<=216:=by
  rw[en0];exact Ks (kz (ts.length-1) w.toNat (by omega)) (Ks (JK (by decide) (show ts.length-1<=3 by omega)) (by decide))
 simp_arith only[ai,af,eO,en];refine jG (xs:=shp ts.length w.toNat) (enc:=aR) (fun i ρ=>∃xs:List IJ,(xs.length<=i/\∀j (h:j<(shp ts.length w.toNat).length),j<i->GA.Ind p m.toNat (rowsT ts (shp ts.length w.toNat)[j]))/\ρ=[some (.d (.int p)),some (.d (tbsD ts)),some (.d (.int w)),some (.ml xs),none,none,none]) rfl ⟨[],⟨Kc _,fun j _ h=>by omega⟩,rfl⟩ ?_ ?_
 · rintro i hi ρ ⟨xs,⟨xl,hx⟩,rfl⟩ K hK;have mks:=Jy hi;obtain⟨kl,k0,ksum⟩:=sm _ mks;generalize hks:(shp ts.length w.toNat)[i]=ks at *;obtain⟨ok,c0⟩:=wg ht (by omega) kl k0 (by omega) (by omega);have xz:xs.length<sizeLine:=by omega
   simp_arith only[ai,af,cD.eq,bu.eq]
   (with_reducible (first|refine az fun o ho=>?_|refine aI fun o ho=>?_))
   cases o with
   | some h =>
     have ho:GA.Hg p _ (rowsT ts ks) h:=ho;simp_arith only[ai,af,uP];refine eP (fun _=>?_) fun z=>absurd (show(!false)=true from rfl) z;refine hK _ (qm (aH (hQ _ (.inr ⟨fun n=>?_,_,_,rfl⟩))));rw[<- hh]at n;rw[c0]at ho
     exact ho.not (n ks kl k0 ksum)
   | none =>
     obtain⟨x,hx'⟩:=ho;simp_arith only[ai,af,uQ,be.eq]
     (with_reducible (first|refine az fun q hq=>?_|refine aI fun q hq=>?_))
     refine hK _ (cI ⟨xs++[optTb q],⟨by simp;omega,fun j hj hji=>?_⟩,by simp[fo]⟩);by_cases e:j=i
     · subst e;rw[hks];have:=hx'.ind
       rwa [c0]at this
     · exact hx j hj (by omega)
 · rintro ρ ⟨xs,⟨xl,hx⟩,rfl⟩;simp_arith only[ai,af];refine aH (hQ _ (.inl ⟨fun ks kl k0 ksum=>?_,_,rfl⟩));have mk:ks∈shp ts.length w.toNat:=by rw[en0];exact o8 _ _ ks (by omega) k0 (by omega)
   obtain⟨j,hj,rfl⟩:=Ln mk;rw[<- hh];exact hx j hj hj
def bZ:List W->(IJ->Prop)->Prop:=fun ws Q=>∃(p:Int)(ts:List (List (List Int))),ws=[.d (.int p),.d (tbsD ts)]/\((∃m:Int,Pm p m/\ip p m.toNat ts/\m.toNat=hdM ts))/\∀o:Int,(GA.Str p (hdM ts) ts o)->Q (.int o)
theorem bZ.mono:∀ws (Q Q':IJ->Prop),(∀d,Q d->Q' d)->bZ ws Q->bZ ws Q':=fun _ _ _ h_ ⟨p,ts,e_,p_,q_⟩=>⟨p,ts,e_,p_,fun o_ ho_=>h_ _ (q_ o_ ho_)⟩
theorem bZ.len:∀ws (Q:IJ->Prop),bZ ws Q->ws.length=2:=fun _ _ ⟨_,_,e_,_⟩=>by subst e_;rfl
theorem bZ.eq(p:Int)(ts:List (List (List Int)))(hm:∃m:Int,Pm p m/\ip p m.toNat ts/\m.toNat=hdM ts):bZ [.d (.int p),.d (tbsD ts)]=Hl (anyM fun o:Int=>GA.Str p (hdM ts) ts o) fun o=>VL.ret (.int o:IJ):=by
 refine ag fun Q=>⟨?_,fun q_=>⟨p,ts,rfl,hm,q_⟩⟩;rintro⟨p',ts',e_,_,q_⟩;simp_arith only[lK]at e_;obtain⟨rfl,rfl⟩:=e_;exact q_
theorem kA:FnScope ["p", "tables", "w"] ["p", "tables"] (defScope (FV 49)):=⟨rfl,rfl,rfl,by decide +kernel,rfl,by decide +kernel,by decide +kernel⟩
theorem d_strength(Fn:FnIn K mg "strength" (FV 49) ["p", "tables"])(Z:Bz mg)(d_net_paper:∀rl,Dfn P w K mg base rl "net_paper" ["p", "tables", "w"] 5 bS)   : Dfn P w K mg base rl "strength" ["p", "tables"] 6 bZ:=by
 have sc:=kA
 refine Dfn.of Fn sc (bZ.mono) (bZ.len) (fun cdv A outer s H E hr=>(ak (bV [2] JA rfl (ol Z.range_ (aa (cT Z.len_ (aa (cP (vn 1) ah) ac)) (aa ah (aa (rV ah) ac)))) (av 2 sc.nd) (au (cS (bm nq hJ (aT _) (cP (aA (d_net_paper _) (hr.mono (by decide)) (aa (vn 0) (aa (vn 1) (aa (vn 2) ac)))) ah) cB) (au (aC (vn 2))) bP)))
  (au (aC ah)))) ?_
 rintro ws Q ⟨p,ts,rfl,hm,hQ⟩;refine aB ?_;have sz:=Ji;obtain⟨m,pm,ht,hh⟩:=hm;obtain⟨w40,p2,p7,m1,m5⟩:=ge pm;obtain⟨t1,t4,htt⟩:=id ht
 have e0:atI ts 0=some (ts.headD []):=by
  cases ts with
  | nil=>simp at t1
  | cons a l=>exact cK (j:=0) rfl
 have g1 : -(2^61)<=((hdM ts:Nat):Int)/\((hdM ts:Nat):Int)<2^61 /\ -(2^61)<=(0:Int)/\(0:Int)<2^61:=by omega
 simp_arith only[ai,af,B4,An,mj,e0,iV];have hM:(m.toNat:Nat)=hdM ts:=hh;refine jG (xs:=Jq (((hdM ts:Nat):Int)-0).toNat) (enc:=fun i:Nat=>Jl (((hdM ts:Nat):Int)-(i:Int))) (fun i ρ=>(∀j:Nat,j<i->¬GA.Net p (hdM ts) ts (((hdM ts:Nat):Int)-(j:Int)))/\ρ=[some (.d (.int p)),some (.d (tbsD ts)),none]) rfl ⟨fun j h=>by omega,rfl⟩ ?_ ?_
 · rintro i hi ρ ⟨hn,rfl⟩ K hK;rw[KL]at hi;rw[MG];have hm':∃m:Int,Pm p m/\ip p m.toNat ts/\m.toNat=hdM ts/\1<=((hdM ts:Nat):Int)-(i:Int)/\((hdM ts:Nat):Int)-(i:Int)<=m:=⟨m,pm,ht,hh,by omega,by omega⟩;simp_arith only[ai,af,bS.eq]
   (with_reducible (first|refine az fun d hd=>?_|refine aI fun d hd=>?_))
   rcases hd with⟨hnet,x,rfl⟩|⟨hnet,x,y,rfl⟩
   · simp_arith only[ai,af]
     try rw[if_pos (by decide)]
     refine hK _ (qm (aH (hQ _ ⟨by omega,by omega,fun _=>hnet,fun w h1 h2=>?_⟩)));have:=hn ((hdM ts:Int)-w).toNat (by omega)
     rwa [show((hdM ts:Nat):Int)-((((hdM ts:Nat):Int)-w).toNat:Int)=w by omega]at this
   · simp_arith only[ai,af]
     try rw[if_neg (by decide)]
     refine hK _ (cI ⟨fun j hj=>?_,rfl⟩);by_cases e:j=i
     · subst e;exact hnet
     · exact hn j (by omega)
 · rintro ρ ⟨hn,rfl⟩;rw[KL]at hn;simp_arith only[ai,af];refine aH (hQ 0 ⟨N3 _,by omega,fun h=>absurd rfl h,fun w h1 h2=>?_⟩);have:=hn ((hdM ts:Int)-w).toNat (by omega)
   rwa [show((hdM ts:Nat):Int)-((((hdM ts:Nat):Int)-w).toNat:Int)=w by omega]at this
def gm:List W->(IJ->Prop)->Prop:=fun ws Q=>∃(q r:Rat),ws=[.d (fr q),.d (fr r)]/\((GD 2000 q)/\(GD 2000 r))/\Q (fr (q+r))
theorem gm.mono:∀ws (Q Q':IJ->Prop),(∀d,Q d->Q' d)->gm ws Q->gm ws Q':=fun _ _ _ h_ ⟨q,r,e_,p_,q_⟩=>⟨q,r,e_,p_,h_ _ q_⟩
theorem gm.len:∀ws (Q:IJ->Prop),gm ws Q->ws.length=2:=fun _ _ ⟨_,_,e_,_⟩=>by subst e_;rfl
theorem gm.eq(q r:Rat)(h1:GD 2000 q)(h2:GD 2000 r):gm [.d (fr q),.d (fr r)]=VL.ret (fr (q+r):IJ):=by
 refine ag fun Q=>⟨?_,fun q_=>⟨q,r,rfl,⟨h1,h2⟩,q_⟩⟩;rintro⟨q',r',e_,_,q_⟩;simp_arith only[gP,cU,cV,bY,bW,dn]at e_;obtain⟨rfl,rfl⟩:=e_;exact q_
theorem wd:FnScope ["one", "other"] ["one", "other"] (defScope (FV 8)):=⟨rfl,rfl,rfl,by decide +kernel,rfl,by decide +kernel,by decide +kernel⟩
theorem d_plus(Fn:FnIn K mg "plus" (FV 8) ["one", "other"])(Z:Bz mg)(d_fraction:∀rl,Dfn P w K mg base rl "fraction" ["top", "bottom"] 2 ba)   : Dfn P w K mg base rl "plus" ["one", "other"] 3 gm:=by
 have sc:=wd;refine Dfn.of Fn sc (gm.mono) (gm.len) (fun cdv A outer s H E hr=>(au (aC (aA (d_fraction _) (hr.mono (by decide)) (aa (v_add (v_mul (cP (vn 0) ah) (cP (vn 1) ah)) (v_mul (cP (vn 1) ah) (cP (vn 0) ah))) (aa (v_mul (cP (vn 0) ah) (cP (vn 1) ah)) ac)))))) ?_;rintro ws Q ⟨q,r,rfl,⟨h1,h2⟩,hQ⟩;refine aB ?_;have m1:bo q.num r.den:=.bb h1.bn h2.bd;have m2:bo r.num q.den:=.bb h2.bn h1.bd;have m3:bo q.den r.den:=.bb h1.bd h2.bd;have m4:bo q.num r.num:=.bb h1.bn h2.bn;have d1:=fm q r;have d2:=gF h1 h2;simp_arith only[ai,af,ba.eq,IG,zt];exact aH hQ
def fC:List W->(IJ->Prop)->Prop:=fun ws Q=>∃(q r:Rat),ws=[.d (fr q),.d (fr r)]/\((GD 2000 q)/\(GD 2000 r))/\Q (fr (q-r))
theorem fC.mono:∀ws (Q Q':IJ->Prop),(∀d,Q d->Q' d)->fC ws Q->fC ws Q':=fun _ _ _ h_ ⟨q,r,e_,p_,q_⟩=>⟨q,r,e_,p_,h_ _ q_⟩
theorem fC.len:∀ws (Q:IJ->Prop),fC ws Q->ws.length=2:=fun _ _ ⟨_,_,e_,_⟩=>by subst e_;rfl
theorem fC.eq(q r:Rat)(h1:GD 2000 q)(h2:GD 2000 r):fC [.d (fr q),.d (fr r)]=VL.ret (fr (q-r):IJ):=by
 refine ag fun Q=>⟨?_,fun q_=>⟨q,r,rfl,⟨h1,h2⟩,q_⟩⟩;rintro⟨q',r',e_,_,q_⟩;simp_arith only[gP,cU,cV,bY,bW,dn]at e_;obtain⟨rfl,rfl⟩:=e_;exact q_
theorem wf:FnScope ["one", "other"] ["one", "other"] (defScope (FV 9)):=⟨rfl,rfl,rfl,by decide +kernel,rfl,by decide +kernel,by decide +kernel⟩
theorem d_less(Fn:FnIn K mg "less" (FV 9) ["one", "other"])(Z:Bz mg)(d_fraction:∀rl,Dfn P w K mg base rl "fraction" ["top", "bottom"] 2 ba)   : Dfn P w K mg base rl "less" ["one", "other"] 3 fC:=by
 have sc:=wf;refine Dfn.of Fn sc (fC.mono) (fC.len) (fun cdv A outer s H E hr=>(au (aC (aA (d_fraction _) (hr.mono (by decide)) (aa (v_sub (v_mul (cP (vn 0) ah) (cP (vn 1) ah)) (v_mul (cP (vn 1) ah) (cP (vn 0) ah))) (aa (v_mul (cP (vn 0) ah) (cP (vn 1) ah)) ac)))))) ?_;rintro ws Q ⟨q,r,rfl,⟨h1,h2⟩,hQ⟩;refine aB ?_;have m1:bo q.num r.den:=.bb h1.bn h2.bd;have m2:bo r.num q.den:=.bb h2.bn h1.bd;have m3:bo q.den r.den:=.bb h1.bd h2.bd;have m4:bo q.num r.num:=.bb h1.bn h2.bn;have d1:=fm q r;have d2:=gF h1 h2;simp_arith only[ai,af,ba.eq,IG,zn];exact aH hQ
def dW:List W->(IJ->Prop)->Prop:=fun ws Q=>∃(q r:Rat),ws=[.d (fr q),.d (fr r)]/\((GD 2000 q)/\(GD 2000 r))/\Q (fr (q*r))
theorem dW.mono:∀ws (Q Q':IJ->Prop),(∀d,Q d->Q' d)->dW ws Q->dW ws Q':=fun _ _ _ h_ ⟨q,r,e_,p_,q_⟩=>⟨q,r,e_,p_,h_ _ q_⟩
theorem dW.len:∀ws (Q:IJ->Prop),dW ws Q->ws.length=2:=fun _ _ ⟨_,_,e_,_⟩=>by subst e_;rfl
theorem dW.eq(q r:Rat)(h1:GD 2000 q)(h2:GD 2000 r):dW [.d (fr q),.d (fr r)]=VL.ret (fr (q*r):IJ):=by
 refine ag fun Q=>⟨?_,fun q_=>⟨q,r,rfl,⟨h1,h2⟩,q_⟩⟩;rintro⟨q',r',e_,_,q_⟩;simp_arith only[gP,cU,cV,bY,bW,dn]at e_;obtain⟨rfl,rfl⟩:=e_;exact q_
theorem sy:FnScope ["one", "other"] ["one", "other"] (defScope (FV 10)):=⟨rfl,rfl,rfl,by decide +kernel,rfl,by decide +kernel,by decide +kernel⟩
theorem d_times(Fn:FnIn K mg "times" (FV 10) ["one", "other"])(Z:Bz mg)(d_fraction:∀rl,Dfn P w K mg base rl "fraction" ["top", "bottom"] 2 ba)   : Dfn P w K mg base rl "times" ["one", "other"] 3 dW:=by
 have sc:=sy;refine Dfn.of Fn sc (dW.mono) (dW.len) (fun cdv A outer s H E hr=>(au (aC (aA (d_fraction _) (hr.mono (by decide)) (aa (v_mul (cP (vn 0) ah) (cP (vn 1) ah)) (aa (v_mul (cP (vn 0) ah) (cP (vn 1) ah)) ac)))))) ?_;rintro ws Q ⟨q,r,rfl,⟨h1,h2⟩,hQ⟩;refine aB ?_;have m1:bo q.num r.den:=.bb h1.bn h2.bd;have m2:bo r.num q.den:=.bb h2.bn h1.bd;have m3:bo q.den r.den:=.bb h1.bd h2.bd;have m4:bo q.num r.num:=.bb h1.bn h2.bn;have d1:=fm q r;have d2:=gF h1 h2;simp_arith only[ai,af,ba.eq,IG,zp];exact aH hQ
def bN:List W->(IJ->Prop)->Prop:=fun ws Q=>∃(q r:Rat),ws=[.d (fr q),.d (fr r)]/\((GD 2000 q)/\(GD 2000 r))/\Q (.bool (decide (q<r)))
theorem bN.mono:∀ws (Q Q':IJ->Prop),(∀d,Q d->Q' d)->bN ws Q->bN ws Q':=fun _ _ _ h_ ⟨q,r,e_,p_,q_⟩=>⟨q,r,e_,p_,h_ _ q_⟩
theorem bN.len:∀ws (Q:IJ->Prop),bN ws Q->ws.length=2:=fun _ _ ⟨_,_,e_,_⟩=>by subst e_;rfl
theorem bN.eq(q r:Rat)(h1:GD 2000 q)(h2:GD 2000 r):bN [.d (fr q),.d (fr r)]=VL.ret (.bool (decide (q<r)):IJ):=by
 refine ag fun Q=>⟨?_,fun q_=>⟨q,r,rfl,⟨h1,h2⟩,q_⟩⟩;rintro⟨q',r',e_,_,q_⟩;simp_arith only[gP,cU,cV,bY,bW,dn]at e_;obtain⟨rfl,rfl⟩:=e_;exact q_
theorem kD:FnScope ["one", "other"] ["one", "other"] (defScope (FV 12)):=⟨rfl,rfl,rfl,by decide +kernel,rfl,by decide +kernel,by decide +kernel⟩
theorem d_is_below(Fn:FnIn K mg "is_below" (FV 12) ["one", "other"])(Z:Bz mg)    : Dfn P w K mg base rl "is_below" ["one", "other"] 1 bN:=by
 have sc:=kD;refine Dfn.of Fn sc (bN.mono) (bN.len) (fun cdv A outer s H E hr=>(au (aC (mR wU vF (aT _) (v_mul (cP (vn 0) ah) (cP (vn 1) ah)) (v_mul (cP (vn 1) ah) (cP (vn 0) ah)))))) ?_;rintro ws Q ⟨q,r,rfl,⟨h1,h2⟩,hQ⟩;refine aB ?_;have m1:bo q.num r.den:=.bb h1.bn h2.bd;have m2:bo r.num q.den:=.bb h2.bn h1.bd;simp_arith only[ai,af,IG,Cp];exact aH hQ
def dg:List W->(IJ->Prop)->Prop:=fun ws Q=>∃(q r:Rat),ws=[.d (fr q),.d (fr r)]/\((GD 2000 q)/\(GD 2000 r))/\Q (fr (mn q r))
theorem dg.mono:∀ws (Q Q':IJ->Prop),(∀d,Q d->Q' d)->dg ws Q->dg ws Q':=fun _ _ _ h_ ⟨q,r,e_,p_,q_⟩=>⟨q,r,e_,p_,h_ _ q_⟩
theorem dg.len:∀ws (Q:IJ->Prop),dg ws Q->ws.length=2:=fun _ _ ⟨_,_,e_,_⟩=>by subst e_;rfl
theorem dg.eq(q r:Rat)(h1:GD 2000 q)(h2:GD 2000 r):dg [.d (fr q),.d (fr r)]=VL.ret (fr (mn q r):IJ):=by
 refine ag fun Q=>⟨?_,fun q_=>⟨q,r,rfl,⟨h1,h2⟩,q_⟩⟩;rintro⟨q',r',e_,_,q_⟩;simp_arith only[gP,cU,cV,bY,bW,dn]at e_;obtain⟨rfl,rfl⟩:=e_;exact q_
theorem pi:FnScope ["one", "other"] ["one", "other"] (defScope (FV 13)):=⟨rfl,rfl,rfl,by decide +kernel,rfl,by decide +kernel,by decide +kernel⟩
theorem d_lesser(Fn:FnIn K mg "lesser" (FV 13) ["one", "other"])(Z:Bz mg)(d_is_below:∀rl,Dfn P w K mg base rl "is_below" ["one", "other"] 1 bN)   : Dfn P w K mg base rl "lesser" ["one", "other"] 2 dg:=by
 have sc:=pi;refine Dfn.of Fn sc (dg.mono) (dg.len) (fun cdv A outer s H E hr=>(au (aC (fQ (lB (aA (d_is_below _) (hr.mono (by decide)) (aa (vn 0) (aa (vn 1) ac)))) (vn 0) (vn 1))))) ?_;rintro ws Q ⟨q,r,rfl,⟨h1,h2⟩,hQ⟩;refine aB ?_;simp_arith only[ai,af,bN.eq,IG];unfold mn at hQ;refine aH ?_;by_cases h:q<r<;>simp[h]at hQ ⊢ <;> exact hQ
def cF:List W->(IJ->Prop)->Prop:=fun ws Q=>∃(q r:Rat),ws=[.d (fr q),.d (fr r)]/\((GD 2000 q)/\(GD 2000 r))/\Q (fr (mx q r))
theorem cF.mono:∀ws (Q Q':IJ->Prop),(∀d,Q d->Q' d)->cF ws Q->cF ws Q':=fun _ _ _ h_ ⟨q,r,e_,p_,q_⟩=>⟨q,r,e_,p_,h_ _ q_⟩
theorem cF.len:∀ws (Q:IJ->Prop),cF ws Q->ws.length=2:=fun _ _ ⟨_,_,e_,_⟩=>by subst e_;rfl
theorem cF.eq(q r:Rat)(h1:GD 2000 q)(h2:GD 2000 r):cF [.d (fr q),.d (fr r)]=VL.ret (fr (mx q r):IJ):=by
 refine ag fun Q=>⟨?_,fun q_=>⟨q,r,rfl,⟨h1,h2⟩,q_⟩⟩;rintro⟨q',r',e_,_,q_⟩;simp_arith only[gP,cU,cV,bY,bW,dn]at e_;obtain⟨rfl,rfl⟩:=e_;exact q_
theorem na:FnScope ["one", "other"] ["one", "other"] (defScope (FV 14)):=⟨rfl,rfl,rfl,by decide +kernel,rfl,by decide +kernel,by decide +kernel⟩
theorem d_greater(Fn:FnIn K mg "greater" (FV 14) ["one", "other"])(Z:Bz mg)(d_is_below:∀rl,Dfn P w K mg base rl "is_below" ["one", "other"] 1 bN)   : Dfn P w K mg base rl "greater" ["one", "other"] 2 cF:=by
 have sc:=na;refine Dfn.of Fn sc (cF.mono) (cF.len) (fun cdv A outer s H E hr=>(au (aC (fQ (lB (aA (d_is_below _) (hr.mono (by decide)) (aa (vn 0) (aa (vn 1) ac)))) (vn 1) (vn 0))))) ?_;rintro ws Q ⟨q,r,rfl,⟨h1,h2⟩,hQ⟩;refine aB ?_;simp_arith only[ai,af,bN.eq,IG];unfold mx at hQ;refine aH ?_;by_cases h:q<r<;>simp[h]at hQ ⊢ <;> exact hQ
def bG:List W->(IJ->Prop)->Prop:=fun ws Q=>∃(qs:List Rat),ws=[.d (.list (qs.map fr))]/\((qs.length<=4)/\(∀q∈qs,GD 190 q))/\Q (fr (sK qs))
theorem bG.mono:∀ws (Q Q':IJ->Prop),(∀d,Q d->Q' d)->bG ws Q->bG ws Q':=fun _ _ _ h_ ⟨qs,e_,p_,q_⟩=>⟨qs,e_,p_,h_ _ q_⟩
theorem bG.len:∀ws (Q:IJ->Prop),bG ws Q->ws.length=1:=fun _ _ ⟨_,e_,_⟩=>by subst e_;rfl
theorem bG.eq(qs:List Rat)(h4:qs.length<=4)(hq:∀q∈qs,GD 190 q):bG [.d (.list (qs.map fr))]=VL.ret (fr (sK qs):IJ):=by
 refine ag fun Q=>⟨?_,fun q_=>⟨qs,rfl,⟨h4,hq⟩,q_⟩⟩;rintro⟨qs',e_,_,q_⟩;simp_arith only[gP,cU,cV,bY,bW,dn]at e_;obtain rfl:=e_;exact q_
theorem iE:FnScope ["some", "product", "one"] ["some"] (defScope (FV 11)):=⟨rfl,rfl,rfl,by decide +kernel,rfl,by decide +kernel,by decide +kernel⟩
theorem d_product_of(Fn:FnIn K mg "product_of" (FV 11) ["some"])(Z:Bz mg)(d_times:∀rl,Dfn P w K mg base rl "times" ["one", "other"] 3 dW)(gl_ONE:GlD K mg "ONE" (pr 1 1))  : Dfn P w K mg base rl "product_of" ["some"] 4 bG:=by
 have sc:=iE
 refine Dfn.of Fn sc (bG.mono) (bG.len) (fun cdv A outer s H E hr=>(ak (aD 1 sc.nd (hR gl_ONE))
  (ak (bV [2] JA rfl (iz (vn 0)) (av 2 sc.nd) (au (aD 1 sc.nd (aA (d_times _) (hr.mono (by decide)) (aa (vn 1) (aa (vn 2) ac))))))
  (au (aC (vn 1)))))) ?_
 rintro ws Q ⟨qs,rfl,⟨h4,hq⟩,hQ⟩;refine aB ?_;simp_arith only[ai,af,dW.eq,IG];refine jG (xs:=qs) (fun i ρ=>ρ=[some (.d (.list (qs.map fr))),some (.d (fr ((qs.take i).foldl (· * ·) 1))),none]) rfl rfl ?_ ?_
 · rintro i hi ρ rfl K hK;have hs:=iM (qs.take i) 60 1 A3 fun r hr=>hq r (KW hr);have hl:(qs.take i).length<=4:=by rw[JF];omega
   have s1:GD 2000 ((qs.take i).foldl (· * ·) 1):=hs.mono (by omega);have s2:GD 2000 qs[i]:=(hq _ (Jy hi)).mono (by decide);simp_arith only[ai,af,dW.eq,IG];refine hK _ (cI ?_);simp_arith only[af];rw[nJ hi]
 · rintro ρ rfl;simp_arith only[af];rw[JO (I_ _)];exact aH hQ
def bQ:List W->(IJ->Prop)->Prop:=fun ws Q=>∃(s:Sd),ws=[.d (Gw s)]/\((s.Sm))/\Q (fr (szQ s))
theorem bQ.mono:∀ws (Q Q':IJ->Prop),(∀d,Q d->Q' d)->bQ ws Q->bQ ws Q':=fun _ _ _ h_ ⟨s,e_,p_,q_⟩=>⟨s,e_,p_,h_ _ q_⟩
theorem bQ.len:∀ws (Q:IJ->Prop),bQ ws Q->ws.length=1:=fun _ _ ⟨_,e_,_⟩=>by subst e_;rfl
theorem bQ.eq(s:Sd)(sm:s.Sm):bQ [.d (Gw s)]=VL.ret (fr (szQ s):IJ):=by
 refine ag fun Q=>⟨?_,fun q_=>⟨s,rfl,sm,q_⟩⟩;rintro⟨s',e_,_,q_⟩;simp_arith only[gP,cU,cV,bY,bW,dn]at e_;obtain rfl:=e_;exact q_
theorem jr:FnScope ["side", "end", "width"] ["side"] (defScope (FV 38)):=⟨rfl,rfl,rfl,by decide +kernel,rfl,by decide +kernel,by decide +kernel⟩
theorem d_side_size(Fn:FnIn K mg "side_size" (FV 38) ["side"])(Z:Bz mg)(d_greater:∀rl,Dfn P w K mg base rl "greater" ["one", "other"] 2 cF)(d_less:∀rl,Dfn P w K mg base rl "less" ["one", "other"] 3 fC)(d_lesser:∀rl,Dfn P w K mg base rl "lesser" ["one", "other"] 2 dg)(d_plus:∀rl,Dfn P w K mg base rl "plus" ["one", "other"] 3 gm)(gl_ZERO:GlD K mg "ZERO" (pr 0 1))(gl_ONE:GlD K mg "ONE" (pr 1 1))  : Dfn P w K mg base rl "side_size" ["side"] 4 bQ:=by
 have sc:=jr
 refine Dfn.of Fn sc (bQ.mono) (bQ.len) (fun cdv A outer s H E hr=>(ak (aD 1 sc.nd (aA (d_greater _) (hr.mono (by decide)) (aa (cP (vn 0) (rV ah)) (aa (hR gl_ZERO) ac))))
  (ak (cS (bm nq hJ (aT _) (cP (vn 0) ah) cB) (au (aC (vn 1))) bP)
  (ak (aD 2 sc.nd (aA (d_less _) (hr.mono (by decide)) (aa (vn 1) (aa (aA (d_greater _) (hr.mono (by decide)) (aa (cP (vn 0) ah) (aa (hR gl_ZERO) ac))) ac))))
  (ak (cS (bm nq hJ (aT _) (cP (vn 0) ah) cB) (au (aC (aA (d_greater _) (hr.mono (by decide)) (aa (vn 2) (aa (hR gl_ZERO) ac))))) bP)
  (au (aC (aA (d_lesser _) (hr.mono (by decide)) (aa (aA (d_plus _) (hr.mono (by decide)) (aa (hR gl_ONE) (aa (vn 2) ac))) (aa (hR gl_ONE) ac)))))))))) ?_
 rintro ws Q ⟨s,rfl,sm,hQ⟩;have w1:decide (Str.ofString "from" = Str.ofString "to")=false:=by decide +kernel
 have w2:decide (Str.ofString "round" = Str.ofString "to")=false:=by decide +kernel
 have w3:decide (Str.ofString "round" = Str.ofString "from")=false:=by decide +kernel
 have w4:decide (Str.ofString "to" = Str.ofString "to")=true:=by decide +kernel
 have w5:decide (Str.ofString "from" = Str.ofString "from")=true:=by decide +kernel
 refine aB ?_;have z0:GD 2000 0:=sE.up;have z1:GD 2000 1:=A3.up
 cases s with
 | to t =>
   have a1:GD 2000 t:=sm.2.up;simp_arith only[ai,af,cF.eq,fC.eq,dg.eq,gm.eq,IG,w1,w2,w3,w4,w5,Gw]
   exact aH hQ
 | «from» a b =>
   have a1:GD 2000 b:=sm.2.up;have a2:GD 2000 a:=sm.1.up;have m1:GD 60 (mx b 0):=gX sm.2 sE;have m2:GD 60 (mx a 0):=gX sm.1 sE;have m3:=m1.up;have m4:=m2.up;have m5:GD 2000 (mx b 0-mx a 0):=(ji m1 m2).mono (by decide);simp_arith only[ai,af,cF.eq,fC.eq,dg.eq,gm.eq,IG,w1,w2,w3,w4,w5,Gw]
   exact aH hQ
 | round a b =>
   have a1:GD 2000 b:=sm.2.up;have a2:GD 2000 a:=sm.1.up;have m1:GD 60 (mx b 0):=gX sm.2 sE;have m2:GD 60 (mx a 0):=gX sm.1 sE;have m3:=m1.up;have m4:=m2.up;have m5:GD 2000 (mx b 0-mx a 0):=(ji m1 m2).mono (by decide);have m6:GD 2000 (1+(mx b 0-mx a 0)):=(rF A3 (ji m1 m2)).mono (by decide);simp_arith only[ai,af,cF.eq,fC.eq,dg.eq,gm.eq,IG,w1,w2,w3,w4,w5,Gw];exact aH hQ
def cC:List W->(IJ->Prop)->Prop:=fun ws Q=>∃(ss:List Sd),ws=[.d (eX ss)]/\((nZ ss))/\Q (fr (jp ss))
theorem cC.mono:∀ws (Q Q':IJ->Prop),(∀d,Q d->Q' d)->cC ws Q->cC ws Q':=fun _ _ _ h_ ⟨ss,e_,p_,q_⟩=>⟨ss,e_,p_,h_ _ q_⟩
theorem cC.len:∀ws (Q:IJ->Prop),cC ws Q->ws.length=1:=fun _ _ ⟨_,e_,_⟩=>by subst e_;rfl
theorem cC.eq(ss:List Sd)(hb:nZ ss):cC [.d (eX ss)]=VL.ret (fr (jp ss):IJ):=by
 refine ag fun Q=>⟨?_,fun q_=>⟨ss,rfl,hb,q_⟩⟩;rintro⟨ss',e_,_,q_⟩;simp_arith only[gP,cU,cV,bY,bW,dn]at e_;obtain rfl:=e_;exact q_
theorem mY:FnScope ["box"] ["box"] (defScope (FV 39)):=⟨rfl,rfl,rfl,by decide +kernel,rfl,by decide +kernel,by decide +kernel⟩
theorem d_size_of(Fn:FnIn K mg "size_of" (FV 39) ["box"])(Z:Bz mg)(d_product_of:∀rl,Dfn P w K mg base rl "product_of" ["some"] 4 bG)(d_side_size:∀rl,Dfn P w K mg base rl "side_size" ["side"] 4 bQ)   : Dfn P w K mg base rl "size_of" ["box"] 5 cC:=by
 have sc:=mY;refine Dfn.of Fn sc (cC.mono) (cC.len) (fun cdv A outer s H E hr=>(au (aC (aA (d_product_of _) (hr.mono (by decide)) (aa (bM ["side"] [none] rfl (jc (vn 0)) (fun _=>(av 0 (show Ki (["side"]:List Str) by decide +kernel))) (fun _=>cr) (fun _=>(aA (d_side_size _) (hr.mono (by decide)) (aa (vn 0) ac)))) ac))))) ?_;rintro ws Q ⟨ss,rfl,hb,hQ⟩;refine aB ?_;have sz:=Ji;have h4:=hb.2.1;simp_arith only[af,IG];refine dZ (xs:=ss) (fun s=>fr (szQ s)) rfl ?_ (by omega) ?_
 · intro s ms;have:=hb.2.2 s ms;simp_arith only[ai,af,GW,bG.eq,bQ.eq]
 · have e:ss.map (fun s=>fr (szQ s))=(ss.map szQ).map fr:=by rw[JY];rfl
   have l4:(ss.map szQ).length<=4:=by rw[IP];exact h4
   have hq:∀q∈ss.map szQ,GD 190 q:=fun r hr=>by
    obtain⟨s,hs',rfl⟩:=Jo.mp hr;exact uD (hb.2.2 s hs')
   rw[e];simp_arith only[ai,af,bG.eq,bQ.eq];exact aH hQ
def bI:List W->(IJ->Prop)->Prop:=fun ws Q=>∃(x y:Rat)(b:Bool),ws=[.d (fr x),.d (fr y),.d (.bool b)]/\((GD 2000 x)/\(GD 2000 y))/\Q (.bool (G8 x y b))
theorem bI.mono:∀ws (Q Q':IJ->Prop),(∀d,Q d->Q' d)->bI ws Q->bI ws Q':=fun _ _ _ h_ ⟨x,y,b,e_,p_,q_⟩=>⟨x,y,b,e_,p_,h_ _ q_⟩
theorem bI.len:∀ws (Q:IJ->Prop),bI ws Q->ws.length=3:=fun _ _ ⟨_,_,_,e_,_⟩=>by subst e_;rfl
theorem bI.eq(x y:Rat)(b:Bool)(h1:GD 2000 x)(h2:GD 2000 y):bI [.d (fr x),.d (fr y),.d (.bool b)]=VL.ret (.bool (G8 x y b):IJ):=by
 refine ag fun Q=>⟨?_,fun q_=>⟨x,y,b,rfl,⟨h1,h2⟩,q_⟩⟩;rintro⟨x',y',b',e_,_,q_⟩;simp_arith only[gP,cU,cV,bY,bW,dn]at e_;obtain⟨rfl,rfl,rfl⟩:=e_;exact q_
theorem iG:FnScope ["one", "other", "may_meet"] ["one", "other", "may_meet"] (defScope (FV 40)):=⟨rfl,rfl,rfl,by decide +kernel,rfl,by decide +kernel,by decide +kernel⟩
theorem d_goes_ahead(Fn:FnIn K mg "goes_ahead" (FV 40) ["one", "other", "may_meet"])(Z:Bz mg)(d_is_below:∀rl,Dfn P w K mg base rl "is_below" ["one", "other"] 1 bN)   : Dfn P w K mg base rl "goes_ahead" ["one", "other", "may_meet"] 2 bI:=by
 have sc:=iG
 refine Dfn.of Fn sc (bI.mono) (bI.len) (fun cdv A outer s H E hr=>(ak (cS (lB (vn 2)) (au (aC (v_not (aA (d_is_below _) (hr.mono (by decide)) (aa (vn 1) (aa (vn 0) ac)))))) bP)
  (au (aC (aA (d_is_below _) (hr.mono (by decide)) (aa (vn 0) (aa (vn 1) ac))))))) ?_
 rintro ws Q ⟨x,y,b,rfl,⟨h1,h2⟩,hQ⟩;refine aB ?_;simp_arith only[ai,af,bN.eq,IG];cases b<;>simp only[G8,MF,↓reduceIte]at hQ ⊢ <;> exact aH hQ
def gn:List W->(IJ->Prop)->Prop:=fun ws Q=>∃(x:Rat)(s:Sd)(w:Str),ws=[.d (fr x),.d (Gw s),.d (.str w)]/\((GD 60 x)/\(s.Sm)/\(GY w))/\Q (.bool (GP s w x))
theorem gn.mono:∀ws (Q Q':IJ->Prop),(∀d,Q d->Q' d)->gn ws Q->gn ws Q':=fun _ _ _ h_ ⟨x,s,w,e_,p_,q_⟩=>⟨x,s,w,e_,p_,h_ _ q_⟩
theorem gn.len:∀ws (Q:IJ->Prop),gn ws Q->ws.length=3:=fun _ _ ⟨_,_,_,e_,_⟩=>by subst e_;rfl
theorem gn.eq(x:Rat)(s:Sd)(w:Str)(sx:GD 60 x)(sm:s.Sm)(hw:GY w):gn [.d (fr x),.d (Gw s),.d (.str w)]=VL.ret (.bool (GP s w x):IJ):=by
 refine ag fun Q=>⟨?_,fun q_=>⟨x,s,w,rfl,⟨sx,sm,hw⟩,q_⟩⟩;rintro⟨x',s',w',e_,_,q_⟩;simp_arith only[gP,cU,cV,bY,bW,dn]at e_;obtain⟨rfl,rfl,rfl⟩:=e_;exact q_
theorem we:FnScope ["x", "side", "way", "ahead", "behind"] ["x", "side", "way"] (defScope (FV 41)):=⟨rfl,rfl,rfl,by decide +kernel,rfl,by decide +kernel,by decide +kernel⟩
theorem d_lies(Fn:FnIn K mg "lies" (FV 41) ["x", "side", "way"])(Z:Bz mg)(d_goes_ahead:∀rl,Dfn P w K mg base rl "goes_ahead" ["one", "other", "may_meet"] 2 bI)   : Dfn P w K mg base rl "lies" ["x", "side", "way"] 3 gn:=by
 have sc:=we
 refine Dfn.of Fn sc (gn.mono) (gn.len) (fun cdv A outer s H E hr=>(ak (aD 3 sc.nd (aA (d_goes_ahead _) (hr.mono (by decide)) (aa (vn 0) (aa (cP (vn 1) (rV ah)) (aa (mR nq hJ (aT _) (vn 2) cB) ac)))))
  (ak (cS (bm nq hJ (aT _) (cP (vn 1) ah) cB) (au (aC (vn 3))) bP)
  (ak (aD 4 sc.nd (aA (d_goes_ahead _) (hr.mono (by decide)) (aa (cP (vn 1) ah) (aa (vn 0) (aa (mR BZ yj (aT _) (vn 2) cB) ac)))))
  (ak (cS (bm nq hJ (aT _) (cP (vn 1) ah) cB) (au (aC (v_and (vn 4) (yB (vn 3))))) bP)
  (au (aC (v_or (vn 4) (yB (vn 3)))))))))) ?_
 rintro ws Q ⟨x,s,w,rfl,⟨sx,sm,hw⟩,hQ⟩;have w1:decide (Str.ofString "from" = Str.ofString "to")=false:=by decide +kernel
 have w2:decide (Str.ofString "round" = Str.ofString "to")=false:=by decide +kernel
 have w3:decide (Str.ofString "round" = Str.ofString "from")=false:=by decide +kernel
 have w4:decide (Str.ofString "to" = Str.ofString "to")=true:=by decide +kernel
 have w5:decide (Str.ofString "from" = Str.ofString "from")=true:=by decide +kernel
 refine aB ?_;have sx':=sx.up;have a1:GD 2000 s.last:=sm.2.up;have a2:GD 2000 s.first:=sm.1.up
 cases s with
 | to t =>
   have a1:GD 2000 t:=a1;simp_arith only[ai,af,bI.eq,IG,w1,w2,w3,w4,w5,Gw]
   exact aH hQ
 | «from» a b =>
   have a1:GD 2000 b:=a1;have a2:GD 2000 a:=a2;simp_arith only[ai,af,bI.eq,IG,w1,w2,w3,w4,w5,Gw]
   exact aH hQ
 | round a b =>
   have a1:GD 2000 b:=a1;have a2:GD 2000 a:=a2;simp_arith only[ai,af,bI.eq,IG,w1,w2,w3,w4,w5,Gw];exact aH hQ
def cE:List W->(IJ->Prop)->Prop:=fun ws Q=>∃(qs:List Rat)(ss:List Sd)(w:Str),ws=[.d (GG qs),.d (eX ss),.d (.str w)]/\((Bg ss.length qs)/\(nZ ss)/\(GY w))/\Q (.bool (GT qs ss w))
theorem cE.mono:∀ws (Q Q':IJ->Prop),(∀d,Q d->Q' d)->cE ws Q->cE ws Q':=fun _ _ _ h_ ⟨qs,ss,w,e_,p_,q_⟩=>⟨qs,ss,w,e_,p_,h_ _ q_⟩
theorem cE.len:∀ws (Q:IJ->Prop),cE ws Q->ws.length=3:=fun _ _ ⟨_,_,_,e_,_⟩=>by subst e_;rfl
theorem cE.eq(qs:List Rat)(ss:List Sd)(w:Str)(hp:Bg ss.length qs)(hb:nZ ss)(hw:GY w):cE [.d (GG qs),.d (eX ss),.d (.str w)]=VL.ret (.bool (GT qs ss w):IJ):=by
 refine ag fun Q=>⟨?_,fun q_=>⟨qs,ss,w,rfl,⟨hp,hb,hw⟩,q_⟩⟩;rintro⟨qs',ss',w',e_,_,q_⟩;simp_arith only[gP,cU,cV,bY,bW,dn]at e_;obtain⟨rfl,rfl,rfl⟩:=e_;exact q_
theorem m_:FnScope ["point", "box", "way"] ["point", "box", "way"] (defScope (FV 42)):=⟨rfl,rfl,rfl,by decide +kernel,rfl,by decide +kernel,by decide +kernel⟩
theorem d_lies_in(Fn:FnIn K mg "lies_in" (FV 42) ["point", "box", "way"])(Z:Bz mg)(d_lies:∀rl,Dfn P w K mg base rl "lies" ["x", "side", "way"] 3 gn)   : Dfn P w K mg base rl "lies_in" ["point", "box", "way"] 4 cE:=by
 have sc:=m_;refine Dfn.of Fn sc (cE.mono) (cE.len) (fun cdv A outer s H E hr=>(au (aC (v_all Z.all_ (aa (bM ["x", "side", "way"] [none,none,some 2] rfl (iy Z.zip_ (aa (vn 0) (aa (vn 1) ac))) (fun _=>(dz (n:=2) rfl (aO (av 0 (show Ki (["x", "side", "way"]:List Str) by decide +kernel)) (aO (av 1 (show Ki (["x", "side", "way"]:List Str) by decide +kernel)) cA)))) (fun _=>cr) (fun _=>(aA (d_lies _) (hr.mono (by decide)) (aa (vn 0) (aa (vn 1) (aa (vn 2) ac)))))) ac))))) ?_;rintro ws Q ⟨qs,ss,w,rfl,⟨hp,hb,hw⟩,hQ⟩;refine aB ?_;have sz:=Ji;have h4:=hb.2.1;simp_arith only[af,IG];rw[iq];refine dZ (xs:=qs.zip ss) (fun p=>.bool (GP p.2 w p.1)) rfl ?_ (by rw[LO];omega) ?_
 · rintro⟨x,s⟩ hm;obtain⟨mx,ms⟩:=KG hm;have:=hp.2 x mx;have:=hb.2.2 s ms;simp_arith only[ai,af,GW,gn.eq]
 · have e:(qs.zip ss).map (fun p=>N5 (GP p.2 w p.1))=((qs.zip ss).map fun p=>GP p.2 w p.1).map .bool:=by rw[JY];rfl
   rw[e];simp_arith only[ai,af];refine aH ?_;rw[Pi];exact hQ
def cw:List W->(IJ->Prop)->Prop:=fun ws Q=>∃(ps:List (List Rat))(ss:List Sd)(w:Str),ws=[.d (iK ps),.d (eX ss),.d (.str w)]/\((ug ss.length ps)/\(nZ ss)/\(GY w))/\Q (.int (cntN ps ss w))
theorem cw.mono:∀ws (Q Q':IJ->Prop),(∀d,Q d->Q' d)->cw ws Q->cw ws Q':=fun _ _ _ h_ ⟨ps,ss,w,e_,p_,q_⟩=>⟨ps,ss,w,e_,p_,h_ _ q_⟩
theorem cw.len:∀ws (Q:IJ->Prop),cw ws Q->ws.length=3:=fun _ _ ⟨_,_,_,e_,_⟩=>by subst e_;rfl
theorem cw.eq(ps:List (List Rat))(ss:List Sd)(w:Str)(hp:ug ss.length ps)(hb:nZ ss)(hw:GY w):cw [.d (iK ps),.d (eX ss),.d (.str w)]=VL.ret (.int (cntN ps ss w):IJ):=by
 refine ag fun Q=>⟨?_,fun q_=>⟨ps,ss,w,rfl,⟨hp,hb,hw⟩,q_⟩⟩;rintro⟨ps',ss',w',e_,_,q_⟩;simp_arith only[gP,cU,cV,bY,bW,dn]at e_;obtain⟨rfl,rfl,rfl⟩:=e_;exact q_
theorem pj:FnScope ["points", "box", "way"] ["points", "box", "way"] (defScope (FV 43)):=⟨rfl,rfl,rfl,by decide +kernel,rfl,by decide +kernel,by decide +kernel⟩
theorem d_inside(Fn:FnIn K mg "inside" (FV 43) ["points", "box", "way"])(Z:Bz mg)(d_lies_in:∀rl,Dfn P w K mg base rl "lies_in" ["point", "box", "way"] 4 cE)   : Dfn P w K mg base rl "inside" ["points", "box", "way"] 5 cw:=by
 have sc:=pj;refine Dfn.of Fn sc (cw.mono) (cw.len) (fun cdv A outer s H E hr=>(au (aC (cT Z.len_ (aa (bM ["point", "box", "way"] [none,some 1,some 2] rfl (jc (vn 0)) (fun _=>(av 0 (show Ki (["point", "box", "way"]:List Str) by decide +kernel))) (fun _=>yf (lB (aA (d_lies_in _) (hr.mono (by decide)) (aa (vn 0) (aa (vn 1) (aa (vn 2) ac)))))) (fun _=>(vn 0))) ac))))) ?_;rintro ws Q ⟨ps,ss,w,rfl,⟨hp,hb,hw⟩,hQ⟩;refine aB ?_;have sz:=Ji;have h40:=hp.2.1;simp_arith only[af,IG];refine AG (xs:=ps) (fun p=>if GT p ss w=true then some (GG p)else none) rfl ?_ (by omega) ?_
 · intro p mp;have:=hp.2.2 p mp;simp_arith only[ai,af,GW,cE.eq];split<;>rfl
 · try simp_arith only[ai,af]
   rw[uY];exact aH hQ
def b9:List W->(IJ->Prop)->Prop:=fun ws Q=>∃(ps:List (List Rat))(ss:List Sd)(w:Str),ws=[.d (iK ps),.d (eX ss),.d (.str w)]/\((ug ss.length ps)/\(nZ ss)/\(GY w))/\Q (fr (dB ps ss w))
theorem b9.mono:∀ws (Q Q':IJ->Prop),(∀d,Q d->Q' d)->b9 ws Q->b9 ws Q':=fun _ _ _ h_ ⟨ps,ss,w,e_,p_,q_⟩=>⟨ps,ss,w,e_,p_,h_ _ q_⟩
theorem b9.len:∀ws (Q:IJ->Prop),b9 ws Q->ws.length=3:=fun _ _ ⟨_,_,_,e_,_⟩=>by subst e_;rfl
theorem b9.eq(ps:List (List Rat))(ss:List Sd)(w:Str)(hp:ug ss.length ps)(hb:nZ ss)(hw:GY w):b9 [.d (iK ps),.d (eX ss),.d (.str w)]=VL.ret (fr (dB ps ss w):IJ):=by
 refine ag fun Q=>⟨?_,fun q_=>⟨ps,ss,w,rfl,⟨hp,hb,hw⟩,q_⟩⟩;rintro⟨ps',ss',w',e_,_,q_⟩;simp_arith only[gP,cU,cV,bY,bW,dn]at e_;obtain⟨rfl,rfl,rfl⟩:=e_;exact q_
theorem kB:FnScope ["points", "box", "way"] ["points", "box", "way"] (defScope (FV 44)):=⟨rfl,rfl,rfl,by decide +kernel,rfl,by decide +kernel,by decide +kernel⟩
theorem d_share_of(Fn:FnIn K mg "share_of" (FV 44) ["points", "box", "way"])(Z:Bz mg)(d_fraction:∀rl,Dfn P w K mg base rl "fraction" ["top", "bottom"] 2 ba)(d_inside:∀rl,Dfn P w K mg base rl "inside" ["points", "box", "way"] 5 cw)   : Dfn P w K mg base rl "share_of" ["points", "box", "way"] 6 b9:=by
 have sc:=kB;refine Dfn.of Fn sc (b9.mono) (b9.len) (fun cdv A outer s H E hr=>(au (aC (aA (d_fraction _) (hr.mono (by decide)) (aa (aA (d_inside _) (hr.mono (by decide)) (aa (vn 0) (aa (vn 1) (aa (vn 2) ac)))) (aa (cT Z.len_ (aa (vn 0) ac)) ac)))))) ?_;rintro ws Q ⟨ps,ss,w,rfl,⟨hp,hb,hw⟩,hQ⟩;refine aB ?_;have p1:=hp.1;have p40:=hp.2.1;have z:((ps.length:Int)).natAbs<2^8000:=Jh (show _<2^64 by omega) (JK (by decide) (by decide));simp_arith only[ai,af,ba.eq,cw.eq,IG];exact aH hQ
def cj:List W->(IJ->Prop)->Prop:=fun ws Q=>∃(ps:List (List Rat))(ss:List Sd),ws=[.d (iK ps),.d (eX ss)]/\((ug ss.length ps)/\(nZ ss))/\Q (fr (dB ps ss "half" - jp ss))
theorem cj.mono:∀ws (Q Q':IJ->Prop),(∀d,Q d->Q' d)->cj ws Q->cj ws Q':=fun _ _ _ h_ ⟨ps,ss,e_,p_,q_⟩=>⟨ps,ss,e_,p_,h_ _ q_⟩
theorem cj.len:∀ws (Q:IJ->Prop),cj ws Q->ws.length=2:=fun _ _ ⟨_,_,e_,_⟩=>by subst e_;rfl
theorem cj.eq(ps:List (List Rat))(ss:List Sd)(hp:ug ss.length ps)(hb:nZ ss):cj [.d (iK ps),.d (eX ss)]=VL.ret (fr (dB ps ss "half" - jp ss):IJ):=by
 refine ag fun Q=>⟨?_,fun q_=>⟨ps,ss,rfl,⟨hp,hb⟩,q_⟩⟩;rintro⟨ps',ss',e_,_,q_⟩;simp_arith only[gP,cU,cV,bY,bW,dn]at e_;obtain⟨rfl,rfl⟩:=e_;exact q_
theorem m9:FnScope ["points", "box"] ["points", "box"] (defScope (FV 45)):=⟨rfl,rfl,rfl,by decide +kernel,rfl,by decide +kernel,by decide +kernel⟩
theorem d_miss_of(Fn:FnIn K mg "miss_of" (FV 45) ["points", "box"])(Z:Bz mg)(d_less:∀rl,Dfn P w K mg base rl "less" ["one", "other"] 3 fC)(d_share_of:∀rl,Dfn P w K mg base rl "share_of" ["points", "box", "way"] 6 b9)(d_size_of:∀rl,Dfn P w K mg base rl "size_of" ["box"] 5 cC)   : Dfn P w K mg base rl "miss_of" ["points", "box"] 7 cj:=by
 have sc:=m9;refine Dfn.of Fn sc (cj.mono) (cj.len) (fun cdv A outer s H E hr=>(au (aC (aA (d_less _) (hr.mono (by decide)) (aa (aA (d_share_of _) (hr.mono (by decide)) (aa (vn 0) (aa (vn 1) (aa cB ac)))) (aa (aA (d_size_of _) (hr.mono (by decide)) (aa (vn 1) ac)) ac)))))) ?_;rintro ws Q ⟨ps,ss,rfl,⟨hp,hb⟩,hQ⟩;refine aB ?_;have hw:GY "half" := .inl rfl;have s1:GD 2000 (dB ps ss "half"):=(fW hp ss _).up;have s3:GD 2000 (dB ps ss "shut"):=(fW hp ss _).up;have s4:GD 2000 (dB ps ss "open"):=(fW hp ss _).up;have s2:GD 2000 (jp ss):=(so hb).mono (by decide);simp_arith only[ai,af,fC.eq,b9.eq,cC.eq,IG];exact aH hQ
noncomputable def oT(p:Int)(m:Nat)(ts:List (List (List Int))):List (List Int):=(Jq (p^m).toNat).map fun n=>ko p m ts (n:Nat)
noncomputable def GH(p:Int)(m:Nat)(ks:List Int)(pt:List Int):List Int:=(pt.zip ks).map fun z=>z.1.fdiv (p^(m-z.2.toNat))
theorem D2{n:Int}(p2:2<=p)(h0:0<=n)(h1:n<p^m):GA.Fg p m (GJ p n m):=by
 refine⟨kO p2 h0 h1,fun k hk=>?_⟩;have hl:k<(GJ p n m).length:=by rw[kO p2 h0 h1];exact hk
 rw[GA.gD hl];exact pZ p2 _ (Jy hl)
theorem sT{p:Nat}(p2:2<=p):((Jq (((p:Int)^m).toNat)).map fun n:Nat=>GJ p (n:Int) m).Perm (GA.AF p m):=by
 have pw:((p:Int)^m).toNat=p^m:=by rw[<- L9];exact JR _
 rw[pw];have q2:(2:Int)<=p:=by omega
 have lt:∀n:Nat,n<p^m->(n:Int)<(p:Int)^m:=fun n h=>by rw[<- L9];omega
 have nd:((Jq (p^m)).map fun n:Nat=>GJ p (n:Int) m).Nodup:=by
  rw[JH,Mi];refine MT (fun{a b} ne e=>ne ?_) (JH.mp N_);have h1:=uN (k:=m) q2 (show(0:Int)<=(a:Int) by omega);have h2:=uN (k:=m) q2 (show(0:Int)<=(b:Int) by omega);rw[e]at h1;have:(a:Int)=b:=h1.symm.trans h2;omega
 have sub:∀x∈(Jq (p^m)).map fun n:Nat=>GJ p (n:Int) m,x∈GA.AF p m:=fun x mx=>by
  obtain⟨n,mn,rfl⟩:=Jo.mp mx;exact GA.mem_AF.mpr (D2 q2 (by omega) (lt n (Ko.mp mn)))
 refine(List.perm_ext_iff_of_nodup nd (GA.AF_nd p m)).mpr fun x=>⟨sub x,fun mx=>Classical.byContradiction fun nx=>?_⟩;have:=GA.nd_sub nd (B:=(GA.AF p m).erase x) fun y my=>(OJ (fun e=>nx (by rw[<- e];exact my))).mpr (sub y my);rw[Mx mx,GA.AF_len,IP,KL]at this;have:0<p^m:=Nat.pow_pos (by omega);omega
theorem AA{xs:List Int}(h1:xs.length=n)(h2:ys.length=n):Hf xs ys=GA.Sg n fun k=>xs.getD k 0*ys.getD k 0:=Cu h1 h2
theorem xy(p:Int)(C:Nat)(A B:List (List Int))(x:List Int):GA.ap p C (A++B) x=GA.ap p C A x++GA.ap p C B x:=by unfold GA.ap;rw[JI]
theorem lc(p:Int)(C:Nat)(A:List (List Int))(x:List Int):(GA.ap p C A x).length=A.length:=by unfold GA.ap;rw[IP]
theorem tP(p:Int)(C:Nat)(A:List (List Int))(x:List Int)(k:Nat):(GA.ap p C A x).take k=GA.ap p C (A.take k) x:=by unfold GA.ap;rw[MJ]
theorem lT{p:Int}{m:Nat}{x:List Int}(p2:2<=p)(hx:x.length=m):∀(ts:List (List (List Int)))(ks:List Int),(∀t∈ts,lv p m m t)->(∀k∈ks,0<=k/\k<=m)->ts.length=ks.length ->
 ((ts.map fun t=>tv p (Hu p t x)).zip ks).map (fun z=>z.1.fdiv (p^(m-z.2.toNat)))=GA.Eg p (ks.map K4) (GA.ap p m (GA.rowsG ts ks) x)
 | [],[],_,_,_=>rfl
 | t::ts,k::ks,ht,hk,hl=>by
   have h1:=ht t (IS ..);have k1:=hk k (IS ..);have ih:=lT p2 hx ts ks (fun t mt=>ht t (IM _ mt)) (fun k mk=>hk k (IM _ mk)) (by simpa using hl)
   have ea:Hu p t x=GA.ap p m t x:=by
    unfold Hu GA.ap;exact KA fun row mr=>by rw[AA (h1.2 row mr).1 hx]
   have er:GA.rowsG (t::ts) (k::ks)=t.take k.toNat++GA.rowsG ts ks:=by unfold GA.rowsG;rw[La,Li]
   have lt:(t.take k.toNat).length=k.toNat:=by rw[JF,h1.1];omega
   rw[Jg,La,Jg,ih,Jg,er,xy];show _=GA.tvN p _::GA.Eg p _ _;rw[List.take_left' (by rw[lc,lt]),List.drop_left' (by rw[lc,lt]),<- tP];congr 1;have fl:(GA.ap p m t x).length=m:=by rw[lc,h1.1]
   have:=GA.tv_cut (p:=p) (fs:=GA.ap p m t x) (k:=k.toNat) (by omega) (by omega) fun d md=>by
    unfold GA.ap at md;obtain⟨row,_,rfl⟩:=Jo.mp md;exact GA.fm_in (by omega) _
   rw[fl]at this;rw[ea]
   exact this
 | [],_::_,_,_,hl=>by simp at hl
 | _::_,[],_,_,hl=>by simp at hl
theorem gt:∀{ks:List Int},(∀k∈ks,0<=k)->0<=ks.sum/\(∀k∈ks,k<=ks.sum)/\((ks.map K4).sum:Nat)=ks.sum.toNat
 | [],_=>by simp
 | k::ks,h=>by
   obtain⟨h1,h2,h3⟩:=gt (ks:=ks) fun x mx=>h x (IM _ mx);have h0:=h k (IS ..);rw[Jg,JD,JD,h3];refine⟨by omega,fun x mx=>?_,by omega⟩;rcases JV.mp mx with rfl|mx
   · omega
   · have:=h2 x mx;omega
theorem ga{p:Int}{m:Nat}:∀(ts:List (List (List Int)))(ks:List Int),(∀t∈ts,lv p m m t)->(∀k∈ks,0<=k/\k<=m)->ts.length=ks.length->(ks.map K4).sum=(GA.rowsG ts ks).length
 | [],[],_,_,_=>rfl
 | t::ts,k::ks,ht,hk,hl=>by
   have ih:=ga ts ks (fun t mt=>ht t (IM _ mt)) (fun k mk=>hk k (IM _ mk)) (by simpa using hl);have k1:=hk k (IS ..);have er:GA.rowsG (t::ts) (k::ks)=t.take k.toNat++GA.rowsG ts ks:=by unfold GA.rowsG;rw[La,Li]
   rw[er,JQ,JF,(ht t (IS ..)).1,Jg,JD,ih]
   omega
 | [],_::_,_,_,hl=>by simp at hl
 | _::_,[],_,_,hl=>by simp at hl
structure AmP (p m:Nat) (ts:List (List (List Int))) (ks:List Int) (w:Int):Prop where
 hp:(p:Int)=2\/(p:Int)=3\/(p:Int)=5\/(p:Int)=7
 ht:ip p m ts
 kl:ts.length=ks.length
 k0:∀k∈ks,0<=k
 ks:ks.sum=w
 wm:w<=m
theorem AmP.perm{p:Nat}{ks:List Int}{w:Int}(a:AmP p m ts ks w):((oT p m ts).map (GH p m ks)).Perm ((GA.AF p m).map fun x=>GA.Eg p (ks.map K4) (GA.ap p m (GA.rowsG ts ks) x)):=by
 have p2:2<=p:=by have:=a.hp;omega
 have q2:(2:Int)<=p:=by omega
 have hk:∀k∈ks,0<=k/\k<=m:=fun k mk=>⟨a.k0 k mk,by have:=(gt a.k0).2.1 k mk;rw[a.ks]at this;have:=a.wm;omega⟩
 have e:(oT p m ts).map (GH p m ks)=((Jq (((p:Int)^m).toNat)).map fun n:Nat=>GJ p (n:Int) m).map fun x=>GA.Eg p (ks.map K4) (GA.ap p m (GA.rowsG ts ks) x):=by
  unfold oT;rw[JY,JY];refine KA fun n mn=>?_;have pw:((p:Int)^m).toNat=p^m:=by rw[<- L9];exact JR _
  have hn:=Ko.mp mn;rw[pw]at hn;have lt:(n:Int)<(p:Int)^m:=by rw[<- L9];omega
  exact lT q2 (D2 q2 (by omega) lt).1 ts ks a.ht.2.2 hk a.kl
 rw[e];exact(sT p2).map _
theorem zr{a:Int}(hb:0<b)(h:a<=c):qd a b<=qd c b:=by
 have e:qd c b=qd a b+qd (c-a) b:=by rw[pJ _ _ hb];congr 1;omega
 have n:=nh hb (show 0<=c-a by omega);rw[e]
 grind
theorem jA{a d:Int}(hb:0<b)(hd:0<d):a*d<c*b↔qd a b<qd c d:=by
 have e1:qd a b=qd (a*d) (b*d):=by
  unfold qd;have r1:=cQ hb;have r2:=cQ hd;rw[KR,KR]
  grind
 have e2:qd c d=qd (c*b) (b*d):=by
  unfold qd;have r1:=cQ hb;have r2:=cQ hd;rw[KR,KR]
  grind
 have hbd:=PH hb hd;rw[e1,e2];constructor
 · intro h;have h1:=zr hbd (show a*d+1<=c*b by omega);have h2:qd (a*d+1) (b*d)=qd (a*d) (b*d)+qd 1 (b*d):=(pJ _ _ hbd).symm
   have h3:0<qd 1 (b*d):=by
    have z:qd 1 (b*d)≠0:=by
     unfold qd;have r:=cQ hbd;have:((1:Int):Rat)=1:=rfl;rw[this];intro z;have:(1:Rat)=0:=by grind
     exact absurd this (by decide)
    have:=nh hbd (show(0:Int)<=1 by decide)
    grind
   grind
 · intro h;by_cases c1:a*d<c*b
   · exact c1
   · have:=zr hbd (show c*b<=a*d by omega)
     grind
theorem pI{a d:Int}(hb:0<b)(hd:0<d)(h:a*d=c*b):qd a b=qd c d:=by
 unfold qd;have r1:=cQ hb;have r2:=cQ hd;have:(a:Rat)*d=c*b:=by rw[<- KR,<- KR,h]
 grind
abbrev Bk:=Int×Int×Int
noncomputable def Gu(p:Int)(z:Bk):Sd:=.from (qd z.2.1 (p^z.1.toNat)) (qd z.2.2 (p^z.1.toNat))
noncomputable def Gx(z:Bk):List Int:=tG z.2.1 (z.2.2-z.2.1).toNat
structure BkOk (p:Int) (z:Bk):Prop where
 k0:0<=z.1
 a0:0<=z.2.1
 a1:z.2.1<=p^z.1.toNat
 b0:0<=z.2.2
 b1:z.2.2<=p^z.1.toNat
def uh(p:Int)(n:Nat)(w:Int)(bs:List Bk):Prop:=bs.length=n/\(∀z∈bs,BkOk p z)/\(bs.map (·.1)).sum<=w
theorem EI{V:Int}{z:Bk}(p2:2<=p)(ok:BkOk p z)(km:z.1<=m):GP (Gu p z) "half" (qd V (p^m))=decide (V.fdiv (p^(m-z.1.toNat))∈Gx z):=by
 obtain⟨k,a,b⟩:=z;have k0:0<=k:=ok.k0;have km:k<=m:=km;have h1:decide (Str.ofString "half" = Str.ofString "shut")=false:=by decide +kernel
 have h2:decide (Str.ofString "half" = Str.ofString "open")=false:=by decide +kernel
 have pm:0<p^m:=J6 (by omega);have pk:0<p^k.toNat:=J6 (by omega);have pq:0<p^(m-k.toNat):=J6 (by omega);have pe:p^m=p^(m-k.toNat)*p^k.toNat:=by rw[<- PN];congr 1;omega
 show(G8 (qd a (p^k.toNat)) (qd V (p^m)) (!decide (Str.ofString "half" = Str.ofString "open"))&&G8 (qd V (p^m)) (qd b (p^k.toNat)) (decide (Str.ofString "half" = Str.ofString "shut")))=_;rw[h1,h2];show((!decide (qd V (p^m)<qd a (p^k.toNat)))&&decide (qd V (p^m)<qd b (p^k.toNat)))=decide (V.fdiv (p^(m-k.toNat))∈tG a (b-a).toNat)
 have lt:∀c:Int,(qd V (p^m)<qd c (p^k.toNat))↔V.fdiv (p^(m-k.toNat))<c:=fun c=>by
  rw[<- jA pm pk,pe,J5 _ (by omega),Int.ediv_lt_iff_lt_mul pq,<- Int.mul_assoc];exact⟨fun h=>Int.lt_of_mul_lt_mul_right h (by omega),fun h=>Int.mul_lt_mul_of_pos_right h pk⟩
 rw[Ll];simp only[Mn,Bool.not_eq_true',decide_eq_true_eq,decide_eq_false_iff_not];rw[tF,lt a,lt b];omega
theorem EH:∀(rows:List (List α))(cs:List α),cs.length=rows.length->(cs∈chP rows↔∀z∈cs.zip rows,z.1∈z.2):=fun rows cs hl=>by
 cases cs with
 | nil =>
   cases Kl.mp hl.symm
   simp[chP]
 | cons c0 cs' =>
   generalize hcs:c0::cs'=cs at *;rw[iR c0 _ rows rfl cs];constructor
   · rintro⟨_,h⟩ z mz;obtain⟨i,hi,rfl⟩:=Ln mz;rw[LO]at hi;rw[M7];have:=h i (by omega)
     rwa [L2.VL.getD_of (show i<cs.length by omega),L2.VL.getD_of (show i<rows.length by omega)]at this
   · intro h;refine⟨hl,fun i hi=>?_⟩
     have:=h (cs[i]'(by omega),rows[i]) (by
      have:(cs.zip rows)[i]'(by rw[LO];omega)=(cs[i]'(by omega),rows[i]):=M7
      rw[<- this];exact Jy _)
     rwa [L2.VL.getD_of (show i<cs.length by omega),L2.VL.getD_of hi]
theorem EJ{m:Int}(pm:Pm p m)(ht:ip p m.toNat ts){bs:List Bk}(hb:∀z∈bs,BkOk p z/\z.1<=m)(hl:bs.length=ts.length)(n:Int) :
 GT (GF p m.toNat ts n) (bs.map (Gu p)) "half" = decide (GH p m.toNat (bs.map (·.1)) (ko p m.toNat ts n)∈chP (bs.map Gx)):=by
 have p2:=(ge pm).2.1;have m1:=pm.2.1
 have e1:(GF p m.toNat ts n).zip (bs.map (Gu p))=(ts.zip bs).map fun z=>(nV p z.1 (GJ p n m.toNat),Gu p z.2):=by
  unfold GF;rw[List.zip_map];rfl
 have e2:(GH p m.toNat (bs.map (·.1)) (ko p m.toNat ts n)).zip (bs.map Gx)=(ts.zip bs).map fun z=>((tv p (Hu p z.1 (GJ p n m.toNat))).fdiv (p^(m.toNat-z.2.1.toNat)),Gx z.2):=by
  unfold GH ko
  have:∀(ts:List (List (List Int)))(bs:List Bk),((((ts.map fun t=>tv p (Hu p t (GJ p n m.toNat))).zip (bs.map (·.1))).map fun z=>z.1.fdiv (p^(m.toNat-z.2.toNat))).zip (bs.map Gx))=(ts.zip bs).map fun z=>((tv p (Hu p z.1 (GJ p n m.toNat))).fdiv (p^(m.toNat-z.2.1.toNat)),Gx z.2):=by
   intro ts
   induction ts with
   | nil=>intro bs;simp
   | cons t ts ih =>
     intro bs
     cases bs with
     | nil=>simp
     | cons b bs=>simp only[Jg,La];rw[ih bs]
  exact this ts bs
 have ll:(GH p m.toNat (bs.map (·.1)) (ko p m.toNat ts n)).length=(bs.map Gx).length:=by
  unfold GH ko;simp[hl]
 unfold GT;rw[e1,Pi];rw[Ll,Lb,decide_eq_true_iff,EH _ _ ll,e2]
 have pt:∀z∈ts.zip bs,GP (Gu p z.2) "half" (nV p z.1 (GJ p n m.toNat))=decide ((tv p (Hu p z.1 (GJ p n m.toNat))).fdiv (p^(m.toNat-z.2.1.toNat))∈Gx z.2):=fun z mz=>by
  obtain⟨mt,mb⟩:=KG mz;unfold nV;rw[(ht.2.2 _ mt).1];exact EI p2 (hb _ mb).1 (by have:=(hb _ mb).2;omega)
 constructor
 · intro h y my;obtain⟨z,mz,rfl⟩:=Jo.mp my;have:=h z mz;have e:=pt z mz;exact of_decide_eq_true (e▸this)
 · intro h z mz;show GP (Gu p z.2) "half" (nV p z.1 (GJ p n m.toNat))=true;rw[pt z mz,decide_eq_true_iff];exact h _ (Jo.mpr ⟨z,mz,rfl⟩)
theorem z9(lo:Int)(n:Nat):(tG lo n).Nodup:=by
 unfold tG;rw[JH,Mi];exact MT (fun{a b} ne e=>ne (by omega)) (JH.mp N_)
noncomputable def lensK(bs:List Bk):Nat:=GA.prdN (bs.map fun z=>(z.2.2-z.2.1).toNat)
theorem xO{m:Int}{o:Int}(pm:Pm p m)(ht:ip p m.toNat ts)(hs:GA.Str p m.toNat ts o){bs:List Bk}(hb:uh p ts.length o bs) :
 (cntN (ptsT p m.toNat ts) (bs.map (Gu p)) "half" : Int)*p^((bs.map (·.1)).map K4).sum=lensK bs*p^m.toNat:=by
 obtain⟨bl,hbk,hw⟩:=hb;obtain⟨_,p2,p7,m1,m5⟩:=ge pm;have k0:∀k∈bs.map (·.1),0<=k:=fun k mk=>by obtain⟨z,mz,rfl⟩:=Jo.mp mk;exact(hbk z mz).k0
 obtain⟨s0,s1,s2⟩:=gt k0;have om:=hs.om;have hbm:∀z∈bs,BkOk p z/\z.1<=m:=fun z mz=>⟨hbk z mz,by have:=s1 z.1 (Jo.mpr ⟨z,mz,rfl⟩);omega⟩;obtain⟨P,rfl⟩:∃P:Nat,p=P:=⟨p.toNat,by omega⟩;have P0:0<P:=by omega
 have am:AmP P m.toNat ts (bs.map (·.1)) (bs.map (·.1)).sum:=⟨pm.1,ht,by rw[IP,bl],k0,rfl,by omega⟩
 have c1:cntN (ptsT P m.toNat ts) (bs.map (Gu P)) "half" = ((oT P m.toNat ts).map (GH P m.toNat (bs.map (·.1)))).countP fun c=>decide (c∈chP (bs.map Gx)):=by
  unfold cntN ptsT oT;rw[<- Lf,Ma,Ma,Ma];refine MU fun n mn=>?_;show GT (GF P m.toNat ts (n:Nat)) (bs.map (Gu P)) "half" = true↔decide (GH P m.toNat (bs.map (·.1)) (ko P m.toNat ts (n:Nat))∈chP (bs.map Gx))=true;rw[EJ pm ht hbm bl]
 rw[c1,am.perm.countP_eq,Ma]
 have ind:GA.Ind P m.toNat (GA.rowsG ts (bs.map (·.1))):=by
  by_cases z:(bs.map (·.1)).sum=0
  · have:(GA.rowsG ts (bs.map (·.1))).length=0:=by
      rw[<- ga (p:=P) (m:=m.toNat) ts _ ht.2.2 (fun k mk=>⟨k0 k mk,by have:=s1 k mk;omega⟩) (by rw[IP,bl]),s2,z];rfl
    exact fun f _ k hk=>by omega
  · exact hs.all ht.1 (by omega) hw _ (by rw[IP,bl]) k0 rfl
 have htf:∀t∈GA.rowsG ts (bs.map (·.1)),GA.Fg P m.toNat t:=fun t mt=>by
  obtain⟨z,mz,mt⟩:=Lu.mp mt;have hr:=(ht.2.2 z.1 (KG mz).1).2 t (KW mt)
  exact⟨hr.1,fun k hk=>by
   have kl:k<t.length:=by rw[hr.1];exact hk
   rw[GA.gD kl];exact hr.2 _ (Jy kl)⟩
 rcases GA.ri_or (p:=(P:Int)) pm.1 htf with⟨h,hh⟩|⟨X,hX⟩
 · exact absurd ind hh.not
 have rl:=ga (p:=P) (m:=m.toNat) ts (bs.map (·.1)) ht.2.2 (fun k mk=>⟨k0 k mk,by have:=s1 k mk;omega⟩) (by rw[IP,bl])
 have bc:=GA.box_cnt (ks:=(bs.map (·.1)).map K4) P0 hX rl (rows:=bs.map Gx) (by simp) (fun r mr=>by
  obtain⟨z,_,rfl⟩:=Jo.mp mr
  exact z9 _ _) (fun i hi c mc=>by
  have hib:i<bs.length:=by simpa using hi
  rw[L2.VL.getD_of (by rw[IP];exact hib),KI]at mc;rw[L2.VL.getD_of hi,KI,KI];have ok:=hbk _ (Jy hib);have:=tF.mp mc;have h1:=ok.a0;have h2:=ok.b1
  omega)
 have el:(bs.map Gx).map N1=bs.map fun z=>(z.2.2-z.2.1).toNat:=by
  rw[JY];exact KA fun z _=>by show(tG _ _).length=_;rw[la]
 rw[el]at bc;rw[rl];unfold lensK;have:=congrArg (fun n:Nat=>(n:Int)) bc;simp only[LM,L9]at this;exact this
theorem ED(p2:2<=p){z:Bk}(ok:BkOk p z):szQ (Gu p z)=qd ((z.2.2-z.2.1).toNat:Int) (p^z.1.toNat):=by
 have pk:0<p^z.1.toNat:=J6 (by omega);have m1:mx (qd z.2.2 (p^z.1.toNat)) 0=qd z.2.2 (p^z.1.toNat):=by unfold mx;rw[if_neg fun h=>by have:=nh pk ok.b0;grind]
 have m2:mx (qd z.2.1 (p^z.1.toNat)) 0=qd z.2.1 (p^z.1.toNat):=by unfold mx;rw[if_neg fun h=>by have:=nh pk ok.a0;grind]
 show mx (mx (qd z.2.2 (p^z.1.toNat)) 0-mx (qd z.2.1 (p^z.1.toNat)) 0) 0=_;rw[m1,m2,wB _ _ pk];unfold mx;by_cases c:z.2.2-z.2.1<0
 · have:(z.2.2-z.2.1).toNat=0:=by omega
   have lt:qd (z.2.2-z.2.1) (p^z.1.toNat)<0:=by
    have:=(jA (a:=z.2.2-z.2.1) (c:=0) pk pk).mp (by rw[Int.zero_mul];exact Int.mul_neg_of_neg_of_pos c pk)
    rwa [BR pk]at this
   rw[if_pos lt,this];exact(BR pk).symm
 · have e:((z.2.2-z.2.1).toNat:Int)=z.2.2-z.2.1:=by omega
   rw[e,if_neg fun h=>by have:=nh pk (show 0<=z.2.2-z.2.1 by omega);grind]
theorem za(p2:2<=p):∀(bs:List Bk),(∀z∈bs,BkOk p z)->jp (bs.map (Gu p))=qd (lensK bs:Int) (p^((bs.map (·.1)).map K4).sum):=by
 intro bs hb
 have key:∀(bs:List Bk)(a b:Int)(n:Nat),(∀z∈bs,BkOk p z)->0<b->a=(n:Int)->((bs.map (Gu p)).map szQ).foldl (· * ·) (qd a b)=qd (((bs.map fun z=>(z.2.2-z.2.1).toNat).foldl (· * ·) n:Nat):Int) (b*p^((bs.map (·.1)).map K4).sum):=by
  intro bs
  induction bs with
  | nil=>intro a b n _ _ e;simp[e]
  | cons z bs ih =>
    intro a b n hb b0 e;have ok:=hb z IS;have pk:0<p^z.1.toNat:=J6 (by omega);rw[Jg,Jg,KQ,ED p2 ok,BS b0 pk,ih _ _ (n*(z.2.2-z.2.1).toNat) (fun y my=>hb y (IM _ my)) (PH b0 pk) (by rw[e];simp)];rw[Jg,Jg,Jg,JD,KQ,PN,Int.mul_assoc]
 have:=key bs 1 1 1 hb (by decide) rfl;rw[D1 (by decide),Int.one_mul]at this;exact this
theorem Ab{m:Int}{o:Int}(pm:Pm p m)(ht:ip p m.toNat ts)(hs:GA.Str p m.toNat ts o){bs:List Bk}(hb:uh p ts.length o bs) :
 dB (ptsT p m.toNat ts) (bs.map (Gu p)) "half" - jp (bs.map (Gu p))=0:=by
 have c:=xO pm ht hs hb;have p2:=(ge pm).2.1
 have pl:((ptsT p m.toNat ts).length:Int)=p^m.toNat:=by
  unfold ptsT;rw[IP,KL];have:0<p^m.toNat:=J6 (by omega);omega
 rw[za p2 bs hb.2.1];have e:dB (ptsT p m.toNat ts) (bs.map (Gu p)) "half" = qd (cntN (ptsT p m.toNat ts) (bs.map (Gu p)) "half" : Int) (p^m.toNat):=by unfold dB qd;rw[pl]
 rw[e,pI (J6 (by omega)) (J6 (by omega)) c]
 grind
theorem BV{m:Int}(pm:Pm p m){k:Int}(h0:0<=k)(h1:k<=m):1<=p^k.toNat/\p^k.toNat<=40:=by
 obtain⟨w40,p2,_,m1,_⟩:=ge pm;have a:0<p^k.toNat:=J6 (by omega);have b:p^k.toNat<=p^m.toNat:=e8 (by omega) (by omega);omega
theorem wc(p:Int)(z:Bk):Gw (Gu p z) = .tuple [.str "from", fr (qd z.2.1 (p^z.1.toNat)),fr (qd z.2.2 (p^z.1.toNat))]:=rfl
def Hn(p:Int)(z:Bk):IJ:=Gw (Gu p z)
def b_:List W->(IJ->Prop)->Prop:=fun ws Q=>∃(p:Int)(s w:Int),ws=[.reel,.d (.int p),.d (.int s),.d (.int w)]/\((∃m:Int,Pm p m/\w<=m)/\(1<=s)/\(s<=4)/\(0<=w))/\∀bs:List Bk,(uh p s.toNat w bs)->Q (eX (bs.map (Gu p)))
theorem b_.mono:∀ws (Q Q':IJ->Prop),(∀d,Q d->Q' d)->b_ ws Q->b_ ws Q':=fun _ _ _ h_ ⟨p,s,w,e_,p_,q_⟩=>⟨p,s,w,e_,p_,fun o_ ho_=>h_ _ (q_ o_ ho_)⟩
theorem b_.len:∀ws (Q:IJ->Prop),b_ ws Q->ws.length=4:=fun _ _ ⟨_,_,_,e_,_⟩=>by subst e_;rfl
theorem b_.eq(p:Int)(s w:Int)(hm:∃m:Int,Pm p m/\w<=m)(s1:1<=s)(s4:s<=4)(w0:0<=w):b_ [.reel,.d (.int p),.d (.int s),.d (.int w)]=Hl (anyM fun bs:List Bk=>uh p s.toNat w bs) fun bs=>VL.ret (eX (bs.map (Gu p)):IJ):=by
 refine ag fun Q=>⟨?_,fun q_=>⟨p,s,w,rfl,⟨hm,s1,s4,w0⟩,q_⟩⟩;rintro⟨p',s',w',e_,_,q_⟩;simp_arith only[gP,cU,cV,bY,bW,dn]at e_;obtain⟨rfl,rfl,rfl⟩:=e_;exact q_
theorem kF:FnScope ["_law_tape_here", "_law_p", "_law_s", "_law_w", "_law_found", "_law_left", "_law_side", "_law_k", "_law_whole", "_law_one", "_law_other"] ["_law_tape_here", "_law_p", "_law_s", "_law_w"] (defScope (FV 59)):=⟨rfl,rfl,rfl,by decide +kernel,rfl,by decide +kernel,by decide +kernel⟩
theorem d__law_box(Fn:FnIn K mg "_law_box" (FV 59) ["_law_tape_here", "_law_p", "_law_s", "_law_w"])(Z:Bz mg)(d__law_pick:∀al,DfnC P w K mg base al 1 "_law_pick" ["_law_tape_here", "_law_many"] 1 bf)(d__law_power:∀rl,Dfn P w K mg base rl "_law_power" ["_law_p", "_law_many"] 1 bq)(d_fraction:∀rl,Dfn P w K mg base rl "fraction" ["top", "bottom"] 2 ba)   : DfnC P w K mg base al 256 "_law_box" ["_law_tape_here", "_law_p", "_law_s", "_law_w"] 3 b_:=by
 have sc:=kF
 refine DfnC.of Fn sc (b_.mono) (b_.len) (fun cdv A outer s H E hr=>(ay (cs fun _=>(cO 4 sc.nd (eB ac)))
  (ay (cs fun _=>(aD 5 sc.nd (vn 3)))
  (ay (gJ 64 [6,7,8,9,10] JA rfl (ci fun _=>(aM Z.range_ (aa (vn 2) ac))) (fun _=>(av 6 sc.nd)) (ay (bO 7 sc.nd (bC (d__law_pick _) (hr.mono (by decide)) (aj (cv fun _=>(vn 0)) (aj (cv fun _=>(v_add (vn 5) ah)) aN))))
  (ay (cs fun _=>(aD 5 sc.nd (v_sub (vn 5) (vn 7))))
  (ay (cs fun _=>(aD 8 sc.nd (aA (d__law_power _) (hr.mono (by decide)) (aa (vn 1) (aa (vn 7) ac)))))
  (ay (bO 9 sc.nd (bC (d__law_pick _) (hr.mono (by decide)) (aj (cv fun _=>(vn 0)) (aj (cv fun _=>(v_add (vn 8) ah)) aN))))
  (ay (bO 10 sc.nd (bC (d__law_pick _) (hr.mono (by decide)) (aj (cv fun _=>(vn 0)) (aj (cv fun _=>(v_add (vn 8) ah)) aN))))
  (ay (xL (AH iQ (fun _=>iw) (aT _) (bC (d__law_pick _) (hr.mono (by decide)) (aj (cv fun _=>(vn 0)) (aj (cv fun _=>ah) aN))) (cv fun _=>ah)) (ck (cs fun _=>(hG 9 10 rfl sc.nd (aa (ur Z.min_ (aa (vn 9) (aa (vn 10) ac))) (aa (ut Z.max_ (aa (vn 9) (aa (vn 10) ac))) ac))))) qR)
  (ck (cs fun _=>(fu 4 (aa (cZ (aa cB (aa (aA (d_fraction _) (hr.mono (by decide)) (aa (vn 9) (aa (vn 8) ac))) (aa (aA (d_fraction _) (hr.mono (by decide)) (aa (vn 10) (aa (vn 8) ac))) ac)))) ac)))))))))))
  (ck (cs fun _=>(aC (bF Z.tuple_ (aa (vn 4) ac))))))))) (by decide) ?_
 rintro ws Q ⟨p,s,w,rfl,⟨hm,s1,s4,w0⟩,hQ⟩;refine aB ?_;have sz:=Ji;obtain⟨m,pm,wm⟩:=hm;obtain⟨w40,p2,p7,m1,m5⟩:=ge pm;have h16:p<=16:=by omega
 have gs : -(2^62)<=s/\s<2^62:=by omega
 simp_arith only[ai,af,aU,aV,aE,aG,aW,aF,aw,ae];refine dD (fun i ρ=>∃(bs:List Bk)(l:Int),bs.length=i/\(∀z∈bs,BkOk p z)/\0<=l/\(bs.map (·.1)).sum+l=w/\ρ=[some .reel,some (.d (.int p)),some (.d (.int s)),some (.d (.int w)),some (.ml (bs.map (Hn p))),some (.d (.int l)),none,none,none,none,none]) ⟨[],w,rfl,by simp,w0,by simp,rfl⟩ ?_ ?_
 · rintro i hi ρ ⟨bs,l,bl,hb,l0,ls,rfl⟩ K hK;have bz:bs.length<sizeLine:=by omega
   have ksum:0<=(bs.map (·.1)).sum:=(gt fun k mk=>by obtain⟨z,mz,rfl⟩:=Jo.mp mk;exact(hb z mz).k0).1;have g1:0<l+1:=by omega
   have g2:l+1<2^60:=by omega
   simp_arith only[ai,af,aU,aV,aE,aG,aW,aF,aw,ae,bf.eq]
   (with_reducible (first|refine az fun k hk=>?_|refine aI fun k hk=>?_))
   have k0:0<=k:=hk.1;have k4:k<=4000:=by omega
   obtain⟨q1,q40⟩:=BV pm k0 (show k<=m by omega);have gq:0<p^k.toNat+1:=by omega
   have gq2:p^k.toNat+1<2^60:=by omega
   simp_arith only[ai,af,aU,aV,aE,aG,aW,aF,aw,ae,bf.eq,bq.eq]
   (with_reducible (first|refine az fun a ha=>?_|refine aI fun a ha=>?_))
   try simp_arith only[ai,af,aU,aV,aE,aG,aW,aF,aw,ae,bf.eq]
   (with_reducible (first|refine az fun b hb2=>?_|refine aI fun b hb2=>?_))
   try simp_arith only[ai,af,aU,aV,aE,aG,aW,aF,aw,ae,bf.eq]
   (with_reducible (first|refine az fun f hf=>?_|refine aI fun f hf=>?_))
   have f0:0<p^k.toNat:=by omega
   have fz:(p^k.toNat).natAbs<2^8000:=Jh (show(p^k.toNat).natAbs<2^60 by omega) (JK (by decide) (by decide))
   have fin:∀a b:Int,0<=a->a<=p^k.toNat->0<=b->b<=p^k.toNat->∀o1 o2 o3 o4 o5,K (.nx [some .reel,some (.d (.int p)),some (.d (.int s)),some (.d (.int w)),some (.ml (bs.map (Hn p)++[.tuple [.str "from", fr (qd a (p^k.toNat)),fr (qd b (p^k.toNat))]])),some (.d (.int (l-k))),o1,o2,o3,o4,o5]):=fun a b a0 a1 b0 b1 o1 o2 o3 o4 o5 =>
    hK _ (cI ⟨bs++[(k,a,b)],l-k,by simp[bl],fun z mz=>by
     rcases JU.mp mz with h|h
     · exact hb z h
     · rw[Kw.mp h];exact⟨k0,a0,a1,b0,b1⟩,by omega,by simp;omega,by simp[fo,JI,Hn,wc]⟩)
   simp_arith only[ai,af,aU,aV,aE,aG,aW,aF,aw,ae,ba.eq];refine fin _ _ ?_ ?_ ?_ ?_ _ _ _ _ _<;>split<;>omega
 · rintro ρ ⟨bs,l,bl,hb,l0,ls,rfl⟩;have bz:bs.length<=sizeLine:=by omega
   simp_arith only[ai,af,aU,aV,aE,aG,aW,aF,aw,ae];have:=hQ bs ⟨bl,hb,by omega⟩;refine aH ?_;unfold eX at this;rw[JY]at this;exact this
theorem sum_set:∀(l:List Int)(i:Nat)(v:Int),i<l.length->(l.set i v).sum=l.sum-l.getD i 0+v
 | [],i,v,h=>by simp at h
 | x::l,0,v,_=>by simp;omega
 | x::l,i+1,v,h=>by
   have:=sum_set l i v (by simpa using h);rw[List.set_cons_succ,JD,JD,this];simp;omega
theorem fS:∀(l:List Int)(i:Nat),(∀x∈l,0<=x)->(l.take i).sum<=l.sum
 | [],i,_=>by simp
 | x::l,0,h=>by
   have:=(gt h).1
   simpa using this
 | x::l,i+1,h=>by
   have:=fS l i fun y my=>h y (IM _ my);rw[List.take_succ_cons,JD,JD];omega
theorem ig(bs:List Bk)(z:Bk):lensK (bs++[z])=lensK bs*(z.2.2-z.2.1).toNat:=by unfold lensK;rw[JI];exact GA.prdN_snoc _ _
def bA:List W->(IJ->Prop)->Prop:=fun ws Q=>∃(p:Int)(s w:Int),ws=[.reel,.d (.int p),.d (.int s),.d (.int w)]/\((∃m:Int,Pm p m/\w<=m)/\(1<=s)/\(s<=4)/\(0<=w))/\∀bs:List Bk,(uh p s.toNat w bs)->Q (.tuple [eX (bs.map (Gu p)),.int (lensK bs:Int),.int (p^((bs.map (·.1)).map K4).sum)])
theorem bA.mono:∀ws (Q Q':IJ->Prop),(∀d,Q d->Q' d)->bA ws Q->bA ws Q':=fun _ _ _ h_ ⟨p,s,w,e_,p_,q_⟩=>⟨p,s,w,e_,p_,fun o_ ho_=>h_ _ (q_ o_ ho_)⟩
theorem bA.len:∀ws (Q:IJ->Prop),bA ws Q->ws.length=4:=fun _ _ ⟨_,_,_,e_,_⟩=>by subst e_;rfl
theorem bA.eq(p:Int)(s w:Int)(hm:∃m:Int,Pm p m/\w<=m)(s1:1<=s)(s4:s<=4)(w0:0<=w):bA [.reel,.d (.int p),.d (.int s),.d (.int w)]=Hl (anyM fun bs:List Bk=>uh p s.toNat w bs) fun bs=>VL.ret (.tuple [eX (bs.map (Gu p)),.int (lensK bs:Int),.int (p^((bs.map (·.1)).map K4).sum)]:IJ):=by
 refine ag fun Q=>⟨?_,fun q_=>⟨p,s,w,rfl,⟨hm,s1,s4,w0⟩,q_⟩⟩;rintro⟨p',s',w',e_,_,q_⟩;simp_arith only[gP,cU,cV,bY,bW,dn]at e_;obtain⟨rfl,rfl,rfl⟩:=e_;exact q_
theorem gU:FnScope ["_law_tape_here", "_law_p", "_law_s", "_law_w", "_law_powers", "_law_k", "_law_at", "_law_void", "_law_found", "_law_top", "_law_bottom", "_law_side", "_law_whole", "_law_one", "_law_other"] ["_law_tape_here", "_law_p", "_law_s", "_law_w"] (defScope (FV 60)):=⟨rfl,rfl,rfl,by decide +kernel,rfl,by decide +kernel,by decide +kernel⟩
theorem d__law_filled(Fn:FnIn K mg "_law_filled" (FV 60) ["_law_tape_here", "_law_p", "_law_s", "_law_w"])(Z:Bz mg)(d__law_pick:∀al,DfnC P w K mg base al 1 "_law_pick" ["_law_tape_here", "_law_many"] 1 bf)(d__law_power:∀rl,Dfn P w K mg base rl "_law_power" ["_law_p", "_law_many"] 1 bq)(d_fraction:∀rl,Dfn P w K mg base rl "fraction" ["top", "bottom"] 2 ba)   : DfnC P w K mg base al 257 "_law_filled" ["_law_tape_here", "_law_p", "_law_s", "_law_w"] 3 bA:=by
 have sc:=gU
 refine DfnC.of Fn sc (bA.mono) (bA.len) (fun cdv A outer s H E hr=>(ay (cs fun _=>(cO 4 sc.nd (uq (eB (aa ah ac)) (vn 2))))
  (ay (gJ 64 [5,6] JA rfl (ci fun _=>(aM Z.range_ (aa (vn 3) ac))) (fun _=>(av 5 sc.nd)) (ay (bO 6 sc.nd (bC (d__law_pick _) (hr.mono (by decide)) (aj (cv fun _=>(vn 0)) (aj (cv fun _=>(vn 2)) aN))))
  (ck (qS 4 (cv fun _=>(vn 6)) (ud (cv fun _=>(cP (vn 4) (vn 6))) (u_ Z.int_ (aj (AK iQ (fun _=>iw) (aT _) (bC (d__law_pick _) (hr.mono (by decide)) (aj (cv fun _=>(vn 0)) (aj (cv fun _=>ah) aN))) (cv fun _=>ah)) aN)))))))
  (ay (bO 7 sc.nd (bC (d__law_pick _) (hr.mono (by decide)) (aj (cv fun _=>(vn 0)) (aj (cv fun _=>(v_mul ah (vn 2))) aN))))
  (ay (cs fun _=>(cO 8 sc.nd (eB ac)))
  (ay (cs fun _=>(oa (cZ (aa ah (aa ah ac))) (dz (n:=2) rfl (aO (av 9 sc.nd) (aO (av 10 sc.nd) cA)))))
  (ay (gJ 64 [11,12,13,14] JA rfl (ci fun _=>(aM Z.range_ (aa (vn 2) ac))) (fun _=>(av 11 sc.nd)) (ay (cs fun _=>(aD 12 sc.nd (aA (d__law_power _) (hr.mono (by decide)) (aa (vn 1) (aa (cP (vn 4) (vn 11)) ac)))))
  (ay (bO 13 sc.nd (bC (d__law_pick _) (hr.mono (by decide)) (aj (cv fun _=>(vn 0)) (aj (cv fun _=>(vn 12)) aN))))
  (ay (bO 14 sc.nd (ud (cv fun _=>(v_add (vn 13) ah)) (bC (d__law_pick _) (hr.mono (by decide)) (aj (cv fun _=>(vn 0)) (aj (cv fun _=>(v_sub (vn 12) (vn 13))) aN)))))
  (ay (cs fun _=>(cS (bm (eJ hr.units) cz (aT _) (vn 11) (vn 7)) (au (aD 14 sc.nd (vn 13))) bP))
  (ay (cs fun _=>(fu 8 (aa (cZ (aa cB (aa (aA (d_fraction _) (hr.mono (by decide)) (aa (vn 13) (aa (vn 12) ac))) (aa (aA (d_fraction _) (hr.mono (by decide)) (aa (vn 14) (aa (vn 12) ac))) ac)))) ac)))
  (ck (cs fun _=>(hG 9 10 rfl sc.nd (aa (v_mul (vn 9) (v_sub (vn 14) (vn 13))) (aa (v_mul (vn 10) (vn 12)) ac)))))))))))
  (ck (cs fun _=>(aC (cZ (aa (bF Z.tuple_ (aa (vn 8) ac)) (aa (vn 9) (aa (vn 10) ac)))))))))))))) (by decide) ?_
 rintro ws Q ⟨p,s,w,rfl,⟨hm,s1,s4,w0⟩,hQ⟩;refine aB ?_;have sz:=Ji;obtain⟨m,pm,wm⟩:=hm;obtain⟨w40,p2,p7,m1,m5⟩:=ge pm;have h16:p<=16:=by omega
 have gs : -(2^62)<=s/\s<2^62:=by omega
 have gw : -(2^62)<=w/\w<2^62:=by omega
 have s0:0<s:=by omega
 have s60:s<2^60:=by omega
 have gz:s.toNat<=sizeLine:=by omega
 simp_arith only[ai,af,aU,aV,aE,aG,aW,aF,aw,ae,bf.eq]
 have e0:(I0 s.toNat [Jl 0]).flatten=(I0 s.toNat (0:Int)).map Jl:=by
  rw[KU]
  induction s.toNat with
  | zero=>rfl
  | succ n ih=>rw[Jx,Jx,Kr,ih];rfl
 rw[e0];refine dD (fun i ρ=>∃pw:List Int,pw.length=s.toNat/\(∀x∈pw,0<=x)/\pw.sum<=i/\ρ=[some .reel,some (.d (.int p)),some (.d (.int s)),some (.d (.int w)),some (.ml (pw.map .int)),none,none,none,none,none,none,none,none,none,none]) ⟨I0 s.toNat 0,by simp,fun x mx=>by rw[(NG.mp mx).2];exact N3 _,by simp,rfl⟩ ?_ ?_
 · rintro i hi ρ ⟨pw,pl,p0,ps,rfl⟩ K hK;simp_arith only[ai,af,aU,aV,aE,aG,aW,aF,aw,ae,bf.eq]
   (with_reducible (first|refine az fun x hx=>?_|refine aI fun x hx=>?_))
   have xl:x<(pw.length:Int):=by omega
   have ex:=ue (xs:=pw) 0 hx.1 xl;have ex2:atI (pw.map Jl) x=some (.int (pw.getD x.toNat 0)):=by rw[cq,ex];rfl
   have gx:0<=x/\x<((pw.map Jl).length:Int):=by rw[IP];exact⟨hx.1,xl⟩
   have v0:0<=pw.getD x.toNat 0:=p0 _ (L2.VL.getD_mem (by omega));simp_arith only[ai,af,aU,aV,aE,aG,aW,aF,aw,ae,bf.eq,lN,ex2]
   (with_reducible (first|refine az fun f hf=>?_|refine aI fun f hf=>?_))
   try simp_arith only[ai,af,aU,aV,aE,aG,aW,aF,aw,ae,lN,ex2]
   have st:∀v:Int,(pw.map Jl).set x.toNat (.int v)=(pw.set x.toNat v).map .int:=fun v=>by rw[Pl]
   simp only[st];refine hK _ (cI ⟨pw.set x.toNat (pw.getD x.toNat 0+if decide (0<f)=true then 1 else 0),by rw[Ol];exact pl,fun y my=>?_,?_,rfl⟩)
   · rcases Mm my with h|h
     · exact p0 y h
     · rw[h];split<;>omega
   · rw[sum_set _ _ _ (by omega)];split<;>omega
 · rintro ρ ⟨pw,pl,p0,ps,rfl⟩;have cm:bo 8 s:=.lt (by decide);have s8:0<8*s:=by omega
   have s80:8*s<2^60:=by omega
   simp_arith only[ai,af,aU,aV,aE,aG,aW,aF,aw,ae,bf.eq]
   (with_reducible (first|refine az fun v hv=>?_|refine aI fun v hv=>?_))
   simp_arith only[ai,af,aU,aV,aE,aG,aW,aF,aw,ae];have psw:pw.sum<=w:=by omega
   refine dD (fun i ρ=>∃bs:List Bk,bs.length=i/\(∀z∈bs,BkOk p z)/\bs.map (·.1)=pw.take i/\(∀z∈bs,z.2.1<=z.2.2)/\ρ=[some .reel,some (.d (.int p)),some (.d (.int s)),some (.d (.int w)),some (.ml (pw.map .int)),none,none,some (.d (.int v)),some (.ml (bs.map (Hn p))),some (.d (.int (lensK bs:Int))),some (.d (.int (p^((bs.map (·.1)).map K4).sum))),none,none,none,none]) ⟨[],rfl,by simp,rfl,by simp,by simp[lensK,GA.prdN]⟩ ?_ ?_
   · rintro i hi ρ ⟨bs,bl,hb,bk,ble,rfl⟩ K hK;have bz:bs.length<sizeLine:=by omega
     have hi2:i<pw.length:=by omega
     have ex:atI (pw.map Jl) (0+(i:Int))=some (.int pw[i]):=by rw[cq,M3,cK (IV hi2)];rfl
     have tk:pw.take (i+1)=pw.take i++[pw[i]]:=KZ hi2;have k0:0<=pw[i]:=p0 _ (Jy hi2);have km:pw[i]<=pw.sum:=(gt p0).2.1 _ (Jy hi2);generalize pw[i]=k at *;have k4:k<=4000:=by omega
     obtain⟨q1,q40⟩:=BV pm k0 (show k<=m by omega);have gq:0<p^k.toNat:=by omega
     have gq2:p^k.toNat<2^60:=by omega
     have fz:(p^k.toNat).natAbs<2^8000:=Jh (show(p^k.toNat).natAbs<2^60 by omega) (JK (by decide) (by decide));simp_arith only[ai,af,aU,aV,aE,aG,aW,aF,aw,ae,bf.eq,bq.eq,ex]
     (with_reducible (first|refine az fun a ha=>?_|refine aI fun a ha=>?_))
     have g3:0<p^k.toNat-a:=by omega
     have g4:p^k.toNat-a<2^60:=by omega
     try simp_arith only[ai,af,aU,aV,aE,aG,aW,aF,aw,ae,bf.eq]
     (with_reducible (first|refine az fun d hd=>?_|refine aI fun d hd=>?_))
     have c1:∀x y:Int,bo x (p^k.toNat):=fun x _=>.rt (by omega)
     have fin:∀b:Int,a<=b->b<=p^k.toNat->∀o1 o2 o3 o4,K (.nx [some .reel,some (.d (.int p)),some (.d (.int s)),some (.d (.int w)),some (.ml (pw.map .int)),none,none,some (.d (.int v)),some (.ml (bs.map (Hn p)++[.tuple [.str "from", fr (qd a (p^k.toNat)),fr (qd b (p^k.toNat))]])),some (.d (.int ((lensK bs:Int)*(b-a)))),some (.d (.int (p^((bs.map (·.1)).map K4).sum*p^k.toNat))),o1,o2,o3,o4]):=fun b ab b1 o1 o2 o3 o4 =>
      hK _ (cI ⟨bs++[(k,a,b)],by simp[bl],fun z mz=>by
       rcases JU.mp mz with h|h
       · exact hb z h
       · rw[Kw.mp h];exact⟨k0,ha.1,by show a<=p^k.toNat;omega,by show 0<=b;omega,b1⟩,by rw[JI,bk,tk];rfl,fun z mz=>by
       rcases JU.mp mz with h|h
       · exact ble z h
       · rw[Kw.mp h];exact ab,by
       have e1:(lensK (bs++[(k,a,b)]):Int)=(lensK bs:Int)*(b-a):=by
        rw[ig,LM];show _*(((b-a).toNat:Nat):Int)=_;rw[Kk (by omega)]
       have e2:p^(((bs++[(k,a,b)]).map (·.1)).map K4).sum=p^((bs.map (·.1)).map K4).sum*p^k.toNat:=by
        rw[JI,JI,Np,PN];simp
       rw[e1,e2]
       simp[fo,JI,Hn,wc]⟩)
     try simp_arith only[ai,af,aU,aV,aE,aG,aW,aF,aw,ae]
     have hb1:a<=(if(0+(i:Int)==v)=true then a else a+1+d)/\(if(0+(i:Int)==v)=true then a else a+1+d)<=p^k.toNat:=by split<;>omega
     generalize (if(0+(i:Int)==v)=true then a else a+1+d)=b at *;have c2:∀x:Int,bo x (b-a):=fun x=>.rt (by omega);have c3:∀x:Int,bo x (p^k.toNat):=fun x=>.rt (by omega);simp_arith only[ai,af,aU,aV,aE,aG,aW,aF,aw,ae,ba.eq,c2,c3];exact fin b hb1.1 hb1.2 _ _ _ _
   · rintro ρ ⟨bs,bl,hb,bk,ble,rfl⟩;have bz:bs.length<=sizeLine:=by omega
     simp_arith only[ai,af,aU,aV,aE,aG,aW,aF,aw,ae];have:=hQ bs ⟨bl,hb,by rw[bk];have:=fS pw s.toNat p0;omega⟩;refine aH ?_;unfold eX at this;rw[JY]at this;exact this
theorem Ar(ht:ip p m ts):hdM ts=m:=by
 cases ts with
 | nil=>have:=ht.1;simp at this
 | cons a l=>exact(ht.2.2 a IS).1
theorem AM{m:Int}(pm:Pm p m){o:Int}(om:o<=m){bs:List Bk}(hb:uh p n o bs)(n1:1<=n)(n4:n<=4):nZ (bs.map (Gu p)):=by
 obtain⟨bl,hk,hw⟩:=hb;have k0:∀k∈bs.map (·.1),0<=k:=fun k mk=>by obtain⟨z,mz,rfl⟩:=Jo.mp mk;exact(hk z mz).k0
 refine⟨by rw[IP];omega,by rw[IP];omega,fun s ms=>?_⟩;obtain⟨z,mz,rfl⟩:=Jo.mp ms;have ok:=hk z mz;have kw:=(gt k0).2.1 z.1 (Jo.mpr ⟨z,mz,rfl⟩);obtain⟨q1,q40⟩:=BV pm ok.k0 (show z.1<=m by omega);have h1:=ok.a0;have h2:=ok.a1;have h3:=ok.b0;have h4:=ok.b1;exact⟨sD (by omega) (by omega) (by omega),sD (by omega) (by omega) (by omega)⟩
noncomputable def Hd:Bk:=(0,0,1)
theorem Cs(n:Nat){o:Int}(o0:0<=o):uh p n o (I0 n Hd):=by
 refine⟨MZ,fun z mz=>?_,?_⟩
 · rw[(NG.mp mz).2];exact⟨by decide,by decide,by show(0:Int)<=p^0;rw[L8];decide,by decide,by show(1:Int)<=p^0;rw[L8];decide⟩
 · rw[KU]
   have:∀n,(I0 n Hd.1).sum=0:=fun n=>by
    induction n with
    | zero=>rfl
    | succ n ih=>rw[Jx,JD,ih];rfl
   rw[this];exact o0
theorem Cr(n:Nat):lensK (I0 n Hd)=1/\(((I0 n Hd).map (·.1)).map K4).sum=0:=by
 constructor
 · induction n with
   | zero=>rfl
   | succ n ih=>rw[List.replicate_succ',ig,ih];rfl
 · rw[KU,KU]
   induction n with
   | zero=>rfl
   | succ n ih=>rw[Jx,JD,ih];rfl
theorem zb:FnScope ["_law_script", "_law_k", "_law_tape_here", "_law_p", "_law_m", "_law_tables_here", "_law_told", "_law_w", "_law_turn", "_law_box_here", "_law_every", "_law_top", "_law_bottom"] ["_law_script"] (defScope (FV 61)):=⟨rfl,rfl,rfl,by decide +kernel,rfl,by decide +kernel,by decide +kernel⟩
theorem tD(Z:Bz mg)(d__law_tape:DfnR P w K mg base "_law_tape" ["_law_script", "_law_at"] 2 A4)(d__law_size:∀al,DfnC P w K mg base al 2 "_law_size" ["_law_tape_here"] 2 bT)(d__law_tables:∀al,DfnC P w K mg base al 524422 "_law_tables" ["_law_tape_here", "_law_p", "_law_m"] 3 bv)(d_points_of_tables:∀rl,Dfn P w K mg base rl "points_of_tables" ["p", "tables"] 4 aP)(d_strength:∀rl,Dfn P w K mg base rl "strength" ["p", "tables"] 6 bZ)(d__law_box:∀al,DfnC P w K mg base al 256 "_law_box" ["_law_tape_here", "_law_p", "_law_s", "_law_w"] 3 b_)(d_inside:∀rl,Dfn P w K mg base rl "inside" ["points", "box", "way"] 5 cw)(d__law_filled:∀al,DfnC P w K mg base al 257 "_law_filled" ["_law_tape_here", "_law_p", "_law_s", "_law_w"] 3 bA)(d_miss_of:∀rl,Dfn P w K mg base rl "miss_of" ["points", "box"] 7 cj)(F:Fun K "law" "law" (FV 61) f fd):FnOk P w K mg base IA 9 f fd ["_law_script"] (hW K):=by
 have sc:=zb
 refine w6 F sc (fun cdv A outer s H E hr=>(ak (bV [1,2,3,4,5,6,7,8,9,10,11,12] JA rfl (aM Z.range_ (aa (v_add ah (cT Z.len_ (aa (yz (vn 0) dQ (dP ah)) ac))) ac)) (av 1 sc.nd) (xK 2 d__law_tape (hr.mono (by decide)) sc.nd (aa (vn 0) (aa (vn 1) ac)) (fun r=>(ay (u6 (bC (d__law_size _) (hr.mono (by decide)) (aj (cv fun _=>(vn 2)) aN)) (fun _=>(dz (n:=2) rfl (aO (av 3 sc.nd) (aO (av 4 sc.nd) cA)))))
  (ay (bO 5 sc.nd (bC (d__law_tables _) (hr.mono (by decide)) (aj (cv fun _=>(vn 2)) (aj (cv fun _=>(vn 3)) (aj (cv fun _=>(vn 4)) aN)))))
  (ay (cs fun _=>(aD 6 sc.nd (aA (d_points_of_tables _) (hr.mono (by decide)) (aa (vn 3) (aa (vn 5) ac)))))
  (ay (cs fun _=>(aD 7 sc.nd (aA (d_strength _) (hr.mono (by decide)) (aa (vn 3) (aa (vn 5) ac)))))
  (ay (gJ 64 [8,9] JA rfl (ci fun _=>(aM Z.range_ (aa ah ac))) (fun _=>(av 8 sc.nd)) (ay (bO 9 sc.nd (bC (d__law_box _) (hr.mono (by decide)) (aj (cv fun _=>(vn 2)) (aj (cv fun _=>(vn 3)) (aj (cv fun _=>(cT Z.len_ (aa (vn 5) ac))) (aj (cv fun _=>(vn 7)) aN))))))
  (ck (cs fun _=>(cS (bm (ic hr.units) cz (aT _) (aA (d_miss_of _) (hr.mono (by decide)) (aa (vn 6) (aa (vn 9) ac))) (cZ (aa ah (aa ah ac)))) (au (aC sF)) bP)))))
  (ay (cs fun _=>(aD 10 sc.nd (uo (cZ (aa (cZ (aa cB (aa (cZ (aa ah (aa ah ac))) (aa (cZ (aa ah (aa ah ac))) ac)))) ac)) (cT Z.len_ (aa (vn 5) ac)))))
  (ay (cs fun _=>(cS (bm (ic hr.units) cz (aT _) (aA (d_inside _) (hr.mono (by decide)) (aa (vn 6) (aa (vn 10) (aa cB ac)))) (cT Z.len_ (aa (vn 6) ac))) (au (aC sF)) bP))
  (ck (gJ 64 [8,9,11,12] JA rfl (ci fun _=>(aM Z.range_ (aa ah ac))) (fun _=>(av 8 sc.nd)) (ay (u6 (bC (d__law_filled _) (hr.mono (by decide)) (aj (cv fun _=>(vn 2)) (aj (cv fun _=>(vn 3)) (aj (cv fun _=>(cT Z.len_ (aa (vn 5) ac))) (aj (cv fun _=>(vn 7)) aN))))) (fun _=>(dz (n:=3) rfl (aO (av 9 sc.nd) (aO (av 11 sc.nd) (aO (av 12 sc.nd) cA))))))
  (ck (cs fun _=>(cS (H0.pb (Bj (bm (ic hr.units) cz (aT _) (aA (d_miss_of _) (hr.mono (by decide)) (aa (vn 6) (aa (vn 9) ac))) (cZ (aa ah (aa ah ac)))) (yx (bm (ic hr.units) cz (aT _) (v_mul (aA (d_inside _) (hr.mono (by decide)) (aa (vn 6) (aa (vn 9) (aa cB ac)))) (vn 12)) (v_mul (cT Z.len_ (aa (vn 6) ac)) (vn 11)))))) (au (aC sF)) bP)))))))))))))) (by decide +kernel)))
  (au (aC sF)))) ?_
 intro ns hn;have sz:=Ji;have cl:(VL.cutD (ns.map Jl) none (some 2)).length<=63:=Ks (qQ _ _ _) (by rw[IP];exact hn);have g0 : -(2^62)<=1+((VL.cutD (ns.map Jl) none (some 2)).length:Int)/\1+((VL.cutD (ns.map Jl) none (some 2)).length:Int)<2^62:=by omega
 simp_arith only[ai,af,aU,aV,aE,aG,aW,aF,aw,ae];refine i4 ?_ ?_
 · intro i hi K hK;have pt:=A4.eq hn (show 0<=0+(i:Int) by omega) (show 0+(i:Int)<1000 by omega);simp_arith only[ai,af,aU,aV,aE,aG,aW,aF,aw,ae,pt,bT.eq,By,Bx];refine(show sq _ _ (fun fl=>FQ fl K)from ?_);have hend:∀ρ,fo [1,2,3,4,5,6,7,8,9,10,11,12] (nR ρ)=[some (.sc ns),none,none,none,none,none,none,none,none,none,none,none,none]->(fun fl=>FQ fl K) (.nx ρ):=fun ρ e=>hK _ (cI e);generalize (fun fl=>FQ fl K)=K' at hend ⊢
   (with_reducible (first|refine az fun z pm=>?_|refine aI fun z pm=>?_))
   obtain⟨p,m⟩:=z;have pm:Pm p m:=pm;obtain⟨w40,p2,p7,m1,m5⟩:=ge pm
   try simp_arith only[ai,af,aU,aV,aE,aG,aW,aF,aw,ae,bv.eq]
   (with_reducible (first|refine az fun ts ht=>?_|refine aI fun ts ht=>?_))
   obtain⟨t1,t4,htt⟩:=id ht;have hd:=Ar ht;have hL:=tK ht;have hm:∃m:Int,Pm p m/\ip p m.toNat ts/\m.toNat=hdM ts:=⟨m,pm,ht,hd.symm⟩;have pe:=aP.eq p ts ⟨m,pm,ht,hL⟩;rw[<- hL]at pe
   try simp_arith only[ai,af,aU,aV,aE,aG,aW,aF,aw,ae,pe,bZ.eq]
   (with_reducible (first|refine az fun o ho=>?_|refine aI fun o ho=>?_))
   rw[hd]at ho;have o0:=ho.o0;have om:o<=m:=by have:=ho.om;omega
   have hw:∃m:Int,Pm p m/\o<=m:=⟨m,pm,om⟩;have l1:1<=(ts.length:Int):=by omega
   have l4:(ts.length:Int)<=4:=by omega
   have et:((ts.length:Int)).toNat=ts.length:=JR _;obtain⟨hps,_⟩:=zx pm ht
   have pl:((ptsT p m.toNat ts).length:Int)=p^m.toNat:=by
    unfold ptsT;rw[IP,KL];have:0<p^m.toNat:=J6 (by omega);omega
   have ishalf:GY "half" := .inl rfl;have ez:Mv (fr 0) (.tuple [.int 0,.int 1])=true:=rfl;have sh0:K8 (fr 0)=true:=jq 0;have sh1:K8 (.tuple [.int 0,.int 1])=true:=jq 0
   have key:∀bs,uh p ts.length o bs->cj [.d (iK (ptsT p m.toNat ts)),.d (eX (bs.map (Gu p)))]=VL.ret (fr 0)/\cw [.d (iK (ptsT p m.toNat ts)),.d (eX (bs.map (Gu p))),.d (.str "half")]=VL.ret (.int (cntN (ptsT p m.toNat ts) (bs.map (Gu p)) "half")):=fun bs hb=>by
    have bx:=AM pm om hb t1 t4;have hl:(bs.map (Gu p)).length=ts.length:=by rw[IP,hb.1]
    have hp':ug (bs.map (Gu p)).length (ptsT p m.toNat ts):=by rw[hl];exact hps
    refine⟨?_,cw.eq _ _ _ hp' bx ishalf⟩;rw[cj.eq _ _ hp' bx,Ab pm ht ho hb]
   try simp_arith only[ai,af,aU,aV,aE,aG,aW,aF,aw,ae,eO]
   refine i4 ?_ ?_
   · intro j hj K2 hK2;simp_arith only[ai,af,aU,aV,aE,aG,aW,aF,aw,ae,eO,b_.eq]
     (with_reducible (first|refine az fun bs hb=>?_|refine aI fun bs hb=>?_))
     try rw[et]at hb
     obtain⟨k1,_⟩:=key bs hb;simp_arith only[ai,af,aU,aV,aE,aG,aW,aF,aw,ae,k1,ez,sh0,sh1];exact hK2 _ (cI rfl)
   have eb:=Cs (p:=p) ts.length o0;obtain⟨v1,v2⟩:=Cr ts.length;have ec:=xO pm ht ho eb;rw[v1,v2,L8,Nj]at ec;have ec:(cntN (ptsT p m.toNat ts) ((I0 ts.length Hd).map (Gu p)) "half" : Int)=p^m.toNat:=by rw[ec];simp
   have es:Jz (I0 ts.length [Jz [.str "from", .tuple [.int 0,.int 1],.tuple [.int 1,.int 1]]]).flatten=eX ((I0 ts.length Hd).map (Gu p)):=by
    have e1:Gw (Gu p Hd)=Jz [.str "from", .tuple [.int 0,.int 1],.tuple [.int 1,.int 1]]:=by
     rw[wc];show Jz [.str "from", fr (qd 0 (p^0)),fr (qd 1 (p^0))]=_;rw[L8,BR (by decide),D1 (by decide)];rfl
    unfold eX;rw[KU,KU,e1];congr 1
    induction ts.length with
    | zero=>rfl
    | succ n ih=>rw[Jx,Jx,Kr,ih];rfl
   obtain⟨_,k2⟩:=key _ eb;rw[ec]at k2;simp_arith only[ai,af,aU,aV,aE,aG,aW,aF,aw,ae,eO,es,k2,lenD_ps,pl];refine bX ⟨by simp,by omega,by omega⟩ ?_;rw[if_neg (by simp)];refine EV (i4 ?_ (hend _ rfl));intro j hj K2 hK2;simp_arith only[ai,af,aU,aV,aE,aG,aW,aF,aw,ae,eO,bA.eq]
   (with_reducible (first|refine az fun bs hb=>?_|refine aI fun bs hb=>?_))
   try rw[et]at hb
   obtain⟨k1,k2⟩:=key bs hb;have ec:=xO pm ht ho hb;have ec2:p^m.toNat*(lensK bs:Int)=(cntN (ptsT p m.toNat ts) (bs.map (Gu p)) "half" : Int)*p^((bs.map (·.1)).map K4).sum:=by rw[ec,Ow]
   have p40:=hps.2.1;have c40:cntN (ptsT p m.toNat ts) (bs.map (Gu p)) "half" <= 40:=Ks (Ov _ _) p40;have cm1:∀x:Int,bo (cntN (ptsT p m.toNat ts) (bs.map (Gu p)) "half" : Int) x:=fun x=>.lt (by omega);have cm2:∀x:Int,bo (p^m.toNat) x:=fun x=>.lt (by omega);simp_arith only[ai,af,aU,aV,aE,aG,aW,aF,aw,ae,k1,k2,ez,sh0,sh1,lenD_ps,pl,cm1,cm2,ec2];rw[if_neg (by simp)];exact hK2 _ (cI rfl)
 · simp_arith only[af,aU,aV,aE,aG,aW,aF,aw,ae];exact xm
structure Txt (K:LR) (mg:Str->Option IR):Prop where
 bz:Bz mg
 f__law_tape:FnIn K mg "_law_tape" (FV 51) ["_law_script", "_law_at"]
 f__law_pick:FnIn K mg "_law_pick" (FV 52) ["_law_tape_here", "_law_many"]
 f__law_any:FnIn K mg "_law_any" (FV 55) ["_law_tape_here", "_law_p", "_law_rows", "_law_columns"]
 f_common_divisor:FnIn K mg "common_divisor" (FV 6) ["one", "other"]
 f_fraction:FnIn K mg "fraction" (FV 7) ["top", "bottom"]
 f_power:FnIn K mg "power" (FV 16) ["base", "exponent"]
 f_figures_of:FnIn K mg "figures_of" (FV 17) ["base", "n"]
 f_figures_in:FnIn K mg "figures_in" (FV 18) ["base", "n", "k"]
 f__law_power:FnIn K mg "_law_power" (FV 54) ["_law_p", "_law_many"]
 f__law_size:FnIn K mg "_law_size" (FV 53) ["_law_tape_here"]
 f_product_sum:FnIn K mg "product_sum" (FV 23) ["p", "one", "other"]
 f_applied:FnIn K mg "applied" (FV 24) ["p", "table", "figures"]
 f_number_of:FnIn K mg "number_of" (FV 19) ["base", "figures"]
 f_table_number:FnIn K mg "table_number" (FV 33) ["p", "table", "figures"]
 f__law_mirror:FnIn K mg "_law_mirror" (FV 57) ["_law_m"]
 f__law_sum_table:FnIn K mg "_law_sum_table" (FV 56) ["_law_p", "_law_m", "_law_j"]
 f__law_tables:FnIn K mg "_law_tables" (FV 58) ["_law_tape_here", "_law_p", "_law_m"]
 f_points_of_tables:FnIn K mg "points_of_tables" (FV 34) ["p", "tables"]
 f_inverse_of:FnIn K mg "inverse_of" (FV 21) ["one", "modulus"]
 f_unit_figures:FnIn K mg "unit_figures" (FV 25) ["many", "place"]
 f_first_filled:FnIn K mg "first_filled" (FV 26) ["figures"]
 f_scaled:FnIn K mg "scaled" (FV 27) ["p", "row", "often"]
 f_cleared:FnIn K mg "cleared" (FV 28) ["p", "row", "other", "column"]
 f_reduced:FnIn K mg "reduced" (FV 29) ["p", "table"]
 f_combination:FnIn K mg "combination" (FV 31) ["p", "table"]
 f_right_inverse:FnIn K mg "right_inverse" (FV 30) ["p", "table"]
 f_shapes_of:FnIn K mg "shapes_of" (FV 35) ["many", "w"]
 f_rows_of:FnIn K mg "rows_of" (FV 36) ["tables", "shape"]
 f_net_paper:FnIn K mg "net_paper" (FV 47) ["p", "tables", "w"]
 f_strength:FnIn K mg "strength" (FV 49) ["p", "tables"]
 f_plus:FnIn K mg "plus" (FV 8) ["one", "other"]
 f_less:FnIn K mg "less" (FV 9) ["one", "other"]
 f_times:FnIn K mg "times" (FV 10) ["one", "other"]
 f_is_below:FnIn K mg "is_below" (FV 12) ["one", "other"]
 f_lesser:FnIn K mg "lesser" (FV 13) ["one", "other"]
 f_greater:FnIn K mg "greater" (FV 14) ["one", "other"]
 f_product_of:FnIn K mg "product_of" (FV 11) ["some"]
 f_side_size:FnIn K mg "side_size" (FV 38) ["side"]
 f_size_of:FnIn K mg "size_of" (FV 39) ["box"]
 f_goes_ahead:FnIn K mg "goes_ahead" (FV 40) ["one", "other", "may_meet"]
 f_lies:FnIn K mg "lies" (FV 41) ["x", "side", "way"]
 f_lies_in:FnIn K mg "lies_in" (FV 42) ["point", "box", "way"]
 f_inside:FnIn K mg "inside" (FV 43) ["points", "box", "way"]
 f_share_of:FnIn K mg "share_of" (FV 44) ["points", "box", "way"]
 f_miss_of:FnIn K mg "miss_of" (FV 45) ["points", "box"]
 f__law_box:FnIn K mg "_law_box" (FV 59) ["_law_tape_here", "_law_p", "_law_s", "_law_w"]
 f__law_filled:FnIn K mg "_law_filled" (FV 60) ["_law_tape_here", "_law_p", "_law_s", "_law_w"]
 g_ZERO:GlD K mg "ZERO" (pr 0 1)
 g_ONE:GlD K mg "ONE" (pr 1 1)
theorem zX(F:Fun K "law" "law" (FV 61) f fd)(T:Txt K mg)  : FnOk P w K mg base IA 9 f fd ["_law_script"] (hW K):=by
 have d__law_tape:DfnR P w K mg base "_law_tape" ["_law_script", "_law_at"] 2 A4:=K68.d__law_tape T.f__law_tape T.bz   ;have d__law_pick:∀al,DfnC P w K mg base al 1 "_law_pick" ["_law_tape_here", "_law_many"] 1 bf:=fun rl=>K68.d__law_pick T.f__law_pick T.bz   ;have d__law_any:∀al,DfnC P w K mg base al 8193 "_law_any" ["_law_tape_here", "_law_p", "_law_rows", "_law_columns"] 2 ca:=fun rl=>K68.d__law_any T.f__law_any T.bz d__law_pick  ;have d_common_divisor:∀rl,Dfn P w K mg base rl "common_divisor" ["one", "other"] 1 aX:=fun rl=>K68.d_common_divisor T.f_common_divisor T.bz   ;have d_fraction:∀rl,Dfn P w K mg base rl "fraction" ["top", "bottom"] 2 ba:=fun rl=>K68.d_fraction T.f_fraction T.bz d_common_divisor  ;have d_power:∀rl,Dfn P w K mg base rl "power" ["base", "exponent"] 1 dC:=fun rl=>K68.d_power T.f_power T.bz   ;have d_figures_of:∀rl,Dfn P w K mg base rl "figures_of" ["base", "n"] 1 bJ:=fun rl=>K68.d_figures_of T.f_figures_of T.bz   ;have d_figures_in:∀rl,Dfn P w K mg base rl "figures_in" ["base", "n", "k"] 2 bK:=fun rl=>K68.d_figures_in T.f_figures_in T.bz d_figures_of  ;have d__law_power:∀rl,Dfn P w K mg base rl "_law_power" ["_law_p", "_law_many"] 1 bq:=fun rl=>K68.d__law_power T.f__law_power T.bz   ;have d__law_size:∀al,DfnC P w K mg base al 2 "_law_size" ["_law_tape_here"] 2 bT:=fun rl=>K68.d__law_size T.f__law_size T.bz d__law_pick  ;have d_product_sum:∀rl,Dfn P w K mg base rl "product_sum" ["p", "one", "other"] 1 br:=fun rl=>K68.d_product_sum T.f_product_sum T.bz   ;have d_applied:∀rl,Dfn P w K mg base rl "applied" ["p", "table", "figures"] 2 cH:=fun rl=>K68.d_applied T.f_applied T.bz d_product_sum  ;have d_number_of:∀rl,Dfn P w K mg base rl "number_of" ["base", "figures"] 1 bR:=fun rl=>K68.d_number_of T.f_number_of T.bz   ;have d_table_number:∀rl,Dfn P w K mg base rl "table_number" ["p", "table", "figures"] 3 aZ:=fun rl=>K68.d_table_number T.f_table_number T.bz d_applied d_fraction d_number_of d_power  ;have d__law_mirror:∀rl,Dfn P w K mg base rl "_law_mirror" ["_law_m"] 1 bw:=fun rl=>K68.d__law_mirror T.f__law_mirror T.bz   ;have d__law_sum_table:∀rl,Dfn P w K mg base rl "_law_sum_table" ["_law_p", "_law_m", "_law_j"] 1 aY:=fun rl=>K68.d__law_sum_table T.f__law_sum_table T.bz   ;have d__law_tables:∀al,DfnC P w K mg base al 524422 "_law_tables" ["_law_tape_here", "_law_p", "_law_m"] 3 bv:=fun rl=>K68.d__law_tables T.f__law_tables T.bz d__law_pick d__law_sum_table d__law_any d__law_mirror  ;have d_points_of_tables:∀rl,Dfn P w K mg base rl "points_of_tables" ["p", "tables"] 4 aP:=fun rl=>K68.d_points_of_tables T.f_points_of_tables T.bz d_power d_figures_in d_table_number  ;have d_inverse_of:∀rl,Dfn P w K mg base rl "inverse_of" ["one", "modulus"] 1 bH:=fun rl=>K68.d_inverse_of T.f_inverse_of T.bz   ;have d_unit_figures:∀rl,Dfn P w K mg base rl "unit_figures" ["many", "place"] 1 bh:=fun rl=>K68.d_unit_figures T.f_unit_figures T.bz   ;have d_first_filled:∀rl,Dfn P w K mg base rl "first_filled" ["figures"] 1 bi:=fun rl=>K68.d_first_filled T.f_first_filled T.bz   
 have d_scaled:∀rl,Dfn P w K mg base rl "scaled" ["p", "row", "often"] 1 df:=fun rl=>K68.d_scaled T.f_scaled T.bz   ;have d_cleared:∀rl,Dfn P w K mg base rl "cleared" ["p", "row", "other", "column"] 1 cG:=fun rl=>K68.d_cleared T.f_cleared T.bz   ;have d_reduced:∀rl,DfnP P w K mg base rl "reduced" ["p", "table"] 2 cg:=fun rl=>K68.d_reduced T.f_reduced T.bz d_first_filled d_scaled d_unit_figures d_cleared d_inverse_of  ;have d_combination:∀rl,Dfn P w K mg base rl "combination" ["p", "table"] 3 bu:=fun rl=>K68.d_combination T.f_combination T.bz d_reduced  ;have d_right_inverse:∀rl,Dfn P w K mg base rl "right_inverse" ["p", "table"] 3 be:=fun rl=>K68.d_right_inverse T.f_right_inverse T.bz d_reduced  ;have d_shapes_of:∀rl,Dfn P w K mg base rl "shapes_of" ["many", "w"] 4 (aL 4):=fun rl=>K68.d_shapes_of T.f_shapes_of T.bz   ;have d_rows_of:∀rl,Dfn P w K mg base rl "rows_of" ["tables", "shape"] 1 cD:=fun rl=>K68.d_rows_of T.f_rows_of T.bz   ;have d_net_paper:∀rl,Dfn P w K mg base rl "net_paper" ["p", "tables", "w"] 5 bS:=fun rl=>K68.d_net_paper T.f_net_paper T.bz d_shapes_of d_rows_of d_combination d_right_inverse  ;have d_strength:∀rl,Dfn P w K mg base rl "strength" ["p", "tables"] 6 bZ:=fun rl=>K68.d_strength T.f_strength T.bz d_net_paper  ;have d_plus:∀rl,Dfn P w K mg base rl "plus" ["one", "other"] 3 gm:=fun rl=>K68.d_plus T.f_plus T.bz d_fraction  ;have d_less:∀rl,Dfn P w K mg base rl "less" ["one", "other"] 3 fC:=fun rl=>K68.d_less T.f_less T.bz d_fraction  ;have d_times:∀rl,Dfn P w K mg base rl "times" ["one", "other"] 3 dW:=fun rl=>K68.d_times T.f_times T.bz d_fraction  ;have d_is_below:∀rl,Dfn P w K mg base rl "is_below" ["one", "other"] 1 bN:=fun rl=>K68.d_is_below T.f_is_below T.bz   ;have d_lesser:∀rl,Dfn P w K mg base rl "lesser" ["one", "other"] 2 dg:=fun rl=>K68.d_lesser T.f_lesser T.bz d_is_below  ;have d_greater:∀rl,Dfn P w K mg base rl "greater" ["one", "other"] 2 cF:=fun rl=>K68.d_greater T.f_greater T.bz d_is_below  ;have d_product_of:∀rl,Dfn P w K mg base rl "product_of" ["some"] 4 bG:=fun rl=>K68.d_product_of T.f_product_of T.bz d_times T.g_ONE ;have d_side_size:∀rl,Dfn P w K mg base rl "side_size" ["side"] 4 bQ:=fun rl=>K68.d_side_size T.f_side_size T.bz d_greater d_less d_lesser d_plus T.g_ZERO T.g_ONE ;have d_size_of:∀rl,Dfn P w K mg base rl "size_of" ["box"] 5 cC:=fun rl=>K68.d_size_of T.f_size_of T.bz d_product_of d_side_size  ;have d_goes_ahead:∀rl,Dfn P w K mg base rl "goes_ahead" ["one", "other", "may_meet"] 2 bI:=fun rl=>K68.d_goes_ahead T.f_goes_ahead T.bz d_is_below  ;have d_lies:∀rl,Dfn P w K mg base rl "lies" ["x", "side", "way"] 3 gn:=fun rl=>K68.d_lies T.f_lies T.bz d_goes_ahead  ;have d_lies_in:∀rl,Dfn P w K mg base rl "lies_in" ["point", "box", "way"] 4 cE:=fun rl=>K68.d_lies_in T.f_lies_in T.bz d_lies  ;have d_inside:∀rl,Dfn P w K mg base rl "inside" ["points", "box", "way"] 5 cw:=fun rl=>K68.d_inside T.f_inside T.bz d_lies_in  ;have d_share_of:∀rl,Dfn P w K mg base rl "share_of" ["points", "box", "way"] 6 b9:=fun rl=>K68.d_share_of T.f_share_of T.bz d_fraction d_inside  
 have d_miss_of:∀rl,Dfn P w K mg base rl "miss_of" ["points", "box"] 7 cj:=fun rl=>K68.d_miss_of T.f_miss_of T.bz d_less d_share_of d_size_of  ;have d__law_box:∀al,DfnC P w K mg base al 256 "_law_box" ["_law_tape_here", "_law_p", "_law_s", "_law_w"] 3 b_:=fun rl=>K68.d__law_box T.f__law_box T.bz d__law_pick d__law_power d_fraction  ;have d__law_filled:∀al,DfnC P w K mg base al 257 "_law_filled" ["_law_tape_here", "_law_p", "_law_s", "_law_w"] 3 bA:=fun rl=>K68.d__law_filled T.f__law_filled T.bz d__law_pick d__law_power d_fraction  ;exact tD T.bz d__law_tape d__law_size d__law_tables d_points_of_tables d_strength d__law_box d_inside d__law_filled d_miss_of   F
end
theorem aK{K:LR}{mg:Str->Option IR}(X:K.In h)(G:h.Ns J4 mg){x:Str}{st:Stmt}{ps:List Str}{oc kV dc pm cd ct:IR}{od an:Option Addr}{sl:Array (Option IR)}(a:Pn K J4 x=some (some (.ref f)))(l:K.lookup f=some ⟨oc,od,.func (Po x x (defArgs st) (defBody st) (defScope st) .none kV dc pm an cd ct),sl⟩)(c:Jb K cd x=true)(k:Jc K (.ref f)=true)(hb:∀(kV doc pm:IR)(an:Option Addr)(cdv ct:IR)(us:List IR),us.length=ps.length->bindArgs (Po x x (defArgs st) (defBody st) (defScope st) .none kV doc pm an cdv ct) ⟨us,[]⟩=pure (ps.zip us)):FnIn K mg x st ps:=⟨⟨f,_,PySem.W.mg_of X G a,qH l c k,(qH l c k).binds hb⟩⟩
abbrev NI(K:LR)(x:Str)(f:Addr):Prop:=Pn K J4 x=some (some (.ref f))
abbrev NZ(K:LR)(x:Str):Prop:=Pn K J4 x=some none
abbrev LK(K:LR)(x:Str)(st:Stmt)(f:Addr)(oc:IR)(od:Option Addr)(kV dc pm:IR)(an:Option Addr)(cd ct:IR)(sl:Array (Option IR)):Prop:=K.lookup f=some ⟨oc,od,.func (Po x x (defArgs st) (defBody st) (defScope st) .none kV dc pm an cd ct),sl⟩
theorem all_mk{l:OB}{K:LR}{mg:Str->Option IR}{fa:Addr}(X:K.In h)(G:h.Ns J4 mg)(hfa:mg "law" = some (.ref fa))
 {f1 f2 f3 f4 f5 f6 f7 f8 f9 f10 f11 f12 f13 f14 f15 f16 f17 f18 f19 f20 f21 f22 f23 f24 f25 f26 f27 f28 f29 f30 f31 f32 f33 f34 f35 f36 f37 f38 f39 f40 f41 f42 f43 f44 f45 f46 f47 f48:Addr}{od1 an1 od2 an2 od3 an3 od4 an4 od5 an5 od6 an6 od7 an7 od8 an8 od9 an9 od10 an10 od11 an11 od12 an12 od13 an13 od14 an14 od15 an15 od16 an16 od17 an17 od18 an18 od19 an19 od20 an20 od21 an21 od22 an22 od23 an23 od24 an24 od25 an25 od26 an26 od27 an27 od28 an28 od29 an29 od30 an30 od31 an31 od32 an32 od33 an33 od34 an34 od35 an35 od36 an36 od37 an37 od38 an38 od39 an39 od40 an40 od41 an41 od42 an42 od43 an43 od44 an44 od45 an45 od46 an46 od47 an47 od48 an48:Option Addr}{sl1 sl2 sl3 sl4 sl5 sl6 sl7 sl8 sl9 sl10 sl11 sl12 sl13 sl14 sl15 sl16 sl17 sl18 sl19 sl20 sl21 sl22 sl23 sl24 sl25 sl26 sl27 sl28 sl29 sl30 sl31 sl32 sl33 sl34 sl35 sl36 sl37 sl38 sl39 sl40 sl41 sl42 sl43 sl44 sl45 sl46 sl47 sl48:Array (Option IR)}{oc1 kV1 dc1 pm1 cd1 ct1 oc2 kV2 dc2 pm2 cd2 ct2 oc3 kV3 dc3 pm3 cd3 ct3 oc4 kV4 dc4 pm4 cd4 ct4 oc5 kV5 dc5 pm5 cd5 ct5 oc6 kV6 dc6 pm6 cd6 ct6 oc7 kV7 dc7 pm7 cd7 ct7 oc8 kV8 dc8 pm8 cd8 ct8 oc9 kV9 dc9 pm9 cd9 ct9 oc10 kV10 dc10 pm10 cd10 ct10 oc11 kV11 dc11 pm11 cd11 ct11 oc12 kV12 dc12 pm12 cd12 ct12 oc13 kV13 dc13 pm13 cd13 ct13 oc14 kV14 dc14 pm14 cd14 ct14 oc15 kV15 dc15 pm15 cd15 ct15 oc16 kV16 dc16 pm16 cd16 ct16 oc17 kV17 dc17 pm17 cd17 ct17 oc18 kV18 dc18 pm18 cd18 ct18 oc19 kV19 dc19 pm19 cd19 ct19 oc20 kV20 dc20 pm20 cd20 ct20 oc21 kV21 dc21 pm21 cd21 ct21 oc22 kV22 dc22 pm22 cd22 ct22 oc23 kV23 dc23 pm23 cd23 ct23 oc24 kV24 dc24 pm24 cd24 ct24 oc25 kV25 dc25 pm25 cd25 ct25 oc26 kV26 dc26 pm26 cd26 ct26 oc27 kV27 dc27 pm27 cd27 ct27 oc28 kV28 dc28 pm28 cd28 ct28 oc29 kV29 dc29 pm29 cd29 ct29 oc30 kV30 dc30 pm30 cd30 ct30 oc31 kV31 dc31 pm31 cd31 ct31 oc32 kV32 dc32 pm32 cd32 ct32 oc33 kV33 dc33 pm33 cd33 ct33 oc34 kV34 dc34 pm34 cd34 ct34 oc35 kV35 dc35 pm35 cd35 ct35 oc36 kV36 dc36 pm36 cd36 ct36 oc37 kV37 dc37 pm37 cd37 ct37 oc38 kV38 dc38 pm38 cd38 ct38 oc39 kV39 dc39 pm39 cd39 ct39 oc40 kV40 dc40 pm40 cd40 ct40 oc41 kV41 dc41 pm41 cd41 ct41 oc42 kV42 dc42 pm42 cd42 ct42 oc43 kV43 dc43 pm43 cd43 ct43 oc44 kV44 dc44 pm44 cd44 ct44 oc45 kV45 dc45 pm45 cd45 ct45 oc46 kV46 dc46 pm46 cd46 ct46 oc47 kV47 dc47 pm47 cd47 ct47 oc48 kV48 dc48 pm48 cd48 ct48:IR}
 (a1:NI K "_law_tape" f1)(l1:LK K "_law_tape" (FV 51) f1 oc1 od1 kV1 dc1 pm1 an1 cd1 ct1 sl1)(c1:Jb K cd1 "_law_tape" = true)(k1:Jc K (.ref f1)=true)(a2:NI K "_law_pick" f2)(l2:LK K "_law_pick" (FV 52) f2 oc2 od2 kV2 dc2 pm2 an2 cd2 ct2 sl2)(c2:Jb K cd2 "_law_pick" = true)(k2:Jc K (.ref f2)=true)(a3:NI K "_law_any" f3)(l3:LK K "_law_any" (FV 55) f3 oc3 od3 kV3 dc3 pm3 an3 cd3 ct3 sl3)(c3:Jb K cd3 "_law_any" = true)(k3:Jc K (.ref f3)=true)(a4:NI K "common_divisor" f4)(l4:LK K "common_divisor" (FV 6) f4 oc4 od4 kV4 dc4 pm4 an4 cd4 ct4 sl4)(c4:Jb K cd4 "common_divisor" = true)(k4:Jc K (.ref f4)=true)(a5:NI K "fraction" f5)(l5:LK K "fraction" (FV 7) f5 oc5 od5 kV5 dc5 pm5 an5 cd5 ct5 sl5)(c5:Jb K cd5 "fraction" = true)(k5:Jc K (.ref f5)=true)(a6:NI K "power" f6)(l6:LK K "power" (FV 16) f6 oc6 od6 kV6 dc6 pm6 an6 cd6 ct6 sl6)(c6:Jb K cd6 "power" = true)(k6:Jc K (.ref f6)=true)(a7:NI K "figures_of" f7)(l7:LK K "figures_of" (FV 17) f7 oc7 od7 kV7 dc7 pm7 an7 cd7 ct7 sl7)(c7:Jb K cd7 "figures_of" = true)(k7:Jc K (.ref f7)=true)(a8:NI K "figures_in" f8)(l8:LK K "figures_in" (FV 18) f8 oc8 od8 kV8 dc8 pm8 an8 cd8 ct8 sl8)(c8:Jb K cd8 "figures_in" = true)(k8:Jc K (.ref f8)=true)(a9:NI K "_law_power" f9)(l9:LK K "_law_power" (FV 54) f9 oc9 od9 kV9 dc9 pm9 an9 cd9 ct9 sl9)(c9:Jb K cd9 "_law_power" = true)(k9:Jc K (.ref f9)=true)(a10:NI K "_law_size" f10)(l10:LK K "_law_size" (FV 53) f10 oc10 od10 kV10 dc10 pm10 an10 cd10 ct10 sl10)(c10:Jb K cd10 "_law_size" = true)(k10:Jc K (.ref f10)=true)(a11:NI K "product_sum" f11)(l11:LK K "product_sum" (FV 23) f11 oc11 od11 kV11 dc11 pm11 an11 cd11 ct11 sl11)(c11:Jb K cd11 "product_sum" = true)(k11:Jc K (.ref f11)=true)(a12:NI K "applied" f12)(l12:LK K "applied" (FV 24) f12 oc12 od12 kV12 dc12 pm12 an12 cd12 ct12 sl12)(c12:Jb K cd12 "applied" = true)(k12:Jc K (.ref f12)=true)(a13:NI K "number_of" f13)(l13:LK K "number_of" (FV 19) f13 oc13 od13 kV13 dc13 pm13 an13 cd13 ct13 sl13)(c13:Jb K cd13 "number_of" = true)(k13:Jc K (.ref f13)=true)(a14:NI K "table_number" f14)(l14:LK K "table_number" (FV 33) f14 oc14 od14 kV14 dc14 pm14 an14 cd14 ct14 sl14)(c14:Jb K cd14 "table_number" = true)(k14:Jc K (.ref f14)=true)(a15:NI K "_law_mirror" f15)(l15:LK K "_law_mirror" (FV 57) f15 oc15 od15 kV15 dc15 pm15 an15 cd15 ct15 sl15)(c15:Jb K cd15 "_law_mirror" = true)(k15:Jc K (.ref f15)=true)(a16:NI K "_law_sum_table" f16)(l16:LK K "_law_sum_table" (FV 56) f16 oc16 od16 kV16 dc16 pm16 an16 cd16 ct16 sl16)(c16:Jb K cd16 "_law_sum_table" = true)(k16:Jc K (.ref f16)=true)(a17:NI K "_law_tables" f17)(l17:LK K "_law_tables" (FV 58) f17 oc17 od17 kV17 dc17 pm17 an17 cd17 ct17 sl17)(c17:Jb K cd17 "_law_tables" = true)(k17:Jc K (.ref f17)=true)(a18:NI K "points_of_tables" f18)(l18:LK K "points_of_tables" (FV 34) f18 oc18 od18 kV18 dc18 pm18 an18 cd18 ct18 sl18)(c18:Jb K cd18 "points_of_tables" = true)(k18:Jc K (.ref f18)=true)(a19:NI K "inverse_of" f19)(l19:LK K "inverse_of" (FV 21) f19 oc19 od19 kV19 dc19 pm19 an19 cd19 ct19 sl19)(c19:Jb K cd19 "inverse_of" = true)(k19:Jc K (.ref f19)=true)(a20:NI K "unit_figures" f20)(l20:LK K "unit_figures" (FV 25) f20 oc20 od20 kV20 dc20 pm20 an20 cd20 ct20 sl20)(c20:Jb K cd20 "unit_figures" = true)(k20:Jc K (.ref f20)=true)(a21:NI K "first_filled" f21)(l21:LK K "first_filled" (FV 26) f21 oc21 od21 kV21 dc21 pm21 an21 cd21 ct21 sl21)(c21:Jb K cd21 "first_filled" = true)(k21:Jc K (.ref f21)=true)(a22:NI K "scaled" f22)(l22:LK K "scaled" (FV 27) f22 oc22 od22 kV22 dc22 pm22 an22 cd22 ct22 sl22)(c22:Jb K cd22 "scaled" = true)(k22:Jc K (.ref f22)=true)(a23:NI K "cleared" f23)(l23:LK K "cleared" (FV 28) f23 oc23 od23 kV23 dc23 pm23 an23 cd23 ct23 sl23)(c23:Jb K cd23 "cleared" = true)(k23:Jc K (.ref f23)=true)(a24:NI K "reduced" f24)(l24:LK K "reduced" (FV 29) f24 oc24 od24 kV24 dc24 pm24 an24 cd24 ct24 sl24)(c24:Jb K cd24 "reduced" = true)(k24:Jc K (.ref f24)=true)(a25:NI K "combination" f25)(l25:LK K "combination" (FV 31) f25 oc25 od25 kV25 dc25 pm25 an25 cd25 ct25 sl25)(c25:Jb K cd25 "combination" = true)(k25:Jc K (.ref f25)=true)(a26:NI K "right_inverse" f26)(l26:LK K "right_inverse" (FV 30) f26 oc26 od26 kV26 dc26 pm26 an26 cd26 ct26 sl26)(c26:Jb K cd26 "right_inverse" = true)(k26:Jc K (.ref f26)=true)(a27:NI K "shapes_of" f27)(l27:LK K "shapes_of" (FV 35) f27 oc27 od27 kV27 dc27 pm27 an27 cd27 ct27 sl27)(c27:Jb K cd27 "shapes_of" = true)(k27:Jc K (.ref f27)=true)(a28:NI K "rows_of" f28)(l28:LK K "rows_of" (FV 36) f28 oc28 od28 kV28 dc28 pm28 an28 cd28 ct28 sl28)(c28:Jb K cd28 "rows_of" = true)(k28:Jc K (.ref f28)=true)(a29:NI K "net_paper" f29)(l29:LK K "net_paper" (FV 47) f29 oc29 od29 kV29 dc29 pm29 an29 cd29 ct29 sl29)(c29:Jb K cd29 "net_paper" = true)(k29:Jc K (.ref f29)=true)(a30:NI K "strength" f30)(l30:LK K "strength" (FV 49) f30 oc30 od30 kV30 dc30 pm30 an30 cd30 ct30 sl30)(c30:Jb K cd30 "strength" = true)(k30:Jc K (.ref f30)=true)(a31:NI K "plus" f31)(l31:LK K "plus" (FV 8) f31 oc31 od31 kV31 dc31 pm31 an31 cd31 ct31 sl31)(c31:Jb K cd31 "plus" = true)(k31:Jc K (.ref f31)=true)(a32:NI K "less" f32)(l32:LK K "less" (FV 9) f32 oc32 od32 kV32 dc32 pm32 an32 cd32 ct32 sl32)(c32:Jb K cd32 "less" = true)(k32:Jc K (.ref f32)=true)(a33:NI K "times" f33)(l33:LK K "times" (FV 10) f33 oc33 od33 kV33 dc33 pm33 an33 cd33 ct33 sl33)(c33:Jb K cd33 "times" = true)(k33:Jc K (.ref f33)=true)(a34:NI K "is_below" f34)(l34:LK K "is_below" (FV 12) f34 oc34 od34 kV34 dc34 pm34 an34 cd34 ct34 sl34)(c34:Jb K cd34 "is_below" = true)(k34:Jc K (.ref f34)=true)(a35:NI K "lesser" f35)(l35:LK K "lesser" (FV 13) f35 oc35 od35 kV35 dc35 pm35 an35 cd35 ct35 sl35)(c35:Jb K cd35 "lesser" = true)(k35:Jc K (.ref f35)=true)(a36:NI K "greater" f36)(l36:LK K "greater" (FV 14) f36 oc36 od36 kV36 dc36 pm36 an36 cd36 ct36 sl36)(c36:Jb K cd36 "greater" = true)(k36:Jc K (.ref f36)=true)(a37:NI K "product_of" f37)(l37:LK K "product_of" (FV 11) f37 oc37 od37 kV37 dc37 pm37 an37 cd37 ct37 sl37)(c37:Jb K cd37 "product_of" = true)(k37:Jc K (.ref f37)=true)(a38:NI K "side_size" f38)(l38:LK K "side_size" (FV 38) f38 oc38 od38 kV38 dc38 pm38 an38 cd38 ct38 sl38)(c38:Jb K cd38 "side_size" = true)(k38:Jc K (.ref f38)=true)(a39:NI K "size_of" f39)(l39:LK K "size_of" (FV 39) f39 oc39 od39 kV39 dc39 pm39 an39 cd39 ct39 sl39)(c39:Jb K cd39 "size_of" = true)(k39:Jc K (.ref f39)=true)(a40:NI K "goes_ahead" f40)(l40:LK K "goes_ahead" (FV 40) f40 oc40 od40 kV40 dc40 pm40 an40 cd40 ct40 sl40)(c40:Jb K cd40 "goes_ahead" = true)(k40:Jc K (.ref f40)=true)(a41:NI K "lies" f41)(l41:LK K "lies" (FV 41) f41 oc41 od41 kV41 dc41 pm41 an41 cd41 ct41 sl41)(c41:Jb K cd41 "lies" = true)(k41:Jc K (.ref f41)=true)(a42:NI K "lies_in" f42)(l42:LK K "lies_in" (FV 42) f42 oc42 od42 kV42 dc42 pm42 an42 cd42 ct42 sl42)(c42:Jb K cd42 "lies_in" = true)(k42:Jc K (.ref f42)=true)(a43:NI K "inside" f43)(l43:LK K "inside" (FV 43) f43 oc43 od43 kV43 dc43 pm43 an43 cd43 ct43 sl43)(c43:Jb K cd43 "inside" = true)(k43:Jc K (.ref f43)=true)(a44:NI K "share_of" f44)(l44:LK K "share_of" (FV 44) f44 oc44 od44 kV44 dc44 pm44 an44 cd44 ct44 sl44)(c44:Jb K cd44 "share_of" = true)(k44:Jc K (.ref f44)=true)(a45:NI K "miss_of" f45)(l45:LK K "miss_of" (FV 45) f45 oc45 od45 kV45 dc45 pm45 an45 cd45 ct45 sl45)(c45:Jb K cd45 "miss_of" = true)(k45:Jc K (.ref f45)=true)(a46:NI K "_law_box" f46)(l46:LK K "_law_box" (FV 59) f46 oc46 od46 kV46 dc46 pm46 an46 cd46 ct46 sl46)(c46:Jb K cd46 "_law_box" = true)(k46:Jc K (.ref f46)=true)(a47:NI K "_law_filled" f47)(l47:LK K "_law_filled" (FV 60) f47 oc47 od47 kV47 dc47 pm47 an47 cd47 ct47 sl47)(c47:Jb K cd47 "_law_filled" = true)(k47:Jc K (.ref f47)=true)(a48:NI K "law" f48)(l48:LK K "law" (FV 61) f48 oc48 od48 kV48 dc48 pm48 an48 cd48 ct48 sl48)(c48:Jb K cd48 "law" = true)(k48:Jc K (.ref f48)=true)
 (z_int:NZ K "int")(z_bool:NZ K "bool")(z_str:NZ K "str")(z_list:NZ K "list")(z_tuple:NZ K "tuple")(z_dict:NZ K "dict")(z_isinstance:NZ K "isinstance")(z_len:NZ K "len")(z_abs:NZ K "abs")(z_repr:NZ K "repr")(z_range:NZ K "range")(z_all:NZ K "all")(z_any:NZ K "any")(z_sum:NZ K "sum")(z_min:NZ K "min")(z_max:NZ K "max")(z_sorted:NZ K "sorted")(z_zip:NZ K "zip")(z_enumerate:NZ K "enumerate")(z_reversed:NZ K "reversed")(z_divmod:NZ K "divmod")(z_set:NZ K "set")(g_ZERO:GlK K "ZERO" (pr 0 1))(g_ONE:GlK K "ONE" (pr 1 1))  :
 ∃fd:LF,(∀(s:IW)(v:IR),Pw s fd ⟨[v],[]⟩ [("_law_script", v)])/\∀base:Heap,K.In base->base.Ns J4 mg->FnOk l.prog w K mg base IA 9 fa fd ["_law_script"] (hW K):=by
 have e:=hfa.symm.trans (PySem.W.mg_of X G a48);cases e;have B:Bz mg:=⟨Js X G z_int,Js X G z_bool,Js X G z_str,Js X G z_list,Js X G z_tuple,Js X G z_dict,Js X G z_isinstance,Js X G z_len,Js X G z_abs,Js X G z_repr,Js X G z_range,Js X G z_all,Js X G z_any,Js X G z_sum,Js X G z_min,Js X G z_max,Js X G z_sorted,Js X G z_zip,Js X G z_enumerate,Js X G z_reversed,Js X G z_divmod,Js X G z_set⟩;have T:Txt K mg:=⟨B,(aK X G a1 l1 c1 k1 fun _ _ _ _ _ _ us hl=>match us,hl with | [_,_],_=>rfl),(aK X G a2 l2 c2 k2 fun _ _ _ _ _ _ us hl=>match us,hl with | [_,_],_=>rfl),(aK X G a3 l3 c3 k3 fun _ _ _ _ _ _ us hl=>match us,hl with | [_,_,_,_],_=>rfl),(aK X G a4 l4 c4 k4 fun _ _ _ _ _ _ us hl=>match us,hl with | [_,_],_=>rfl),(aK X G a5 l5 c5 k5 fun _ _ _ _ _ _ us hl=>match us,hl with | [_,_],_=>rfl),(aK X G a6 l6 c6 k6 fun _ _ _ _ _ _ us hl=>match us,hl with | [_,_],_=>rfl),(aK X G a7 l7 c7 k7 fun _ _ _ _ _ _ us hl=>match us,hl with | [_,_],_=>rfl),(aK X G a8 l8 c8 k8 fun _ _ _ _ _ _ us hl=>match us,hl with | [_,_,_],_=>rfl),(aK X G a9 l9 c9 k9 fun _ _ _ _ _ _ us hl=>match us,hl with | [_,_],_=>rfl),(aK X G a10 l10 c10 k10 fun _ _ _ _ _ _ us hl=>match us,hl with | [_],_=>rfl),(aK X G a11 l11 c11 k11 fun _ _ _ _ _ _ us hl=>match us,hl with | [_,_,_],_=>rfl),(aK X G a12 l12 c12 k12 fun _ _ _ _ _ _ us hl=>match us,hl with | [_,_,_],_=>rfl),(aK X G a13 l13 c13 k13 fun _ _ _ _ _ _ us hl=>match us,hl with | [_,_],_=>rfl),(aK X G a14 l14 c14 k14 fun _ _ _ _ _ _ us hl=>match us,hl with | [_,_,_],_=>rfl),(aK X G a15 l15 c15 k15 fun _ _ _ _ _ _ us hl=>match us,hl with | [_],_=>rfl),(aK X G a16 l16 c16 k16 fun _ _ _ _ _ _ us hl=>match us,hl with | [_,_,_],_=>rfl),(aK X G a17 l17 c17 k17 fun _ _ _ _ _ _ us hl=>match us,hl with | [_,_,_],_=>rfl),(aK X G a18 l18 c18 k18 fun _ _ _ _ _ _ us hl=>match us,hl with | [_,_],_=>rfl),(aK X G a19 l19 c19 k19 fun _ _ _ _ _ _ us hl=>match us,hl with | [_,_],_=>rfl),(aK X G a20 l20 c20 k20 fun _ _ _ _ _ _ us hl=>match us,hl with | [_,_],_=>rfl),(aK X G a21 l21 c21 k21 fun _ _ _ _ _ _ us hl=>match us,hl with | [_],_=>rfl),(aK X G a22 l22 c22 k22 fun _ _ _ _ _ _ us hl=>match us,hl with | [_,_,_],_=>rfl),(aK X G a23 l23 c23 k23 fun _ _ _ _ _ _ us hl=>match us,hl with | [_,_,_,_],_=>rfl),(aK X G a24 l24 c24 k24 fun _ _ _ _ _ _ us hl=>match us,hl with | [_,_],_=>rfl),(aK X G a25 l25 c25 k25 fun _ _ _ _ _ _ us hl=>match us,hl with | [_,_],_=>rfl),(aK X G a26 l26 c26 k26 fun _ _ _ _ _ _ us hl=>match us,hl with | [_,_],_=>rfl),(aK X G a27 l27 c27 k27 fun _ _ _ _ _ _ us hl=>match us,hl with | [_,_],_=>rfl),(aK X G a28 l28 c28 k28 fun _ _ _ _ _ _ us hl=>match us,hl with | [_,_],_=>rfl),(aK X G a29 l29 c29 k29 fun _ _ _ _ _ _ us hl=>match us,hl with | [_,_,_],_=>rfl),(aK X G a30 l30 c30 k30 fun _ _ _ _ _ _ us hl=>match us,hl with | [_,_],_=>rfl),(aK X G a31 l31 c31 k31 fun _ _ _ _ _ _ us hl=>match us,hl with | [_,_],_=>rfl),(aK X G a32 l32 c32 k32 fun _ _ _ _ _ _ us hl=>match us,hl with | [_,_],_=>rfl),(aK X G a33 l33 c33 k33 fun _ _ _ _ _ _ us hl=>match us,hl with | [_,_],_=>rfl),(aK X G a34 l34 c34 k34 fun _ _ _ _ _ _ us hl=>match us,hl with | [_,_],_=>rfl),(aK X G a35 l35 c35 k35 fun _ _ _ _ _ _ us hl=>match us,hl with | [_,_],_=>rfl),(aK X G a36 l36 c36 k36 fun _ _ _ _ _ _ us hl=>match us,hl with | [_,_],_=>rfl),(aK X G a37 l37 c37 k37 fun _ _ _ _ _ _ us hl=>match us,hl with | [_],_=>rfl),(aK X G a38 l38 c38 k38 fun _ _ _ _ _ _ us hl=>match us,hl with | [_],_=>rfl),(aK X G a39 l39 c39 k39 fun _ _ _ _ _ _ us hl=>match us,hl with | [_],_=>rfl),(aK X G a40 l40 c40 k40 fun _ _ _ _ _ _ us hl=>match us,hl with | [_,_,_],_=>rfl),(aK X G a41 l41 c41 k41 fun _ _ _ _ _ _ us hl=>match us,hl with | [_,_,_],_=>rfl),(aK X G a42 l42 c42 k42 fun _ _ _ _ _ _ us hl=>match us,hl with | [_,_,_],_=>rfl),(aK X G a43 l43 c43 k43 fun _ _ _ _ _ _ us hl=>match us,hl with | [_,_,_],_=>rfl),(aK X G a44 l44 c44 k44 fun _ _ _ _ _ _ us hl=>match us,hl with | [_,_,_],_=>rfl),(aK X G a45 l45 c45 k45 fun _ _ _ _ _ _ us hl=>match us,hl with | [_,_],_=>rfl),(aK X G a46 l46 c46 k46 fun _ _ _ _ _ _ us hl=>match us,hl with | [_,_,_,_],_=>rfl),(aK X G a47 l47 c47 k47 fun _ _ _ _ _ _ us hl=>match us,hl with | [_,_,_,_],_=>rfl),g_ZERO.of X G,g_ONE.of X G⟩
 have FL:=qH (st:=FV 61) l48 c48 k48;exact⟨_,fun s v=>.of_eq rfl,fun base _ _=>zX FL T ⟩
theorem walk{l:OB}{q:Ju}{loose:List Str}{XP:(Str->Option IR)->Heap->Prop}{YP:J_->Heap->Prop}{d:DefRec}{K:PP->LR}(hn:l.most=some 63)(hdf:d.params.defaults=[])
 (hY:∀(w:J_)(h:Heap),YP w h->(K w.params).In h)
 (F:∀(w:J_)(mg:Str->Option IR)(fa:Addr)(h:Heap),(K w.params).In h->h.Ns J4 mg->mg d.name=some (.ref fa) ->
  ∃fd:LF,(∀(s:IW)(u:IR),Pw s fd ⟨[u],[]⟩ [("_law_script", u)])/\∀base:Heap,(K w.params).In base->base.Ns J4 mg->FnOk l.prog w (K w.params) mg base IA 9 fa fd ["_law_script"] (hW (K w.params))) :
 PySem.W.WalkO q loose XP YP l.row.toRowW d [] (fun f vs=>PySem.call f vs) :=
 L2.walk_of (n:=63) (k:=9) (x := "_law_script") (CX:=fun _=>IA) (sp:=fun w=>hW (K w.params)) hn (by decide) hdf ⟨rfl,by decide,by decide,rfl⟩ hY F (fun _ _ a ns hl _ hS=>⟨a,ns,rfl,hS,hl,fun _=>rfl⟩) fun _ _ _ _ _ z=>z
end K68
def PySem.W.Fast.tw799826454693943871:PySem.Params->LR:=K68.heapK
theorem PySem.W.Fast.te799826454693943871:K68.heapK=PySem.W.Fast.tw799826454693943871:=rfl
open PySem PySem.W PyProof.Rows
set_option maxRecDepth 100000 in
set_option maxHeartbeats 0 in
theorem PySem.Challenge.cw_evenpoints_k68_whole_boxes_of_strong_tab_holds : PySem.Challenge.rw_evenpoints_k68_whole_boxes_of_strong_tab.Holds := by
 refine(congrArg OB.Holds K68.rw_eq).mpr ?_
 w_on;o_law
 refine holds_open (loose:=[]) (XP:=XL K68.zview []) (YP:=Hook.says (kHook K68.heapK K68.heapA K68.heapE)) K68.zleft
  (Hook.of _) (Hook.keeps _) (fun s e=>xl_of s (Ja.mp e).1)
  XL.keeps (by rfl) (by rfl) (by rfl) (fun s e=>recFacts_of (Ja.mp e).2) (by rfl)
  (by first|assumption|decide +kernel) (by decide +kernel) ⟨rfl,rfl,rfl,rfl,rfl,by decide +kernel⟩ ?hw ?hc
 (case hw=>w_witness2)
 k_fill
 refine K68.walk (l:=K68.rwN) rfl rfl (fun w h Y=>PySem.W.kIn_of (as:=K68.heapA) (e:=K68.heapE) Y) ?F
 case F =>
  intro w mg fa h KX G hmg
  refine' K68.all_mk KX G hmg ?a1 ?l1 ?c1 ?k1 ?a2 ?l2 ?c2 ?k2 ?a3 ?l3 ?c3 ?k3 ?a4 ?l4 ?c4 ?k4 ?a5 ?l5 ?c5 ?k5 ?a6 ?l6 ?c6 ?k6 ?a7 ?l7 ?c7 ?k7 ?a8 ?l8 ?c8 ?k8 ?a9 ?l9 ?c9 ?k9 ?a10 ?l10 ?c10 ?k10 ?a11 ?l11 ?c11 ?k11 ?a12 ?l12 ?c12 ?k12 ?a13 ?l13 ?c13 ?k13 ?a14 ?l14 ?c14 ?k14 ?a15 ?l15 ?c15 ?k15 ?a16 ?l16 ?c16 ?k16 ?a17 ?l17 ?c17 ?k17 ?a18 ?l18 ?c18 ?k18 ?a19 ?l19 ?c19 ?k19 ?a20 ?l20 ?c20 ?k20 ?a21 ?l21 ?c21 ?k21 ?a22 ?l22 ?c22 ?k22 ?a23 ?l23 ?c23 ?k23 ?a24 ?l24 ?c24 ?k24 ?a25 ?l25 ?c25 ?k25 ?a26 ?l26 ?c26 ?k26 ?a27 ?l27 ?c27 ?k27 ?a28 ?l28 ?c28 ?k28 ?a29 ?l29 ?c29 ?k29 ?a30 ?l30 ?c30 ?k30 ?a31 ?l31 ?c31 ?k31 ?a32 ?l32 ?c32 ?k32 ?a33 ?l33 ?c33 ?k33 ?a34 ?l34 ?c34 ?k34 ?a35 ?l35 ?c35 ?k35 ?a36 ?l36 ?c36 ?k36 ?a37 ?l37 ?c37 ?k37 ?a38 ?l38 ?c38 ?k38 ?a39 ?l39 ?c39 ?k39 ?a40 ?l40 ?c40 ?k40 ?a41 ?l41 ?c41 ?k41 ?a42 ?l42 ?c42 ?k42 ?a43 ?l43 ?c43 ?k43 ?a44 ?l44 ?c44 ?k44 ?a45 ?l45 ?c45 ?k45 ?a46 ?l46 ?c46 ?k46 ?a47 ?l47 ?c47 ?k47 ?a48 ?l48 ?c48 ?k48 ?zint ?zbool ?zstr ?zlist ?ztuple ?zdict ?zisinstance ?zlen ?zabs ?zrepr ?zrange ?zall ?zany ?zsum ?zmin ?zmax ?zsorted ?zzip ?zenumerate ?zreversed ?zdivmod ?zset ?gZERO ?gONE 
  all_goals (try change _=_)
  (case a1=>k_is);(case l1=>k_is);(case c1=>k_is);(case k1=>k_is)
  (case a2=>k_is);(case l2=>k_is);(case c2=>k_is);(case k2=>k_is)
  (case a3=>k_is);(case l3=>k_is);(case c3=>k_is);(case k3=>k_is)
  (case a4=>k_is);(case l4=>k_is);(case c4=>k_is);(case k4=>k_is)
  (case a5=>k_is);(case l5=>k_is);(case c5=>k_is);(case k5=>k_is)
  (case a6=>k_is);(case l6=>k_is);(case c6=>k_is);(case k6=>k_is)
  (case a7=>k_is);(case l7=>k_is);(case c7=>k_is);(case k7=>k_is)
  (case a8=>k_is);(case l8=>k_is);(case c8=>k_is);(case k8=>k_is)
  (case a9=>k_is);(case l9=>k_is);(case c9=>k_is);(case k9=>k_is)
  (case a10=>k_is);(case l10=>k_is);(case c10=>k_is);(case k10=>k_is)
  (case a11=>k_is);(case l11=>k_is);(case c11=>k_is);(case k11=>k_is)
  (case a12=>k_is);(case l12=>k_is);(case c12=>k_is);(case k12=>k_is)
  (case a13=>k_is);(case l13=>k_is);(case c13=>k_is);(case k13=>k_is)
  (case a14=>k_is);(case l14=>k_is);(case c14=>k_is);(case k14=>k_is)
  (case a15=>k_is);(case l15=>k_is);(case c15=>k_is);(case k15=>k_is)
  (case a16=>k_is);(case l16=>k_is);(case c16=>k_is);(case k16=>k_is)
  (case a17=>k_is);(case l17=>k_is);(case c17=>k_is);(case k17=>k_is)
  (case a18=>k_is);(case l18=>k_is);(case c18=>k_is);(case k18=>k_is)
  (case a19=>k_is);(case l19=>k_is);(case c19=>k_is);(case k19=>k_is)
  (case a20=>k_is);(case l20=>k_is);(case c20=>k_is);(case k20=>k_is)
  (case a21=>k_is);(case l21=>k_is);(case c21=>k_is);(case k21=>k_is)
  (case a22=>k_is);(case l22=>k_is);(case c22=>k_is);(case k22=>k_is)
  (case a23=>k_is);(case l23=>k_is);(case c23=>k_is);(case k23=>k_is)
  (case a24=>k_is);(case l24=>k_is);(case c24=>k_is);(case k24=>k_is)
  (case a25=>k_is);(case l25=>k_is);(case c25=>k_is);(case k25=>k_is)
  (case a26=>k_is);(case l26=>k_is);(case c26=>k_is);(case k26=>k_is)
  (case a27=>k_is);(case l27=>k_is);(case c27=>k_is);(case k27=>k_is)
  (case a28=>k_is);(case l28=>k_is);(case c28=>k_is);(case k28=>k_is)
  (case a29=>k_is);(case l29=>k_is);(case c29=>k_is);(case k29=>k_is)
  (case a30=>k_is);(case l30=>k_is);(case c30=>k_is);(case k30=>k_is)
  (case a31=>k_is);(case l31=>k_is);(case c31=>k_is);(case k31=>k_is)
  (case a32=>k_is);(case l32=>k_is);(case c32=>k_is);(case k32=>k_is)
  (case a33=>k_is);(case l33=>k_is);(case c33=>k_is);(case k33=>k_is)
  (case a34=>k_is);(case l34=>k_is);(case c34=>k_is);(case k34=>k_is)
  (case a35=>k_is);(case l35=>k_is);(case c35=>k_is);(case k35=>k_is)
  (case a36=>k_is);(case l36=>k_is);(case c36=>k_is);(case k36=>k_is)
  (case a37=>k_is);(case l37=>k_is);(case c37=>k_is);(case k37=>k_is)
  (case a38=>k_is);(case l38=>k_is);(case c38=>k_is);(case k38=>k_is)
  (case a39=>k_is);(case l39=>k_is);(case c39=>k_is);(case k39=>k_is)
  (case a40=>k_is);(case l40=>k_is);(case c40=>k_is);(case k40=>k_is)
  (case a41=>k_is);(case l41=>k_is);(case c41=>k_is);(case k41=>k_is)
  (case a42=>k_is);(case l42=>k_is);(case c42=>k_is);(case k42=>k_is)
  (case a43=>k_is);(case l43=>k_is);(case c43=>k_is);(case k43=>k_is)
  (case a44=>k_is);(case l44=>k_is);(case c44=>k_is);(case k44=>k_is)
  (case a45=>k_is);(case l45=>k_is);(case c45=>k_is);(case k45=>k_is)
  (case a46=>k_is);(case l46=>k_is);(case c46=>k_is);(case k46=>k_is)
  (case a47=>k_is);(case l47=>k_is);(case c47=>k_is);(case k47=>k_is)
  (case a48=>k_is);(case l48=>k_is);(case c48=>k_is);(case k48=>k_is)
  (case zint=>k_is)
  (case zbool=>k_is)
  (case zstr=>k_is)
  (case zlist=>k_is)
  (case ztuple=>k_is)
  (case zdict=>k_is)
  (case zisinstance=>k_is)
  (case zlen=>k_is)
  (case zabs=>k_is)
  (case zrepr=>k_is)
  (case zrange=>k_is)
  (case zall=>k_is)
  (case zany=>k_is)
  (case zsum=>k_is)
  (case zmin=>k_is)
  (case zmax=>k_is)
  (case zsorted=>k_is)
  (case zzip=>k_is)
  (case zenumerate=>k_is)
  (case zreversed=>k_is)
  (case zdivmod=>k_is)
  (case zset=>k_is)
  (case gZERO=>refine' L2.VL.GlK.pair ?h1 ?h2;(case h1=>k_is);(case h2=>k_is))
  (case gONE=>refine' L2.VL.GlK.pair ?h1 ?h2;(case h1=>k_is);(case h2=>k_is))
