import PyProof.Rows.All
import Wide.All
import OpenK.AllK
import Wide.FinOn
import Lean
import PyProof.EqAt
import PyProof.EqKinds
import PyProof.TupleCall
import KE.KDictSum
import KE.KMinKey
import PyProof.Rows.CallKwBuiltin
import PyProof.SumWalkG
import PyProof.WalksMore
import PyProof.AutoSeq1
import PyProof.Rows.Range3
import PySem.Challenge.RW_evenpoints_k65_strength_by_boxes
set_option Elab.async false
set_option linter.all false
set_option maxRecDepth 100000
set_option maxHeartbeats 4000000
open And renaming intro->IS
open Array renaming length_toList->NG, getElem?_eq_getElem->Ol, getElem?_eq_none->O2, getElem?_toList->O8, mk->Qm
open Bool renaming and_eq_true_iff->Je, or_eq_true_iff->Jx, false_ne_true->J5, eq_iff_iff->Lz, false_eq_true->LM, and_eq_true->Nu, noConfusion->Nw
open Classical renaming choose_spec->IU, choose->Jw, propDecidable->J_, byContradiction->LZ
open False renaming elim->JR
open ForInStep renaming yield->Mr
open Iff renaming rfl->M3
open Int renaming toNat_natCast->JJ, eq_ofNat_of_zero_le->JN, fdiv_eq_ediv_of_nonneg->KF, toNat_of_nonneg->KG, mul_le_mul_of_nonneg_left->KL, pow_pos->KY, natCast_pow->K_, gcd->Ls, pow_succ->Lw, emod_eq_of_lt->Ly, add_mul_emod_self_left->LH, mul_zero->LP, mul_nonneg->LY, zero_add->L4, mul_le_mul_of_nonneg_right->L5, add_mul_ediv_right->Mi, ediv_eq_zero_of_lt->Mj, fmod_nonneg_of_pos->Ml, mul_lt_mul_of_pos_right->Mu, fmod_eq_emod_of_nonneg->MA, toNat->MX, emod_lt_of_pos->M4, fmod_lt_of_pos->M9, natAbs_dvd_natAbs->Nr, emod_add_mul_ediv->Nt, mul_one->NK, natCast_mul->NP, le_refl->NQ, emod_nonneg->NV, gcd_comm->N9, le_of_lt->Ob, natAbs_natCast->Od, mul_comm->Oe, dvd_mul_right->OB, pow_add->ON, pow_zero->Pi, ediv_nonneg->Pj, sub_zero->Pl, add_comm->Pn, natAbs_of_nonneg->Py, pow_nonneg->PF, natAbs_pow->PJ, zero_mul->Qh, mul_neg->Qx
open List renaming mem_cons_of_mem->IT, mem_cons_self->IV, length_map->I_, getElem?_eq_getElem->Jd, getD_eq_getElem?_getD->Jf, map_cons->Ji, getElem?_set_ne->Jj, size_toArray->Jl, range->Jm, getElem?_eq_some_iff->Jn, getElem?_set_self->Jo, replicate->Jp, mem_append_right->Jq, mem_map->Jv, mem_cons->JA, length_take->JB, length_cons->JG, length_append->JH, getElem_mem->JP, take_of_length_le->JQ, map_append->JW, getElem?_map->JY, mem_append->J3, map_congr_left->J7, find?_cons->Ka, getElem?_set->Kb, sum_cons->Kc, mem_range->Kd, map_map->Kf, nodup_iff_pairwise_ne->Kg, drop_eq_getElem_cons->Kj, append_nil->Kl, replicate_succ->Km, lookup_cons->Kq, length_range->KA, nodup_cons->KI, length_drop->KJ, Nodup->KN, take_succ_eq_append_getElem->KQ, flatMap_cons->KW, getElem_map->K3, of_mem_zip->K8, mem_singleton->La, mem_of_mem_take->Lb, drop_of_length_le->Ld, length_erase_of_mem->Ln, all_eq_true->Lo, drop_length->Lp, flatten_cons->Lx, foldl_cons->LA, mem_map_of_mem->LB, length_flatMap->LC, getElem_range->LN, zip_cons_cons->LQ, take_append_drop->LR, getElem?_append_left->LU, filterMap_cons->L7, getElem_of_mem->Md, mem_flatMap->Mg, flatMap_def->Mh, sum_replicate_nat->Mk, mem_filter->Mn, any_cons->Mw, getElem?_append_right->Mx, mem_erase_of_ne->MC, mem_of_mem_drop->MD, mem_reverse->MG, length_reverse->MI, foldl->ML, filterMap_cons_none->MN, filterMap_cons_some->MO, getElem?_replicate->MR, length_nil->MT, forIn_cons->MV, range_succ->M6, length_eq_zero_iff->M7, findIdx?_eq_some_iff_getElem->M8, map_take->M_, filter_eq_nil_iff->Nd, length->Nh, pairwise_map->Nl, getElem?_eq_none->Nq, filter_cons->Nv, cons_append->Nx, ext_getElem->Ny, map_flatMap->Nz, mem_of_getElem?->NA, countP_eq_length_filter->ND, length_zip->NW, map_const'->NX, flatMap_append->NY, length_zipIdx->Of, drop_zero->Og, mem_of_find?_eq_some->Oj, mem_or_eq_of_mem_set->On, getElem?_take_of_lt->Os, reverse_cons->Ou, append_assoc->Ov, getElem_zip->OS, flatMap_nil->OT, filterMap_eq_map'->O0, length_pos_of_mem->O1, length_singleton->O7, map_nil->O9, nil_append->Pg, sum_append->Pk, mem_append_left->Pu, reverse_reverse->Pz, Pairwise->QI
open List.Pairwise renaming nil->Ow, imp_of_mem->OD
open List.cons renaming injEq->Ku
open Nat renaming le_refl->Jb, lt_of_lt_of_le->Jh, pow_le_pow_right->Jz, le_trans->JF, ne_of_lt->JS, zero_le->J1, lt_irrefl->Ki, le_of_succ_le->KU, lt_of_le_of_lt->LL, min_eq_right->Mf, ne_of_gt->Mq, min_eq_left->Mt, pow_lt_pow_right->MB, le_add_right->MF, mul_le_mul_left->NO, div_lt_self->NR, strongRecOn->NS, mul_comm->N_, sub_zero->Oa, pow_succ->Oc, le_mul_of_pos_right->OJ, lt_trans->O_, mul_le_mul_right->Px, Coprime->PR, pow_le_pow_left->PX, le_of_lt->Qa, succ_mul->Qg, pow_pos->QD
open Ne renaming symm->Nf
open Option renaming isSome_iff_exists->KP, map_eq_some_iff->Na, isSome_some->N8, some->QK
open Option.some renaming inj->JK
open Or renaming inr->J8, inl->KH
open PyProof.Rows renaming slot_tuple_getitem->Kk, callWith_type1->KR, tupleItemsOf_->NC, envOfC->NL, assignInOrder_cons->N3, subscriptTail_builtinR->OX, AllBare->PK, IntsAre->PP, subscriptTail->P3, IsTup->P6
open PySem renaming PyData->IQ, wpAny_bind->IR, wpAny_pure->IZ, Value->I0, Shared->Ja, starEach->Jc, wpAny->Jr, sizeLine_eq->Js, Program->Ju, model->JE, foldedSetIterable->JI, wpAny_mono->JO, wpAny_callSpecial?_slot->JV, wpAny_newObj_type->JX, mem_of_lookup->J6, mainGlobals->Ke, World->Kh, Around->Ko, Paired->Kr, wpAny_field->Kv, cellsFrom->Kw, wpAny_call_entry->Kx, backTo->KB, wpAny_setField_rec->KE, assignEach->KO, swapsWith->K4, wpAny_standAt->K7, sysModules->Lg, behindInMarks->Lh, attributeBase->Li, letOwnedTupleGo->Ll, wpAny_comprehension_free->Lm, wpAny_typeNameOfWhole_valiter->Lq, wpAny_holding->Lr, FuncData->LD, codeAny->LF, Keyword->LG, compareOp->LJ, keywordEach->LW, wpAny_seqItems->LX, assign->L0, wpAny_passesOwn->L1, wpAny_typeNameOf_valiter->L3, swapsWithSole->L8, swappedStores->L9, binaryOp->Ma, noFill_tuple_add->Me, bootBuiltins->Mp, wpAny_isOneOf_valiter->Mv, wpAny_rule->MK, NameKind->MQ, seq_tuple_add->MS, tupleKind_room_in1->MU, wpAny_attempt->MZ, wpAny_truthy_bool->Ng, sliceBounds->Ni, call_meets->Nj, wpAny_dictEntries->Nm, backToKw->Nn, newFunctionEnv->No, wpAny_updateSeq_pair->NB, holding->NF, wpAny_execs_nil->NH, pyNext->NJ, theTreesLotGoes->NM, pushCells_keeps->NN, IsPair->NT, cLine->N1, wpAny_pyIter_tuple->N4, codeAny_mono->N6, wpAny_Call_Name_kw->N7, wpAny_setField->Oh, firstArgMember->Oi, wpAny_fieldsOf->Om, tupleKind->Oo, wpAny_assign_Name->Op, rawInt->Oq, wpAny_sequenceKey->Ot, pushCells->Oz, wpAny_pyIter_slot->OC, standAt->OG, getItem->OH, wpAny_of_eq->OI, wpAny_onRaise->OK, wpAny_letGo->OL, wpAny_isInstance->OQ, wpAny_pyNext_range_end->OU, wpAny_pyIter_rangeiter->OV, again->OW, codeAny_compStart_list->OZ, importedModules->O3, DictEntry->O4, wpAny_isTrue_Compare1->O5, wpAny_typeOf->O6, codeAny_loop->Pa, exec_Assign_Name_used->Pb, wpAny_dictEpoch->Pq, wpAny_loadName_local->Pv, intBits_le_iff->PD, isSubtype_stop->PH, wpAny_loadName_cell->PL, IsRangeIter->PM, subscripted->PN, wpAny_noted->PQ, assignInOrder->P0, PassesOwn->P1, IsPart->P2, compTurn->P4, noteFrame->P5, typeLookup->P7, valueAt->P8, callerA->P9, IsZip->P_, pyIter->Qb, name_of_addr->Qc, concat_meets->Qe, seqIndex_neg->Qf, call_meetsIn->Qi, CmpOp->Ql, Operator->Qo, compPost->Qp, inplaceOp->Qr, sizeLine_eq->Qs, Result->Qt, BindsTo->Qu, seqIndex?->Qv, seqIndex_of->Qw, field->Qy, wpAny_mkInt->QB, IsEnum->QC, Params->QE, setItem->QG, relabel->QH, atKey->QJ
open PySem.AutoSeq1 renaming wpAny_loadPart'->MP
open PySem.Builtin.Dict renaming showsAll->Pp
open PySem.Builtin.Dict_items renaming ownsTuple->Mm
open PySem.Builtin.List renaming listTooLong->MM
open PySem.Builtin.Range renaming rangeSize->L_, small->PU
open PySem.Builtin.Slice renaming slicePlaces->LV, sliceAdjust->ME, sliceApplied->N2
open PySem.Builtin.SmallTypes renaming nextOf->J9, ownedTupleIsFree->Kn, ownedTupleHandOut->K1
open PySem.Builtin.Tuple renaming tupleExact->K6, tupleItemsOf->My, tupleIsExact->Mz
open PySem.Calls renaming callWith_builtin->Nb, Name_function_global->N0, spliced_cons->N5, evalArgs_plain->Pw
open PySem.F renaming args_tuple_add_2->K5, entry_tuple_add->K9, slot_tuple_add->Lc, plainAttrs_list->Mc, slot_list_append->Ox, type_list_append->Oy, slot_dict_values->OE, plainAttrs_dict->OO, slot_list_index->OP, slot_dict_get->Po
open PySem.Heap renaming get?_push_of_some->IW, lt_size->Jg, get?_push_size->Jk, size_push->KC, SameBut->Lu, get?_update_self->Np, get?_update_other->OY, ExtBut->Qz
open PySem.Heap.SameBut renaming update->MH, refl->Nk
open PySem.NameKind renaming free->Ks, cell->Lj
open PySem.Obj renaming data_mapFields->MY, isFreed_of_fields->Ph, mapSeq->Pt
open PySem.Paired renaming length->JU
open PySem.PassesOwn renaming never->JL
open PySem.PyData renaming int->Jt, tuple->JM, canLayAll0->JZ, depthAll->J4, depth->Kt, eqv->Ky, bool->Kz, canLay0->KM, bulkAll->Lk, bulk->Ms, list->MJ, leavesShort->MW, showable->Pe, leavesShortAll->Pf
open PySem.PyData.int renaming injEq->OR
open PySem.PyData.list renaming injEq->OA
open PySem.PyData.tuple renaming injEq->LO
open PySem.SeqAt renaming shaped->JT, canLay_of_shaped->Nc
open PySem.Shared renaming heap->QA
open PySem.Value renaming ref->K0, none->LI, int->PZ, str->Qq
open PySem.W renaming mg_none_of->Jy, codeIn->JC, keepIn->JD, boot_heap->KZ, Frag->L6, OpenLaw->Pr, boot_drawn->Ps, boot_toks->PY, nsIn->Qj, fnOf->Qk, OpenLaw->QF
open Rat renaming intCast_mul->NU, normalize->OM
open Sum renaming inl->J0, inr->LS
open Sum.inl renaming inj->OF
open True renaming intro->NE
open PySem PySem.Spec PyProof.Rows
variable{α β:Type}{N m t' j n:Nat}{xs xs':List IQ}{a it:Addr}{b c:Int}{P:Ju}{h base h':Heap}{o:Obj}{A:Ko}{E Q:I0->Ja->Prop}{u:I0}{e tg iter:Expr}{s:Ja}{pos pos' px cpos:Pos}{pins:List (Addr×Obj)}{op:Ql}{fp:List Addr}{f:I0->I0->Sem I0}{fd:LD}{scope:Scope}{ds x ys g g' ks:List Int}{d:IQ}{ifs:List Expr}{tn:Nat->Heap->Prop}{Rp:Addr->Qt->Ja->Prop}{q:Rat}{T ps D:List (List Int)}{ts:List (List (List Int))}
namespace L2
open PySem
def defArgs(s:Stmt):Arguments:=match s with
 | .FunctionDef _ a _ _ _ _ _ _ _ _=>a
 | _=>{posonlyargs:=[],args:=[],vararg:=none,kwonlyargs:=[],kw_defaults:=[],kwarg:=none,defaults:=[]}
def defBody(s:Stmt):List Stmt:=match s with
 | .FunctionDef _ _ b _ _ _ _ _ _ _=>b
 | _=>[]
def defScope(s:Stmt):Scope:=match s with
 | .FunctionDef _ _ _ _ _ _ sc _ _ _=>sc
 | _=>{kind:=.function,names:=[],isGenerator:=false,isCoroutine:=false}
end L2
namespace L2.TT
open PySem PySem.W
def GX(tb:String->Option Builtin)(p:Ju)(w:Kh)(m:Nat)(ann:Option I0):Nat->SharedT->Thread->Option SharedT
 | 0,_,_=>none
 | n+1,s,t=>match through t with
   | true=>some s
   | false=>match stepOk m ann t with
     | false=>none
     | true=>match stepT (denote tb) p w s t with
       | some r=>GX tb p w m ann n r.1 r.2
       | none=>none
theorem t9{tb:String->Option Builtin}{p:Ju}{w:Kh}{m:Nat}{ann:Option I0}:∀{n:Nat}{s s':SharedT}{t:Thread},GX tb p w m ann n s t=some s'->topRun tb p w m ann n s.abs t=some s'.abs
 | 0,_,_,_,h=>by cases h
 | n+1,s,s',t,h=>by
   unfold GX at h;unfold topRun
   cases he:through t with
   | true=>rw[he]at h;cases h;rfl
   | false =>
     rw[he]at h
     cases hk:stepOk m ann t with
     | false=>rw[hk]at h;cases h
     | true =>
       rw[hk]at h
       cases hs:stepT (denote tb) p w s t with
       | none=>rw[hs]at h;cases h
       | some r=>rw[hs]at h;rw[stepT_spec hs];exact t9 h
def bt(os:List Obj):Nat->Nat->Nat->BT
 | 0,_,_=>.nil
 | f+1,a,b=>match os[b]? with
   | some o=>.node o (bt os f (2*a) (a+b)) (bt os f (2*a) (2*a+b))
   | none=>.nil
theorem boot_abs(P:QE):absHeap (bt (KZ P).objs.toList 12 1 0) (KZ P).objs.size (KZ P).life=KZ P:=by kernel_rfl
abbrev zG(p q:Ju)(loose:List Str)(Xt:Ja->Bool){α:Type}(Yf:Ja->α)(h₀:Heap)(s:Ja) :=
 (staticsOk (O3 p.main.body) h₀ s.heap&&namesBound p s.heap&&gensDone s&&laidKept h₀ s.heap,openSeen q loose (O3 p.main.body) Xt true s,Yf s)
theorem left_of{p q:Ju}{loose:List Str}{Xt:Ja->Bool}{Yf:Ja->α}{Ya:Kh->α}{M:Nat}{ann:Option I0}
 (e:opening p=plainProg p.main.scope.names)(hN:Nat.ble 600 N=true)(f:∀s,fenceModules? p s=some s)(le:Nat.ble M N=true)
 (size:∀w:Kh,((KZ w.params).isNs Ke,(KZ w.params).objs.size,(KZ w.params).nsMap Ke "__annotations__")=(true,m,ann))
 (run:∀(w:Kh)(os:OsState),(GX treeTable p w m ann M ⟨bt (KZ w.params).objs.toList 12 1 0,(KZ w.params).objs.size,(KZ w.params).life,Qm [],Ps,PY,os⟩ (topStub p)).map (fun s=>zG p q loose Xt Yf (KZ w.params) s.abs)=some (true,openGood q loose,Ya w)) :
 LeftO p q loose Xt Yf Ya N:=fun w=>by
 obtain⟨⟨h,gs,d,k,os⟩,eo,e'⟩:=Na.mp (boot_open e hN f w);obtain⟨rfl,rfl,rfl,rfl⟩:h=KZ w.params/\gs=Qm []/\d=Ps/\k=PY:=by simpa using e'
 obtain⟨z1,z2,z3⟩:_/\_/\_:=by simpa only[Prod.mk.injEq]using size w
 obtain⟨s',r,l⟩:=Na.mp (run w os);obtain⟨l1,l2,l3⟩:_/\_/\_:=by simpa only[zG,Prod.mk.injEq]using l
 have r:=t9 r
 have hb:SharedT.abs ⟨bt (KZ w.params).objs.toList 12 1 0,(KZ w.params).objs.size,(KZ w.params).life,Qm [],Ps,PY,os⟩=⟨KZ w.params,Qm [],Ps,PY,os⟩:=by
  show Ja.mk (absHeap _ _ _) _ _ _ _=_;rw[boot_abs]
 rw[hb]at r;have r:=topRun_mono (N-M) _ _ _ _ r;rw[show M+(N-M)=N by have:=Nat.le_of_ble_eq_true le;omega]at r
 have t:topFrom treeTable p w N ⟨KZ w.params,Qm [],Ps,PY,os⟩=some s'.abs:=by
  unfold topFrom;dsimp only;rw[z1,z2,z3,r];show(match staticsOk (O3 p.main.body) (KZ w.params) s'.abs.heap&&namesBound p s'.abs.heap&&gensDone s'.abs&&laidKept (KZ w.params) s'.abs.heap with|true=>_|false=>_)=_;rw[l1]
 unfold openEnds;rw[eo];show(topFrom treeTable p w N _).map _=_;rw[t];exact congrArg some (Prod.ext l2 l3)
end L2.TT
namespace K65
open PySem
def top(i:Nat):Stmt:=PySem.Challenge.pw_evenpoints_k65_strength_by_boxes.main.body.getD i (.Pass ⟨0,0,0,0⟩)
end K65
def PySem.W.Fast.tw2045973776089008153:PySem.Program:=PySem.Challenge.pw_evenpoints_k65_strength_by_boxes
theorem PySem.W.Fast.te2045973776089008153:PySem.Challenge.pw_evenpoints_k65_strength_by_boxes=PySem.W.Fast.tw2045973776089008153:=rfl
namespace K65
open PySem PySem.W L2
def EX:Stmt:=top 0
def EW:Stmt:=top 1
def EV:Stmt:=top 2
def EU:Stmt:=top 3
def ET:Stmt:=top 4
def ER:Stmt:=top 5
def EQ:Stmt:=top 6
def EO:Stmt:=top 7
def EN:Stmt:=top 8
def EM:Stmt:=top 9
def D2:Stmt:=top 10
def Du:Stmt:=top 11
def Dt:Stmt:=top 12
def D1:Stmt:=top 13
def Ds:Stmt:=top 14
def D0:Stmt:=top 15
def Dr:Stmt:=top 16
def DZ:Stmt:=top 17
def Dq:Stmt:=top 18
def Dp:Stmt:=top 19
def Do:Stmt:=top 20
def Dn:Stmt:=top 21
def Dm:Stmt:=top 22
def Dk:Stmt:=top 23
def Dj:Stmt:=top 24
def Di:Stmt:=top 25
def Dh:Stmt:=top 26
def Dg:Stmt:=top 27
def Df:Stmt:=top 28
def De:Stmt:=top 29
def Dc:Stmt:=top 30
def Db:Stmt:=top 31
def Da:Stmt:=top 32
def Gi:Ju:={PySem.Challenge.pw_evenpoints_k65_strength_by_boxes with main:={PySem.Challenge.pw_evenpoints_k65_strength_by_boxes.main with body:=[EX,EW,EV,EU,ET,ER,EQ,EO,EN,EM,D2,Du,Dt,D1,Ds,D0,Dr,DZ,Dq,Dp,Do,Dn,Dm,Dk,Dj,Di,Dh,Dg,Df,De,Dc,Db,Da]}}
def rwN:QF:={PySem.Challenge.rw_evenpoints_k65_strength_by_boxes with prog:=Gi}
def zview:Ju:={PySem.Challenge.pw_evenpoints_k65_strength_by_boxes with main:={PySem.Challenge.pw_evenpoints_k65_strength_by_boxes.main with body:=[EW,EU,ET,ER,EQ,EO,EN,EM,Du,Dt,Ds,Dr,Dq,Dp,Do,Dn,Dm,Dk,Dj,Di,Dh,Dg,Df,De,Dc,Db,Da]}}
theorem rw_eq:PySem.Challenge.rw_evenpoints_k65_strength_by_boxes=rwN:=rfl
def E7(P:QE)(x:Str)(t:Nat)(v:I0):O4:=⟨IQ.keyHash P x,.str x t,v⟩
def E6(n q:Str)(s:Stmt)(pm cd:I0):Obj:=⟨.type "function", none,.func (fnOf n q (defArgs s) (defBody s) (defScope s) .none .none .none pm none cd .none),#[]⟩
def E9(n q:Str)(a b c:Nat)(l x y:Int)(r:Nat)(z:Int)(r2:Nat)(v1 v2 v3:I0)(r3:Nat)(u:Int)(c2:Nat):Obj:=⟨.type "code", none,.fields #[.str n a,.str q b,.str "/claim/cut.py" c,.int l 0,.int x 0,.int 0 0,.int 0 0,.int y 0,.ref r,.bool true,.int z 0,.ref r2,v1,v2,v3,.ref r3,.int u 0,.int l 0,.str "/claim/cut.py" c2],#[]⟩
def E4:I0:=.str "evenpoints.rows" 187
def E3:I0:=.str "evenpoints.tables" 202
def E2:I0:=.str "evenpoints.nets" 251
def E1:I0:=.str "evenpoints.netpapers" 270
def EZ:I0:=.str "evenpoints.strength" 285
def EY:I0:=.str "law_evenpoints_k65_strength_by_boxes" 296
abbrev E5(n:Str):=E6 n n
abbrev E8(n:Str):=E9 n n
def heapK(P:QE):Frag :=
 (nat_lit 2,(.mk .none none (.dict #[] 0) #[])) ::
 (nat_lit 3,(.mk (.type "dict") none (.dict #[E7 P "__name__" 165 (.str "law_evenpoints_k65_strength_by_boxes" 296),E7 P "__doc__" 166 .none,E7 P "__package__" 167 .none,E7 P "__loader__" 168 (.builtin "__main__.__loader__#opaque"),E7 P "__spec__" 169 .none,E7 P "__annotations__" 170 (.ref 6),E7 P "__builtins__" 171 (.ref 4),E7 P "__file__" 173 (.str "/claim/cut.py" 172),E7 P "__cached__" 174 .none,E7 P "inverse_of" 201 (.ref 21),E7 P "unit_figures" 209 (.ref 26),E7 P "first_filled" 218 (.ref 33),E7 P "scaled" 224 (.ref 38),E7 P "cleared" 230 (.ref 43),E7 P "reduced" 236 (.ref 48),E7 P "right_inverse" 242 (.ref 53),E7 P "combination" 250 (.ref 60),E7 P "shapes_of" 258 (.ref 65),E7 P "rows_of" 269 (.ref 72),E7 P "net_paper" 284 (.ref 79),E7 P "strength" 295 (.ref 86),E7 P "_law_tape" 306 (.ref 93),E7 P "_law_pick" 317 (.ref 100),E7 P "_law_size" 325 (.ref 107),E7 P "_law_power" 335 (.ref 114),E7 P "_law_any" 350 (.ref 121),E7 P "_law_sum_table" 356 (.ref 126),E7 P "_law_mirror" 362 (.ref 131),E7 P "_law_tables" 368 (.ref 136),E7 P "_law_sum" 380 (.ref 143),E7 P "_law_applied" 386 (.ref 148),E7 P "_law_figures_of" 397 (.ref 155),E7 P "_law_points" 414 (.ref 162),E7 P "_law_shapes" 420 (.ref 167),E7 P "_law_as_many" 426 (.ref 172),E7 P "law" 432 (.ref 177)] 36) #[])) ::
 (nat_lit 6,(.mk (.type "dict") none (.dict #[] 0) #[])) ::
 (nat_lit 20,E8 "inverse_of" 189 190 191 2 2 3 15 181 16 .none (.ref 17) (.ref 18) 19 199 200) ::
 (nat_lit 21,E5 "inverse_of" (top 1) E4 (.ref 20)) ::
 (nat_lit 25,E8 "unit_figures" 204 205 206 11 2 3 22 181 23 .none .none .none 24 207 208) ::
 (nat_lit 26,E5 "unit_figures" (top 3) E3 (.ref 25)) ::
 (nat_lit 32,E8 "first_filled" 210 211 212 13 1 3 27 181 28 .none (.ref 29) (.ref 30) 31 216 217) ::
 (nat_lit 33,E5 "first_filled" (top 4) E3 (.ref 32)) ::
 (nat_lit 37,E8 "scaled" 219 220 221 18 3 3 34 181 35 .none .none .none 36 222 223) ::
 (nat_lit 38,E5 "scaled" (top 5) E3 (.ref 37)) ::
 (nat_lit 42,E8 "cleared" 225 226 227 20 4 3 39 181 40 .none .none .none 41 228 229) ::
 (nat_lit 43,E5 "cleared" (top 6) E3 (.ref 42)) ::
 (nat_lit 47,E8 "reduced" 231 232 233 23 2 3 44 181 45 .none .none .none 46 234 235) ::
 (nat_lit 48,E5 "reduced" (top 7) E3 (.ref 47)) ::
 (nat_lit 52,E8 "right_inverse" 237 238 239 37 2 3 49 181 50 .none .none .none 51 240 241) ::
 (nat_lit 53,E5 "right_inverse" (top 8) E3 (.ref 52)) ::
 (nat_lit 59,E8 "combination" 243 244 245 44 2 3 54 181 55 .none (.ref 56) (.ref 57) 58 248 249) ::
 (nat_lit 60,E5 "combination" (top 9) E3 (.ref 59)) ::
 (nat_lit 64,E8 "shapes_of" 253 254 255 47 2 3 61 181 62 .none .none .none 63 256 257) ::
 (nat_lit 65,E5 "shapes_of" (top 11) E2 (.ref 64)) ::
 (nat_lit 71,E8 "rows_of" 259 260 261 51 2 3 66 181 67 .none (.ref 68) (.ref 69) 70 267 268) ::
 (nat_lit 72,E5 "rows_of" (top 12) E2 (.ref 71)) ::
 (nat_lit 78,E8 "net_paper" 272 273 274 57 3 3 73 181 74 .none (.ref 75) (.ref 76) 77 282 283) ::
 (nat_lit 79,E5 "net_paper" (top 14) E1 (.ref 78)) ::
 (nat_lit 85,E8 "strength" 287 288 289 67 2 3 80 181 81 .none (.ref 82) (.ref 83) 84 293 294) ::
 (nat_lit 86,E5 "strength" (top 16) EZ (.ref 85)) ::
 (nat_lit 92,E8 "_law_tape" 298 299 300 73 2 3 87 181 88 .none (.ref 89) (.ref 90) 91 304 305) ::
 (nat_lit 93,E5 "_law_tape" (top 18) EY (.ref 92)) ::
 (nat_lit 99,E8 "_law_pick" 307 308 309 78 2 3 94 181 95 .none (.ref 96) (.ref 97) 98 315 316) ::
 (nat_lit 100,E5 "_law_pick" (top 19) EY (.ref 99)) ::
 (nat_lit 106,E8 "_law_size" 318 319 320 88 1 3 101 181 102 .none (.ref 103) (.ref 104) 105 323 324) ::
 (nat_lit 107,E5 "_law_size" (top 20) EY (.ref 106)) ::
 (nat_lit 113,E8 "_law_power" 326 327 328 91 2 3 108 181 109 .none (.ref 110) (.ref 111) 112 333 334) ::
 (nat_lit 114,E5 "_law_power" (top 21) EY (.ref 113)) ::
 (nat_lit 120,E8 "_law_any" 336 337 338 96 4 3 115 181 116 .none (.ref 117) (.ref 118) 119 348 349) ::
 (nat_lit 121,E5 "_law_any" (top 22) EY (.ref 120)) ::
 (nat_lit 125,E8 "_law_sum_table" 351 352 353 105 3 3 122 181 123 .none .none .none 124 354 355) ::
 (nat_lit 126,E5 "_law_sum_table" (top 23) EY (.ref 125)) ::
 (nat_lit 130,E8 "_law_mirror" 357 358 359 114 1 3 127 181 128 .none .none .none 129 360 361) ::
 (nat_lit 131,E5 "_law_mirror" (top 24) EY (.ref 130)) ::
 (nat_lit 135,E8 "_law_tables" 363 364 365 116 3 3 132 181 133 .none .none .none 134 366 367) ::
 (nat_lit 136,E5 "_law_tables" (top 25) EY (.ref 135)) ::
 (nat_lit 142,E8 "_law_sum" 369 370 371 133 3 3 137 181 138 .none (.ref 139) (.ref 140) 141 378 379) ::
 (nat_lit 143,E5 "_law_sum" (top 26) EY (.ref 142)) ::
 (nat_lit 147,E8 "_law_applied" 381 382 383 138 3 3 144 181 145 .none .none .none 146 384 385) ::
 (nat_lit 148,E5 "_law_applied" (top 27) EY (.ref 147)) ::
 (nat_lit 154,E8 "_law_figures_of" 387 388 389 140 3 3 149 181 150 .none (.ref 151) (.ref 152) 153 395 396) ::
 (nat_lit 155,E5 "_law_figures_of" (top 28) EY (.ref 154)) ::
 (nat_lit 161,E8 "_law_points" 398 399 400 146 3 3 156 181 157 .none (.ref 158) (.ref 159) 160 412 413) ::
 (nat_lit 162,E5 "_law_points" (top 29) EY (.ref 161)) ::
 (nat_lit 166,E8 "_law_shapes" 415 416 417 159 2 3 163 181 164 .none .none .none 165 418 419) ::
 (nat_lit 167,E5 "_law_shapes" (top 30) EY (.ref 166)) ::
 (nat_lit 171,E8 "_law_as_many" 421 422 423 167 5 3 168 181 169 .none .none .none 170 424 425) ::
 (nat_lit 172,E5 "_law_as_many" (top 31) EY (.ref 171)) ::
 (nat_lit 176,E8 "law" 427 428 429 175 1 3 173 181 174 .none .none .none 175 430 431) ::
 (nat_lit 177,E5 "law" (top 32) EY (.ref 176))::[]
def heapA:List Addr:=nat_lit 2::nat_lit 3::nat_lit 6::nat_lit 20::nat_lit 21::nat_lit 25::nat_lit 26::nat_lit 32::nat_lit 33::nat_lit 37::nat_lit 38::nat_lit 42::nat_lit 43::nat_lit 47::nat_lit 48::nat_lit 52::nat_lit 53::nat_lit 59::nat_lit 60::nat_lit 64::nat_lit 65::nat_lit 71::nat_lit 72::nat_lit 78::nat_lit 79::nat_lit 85::nat_lit 86::nat_lit 92::nat_lit 93::nat_lit 99::nat_lit 100::nat_lit 106::nat_lit 107::nat_lit 113::nat_lit 114::nat_lit 120::nat_lit 121::nat_lit 125::nat_lit 126::nat_lit 130::nat_lit 131::nat_lit 135::nat_lit 136::nat_lit 142::nat_lit 143::nat_lit 147::nat_lit 148::nat_lit 154::nat_lit 155::nat_lit 161::nat_lit 162::nat_lit 166::nat_lit 167::nat_lit 171::nat_lit 172::nat_lit 176::nat_lit 177::[]
theorem heapE:∀P,heapA=(heapK P).map (·.1):=fun _=>rfl
theorem A6:∀w:Kh,((KZ w.params).isNs Ke,(KZ w.params).objs.size,(KZ w.params).nsMap Ke "__annotations__")=(true,11,some (.ref 6)):=fun w=>by kernel_rfl
set_option maxHeartbeats 0 in
theorem zleft:LeftO Gi zview [] (fun s=>xlAt zview [] s&&recOk (RowW.records rwN.row.toRowW) s) (Hook.obs (kHook heapK heapA heapE)) (Hook.val (kHook heapK heapA heapE)) 2438 :=
 L2.TT.left_of (M:=2438) (by kernel_rfl) rfl (fun s=>by kernel_rfl) rfl A6 fun w os=>by kernel_rfl
end K65
namespace L2
abbrev Ih:=Sum Int Str
def jI:Ih->I0->Bool
 | .inl k,v=>I0.isInt k v
 | .inr x,v=>I0.isStrOf x v
def Es(w:Kh):Ih->Int
 | .inl k=>hashInt k
 | .inr x=>hashStr w x
theorem aW:∀{k:Ih}{v:I0},jI k v=true->(∃i t,k=J0 i/\v=PZ i t)\/(∃x t,k=LS x/\v=Qq x t)
 | .inl i,v,h=>by
   obtain⟨t,e⟩:=I0.isInt_shape (k:=i) (v:=v) h
   exact .inl ⟨i,t,rfl,e⟩
 | .inr x,v,h=>by
   obtain⟨t,e⟩:=I0.isStrOf_shape (x:=x) (v:=v) h;exact .inr ⟨x,t,rfl,e⟩
theorem o9(i:Int)(t:Tok):jI (.inl i) (.int i t)=true:=by simp[jI,I0.isInt]
theorem o8(x:Str)(t:Tok):jI (.inr x) (.str x t)=true:=by simp[jI,I0.isStrOf]
theorem zN(a b:Int):decide ((J0 a:Ih)=J0 b)=(a==b):=by
 by_cases e:a=b
 · subst e;simp
 · have h:¬(J0 a:Ih)=J0 b:=fun q=>e (OF q);rw[decide_eq_false h];exact(beq_eq_false_iff_ne.mpr e).symm
theorem zK(a b:Str):decide ((LS a:Ih)=LS b)=decide (a=b):=by
 by_cases e:a=b
 · subst e;simp
 · have h:¬(LS a:Ih)=LS b:=fun q=>e (LS.inj q);rw[decide_eq_false h,decide_eq_false e]
theorem zM(a:Int)(b:Str):decide ((J0 a:Ih)=LS b)=false:=decide_eq_false (fun q=>nomatch q)
theorem zL(a:Str)(b:Int):decide ((LS a:Ih)=J0 b)=false:=decide_eq_false (fun q=>nomatch q)
def bj(prog:Ju)(w:Kh):PySem.KeyKind prog w Ih where
 is:=jI
 hash:=Es w
 inj:=fun v a b ha hb=>by
  rcases aW ha with⟨i,t,rfl,rfl⟩|⟨x,t,rfl,rfl⟩
  · rcases aW hb with⟨j,u,rfl,e⟩|⟨y,u,rfl,e⟩
    · injection e with e1 _;rw[e1]
    · exact nomatch e
  · rcases aW hb with⟨j,u,rfl,e⟩|⟨y,u,rfl,e⟩
    · exact nomatch e
    · injection e with e1 _;rw[e1]
 byValue:=fun k v h=>by
   rcases aW h with⟨i,t,rfl,rfl⟩|⟨x,t,rfl,rfl⟩<;>rfl
 pyHash:=fun hv h=>by
  rcases aW hv with⟨i,t,rfl,rfl⟩|⟨x,t,rfl,rfl⟩
  · exact wpAny_pyHash_int h
  · exact wpAny_pyHash_str h
 eqBool:=fun hu hv h=>by
  rcases aW hu with⟨i,t,rfl,rfl⟩|⟨x,t,rfl,rfl⟩
  · rcases aW hv with⟨j,u,rfl,rfl⟩|⟨y,u,rfl,rfl⟩
    · rw[zN]at h;exact wpAny_eqBool_int h
    · rw[zM]at h;exact SeqAt.EqAt.int_str i t y u _ _ _ _ h
  · rcases aW hv with⟨j,u,rfl,rfl⟩|⟨y,u,rfl,rfl⟩
    · rw[zL]at h;exact SeqAt.EqAt.str_int x t j u _ _ _ _ h
    · rw[zK]at h;exact wpAny_eqBool_str h
 «strs»:=fun k x t v h=>by
  rcases aW h with⟨i,u,rfl,e⟩|⟨y,u,rfl,e⟩
  · exact nomatch e
  · injection e with e1 _
    subst e1;cases v<;>rfl
theorem jF(prog:Ju)(w:Kh)(i:Int)(t:Tok):(bj prog w).is (.inl i) (.int i t)=true:=o9 i t
theorem jE(prog:Ju)(w:Kh)(x:Str)(t:Tok):(bj prog w).is (.inr x) (.str x t)=true:=o8 x t
inductive V where
 | non|bl (b:Bool)|int (i:Int)|str (x:Str)|byt (b:Array UInt8)|flt (b:UInt64)|ref (a:Addr)|ty (n:String)
 deriving DecidableEq
def RelV:V->I0->Prop
 | .non,u=>u=LI
 | .bl b,u=>u=I0.bool b
 | .int i,u=>∃t,u=PZ i t
 | .str x,u=>∃t,u=Qq x t
 | .byt b,u=>∃t,u=I0.bytes b t
 | .flt b,u=>∃t,u=I0.float b t
 | .ref a,u=>u=K0 a
 | .ty n,u=>u=I0.type n
abbrev bP:List V->List I0->Prop:=Kr RelV
theorem bP.length{xs:List V}{us:List I0}(r:bP xs us):xs.length=us.length:=JU r
theorem bP.get:∀{xs:List V}{us:List I0}{i:Nat}{x:V},bP xs us->xs[i]?=some x->∃u,us[i]?=some u/\RelV x u
 | _,_,_,_,.nil,e=>by simp at e
 | _,_,0,_,.cons r _,e=>by simp at e;subst e;exact⟨_,rfl,r⟩
 | _,_,i+1,x,.cons _ t,e=>by
   obtain⟨u,h1,h2⟩:=bP.get (i:=i) (x:=x) t (by simpa using e);exact⟨u,by simpa using h1,h2⟩
theorem bP.set{x:V}{u:I0}(r:RelV x u):∀{xs:List V}{us:List I0}(i:Nat),bP xs us->bP (xs.set i x) (us.set i u)
 | _,_,_,.nil=>.nil
 | _,_,0,.cons _ t=>.cons r t
 | _,_,i+1,.cons q t=>.cons q (bP.set r i t)
theorem bP.append:∀{xs ys:List V}{us ws:List I0},bP xs us->bP ys ws->bP (xs++ys) (us++ws)
 | _,_,_,_,.nil,s=>s
 | _,_,_,_,.cons r t,s=>.cons r (bP.append t s)
theorem bP.take:∀{xs:List V}{us:List I0}(n:Nat),bP xs us->bP (xs.take n) (us.take n)
 | _,_,0,_=>.nil
 | _,_,_+1,.nil=>.nil
 | _,_,n+1,.cons r t=>.cons r (bP.take n t)
theorem bP.drop:∀{xs:List V}{us:List I0}(n:Nat),bP xs us->bP (xs.drop n) (us.drop n)
 | _,_,0,r=>r
 | _,_,_+1,.nil=>.nil
 | _,_,n+1,.cons _ t=>bP.drop n t
def xt:Option V->Option I0->Prop
 | some v,some u=>RelV v u
 | none,none=>True
 | _,_=>False
def KV{κ:Type}:List (κ×V)->List (κ×I0)->Prop:=Kr fun(p:κ×V)(q:κ×I0)=>p.1=q.1/\RelV p.2 q.2
def kV:Ih->V
 | .inl i=>.int i
 | .inr x=>.str x
inductive HO where
 | lst (xs:List V)
 | tup (xs:List V)
 | dK (kvs:List (Ih×V))|dT (kvs:List (List Ih×V))
 | set (S:Int->Bool) (n:Nat)
 | ins (C dx:Addr) (fs:List (Str×V))
 | own (x:Addr)
 | xd (fs:List (Str×V))
 | met (f x:Addr)
 | rng (lo hi:Int)
 | frz (o:Obj) (u:HO)
 | tbl (ps:Array I0)
 | ext (φ:Heap->Prop)
abbrev Hp:=Addr->Option HO
def upd(H:Hp)(a:Addr)(o:HO):Hp:=fun b=>if b=a then some o else H b
theorem ak{H:Hp}{o:HO}:upd H a o a=some o:=by unfold upd;rw[if_pos rfl]
theorem ag{H:Hp}{b:Addr}{o:HO}(h:b≠a):upd H a o b=H b:=by unfold upd;rw[if_neg h]
theorem uU{H:Hp}{o u:HO}:upd (upd H a o) a u=upd H a u:=by
 funext b;unfold upd;split<;>rfl
theorem BW{H:Hp}{b:Addr}{o u:HO}(h:H a=some o)(h':H b=some u)(d:o≠u):a≠b:=by
 intro e;subst e;rw[h]at h';exact d (JK h')
theorem ay{H:Hp}{b:Addr}{o:HO}(h:H a=some o)(h':H b=none):a≠b:=by
 intro e;subst e;rw[h]at h';cases h'
section
variable(P:Ju)(w:Kh)
def qm(h:Heap)(a:Addr)(items:Array I0):Prop:=∃o,h.get? a=some o/\o.cls = .type "tuple" /\ (∃n,o.data = .seq items n)/\o.dict=none
theorem qm.tup{h:Heap}{a:Addr}{items:Array I0}(x:qm h a items):P6 h a items:=let ⟨o,e1,e2,e3,_⟩:=x;⟨o,e1,e2,e3⟩
theorem qm.new(h:Heap)(items:Array I0):qm (h.push {cls:=.type "tuple", data:=.seq items}) h.objs.size items:=⟨_,Jk _ rfl,rfl,⟨_,rfl⟩,rfl⟩
def cw(H:Hp)(h:Heap)(a:Addr):HO->Prop
 | .lst xs=>xs.length<=sizeLine/\∃(its:List I0)(n:Nat),bP xs its/\h.get? a=some {cls:=.type "list", data:=.seq its.toArray n}
 | .tup xs=>xs.length<=sizeLine/\∃its:List I0,bP xs its/\qm h a its.toArray
 | .dK kvs=>kvs.length<=sizeLine/\(a==Lg)=false/\∃vs,KV kvs vs/\h.DictOf (bj P w) a vs
 | .dT kvs=>kvs.length<=sizeLine/\(a==Lg)=false/\∃xs:List (List Ih×Addr×I0),
     Kr (fun(p:List Ih×V)(q:List Ih×Addr×I0)=>p.1=q.1/\H q.2.1=some (.tup (p.1.map kV))/\RelV p.2 q.2.2) kvs xs /\
     ∃o es ep,h.get? a=some o/\o.ExactDict/\o.data = .dict es ep/\es.toList=xs.map (entryOfKey (Oo (bj P w)))/\(xs.map (·.1)).Nodup
 | .set S n=>h.SetOf (intKind P w) a S n
 | .ins C dx fs=>H dx=some (.own a)/\fs.length<=1000/\dx≠a/\h.get? a=some (W.instObj C dx) /\
     ∃mA,h.Ns1 dx mA/\(∀f,xt (fs.lookup f) (mA f))/\PySem.Within mA (fs.map (·.1))
 | .own _=>∃o,h.get? a=some o
 | .xd fs=>∃mA,h.Ns1 a mA/\∀f,xt (fs.lookup f) (mA f)
 | .rng lo hi=>∃t u v,h.get? a=some {cls:=.type "range", data:=.fields #[.int lo t,.int hi u,.int 1 v]}
 | .frz o u=>h.get? a=some o/\cw H h a u
 | .tbl ps=>h.get? a=some {cls:=.none,data:=.fields ps}
 | .met f x=>h.get? a=some (W.methodObj (.ref f) (.ref x))
 | .ext φ=>φ h/\(∃o,h.get? a=some o)/\∀h1 h2:Heap,φ h1->(∀o,h1.get? a=some o->h2.get? a=some o)->φ h2
def IA(H:Hp)(h:Heap):Prop:=∀a o,H a=some o->cw P w H h a o
end
section
variable{P:Ju}{w:Kh}{H H':Hp}{h h':Heap}{a:Addr}{o:HO}
theorem cw.lt(x:cw P w H h a o):a<h.objs.size:=by
 cases o with
 | lst xs=>obtain⟨_,_,_,_,e⟩:=x;exact Jg e
 | tup xs=>obtain⟨_,_,_,p⟩:=x;exact p.tup.lt
 | dK kvs=>obtain⟨_,_,_,_,o,_,_,e,_⟩:=x;exact Jg e
 | dT kvs=>obtain⟨_,_,_,_,o,_,_,e,_⟩:=x;exact Jg e
 | set S n=>obtain⟨o,_,_,_,e,_⟩:=x;exact Jg e
 | ins C dx fs=>obtain⟨_,_,_,e,_⟩:=x;exact Jg e
 | own y=>obtain⟨_,e⟩:=x;exact Jg e
 | xd fs=>obtain⟨_,⟨_,_,_,e,_⟩,_⟩:=x;exact Jg e
 | rng lo hi=>obtain⟨_,_,_,e⟩:=x;exact Jg e
 | frz ob u=>obtain⟨e,_⟩:=x;exact Jg e
 | tbl ps=>exact Jg (show h.get? a=some _ from x)
 | met f y=>exact Jg (show h.get? a=some _ from x)
 | ext φ=>obtain⟨_,⟨_,e⟩,_⟩:=x;exact Jg e
theorem Kr.mapP{α β:Type}{F G:α->β->Prop}:∀{l₁:List α}{l₂:List β},Kr F l₁ l₂->(∀a b,F a b->G a b)->Kr G l₁ l₂
 | _,_,.nil,_=>.nil
 | _,_,.cons r t,f=>.cons (f _ _ r) (Kr.mapP t f)
theorem cw.stay(x:cw P w H h a o)(k:∀b u,(b=a\/H b=some (.own a))->h.get? b=some u->h'.get? b=some u)
 (ho:∀b,H b=some (.own a)->H' b=some (.own a))(ht:∀b xs,H b=some (.tup xs)->H' b=some (.tup xs)):cw P w H' h' a o:=by
 induction o with
 | lst xs=>obtain⟨z,its,n,r,e⟩:=x;exact⟨z,its,n,r,k _ _ (.inl rfl) e⟩
 | tup xs=>obtain⟨z,its,r,ob,e,c⟩:=x;exact⟨z,its,r,ob,k _ _ (.inl rfl) e,c⟩
 | dK kvs=>obtain⟨z,y,vs,r,ob,es,ep,e,c⟩:=x;exact⟨z,y,vs,r,ob,es,ep,k _ _ (.inl rfl) e,c⟩
 | dT kvs =>
   obtain⟨z,y,xs,r,ob,es,ep,e,c⟩:=x
   exact⟨z,y,xs,Kr.mapP r fun p q z=>⟨z.1,ht _ _ z.2.1,z.2.2⟩,ob,es,ep,k _ _ (.inl rfl) e,c⟩
 | set S n=>obtain⟨ob,es,ep,t,e,c⟩:=x;exact⟨ob,es,ep,t,k _ _ (.inl rfl) e,c⟩
 | ins C dx fs =>
   obtain⟨d,z,ne,e,mA,⟨od,es,ep,e2,c⟩,r⟩:=x
   exact⟨ho _ d,z,ne,k _ _ (.inl rfl) e,mA,⟨od,es,ep,k _ _ (.inr d) e2,c⟩,r⟩
 | own y=>obtain⟨ob,e⟩:=x;exact⟨ob,k _ _ (.inl rfl) e⟩
 | xd fs=>obtain⟨mA,⟨od,es,ep,e,c⟩,r⟩:=x;exact⟨mA,⟨od,es,ep,k _ _ (.inl rfl) e,c⟩,r⟩
 | rng lo hi=>obtain⟨t,u,v,e⟩:=x;exact⟨t,u,v,k _ _ (.inl rfl) e⟩
 | frz ob u ih=>obtain⟨e,q⟩:=x;exact⟨k _ _ (.inl rfl) e,ih q⟩
 | tbl ps =>
   have e:h.get? a=some {cls:=.none,data:=.fields ps}:=x;show h'.get? a=some {cls:=.none,data:=.fields ps}
   exact k a _ (.inl rfl) e
 | met f y =>
   have e:h.get? a=some (W.methodObj (.ref f) (.ref y)):=x;show h'.get? a=some (W.methodObj (.ref f) (.ref y))
   exact k a _ (.inl rfl) e
 | ext φ=>obtain⟨p,⟨o,e⟩,st⟩:=x;exact⟨st _ _ p fun o q=>k _ _ (.inl rfl) q,⟨o,k _ _ (.inl rfl) e⟩,st⟩
theorem IA.lt(x:IA P w H h)(e:H a=some o):a<h.objs.size:=(x a o e).lt
theorem IA.fresh(x:IA P w H h)(e:h.objs.size<=a):H a=none:=by
 cases q:H a with
 | none=>rfl
 | some u=>exact absurd (Jh (x.lt q) e) (Ki _)
theorem IA.kept(x:IA P w H h)(k:∀b u,h.get? b=some u->h'.get? b=some u):IA P w H h':=fun a o e =>
 (x a o e).stay (fun b u _ q=>k b u q) (fun _ q=>q) fun _ _ q=>q
theorem IA.laid(x:IA P w H h)(k:∀b u,h.get? b=some u->h'.get? b=some u)(hp:h.objs.size<=a)(new:cw P w (upd H a o) h' a o):IA P w (upd H a o) h':=fun b u e=>by
 have hn:=x.fresh hp;by_cases hb:b=a
 · subst hb;rw[ak]at e;cases e;exact new
 · rw[ag hb]at e;exact(x b u e).stay (fun c v _ q=>k c v q) (fun c q=>by rw[ag (ay q hn)];exact q) fun c xs q=>by rw[ag (ay q hn)];exact q
end
def Rd(H:Hp)(a:Addr)(u:HO):Prop:=H a=some u\/∃o,H a=some (.frz o u)
theorem Rd.of{H:Hp}{u:HO}(h:H a=some u):Rd H a u:=.inl h
theorem Rd.ok{w:Kh}{H:Hp}{u:HO}(r:Rd H a u)(x:IA P w H h):cw P w H h a u:=by
 rcases r with r|⟨o,r⟩
 · exact x a u r
 · obtain⟨_,q⟩:=x a _ r;exact q
def Ic:Option HO->Prop
 | some (.lst _)=>True
 | some (.dK _)=>True
 | some (.dT _)=>True
 | some (.set _ _)=>True
 | some (.ins _ _ _)=>True
 | some (.ext _)=>True
 | _=>False
section
variable{P:Ju}{w:Kh}{H:Hp}{h h':Heap}{x e:Addr}{o':HO}
theorem IA.write(ok:IA P w H h)(mu:Ic (H x))(he:e=x\/H e=some (.own x))(k:∀b u,b≠e->h.get? b=some u->h'.get? b=some u)(heo:∃u,h'.get? e=some u)
 (new:cw P w (upd H x o') h' x o'):IA P w (upd H x o') h':=fun b u q=>by
 have nown:∀c y,H c=some (.own y)->c≠x:=fun c y r z=>by subst z;rw[r]at mu;exact mu
 have ntup:∀c xs,H c=some (.tup xs)->c≠x:=fun c xs r z=>by subst z;rw[r]at mu;exact mu
 by_cases hb:b=x
 · subst hb;rw[ak]at q;cases q;exact new
 · rw[ag hb]at q;by_cases hbe:b=e
   · have q':H b=some (.own x):=by
       rcases he with z|z
       · exact absurd (hbe.trans z) hb
       · rw[hbe];exact z
     rw[q]at q';cases q';obtain⟨v,hv⟩:=heo;exact⟨v,by rw[hbe];exact hv⟩
   · refine(ok b u q).stay (fun c v hc r=>k c v ?_ r) (fun c r=>by rw[ag (nown c b r)];exact r) fun c xs r=>by rw[ag (ntup c xs r)];exact r
     rcases hc with rfl|hc
     · exact hbe
     · rintro rfl;rcases he with z|z
       · exact nown c b hc z
       · rw[hc]at z;cases z;exact hb rfl
end
structure Un (fs ex:List Addr) (H H':Hp) (h h':Heap):Prop where
 keep:∀b o,h.get? b=some o->H b=none->b∉fs->b∉ex->h'.get? b=some o
 slot:∀b o,h.get? b=some o->H b=none->b∈fs->b∉ex->∃sl,h'.get? b=some {o with slots:=sl}
 free:∀b o,h.get? b=some o->H b=none->b∉ex->H' b=none
 there:∀b o,h.get? b=some o->b∉ex->∃o',h'.get? b=some o'
 tups:∀b xs,H b=some (.tup xs)->H' b=some (.tup xs)
 frzs:∀b o u,H b=some (.frz o u)->H' b=some (.frz o u)
 tbls:∀b ps,H b=some (.tbl ps)->∃more,H' b=some (.tbl (ps++more))
section
variable{fs fs' ex ex':List Addr}{H H1 H2:Hp}{h h1 h2 h':Heap}{a x e:Addr}{o:HO}
theorem Un.any(u:Un fs ex H H1 h h1){b:Addr}{ob:Obj}(q:h.get? b=some ob)(n:H b=none)(hx:b∉ex):∃sl,h1.get? b=some {ob with slots:=sl}:=by
 by_cases hb:b∈fs
 · exact u.slot b ob q n hb hx
 · exact⟨ob.slots,u.keep b ob q n hb hx⟩
theorem Un.trans(a:Un fs ex H H1 h h1)(b:Un fs ex H1 H2 h1 h2):Un fs ex H H2 h h2 where
 keep:=fun c ob q n hc hx=>b.keep c ob (a.keep c ob q n hc hx) (a.free c ob q n hx) hc hx
 slot:=fun c ob q n hc hx=>by
  obtain⟨sl,e1⟩:=a.slot c ob q n hc hx;obtain⟨sl',e2⟩:=b.slot c _ e1 (a.free c ob q n hx) hc hx;exact⟨sl',e2⟩
 free:=fun c ob q n hx=>by
  obtain⟨o',e1⟩:=a.there c ob q hx;exact b.free c o' e1 (a.free c ob q n hx) hx
 there:=fun c ob q hx=>by
  obtain⟨o',e1⟩:=a.there c ob q hx;exact b.there c o' e1 hx
 tups:=fun c xs q=>b.tups c xs (a.tups c xs q)
 frzs:=fun c ob xs q=>b.frzs c ob xs (a.frzs c ob xs q)
 tbls:=fun c ps q=>by
  obtain⟨m1,e1⟩:=a.tbls c ps q;obtain⟨m2,e2⟩:=b.tbls c _ e1;exact⟨m1++m2,by rw[e2,Array.append_assoc]⟩
theorem Un.kept(k:∀b u,h.get? b=some u->h'.get? b=some u):Un fs ex H H h h' :=
 ⟨fun b ob q _ _ _=>k b ob q,fun b ob q _ _ _=>⟨ob.slots,k b ob q⟩,fun _ _ _ n _=>n,fun b ob q _=>⟨ob,k b ob q⟩,fun _ _ q=>q,fun _ _ _ q=>q,fun _ ps q=>⟨#[],by rw[q];simp⟩⟩
theorem Un.refl:Un fs ex H H h h:=Un.kept fun _ _ q=>q
theorem Un.laid(k:∀b u,h.get? b=some u->h'.get? b=some u)(hp:h.objs.size<=a)(hn:H a=none):Un fs ex H (upd H a o) h h' where
 keep:=fun b u q _ _ _=>k b u q
 slot:=fun b u q _ _ _=>⟨u.slots,k b u q⟩
 free:=fun b u q n _=>by rw[ag (JS (Jh (Jg q) hp))];exact n
 there:=fun b u q _=>⟨u,k b u q⟩
 tups:=fun b xs q=>by rw[ag (ay q hn)];exact q
 frzs:=fun b u xs q=>by rw[ag (ay q hn)];exact q
 tbls:=fun b ps q=>⟨#[],by rw[ag (ay q hn),q];simp⟩
theorem Un.write(mu:Ic (H x))(he:e=x\/H e=some (.own x))(k:∀b u,b≠e->h.get? b=some u->h'.get? b=some u)(heo:∃u,h'.get? e=some u):Un fs ex H (upd H x o) h h':=by
 have hx:∀b,H b=none->b≠x:=fun b n z=>by subst z;rw[n]at mu;exact mu
 have hb:∀b,H b=none->b≠e:=fun b n z=>by
  subst z;rcases he with r|r
  · exact hx b n r
  · rw[n]at r;cases r
 have hm:∀b u,H b=some u->¬Ic (some u)->b≠x:=fun b u q nm z=>by subst z;rw[q]at mu;exact nm mu
 refine⟨fun b u q n _ _=>k b u (hb b n) q,fun b u q n _ _=>⟨u.slots,k b u (hb b n) q⟩,fun b u q n _=>by rw[ag (hx b n)];exact n,fun b u q _=>?_,
  fun b xs q=>by rw[ag (hm b _ q fun z=>z)];exact q,fun b u xs q=>by rw[ag (hm b _ q fun z=>z)];exact q,fun b ps q=>⟨#[],by rw[ag (hm b _ q fun z=>z),q];simp⟩⟩
 by_cases hbe:b=e
 · subst hbe;exact heo
 · exact⟨u,k b u hbe q⟩
theorem Un.mono(u:Un fs ex H H1 h h1)(hs:∀b∈fs,b∈fs')(hx:∀b∈ex,b∈ex'):Un fs' ex' H H1 h h1 :=
 ⟨fun b ob q n hb he=>u.keep b ob q n (fun z=>hb (hs b z)) fun z=>he (hx b z),fun _ _ q n _ he=>u.any q n fun z=>he (hx _ z),fun b ob q n he=>u.free b ob q n fun z=>he (hx b z),fun b ob q he=>u.there b ob q fun z=>he (hx b z),u.tups,u.frzs,u.tbls⟩
end
def Fz(h:Heap)(H:Hp):List Addr:=(Jm h.objs.size).filter fun a=>(H a).isSome
def rY(h:Heap)(H:Hp):Heap:=W.hideAll h (Fz h H)
theorem pi(h:Heap)(H:Hp):(rY h H).objs.size=h.objs.size:=W.hideAll_size _ _
theorem rX{H:Hp}{b:Addr}(e:h.get? b=some o)(n:H b=none):(rY h H).get? b=some o :=
 W.hideAll_get _ e fun hm=>by
  have q:(H b).isSome=true:=(Mn.mp hm).2;rw[n]at q;simp at q
theorem vW{H:Hp}{b:Addr}(e:(rY h H).get? b=some o):h.get? b=some o/\H b=none:=by
 have e':h.get? b=some o:=W.of_hideAll (Fz h H) e;refine⟨e',?_⟩
 cases q:H b with
 | none=>rfl
 | some x =>
   have hm:b∈Fz h H:=Mn.mpr ⟨Kd.mpr (Jg e'),by simp[q]⟩;have z:(rY h H).get? b=none:=W.hideAll_none (Fz h H) hm;rw[z]at e;cases e
def xq(g h:Heap)(L:Addr):List (Addr×Obj):=(Jm h.objs.size).filterMap fun a=>if a=L\/(g.get? a).isSome=true then none else(h.get? a).map fun o=>(a,o)
def rest(g h:Heap)(L d:Addr):List (Addr×Obj):=(xq g h L).filter fun p=>decide (p.1≠d)
structure Mod (K:W.Frag) (mg:Str->Option I0) (base:Heap):Prop where
 kin:K.In base
 glob:base.Ns Ke mg
 blt:∃mb,base.Ns builtinsNs mb/\∀x:Str,x ≠ "__name__" -> mb x=Mp x
 nolimit:base.NoLimit
structure Cx where
 prog:Ju
 w:Kh
 K:W.Frag
 mg:Str->Option I0
 base:Heap
 A:Ko
 N:List Str
 s₀:Ja
 H₀:Hp
 env:Env
 outer:List Env
 stack:List Env
 ex:List Addr
 fn:Str->Bool
 calm:Bool
 pn:List (Addr×Obj)
 xe:I0->Ja->Prop
def frs(l:List Env):List Addr:=l.filterMap (·.frame)
abbrev Cx.fs(X:Cx):List Addr:=frs X.outer
def Hw(sc:Scope)(x:Str):Prop:=sc.names.lookup x=some .local\/sc.names.lookup x=some .cell\/sc.names.lookup x=some .free
def Loc(sc:Scope)(x:Str):Prop:=sc.names.lookup x=some .local\/sc.names.lookup x=some .cell
def Look(env:Env)(h:Heap)(m:Str->Option I0)(x:Str)(u:I0):Prop :=
 (env.kindOf x=some .local/\m x=some u)\/((env.kindOf x=some .cell\/env.kindOf x=some .free)/\∃c,env.cells.lookup x=some c/\h.IsCell c (some u))
structure Cx.Ok (X:Cx):Prop where
 mod:Mod X.K X.mg X.base
 kind:X.env.scope.kind = .function
 glob:X.env.globals=Ke
 blt:X.env.builtins=builtinsNs
 above:X.s₀.heap.objs.size<=X.env.locals
 inj:∀x y c,X.env.cells.lookup x=some c->X.env.cells.lookup y=some c->x=y
 has:∀x,(X.env.kindOf x=some .cell\/X.env.kindOf x=some .free)->∃c,X.env.cells.lookup x=some c
 cab:∀x c,X.fn x=true->X.env.cells.lookup x=some c->X.s₀.heap.objs.size<=c
 hd:X.calm=true->X.A.handled=none
 frames:X.A.frames=some X.stack
 stk:X.stack=X.outer\/(X.stack=X.env::X.outer/\X.env.frame=some X.env.locals)
 exf:∀b∈X.ex,b≠X.env.locals/\∀x c,X.env.cells.lookup x=some c->c≠b
 bs:∀b o,X.base.get? b=some o->X.s₀.heap.get? b=some o/\X.H₀ b=none
 bsz:X.base.objs.size<=X.s₀.heap.objs.size
 noex:∀b o,X.base.get? b=some o->b∉X.ex
 exfs:∀b∈X.ex,b∉X.fs
 funs:X.s₀.heap.FunFrames X.base X.outer
 frf:∀b∈X.fs,X.H₀ b=none
structure Inv (X:Cx) (pins:List (Addr×Obj)) (σ:List (Option V)) (H:Hp) (s:Ja):Prop where
 ok:X.Ok
 os:s.os=X.s₀.os
 bare:PK s.gens
 base:Un X.fs X.ex X.H₀ H X.s₀.heap s.heap
 loc:∃m,s.heap.Ns X.env.locals m/\∀(i:Nat)(x:Str)(v:V),X.N[i]?=some x->σ[i]?=some (some v)->Hw X.env.scope x->∃u,RelV v u/\Look X.env s.heap m x u
 cell:∀x c,X.env.cells.lookup x=some c->∃v,s.heap.IsCell c v
 free:H X.env.locals=none
 freeC:∀x c,X.env.cells.lookup x=some c->H c=none
 pin:∀p∈X.pn++pins,s.heap.get? p.1=some p.2/\H p.1=none/\p.1≠X.env.locals/\p.1∉X.fs/\∀v,p.2.data ≠ .cell v
 hok:IA X.prog X.w H s.heap
 len:σ.length=X.N.length
section
variable{X:Cx}{pins:List (Addr×Obj)}{σ:List (Option V)}{H H':Hp}{s:Ja}{h':Heap}
theorem Cx.Ok.nofr(ok:X.Ok){b:Addr}(e:X.base.get? b=some o):b∉X.fs:=fun hb=>by
 have:=(ok.funs.mem hb).1;rw[e]at this;cases this
theorem Inv.bs(I:Inv X pins σ H s):∀b o,X.base.get? b=some o->s.heap.get? b=some o/\H b=none:=fun b o e =>
 ⟨I.base.keep b o (I.ok.bs b o e).1 (I.ok.bs b o e).2 (I.ok.nofr e) (I.ok.noex b o e),I.base.free b o (I.ok.bs b o e).1 (I.ok.bs b o e).2 (I.ok.noex b o e)⟩
theorem Inv.bk(I:Inv X pins σ H s):∀b o,X.base.get? b=some o->s.heap.get? b=some o:=fun b o e=>(I.bs b o e).1
theorem Inv.mod(I:Inv X pins σ H s):Mod X.K X.mg X.base:=I.ok.mod
theorem Inv.kIn(I:Inv X pins σ H s):X.K.In s.heap:=I.ok.mod.kin.keeps I.bk
theorem Inv.nolimit(I:Inv X pins σ H s):s.heap.NoLimit:=I.ok.mod.nolimit.keeps I.bk
theorem Inv.fr(I:Inv X pins σ H s):∃m,Fr X.base X.env.locals s.heap m :=
 let ⟨m,hn,_⟩:=I.loc
 ⟨m,hn,I.bk,JF I.ok.bsz I.ok.above⟩
theorem Inv.lt(I:Inv X pins σ H s):X.env.locals<s.heap.objs.size:=let ⟨_,hn,_⟩:=I.loc;hn.lt
theorem Inv.sz(I:Inv X pins σ H s):X.s₀.heap.objs.size<=s.heap.objs.size:=JF I.ok.above (Qa I.lt)
theorem Inv.nofs(I:Inv X pins σ H s)(h:s.heap.objs.size<=a):a∉X.fs:=fun hb=>by
 obtain⟨_,o,ho,_⟩:=I.ok.funs.mem hb;exact absurd (Jh (Jg ho) (JF I.sz h)) (Ki _)
theorem Inv.cne(I:Inv X pins σ H s):∀x c,X.env.cells.lookup x=some c->c≠X.env.locals:=fun x c e z=>by
 obtain⟨v,o,ho,hd⟩:=I.cell x c e;obtain⟨m,⟨o',es,ep,ho',hd',_⟩,_⟩:=I.loc;rw[z,ho']at ho;cases ho;rw[hd']at hd;cases hd
theorem Inv.funs(I:Inv X pins σ H s):s.heap.FunFrames X.base X.outer:=by
 have all:∀(l:List Env),(∀b∈frs l,b∈X.fs)->X.s₀.heap.FunFrames X.base l->s.heap.FunFrames X.base l:=by
  intro l
  induction l with
  | nil=>intro _ _;trivial
  | cons env r ih =>
    intro hs hl;obtain⟨hk,⟨L,o,hf,hn,ho,hd⟩,hr⟩:=hl;have hL:L∈X.fs:=hs L (by unfold frs;rw[L7,hf];exact IV);obtain⟨sl,e⟩:=I.base.slot L o ho (I.ok.frf L hL) hL fun z=>I.ok.exfs L z hL;exact⟨hk,⟨L,_,hf,hn,e,hd⟩,ih (fun b hb=>hs b (by unfold frs;rw[L7,hf];exact IT _ hb)) hr⟩
 exact all X.outer (fun _ hb=>hb) I.ok.funs
theorem Inv.stack(I:Inv X pins σ H s):s.heap.FunFrames X.base X.stack:=by
 rcases I.ok.stk with e|⟨e,hf⟩
 · rw[e];exact I.funs
 · rw[e];obtain⟨m,hn,_⟩:=I.loc;refine .cons (by rw[I.ok.kind];decide) hf hn ?_ I.funs;exact Heap.get?_none_of_le (JF I.ok.bsz I.ok.above)
theorem Inv.stkSub(I:Inv X pins σ H s):∀b∈frs X.stack,b∈X.env.locals::X.fs:=fun b hb=>by
 rcases I.ok.stk with e|⟨e,hf⟩
 · rw[e]at hb;exact IT _ hb
 · rw[e]at hb;unfold frs at hb;rw[L7,hf]at hb;exact hb
theorem Inv.stkFree(I:Inv X pins σ H s):∀b∈frs X.stack,H b=none:=fun b hb=>by
 rcases JA.mp (I.stkSub b hb)with e|hb
 · rw[e];exact I.free
 · obtain⟨_,o,ho,_⟩:=I.ok.funs.mem hb;exact I.base.free b o ho (I.ok.frf b hb) fun z=>I.ok.exfs b z hb
theorem Inv.step{g':Array GenState}{d':Drawn}{ch:List Addr}(I:Inv X pins σ H s)
 (hch:∀b∈ch,(b∈X.ex\/X.s₀.heap.objs.size<=b)/\b≠X.env.locals/\(∀x c,X.env.cells.lookup x=some c->c≠b)/\∀p∈X.pn++pins,p.1≠b)
 (keep:∀b o,b≠X.env.locals->b∉X.fs->b∉ch->s.heap.get? b=some o->H b=none->h'.get? b=some o)
 (slot:∀b o,b≠X.env.locals->b∈X.fs->b∉ch->s.heap.get? b=some o->H b=none->∃sl,h'.get? b=some {o with slots:=sl})(free:∀b o,b∉ch->s.heap.get? b=some o->H b=none->H' b=none)
 (there:∀b o,b∉ch->s.heap.get? b=some o->∃o',h'.get? b=some o')
 (tups:∀b xs,H b=some (.tup xs)->H' b=some (.tup xs))(frzs:∀b o u,H b=some (.frz o u)->H' b=some (.frz o u))(tbls:∀b ps,H b=some (.tbl ps)->∃more,H' b=some (.tbl (ps++more)))
 (ns:∀m,s.heap.Ns X.env.locals m->h'.Ns X.env.locals m)(hok:IA X.prog X.w H' h')(hg:PK g') :
 Inv X pins σ H' {s with heap:=h',gens:=g',drawn:=d',toks:=t' }:=by
 have neL:∀b o,X.s₀.heap.get? b=some o->b≠X.env.locals:=fun b o e=>JS (Jh (Jg e) I.ok.above)
 have neC:∀b o,X.s₀.heap.get? b=some o->b∉X.ex->b∉ch:=fun b o e hx hb=>by
  rcases(hch b hb).1 with z|z
  · exact hx z
  · exact absurd (Jh (Jg e) z) (Ki _)
 have cellK:∀x c,X.env.cells.lookup x=some c->∀v,s.heap.IsCell c v->h'.IsCell c v:=fun x c e v ⟨o,ho,hd⟩=>by
  have nch:c∉ch:=fun z=>(hch c z).2.2.1 x c e rfl;by_cases hc:c∈X.fs
  · obtain⟨sl,q⟩:=slot c o (I.cne x c e) hc nch ho (I.freeC x c e);exact⟨_,q,hd⟩
  · exact⟨o,keep c o (I.cne x c e) hc nch ho (I.freeC x c e),hd⟩
 refine⟨I.ok,I.os,hg,⟨fun b o e n hb hx=>?_,fun b o e n hb hx=>?_,fun b o e n hx=>?_,fun b o e hx=>?_,fun b xs e=>tups b xs (I.base.tups b xs e),fun b o xs e=>frzs b o xs (I.base.frzs b o xs e),fun b ps e=>?_⟩,?_,fun x c e=>?_,?_,fun x c e=>?_,fun p hp=>?_,hok,I.len⟩
 · exact keep b o (neL b o e) hb (neC b o e hx) (I.base.keep b o e n hb hx) (I.base.free b o e n hx)
 · obtain⟨sl,e1⟩:=I.base.slot b o e n hb hx;obtain⟨sl',e2⟩:=slot b _ (neL b o e) hb (neC b o e hx) e1 (I.base.free b o e n hx);exact⟨sl',e2⟩
 · obtain⟨o',e1⟩:=I.base.there b o e hx;exact free b o' (neC b o e hx) e1 (I.base.free b o e n hx)
 · obtain⟨o',e1⟩:=I.base.there b o e hx;exact there b o' (neC b o e hx) e1
 · obtain⟨m1,e1⟩:=I.base.tbls b ps e;obtain⟨m2,e2⟩:=tbls b _ e1;exact⟨m1++m2,by rw[e2,Array.append_assoc]⟩
 · obtain⟨m,hn,hl⟩:=I.loc;refine⟨m,ns m hn,fun i x v e1 e2 e3=>?_⟩;obtain⟨u,r,l⟩:=hl i x v e1 e2 e3;refine⟨u,r,?_⟩;rcases l with l|⟨k,c,e,z⟩
   · exact .inl l
   · exact .inr ⟨k,c,e,cellK x c e _ z⟩
 · obtain⟨v,z⟩:=I.cell x c e;exact⟨v,cellK x c e v z⟩
 · obtain⟨m,⟨o,_,_,ho,_⟩,_⟩:=I.loc;exact free _ o (fun z=>(hch _ z).2.1 rfl) ho I.free
 · obtain⟨v,o,ho,hd⟩:=I.cell x c e;exact free c o (fun z=>(hch c z).2.2.1 x c e rfl) ho (I.freeC x c e)
 · obtain⟨e,n,ne,nf,d⟩:=I.pin p hp;have nch:p.1∉ch:=fun z=>(hch p.1 z).2.2.2 p hp rfl;exact⟨keep p.1 p.2 ne nf nch e n,free p.1 p.2 nch e n,ne,nf,d⟩
theorem Inv.un(I:Inv X pins σ H s)(u:Un X.fs [] H H' s.heap h')(hok:IA X.prog X.w H' h'):Inv X pins σ H' {s with heap:=h',toks:=t' }:=by
 obtain⟨m,⟨o,es,ep,ho,r⟩,_⟩:=id I.loc;obtain⟨sl,hL⟩:=u.any ho I.free (by simp)
 exact I.step (g':=s.gens) (d':=s.drawn) (ch:=[]) (fun _ z=>nomatch z) (fun b o _ hb _ e n=>u.keep b o e n hb (by simp)) (fun b o _ hb _ e n=>u.slot b o e n hb (by simp)) (fun b o _ e n=>u.free b o e n (by simp)) (fun b o _ e=>u.there b o e (by simp)) u.tups u.frzs u.tbls (fun m' hm=>by
  obtain⟨o',es',ep',ho',r'⟩:=hm;rw[ho]at ho';cases ho'
  exact⟨_,es',ep',hL,r'⟩) hok I.bare
theorem Inv.call{g':Array GenState}{d':Drawn}{ch:List Addr}(I:Inv X pins σ H s)(u:Un (frs X.stack) ch H H' s.heap h')(hok:IA X.prog X.w H' h')(hg:PK g')
 (hch:∀b∈ch,(b∈X.ex\/X.s₀.heap.objs.size<=b)/\b≠X.env.locals/\(∀x c,X.env.cells.lookup x=some c->c≠b)/\∀p∈X.pn++pins,p.1≠b) :
 Inv X pins σ H' {s with heap:=h',gens:=g',drawn:=d',toks:=t' }:=by
 obtain⟨m,⟨o,es,ep,ho,r⟩,_⟩:=id I.loc;obtain⟨sl,hL⟩:=u.any ho I.free fun z=>(hch _ z).2.1 rfl
 exact I.step (ch:=ch) hch (fun b o hL hb hc e n=>u.keep b o e n (fun z=>(JA.mp (I.stkSub b z)).elim hL hb) hc) (fun b o _ _ hc e n=>u.any e n hc) (fun b o hc e n=>u.free b o e n hc) (fun b o hc e=>u.there b o e hc) u.tups u.frzs u.tbls (fun m' hm=>by
  obtain⟨o',es',ep',ho',r'⟩:=hm;rw[ho]at ho';cases ho'
  exact⟨_,es',ep',hL,r'⟩) hok hg
theorem Inv.turned(I:Inv X pins σ H s)(k:∀b o,b≠it->s.heap.get? b=some o->h'.get? b=some o)(hn:H it=none)(hL:it≠X.env.locals)
 (h1:it∈X.ex\/X.s₀.heap.objs.size<=it)(h2:∀x c,X.env.cells.lookup x=some c->c≠it)(h3:∀p∈X.pn++pins,p.1≠it):Inv X pins σ H {s with heap:=h',toks:=t' }:=by
 have nit:∀b u,H b=some u->b≠it:=fun b u e z=>by rw[z,hn]at e;cases e
 refine I.step (g':=s.gens) (d':=s.drawn) (ch:=[it]) (fun b hb=>?_) (fun b o _ _ hc e _=>k b o (fun z=>hc (by simp[z])) e) (fun b o _ _ hc e _=>⟨o.slots,k b o (fun z=>hc (by simp[z])) e⟩) (fun _ _ _ _ n=>n)
  (fun b o hc e=>⟨o,k b o (fun z=>hc (by simp[z])) e⟩) (fun _ _ e=>e) (fun _ _ _ e=>e) (fun b ps e=>⟨#[],by rw[e];simp⟩) (fun m hm=>?_) (fun b u e=>?_) I.bare
 · have e:b=it:=by simpa using hb
   subst e;exact⟨h1,hL,h2,h3⟩
 · obtain⟨o,es,ep,ho,r⟩:=hm;exact⟨o,es,ep,k _ o (Nf hL) ho,r⟩
 · refine(I.hok b u e).stay (fun c v hc q=>k c v ?_ q) (fun _ q=>q) fun _ _ q=>q;rcases hc with z|z
   · rw[z];exact nit b u e
   · exact nit c _ z
theorem Inv.tok(I:Inv X pins σ H s)(t:Nat):Inv X pins σ H {s with toks:=t}:=I.un (h':=s.heap) (t':=t) Un.refl I.hok
theorem Inv.kept{t':Nat}(I:Inv X pins σ H s)(k:∀b u,s.heap.get? b=some u->h'.get? b=some u):Inv X pins σ H {s with heap:=h',toks:=t' }:=I.un (Un.kept k) (I.hok.kept k)
theorem Inv.laid{a:Addr}{o:HO}{t':Nat}(I:Inv X pins σ H s)(k:∀b u,s.heap.get? b=some u->h'.get? b=some u)(hp:s.heap.objs.size<=a)(new:cw X.prog X.w (upd H a o) h' a o) :
 Inv X pins σ (upd H a o) {s with heap:=h',toks:=t' }:=I.un (Un.laid k hp (I.hok.fresh hp)) (I.hok.laid k hp new)
theorem Inv.write{x e:Addr}{o:HO}{t':Nat}(I:Inv X pins σ H s)(mu:Ic (H x))(he:e=x\/H e=some (.own x))(k:∀b u,b≠e->s.heap.get? b=some u->h'.get? b=some u)(heo:∃u,h'.get? e=some u)
 (new:cw X.prog X.w (upd H x o) h' x o):Inv X pins σ (upd H x o) {s with heap:=h',toks:=t' }:=I.un (Un.write mu he k heo) (I.hok.write mu he k heo new)
theorem Inv.pins_of{pins':List (Addr×Obj)}(I:Inv X pins σ H s)(h:∀p∈pins',s.heap.get? p.1=some p.2/\H p.1=none/\p.1≠X.env.locals/\p.1∉X.fs/\∀v,p.2.data ≠ .cell v):Inv X pins' σ H s :=
 ⟨I.ok,I.os,I.bare,I.base,I.loc,I.cell,I.free,I.freeC,fun p hp=>(J3.mp hp).elim (fun z=>I.pin p (Pu _ z)) (h p),I.hok,I.len⟩
theorem kS{N:List Str}(hN:N.Nodup){i:Nat}{x:Str}(a:N[i]?=some x)(b:N[j]?=some x):i=j:=by
 obtain⟨h1,e1⟩:=Jn.mp a;obtain⟨h2,e2⟩:=Jn.mp b;exact(List.getElem_inj hN).mp (e1.trans e2.symm)
theorem eZ{M:Model}{i:Nat}{x:Str}{v:V}{Q:Unit->Ja->Prop}(I:Inv X pins σ H s)(hN:X.N.Nodup)(hi:X.N[i]?=some x)(hx:Loc X.env.scope x)(r:RelV v u)
 (h:∀s',Inv X pins (σ.set i (some v)) H s'->(∃a,Lu a s.heap s'.heap/\(a=X.env.locals\/X.env.cells.lookup x=some a))->Q () s')(hf:X.fn x=true\/X.env.scope.names.lookup x=some .local:=by first|exact .inl rfl|exact .inr rfl|assumption):Jr M A (storeName X.env x u) Q E s:=by
 obtain⟨m,hn,hl⟩:=id I.loc;have hcls:(X.env.scope.kind == .class||(X.env.scope.kind == .module&&X.env.locals != X.env.globals))=false:=by rw[I.ok.kind];rfl
 have hiσ:i<σ.length:=by rw[I.len];exact(Jn.mp hi).1
 have cne:=I.cne
 have tracked:∀{a:Addr}{h':Heap},(∃o,s.heap.get? a=some o/\H a=none)->Lu a s.heap h'->IA X.prog X.w H h':=fun{a h'} ha hs b ob e=>by
  obtain⟨_,_,hfree⟩:=ha;refine(I.hok b ob e).stay (fun c w' hc q=>(hs.2 c ?_).trans q) (fun _ q=>q) fun _ _ q=>q;rintro rfl;rcases hc with rfl|hc
  · rw[hfree]at e;cases e
  · rw[hfree]at hc;cases hc
 rcases hx with hk|hk
 · refine wpAny_storeName_local hk hn (fun h' hn' hs=>?_) hcls;obtain⟨oL,_,_,hoL,_⟩:=id hn;refine h _ ⟨I.ok,I.os,I.bare,⟨fun b o e n hb hx=>?_,fun b o e n hb hx=>?_,I.base.free,fun b o e hx=>?_,I.base.tups,I.base.frzs,I.base.tbls⟩,⟨_,hn',fun j y v' e1 e2 e3=>?_⟩,fun y c e=>?_,I.free,I.freeC,fun p hp=>?_,tracked ⟨oL,hoL,I.free⟩ hs,by simpa using I.len⟩ ⟨_,hs,.inl rfl⟩
   · exact(hs.2 b (JS (Jh (Jg e) I.ok.above))).trans (I.base.keep b o e n hb hx)
   · obtain⟨sl,e1⟩:=I.base.slot b o e n hb hx;exact⟨sl,(hs.2 b (JS (Jh (Jg e) I.ok.above))).trans e1⟩
   · obtain⟨o',e1⟩:=I.base.there b o e hx;exact⟨o',(hs.2 b (JS (Jh (Jg e) I.ok.above))).trans e1⟩
   · by_cases hj:j=i
     · subst hj;rw[hi]at e1;cases e1;rw[Jo hiσ]at e2;cases e2;exact⟨u,r,.inl ⟨hk,by simp⟩⟩
     · rw[Jj (Nf hj)]at e2;obtain⟨u',r',q⟩:=hl j y v' e1 e2 e3;refine⟨u',r',?_⟩;rcases q with⟨k,e⟩|⟨k,c,e,z⟩
       · refine .inl ⟨k,?_⟩;have:y≠x:=fun e=>hj (kS hN e1 (e▸hi));simp[this,e]
       · exact .inr ⟨k,c,e,z.sameBut hs (cne y c e)⟩
   · obtain⟨w',z⟩:=I.cell y c e;exact⟨w',z.sameBut hs (cne y c e)⟩
   · obtain⟨e,n,ne,nf,d⟩:=I.pin p hp;exact⟨(hs.2 p.1 ne).trans e,n,ne,nf,d⟩
 · have hfn:X.fn x=true:=by
     rcases hf with z|z
     · exact z
     · rw[z]at hk;cases hk
   obtain⟨c,hc⟩:=I.ok.has x (.inl hk);obtain⟨w',z⟩:=I.cell x c hc;refine wpAny_storeName_cell I.ok.kind hk hc z (fun h' hc' hs=>?_);obtain⟨oc,hoc,hocd⟩:=id z;refine h {s with heap:=h' } ⟨I.ok,I.os,I.bare,⟨fun b o e n hb hx=>?_,fun b o e n hb hx=>?_,I.base.free,fun b o e hx=>?_,I.base.tups,I.base.frzs,I.base.tbls⟩,⟨m,hn.sameBut hs (Nf (cne x c hc)),fun j y v' e1 e2 e3=>?_⟩,fun y c' e=>?_,I.free,I.freeC,fun p hp=>?_,tracked ⟨oc,hoc,I.freeC x c hc⟩ hs,by simpa using I.len⟩ ⟨c,hs,.inr hc⟩
   · exact(hs.2 b (JS (Jh (Jg e) (I.ok.cab x c hfn hc)))).trans (I.base.keep b o e n hb hx)
   · obtain⟨sl,e1⟩:=I.base.slot b o e n hb hx;exact⟨sl,(hs.2 b (JS (Jh (Jg e) (I.ok.cab x c hfn hc)))).trans e1⟩
   · obtain⟨o',e1⟩:=I.base.there b o e hx;exact⟨o',(hs.2 b (JS (Jh (Jg e) (I.ok.cab x c hfn hc)))).trans e1⟩
   · by_cases hj:j=i
     · subst hj;rw[hi]at e1;cases e1;rw[Jo hiσ]at e2;cases e2;exact⟨u,r,.inr ⟨.inl hk,c,hc,hc'⟩⟩
     · rw[Jj (Nf hj)]at e2;obtain⟨u',r',q⟩:=hl j y v' e1 e2 e3;refine⟨u',r',?_⟩;rcases q with q|⟨k,c',e,z'⟩
       · exact .inl q
       · refine .inr ⟨k,c',e,z'.sameBut hs ?_⟩;rintro rfl;exact hj (kS hN e1 (I.ok.inj _ _ _ e hc▸hi))
   · by_cases hcc:c'=c
     · subst hcc;exact⟨_,hc'⟩
     · obtain⟨w2,z2⟩:=I.cell y c' e;exact⟨w2,z2.sameBut hs hcc⟩
   · obtain⟨e,n,ne,nf,d⟩:=I.pin p hp;refine⟨(hs.2 p.1 ?_).trans e,n,ne,nf,d⟩;intro q;rw[q,hoc]at e;have q':oc=p.2:=JK e;exact d w' (by rw[<- q'];exact hocd)
theorem du{M:Model}{i:Nat}{x:Str}{v:V}{Q:Unit->Ja->Prop}(I:Inv X pins σ H s)(hN:X.N.Nodup)(hi:X.N[i]?=some x)(hx:Loc X.env.scope x)(r:RelV v u)
 (h:∀s',Inv X pins (σ.set i (some v)) H s'->Q () s')(hf:X.fn x=true\/X.env.scope.names.lookup x=some .local:=by first|exact .inl rfl|exact .inr rfl|assumption):Jr M A (storeName X.env x u) Q E s :=
 eZ I hN hi hx r (fun s' I' _=>h s' I') hf
end
abbrev XK:=I0->Option Addr->Hp->Prop
abbrev St:=List (Option V)
abbrev VK:=V->Hp->Prop
abbrev TE:=St->Hp->VK->Prop
abbrev TT:=St->Hp->(Bool->Hp->Prop)->Prop
abbrev TA:=St->Hp->(List V->Hp->Prop)->Prop
structure Ends where
 nx:St->Hp->Prop
 rt:VK
 bk:St->Hp->Prop:=fun _ _=>False
 ct:St->Hp->Prop:=fun _ _=>False
abbrev TS:=Ends->St->Hp->Prop
def EP(X:Cx)(pins:List (Addr×Obj))(σ:St)(Q:VK)(u:I0)(s':Ja):Prop:=∃v H',Inv X pins σ H' s'/\RelV v u/\Q v H'
def TP(X:Cx)(pins:List (Addr×Obj))(σ:St)(Q:Bool->Hp->Prop)(b:Bool)(s':Ja):Prop:=∃H',Inv X pins σ H' s'/\Q b H'
def AP(X:Cx)(pins:List (Addr×Obj))(σ:St)(Q:List V->Hp->Prop)(us:List I0)(s':Ja):Prop:=∃vs H',Inv X pins σ H' s'/\bP vs us/\Q vs H'
def SP(X:Cx)(pins:List (Addr×Obj))(D:Ends)(f:Flow)(s':Ja):Prop :=
 match f with
 | .next=>∃σ' H',Inv X pins σ' H' s'/\D.nx σ' H'
 | .brk=>∃σ' H',Inv X pins σ' H' s'/\D.bk σ' H'
 | .cont=>∃σ' H',Inv X pins σ' H' s'/\D.ct σ' H'
 | .ret u=>∃v σ' H',Inv X pins σ' H' s'/\RelV v u/\D.rt v H'
def PE(X:Cx)(e:Expr)(t:TE):Prop :=
 ∀(pins:List (Addr×Obj))(s:Ja)(σ:St)(H:Hp)(Q:VK),Inv X pins σ H s->t σ H Q->Jr (JE X.prog X.w) X.A (eval e X.env) (EP X pins σ Q) X.xe s
def PT(X:Cx)(e:Expr)(t:TT):Prop :=
 ∀(pins:List (Addr×Obj))(s:Ja)(σ:St)(H:Hp)(Q:Bool->Hp->Prop),Inv X pins σ H s->t σ H Q->Jr (JE X.prog X.w) X.A (isTrue e X.env (eval e X.env)) (TP X pins σ Q) X.xe s
def PW(X:Cx)(e:Expr)(t:TT):Prop :=
 ∀(whole:Sem I0)(pins:List (Addr×Obj))(s:Ja)(σ:St)(H:Hp)(Q:Bool->Hp->Prop),Inv X pins σ H s->t σ H Q->Jr (JE X.prog X.w) X.A (isTrue e X.env whole) (TP X pins σ Q) X.xe s
theorem PW.pt{X:Cx}{t:TT}(h:PW X e t):PT X e t:=h _
def PA(X:Cx)(es:List Expr)(t:TA):Prop :=
 ∀(pos:Pos)(pins:List (Addr×Obj))(s:Ja)(σ:St)(H:Hp)(Q:List V->Hp->Prop),Inv X pins σ H s->t σ H Q->Jr (JE X.prog X.w) X.A (spliced (KB pos (Jc es X.env))) (AP X pins σ Q) X.xe s
def PS(X:Cx)(st:Stmt)(t:TS):Prop :=
 ∀(pins:List (Addr×Obj))(s:Ja)(σ:St)(H:Hp)(D:Ends),Inv X pins σ H s->t D σ H->Jr (JE X.prog X.w) X.A (exec st X.env) (SP X pins D) X.xe s
def HU(X:Cx)(st:List Stmt)(t:TS):Prop :=
 ∀(pins:List (Addr×Obj))(s:Ja)(σ:St)(H:Hp)(D:Ends),Inv X pins σ H s->t D σ H->Jr (JE X.prog X.w) X.A (execs st X.env) (SP X pins D) X.xe s
theorem FB{t:Sem α}{Q Q':α->Ja->Prop}{M:Model}(h:Jr M A t Q E s)(hQ:∀a s,Q a s->Q' a s):Jr M A t Q' E s:=JO h hQ fun _ _ x=>x
section
variable{X:Cx}
def xB(i:Nat):TE:=fun σ H Q=>∃v,σ[i]?=some (some v)/\Q v H
def tC(v:V):TE:=fun _ H Q=>Q v H
theorem bI{i:Nat}{x:Str}(hN:X.N[i]?=some x)(hv:Hw X.env.scope x)(hd:(x==("__debug__" : Str))=false:=by decide)(hcd:(x==("__classdict__" : Str))=false:=by decide):PE X (.Name x pos) (xB i):=by
 intro pins s σ H Q I h;obtain⟨v,e,h⟩:=h;obtain⟨m,hn,hl⟩:=I.loc;obtain⟨u,r,l⟩:=hl i x v hN e hv;have fin:EP X pins σ Q u s:=⟨v,H,I,r,h⟩;rcases l with⟨hk,hm⟩|⟨hk,c,hc,hcell⟩
 · exact wpAny_Name (Pv I.ok.kind hk hn hm fin) hd
 · rcases hk with hk|hk
   · exact wpAny_Name (PL I.ok.kind hk hc hcell fin) hd
   · exact wpAny_Name (wpAny_loadName_free I.ok.kind hk hc hcell fin hcd) hd
theorem dB{i j pos}:PE X (.Constant (.int i) j pos) (tC (.int i)):=fun _ _ _ H _ I h=>wpAny_Constant_int ⟨.int i,H,I.tok _,⟨_,rfl⟩,h⟩
theorem BR{b j pos}:PE X (.Constant (.bool b) j pos) (tC (.bl b)):=fun _ _ _ H _ I h=>Constant_bool ⟨.bl b,H,I,rfl,h⟩
theorem zd{j pos}:PE X (.Constant .none j pos) (tC .non):=fun _ _ _ H _ I h=>Constant_none ⟨.non,H,I,rfl,h⟩
theorem dA{x j pos}:PE X (.Constant (.str x) j pos) (tC (.str x)):=fun _ _ _ H _ I h=>Calls.Constant_str ⟨.str x,H,I.tok _,⟨_,rfl⟩,h⟩
def Gl(X:Cx)(x:Str):Prop:=X.env.kindOf x=some .globalImplicit
theorem wr{σ:St}{H:Hp}{x:Str}(I:Inv X pins σ H s)(hg:Gl X x)(hm:X.mg x=some u)(h:Q u s)
 (hd:(x==("__debug__" : Str))=false:=by decide):Jr (JE X.prog X.w) X.A (eval (.Name x pos) X.env) Q E s :=
 N0 I.ok.kind hg (Calls.loadGlobal_global (by rw[I.ok.glob];exact I.mod.glob.keeps I.bk) hm h) hd
theorem fG{σ:St}{H:Hp}{x:Str}(I:Inv X pins σ H s)(hg:Gl X x)(hm:X.mg x=none)(hv:Mp x=some u)(h:Q u s)
 (hn:x ≠ "__name__" := by decide)(hd:(x==("__debug__" : Str))=false:=by decide):Jr (JE X.prog X.w) X.A (eval (.Name x pos) X.env) Q E s:=by
 obtain⟨mb,h1,h2⟩:=I.mod.blt;exact N0 I.ok.kind hg (Calls.loadGlobal_builtin (by rw[I.ok.glob];exact I.mod.glob.keeps I.bk) hm (by rw[I.ok.blt];exact h1.keeps I.bk) ((h2 x hn).trans hv) h) hd
variable{a b:Expr}{ta tb:TE}{pos:Pos}
def PC(X:Cx)(op:Ql)(a b:Expr)(t:TE):Prop :=
 ∀ (pins:List (Addr×Obj))(s:Ja)(σ:St)(H:Hp)(Q:VK),Inv X pins σ H s->t σ H Q ->
   Jr (JE X.prog X.w) X.A (eval a X.env) (fun v s₁=>Jr (JE X.prog X.w) X.A (eval b X.env) (fun u s₂=>Jr (JE X.prog X.w) X.A (LJ op v u) (EP X pins σ Q) X.xe s₂) X.xe s₁) X.xe s
theorem rF(b:Expr)(h:op ≠ .In)(h2:op ≠ .NotIn):Lh op b=false:=by
 have e1:(op==Ql.In)=false:=by cases op<;>first|rfl|exact absurd rfl h
 have e2:(op==Ql.NotIn)=false:=by cases op<;>first|rfl|exact absurd rfl h2
 cases b<;>simp[Lh,e1,e2]
def tB(t:TE):TT:=fun σ H Q=>t σ H fun x H1=>∃c,x = .bl c/\Q c H1
theorem yX{t:TE}(h:PC X op a b t)(h1:Lh op b=false:=by first|exact rF _ (by decide) (by decide)|rfl):PT X (.Compare a [op] [b] pos) (tB t):=by
 intro pins s σ H Q I hw;refine O5 (FB (h pins s σ H _ I hw) fun v s1 h1=>FB h1 fun u s2 h2=>FB h2 fun c s3 ⟨x,H1,I1,r1,q1⟩=>?_) h1;obtain⟨d,rfl,q⟩:=q1;cases r1;exact Ng ⟨H1,I1,q⟩
theorem yV{t:TE}(h:PE X e t)(he:∀whole,isTrue e X.env whole=(do let v <- whole;OG e.pos;NF [v] (truthy v)):=by intro _;rfl):PT X e (tB t):=by
 intro pins s σ H Q I hw;refine isTrue_plain (FB (h pins s σ H _ I hw) fun v s1 ⟨x,H1,I1,r1,q1⟩=>?_) (he _);obtain⟨d,rfl,q⟩:=q1;cases r1;exact Ng ⟨H1,I1,q⟩
variable{tA tB':TT}{rest:List Expr}
def Ei(t u:TT):TT:=fun σ H Q=>t σ H fun c H1=>if c=true then u σ H1 Q else Q false H1
def FH(t u:TT):TT:=fun σ H Q=>t σ H fun c H1=>if c=true then Q true H1 else u σ H1 Q
def Eb(t:TT):TT:=fun σ H Q=>t σ H fun c H1=>Q (!c) H1
theorem vA(ha:PT X a tA):PW X (.BoolOp .And [a] pos) tA:=by
 intro wh pins s σ H Q I h;refine isTrue_and (FB (ha pins s σ H Q I h) fun c s1 e=>?_)
 cases c with
 | true=>exact isTrue_and_nil e
 | false=>exact e
theorem yT(ha:PT X a tA):PW X (.BoolOp .Or [a] pos) tA:=by
 intro wh pins s σ H Q I h;refine isTrue_or (FB (ha pins s σ H Q I h) fun c s1 e=>?_)
 cases c with
 | false=>exact isTrue_or_nil e
 | true=>exact e
theorem yU(ha:PT X a tA)(hb:PW X (.BoolOp .And (b::rest) pos) tB'):PW X (.BoolOp .And (a::b::rest) pos) (Ei tA tB'):=by
 intro wh pins s σ H Q I h;refine isTrue_and (FB (ha pins s σ H _ I h) fun c s1 ⟨H1,I1,q1⟩=>?_)
 cases c with
 | true=>exact hb wh pins s1 σ H1 Q I1 q1
 | false=>exact⟨H1,I1,q1⟩
theorem BJ(ha:PT X a tA)(hb:PW X (.BoolOp .Or (b::rest) pos) tB'):PW X (.BoolOp .Or (a::b::rest) pos) (FH tA tB'):=by
 intro wh pins s σ H Q I h;refine isTrue_or (FB (ha pins s σ H _ I h) fun c s1 ⟨H1,I1,q1⟩=>?_)
 cases c with
 | true=>exact⟨H1,I1,q1⟩
 | false=>exact hb wh pins s1 σ H1 Q I1 q1
theorem yW(ha:PT X a tA):PT X (.UnaryOp .Not a pos) (Eb tA):=by
 intro pins s σ H Q I h;exact isTrue_not (ha pins s σ H (fun c H1=>Q (!c) H1) I h)
def Ea(ta tb:TE):TE:=fun σ H Q=>ta σ H fun x H1=>∃c,x = .bl c/\if c=true then Q (.bl true) H1 else tb σ H1 Q
theorem zc{op}{t:TE}(h:PE X a t):PE X (.BoolOp op [a] pos) t:=fun pins s σ H Q I hw=>BoolOp_one (h pins s σ H Q I hw)
theorem BQ(ha:PE X a ta)(hb:PE X (.BoolOp .Or (b::rest) pos) tb):PE X (.BoolOp .Or (a::b::rest) pos) (Ea ta tb):=by
 intro pins s σ H Q I h;refine BoolOp_or (FB (ha pins s σ H _ I h) fun v s1 ⟨x,H1,I1,r1,q1⟩=>?_);obtain⟨c,rfl,q1⟩:=q1;cases r1;refine Ng ?_
 cases c with
 | false=>exact hb pins s1 σ H1 Q I1 q1
 | true=>exact⟨.bl true,H1,I1,rfl,q1⟩
def FK(t:TT)(ta tb:TE):TE:=fun σ H Q=>t σ H fun c H1=>if c=true then ta σ H1 Q else tb σ H1 Q
theorem re{c:Expr}(hc:PT X c tA)(ha:PE X a ta)(hb:PE X b tb):PE X (.IfExp c a b pos) (FK tA ta tb):=by
 intro pins s σ H Q I h;refine wpAny_IfExp (FB (hc pins s σ H _ I h) fun d s1 ⟨H1,I1,q1⟩=>?_)
 cases d with
 | true=>exact ha pins s1 σ H1 Q I1 q1
 | false=>exact hb pins s1 σ H1 Q I1 q1
end
def HJ(K:W.Frag)(H:Hp)(a:Addr)(xs:List V):Prop :=
 Rd H a (.lst xs) \/
  ∃(o:Obj)(its:Array I0)(n:Nat),K.lookup a=some o/\o.cls = .type "list" /\ o.dict=none/\o.data = .seq its n/\its.size<=sizeLine/\bP xs its.toList
def HI(K:W.Frag)(H:Hp)(a:Addr)(xs:List V):Prop :=
 Rd H a (.tup xs) \/
  ∃(o:Obj)(its:Array I0)(n:Nat),K.lookup a=some o/\o.cls = .type "tuple" /\ o.data = .seq its n/\its.size<=sizeLine/\bP xs its.toList/\o.dict=none
def EI:I0->Option V
 | .none=>some .non
 | .bool b=>some (.bl b)
 | .int i _=>some (.int i)
 | .str x _=>some (.str x)
 | .bytes b _=>some (.byt b)
 | .float b _=>some (.flt b)
 | .ref a=>some (.ref a)
 | .type n=>some (.ty n)
 | _=>none
theorem RelV.abs{x:V}(r:RelV x u):EI u=some x:=by
 cases x with
 | non=>cases r;rfl
 | bl _=>cases r;rfl
 | int _=>obtain⟨t,rfl⟩:=r;rfl
 | str _=>obtain⟨t,rfl⟩:=r;rfl
 | byt _=>obtain⟨t,rfl⟩:=r;rfl
 | flt _=>obtain⟨t,rfl⟩:=r;rfl
 | ref _=>cases r;rfl
 | ty _=>cases r;rfl
theorem RelV.inj{x y:V}(r:RelV x u)(q:RelV y u):x=y:=JK (r.abs.symm.trans q.abs)
theorem bP.inj:∀{xs ys:List V}{us:List I0},bP xs us->bP ys us->xs=ys
 | _,_,_,.nil,.nil=>rfl
 | _,_,_,.cons r t,.cons r' t'=>by rw[r.inj r',bP.inj t t']
section
variable{X:Cx}{pins:List (Addr×Obj)}{σ:St}{H:Hp}{s:Ja}{a:Addr}{xs ys:List V}
theorem HJ.of{K:W.Frag}(h:H a=some (.lst xs)):HJ K H a xs:=.inl (.inl h)
theorem HI.of{K:W.Frag}(h:H a=some (.tup xs)):HI K H a xs:=.inl (.inl h)
theorem Inv.list(I:Inv X pins σ H s)(h:HJ X.K H a xs):∃its:List I0,bP xs its/\PlainL s.heap a its.toArray/\xs.length<=sizeLine:=by
 rcases h with h|⟨o,its,n,hk,hc,hd,hs,hz,r⟩
 · obtain⟨z,its,n,r,e⟩:=h.ok I.hok;exact⟨its,r,⟨_,n,e,rfl,rfl,rfl⟩,z⟩
 · refine⟨its.toList,r,⟨o,n,I.kIn a o hk,hc,hd,by simpa using hs⟩,?_⟩;have e:=r.length;simp only[NG]at e;omega
theorem Inv.tuple(I:Inv X pins σ H s)(h:HI X.K H a xs):∃its:List I0,bP xs its/\P6 s.heap a its.toArray/\xs.length<=sizeLine:=by
 rcases h with h|⟨o,its,n,hk,hc,hs,hz,r,hd⟩
 · obtain⟨z,its,r,p⟩:=h.ok I.hok;exact⟨its,r,p.tup,z⟩
 · refine⟨its.toList,r,⟨o,I.kIn a o hk,hc,n,by simpa using hs⟩,?_⟩;have e:=r.length;simp only[NG]at e;omega
theorem Inv.list_inj(I:Inv X pins σ H s)(h:HJ X.K H a xs)(h':HJ X.K H a ys):xs=ys:=by
 obtain⟨its,r,⟨o,n,e,_,_,d⟩,_⟩:=I.list h;obtain⟨its',r',⟨o',n',e',_,_,d'⟩,_⟩:=I.list h';rw[e]at e';cases e';rw[d]at d'
 injection d' with d1 _
 have:its=its':=by simpa using congrArg Array.toList d1
 subst this;exact r.inj r'
theorem Inv.tupleD(I:Inv X pins σ H s)(h:HI X.K H a xs):∃ob,s.heap.get? a=some ob/\ob.cls = .type "tuple" /\ ob.dict=none:=by
 rcases h with h|⟨o,its,n,hk,hc,hs,hz,r,hd⟩
 · obtain⟨z,its,r,⟨o,e1,e2,_,e3⟩⟩:=h.ok I.hok;exact⟨o,e1,e2,e3⟩
 · exact⟨o,I.kIn a o hk,hc,hd⟩
theorem Inv.tuple_inj(I:Inv X pins σ H s)(h:HI X.K H a xs)(h':HI X.K H a ys):xs=ys:=by
 obtain⟨its,r,⟨o,e,_,n,d⟩,_⟩:=I.tuple h;obtain⟨its',r',⟨o',e',_,n',d'⟩,_⟩:=I.tuple h';rw[e]at e';cases e';rw[d]at d'
 injection d' with d1 _
 have:its=its':=by simpa using congrArg Array.toList d1
 subst this;exact r.inj r'
end
abbrev Cx.wish(X:Cx)(E:I0->Ja->Prop):Cx:={X with xe:=E}
abbrev Cx.nox(X:Cx):Cx:=X.wish fun _ _=>False
theorem Cx.Ok.wish{X:Cx}(ok:X.Ok)(E:I0->Ja->Prop):(X.wish E).Ok :=
 ⟨ok.mod,ok.kind,ok.glob,ok.blt,ok.above,ok.inj,ok.has,ok.cab,ok.hd,ok.frames,ok.stk,ok.exf,ok.bs,ok.bsz,ok.noex,ok.exfs,ok.funs,ok.frf⟩
theorem Cx.Ok.unwish{X:Cx}(ok:(X.wish E).Ok):X.Ok :=
 ⟨ok.mod,ok.kind,ok.glob,ok.blt,ok.above,ok.inj,ok.has,ok.cab,ok.hd,ok.frames,ok.stk,ok.exf,ok.bs,ok.bsz,ok.noex,ok.exfs,ok.funs,ok.frf⟩
section
variable{X:Cx}{pins:List (Addr×Obj)}{σ:St}{H:Hp}{s:Ja}{E:I0->Ja->Prop}
theorem Inv.wish(I:Inv X pins σ H s)(E:I0->Ja->Prop):Inv (X.wish E) pins σ H s:=⟨I.ok.wish E,I.os,I.bare,I.base,I.loc,I.cell,I.free,I.freeC,I.pin,I.hok,I.len⟩
theorem Inv.unwish(I:Inv (X.wish E) pins σ H s):Inv X pins σ H s:=⟨I.ok.unwish,I.os,I.bare,I.base,I.loc,I.cell,I.free,I.freeC,I.pin,I.hok,I.len⟩
theorem SP.unwish{D:Ends}{f:Flow}{s':Ja}(h:SP (X.wish E) pins D f s'):SP X pins D f s':=by
 cases f with
 | next=>obtain⟨σ',H',I,q⟩:=h;exact⟨σ',H',I.unwish,q⟩
 | brk=>obtain⟨σ',H',I,q⟩:=h;exact⟨σ',H',I.unwish,q⟩
 | cont=>obtain⟨σ',H',I,q⟩:=h;exact⟨σ',H',I.unwish,q⟩
 | ret u=>obtain⟨v,σ',H',I,r,q⟩:=h;exact⟨v,σ',H',I.unwish,r,q⟩
theorem PE.nox{t:TE}(h:PE X.nox e t):PE X e t:=fun pins s σ H Q I hw =>
 JO (h pins s σ H Q (I.wish _) hw) (fun _ _ ⟨v,H',I',r,q⟩=>⟨v,H',I'.unwish,r,q⟩) fun _ _ z=>JR z
theorem PT.nox{t:TT}(h:PT X.nox e t):PT X e t:=fun pins s σ H Q I hw =>
 JO (h pins s σ H Q (I.wish _) hw) (fun _ _ ⟨H',I',q⟩=>⟨H',I'.unwish,q⟩) fun _ _ z=>JR z
theorem HU.nox{st:List Stmt}{t:TS}(h:HU X.nox st t):HU X st t:=fun pins s σ H D I hw =>
 JO (h pins s σ H D (I.wish _) hw) (fun _ _ q=>q.unwish) fun _ _ z=>JR z
end
section
variable{X:Cx}{st:Stmt}{rest:List Stmt}{t u:TS}{e:Expr}{te:TE}{pos:Pos}
def Bw:TS:=fun D σ H=>D.nx σ H
def D8(t u:TS):TS:=fun D σ H=>t {D with nx:=u D} σ H
theorem vE:HU X [] Bw:=fun _ _ σ H _ I h=>NH ⟨σ,H,I,h⟩
theorem cC(h1:PS X st t)(h2:HU X rest u):HU X (st::rest) (D8 t u):=by
 intro pins s σ H D I h;refine wpAny_execs_cons (FB (h1 pins s σ H {D with nx:=u D} I h) fun f s1 q=>?_)
 cases f with
 | next =>
   obtain⟨σ',H',I',q⟩:=q
   exact h2 pins s1 σ' H' D I' q
 | ret v=>exact q
 | brk=>exact q
 | cont=>exact q
theorem jB(h1:PS X st t):HU X [st] t:=by
 intro pins s σ H D I h;refine wpAny_execs_cons (FB (h1 pins s σ H D I h) fun f s1 q=>?_)
 cases f with
 | next=>exact NH q
 | ret v=>exact q
 | brk=>exact q
 | cont=>exact q
theorem Inv.quiet{σ:St}{H:Hp}(I:Inv X pins σ H s):interactive X.env=false:=by simp[interactive,I.ok.kind]
def Bx(te:TE):TS:=fun D σ H=>te σ H fun _ H1=>D.nx σ H1
theorem oy(he:PE X e te)(hs:K4 e none pos.line X.env=pure false:=by rfl):PS X (.Expr e pos) (Bx te):=by
 intro pins s σ H D I h;exact wpAny_Expr_any (FB (he pins s σ H _ I h) fun v s1 ⟨x,H1,I1,r1,q1⟩=>⟨σ,H1,I1,q1⟩) I.quiet hs
def D9(te:TE):TS:=fun D σ H=>te σ H D.rt
theorem kK(he:PE X e te):PS X (.Return (some e) pos) (D9 te):=by
 intro pins s σ H D I h;exact wpAny_Return_some (FB (he pins s σ H _ I h) fun v s1 ⟨x,H1,I1,r1,q1⟩=>⟨x,σ,H1,I1,r1,q1⟩)
def Ed(c:TT)(t u:TS):TS:=fun D σ H=>c σ H fun b H1=>if b=true then t D σ H1 else u D σ H1
theorem yZ{c:Expr}{a b:List Stmt}{tc:TT}(hc:PT X c tc)(ha:HU X a t)(hb:HU X b u):PS X (.If c a b pos) (Ed tc t u):=by
 intro pins s σ H D I h;refine wpAny_If (FB (hc pins s σ H _ I h) fun d s1 ⟨H1,I1,q1⟩=>?_)
 cases d with
 | true=>exact ha pins s1 σ H1 D I1 q1
 | false=>exact hb pins s1 σ H1 D I1 q1
end
abbrev TG:=V->St->Hp->(St->Hp->Prop)->Prop
abbrev HH:=List V->St->Hp->(St->Hp->Prop)->Prop
def PG(X:Cx)(target:Expr)(t:TG):Prop :=
 ∀ (pins:List (Addr×Obj))(s:Ja)(σ:St)(H:Hp)(v:V)(u:I0)(Q:St->Hp->Prop),Inv X pins σ H s->RelV v u->t v σ H Q ->
   Jr (JE X.prog X.w) X.A (L0 target X.env u) (fun _ s'=>∃σ' H',Inv X pins σ' H' s'/\Q σ' H') X.xe s
def H0(X:Cx)(ts:List Expr)(t:HH):Prop :=
 ∀ (pins:List (Addr×Obj))(s:Ja)(σ:St)(H:Hp)(vs:List V)(us:List I0)(Q:St->Hp->Prop),Inv X pins σ H s->bP vs us->t vs σ H Q ->
   Jr (JE X.prog X.w) X.A (P0 ((KO ts X.env).map (·.2)) us) (fun _ s'=>∃σ' H',Inv X pins σ' H' s'/\Q σ' H') X.xe s
abbrev CN:=V->V->V->Hp->(Hp->Prop)->Prop
def DS(X:Cx)(t:CN):Prop :=
 ∀ (pins:List (Addr×Obj))(s:Ja)(σ:St)(H:Hp)(o i v:V)(ov iv u:I0)(Q:Hp->Prop),Inv X pins σ H s->RelV o ov->RelV i iv->RelV v u->t o i v H Q ->
   Jr (JE X.prog X.w) X.A (QG ov iv u) (fun _ s'=>∃H',Inv X pins σ H' s'/\Q H') X.xe s
abbrev HF:=V->V->Hp->VK->Prop
def HX(X:Cx)(op:Qo)(t:HF):Prop :=
 ∀ (pins:List (Addr×Obj))(s:Ja)(σ:St)(H:Hp)(x y:V)(v u:I0)(Q:VK),Inv X pins σ H s->RelV x v->RelV y u->t x y H Q ->
   Jr (JE X.prog X.w) X.A (Qr op v u) (EP X pins σ Q) X.xe s
section
variable{X:Cx}{pos:Pos}
def iQ(i:Nat):TG:=fun v σ H Q=>Q (σ.set i (some v)) H
theorem hG{i:Nat}{x:Str}(hN:X.N.Nodup)(hi:X.N[i]?=some x)(hx:Loc X.env.scope x)(hf:X.fn x=true\/X.env.scope.names.lookup x=some .local:=by first|exact .inl rfl|exact .inr rfl|assumption):PG X (.Name x pos) (iQ i):=by
 intro pins s σ H v u Q I r h;exact Op (du I hN hi hx r (fun s' I'=>⟨_,H,I',h⟩) hf)
def Ez:HH:=fun vs σ H Q=>vs=[]/\Q σ H
def Co(t:TG)(u:HH):HH:=fun vs σ H Q=>∃v r,vs=v::r/\t v σ H fun σ' H'=>u r σ' H' Q
theorem oF:H0 X [] Ez:=by
 intro pins s σ H vs us Q I r h;obtain⟨e,h⟩:=h;subst e;cases r;exact assignInOrder_nil ⟨σ,H,I,h⟩
theorem hE{es:List Expr}{t:TG}{u:HH}(h1:PG X e t)(h2:H0 X es u)
 (hs:(KO (e::es) X.env).map (·.2)=L0 e X.env::(KO es X.env).map (·.2):=by rfl):H0 X (e::es) (Co t u):=by
 intro pins s σ H vs us Q I r h;obtain⟨v,vr,e1,h⟩:=h;subst e1
 cases r with
 | cons r rr =>
   rw[hs];refine N3 (FB (h1 pins s σ H _ _ _ I r h) fun _ s1 ⟨σ1,H1,I1,q1⟩=>?_);exact h2 pins s1 σ1 H1 _ _ Q I1 rr q1
def Ex(K:W.Frag)(n:Nat)(t:HH):TG:=fun v σ H Q=>∃a xs,v = .ref a/\HI K H a xs/\xs.length=n/\t xs σ H Q
theorem tP{es:List Expr}{k:Nat}{t:HH}(hc:X.calm=true)(h:H0 X es t)
 (hn:(KO es X.env).length=n:=by rfl)(hst:(KO es X.env).findIdx? (·.1)=none:=by rfl):PG X (.Tuple es k pos) (Ex X.K n t):=by
 intro pins s σ H v u Q I r hw;obtain⟨a,xs,e1,hq,hl,hw⟩:=hw;subst e1;cases r;obtain⟨its,rv,ht,hz⟩:=I.tuple hq;refine assign_Tuple_tuple (I.ok.hd hc) ht (by simp[hn,<- hl,rv.length]) hst fun h' hx=>?_;have I1:Inv X pins σ H {s with heap:=h' }:=I.kept (t':=s.toks) fun b o e=>hx b o (JS (Jg e)) e;exact h pins _ σ H xs _ Q I1 (by simpa using rv) hw
def Ey(to ti:TE)(t:CN):TG:=fun v σ H Q=>to σ H fun o H1=>ti σ H1 fun i H2=>t o i v H2 fun H3=>Q σ H3
theorem tQ{o i:Expr}{to ti:TE}{t:CN}(ho:PE X o to)(hi:PE X i ti)(hs:DS X t)
 (ha:∀v,L0 (.Subscript o i pos) X.env v=(do
  let ov <- NF [v] (eval o X.env)
  let iv <- NF [v,ov] (eval i X.env)
  OG pos
  NF [v,ov,iv] (QG ov iv v)
  release [v,ov,iv] []):=by intro _;rfl):PG X (.Subscript o i pos) (Ey to ti t):=by
 intro pins s σ H v u Q I r h;rw[ha];refine IR (Lr (FB (ho pins s σ H _ I h) fun ov s1 ⟨x,H1,I1,r1,q1⟩=>?_));refine IR (Lr (FB (hi pins s1 σ H1 _ I1 q1) fun iv s2 ⟨y,H2,I2,r2,q2⟩=>?_));refine IR (K7 (IR (Lr (FB (hs pins s2 σ H2 x y v ov iv u _ I2 r1 r2 r q2) fun _ s3 ⟨H3,I3,q3⟩=>?_))));exact wpAny_release ⟨σ,H3,I3,q3⟩
def AO(te:TE)(g:TG):TS:=fun D σ H=>te σ H fun x H1=>g x σ H1 D.nx
theorem iJ{te:TE}{g:TG}(he:PE X e te)(hg:PG X tg g)(hs:L8 [tg] e pos.line X.env=pure false:=by rfl)(hw:L9 [tg] e X.env=pure none:=by rfl)
 (h1:(KO [tg] X.env).map (·.2)=[L0 tg X.env]:=by rfl):PS X (.Assign [tg] e pos) (AO te g):=by
 intro pins s σ H D I h;refine wpAny_Assign_stores (FB (he pins s σ H _ I h) fun v s1 ⟨x,H1,I1,r1,q1⟩=>?_) hs hw;rw[h1];exact FB (hg pins s1 σ H1 x v _ I1 r1 q1) fun _ s2 q=>q
theorem gz{i:Nat}{x:Str}{te:TE}(hN:X.N.Nodup)(hi:X.N[i]?=some x)(hx:Loc X.env.scope x)(he:PE X e te)(hs:K4 e (some (.Name x pos')) pos.line X.env=pure false:=by rfl)(hf:X.fn x=true\/X.env.scope.names.lookup x=some .local:=by first|exact .inl rfl|exact .inr rfl|assumption) :
 PS X (.Assign [.Name x pos'] e pos) (AO te (iQ i)):=by
 intro pins s σ H D I h;refine wpAny_Assign_Name (FB (he pins s σ H _ I h) fun v s1 ⟨y,H1,I1,r1,q1⟩=>?_) hs;exact du I1 hN hi hx r1 (fun s2 I2=>⟨_,H1,I2,q1⟩) hf
def D_(i j:Nat)(ta:TA):TS:=fun D σ H=>ta σ H fun vs H1=>∃v w,vs=[v,w]/\D.nx ((σ.set i (some v)).set j (some w)) H1
theorem yY{i:Nat}{x y:Str}{a b:Expr}{ta:TA}{py pt:Pos}{kt k2 pt2}(hc:X.calm=true)(hN:X.N.Nodup)(hi:X.N[i]?=some x)(hj:X.N[j]?=some y)(hij:i≠j)
 (hx:X.env.scope.names.lookup x=some .local)(hy:X.env.scope.names.lookup y=some .local)(ha:PA X [a,b] ta)
 (hw:L9 [.Tuple [.Name x px,.Name y py] kt pt] (.Tuple [a,b] k2 pt2) X.env=pure (some [x,y]))
 (hs:L8 [.Tuple [.Name x px,.Name y py] kt pt] (.Tuple [a,b] k2 pt2) pos.line X.env=pure false:=by rfl) :
 PS X (.Assign [.Tuple [.Name x px,.Name y py] kt pt] (.Tuple [a,b] k2 pt2) pos) (D_ i j ta):=by
 intro pins s σ H D I h;rw[exec_Assign_arm];refine IR (K7 ?_);rw[hs];refine IR (IZ ?_);rw[if_neg (by decide)];refine IR (Tuple_ (FB (ha _ pins s σ H _ I h) fun us s1 ⟨vs,H1,I1,r1,q1⟩=>?_));obtain⟨v,w,e1,q1⟩:=q1;subst e1
 obtain⟨u1,u2,rfl,rv,rw'⟩:∃u1 u2,us=[u1,u2]/\RelV v u1/\RelV w u2:=by
  cases r1 with
  | cons p q =>
    cases q with
    | cons p' q' =>
      cases q';exact⟨_,_,rfl,p,p'⟩
 refine JX ?_ (by show 2<=sizeLine;decide);have I2:Inv X pins σ H1 {s1 with heap:=s1.heap.push {cls:=.type "tuple", data:=.seq [u1,u2].toArray}}:=I1.kept (t':=s1.toks) fun b o e=>IW _ e;rw[hw];refine IR (IZ ?_);show Jr (JE X.prog X.w) X.A (do rule "assign.swapped-stores"; let items <- unpackItems (.ref s1.heap.objs.size) 2 none;P0 [fun v=>bindName X.env y v,fun v=>bindName X.env x v] items.reverse;pure Flow.next) _ _ _;refine IR (MK (IR (unpackItems_tuple (items:=#[u1,u2]) (I.ok.hd hc) (P6.new s1.heap _) fun h' hx'=>?_)));have I3:=I2.kept (h':=h') (t':=s1.toks) fun b o e=>hx' b o (JS (Jg e)) e;show Jr _ _ (P0 [fun v=>bindName X.env y v,fun v=>bindName X.env x v] [u2,u1] >>= fun _=>pure Flow.next) _ _ _;refine IR (N3 (wpAny_bindName (du I3 hN hj (.inl hy) rw' (fun s2 I4=>?_) (.inr hy))));refine N3 (wpAny_bindName (du I4 hN hi (.inl hx) rv (fun s3 I5=>assignInOrder_nil (IZ ?_)) (.inr hx)));rw[List.set_comm _ _ (Nf hij)]at I5;exact⟨_,H1,I5,q1⟩
def Eh(i:Nat)(te:TE)(ti:HF):TS:=fun D σ H=>∃x,σ[i]?=some (some x)/\te σ H fun y H1=>ti x y H1 fun z H2=>D.nx (σ.set i (some z)) H2
theorem y7{i:Nat}{x:Str}{te:TE}{op:Qo}{ti:HF}(hN:X.N.Nodup)(hi:X.N[i]?=some x)(hx:Loc X.env.scope x)(he:PE X e te)(ho:HX X op ti)(hf:X.fn x=true\/X.env.scope.names.lookup x=some .local:=by first|exact .inl rfl|exact .inr rfl|assumption) :
 PS X (.AugAssign (.Name x pos') op e pos) (Eh i te ti):=by
 intro pins s σ H D I h;obtain⟨v,e1,h⟩:=h;obtain⟨m,hn,hl⟩:=I.loc;have vis:Hw X.env.scope x:=by rcases hx with k|k;exact .inl k;exact .inr (.inl k)
 obtain⟨u,r,l⟩:=hl i x v hi e1 vis;refine wpAny_AugAssign_Name ?_
 have go:Jr (JE X.prog X.w) X.A (eval e X.env) (fun w s₂=>Jr (JE X.prog X.w) X.A (Qr op u w) (fun r s₃=>Jr (JE X.prog X.w) X.A (storeName X.env x r) (fun _=>SP X pins D .next) X.xe s₃) X.xe s₂) X.xe s:=by
  refine FB (he pins s σ H _ I h) fun w s1 ⟨y,H1,I1,r1,q1⟩=>?_;refine FB (ho pins s1 σ H1 v y u w _ I1 r r1 q1) fun z s2 ⟨zv,H2,I2,r2,q2⟩=>?_;exact du I2 hN hi hx r2 (fun s3 I3=>⟨_,H2,I3,q2⟩) hf
 rcases l with⟨hk,hm⟩|⟨hk,c,hc,hcell⟩
 · exact Pv I.ok.kind hk hn hm go
 · rcases hk with hk|hk
   · exact PL I.ok.kind hk hc hcell go
   · rcases hx with k|k
     · have:X.env.scope.names.lookup x=some .free:=hk;rw[k]at this;cases this
     · have:X.env.scope.names.lookup x=some .free:=hk;rw[k]at this;cases this
end
section
variable{X:Cx}{pos:Pos}
def yw(c:TT)(tb:TS):TS:=fun D σ H=>∃W:Nat->St->Hp->Prop,(∃m,W m σ H)/\∀m σ H,W m σ H ->
 c σ H fun b H1=>if b=true then ∃N:St->Hp->Prop,(∀σ' H',N σ' H'->∃m',m'<m/\W m' σ' H')/\tb {D with nx:=N,ct:=N,bk:=D.nx} σ H1 else D.nx σ H1
theorem qW{c:Expr}{body:List Stmt}{tc:TT}{tb:TS}(hp:P1 (JE X.prog X.w) X.A X.env X.xe)(hc:PT X c tc)(hb:HU X body tb):PS X (.While c body [] pos) (yw tc tb):=by
 intro pins s σ H D I h;obtain⟨W,⟨m0,w0⟩,turn⟩:=h;refine wpAny_While (codeAny_whileLoop (fun n s'=>∃σ' H',Inv X pins σ' H' s'/\W n σ' H') ?_ m0 ⟨σ,H,I,w0⟩);rintro n s1 ⟨σ1,H1,I1,w1⟩;refine L1 hp (FB (hc pins s1 σ1 H1 _ I1 (turn n σ1 H1 w1)) fun b s2 ⟨H2,I2,q2⟩=>?_)
 cases b with
 | true =>
   obtain⟨N,hN,q2⟩:=q2;rw[if_pos rfl];refine L1 hp (FB (hb pins s2 σ1 H2 _ I2 q2) fun f s3 q3=>?_)
   cases f with
   | next =>
     obtain⟨σ3,H3,I3,n3⟩:=q3;obtain⟨m',hm,w3⟩:=hN σ3 H3 n3
     exact⟨m',hm,σ3,H3,I3,w3⟩
   | cont =>
     obtain⟨σ3,H3,I3,n3⟩:=q3;obtain⟨m',hm,w3⟩:=hN σ3 H3 n3
     exact⟨m',hm,σ3,H3,I3,w3⟩
   | brk=>exact q3
   | ret v=>exact q3
 | false =>
   rw[if_neg J5];exact NH ⟨σ1,H2,I2,q2⟩
end
structure It where
 go:Nat->Hp->Prop
 yld:Nat->Hp->V->Hp->Prop
 stop:Nat->Hp->Prop
def jf(X:Cx)(pins:List (Addr×Obj))(H:Hp)(b:Addr):Prop :=
 H b=none/\b≠X.env.locals/\b∉X.fs/\(b∈X.ex\/X.s₀.heap.objs.size<=b)/\(∀x c,X.env.cells.lookup x=some c->c≠b)/\∀p∈X.pn++pins,p.1≠b
theorem Inv.fpOk{X:Cx}{σ:St}{H H':Hp}{b:Addr}(I:Inv X pins σ H s)(hb:s.heap.objs.size<=b)(hn:H' b=none):jf X pins H' b:=by
 refine⟨hn,Mq (Jh I.lt hb),I.nofs hb,.inr (JF I.sz hb),fun x c e z=>?_,fun p hp z=>?_⟩
 · obtain⟨v,q⟩:=I.cell x c e;exact absurd (Jh q.lt (by rw[z];exact hb)) (Ki _)
 · exact absurd (Jh (Jg (I.pin p hp).1) (by rw[z];exact hb)) (Ki _)
structure Turn (P:Ju) (w:Kh) (K:W.Frag) (tg:Expr) (J:It) (fp:List Addr) (it:Addr) (tn:Nat->Heap->Prop):Prop where
 mem:it∈fp
 obj:∀i h,tn i h->∀b∈fp,∃o,h.get? b=some o/\∀v,o.data ≠ .cell v
 keep:∀i h h',tn i h->(∀b∈fp,∀o,h.get? b=some o->h'.get? b=some o)->tn i h'
 item:∀(X:Cx),X.prog=P->X.w=w->X.K=K->X.calm=true->∀(i:Nat)(pins:List (Addr×Obj))(s:Ja)(σ:St)(H:Hp)(E:I0->Ja->Prop),Inv X pins σ H s->(∀b∈fp,jf X pins H b)->tn i s.heap->J.go i H ->
  Jr (JE P w) X.A (NJ (.ref it)) (fun r s1=>∃u,r=some u /\
   Jr (JE P w) X.A (Ll tg (.ref it) u) (fun _ s2=>∃x H',Inv X pins σ H' s2/\RelV x u/\J.yld i H x H'/\tn (i+1) s2.heap/\∀b∈fp,H' b=none) E s1) E s
 done:∀(X:Cx),X.prog=P->X.w=w->X.K=K->X.calm=true->∀(i:Nat)(pins:List (Addr×Obj))(s:Ja)(σ:St)(H:Hp)(E:I0->Ja->Prop),Inv X pins σ H s->(∀b∈fp,jf X pins H b)->tn i s.heap->J.stop i H ->
  Jr (JE P w) X.A (NJ (.ref it)) (fun r s1=>r=none/\Inv X pins σ H s1) E s
 self:∀(A:Ko)(i:Nat)(s:Ja)(Q:I0->Ja->Prop)(E:I0->Ja->Prop),tn i s.heap->Q (.ref it) s->Jr (JE P w) A (Qb (.ref it)) Q E s
abbrev TI:=St->Hp->(It->Hp->Prop)->Prop
def HZ(X:Cx)(pins:List (Addr×Obj))(σ:St)(tg:Expr)(R:It->Hp->Prop)(itv:I0)(s2:Ja):Prop :=
 ∃(it:Addr)(fp:List Addr)(tn:Nat->Heap->Prop)(J:It)(H':Hp),itv = .ref it/\Inv X pins σ H' s2/\Turn X.prog X.w X.K tg J fp it tn/\tn 0 s2.heap/\(∀b∈fp,jf X pins H' b)/\R J H'
def PI(X:Cx)(tg iter:Expr)(wi:TI):Prop :=
 ∀ (pins:List (Addr×Obj))(s:Ja)(σ:St)(H:Hp)(R:It->Hp->Prop),Inv X pins σ H s->wi σ H R ->
   Jr (JE X.prog X.w) X.A (eval iter X.env) (fun v s1=>Jr (JE X.prog X.w) X.A (Qb v) (HZ X pins σ tg R) X.xe s1) X.xe s
theorem mB{M:Model}{n:String}{vs:Array I0}{Q:Unit->Ja->Prop}(ho:s.heap.get? it=some o)(hc:o.cls = .type n)(hd:o.data = .fields vs)
 (hn:["enumerate", "zip", "dict_itemiterator", "dict_reverseitemiterator", "odict_iterator", "itertools.zip_longest", "itertools.pairwise"].contains n=false)(hQ:Q () s):Jr M A (Ll tg (.ref it) u) Q E s:=by
 unfold Ll
 cases tg<;>first
  | exact IZ hQ
  | (cases u<;>first
      | exact IZ hQ
      | (refine IR (wpAny_load ho ?_)
         rw[hc,hd];show Jr M A (if(["enumerate", "zip", "dict_itemiterator", "dict_reverseitemiterator", "odict_iterator", "itertools.zip_longest", "itertools.pairwise"].contains n&&vs[0]?==some (Oq _))=true then _ else _) Q E s;rw[if_neg (by intro h;rw[hn,Bool.false_and]at h;cases h)]
         exact IZ hQ))
def Ip(K:W.Frag)(a:Addr):It :=
 ⟨fun i H=>∃xs x,HJ K H a xs/\xs[i]?=some x,fun i H x H'=>H'=H/\∀xs,HJ K H a xs->xs[i]?=some x,fun i H=>∃xs,HJ K H a xs/\xs.length<=i⟩
def Im(K:W.Frag)(a:Addr):It :=
 ⟨fun i H=>∃xs x,HI K H a xs/\xs[i]?=some x,fun i H x H'=>H'=H/\∀xs,HI K H a xs->xs[i]?=some x,fun i H=>∃xs,HI K H a xs/\xs.length<=i⟩
def Io(lo:Int)(n:Nat):It:=⟨fun i _=>i<n,fun i H x H'=>H'=H/\x = .int (lo+i),fun i _=>n<=i⟩
theorem nG{w:Kh}{K:W.Frag}(a it:Addr):Turn P w K tg (Ip K a) [it] it (fun i h=>h.IsListIter it a i) where
 mem:=by simp
 obj:=fun i h st b hb=>by
  have e:b=it:=by simpa using hb
  subst e;obtain⟨o,e,c,d⟩:=st;exact⟨o,e,fun v z=>by rw[d]at z;cases z⟩
 keep:=fun i h h' st k=>st.at fun o e=>k it (by simp) o e
 item:=by
  intro X hP hw hK hc i pins s σ H E I hf st hg;subst hP hw hK;obtain⟨xs,x,hq,hx⟩:=hg;obtain⟨its,rv,p,hz⟩:=I.list hq;obtain⟨u,hu,ru⟩:=rv.get hx;obtain⟨f0,f1,f2,f3,f4,f5⟩:=hf it (by simp);refine wpAny_pyNext_list_item st p.isList (x:=u) (by simpa using hu) fun h' st' sb=>?_;have I1:Inv X pins σ H {s with heap:=h' }:=I.turned (t':=s.toks) (fun b o hb e=>(sb.2 b hb).trans e) f0 f1 f3 f4 f5;obtain⟨o,e,c,d⟩:=id st';exact⟨u,rfl,mB (s:={s with heap:=h' }) e c d (by decide) ⟨x,H,I1,ru,⟨rfl,fun ys hy=>by rw[I.list_inj hy hq];exact hx⟩,st',fun b hb=>(hf b hb).1⟩⟩
 done:=by
  intro X hP hw hK hc i pins s σ H E I hf st hg;subst hP hw hK;obtain⟨xs,hq,hx⟩:=hg;obtain⟨its,rv,p,hz⟩:=I.list hq;obtain⟨f0,f1,f2,f3,f4,f5⟩:=hf it (by simp);have hl:=rv.length;exact wpAny_pyNext_list_end (I.ok.hd hc) st p.isList (by simp;omega) fun h' eb=>⟨rfl,I.turned (t':=s.toks) (fun b o hb e=>eb b o hb e) f0 f1 f3 f4 f5⟩
 self:=fun _ _ _ _ _ st h=>wpAny_pyIter_listiter st h
theorem lN{w:Kh}{K:W.Frag}(a it:Addr):Turn P w K tg (Im K a) [it] it (fun i h=>h.IsTupleIter it a i) where
 mem:=by simp
 obj:=fun i h st b hb=>by
  have e:b=it:=by simpa using hb
  subst e;obtain⟨o,e,c,d⟩:=st;exact⟨o,e,fun v z=>by rw[d]at z;cases z⟩
 keep:=fun i h h' st k=>st.at fun o e=>k it (by simp) o e
 item:=by
  intro X hP hw hK hc i pins s σ H E I hf st hg;subst hP hw hK;obtain⟨xs,x,hq,hx⟩:=hg;obtain⟨its,rv,p,hz⟩:=I.tuple hq;obtain⟨u,hu,ru⟩:=rv.get hx;obtain⟨f0,f1,f2,f3,f4,f5⟩:=hf it (by simp);refine wpAny_pyNext_tuple_item st (show s.heap.IsTuple a its.toArray from p) (x:=u) (by simpa using hu) fun h' st' sb=>?_;have I1:Inv X pins σ H {s with heap:=h' }:=I.turned (t':=s.toks) (fun b o hb e=>(sb.2 b hb).trans e) f0 f1 f3 f4 f5;obtain⟨o,e,c,d⟩:=id st';exact⟨u,rfl,mB (s:={s with heap:=h' }) e c d (by decide) ⟨x,H,I1,ru,⟨rfl,fun ys hy=>by rw[I.tuple_inj hy hq];exact hx⟩,st',fun b hb=>(hf b hb).1⟩⟩
 done:=by
  intro X hP hw hK hc i pins s σ H E I hf st hg;subst hP hw hK;obtain⟨xs,hq,hx⟩:=hg;obtain⟨its,rv,p,hz⟩:=I.tuple hq;obtain⟨f0,f1,f2,f3,f4,f5⟩:=hf it (by simp);have hl:=rv.length;exact wpAny_pyNext_tuple_end (I.ok.hd hc) st (show s.heap.IsTuple a its.toArray from p) (by simp;omega) fun h' eb=>⟨rfl,I.turned (t':=s.toks) (fun b o hb e=>eb b o hb e) f0 f1 f3 f4 f5⟩
 self:=fun _ _ _ _ _ st h=>wpAny_pyIter_tupleiter st h
theorem lO{w:Kh}{K:W.Frag}(it:Addr)(lo:Int)(n:Nat):Turn P w K tg (Io lo n) [it] it (fun i h=>PM h it (lo+(i:Nat)*1) ((n:Int)-(i:Nat)) 1) where
 mem:=by simp
 obj:=fun i h st b hb=>by
  have e:b=it:=by simpa using hb
  subst e
  exact⟨_,st,fun v z=>by
   have z':Data.fields _=Data.cell v:=z
   cases z'⟩
 keep:=fun i h h' st k=>k it (by simp) _ st
 item:=by
  intro X hP hw hK hc i pins s σ H E I hf st hg;subst hP hw hK;obtain⟨f0,f1,f2,f3,f4,f5⟩:=hf it (by simp);have W:=Walks.range (prog:=X.prog) (w:=X.w) (I.ok.hd hc) it lo 1 n;refine W.item i s _ _ hg st fun v h' tk hv st' kk=>?_;obtain⟨t,rfl⟩:=hv;have I1:Inv X pins σ H {s with heap:=h',toks:=tk}:=I.turned (fun b o hb e=>kk b o (by simpa using hb) e) f0 f1 f3 f4 f5;refine⟨_,rfl,mB (s:={s with heap:=h',toks:=tk}) (n := "range_iterator") st' rfl rfl (by decide) ⟨.int (lo+i),H,I1,⟨t,?_⟩,⟨rfl,rfl⟩,st',fun b hb=>(hf b hb).1⟩⟩;rw[NK]
 done:=by
  intro X hP hw hK hc i pins s σ H E I hf st hg;subst hP hw hK;obtain⟨f0,f1,f2,f3,f4,f5⟩:=hf it (by simp);exact OU (I.ok.hd hc) st (by have:n<=i:=hg;omega) fun h' eb=>⟨rfl,I.turned (t':=s.toks) (fun b o hb e=>eb b o hb e) f0 f1 f3 f4 f5⟩
 self:=fun _ _ _ _ _ st h=>OV st h
section
variable{X:Cx}{tg:Expr}
def Ce(K:W.Frag)(tl:TE):TI:=fun σ H R=>tl σ H fun x H1=>∃a,x = .ref a/\(∃xs,HJ K H1 a xs)/\R (Ip K a) H1
def Ev(K:W.Frag)(tl:TE):TI:=fun σ H R=>tl σ H fun x H1=>∃a,x = .ref a/\(∃xs,HI K H1 a xs)/\R (Im K a) H1
theorem vM{l:Expr}{tl:TE}(hl:PE X l tl):PI X tg l (Ce X.K tl):=by
 intro pins s σ H R I h;refine FB (hl pins s σ H _ I h) fun v s1 ⟨x,H1,I1,r1,q1⟩=>?_;obtain⟨a,e,⟨xs,hq⟩,q⟩:=q1;subst e;cases r1;obtain⟨its,rv,p,hz⟩:=I1.list hq;refine wpAny_pyIter_list p.isList ?_;refine⟨s1.heap.objs.size,[s1.heap.objs.size],_,_,H1,rfl,I1.kept (t':=s1.toks) fun b o e=>IW _ e,nG a _,⟨_,Jk _ rfl,rfl,rfl⟩,fun b hb=>?_,q⟩;have e:b=s1.heap.objs.size:=by simpa using hb
 subst e;exact I1.fpOk (Jb _) (I1.hok.fresh (Jb _))
theorem za{l:Expr}{tl:TE}(hl:PE X l tl):PI X tg l (Ev X.K tl):=by
 intro pins s σ H R I h;refine FB (hl pins s σ H _ I h) fun v s1 ⟨x,H1,I1,r1,q1⟩=>?_;obtain⟨a,e,⟨xs,hq⟩,q⟩:=q1;subst e;cases r1;obtain⟨its,rv,p,hz⟩:=I1.tuple hq;refine N4 (show s1.heap.IsTuple a its.toArray from p) ?_;refine⟨s1.heap.objs.size,[s1.heap.objs.size],_,_,H1,rfl,I1.kept (t':=s1.toks) fun b o e=>IW _ e,lN a _,⟨_,Jk _ rfl,rfl,rfl⟩,fun b hb=>?_,q⟩;have e:b=s1.heap.objs.size:=by simpa using hb
 subst e;exact I1.fpOk (Jb _) (I1.hok.fresh (Jb _))
theorem kI{σ:St}{H:Hp}{R:It->Hp->Prop}{lo hi:Int}{t u v:Tok}{tk:Nat}(I:Inv X pins σ H s)(h1 : -(2^62)<=lo)(h2:lo<2^62)(h3 : -(2^62)<=hi)(h4:hi<2^62)
 (q:R (Io lo (hi-lo).toNat) H):Jr (JE X.prog X.w) X.A (Qb (.ref s.heap.objs.size)) (HZ X pins σ tg R) E {s with heap:=s.heap.push {cls:=.type "range", data:=.fields #[.int lo t,.int hi u,.int 1 v]},toks:=tk}:=by
 refine wpAny_pyIter_range (IsRange.new ..) (small_one h1 h2 h3 h4) ?_;have I1:Inv X pins σ H {s with heap:=s.heap.push {cls:=.type "range", data:=.fields #[.int lo t,.int hi u,.int 1 v]},toks:=tk}:=I.kept fun b o e=>IW _ e
 refine⟨(s.heap.push {cls:=.type "range", data:=.fields #[.int lo t,.int hi u,.int 1 v]}).objs.size,[(s.heap.push {cls:=.type "range", data:=.fields #[.int lo t,.int hi u,.int 1 v]}).objs.size],_,_,H,rfl,
  I1.kept (t':=tk) fun b o e=>IW _ e,lO _ lo (hi-lo).toNat,?_,fun b hb=>?_,q⟩
 · have e1:lo+((0:Nat):Int)*1=lo:=by simp
   have e2:(((hi-lo).toNat:Nat):Int)-((0:Nat):Int)=L_ lo hi 1:=by rw[rangeSize_one];split<;>omega
   show PM _ _ (lo+((0:Nat):Int)*1) ((((hi-lo).toNat:Nat):Int)-((0:Nat):Int)) 1;rw[e1,e2];exact Jk _ rfl
 · have e:b=(s.heap.push {cls:=.type "range", data:=.fields #[.int lo t,.int hi u,.int 1 v]}).objs.size:=by simpa using hb
   subst e;exact I1.fpOk (Jb _) (I1.hok.fresh (Jb _))
def Cd(ta:TA):TI:=fun σ H R=>ta σ H fun vs H1=>∃j:Int,vs=[.int j] /\ -(2^62)<=j/\j<2^62/\R (Io 0 j.toNat) H1
def Cc(ta:TA):TI:=fun σ H R=>ta σ H fun vs H1=>∃i j:Int,vs=[.int i,.int j]/\(-(2^62)<=i/\i<2^62 /\ -(2^62)<=j/\j<2^62)/\R (Io i (j-i).toNat) H1
theorem oE{a:Expr}{ta:TA}{p:Pos}(hg:Gl X "range")(hm:X.mg "range" = none)(ha:PA X [a] ta)(hs:Jc [a] X.env=[(false,eval a X.env)]:=by rfl):PI X tg (.Call (.Name "range" p) [a] [] pos) (Cd ta):=by
 intro pins s σ H R I h;refine Call_ (fG I hg hm boot_range (KR (FB (ha pos pins s σ H _ I h) fun us s1 ⟨vs,H1,I1,r1,q1⟩=>?_) hs rfl));obtain⟨j,e,q1,q2,q⟩:=q1;subst e
 cases r1 with
 | cons r rr =>
   cases rr;obtain⟨t,rfl⟩:=r;exact call_range_1 (kI I1 (by omega) (by omega) q1 q2 (by simpa using q))
theorem oD{a b:Expr}{ta:TA}{p:Pos}(hg:Gl X "range")(hm:X.mg "range" = none)(ha:PA X [a,b] ta)(hs:Jc [a,b] X.env=[(false,eval a X.env),(false,eval b X.env)]:=by rfl)(hs2:Jc [b] X.env=[(false,eval b X.env)]:=by rfl) :
 PI X tg (.Call (.Name "range" p) [a,b] [] pos) (Cc ta):=by
 intro pins s σ H R I h;refine Call_ (fG I hg hm boot_range (KR (FB (ha pos pins s σ H _ I h) fun us s1 ⟨vs,H1,I1,r1,q1⟩=>?_) (by rw[hs,hs2]) (by rw[hs2];rfl)));obtain⟨i,j,e,⟨q1,q2,q3,q4⟩,q⟩:=q1;subst e
 cases r1 with
 | cons r rr =>
   cases rr with
   | cons r' rr =>
     cases rr;obtain⟨t,rfl⟩:=r;obtain⟨t',rfl⟩:=r';exact call_range_2 (kI I1 q1 q2 q3 q4 q)
def Ee(wi:TI)(g:TG)(tb:TS):TS:=fun D σ H=>wi σ H fun J H1=>∃W:Nat->Nat->St->Hp->Prop,(∃m,W 0 m σ H1)/\∀i m σ H,W i m σ H ->
 (J.stop i H/\D.nx σ H)\/(J.go i H/\∃N:St->Hp->Prop,(∀σ' H',N σ' H'->∃m',m'<m/\W (i+1) m' σ' H')/\∀x H',J.yld i H x H'->g x σ H' fun σ2 H2=>tb {D with nx:=N,ct:=N,bk:=D.nx} σ2 H2)
def eB(fp:List Addr)(h:Heap):List (Addr×Obj):=fp.filterMap fun b=>(h.get? b).map fun o=>(b,o)
theorem bq{b:Addr}(hb:b∈fp)(e:h.get? b=some o):(b,o)∈eB fp h:=List.mem_filterMap.mpr ⟨b,hb,by rw[e];rfl⟩
theorem oQ{p:Addr×Obj}(hp:p∈eB fp h):p.1∈fp/\h.get? p.1=some p.2:=by
 obtain⟨b,hb,e⟩:=List.mem_filterMap.mp hp
 cases q:h.get? b with
 | none=>rw[q]at e;cases e
 | some o =>
   rw[q]at e;have e':(b,o)=p:=JK e;subst e';exact⟨hb,q⟩
theorem Inv.pinned{σ:St}{H:Hp}(I:Inv X pins σ H s)(hf:∀b∈fp,jf X pins H b)(ho:∀b∈fp,∃o,s.heap.get? b=some o/\∀v,o.data ≠ .cell v):Inv X (pins++eB fp s.heap) σ H s :=
 I.pins_of fun p hp=>(J3.mp hp).elim (fun z=>I.pin p (Jq _ z)) fun z=>by
  obtain⟨hb,e⟩:=oQ z;obtain⟨f0,f1,f2,_⟩:=hf p.1 hb;obtain⟨o,e',d⟩:=ho p.1 hb;rw[e]at e';cases e';exact⟨e,f0,f1,f2,d⟩
theorem Inv.unpinned{pl:List (Addr×Obj)}{σ:St}{H:Hp}(I:Inv X (pins++pl) σ H s):Inv X pins σ H s:=I.pins_of fun p hp=>I.pin p (Jq _ (Pu _ hp))
theorem tO{body:List Stmt}{wi:TI}{g:TG}{tb:TS}(hp:P1 (JE X.prog X.w) X.A X.env X.xe)(hc:X.calm=true)(hi:PI X tg iter wi)(hg:PG X tg g)(hb:HU X body tb)
 (hs:∀x,JI iter X.env x=pure x:=by intro _;rfl):PS X (.For tg iter body [] pos) (Ee wi g tb):=by
 intro pins s σ H D I h;refine wpAny_For (FB (hi pins s σ H _ I h) fun v s1 h1=>FB h1 fun itv s2 h2=>?_) hs;obtain⟨it,fp,tn,J,H2,e,I2,T,st2,f2,W,⟨m0,w0⟩,turn⟩:=h2;subst e;have stat:∀{H':Hp},(∀b∈fp,H' b=none)->∀b∈fp,jf X pins H' b:=fun hn b hb=>⟨hn b hb,(f2 b hb).2⟩;refine codeAny_forLoop_any (fun n s'=>∃i σ' H',Inv X pins σ' H' s'/\tn i s'.heap/\(∀b∈fp,H' b=none)/\W i n σ' H') ?_ m0 ⟨0,σ,H2,I2,st2,fun b hb=>(f2 b hb).1,w0⟩;rintro n s3 ⟨i,σ3,H3,I3,st3,fr3,w3⟩;rcases turn i n σ3 H3 w3 with⟨stop,qn⟩|⟨go,N,hN,step⟩
 · refine L1 hp (FB (T.done X rfl rfl rfl hc i pins s3 σ3 H3 X.xe I3 (stat fr3) st3 stop) fun r s4 ⟨hr,I4⟩=>?_);subst hr;exact NH ⟨σ3,H3,I4,qn⟩
 · refine L1 hp (FB (T.item X rfl rfl rfl hc i pins s3 σ3 H3 X.xe I3 (stat fr3) st3 go) fun r s4 ⟨u,hr,h4⟩=>?_);subst hr;refine L1 hp (FB h4 fun _ s5 ⟨x,H5,I5,r5,y5,st5,fr5⟩=>?_);have I5':=I5.pinned (stat fr5) (T.obj _ _ st5);refine L1 hp (FB (hg _ s5 σ3 H5 x u _ I5' r5 (step x H5 y5)) fun _ s6 ⟨σ6,H6,I6,q6⟩=>?_);refine L1 hp (FB (hb _ s6 σ6 H6 _ I6 q6) fun f s7 q7=>?_)
   have OW:∀{σ7:St}{H7:Hp},Inv X (pins++eB fp s5.heap) σ7 H7 s7->N σ7 H7->∃m,m<n/\∃i σ' H',Inv X pins σ' H' s7/\tn i s7.heap/\(∀b∈fp,H' b=none)/\W i m σ' H':=fun{σ7 H7} I7 n7=>by
    obtain⟨m',hm,w7⟩:=hN σ7 H7 n7;refine⟨m',hm,i+1,σ7,H7,I7.unpinned,T.keep _ _ _ st5 fun b hb o e=>(I7.pin (b,o) (Jq _ (Jq _ (bq hb e)))).1,fun b hb=>?_,w7⟩;obtain⟨o,e,d⟩:=T.obj _ _ st5 b hb;exact(I7.pin (b,o) (Jq _ (Jq _ (bq hb e)))).2.1
   cases f with
   | next=>obtain⟨σ7,H7,I7,n7⟩:=q7;exact OW I7 n7
   | cont=>obtain⟨σ7,H7,I7,n7⟩:=q7;exact OW I7 n7
   | brk=>obtain⟨σ7,H7,I7,q7⟩:=q7;exact⟨σ7,H7,I7.unpinned,q7⟩
   | ret v=>obtain⟨x7,σ7,H7,I7,r7,q7⟩:=q7;exact⟨x7,σ7,H7,I7.unpinned,r7,q7⟩
end
abbrev R2:=V->V->Hp->VK->Prop
def Ib(X:Cx)(f:I0->I0->Sem I0)(r:R2):Prop :=
 ∀ (pins:List (Addr×Obj))(s:Ja)(σ:St)(H:Hp)(x y:V)(v u:I0)(Q:VK),Inv X pins σ H s->RelV x v->RelV y u->r x y H Q ->
   Jr (JE X.prog X.w) X.A (f v u) (EP X pins σ Q) X.xe s
def HA(X:Cx)(f:I0->Sem I0)(r:V->Hp->VK->Prop):Prop :=
 ∀ (pins:List (Addr×Obj))(s:Ja)(σ:St)(H:Hp)(x:V)(v:I0)(Q:VK),Inv X pins σ H s->RelV x v->r x H Q ->
   Jr (JE X.prog X.w) X.A (f v) (EP X pins σ Q) X.xe s
def dg(X:Cx)(f:I0)(r:List V->Hp->VK->Prop):Prop :=
 ∀ (pins:List (Addr×Obj))(s:Ja)(σ:St)(H:Hp)(xs:List V)(us:List I0)(Q:VK),Inv X pins σ H s->bP xs us->r xs H Q ->
   Jr (JE X.prog X.w) X.A (call f us) (EP X pins σ Q) X.xe s
def FI(r:R2)(ta tb:TE):TE:=fun σ H Q=>ta σ H fun x H1=>tb σ H1 fun y H2=>r x y H2 Q
def FF(r:V->Hp->VK->Prop)(ta:TE):TE:=fun σ H Q=>ta σ H fun x H1=>r x H1 Q
def rI(C:Int->Int->Prop)(g:Int->Int->V):R2:=fun x y H Q=>∃i j,x = .int i/\y = .int j/\C i j/\Q (g i j) H
def Gc(g:Int->Int->V):R2:=fun x y H Q=>∃i j,x = .int i/\y = .int j/\Q (g i j) H
def rU(g:Int->V):V->Hp->VK->Prop:=fun x H Q=>∃i,x = .int i/\Q (g i) H
section
variable{X:Cx}{a b c:Expr}{ta tb tc:TE}{pos:Pos}
theorem CL(ha:PE X a ta)(hb:PE X b tb){σ:St}{H:Hp}{R:V->V->Hp->Prop}(I:Inv X pins σ H s)
 (h:ta σ H fun x H1=>tb σ H1 fun y H2=>R x y H2)
 (hf:∀v u s2 x y H2,Inv X pins σ H2 s2->RelV x v->RelV y u->R x y H2->Jr (JE X.prog X.w) X.A (f v u) Q X.xe s2) :
 Jr (JE X.prog X.w) X.A (eval a X.env) (fun v s₁=>Jr (JE X.prog X.w) X.A (eval b X.env) (fun u s₂=>Jr (JE X.prog X.w) X.A (f v u) Q X.xe s₂) X.xe s₁) X.xe s:=by
 refine FB (ha pins s σ H _ I h) fun v s1 ⟨x,H1,I1,r1,q1⟩=>?_;refine FB (hb pins s1 σ H1 _ I1 q1) fun u s2 ⟨y,H2,I2,r2,q2⟩=>?_;exact hf v u s2 x y H2 I2 r1 r2 q2
theorem zb{op:Qo}{r:R2}(ho:Ib X (Ma op) r)(ha:PE X a ta)(hb:PE X b tb):PE X (.BinOp a op b pos) (FI r ta tb):=by
 intro pins s σ H Q I h;exact wpAny_BinOp (CL ha hb I h fun v u s2 x y H2 I2 rx ry q=>ho pins s2 σ H2 x y v u Q I2 rx ry q)
theorem BP{op:UnaryOp}{r:V->Hp->VK->Prop}(ho:HA X (unaryOp op) r)(ha:PE X a ta):PE X (.UnaryOp op a pos) (FF r ta):=by
 intro pins s σ H Q I h;exact UnaryOp_ (FB (ha pins s σ H _ I h) fun v s1 ⟨x,H1,I1,r1,q1⟩=>ho pins s1 σ H1 x v Q I1 r1 q1)
theorem Gp{C:Int->Int->Prop}{g:Int->Int->Int}
 (rule:∀(i j:Int)(t u:Tok)(s:Ja)(Q:I0->Ja->Prop)(E:I0->Ja->Prop),C i j->Q (.int (g i j) s.toks) {s with toks:=s.toks+1}->Jr (JE X.prog X.w) X.A (f (.int i t) (.int j u)) Q E s) :
 Ib X f (rI C fun i j=>.int (g i j)):=by
 intro pins s σ H x y v u Q I rx ry h;obtain⟨i,j,rfl,rfl,hc,q⟩:=h;obtain⟨t,rfl⟩:=rx;obtain⟨t',rfl⟩:=ry;exact rule i j t t' s _ _ hc ⟨.int (g i j),H,I.tok _,⟨_,rfl⟩,q⟩
theorem DK{g:Int->Int->Int}
 (rule:∀(i j:Int)(t u:Tok)(s:Ja)(Q:I0->Ja->Prop)(E:I0->Ja->Prop),Q (.int (g i j) s.toks) {s with toks:=s.toks+1}->Jr (JE X.prog X.w) X.A (f (.int i t) (.int j u)) Q E s) :
 Ib X f (Gc fun i j=>.int (g i j)):=by
 intro pins s σ H x y v u Q I rx ry h;obtain⟨i,j,rfl,rfl,q⟩:=h;obtain⟨t,rfl⟩:=rx;obtain⟨t',rfl⟩:=ry;exact rule i j t t' s _ _ ⟨.int (g i j),H,I.tok _,⟨_,rfl⟩,q⟩
theorem DL{g:Int->Int->Bool}
 (rule:∀(i j:Int)(t u:Tok)(s:Ja)(Q:I0->Ja->Prop)(E:I0->Ja->Prop),Q (.bool (g i j)) s->Jr (JE X.prog X.w) X.A (f (.int i t) (.int j u)) Q E s) :
 Ib X f (Gc fun i j=>.bl (g i j)):=by
 intro pins s σ H x y v u Q I rx ry h;obtain⟨i,j,rfl,rfl,q⟩:=h;obtain⟨t,rfl⟩:=rx;obtain⟨t',rfl⟩:=ry;exact rule i j t t' s _ _ ⟨.bl (g i j),H,I,rfl,q⟩
def DY(i j:Int):Prop:=0<=j/\j<=1000000/\i.natAbs<2^64
def EL(i j:Int):Prop:=(-(2^64)<i/\i<2^64)\/(-(2^64)<j/\j<2^64)
theorem EL.ok{i j:Int}(h:EL i j):IntMulOk i j:=by
 rcases h with⟨h1,h2⟩|⟨h1,h2⟩
 · exact .of_left (intBits_le_64 h1 h2)
 · exact .of_right (intBits_le_64 h1 h2)
theorem tT:Ib X (Ma .Add) (Gc fun i j=>.int (i+j)):=DK fun _ _ _ _ _ _ _ q=>add_int q
theorem zn:Ib X (Ma .Sub) (Gc fun i j=>.int (i-j)):=DK fun _ _ _ _ _ _ _ q=>sub_int q
theorem vR:Ib X (Ma .Mod) (rI (fun _ j=>j≠0) fun i j=>.int (i.fmod j)):=Gp fun _ _ _ _ _ _ _ hc q=>mod_int' hc q
theorem zp:Ib X (Ma .Pow) (rI DY fun i j=>.int (i^j.toNat)):=Gp fun _ _ _ _ _ _ _ hc q=>pow_int_small hc.1 hc.2.1 hc.2.2 q
theorem Fu{f:I0->Sem I0}{g:Int->Int}
 (rule:∀(i:Int)(t:Tok)(s:Ja)(Q:I0->Ja->Prop)(E:I0->Ja->Prop),Q (.int (g i) s.toks) {s with toks:=s.toks+1}->Jr (JE X.prog X.w) X.A (f (.int i t)) Q E s) :
 HA X f (rU fun i=>.int (g i)):=by
 intro pins s σ H x v Q I rx h;obtain⟨i,rfl,q⟩:=h;obtain⟨t,rfl⟩:=rx;exact rule i t s _ _ ⟨.int (g i),H,I.tok _,⟨_,rfl⟩,q⟩
theorem ym:HA X (unaryOp .USub) (rU fun i=>.int (-i)):=Fu fun _ _ _ _ _ q=>neg_int q
end
def Ej:V->V->Bool
 | .non,.non=>true | .non,.int _=>true | .int _,.non=>true | .non,.bl _=>true | .bl _,.non=>true | .non,.str _=>true | .str _,.non=>true
 | .int _,.int _=>true | .bl _,.bl _=>true | .str _,.str _=>true | .byt _,.byt _=>true
 | .int _,.str _=>true | .str _,.int _=>true | .bl _,.str _=>true | .str _,.bl _=>true
 | _,_=>false
def Ge:R2:=fun x y H Q=>Ej x y=true/\Q (.bl (decide (x=y))) H
theorem wV{i j:Int}:decide (V.int i=V.int j)=(i==j):=by
 rw[Lz];simp
theorem Af{i j:Bool}:decide (V.bl i=V.bl j)=(i==j):=by
 rw[Lz];simp
theorem wU{i j:Str}:decide (V.str i=V.str j)=(i==j):=by
 rw[Lz];simp
theorem wW{i j:Array UInt8}:decide (V.byt i=V.byt j)=(i.toList==j.toList):=by
 rw[Lz];cases i;cases j;simp
section
variable{X:Cx}{a b c:Expr}{ta tb tc:TE}{pos:Pos}
theorem bO{σ:St}{H:Hp}{Q:VK}{k k':Bool}(I:Inv X pins σ H s)(q:Q (.bl k) H)(e:k=k'):EP X pins σ Q (.bool k') s:=by
 subst e;exact⟨.bl k,H,I,rfl,q⟩
theorem BU:Ib X (LJ .Eq) Ge:=by
 intro pins s σ H x y v u Q I rx ry h;obtain⟨hs,q⟩:=h
 cases x with
 | non =>
   cases rx
   cases y with
   | non=>cases ry;exact PySem.EqNone.eq_none_none (bO I q (by simp))
   | bl j=>cases ry;exact PySem.EqNone.eq_none_bool (bO I q (by simp))
   | int j=>obtain⟨t',rfl⟩:=ry;exact PySem.EqNone.eq_none_int (bO I q (by simp))
   | str j=>obtain⟨t',rfl⟩:=ry;exact PySem.EqNone.eq_none_str (bO I q (by simp))
   | _=>exact absurd (show false=true from hs) J5
 | bl i =>
   cases rx
   cases y with
   | non=>cases ry;exact PySem.EqNone.eq_bool_none (bO I q (by simp))
   | bl j=>cases ry;exact eq_bool (bO I q Af)
   | str j=>obtain⟨t',rfl⟩:=ry;exact PySem.EqMixed.eq_bool_str (bO I q (by simp))
   | _=>exact absurd (show false=true from hs) J5
 | int i =>
   obtain⟨t,rfl⟩:=rx
   cases y with
   | non=>cases ry;exact PySem.EqNone.eq_int_none (bO I q (by simp))
   | int j=>obtain⟨t',rfl⟩:=ry;exact eq_int (bO I q wV)
   | str j=>obtain⟨t',rfl⟩:=ry;exact PySem.EqMixed.eq_int_str (bO I q (by simp))
   | _=>exact absurd (show false=true from hs) J5
 | str i =>
   obtain⟨t,rfl⟩:=rx
   cases y with
   | non=>cases ry;exact PySem.EqNone.eq_str_none (bO I q (by simp))
   | bl j=>cases ry;exact PySem.EqMixed.eq_str_bool (bO I q (by simp))
   | int j=>obtain⟨t',rfl⟩:=ry;exact PySem.EqMixed.eq_str_int (bO I q (by simp))
   | str j=>obtain⟨t',rfl⟩:=ry;exact eq_str (bO I q wU)
   | _=>exact absurd (show false=true from hs) J5
 | byt i =>
   obtain⟨t,rfl⟩:=rx
   cases y with
   | byt j=>obtain⟨t',rfl⟩:=ry;exact W.eq_bytes (bO I q wW)
   | _=>exact absurd (show false=true from hs) J5
 | _=>cases y<;>exact absurd (show false=true from hs) J5
theorem BS:Ib X (LJ .Lt) (Gc fun i j=>.bl (decide (i<j))):=DL fun _ _ _ _ _ _ _ q=>lt_int q
theorem lW:Ib X (LJ .Gt) (Gc fun i j=>.bl (decide (j<i))):=DL fun _ _ _ _ _ _ _ q=>gt_int q
theorem zq:Ib X (LJ .Is) (fun x y H Q=>y = .non/\Q (.bl (decide (x = .non))) H):=by
 intro pins s σ H x y v u Q I rx ry h;obtain⟨rfl,q⟩:=h;cases ry;refine is_none_gen (bO I q ?_)
 cases x<;>first
  | (cases rx;rfl)
  | (obtain⟨t,rfl⟩:=rx;rfl)
theorem oO:Ib X (LJ .IsNot) (fun x y H Q=>y = .non/\Q (.bl (!decide (x = .non))) H):=by
 intro pins s σ H x y v u Q I rx ry h;obtain⟨rfl,q⟩:=h;cases ry;refine isnot_none_gen (bO I q ?_)
 cases x<;>first
  | (cases rx;rfl)
  | (obtain⟨t,rfl⟩:=rx;rfl)
theorem Ib.or{r r':R2}(h:Ib X f r)(h':Ib X f r'):Ib X f (fun x y H Q=>r x y H Q\/r' x y H Q):=by
 intro pins s σ H x y v u Q I rx ry q;rcases q with q|q
 · exact h pins s σ H x y v u Q I rx ry q
 · exact h' pins s σ H x y v u Q I rx ry q
theorem bp(b:Expr)(h:op ≠ .In:=by decide)(h2:op ≠ .NotIn:=by decide):Lh op b=false:=by
 have e1:(op==Ql.In)=false:=by cases op<;>first|rfl|exact absurd rfl h
 have e2:(op==Ql.NotIn)=false:=by cases op<;>first|rfl|exact absurd rfl h2
 cases b<;>simp[Lh,e1,e2]
theorem oJ{r:R2}(ho:Ib X (LJ op) r)(ha:PE X a ta)(hb:PE X b tb)(hm:Lh op b=false):PE X (.Compare a [op] [b] pos) (FI r ta tb):=by
 intro pins s σ H Q I h;exact wpAny_Compare1 (CL ha hb I h fun v u s2 x y H2 I2 rx ry q=>ho pins s2 σ H2 x y v u Q I2 rx ry q) hm
def Bu(t:TE):TT:=fun σ H Q=>t σ H fun x H'=>∃k,x = .bl k/\Q k H'
theorem vD{r:R2}(ho:Ib X (LJ op) r)(ha:PE X a ta)(hb:PE X b tb)(hm:Lh op b=false):PT X (.Compare a [op] [b] pos) (Bu (FI r ta tb)):=by
 intro pins s σ H Q I h
 refine O5 (FB (ha pins s σ H _ I h) fun v s1 ⟨x,H1,I1,r1,q1⟩=>FB (hb pins s1 σ H1 _ I1 q1) fun u s2 ⟨y,H2,I2,r2,q2⟩ =>
  FB (ho pins s2 σ H2 x y v u _ I2 r1 r2 q2) fun c s3 ⟨z,H3,I3,r3,k,e,q3⟩=>?_) hm
 subst e;cases r3;exact Ng ⟨H3,I3,q3⟩
theorem iN:(sizeLine:Nat)<2^63:=by rw[Qs];decide
theorem vals1{x:V}{us:List I0}(r:bP [x] us):∃u,us=[u]/\RelV x u:=by
 cases r with
 | cons r1 r2=>cases r2;exact⟨_,rfl,r1⟩
theorem vals2{x y:V}{us:List I0}(r:bP [x,y] us):∃u w',us=[u,w']/\RelV x u/\RelV y w':=by
 cases r with
 | cons r1 r2 =>
   cases r2 with
   | cons r3 r4=>cases r4;exact⟨_,_,rfl,r1,r3⟩
theorem pS(hc:X.calm=true):dg X (.builtin "max") (fun xs H Q=>∃i j,xs=[.int i,.int j]/\Q (.int (if j>i then j else i)) H):=by
 intro pins s σ H xs us Q I r h;obtain⟨i,j,rfl,q⟩:=h;obtain⟨u,w',rfl,⟨t,rfl⟩,⟨t',rfl⟩⟩:=vals2 r;refine max_two_ints (I.ok.hd hc) fun h' tk k=>⟨_,H,I.kept k,?_,q⟩;by_cases hj:j>i
 · rw[if_pos hj,if_pos hj];exact⟨_,rfl⟩
 · rw[if_neg hj,if_neg hj];exact⟨_,rfl⟩
theorem pR(hc:X.calm=true):dg X (.builtin "min") (fun xs H Q=>∃i j,xs=[.int i,.int j]/\Q (.int (if j<i then j else i)) H):=by
 intro pins s σ H xs us Q I r h;obtain⟨i,j,rfl,q⟩:=h;obtain⟨u,w',rfl,⟨t,rfl⟩,⟨t',rfl⟩⟩:=vals2 r;refine min_two_ints (I.ok.hd hc) fun h' tk k=>⟨_,H,I.kept k,?_,q⟩;by_cases hj:j<i
 · rw[if_pos hj,if_pos hj];exact⟨_,rfl⟩
 · rw[if_neg hj,if_neg hj];exact⟨_,rfl⟩
theorem i8:dg X (.type "int") (fun xs H Q=>(∃i,xs=[.int i]/\Q (.int i) H)\/∃k,xs=[.bl k]/\Q (.int (if k then 1 else 0)) H):=by
 intro pins s σ H xs us Q I r h;rcases h with⟨i,rfl,q⟩|⟨k,rfl,q⟩
 · obtain⟨u,rfl,t,rfl⟩:=vals1 r;exact call_int_int ⟨.int i,H,I,⟨_,rfl⟩,q⟩
 · obtain⟨u,rfl,r1⟩:=vals1 r;cases r1;exact call_int_bool ⟨.int (if k then 1 else 0),H,I.tok _,⟨_,rfl⟩,q⟩
end
section
variable{prog:Ju}{w:Kh}{A:Ko}{E:I0->Ja->Prop}{s:Ja}{K:W.Frag}{x dx C f:Addr}{mA:Str->Option I0}{name:Str}{v:I0}
end
def putF(f:Str)(v:V):List (Str×V)->List (Str×V)
 | []=>[(f,v)]
 | (g,x)::r=>if g=f then(g,v)::r else(g,x)::putF f v r
theorem xt.some_of{v:V}{o:Option I0}(r:xt (some v) o):∃u,o=some u/\RelV v u:=by
 cases o with
 | none=>exact(show False from r).elim
 | some u=>exact⟨u,rfl,r⟩
section
variable{P:Ju}{w:Kh}{H H':Hp}{h h':Heap}{a C dx:Addr}{fs fs':List (Str×V)}
end
structure Cls (K:W.Frag) (C:Addr):Prop where
 pg:W.plainGet K C Str.empty=true
 hd:W.hasDictIn K C=true
 po:W.plainOver K C=true
 sa:W.findIn K (.ref C) "__setattr__" = some (some (.builtin "object.__setattr__"))
theorem Cls.get{K:W.Frag}{C:Addr}(c:Cls K C)(f:Str):W.plainGet K C f=true:=c.pg
section
variable{X:Cx}{pins:List (Addr×Obj)}{σ:St}{H:Hp}{s:Ja}{a C dx:Addr}{fs:List (Str×V)}{f:Str}{v:V}{A:Ko}{E:I0->Ja->Prop}
end
section
variable{X:Cx}{o e value:Expr}{f:Str}{pos pos' tpos:Pos}{ta tv:TE}
end
section
variable{X:Cx}{pins:List (Addr×Obj)}{σ:St}{H:Hp}{s:Ja}{A:Ko}{E:I0->Ja->Prop}{Q:I0->Ja->Prop}{c:I0}{b:Bool}
end
structure Room (k:Nat) (A:Ko):Prop where
 hd:A.handled=none
 dp:A.depth+3*k+5<recursionLimit
 un:A.units+16*k+200<N1
 gd:A.guards=some []
theorem Room.mono{k:Nat}(r:Room k A)(h:j<=k):Room j A:=⟨r.hd,by have:=r.dp;omega,by have:=r.un;omega,r.gd⟩
theorem Room.deeper{k:Nat}(r:Room (k+1) A)(env:Env):Room k (A.deeper env) :=
 ⟨r.hd,by have:=r.dp;show A.depth+1+3*k+5<_;omega,by have:=r.un;show A.units+3+16*k+200<_;omega,r.gd⟩
theorem Room.in1{k:Nat}(r:Room (k+1) A):Room k A.in1 :=
 ⟨r.hd,by have:=r.dp;show A.depth+3*k+5<_;omega,by have:=r.un;show A.units+1+16*k+200<_;omega,r.gd⟩
theorem Room.depth{k:Nat}(r:Room k A):A.depth<recursionLimit:=by have:=r.dp;omega
theorem Room.units{k:Nat}(r:Room k A):A.units+64<N1:=by have:=r.un;omega
def AN:TA:=fun _ H Q=>Q [] H
def nO(ta:TE)(tr:TA):TA:=fun σ H Q=>ta σ H fun x H1=>tr σ H1 fun xs H2=>Q (x::xs) H2
section
variable{X:Cx}{e:Expr}{es:List Expr}{te:TE}{t:TA}{pos:Pos}
theorem iK:PA X [] AN:=fun _ _ _ _ H Q I h=>Calls.spliced_nil ⟨[],H,I,.nil,h⟩
theorem dk(ha:PE X e te)(hr:PA X es t)(hs:Jc (e::es) X.env=(false,eval e X.env)::Jc es X.env:=by rfl):PA X (e::es) (nO te t):=by
 intro pos pins s σ H Q I h;rw[hs];show Jr _ _ (spliced ((false,eval e X.env)::KB pos (Jc es X.env))) _ _ s;refine N5 (FB (ha pins s σ H _ I h) fun u s1 ⟨x,H1,I1,r1,q1⟩=>?_);exact FB (hr pos pins s1 σ H1 _ I1 q1) fun us s2 ⟨xs,H2,I2,r2,q2⟩=>⟨x::xs,H2,I2,.cons r1 r2,q2⟩
def D7(t:TA):TE:=fun σ H Q=>t σ H fun xs H1=>xs.length<=sizeLine/\∀p,H1 p=none->Q (.ref p) (upd H1 p (.tup xs))
def Ec(t:TA):TE:=fun σ H Q=>t σ H fun xs H1=>xs.length<=sizeLine/\∀p,H1 p=none->Q (.ref p) (upd H1 p (.lst xs))
theorem oG{x1}(h:PA X es t):PE X (.Tuple es x1 pos) (D7 t):=by
 intro pins s σ H Q I hq;refine wpAny_Tuple_spliced (FB (h pos pins s σ H _ I hq) fun us s1 ⟨xs,H1,I1,r,z,q⟩=>⟨by rw[<- r.length];exact z,?_⟩);have hf:H1 s1.heap.objs.size=none:=I1.hok.fresh (Jb _);refine⟨.ref s1.heap.objs.size,upd H1 s1.heap.objs.size (.tup xs),I1.laid (t':=s1.toks) (fun b u e=>IW _ e) (Jb _) ?_,rfl,q _ hf⟩;exact⟨z,us,r,qm.new _ _⟩
theorem ze(h:PA X es t):PE X (.List es pos) (Ec t):=by
 intro pins s σ H Q I hq;refine wpAny_List_spliced (FB (h pos pins s σ H _ I hq) fun us s1 ⟨xs,H1,I1,r,z,q⟩=>⟨by rw[<- r.length];exact z,?_⟩);have hf:H1 s1.heap.objs.size=none:=I1.hok.fresh (Jb _);refine⟨.ref s1.heap.objs.size,upd H1 s1.heap.objs.size (.lst xs),I1.laid (t':=s1.toks) (fun b u e=>IW _ e) (Jb _) ?_,rfl,q _ hf⟩;exact⟨z,us,0,r,Jk _ rfl⟩
end
abbrev Sp:=List V->Hp->VK->XK->Prop
abbrev ID:=List Env->Hp->Ja->XK->I0->Ja->Prop
structure Env0 (P:Ju) (w:Kh) (K:W.Frag) (mg:Str->Option I0) (base:Heap) (A:Ko) (outer:List Env) (s:Ja) (H:Hp):Prop where
 frames:A.frames=some outer
 mod:Mod K mg base
 bs:∀b o,base.get? b=some o->s.heap.get? b=some o/\H b=none
 bsz:base.objs.size<=s.heap.objs.size
 funs:s.heap.FunFrames base outer
 frf:∀b∈frs outer,H b=none
 hok:IA P w H s.heap
 bare:PK s.gens
def CE(outer:List Env)(P:Ju)(w:Kh)(H:Hp)(s:Ja)(Q:VK)(u:I0)(s':Ja):Prop :=
 ∃v H',s'.os=s.os/\PK s'.gens/\Un (frs outer) [] H H' s.heap s'.heap/\IA P w H' s'.heap/\RelV v u/\Q v H'
def CR(CX:ID)(outer:List Env)(P:Ju)(w:Kh)(H:Hp)(s:Ja)(Q:VK)(E:XK)(r:Qt)(s':Ja):Prop :=
 match r with
 | .ok (.ret u)=>CE outer P w H s Q u s'
 | .ok _=>False
 | .error e=>CX outer H s E e s'
structure FnOk (P:Ju) (w:Kh) (K:W.Frag) (mg:Str->Option I0) (base:Heap) (CX:ID) (k:Nat) (f:Addr) (fd:LD) (ps:List Str) (sp:Sp):Prop where
 len:∀vs H Q E,sp vs H Q E->vs.length=ps.length
 run:∀(A:Ko)(outer:List Env)(s:Ja)(H:Hp)(args:Args)(us:List I0)(vs:List V)(Q:VK)(E:XK),Room k A->Env0 P w K mg base A outer s H->Qu s fd args (ps.zip us)->bP vs us->sp vs H Q E ->
  LF (JE P w) A (.call (.ref f) args) (CR CX outer P w H s Q E) s
theorem FnOk.mono{P:Ju}{w:Kh}{K:W.Frag}{mg:Str->Option I0}{base:Heap}{CX:ID}{j k:Nat}{f:Addr}{fd:LD}{ps:List Str}{sp:Sp}(F:FnOk P w K mg base CX j f fd ps sp)(h:j<=k) :
 FnOk P w K mg base CX k f fd ps sp:=⟨F.len,fun A outer s H args us vs Q E hr=>F.run A outer s H args us vs Q E (hr.mono h)⟩
theorem FnOk.imp{w:Kh}{K:W.Frag}{mg:Str->Option I0}{CX:ID}{k:Nat}{f:Addr}{ps:List Str}{sp sp':Sp}(F:FnOk P w K mg base CX k f fd ps sp)
 (h:∀vs H Q E,sp' vs H Q E->sp vs H Q E):FnOk P w K mg base CX k f fd ps sp' :=
 ⟨fun vs H Q E q=>F.len vs H Q E (h _ _ _ _ q),fun A outer s H args us vs Q E hr he hb hv hs=>F.run A outer s H args us vs Q E hr he hb hv (h _ _ _ _ hs)⟩
theorem Env0.in1{w:Kh}{K:W.Frag}{mg:Str->Option I0}{outer:List Env}{H:Hp}(e:Env0 P w K mg base A outer s H) :
 Env0 P w K mg base A.in1 outer s H:=⟨e.frames,e.mod,e.bs,e.bsz,e.funs,e.frf,e.hok,e.bare⟩
section
variable{X:Cx}{pins:List (Addr×Obj)}{σ:St}{H:Hp}{s s':Ja}
theorem Inv.env0(I:Inv X pins σ H s):Env0 X.prog X.w X.K X.mg X.base X.A X.stack s H :=
 ⟨I.ok.frames,I.ok.mod,I.bs,JF I.ok.bsz I.sz,I.stack,I.stkFree,I.hok,I.bare⟩
theorem Inv.after{Q:VK}(I:Inv X pins σ H s)(h:CE X.stack X.prog X.w H s Q u s'):EP X pins σ Q u s':=by
 obtain⟨v,H',os,bare,un,hok,r,q⟩:=h;obtain⟨hh,g,d,t,os'⟩:=s';obtain rfl:os'=s.os:=os;exact⟨v,H',I.call (h':=hh) (g':=g) (d':=d) (t':=t) (ch:=[]) un hok bare (fun b z=>absurd z (by simp)),r,q⟩
end
def yC(sp:Sp)(dvs:List V)(E:XK)(t:TA):TE:=fun σ H Q=>t σ H fun vs H1=>sp (vs++dvs) H1 Q E
def Binds(K:W.Frag)(fd:LD)(ps:List Str)(ds:List I0):Prop :=
 ∀(s:Ja)(us:List I0),K.In s.heap->(us++ds).length=ps.length->Qu s fd ⟨us,[]⟩ (ps.zip (us++ds))
theorem Binds.all{K:W.Frag}{ps:List Str}(h:∀us:List I0,us.length=ps.length->bindArgs fd ⟨us,[]⟩=pure (ps.zip us)):Binds K fd ps []:=fun s us _ hl=>by
 rw[Kl]at hl ⊢;exact .of_eq (h us hl)
def qj(CX:ID)(X:Cx)(E:XK):Prop:=∀(pins:List (Addr×Obj))(σ:St)(H:Hp)(s:Ja)(e:I0)(s':Ja),Inv X pins σ H s->CX X.stack H s E e s'->X.xe e s'
section
variable{X:Cx}{CX:ID}{k:Nat}{f C:Addr}{fd:LD}{ps:List Str}{sp:Sp}{dvs:List V}{ds:List I0}{E:XK}{x m:Str}{p pos apos:Pos}{e o:Expr}{es:List Expr}{ta:TE}{t:TA}
theorem yL{σ:St}{H:Hp}{Q:VK}{us:List I0}{vs:List V}(F:FnOk X.prog X.w X.K X.mg X.base CX k f fd ps sp)(hr:Room k X.A)(hb:Binds X.K fd ps ds)(hd:bP dvs ds)(hx:qj CX X E)
 (I:Inv X pins σ H s)(r:bP vs us)(h:sp (vs++dvs) H Q E):Jr (JE X.prog X.w) X.A (call (.ref f) us) (EP X pins σ Q) X.xe s:=by
 have r2:bP (vs++dvs) (us++ds):=r.append hd;have hl:(us++ds).length=ps.length:=by rw[<- r2.length];exact F.len _ _ _ _ h
 refine wpAny_call (N6 (F.run X.A X.stack s H ⟨us,[]⟩ (us++ds) (vs++dvs) Q E hr I.env0 (hb s us I.kIn hl) r2 h) fun r s' hq=>?_)
 cases r with
 | error e=>exact hx pins σ H s e s' I hq
 | ok fl =>
   cases fl with
   | ret u=>exact I.after hq
   | next=>exact JR hq
   | brk=>exact JR hq
   | cont=>exact JR hq
theorem fD(F:FnOk X.prog X.w X.K X.mg X.base CX k f fd ps sp)(hr:Room k X.A)(hg:Gl X x)(hm:X.mg x=some (.ref f))(hk:W.keepIn X.K (.ref f)=true)(hb:Binds X.K fd ps ds)(hd:bP dvs ds)(hx:qj CX X E)
 (ha:PA X (e::es) t)(hdb:(x==("__debug__" : Str))=false:=by decide)(he:Jc (e::es) X.env=(false,eval e X.env)::Jc es X.env:=by rfl)(hpl:(KB pos (Jc es X.env)).any (·.1)=false:=by rfl) :
 PE X (.Call (.Name x p) (e::es) [] pos) (yC sp dvs E t):=by
 intro pins s σ H Q I h;refine N7 (wr I hg hm ?_ hdb);refine W.callWith_K (h₀:=X.base) I.ok.mod.kin hk (FB (ha pos pins s σ H _ I h) fun us s1 ⟨vs,H1,I1,r,q⟩=>⟨I1.kIn,?_⟩) he hpl;exact yL F hr hb hd hx I1 r q
end
section
variable{X:Cx}{CX:ID}{k:Nat}{f C:Addr}{fd:LD}{ps ks:List Str}{sp:Sp}{E:XK}{x m:Str}{p pos apos kpos:Pos}{e o:Expr}{es:List Expr}{kws:List LG}{te ta:TE}{t tk:TA}{nm:Option Str}
variable{g:List I0->List I0->List I0}{gV:List V->List V->List V}
end
structure FnScope (N P:List Str) (sc:Scope):Prop where
 kind:sc.kind = .function
 co:sc.isCoroutine=false
 gen:sc.isGenerator=false
 nd:N.Nodup
 pre:N.take P.length=P
 par:∀x∈P,sc.names.lookup x=some .local\/sc.names.lookup x=some .cell
 nofree:∀y∈sc.names,y.2 ≠ .free
theorem i9{kindOf:Str->Option MQ}{x:Str}:∀{binds:List (Str×I0)}{m:Str->Option I0},(∀v,(x,v)∉binds)->bindL kindOf binds m x=m x
 | [],_,_=>rfl
 | (n,v)::r,m,h=>by
   unfold bindL;rw[i9 fun w hw=>h w (IT _ hw)];split
   · have:x≠n:=by rintro rfl;exact h v IV
     simp[this]
   · rfl
theorem ja{kindOf:Str->Option MQ}{x:Str}:∀{binds:List (Str×I0)}{m:Str->Option I0},(∀v,(x,v)∉binds)->bindC kindOf binds m x=m x
 | [],_,_=>rfl
 | (n,v)::r,m,h=>by
   unfold bindC;rw[ja fun w hw=>h w (IT _ hw)];split
   · rfl
   · have:x≠n:=by rintro rfl;exact h v IV
     simp[this]
theorem i_{kindOf:Str->Option MQ}{x:Str}{v:I0}:∀{P:List Str}{vs:List I0}{i:Nat}{m:Str->Option I0},P.Nodup->P[i]?=some x->vs[i]?=some v->kindOf x=some .local ->
 bindL kindOf (P.zip vs) m x=some v
 | [],_,_,_,_,h,_,_=>by simp at h
 | _::_,[],_,_,_,_,h,_=>by simp at h
 | p::P,w::vs,0,m,nd,h1,h2,hk=>by
   simp at h1 h2;subst h1;subst h2;show bindL kindOf ((p,w)::P.zip vs) m p=_;unfold bindL;rw[i9 fun v hv=>(KI.mp nd).1 (K8 hv).1,if_pos hk]
   simp
 | p::P,w::vs,i+1,m,nd,h1,h2,hk=>by
   show bindL kindOf ((p,w)::P.zip vs) m x=_;unfold bindL;exact i_ (i:=i) (KI.mp nd).2 (by simpa using h1) (by simpa using h2) hk
theorem jb{kindOf:Str->Option MQ}{x:Str}{v:I0}:∀{P:List Str}{vs:List I0}{i:Nat}{m:Str->Option I0},P.Nodup->P[i]?=some x->vs[i]?=some v->kindOf x≠some .local ->
 bindC kindOf (P.zip vs) m x=some v
 | [],_,_,_,_,h,_,_=>by simp at h
 | _::_,[],_,_,_,_,h,_=>by simp at h
 | p::P,w::vs,0,m,nd,h1,h2,hk=>by
   simp at h1 h2;subst h1;subst h2;show bindC kindOf ((p,w)::P.zip vs) m p=_;unfold bindC;rw[ja fun v hv=>(KI.mp nd).1 (K8 hv).1,if_neg hk]
   simp
 | p::P,w::vs,i+1,m,nd,h1,h2,hk=>by
   show bindC kindOf ((p,w)::P.zip vs) m x=_;unfold bindC;exact jb (i:=i) (KI.mp nd).2 (by simpa using h1) (by simpa using h2) hk
def start(N:List Str)(vs:List V):St:=vs.map some++Jp (N.length-vs.length) none
def lu(CX:ID)(P:Ju)(w:Kh)(K:W.Frag)(mg:Str->Option I0)(base:Heap)(N:List Str)(qual:Str)(scope:Scope)(f:Addr)(cd:I0)(A:Ko)(outer:List Env)(s:Ja)(H:Hp)(E:XK):Cx where
 prog:=P
 w:=w
 K:=K
 mg:=mg
 base:=base
 A:=A.deeper (NL qual scope s.heap.objs.size f cd)
 N:=N
 s₀:=s
 H₀:=H
 env:=NL qual scope s.heap.objs.size f cd
 outer:=outer
 stack:=NL qual scope s.heap.objs.size f cd::outer
 ex:=[]
 calm:=true
 fn:=fun _=>true
 pn:=[]
 xe:=fun e s'=>Jr (JE P w) (A.deeper (NL qual scope s.heap.objs.size f cd)) (leaving (NL qual scope s.heap.objs.size f cd) e) (fun _ s''=>CX outer H s E e s'') (fun e' s''=>CX outer H s E e' s'') s'
theorem lB{sc:Scope}{x:Str}(h:sc.names.lookup x=some .cell):∃c,(Kw n sc.names []).lookup x=some c:=by
 have q:=W.cellsFrom_some sc.names n [] (.inl h);exact KP.mp q
theorem pf{CX:ID}{w:Kh}{K:W.Frag}{mg:Str->Option I0}{N ps:List Str}{qual:Str}{f:Addr}{cd:I0}{outer:List Env}{s1:Ja}{H:Hp}{E:XK}{us:List I0}{vs:List V}
 (S:FnScope N ps scope)(hd:A.handled=none)(e0:Env0 P w K mg base A outer s H)(hl:vs.length=ps.length)(r:bP vs us)
 (x:InCallC s s.heap.objs.size (bindL (NL qual scope s.heap.objs.size f cd).kindOf (ps.zip us) fun _=>none) (Kw (s.heap.objs.size+1) scope.names []) (bindC (NL qual scope s.heap.objs.size f cd).kindOf (ps.zip us) fun _=>none) s1) :
 Inv (lu CX P w K mg base N qual scope f cd A outer s H E) [] (start N vs) H s1:=by
 have hpl:ps.length<=N.length:=by have:=congrArg Nh S.pre;rw[JB]at this;omega
 obtain⟨h1,tk,rfl,hk⟩:=x.done;have noA:∀b:Addr,b∉(lu CX P w K mg base N qual scope f cd A outer s H E).ex:=fun b z=>absurd (show b∈([]:List Addr)from z) (by simp)
 refine⟨⟨e0.mod,S.kind,rfl,rfl,Jb _,fun y z c h1 h2=>?_,fun y hy=>?_,fun y c _ h=>?_,fun _=>hd,Ko.frames_deeper e0.frames,.inr ⟨rfl,rfl⟩,fun b z=>absurd z (noA b),e0.bs,e0.bsz,fun b _ _=>noA b,fun b z=>absurd z (noA b),e0.funs,e0.frf⟩,
  rfl,e0.bare,Un.kept hk,⟨_,x.toInCall.ns,fun i y v h1 h2 h3=>?_⟩,fun y c h=>⟨_,x.cell y c h⟩,e0.hok.fresh (Jb _),fun y c h=>?_,fun p hp=>absurd (show p∈([]:List (Addr×Obj))from hp) (by simp),e0.hok.kept hk,?_⟩
 · exact Qc x.apart (J6 h1) (J6 h2)
 · have hy:scope.names.lookup y=some .cell\/scope.names.lookup y=some .free:=hy;rcases hy with hy|hy
   · exact lB hy
   · exact absurd rfl (S.nofree _ (J6 hy))
 · exact Qa (x.above y c (J6 h))
 · have hi:i<vs.length:=by
     unfold start at h2;by_cases hi:i<vs.length
     · exact hi
     · rw[Mx (by simpa using hi)]at h2;rw[MR]at h2;split at h2<;>cases h2
   have ha:vs[i]?=some v:=by
    unfold start at h2;rw[LU (by simpa using hi),JY]at h2
    cases e:vs[i]? with
    | none=>rw[e]at h2;cases h2
    | some a=>rw[e]at h2;cases h2;rfl
   obtain⟨u,hu,rv⟩:=r.get ha
   have hp:ps[i]?=some y:=by
    rw[<- S.pre,Os (by omega)];exact h1
   have ndP:ps.Nodup:=by rw[<- S.pre];exact S.nd.sublist (List.take_sublist _ _)
   refine⟨u,rv,?_⟩;rcases S.par y (NA hp)with k|k
   · exact .inl ⟨k,i_ ndP hp hu k⟩
   · obtain⟨c,e⟩:=lB (n:=s.heap.objs.size+1) k;refine .inr ⟨.inl k,c,e,?_⟩;have q:=x.cell y c e;rw[jb ndP hp hu (by show scope.names.lookup y≠_;rw[k];decide)]at q;exact q
 · exact e0.hok.fresh (Qa (x.above y c (J6 h)))
 · unfold start;show _=N.length;rw[JH,I_,List.length_replicate];omega
theorem Cq{CX:ID}{w:Kh}{K:W.Frag}{mg:Str->Option I0}{k:Nat}{f:Addr}{name qual:Str}{params:Arguments}{body:List Stmt}{dV kV doc pm cdv ct oc:I0}{an od:Option Addr}
 {osl:Array (Option I0)}{N ps:List Str}{sp:Sp}(lk:K.lookup f=some ⟨oc,od,.func (W.fnOf name qual params body scope dV kV doc pm an cdv ct),osl⟩)(hcd:W.codeIn K cdv qual=true)(S:FnScope N ps scope)
 (len:∀vs H Q E,sp vs H Q E->vs.length=ps.length)
 (hbody:∀(A:Ko)(outer:List Env)(s:Ja)(H:Hp)(vs:List V)(Q:VK)(E:XK),Room k (A.deeper (NL qual scope s.heap.objs.size f cdv))->sp vs H Q E ->
  ∃t,HU (lu CX P w K mg base N qual scope f cdv A outer s H E) body t/\t {nx:=fun _ H'=>Q .non H',rt:=Q} (start N vs) H) :
 FnOk P w K mg base CX (k+1) f (W.fnOf name qual params body scope dV kV doc pm an cdv ct) ps sp:=by
 refine⟨len,fun A outer s H args us vs Q E hr e0 hb r hsp=>?_⟩;have hl:=len _ _ _ _ hsp;have KX:K.In s.heap:=e0.mod.kin.keeps fun b o e=>(e0.bs b o e).1;have lim:s.heap.NoLimit:=e0.mod.nolimit.keeps fun b o e=>(e0.bs b o e).1
 have hkind:∀y∈ps.zip us,scope.names.lookup y.1=some .local\/(scope.names.lookup y.1=some .cell/\((Kw (s.heap.objs.size+1) scope.names []).lookup y.1).isSome=true):=fun⟨n,v⟩ hy=>by
  rcases S.par n (K8 hy).1 with q|q
  · exact .inl q
  · exact .inr ⟨q,W.cellsFrom_some _ _ _ (.inl q)⟩
 refine codeAny_call_function hr.depth (KX _ _ lk) rfl S.co S.gen rfl (W.codeRec_of KX hcd) (hb _ _ _ _ ?_);refine wpAny_newFunctionEnv_cells S.kind hkind fun env he s1 x=>?_;subst he;refine⟨lim.keeps x.toInCall.keep,codeAny_func ?_⟩;obtain⟨t,ht,hq⟩:=hbody A outer s H vs Q E (hr.deeper _) hsp;have I:Inv (lu CX P w K mg base N qual scope f cdv A outer s H E) [] (start N vs) H s1:=pf S hr.hd e0 hl r x;refine JO (ht [] s1 (start N vs) H _ I hq) (fun fl s' hs=>?_) fun e s' hs=>hs
 have fin:∀{σ':St}{H':Hp}{v:V}{u:I0},Inv (lu CX P w K mg base N qual scope f cdv A outer s H E) [] σ' H' s'->RelV v u->Q v H'->CE outer P w H s Q u s' :=
  fun{σ' H' v u} J rv q=>⟨v,H',J.os,J.bare,J.base,J.hok,rv,q⟩
 cases fl with
 | ret u =>
   obtain⟨v,σ',H',J,rv,q⟩:=hs
   exact fin J rv q
 | next =>
   obtain⟨σ',H',J,q⟩:=hs
   exact fin (v:=V.non) (u:=LI) J rfl q
 | brk =>
   obtain⟨_,_,_,q⟩:=hs
   exact JR q
 | cont =>
   obtain⟨_,_,_,q⟩:=hs;exact JR q
section
variable{X:Cx}{x:Str}{p pos:Pos}{e:Expr}{es:List Expr}{t:TA}{id T:String}{r:List V->Hp->VK->Prop}
def FM(r:List V->Hp->VK->Prop)(t:TA):TE:=fun σ H Q=>t σ H fun vs H1=>r vs H1 Q
theorem kO(hc:dg X (.builtin id) r)(hg:Gl X x)(hm:X.mg x=none)(hv:Mp x=some (.builtin id))(ha:PA X (e::es) t)(hn:x ≠ "__name__" := by decide)(hdb:(x==("__debug__" : Str))=false:=by decide)
 (he:Jc (e::es) X.env=(false,eval e X.env)::Jc es X.env:=by rfl)(hpl:(KB pos (Jc es X.env)).any (·.1)=false:=by rfl):PE X (.Call (.Name x p) (e::es) [] pos) (FM r t):=by
 intro pins s σ H Q I h;refine N7 (fG I hg hm hv ?_ hn hdb);exact PyProof.Rows.callWith_builtin1 (FB (ha pos pins s σ H _ I h) fun us s1 ⟨vs,H1,I1,r1,q1⟩=>hc pins s1 σ H1 vs us Q I1 r1 q1) he hpl
theorem fC(hc:dg X (.type T) r)(hg:Gl X x)(hm:X.mg x=none)(hv:Mp x=some (.type T))(ha:PA X (e::es) t)(hn:x ≠ "__name__" := by decide)(hdb:(x==("__debug__" : Str))=false:=by decide)
 (he:Jc (e::es) X.env=(false,eval e X.env)::Jc es X.env:=by rfl)(hpl:(KB pos (Jc es X.env)).any (·.1)=false:=by rfl):PE X (.Call (.Name x p) (e::es) [] pos) (FM r t):=by
 intro pins s σ H Q I h;refine N7 (fG I hg hm hv ?_ hn hdb);exact KR (FB (ha pos pins s σ H _ I h) fun us s1 ⟨vs,H1,I1,r1,q1⟩=>hc pins s1 σ H1 vs us Q I1 r1 q1) he hpl
end
end L2
variable{us:List (List L2.Ih×L2.V)}{H H' F F' F₀ H₀:L2.Hp}{v:L2.V}{X:L2.Cx}{σ:L2.St}{r:List L2.V->L2.Hp->L2.VK->Prop}{vs:List L2.V}{kvs:List (List L2.Ih×IQ)}
namespace HT
open PySem PyProof.Rows
section
open PySem.SeqAt
open PySem.AutoSeq1 (wpAny_loadPart')
open PySem.MeetsSeq PySem.MeetsSeq2 PySem.MeetsSeq3
end
section
variable{prog:Ju}{w:Kh}{A:Ko}{E:I0->Ja->Prop}{s:Ja}
theorem cat_tup{t b:Addr}{vs ws:List I0}(ht:P6 s.heap t vs.toArray)(hb:P6 s.heap b ws.toArray)(hv:vs≠[])
 (h1:ws=[]->Q (.ref t) s)(h2:ws≠[]->Q (.ref s.heap.objs.size) {s with heap:=s.heap.push {cls:=.type "tuple", data:=.seq (vs++ws).toArray}})
 (hsz:vs.length+ws.length<=sizeLine):Jr (JE prog w) A (Ma .Add (.ref t) (.ref b)) Q E s:=by
 obtain⟨⟨cls,dd,data,sl⟩,ho,hc,n,hd⟩:=id ht;obtain⟨⟨cls2,dd2,data2,sl2⟩,ho2,hc2,n2,hd2⟩:=id hb;simp only at hc hd hc2 hd2;subst hc hd hc2 hd2;have e:vs.toArray++ws.toArray=(vs++ws).toArray:=by simp
 by_cases hw:ws=[]
 · exact Qe ⟨_,ho,rfl⟩ ⟨_,ho2,rfl⟩ Me MS Lc K9 (K5 _ _)
     (tuple_addW1 t b vs.toArray ws.toArray n n2 dd dd2 sl sl2 (by simpa using hv) (by simp[hw])) ⟨ho,ho2,h1 hw⟩
 · refine Qe ⟨_,ho,rfl⟩ ⟨_,ho2,rfl⟩ Me MS Lc K9 (K5 _ _)
     (tuple_addW2 t b vs.toArray ws.toArray n n2 dd dd2 sl sl2 (by simpa using hv) (by simpa using hw) (by rw[Jl,Jl];exact hsz)) ⟨ho,ho2,?_⟩
   rw[e];exact h2 hw
def sIx(n d:Nat):Option Int->Nat
 | none=>d
 | some v=>if v<0 then(v+(n:Int)).toNat else min v.toNat n
theorem sIx_none(n d:Nat):sIx n d none=d:=rfl
theorem sIx_nat(n d k:Nat):sIx n d (some (k:Int))=min k n:=by
 show(if(k:Int)<0 then((k:Int)+(n:Int)).toNat else min (k:Int).toNat n)=min k n;rw[if_neg (by omega),JJ]
theorem yK(n d:Nat)(hd:d<=n)(o:Option Int):sIx n d o<=n:=by
 cases o with
 | none=>exact hd
 | some v =>
   show(if v<0 then(v+(n:Int)).toNat else min v.toNat n)<=n;by_cases hv:v<0
   · rw[if_pos hv];omega
   · rw[if_neg hv];exact Nat.min_le_right _ _
theorem pP(v:Int)(n d:Nat):(if v<0 then max (v+(n:Int)) 0 else min v (n:Int))=((sIx n d (some v):Nat):Int):=by
 show(if v<0 then max (v+(n:Int)) 0 else min v (n:Int))=(((if v<0 then(v+(n:Int)).toNat else min v.toNat n):Nat):Int);by_cases hv:v<0
 · simp only[if_pos hv];omega
 · simp only[if_neg hv];omega
theorem mH(lo hi:Option Int)(n:Nat):ME lo hi 1 (n:Int)=(((sIx n 0 lo:Nat):Int),((sIx n n hi:Nat):Int)):=by
 have h1:¬((1:Int)<0):=by omega
 unfold ME;simp only[h1,if_false];refine Prod.ext ?_ ?_
 · cases lo with
   | none=>rfl
   | some v=>exact pP v n 0
 · cases hi with
   | none=>rfl
   | some v=>exact pP v n n
theorem lV(i j:Nat):LV (i:Int) (j:Int) 1=j-i:=by
 unfold LV;have h1:(1:Int)>0:=by omega
 simp only[h1,if_true,Int.ediv_one];split<;>omega
theorem gq{v:I0}{o:Option Int}{Q:Option Int->Ja->Prop}(p:P2 v o)(h:Q o s):Jr (JE prog w) A (Builtin.Slice.slicePartIndex v) Q E s:=by
 cases p with
 | none=>exact slicePart_none h
 | int i t=>exact slicePart_int h
theorem sliceApplied_gen{sl:Addr}{vl vu:I0}{lo hi:Option Int}{Q:Int×Int×Nat->Ja->Prop}(hs:s.heap.IsSliceOf sl vl vu .none)(pl:P2 vl lo)(pu:P2 vu hi)
 (h:Q (((sIx n 0 lo:Nat):Int),1,sIx n n hi-sIx n 0 lo) s):Jr (JE prog w) A (N2 (.ref sl) (pure (n:Int))) Q E s:=by
 obtain⟨os,hos,hcs,hds⟩:=id hs;unfold N2 Builtin.Slice.sliceFields;refine IR (IR (Kv hos hds (x:=vl) rfl (IR (Kv hos hds (x:=vu) rfl (IR (Kv hos hds (x:=.none) rfl (IZ ?_)))))));refine IR (slicePart_none ?_);show Jr _ _ (if((1:Int)==0)=true then _ else _) _ _ s;rw[if_neg (by decide)];refine IR (gq pl (IR (gq pu (IR (IZ ?_)))));show Jr _ _ (match ME lo hi 1 (n:Int)with|(lo,hi)=>pure (lo,(1:Int),LV lo hi 1)) _ _ s;rw[mH lo hi n];show Jr _ _ (pure (((sIx n 0 lo:Nat):Int),(1:Int),LV ((sIx n 0 lo:Nat):Int) ((sIx n n hi:Nat):Int) 1)) _ _ s;rw[lV];exact IZ h
theorem qY(xs:Array I0)(i k:Nat):((Jm k).filterMap fun(m:Nat)=>xs[((i:Int)+(m:Int)*1).toNat]?).toArray=((xs.toList.drop i).take k).toArray:=by
 have e:(fun(m:Nat)=>xs[((i:Int)+(m:Int)*1).toNat]?)=fun m=>xs[i+m]?:=by
  funext m;have:((i:Int)+(m:Int)*1).toNat=i+m:=by omega
  rw[this]
 rw[e];have:=pick_run xs i k;rw[List.filterMap_map]at this;have e2:((fun x=>xs[x]?) ∘ fun x=>i+x)=fun m=>xs[i+m]?:=rfl;rw[e2]at this;rw[this]
theorem getItem_tuple_cut{t sl:Addr}{items:Array I0}{vl vu:I0}{lo hi:Option Int}(ht:P6 s.heap t items)(hs:s.heap.IsSliceOf sl vl vu .none)(pl:P2 vl lo)(pu:P2 vu hi)
 (hw:¬(sIx items.size 0 lo=0/\sIx items.size items.size hi=items.size))
 (h:Q (.ref s.heap.objs.size) {s with heap:=s.heap.push {cls:=.type "tuple", data:=.seq ((items.toList.drop (sIx items.size 0 lo)).take (sIx items.size items.size hi-sIx items.size 0 lo)).toArray}})
 (hsz:items.size<=sizeLine):Jr (JE prog w) A (OH (.ref t) (.ref sl)) Q E s:=by
 have htake:sizeOk (.seq ((items.toList.drop (sIx items.size 0 lo)).take (sIx items.size items.size hi-sIx items.size 0 lo)).toArray):=by
  show((items.toList.drop (sIx items.size 0 lo)).take (sIx items.size items.size hi-sIx items.size 0 lo)).toArray.size<=sizeLine;rw[Jl,JB,KJ,NG];omega
 have hj:sIx items.size items.size hi<=items.size:=yK _ _ (Jb _) hi;obtain⟨os,hos,hcs,hds⟩:=id hs;have hTs:s.TypeIs (.ref sl) "slice" := ⟨os,hos,hcs⟩;unfold OH
 try with_reducible refine Lr ?_
 first|refine IR (IZ ?_)|skip
 refine IR (Ot ht.typeIs (by decide) ?_)
 refine IR (JV (name:=Str.ofString "__getitem__") ht.typeIs Kk
  (Kx Kk ht.typeIs entry_tuple_getitem ?_ (args_tuple_getitem _ _)))
 show Jr _ _ (My (.ref t) >>= _) _ _ s;refine IR (NC ht ?_);refine IR (O6 hTs ?_);rw[if_pos (by decide)];refine IR (sliceApplied_gen hs pl pu ?_)
 have hno:¬((((sIx items.size 0 lo:Nat):Int)==0&&(1:Int)==1&&(sIx items.size items.size hi-sIx items.size 0 lo)==items.size)=true):=by
  intro q;rw[Nu,Nu]at q;have q1:((sIx items.size 0 lo:Nat):Int)=0:=eq_of_beq q.1.1;have q2:sIx items.size items.size hi-sIx items.size 0 lo=items.size:=eq_of_beq q.2;exact hw ⟨by omega,by omega⟩
 show Jr _ _ (if(((sIx items.size 0 lo:Nat):Int)==0&&(1:Int)==1&&(sIx items.size items.size hi-sIx items.size 0 lo)==items.size)=true then _ else _) _ _ s;rw[if_neg hno,qY]
 first
  | exact IR (m:=K6 _) (JX (IZ ⟨_,rfl,IZ h⟩) htake)
  | exact IR (m:=K6 _) (JX (IR (IZ (IZ ⟨_,rfl,IZ h⟩))) htake)
  | exact IR (IR (m:=K6 _) (JX (IZ (IZ ⟨_,rfl,IZ h⟩)) htake))
  | exact IR (IR (m:=K6 _) (JX (IZ ⟨_,rfl,IZ h⟩) htake))
end
end HT
namespace L2
abbrev TO:=St->Hp->(Option Int->Hp->Prop)->Prop
def PO(X:Cx)(e:Option Expr)(t:TO):Prop :=
 ∀ (pins:List (Addr×Obj))(s:Ja)(σ:St)(H:Hp)(Q:Option Int->Hp->Prop),Inv X pins σ H s->t σ H Q ->
   Jr (JE X.prog X.w) X.A (evalPart e X.env) (fun u s'=>∃o H',Inv X pins σ H' s'/\P2 u o/\Q o H') X.xe s
def u6:TO:=fun _ H Q=>Q none H
def Bv(t:TE):TO:=fun σ H Q=>t σ H fun x H1=>∃i,x = .int i/\Q (some i) H1
section
variable{X:Cx}{e:Expr}{te:TE}{lo hi:Option Expr}{tl th:TO}{pos p2:Pos}
theorem vJ:PO X none u6:=by
 intro pins s σ H Q I h;rw[evalPart_none];exact IZ ⟨none,H,I,.none,h⟩
theorem vI(h:PE X e te):PO X (some e) (Bv te):=by
 intro pins s σ H Q I hw;rw[evalPart_some];refine FB (h pins s σ H _ I hw) fun u s1 ⟨x,H1,I1,r1,q1⟩=>?_;obtain⟨i,rfl,q⟩:=q1;obtain⟨t,rfl⟩:=r1;exact⟨some i,H1,I1,.int i t,q⟩
def HM(X:Cx)(r:V->Option Int->Option Int->Hp->VK->Prop):Prop :=
 ∀ (pins:List (Addr×Obj))(s:Ja)(σ:St)(H:Hp)(x:V)(v vl vu:I0)(lo hi:Option Int)(sl:Addr)(Q:VK),Inv X pins σ H s->RelV x v->s.heap.IsSliceOf sl vl vu .none->P2 vl lo->P2 vu hi->r x lo hi H Q ->
   ∃T id,P7 (.type T) "__getitem__" = pure (some (.builtin id))/\s.TypeIs v T/\Jr (JE X.prog X.w) X.A (OH v (.ref sl)) (EP X pins σ Q) X.xe s
theorem HM.or{r r':V->Option Int->Option Int->Hp->VK->Prop}(h:HM X r)(h':HM X r'):HM X (fun x lo hi H Q=>r x lo hi H Q\/r' x lo hi H Q):=by
 intro pins s σ H x v vl vu lo hi sl Q I rx hs pl pu q;rcases q with q|q
 · exact h pins s σ H x v vl vu lo hi sl Q I rx hs pl pu q
 · exact h' pins s σ H x v vl vu lo hi sl Q I rx hs pl pu q
def FG(r:V->Option Int->Option Int->Hp->VK->Prop)(te:TE)(tl th:TO):TE:=fun σ H Q=>te σ H fun x H1=>tl σ H1 fun l H2=>th σ H2 fun u H3=>r x l u H3 Q
theorem eO{r:V->Option Int->Option Int->Hp->VK->Prop}(hr:HM X r)(he:PE X e te)(hl:PO X lo tl)(hu:PO X hi th):PE X (.Subscript e (.Slice lo hi none p2) pos) (FG r te tl th):=by
 intro pins s σ H Q I h;refine Subscript_ (FB (he pins s σ H _ I h) fun v s1 ⟨x,H1,I1,r1,q1⟩=>?_);refine wpAny_Slice (FB (hl pins s1 σ H1 _ I1 q1) fun vl s2 ⟨l,H2,I2,pl,q2⟩=>FB (hu pins s2 σ H2 _ I2 q2) fun vu s3 ⟨u,H3,I3,pu,q3⟩=>?_);rw[evalPart_none];refine IZ ?_;have I4:Inv X pins σ H3 {s3 with heap:=s3.heap.push {cls:=.type "slice", data:=.fields #[vl,vu,.none]}}:=I3.kept (t':=s3.toks) fun b ob q=>IW _ q;obtain⟨T,id,hT,ht,hg⟩:=hr pins {s3 with heap:=s3.heap.push {cls:=.type "slice", data:=.fields #[vl,vu,.none]}} σ H3 x v vl vu l u s3.heap.objs.size Q I4 r1 (Heap.IsSliceOf.new ..) pl pu q3;show Jr (JE X.prog X.w) X.A (P3 e (.Slice lo hi none p2) v (.ref s3.heap.objs.size)) (EP X pins σ Q) X.xe {s3 with heap:=s3.heap.push {cls:=.type "slice", data:=.fields #[vl,vu,.none]}};exact tail_any (ops:=[.ref s3.heap.objs.size,v]) ht hT hg (by with_unfolding_all rfl)
def qp(xs:List V)(lo hi:Option Int):List V:=(xs.drop (HT.sIx xs.length 0 lo)).take (HT.sIx xs.length xs.length hi-HT.sIx xs.length 0 lo)
theorem fO(xs:List V)(lo hi:Option Int):(qp xs lo hi).length<=xs.length:=by
 unfold qp;rw[JB,KJ];omega
def DA(K:W.Frag):V->Option Int->Option Int->Hp->VK->Prop:=fun x lo hi H Q=>∃a xs,x = .ref a/\HI K H a xs /\
 ¬(HT.sIx xs.length 0 lo=0/\HT.sIx xs.length xs.length hi=xs.length)/\∀p,H p=none->Q (.ref p) (upd H p (.tup (qp xs lo hi)))
theorem yG:HM X (DA X.K):=by
 intro pins s σ H x v vl vu lo hi sl Q I rx hs pl pu h;obtain⟨a,xs,rfl,hx,hw,q⟩:=h;cases rx;obtain⟨its,r,ht,hz⟩:=I.tuple hx;have hlen:its.toArray.size=xs.length:=by rw[Jl];exact r.length.symm
 refine⟨"tuple", _,Kk.lookup,ht.typeIs,?_⟩;refine HT.getItem_tuple_cut ht hs pl pu (by rw[hlen];exact hw) ?_ (by rw[hlen];exact hz);rw[hlen];refine⟨.ref s.heap.objs.size,_,I.laid (t':=s.toks) (o:=.tup (qp xs lo hi)) (fun b ob q=>IW _ q) (Jb _) ?_,rfl,q _ (I.hok.fresh (Jb _))⟩;exact⟨JF (fO xs lo hi) hz,_,(r.drop (HT.sIx xs.length 0 lo)).take (HT.sIx xs.length xs.length hi-HT.sIx xs.length 0 lo),qm.new _ _⟩
def vq(K:W.Frag):R2:=fun x y H Q=>∃a b xs ys,x = .ref a/\y = .ref b/\HI K H a xs/\HI K H b ys/\xs≠[]/\xs.length+ys.length<=sizeLine /\
 (ys=[]->Q (.ref a) H)/\(ys≠[]->∀p,H p=none->Q (.ref p) (upd H p (.tup (xs++ys))))
theorem bP.nil_iff{xs:List V}{us:List I0}(r:bP xs us):us=[]↔xs=[]:=by
 cases r with
 | nil=>simp
 | cons _ _=>simp
theorem vS:Ib X (Ma .Add) (vq X.K):=by
 intro pins s σ H x y v u Q I rx ry h;obtain⟨a,b,xs,ys,rfl,rfl,ha,hb,hx,hz,q1,q2⟩:=h;cases rx;cases ry;obtain⟨its,r1,p1,_⟩:=I.tuple ha;obtain⟨its2,r2,p2,_⟩:=I.tuple hb;refine HT.cat_tup p1 p2 (fun z=>hx (r1.nil_iff.mp z)) (fun z=>⟨.ref a,H,I,rfl,q1 (r2.nil_iff.mp z)⟩) (fun z=>?_) (by rw[<- r1.length,<- r2.length];exact hz);refine⟨.ref s.heap.objs.size,_,I.laid (t':=s.toks) (o:=.tup (xs++ys)) (fun b ob q=>IW _ q) (Jb _) ?_,rfl,q2 (fun w=>z (r2.nil_iff.mpr w)) _ (I.hok.fresh (Jb _))⟩;exact⟨by rw[JH];exact hz,_,r1.append r2,qm.new _ _⟩
end
def ixN(n:Nat)(i:Int):Option Nat:=if 0<=i then(if i<n then some i.toNat else none)else if -(n:Int)<=i then some (i+n).toNat else none
def atI{α:Type}(xs:List α)(i:Int):Option α:=(ixN xs.length i).bind fun j=>xs[j]?
theorem pd{i:Int}(h:ixN n i=some j):Qv i n=some j/\j<n /\ -(n:Int)<=i/\i<n:=by
 unfold ixN at h;by_cases h0:0<=i
 · rw[if_pos h0]at h;by_cases h1:i<n
   · rw[if_pos h1]at h;have e:i.toNat=j:=JK h;exact⟨by rw[Qw h0 h1,e],by omega,by omega,h1⟩
   · rw[if_neg h1]at h;cases h
 · rw[if_neg h0]at h;by_cases h1 : -(n:Int)<=i
   · rw[if_pos h1]at h;have e:(i+n).toNat=j:=JK h;exact⟨by rw[Qf (by omega) h1,e],by omega,h1,by omega⟩
   · rw[if_neg h1]at h;cases h
theorem jT{xs:List α}{i:Int}{v:α}(h:atI xs i=some v):∃j,Qv i xs.length=some j/\xs[j]?=some v/\j<xs.length /\ -(xs.length:Int)<=i/\i<xs.length:=by
 unfold atI at h
 cases e:ixN xs.length i with
 | none=>rw[e]at h;cases h
 | some j =>
   rw[e]at h;obtain⟨h1,h2,h3,h4⟩:=pd e;exact⟨j,h1,h,h2,h3,h4⟩
theorem cK{xs:List α}{v:α}(h:xs[j]?=some v):atI xs (j:Int)=some v:=by
 have hj:j<xs.length:=(Jn.mp h).1
 have e:ixN xs.length (j:Int)=some j:=by
  unfold ixN;rw[if_pos (by omega),if_pos (by omega)];simp
 unfold atI;rw[e];exact h
def fV(b:Expr):Prop:=∀o i,PN b false o i=operate [o,i] (OH o i)
def Ik(X:Cx)(r:R2):Prop :=
 ∀ (value slice:Expr)(pins:List (Addr×Obj))(s:Ja)(σ:St)(H:Hp)(x y:V)(v u:I0)(Q:VK),Inv X pins σ H s->RelV x v->RelV y u->r x y H Q ->
   PN slice false v u=operate [v,u] (OH v u)->Jr (JE X.prog X.w) X.A (P3 value slice v u) (EP X pins σ Q) X.xe s
def Ie(X:Cx)(id:String)(r:V->List V->Hp->VK->Prop):Prop :=
 ∀ (pins:List (Addr×Obj))(s:Ja)(σ:St)(H:Hp)(x:V)(xs:List V)(v:I0)(us:List I0)(Q:VK),Inv X pins σ H s->RelV x v->bP xs us->r x xs H Q ->
   Jr (JE X.prog X.w) X.A (call (.builtin id) (v::us)) (EP X pins σ Q) X.xe s
section
variable{X:Cx}{a b:Expr}{ta tb:TE}{pos:Pos}
theorem Ik.or{r r':R2}(h:Ik X r)(h':Ik X r'):Ik X (fun x y H Q=>r x y H Q\/r' x y H Q):=by
 intro value slice pins s σ H x y v u Q I rx ry q hs;rcases q with q|q
 · exact h value slice pins s σ H x y v u Q I rx ry q hs
 · exact h' value slice pins s σ H x y v u Q I rx ry q hs
theorem Ie.or{id:String}{r r':V->List V->Hp->VK->Prop}(h:Ie X id r)(h':Ie X id r'):Ie X id (fun x xs H Q=>r x xs H Q\/r' x xs H Q):=by
 intro pins s σ H x xs v us Q I rx rs q;rcases q with q|q
 · exact h pins s σ H x xs v us Q I rx rs q
 · exact h' pins s σ H x xs v us Q I rx rs q
theorem qZ{r:R2}(hr:Ik X r)(ha:PE X a ta)(hb:PE X b tb)(hs:fV b):PE X (.Subscript a b pos) (FI r ta tb):=by
 intro pins s σ H Q I h;exact Subscript_ (CL ha hb I h fun v u s2 x y H2 I2 rx ry q=>hr a b pins s2 σ H2 x y v u Q I2 rx ry q (hs _ _))
def DE(K:W.Frag):R2:=fun x y H Q=>∃p xs i v,x = .ref p/\y = .int i/\HJ K H p xs/\atI xs i=some v/\Q v H
def DB(K:W.Frag):R2:=fun x y H Q=>∃p xs i v,x = .ref p/\y = .int i/\HI K H p xs/\atI xs i=some v/\Q v H
def DC:R2:=fun x y H Q=>∃z i c,x = .str z/\y = .int i/\z.length<=sizeLine/\atI z.cps.toList i=some c/\Q (.str ⟨#[c]⟩) H
theorem B6:Ik X (DE X.K):=by
 intro value slice pins s σ H x y v u Q I rx ry h hs;obtain⟨p,xs,i,z,rfl,rfl,hq,he,q⟩:=h;cases rx;obtain⟨t,rfl⟩:=ry;obtain⟨its,r,pl,hz⟩:=I.list hq;obtain⟨j,h1,h2,h3,h4,h5⟩:=jT he;obtain⟨w,ew,rw'⟩:=r.get h2;have hl:=r.length;have hn:=iN;have fin:EP X pins σ Q w s:=⟨z,H,I,rw',q⟩;by_cases h0:0<=i
 · have hj:i.toNat=j:=by
     rw[Qw h0 h5]at h1;exact JK h1
   exact item_listR pl.isList h0 (by omega) (by rw[hj];simpa using ew) fin hs
 · have hj:(i+(its.toArray.size:Int)).toNat=j:=by
     rw[Qf (by omega) h4]at h1;rw[Jl,<- hl];exact JK h1
   exact OX (x:=w) pl.isList.typeIs slot_list_getitem.lookup
    (wpAny_getItem_list_neg (Q:=fun r s'=>r=w/\EP X pins σ Q r s') pl.isList (by omega) (by rw[Jl]<;>omega) (by omega) (by rw[hj];simpa using ew) ⟨rfl,fin⟩) hs
theorem DM:Ik X (DB X.K):=by
 intro value slice pins s σ H x y v u Q I rx ry h hs;obtain⟨p,xs,i,z,rfl,rfl,hq,he,q⟩:=h;cases rx;obtain⟨t,rfl⟩:=ry;obtain⟨its,r,pl,hz⟩:=I.tuple hq;obtain⟨j,h1,h2,h3,h4,h5⟩:=jT he;obtain⟨w,ew,rw'⟩:=r.get h2;have hl:=r.length;have hn:=iN;have fin:EP X pins σ Q w s:=⟨z,H,I,rw',q⟩
 exact OX (x:=w) pl.typeIs slot_tuple_getitem.lookup
  (getItem_tuple (j:=j) (Q:=fun r s'=>r=w/\EP X pins σ Q r s') pl (by omega) (by omega) (by rw[Jl,<- hl];exact h1) (by simpa using ew) ⟨rfl,fin⟩) hs
theorem zR:Ik X DC:=by
 intro value slice pins s σ H x y v u Q I rx ry h hs;obtain⟨z,i,c,rfl,rfl,hz,he,q⟩:=h;obtain⟨t,rfl⟩:=rx;obtain⟨t',rfl⟩:=ry;obtain⟨j,h1,h2,h3,h4,h5⟩:=jT he;have hl:z.cps.toList.length=z.length:=by simp[Str.length]
 rw[hl]at h1 h4 h5;have hn:=iN
 exact tail_any (typeIs_str s z t) slot_str_getitem.lookup (getItem_str (c:=c) (by
  have e1:decide (i < -(2^63:Int))=false:=decide_eq_false (by omega);have e2:decide (i ≥ 2^63)=false:=decide_eq_false (by omega)
  rw[e1,e2,Bool.or_false]) (by rw[h1];simpa using h2) ⟨.str ⟨#[c]⟩,H,I.tok _,⟨_,rfl⟩,q⟩) hs
def Gb(K:W.Frag):R2:=fun x y H Q=>DE K x y H Q\/DB K x y H Q\/DC x y H Q
theorem lh:Ik X (Gb X.K):=B6.or (DM.or zR)
theorem lZ(its:List I0)(n j:Nat)(u:I0):Pt (·.setIfInBounds j u) {cls:=.type "list", data:=.seq its.toArray n}={cls:=.type "list", data:=.seq (its.set j u).toArray n}:=by
 simp[Pt]
theorem Inv.lst{pins:List (Addr×Obj)}{σ:St}{H:Hp}{s:Ja}{p:Addr}{xs:List V}(I:Inv X pins σ H s)(h:H p=some (.lst xs)) :
 ∃(its:List I0)(n:Nat),bP xs its/\s.heap.get? p=some {cls:=.type "list", data:=.seq its.toArray n}/\xs.length<=sizeLine:=by
 obtain⟨z,its,n,r,e⟩:=I.hok p _ h;exact⟨its,n,r,e,z⟩
theorem Inv.lstUpd{p:Addr}{xs ys:List V}{its its':List I0}{n':Nat}{f:Obj->Obj}(I:Inv X pins σ H s)(h:H p=some (.lst xs))
 (ho:s.heap.get? p=some {cls:=.type "list", data:=.seq its.toArray n})(hf:f {cls:=.type "list", data:=.seq its.toArray n}={cls:=.type "list", data:=.seq its'.toArray n' })(r:bP ys its')(hz:ys.length<=sizeLine)(t:Nat) :
 Inv X pins σ (upd H p (.lst ys)) {s with heap:=s.heap.update p f,toks:=t}:=by
 have e:(s.heap.update p f).get? p=some {cls:=.type "list", data:=.seq its'.toArray n' }:=by
  rw[Np f ho (by rw[hf]<;>rfl),hf]
 refine I.write (x:=p) (e:=p) (by rw[h];trivial) (.inl rfl) (fun b u hb q=>(OY _ _ (Nf hb)).trans q) ⟨_,e⟩ ?_;exact⟨hz,its',n',r,e⟩
def BF:V->V->V->Hp->(Hp->Prop)->Prop:=fun o i v H Q=>∃p xs k j,o = .ref p/\i = .int k/\H p=some (.lst xs)/\ixN xs.length k=some j/\Q (upd H p (.lst (xs.set j v)))
theorem kF:DS X BF:=by
 intro pins s σ H o i v ov iv u Q I ro ri rv h;obtain⟨p,xs,k,j,rfl,rfl,hp,hj,q⟩:=h;cases ro;obtain⟨t,rfl⟩:=ri;obtain⟨its,n,r,ho,hz⟩:=I.lst hp;obtain⟨h1,h2,h3,h4⟩:=pd hj;have hl:=r.length;have hn:=iN
 have I':Inv X pins σ (upd H p (.lst (xs.set j v))) {s with heap:=s.heap.update p (Pt (·.setIfInBounds j u))} :=
  I.lstUpd hp ho (lZ its n j u) (r.set rv j) (by rw[List.length_set];exact hz) s.toks
 by_cases h0:0<=k
 · have hk:k.toNat=j:=by
     rw[Qw h0 h4]at h1;exact JK h1
   exact W.ki_setAt ho h0 (by omega) (by rw[Jl,<- hl];exact h4) (by rw[hk];exact⟨_,I',q⟩)
 · have hk:(k+(its.toArray.size:Int)).toNat=j:=by
     rw[Qf (by omega) h3]at h1;rw[Jl,<- hl];exact JK h1
   exact W.ki_setBack ho (by omega) (by rw[Jl,<- hl];exact h3) (by omega) (by rw[hk];exact⟨_,I',q⟩)
theorem iz(lo hi:Option Int)(n:Nat):(Ni lo hi none n).1=((HT.sIx n 0 lo:Nat):Int)/\(Ni lo hi none n).2.1=((HT.sIx n n hi:Nat):Int)/\(Ni lo hi none n).2.2=1:=by
 refine⟨?_,?_,rfl⟩
 · cases lo with
   | none=>simp[Ni,HT.sIx]
   | some i =>
     simp only[Ni,HT.sIx,Option.getD_none,show(1:Int)>0 by decide,if_true];by_cases h:i<0
     · simp only[h,if_true]<;>omega
     · simp only[h,if_false]<;>omega
 · cases hi with
   | none=>simp[Ni,HT.sIx]
   | some i =>
     simp only[Ni,HT.sIx,Option.getD_none,show(1:Int)>0 by decide,if_true];by_cases h:i<0
     · simp only[h,if_true]<;>omega
     · simp only[h,if_false]<;>omega
theorem gQ(its:List I0)(lo hi:Option Int):slicePick its.toArray lo hi none=((its.drop (HT.sIx its.length 0 lo)).take (HT.sIx its.length its.length hi-HT.sIx its.length 0 lo)).toArray:=by
 obtain⟨h1,h2,h3⟩:=iz lo hi its.toArray.size;unfold slicePick;rw[h1,h2,h3];simp only[sliceRange_one,pick_run,Jl]<;>rfl
def El(K:W.Frag):V->Option Int->Option Int->Hp->VK->Prop:=fun x lo hi H Q=>∃a xs,x = .ref a/\HJ K H a xs/\∀p,H p=none->Q (.ref p) (upd H p (.lst (qp xs lo hi)))
theorem nT:HM X (El X.K):=by
 intro pins s σ H x v vl vu lo hi sl Q I rx hs pl pu h;obtain⟨a,xs,rfl,hx,q⟩:=h;cases rx;obtain⟨its,r,ht,hz⟩:=I.list hx;have hlen:=r.length;refine⟨"list", _,slot_list_getitem.lookup,ht.isList.typeIs,?_⟩;refine wpAny_getItem_list_slice ht.isList hs pl pu .none (by simp) ?_ (by rw[Jl]<;>omega);rw[gQ,<- hlen];refine⟨.ref s.heap.objs.size,_,I.laid (t':=s.toks) (o:=.lst (qp xs lo hi)) (fun b ob q=>IW _ q) (Jb _) ?_,rfl,q _ (I.hok.fresh (Jb _))⟩;exact⟨JF (fO xs lo hi) hz,_,0,(r.drop (HT.sIx xs.length 0 lo)).take (HT.sIx xs.length xs.length hi-HT.sIx xs.length 0 lo),Jk _ rfl⟩
theorem cW:dg X (.builtin "len") (fun xs H Q=>∃p ys,xs=[.ref p]/\(HJ X.K H p ys\/HI X.K H p ys)/\Q (.int ys.length) H):=by
 intro pins s σ H xs us Q I r h;obtain⟨p,ys,rfl,hq,q⟩:=h;obtain⟨u,rfl,rx⟩:=vals1 r;cases rx;have hn:=iN;rcases hq with hq|hq
 · obtain⟨its,r',pl,hz⟩:=I.list hq;have hlen:=r'.length;exact Calls.call_len_list pl.isList (by simp only[Jl]<;>omega) ⟨.int ys.length,H,I.tok _,⟨s.toks+1,by rw[Jl,hlen]⟩,q⟩
 · obtain⟨its,r',pl,hz⟩:=I.tuple hq;have hlen:=r'.length;exact len_tuple pl (by simp only[Jl]<;>omega) ⟨.int ys.length,H,I.tok _,⟨s.toks+1,by rw[Jl,hlen]⟩,q⟩
theorem dg.or{f:I0}{r':List V->Hp->VK->Prop}(h:dg X f r)(h':dg X f r'):dg X f (fun xs H Q=>r xs H Q\/r' xs H Q):=by
 intro pins s σ H xs us Q I rs q;rcases q with q|q
 · exact h pins s σ H xs us Q I rs q
 · exact h' pins s σ H xs us Q I rs q
theorem i7:dg X (.type "list") (fun xs H Q=>∃p ys,xs=[.ref p]/\(HJ X.K H p ys\/HI X.K H p ys)/\∀l,H l=none->Q (.ref l) (upd H l (.lst ys))):=by
 intro pins s σ H xs us Q I r h;obtain⟨p,ys,rfl,hq,q⟩:=h;obtain⟨u,rfl,rx⟩:=vals1 r;cases rx
 have fin:∀(its:List I0),bP ys its->ys.length<=sizeLine->∀(h':Heap)(c':Nat),(∀b o',s.heap.get? b=some o'->h'.get? b=some o') ->
  h'.get? s.heap.objs.size=some {cls:=.type "list", dict:=none,data:=.seq its.toArray c',slots:=#[]}->EP X pins σ Q (.ref s.heap.objs.size) {s with heap:=h' }:=fun its r' hz h' c' kp e =>
  ⟨.ref s.heap.objs.size,_,I.laid (t':=s.toks) kp (Jb _) (show cw X.prog X.w _ h' _ (.lst ys)from⟨hz,its,c',r',e⟩),rfl,q _ (I.hok.fresh (Jb _))⟩
 rcases hq with hq|hq
 · obtain⟨its,r',pl,hz⟩:=I.list hq;have hlen:=r'.length;obtain⟨o,ho,hc,n,hd⟩:=pl.isList;exact call_list_seq p (.inl rfl) ho hc hd (fun h' c' kp e=>fin its r' hz h' c' kp e) (by simp only[Jl]<;>omega)
 · obtain⟨its,r',pl,hz⟩:=I.tuple hq;have hlen:=r'.length;obtain⟨o,ho,hc,n,hd⟩:=pl;exact call_list_seq p (.inr rfl) ho hc hd (fun h' c' kp e=>fin its r' hz h' c' kp e) (by simp only[Jl]<;>omega)
theorem bW:dg X (.type "tuple") (fun xs H Q=>∃p ys,xs=[.ref p]/\((HJ X.K H p ys/\∀l,H l=none->Q (.ref l) (upd H l (.tup ys)))\/(HI X.K H p ys/\Q (.ref p) H))):=by
 intro pins s σ H xs us Q I r h;obtain⟨p,ys,rfl,h⟩:=h;obtain⟨u,rfl,rx⟩:=vals1 r;cases rx;rcases h with⟨hq,q⟩|⟨hq,q⟩
 · obtain⟨its,r',pl,hz⟩:=I.list hq;have hlen:=r'.length;refine call_tuple_list pl.isList (fun h' kp=>?_) (by simp only[Jl]<;>omega);have I1:Inv X pins σ H {s with heap:=h' }:=I.kept (t':=s.toks) kp
   have I2:Inv X pins σ (upd H h'.objs.size (.tup ys)) {s with heap:=h'.push {cls:=.type "tuple", data:=.seq its.toArray}} :=
    I1.laid (t':=s.toks) (fun b o e=>IW _ e) (Jb _) (show cw X.prog X.w _ _ _ (.tup ys)from⟨hz,its,r',qm.new _ _⟩)
   exact⟨.ref h'.objs.size,_,I2,rfl,q _ (I1.hok.fresh (Jb _))⟩
 · obtain⟨its,r',pl,hz⟩:=I.tuple hq;exact call_tuple_same pl ⟨.ref p,H,I,rfl,q⟩
def Fv(K:W.Frag)(T:String)(x:V)(H:Hp):Prop:=match x with
 | .str _=>T = "str"
 | .int _=>T = "int"
 | .ref p=>(T = "list" /\ ∃xs,HJ K H p xs)\/(T = "tuple" /\ ∃xs,HI K H p xs) \/
     (T = "dict" /\ ((∃kvs,H p=some (.dK kvs))\/∃kvs,H p=some (.dT kvs)))\/(T = "set" /\ ∃S n,H p=some (.set S n))
 | _=>False
theorem yn{T:String}{x:V}{v:I0}(I:Inv X pins σ H s)(r:RelV x v)(ty:Fv X.K T x H) :
 s.TypeIs v T/\∀a,v = .ref a->∃ob,s.heap.get? a=some ob/\ob.dict=none:=by
 cases x with
 | str z =>
   obtain⟨t,rfl⟩:=r;cases(show T = "str" from ty)
   exact⟨typeIs_str s z t,fun _ e=>nomatch e⟩
 | int i =>
   obtain⟨t,rfl⟩:=r;cases(show T = "int" from ty)
   exact⟨typeIs_int s i t,fun _ e=>nomatch e⟩
 | ref p =>
   cases r;rcases ty with⟨rfl,xs,hq⟩|⟨rfl,xs,hq⟩|⟨rfl,hk⟩|⟨rfl,S,n,hk⟩
   · obtain⟨its,_,pl,_⟩:=I.list hq;refine⟨pl.isList.typeIs,fun a e=>?_⟩;cases e;obtain⟨o,n,e,c,hd,_⟩:=pl;exact⟨o,e,hd⟩
   · obtain⟨o,e1,e2,e3⟩:=I.tupleD hq;refine⟨⟨o,e1,e2⟩,fun a e=>?_⟩;cases e;exact⟨o,e1,e3⟩
   · have z:∃o,s.heap.get? p=some o/\o.ExactDict:=by
       rcases hk with⟨kvs,hk⟩|⟨kvs,hk⟩
       · obtain⟨_,_,_,_,o,_,_,e,ex,_⟩:=I.hok p _ hk;exact⟨o,e,ex⟩
       · obtain⟨_,_,_,_,o,_,_,e,ex,_⟩:=I.hok p _ hk;exact⟨o,e,ex⟩
     obtain⟨o,e,ex⟩:=z;refine⟨⟨o,e,ex.1⟩,fun a e2=>?_⟩;cases e2;exact⟨o,e,ex.2.1⟩
   · obtain⟨o,_,_,_,e,ex,_⟩:=I.hok p _ hk;refine⟨⟨o,e,ex.1⟩,fun a e2=>?_⟩;cases e2
     exact⟨o,e,ex.2.1⟩
 | _=>exact JR ty
def FN(K:W.Frag)(T:String)(r:V->List V->Hp->VK->Prop)(to:TE)(t:TA):TE:=fun σ H Q=>to σ H fun x H1=>Fv K T x H1/\t σ H1 fun xs H2=>r x xs H2 Q
variable{o e:Expr}{es:List Expr}{to:TE}{t:TA}{name:Str}{apos cpos:Pos}{T id:String}{r:V->List V->Hp->VK->Prop}
theorem rA(pa:PlainAttrs T)(slot:Slot T name id)(hty:typeOf (.builtin id)=pure (.type "method_descriptor"))(hm:Ie X id r)(ho:PE X o to)(ha:PA X (e::es) t)
 (hbase:Li o name X.env (eval o X.env)=eval o X.env:=by rfl)
 (hfew:((KB cpos (Jc (e::es) X.env)).all (fun x=>!x.1)&&(Nn cpos (LW [] X.env)).all (fun x=>x.1.isSome)
  && decide ((e::es).length+([]:List LG).length+(if([]:List LG).isEmpty then 0 else 1)<30))=true:=by rfl)
 (hline:(apos.endLine==cpos.line)=true:=by rfl)(hs:Jc (e::es) X.env=(false,eval e X.env)::Jc es X.env:=by rfl)(hplain:(KB cpos (Jc es X.env)).any (·.1)=false:=by rfl) :
 PE X (.Call (.Attribute o name apos) (e::es) [] cpos) (FN X.K T r to t):=by
 intro pins s σ H Q I h;refine wpAny_Call_method_late hbase hfew hline rfl (FB (ho pins s σ H _ I h) fun v s1 ⟨x,H1,I1,r1,ty,q1⟩=>?_);obtain⟨h1,h2⟩:=yn I1 r1 ty;refine⟨T,id,pa,slot,hty,h1,h2,?_⟩;have hA:=ha cpos pins s1 σ H1 _ I1 q1;rw[hs]at hA ⊢;refine Nb (by show(false||(KB cpos (Jc es X.env)).any (·.1))=false;rw[hplain]<;>rfl) (Pw ?_);exact FB hA fun us s2 ⟨vs,H2,I2,r2,q2⟩=>hm pins s2 σ H2 x vs v us Q I2 r1 r2 q2
end
def Ig(X:Cx)(id:String)(r:V->List V->Hp->VK->Prop):Prop :=
 ∀ (pins:List (Addr×Obj))(s:Ja)(σ:St)(H:Hp)(x:V)(xs:List V)(v:I0)(us:List I0)(Q:VK),Inv X pins σ H s->RelV x v->bP xs us->r x xs H Q ->
   Jr (JE X.prog X.w) X.A (call (.builtin id) (v::us)) (EP X pins σ Q) X.xe s
theorem bP.one:∀{x:V}{us:List I0},bP [x] us->∃u,us=[u]/\RelV x u
 | _,_,.cons r .nil=>⟨_,rfl,r⟩
theorem bP.two:∀{x y:V}{us:List I0},bP [x,y] us->∃u v,us=[u,v]/\RelV x u/\RelV y v
 | _,_,_,.cons r (.cons q .nil)=>⟨_,_,rfl,r,q⟩
theorem bP.zero:∀{us:List I0},bP [] us->us=[]
 | _,.nil=>rfl
theorem bP.eraseIdx:∀{xs:List V}{us:List I0}(i:Nat),bP xs us->bP (xs.eraseIdx i) (us.eraseIdx i)
 | _,_,_,.nil=>.nil
 | _,_,0,.cons _ t=>t
 | _,_,i+1,.cons r t=>.cons r (bP.eraseIdx i t)
theorem bP.reverse{xs:List V}{us:List I0}(h:bP xs us):bP xs.reverse us.reverse:=by
 induction h with
 | nil=>exact .nil
 | cons r t ih=>rw[Ou,Ou];exact bP.append ih (.cons r .nil)
theorem bP.rep{xs:List V}{us:List I0}(h:bP xs us):∀k:Nat,bP (Jp k xs).flatten (Jp k us).flatten
 | 0=>.nil
 | k+1=>by
   rw[Km,Km,Lx,Lx];exact bP.append h (bP.rep h k)
theorem iO{α:Type}:∀(l:List α)(i:Nat),(l.eraseIdx i).length<=l.length
 | [],_=>Jb _
 | _::_,0=>Nat.le_succ _
 | _::r,i+1=>Nat.succ_le_succ (iO r i)
theorem foldl_rep(its:List I0):∀(k:Nat)(acc:List I0),
 ML (fun x1 x2=>x1++x2) acc.toArray (Jp k its.toArray)=(acc++(Jp k its).flatten).toArray
 | 0,acc=>by simp
 | k+1,acc=>by
   have e:acc.toArray++its.toArray=(acc++its).toArray:=by simp
   have e2:(acc++its)++(Jp k its).flatten=acc++(Jp (k+1) its).flatten:=by
    rw[Km,Lx,Ov]
   rw[<- e2,<- foldl_rep its k (acc++its),<- e,Km,LA]
section
variable{X:Cx}{pins:List (Addr×Obj)}{σ:St}{H:Hp}{s:Ja}{l b:Addr}{xs ys zs:List V}
theorem Inv.lset{its its':List I0}{f:Array I0->Array I0}(I:Inv X pins σ H s)(hH:H l=some (.lst xs))
 (e:s.heap.get? l=some {cls:=.type "list", data:=.seq its.toArray n})(hf:f its.toArray=its'.toArray)(hv:bP ys its')(hz:ys.length<=sizeLine) :
 Inv X pins σ (upd H l (.lst ys)) {s with heap:=s.heap.update l (Pt f),toks:=t' }:=by
 have q:=PySem.IsL.update e f;rw[hf]at q;refine I.write (x:=l) (e:=l) (by rw[hH];exact trivial) (.inl rfl) (fun b' u hb hu=>(OY s.heap (Pt f) (Nf hb)).trans hu) ⟨_,q⟩ ?_;exact⟨hz,its',_,hv,q⟩
theorem Inv.lnew{its:List I0}(I:Inv X pins σ H s)(hv:bP ys its)(hz:ys.length<=sizeLine) :
 Inv X pins σ (upd H s.heap.objs.size (.lst ys)) {s with heap:=s.heap.push {cls:=.type "list", data:=.seq its.toArray},toks:=t' } :=
 I.laid (fun _ _ q=>IW _ q) (Jb _) ⟨hz,its,0,hv,Jk _ rfl⟩
theorem Inv.fresh(I:Inv X pins σ H s):H s.heap.objs.size=none:=I.hok.fresh (Jb _)
theorem Inv.lstM(I:Inv X pins σ H s)(hH:H l=some (.lst xs)):xs.length<=sizeLine/\∃(its:List I0)(n:Nat),bP xs its/\xs.length=its.length/\s.heap.get? l=some {cls:=.type "list", data:=.seq its.toArray n}:=by
 obtain⟨z,its,n,r,e⟩:=I.hok l _ hH;exact⟨z,its,n,r,r.length,e⟩
theorem rE(h:n<=sizeLine):MM n=false:=by
 unfold MM;exact decide_eq_false (by omega)
end
section
variable{X:Cx}
def ot:V->List V->Hp->VK->Prop:=fun x vs H Q=>∃l xs y,x = .ref l/\vs=[y]/\H l=some (.lst xs)/\xs.length<sizeLine/\Q .non (upd H l (.lst (xs++[y])))
theorem dC:Ig X "list.append" ot:=by
 intro pins s σ H x vs v us Q I rx rv h;obtain⟨l,xs,y,rfl,rfl,hH,hz,q⟩:=h;cases rx;obtain⟨u,rfl,ru⟩:=rv.one;obtain⟨z,its,n,r,hl,e⟩:=I.lstM hH;refine Nj F.slot_list_append ⟨_,e,rfl⟩ F.entry_list_append (F.args_list_append_2 _ _) (PySem.list_append l its.toArray n u (by rw[Jl];omega)) ⟨e,?_⟩;refine⟨.non,_,I.lset (its':=its++[u]) hH e (by simp) (r.append (.cons ru .nil)) ?_,rfl,q⟩;rw[JH,O7];omega
def oq:V->List V->Hp->VK->Prop:=fun x vs H Q=>∃l b xs zs,x = .ref l/\vs=[.ref b]/\H l=some (.lst xs)/\H b=some (.lst zs)/\xs.length+zs.length<=sizeLine/\Q .non (upd H l (.lst (xs++zs)))
theorem oS:Ig X "list.extend" oq:=by
 intro pins s σ H x vs v us Q I rx rv h;obtain⟨l,b,xs,zs,rfl,rfl,hH,hB,hz,q⟩:=h;cases rx;obtain⟨u,rfl,ru⟩:=rv.one;cases ru;obtain⟨z,its,n,r,hl,e⟩:=I.lstM hH;obtain⟨z2,its2,n2,r2,hl2,e2⟩:=I.lstM hB;have hsz:its.toArray.size+its2.toArray.size<=sizeLine:=by rw[Jl,Jl];omega
 have hlong:¬(!its.toArray.isEmpty&&MM (its.toArray.size+its2.toArray.size))=true:=by
  rw[rE hsz,Bool.and_false];exact J5
 refine Nj F.slot_list_extend ⟨_,e,rfl⟩ F.entry_list_extend (F.args_list_extend_2 _ _)
  (AutoSeq1.list_extend_list_list_0 l its.toArray n b its2.toArray n2 hlong (by rw[Jl];omega) (by omega)) ⟨e,e2,?_⟩
 refine⟨.non,_,I.lset (its':=its++its2) hH e (by simp) (r.append r2) ?_,rfl,q⟩;rw[JH];omega
def tN:V->List V->Hp->VK->Prop:=fun x vs H Q=>∃l xs i k y,x = .ref l/\vs=[.int i]/\H l=some (.lst xs) /\ -(2^63)<=i/\i<2^63/\Qv i xs.length=some k/\xs[k]?=some y/\Q y (upd H l (.lst (xs.eraseIdx k)))
theorem rH:Ig X "list.pop" tN:=by
 intro pins s σ H x vs v us Q I rx rv h;obtain⟨l,xs,i,k,y,rfl,rfl,hH,h1,h2,hk,hy,q⟩:=h;cases rx;obtain⟨u,rfl,ru⟩:=rv.one;obtain⟨t,rfl⟩:=ru;obtain⟨z,its,n,r,hl,e⟩:=I.lstM hH;obtain⟨w,hw,rw'⟩:=r.get hy
 refine Nj F.slot_list_pop ⟨_,e,rfl⟩ F.entry_list_pop (F.args_list_pop_2 _ _)
  (MeetsSeq.list_pop_at l its.toArray n i t k w (fitsIndex_both h1 h2) (by rw[Jl,<- hl];exact hk) (by rw[<- O8];exact hw) (by rw[Jl];omega)) ⟨e,?_⟩
 refine⟨y,_,I.lset (its':=its.eraseIdx k) hH e ?_ (r.eraseIdx k) ?_,rw',q⟩
 · show its.toArray.eraseIdxIfInBounds k=(its.eraseIdx k).toArray;rw[List.eraseIdxIfInBounds_toArray]
 · have:=iO xs k;omega
def DG:R2:=fun x y H Q=>∃l b xs zs,x = .ref l/\y = .ref b/\H l=some (.lst xs)/\H b=some (.lst zs)/\xs.length+zs.length<=sizeLine/\∀p,H p=none->Q (.ref p) (upd H p (.lst (xs++zs)))
theorem zt:Ib X (Ma .Add) DG:=by
 intro pins s σ H x y v u Q I rx ry h;obtain⟨l,b,xs,zs,rfl,rfl,hH,hB,hz,q⟩:=h;cases rx;cases ry;obtain⟨z,its,n,r,hl,e⟩:=I.lstM hH;obtain⟨z2,its2,n2,r2,hl2,e2⟩:=I.lstM hB;refine PySem.P.add_list e e2 ?_ (by rw[Jl,Jl];omega);have ea:its.toArray++its2.toArray=(its++its2).toArray:=by simp
 rw[ea];exact⟨.ref _,_,I.lnew (t':=s.toks) (r.append r2) (by rw[JH];omega),rfl,q _ I.fresh⟩
theorem wg(xs:List α)(k:Nat):(Jp k xs).flatten.length=k*xs.length:=by
 induction k with
 | zero=>simp
 | succ k ih=>rw[Km,Lx,JH,ih,Qg,Nat.add_comm]
end
section
variable{prog:Ju}{w:Kh}{A:Ko}{E:I0->Ja->Prop}{s:Ja}
end
section
variable{X:Cx}
end
section
variable{κ:Type}[DecidableEq κ]
def dq(kvs:List (κ×V))(k:κ):Option V:=(kvs.find? fun kv=>decide (kv.1=k)).map (·.2)
def cT(kvs:List (κ×V))(k:κ)(v:V):List (κ×V) :=
 if(kvs.any fun kv=>decide (kv.1=k))=true then kvs.map (fun kv=>if kv.1=k then(kv.1,v)else kv)else kvs++[(k,v)]
def Ac(kvs:List (κ×V))(k:κ):List (κ×V):=kvs.filter fun kv=>decide (kv.1≠k)
theorem c_{p:κ×V}{r:List (κ×V)}{k:κ}(e:p.1=k):dq (p::r) k=some p.2:=by simp[dq,Ka,e]
theorem gN{p:κ×V}{r:List (κ×V)}{k:κ}(e:¬p.1=k):dq (p::r) k=dq r k:=by simp[dq,Ka,e]
theorem kf(k:κ):∀kvs:List (κ×V),(kvs.any fun kv=>decide (kv.1=k))=(dq kvs k).isSome
 | []=>rfl
 | p::r=>by
   rw[Mw];by_cases e:p.1=k
   · simp only[c_ e,decide_eq_true e,Bool.true_or,N8]
   · rw[gN e,decide_eq_false e,Bool.false_or];exact kf k r
theorem cG(kvs:List (κ×V))(k:κ)(v:V):(cT kvs k v).length<=kvs.length+1:=by
 unfold cT;split
 · rw[I_];omega
 · rw[JH,JG,MT];omega
theorem xt.isSome_eq{o:Option V}{u:Option I0}(r:xt o u):o.isSome=u.isSome:=by
 cases o with
 | none=>cases u with
   | none=>rfl
   | some _=>exact(show False from r).elim
 | some _=>cases u with
   | none=>exact(show False from r).elim
   | some _=>rfl
theorem xt.getD{o:Option V}{u:Option I0}{d:V}{d':I0}(r:xt o u)(rd:RelV d d'):RelV (o.getD d) (u.getD d'):=by
 cases o with
 | none=>cases u with
   | none=>exact rd
   | some _=>exact(show False from r).elim
 | some _=>cases u with
   | none=>exact(show False from r).elim
   | some _=>exact r
theorem KV.val{kvs:List (κ×V)}{vs:List (κ×I0)}(r:KV kvs vs)(k:κ):xt (dq kvs k) (P8 vs k):=by
 unfold KV at r
 induction r with
 | nil=>exact NE
 | @cons p q ps qs h t ih =>
   obtain⟨h1,h2⟩:=h;by_cases e:p.1=k
   · have e':q.1=k:=h1.symm.trans e;have b:P8 (q::qs) k=some q.2:=by simp[P8,Ka,e']
     rw[c_ e,b];exact h2
   · have e':¬q.1=k:=fun z=>e (h1.trans z);have b:P8 (q::qs) k=P8 qs k:=by simp[P8,Ka,e']
     rw[gN e,b];exact ih
theorem KV.any{kvs:List (κ×V)}{vs:List (κ×I0)}(r:KV kvs vs)(k:κ):(kvs.any fun kv=>decide (kv.1=k))=vs.any fun kv=>decide (kv.1=k):=by
 unfold KV at r
 induction r with
 | nil=>rfl
 | cons h t ih=>rw[Mw,Mw,ih,h.1]
theorem KV.repl{kvs:List (κ×V)}{vs:List (κ×I0)}(r:KV kvs vs)(k:κ){y:V}(ry:RelV y u) :
 KV (kvs.map fun kv=>if kv.1=k then(kv.1,y)else kv) (vs.map fun kv=>if kv.1=k then(kv.1,u)else kv):=by
 unfold KV at r ⊢
 induction r with
 | nil=>exact .nil
 | @cons p q ps qs h t ih =>
   rw[Ji,Ji];refine .cons ?_ ih;obtain⟨h1,h2⟩:=h;by_cases e:p.1=k
   · rw[if_pos e,if_pos (h1.symm.trans e)];exact⟨h1,ry⟩
   · rw[if_neg e,if_neg (fun z=>e (h1.trans z))];exact⟨h1,h2⟩
theorem KV.put{kvs:List (κ×V)}{vs:List (κ×I0)}(r:KV kvs vs)(k:κ){y:V}(ry:RelV y u):KV (cT kvs k y) (stored vs k u):=by
 unfold cT stored;rw[r.any k];by_cases e:(vs.any fun kv=>decide (kv.1=k))=true
 · rw[if_pos e,if_pos e];exact r.repl k ry
 · rw[if_neg e,if_neg e];exact Kr.snoc r ⟨rfl,ry⟩
theorem KV.drop{kvs:List (κ×V)}{vs:List (κ×I0)}(r:KV kvs vs)(k:κ):KV (Ac kvs k) (without vs k):=by
 unfold KV at r ⊢;unfold Ac without
 induction r with
 | nil=>exact .nil
 | @cons p q ps qs h t ih =>
   obtain⟨h1,h2⟩:=h;rw[Nv,Nv];by_cases e:p.1=k
   · have a:¬decide (p.1≠k)=true:=by simp[e]
     have b:¬decide (q.1≠k)=true:=by simp[h1.symm.trans e]
     rw[if_neg a,if_neg b];exact ih
   · have e':¬q.1=k:=fun z=>e (h1.trans z);have a:decide (p.1≠k)=true:=by simp[e]
     have b:decide (q.1≠k)=true:=by simp[e']
     rw[if_pos a,if_pos b];exact .cons ⟨h1,h2⟩ ih
theorem KV.keys{kvs:List (κ×V)}{vs:List (κ×I0)}(r:KV kvs vs):kvs.map (·.1)=vs.map (·.1):=by
 unfold KV at r
 induction r with
 | nil=>rfl
 | cons h t ih=>rw[Ji,Ji,ih,h.1]
theorem KV.length{kvs:List (κ×V)}{vs:List (κ×I0)}(r:KV kvs vs):kvs.length=vs.length:=JU r
end
theorem mi{w:Kh}{k:Ih}(r:RelV (kV k) u):(bj P w).is k u=true:=by
 cases k with
 | inl i=>obtain⟨t,e⟩:=(show ∃t,u=PZ i t from r);subst e;exact jF P w i t
 | inr x=>obtain⟨t,e⟩:=(show ∃t,u=Qq x t from r);subst e;exact jE P w x t
theorem fH{P:Ju}{w:Kh}:∀{ks:List Ih}{us:List I0},bP (ks.map kV) us->ItemsAre (bj P w) ks us
 | [],_,r=>by rw[O9]at r;cases r;exact .nil
 | k::ks,_,r=>by
   rw[Ji]at r
   cases r with
   | cons h t=>exact .cons (mi h) (fH t)
abbrev KT(H:Hp):List (List Ih×V)->List (List Ih×Addr×I0)->Prop:=Kr fun p q=>p.1=q.1/\H q.2.1=some (.tup (p.1.map kV))/\RelV p.2 q.2.2
theorem KT.val{kvs:List (List Ih×V)}{xs:List (List Ih×Addr×I0)}(r:KT H kvs xs)(k:List Ih):xt (dq kvs k) ((QJ xs k).map (·.2)):=by
 induction r with
 | nil=>exact NE
 | @cons p q ps qs h t ih =>
   obtain⟨h1,_,h2⟩:=h;by_cases e:p.1=k
   · have e':q.1=k:=h1.symm.trans e;have b:QJ (q::qs) k=some q.2:=by simp[QJ,Ka,e']
     rw[c_ e,b];exact h2
   · have e':¬q.1=k:=fun z=>e (h1.trans z);have b:QJ (q::qs) k=QJ qs k:=by simp[QJ,Ka,e']
     rw[gN e,b];exact ih
theorem KT.repl{kvs:List (List Ih×V)}{xs:List (List Ih×Addr×I0)}(r:KT H kvs xs)(k:List Ih){y:V}(ry:RelV y u) :
 KT H (kvs.map fun kv=>if kv.1=k then(kv.1,y)else kv) (xs.map (putAt k u)):=by
 induction r with
 | nil=>exact .nil
 | @cons p q ps qs h t ih =>
   rw[Ji,Ji];refine .cons ?_ ih;obtain⟨h1,h2,h3⟩:=h;unfold putAt;by_cases e:p.1=k
   · rw[if_pos e,if_pos (h1.symm.trans e)];exact⟨h1,h2,ry⟩
   · rw[if_neg e,if_neg (fun z=>e (h1.trans z))];exact⟨h1,h2,h3⟩
theorem KT.put{kvs:List (List Ih×V)}{xs:List (List Ih×Addr×I0)}(r:KT H kvs xs)(k:List Ih){b:Addr}{y:V}(hb:H b=some (.tup (k.map kV)))(ry:RelV y u) :
 KT H (cT kvs k y) (storedH xs k b u):=by
 have e:(kvs.any fun kv=>decide (kv.1=k))=(QJ xs k).isSome:=by
  rw[kf,(r.val k).isSome_eq,Option.isSome_map]
 unfold cT storedH;rw[e];by_cases q:(QJ xs k).isSome=true
 · rw[if_pos q,if_pos q];exact r.repl k ry
 · rw[if_neg q,if_neg q];exact Kr.snoc r ⟨rfl,hb,ry⟩
theorem KT.keeps{kvs:List (List Ih×V)}{xs:List (List Ih×Addr×I0)}(r:KT H kvs xs)(ht:∀b ys,H b=some (.tup ys)->H' b=some (.tup ys)):KT H' kvs xs :=
 Kr.mapP r fun _ _ z=>⟨z.1,ht _ _ z.2.1,z.2.2⟩
section
variable{P:Ju}{w:Kh}{H:Hp}{h:Heap}{a:Addr}
theorem yP{u:HO}(ok:IA P w H h)(e:Rd H a u):cw P w H h a u:=e.ok ok
theorem pE{kvs:List (Ih×V)}(ok:IA P w H h)(e:Rd H a (.dK kvs)):kvs.length<=sizeLine/\(a==Lg)=false/\∃vs,KV kvs vs/\h.DictOf (bj P w) a vs :=
 show cw P w H h a (.dK kvs)from yP ok e
theorem wP{kvs:List (Ih×V)}(ok:IA P w H h)(e:H a=some (.dK kvs)):kvs.length<=sizeLine/\(a==Lg)=false/\∃vs,KV kvs vs/\h.DictOf (bj P w) a vs:=pE ok (.inl e)
theorem lg{ks:List Ih}(ok:IA P w H h)(e:H a=some (.tup (ks.map kV))):(Oo (bj P w)).is h ks a:=by
 obtain⟨_,its,r,o,h1,h2,⟨n,h3⟩,_⟩:=(show cw P w H h a (.tup (ks.map kV))from ok a _ e);exact⟨o,its.toArray,n,h1,h2,h3,by simpa using fH r⟩
theorem mD{kvs:List (List Ih×V)}(ok:IA P w H h)(e:Rd H a (.dT kvs)):kvs.length<=sizeLine/\(a==Lg)=false /\
 ∃xs,KT H kvs xs/\h.DictOfH (Oo (bj P w)) a xs:=by
 obtain⟨z,y,xs,r,o,es,ep,h1,h2,h3,h4,h5⟩:=(show cw P w H h a (.dT kvs)from yP ok e);refine⟨z,y,xs,r,o,es,ep,h1,h2,h3,h4,fun x hx=>?_,h5⟩
 have all:∀{l:List (List Ih×V)}{m:List (List Ih×Addr×I0)},KT H l m->∀x∈m,(Oo (bj P w)).is h x.1 x.2.1:=by
  intro l m q
  induction q with
  | nil=>intro x hx;exact nomatch hx
  | @cons p q ps qs hq t ih =>
    intro x hx;rcases JA.mp hx with e|hx
    · subst e;exact lg ok (by rw[<- hq.1];exact hq.2.1)
    · exact ih x hx
 exact all r x hx
theorem Cv{kvs:List (List Ih×V)}(ok:IA P w H h)(e:H a=some (.dT kvs)):kvs.length<=sizeLine/\(a==Lg)=false /\
 ∃xs,KT H kvs xs/\h.DictOfH (Oo (bj P w)) a xs:=mD ok (.inl e)
end
def xy(H:Hp)(a:Addr)(y:V)(r:Option V):Prop :=
 (∃kvs k,Rd H a (.dK kvs)/\y=kV k/\r=dq kvs k)\/∃kvs k b,Rd H a (.dT kvs)/\y = .ref b/\H b=some (.tup (k.map kV))/\r=dq kvs k
def A5(H:Hp)(a:Addr)(y v:V)(H':Hp):Prop :=
 (∃kvs k,H a=some (.dK kvs)/\y=kV k/\kvs.length<sizeLine/\H'=upd H a (.dK (cT kvs k v))) \/
 ∃kvs k b,H a=some (.dT kvs)/\y = .ref b/\H b=some (.tup (k.map kV))/\kvs.length<sizeLine/\H'=upd H a (.dT (cT kvs k v))
theorem xy.k{H:Hp}{a:Addr}{kvs:List (Ih×V)}{k:Ih}(e:H a=some (.dK kvs)):xy H a (kV k) (dq kvs k):=.inl ⟨kvs,k,.inl e,rfl,rfl⟩
theorem xy.t{b:Addr}{kvs:List (List Ih×V)}{k:List Ih}(e:H a=some (.dT kvs))(eb:H b=some (.tup (k.map kV))):xy H a (.ref b) (dq kvs k):=.inr ⟨kvs,k,b,.inl e,rfl,eb,rfl⟩
theorem A5.k{H:Hp}{a:Addr}{kvs:List (Ih×V)}{k:Ih}{v:V}(e:H a=some (.dK kvs))(hl:kvs.length<sizeLine):A5 H a (kV k) v (upd H a (.dK (cT kvs k v))):=.inl ⟨kvs,k,e,rfl,hl,rfl⟩
theorem A5.t{b:Addr}{kvs:List (List Ih×V)}{k:List Ih}(e:H a=some (.dT kvs))(eb:H b=some (.tup (k.map kV)))(hl:kvs.length<sizeLine) :
 A5 H a (.ref b) v (upd H a (.dT (cT kvs k v))):=.inr ⟨kvs,k,b,e,rfl,eb,hl,rfl⟩
section
variable{X:Cx}{pins:List (Addr×Obj)}{σ:St}{H:Hp}{s:Ja}{a:Addr}{y v:V}{u r:I0}{o:Option V}{A:Ko}{E:I0->Ja->Prop}
theorem Inv.big(I:Inv X pins σ H s):Lg<s.heap.objs.size:=by
 have h:Ke<s.heap.objs.size:=(I.mod.glob.keeps I.bk).lt;exact O_ (by decide) h
theorem pH(hu:A.units+1<N1)(I:Inv X pins σ H s)(g:xy H a y (some v))(ry:RelV y u)(h:∀w' s',Inv X pins σ H s'->RelV v w'->Q w' s') :
 Jr (JE X.prog X.w) A (OH (.ref a) u) Q E s:=by
 rcases g with⟨kvs,k,e,ey,l⟩|⟨kvs,k,b,e,ey,eb,l⟩
 · subst ey;obtain⟨z,hd,vs,rel,dd⟩:=pE I.hok e;obtain⟨w',hw,rw'⟩:=xt.some_of (v:=v) (o:=P8 vs k) (by rw[l];exact rel.val k);exact wpAny_getItem_of (mi ry) dd.mapOf hw (h w' _ (I.tok _) rw')
 · subst ey;cases(show u=K0 b from ry);obtain⟨z,hd,xs,rel,dd⟩:=mD I.hok e;obtain⟨w',hw,rw'⟩:=xt.some_of (v:=v) (o:=(QJ xs k).map (·.2)) (by rw[l];exact rel.val k);obtain⟨p,hp,hp2⟩:=Na.mp hw;refine wpAny_getItem_heap (MU hu) (lg I.hok eb) dd hp ?_;rw[hp2];exact h w' _ (I.tok _) rw'
theorem EB(hu:A.units+1<N1)(I:Inv X pins σ H s)(g:xy H a y o)(ry:RelV y u)(h:∀s',Inv X pins σ H s'->Q (.bool o.isSome) s') :
 Jr (JE X.prog X.w) A (LJ .In u (.ref a)) Q E s:=by
 rcases g with⟨kvs,k,e,ey,l⟩|⟨kvs,k,b,e,ey,eb,l⟩
 · subst ey;obtain⟨z,hd,vs,rel,dd⟩:=pE I.hok e;refine wpAny_in_of (mi ry) hd dd.mapOf ?_;rw[<- (rel.val k).isSome_eq,<- l];exact h _ (I.tok _)
 · subst ey;cases(show u=K0 b from ry);obtain⟨z,hd,xs,rel,dd⟩:=mD I.hok e;refine wpAny_in_heap (MU hu) (lg I.hok eb) hd dd ?_;have q:=(rel.val k).isSome_eq;rw[Option.isSome_map]at q;rw[<- q,<- l];exact h _ (I.tok _)
theorem dY{ob:HO}(I:Inv X pins σ H s)(mu:Ic (H a))(hs:Lu a s.heap h')(he:∃q,h'.get? a=some q)(new:cw X.prog X.w (upd H a ob) h' a ob) :
 Inv X pins σ (upd H a ob) {s with heap:=h',toks:=t' } :=
 I.write (x:=a) (e:=a) mu (.inl rfl) (fun b q hb z=>(hs.2 b hb).trans z) he new
theorem dk_new{w:Kh}{kvs:List (Ih×V)}{vs:List (Ih×I0)}(z:kvs.length<=sizeLine)(hd:(a==Lg)=false)(rel:KV kvs vs)(dd:h'.DictOf (bj P w) a vs) :
 cw P w H' h' a (.dK kvs):=⟨z,hd,vs,rel,dd⟩
theorem pG{Q:Unit->Ja->Prop}(hu:A.units+1<N1)(I:Inv X pins σ H s)(g:A5 H a y v H')(ry:RelV y u)(rv:RelV v r)(h:∀s',Inv X pins σ H' s'->Q () s') :
 Jr (JE X.prog X.w) A (QG (.ref a) u r) Q E s:=by
 rcases g with⟨kvs,k,e,ey,l,eH⟩|⟨kvs,k,b,e,ey,eb,l,eH⟩
 · subst ey eH;obtain⟨z,hd,vs,rel,dd⟩:=wP I.hok e;have hz:vs.length<=sizeLine:=by rw[<- rel.length];exact z
   have hl:(cT kvs k v).length<=sizeLine:=by have:=cG kvs k v;omega
   refine wpAny_setItem_pairs (hsz:=hz) (mi ry) dd fun h' dd' hs=>h _ ?_;have he:∃q,h'.get? a=some q:=let ⟨q,_,_,hq,_⟩:=dd';⟨q,hq⟩
   exact dY I (by rw[e];exact NE) hs he (dk_new hl hd (rel.put k rv) dd')
 · subst ey eH;cases(show u=K0 b from ry);obtain⟨z,hd,xs,rel,dd⟩:=Cv I.hok e;have hz:xs.length<=sizeLine:=by rw[<- JU rel];exact z
   have hl:(cT kvs k v).length<=sizeLine:=by have:=cG kvs k v;omega
   refine wpAny_setItem_heap (hsz:=hz) (MU hu) (lg I.hok eb) dd fun h' dd' hs=>h _ ?_;obtain⟨q,es,ep,hq,h2,h3,h4,_,h5⟩:=dd';refine dY I (by rw[e];exact NE) hs ⟨q,hq⟩ ⟨hl,hd,_,(rel.put k eb rv).keeps fun c ys ec=>?_,q,es,ep,hq,h2,h3,h4,h5⟩;rw[ag (BW ec e (fun z=>nomatch z))];exact ec
end
section
variable{X:Cx}{pins:List (Addr×Obj)}{σ:St}{H:Hp}{s:Ja}{a:Addr}{kvs:List (Ih×V)}{k:Ih}{u:I0}{A:Ko}{E:I0->Ja->Prop}
end
def ui(i:Expr):Prop:=∀ov iv,PN i false ov iv=operate [ov,iv] (OH ov iv)
theorem u7{prog:Ju}{w:Kh}{env:Env}{value slice:Expr}{T id:String}
 (hl:P7 (.type T) "__getitem__" = pure (some (.builtin id)))(hs:ui slice)
 (h:Jr (JE prog w) A (eval value env) (fun o s₁=>Jr (JE prog w) A (eval slice env) (fun i s₂=>s₂.TypeIs o T/\Jr (JE prog w) A (OH o i) Q E s₂) E s₁) E s) :
 Jr (JE prog w) A (eval (.Subscript value slice pos) env) Q E s:=by
 refine Subscript_ (JO h (fun o s₁ h₁=>JO h₁ (fun i s₂ h₂=>?_) fun _ _ x=>x) fun _ _ x=>x);obtain⟨hT,h₂⟩:=h₂;unfold P3;refine IR ?_;rw[getitemInPython_of_ne hT.not_modules];refine IR (wpAny_specialOf hT hl ?_)
 have fin:Jr (JE prog w) A (PN slice false o i) (fun r s₃=>Jr (JE prog w) A (letTemporaryGo value o r >>= fun _=>pure r) Q E s₃) E s₂:=by
  rw[hs o i];exact wpAny_operating (JO h₂ (fun r s₃ h₃=>IR (wpAny_letTemporaryGo (IZ h₃))) fun _ _ x=>x)
 first
  | exact IZ (IR fin)
  | exact IR (IZ (IR fin))
  | exact IR fin
theorem jR{y:V}{o:Option V}(I:Inv X pins σ H s)(g:xy H a y o):s.TypeIs (.ref a) "dict" := by
 rcases g with⟨kvs,k,e,_,_⟩|⟨kvs,k,b,e,_,_,_⟩
 · obtain⟨_,_,vs,_,dd⟩:=pE I.hok e;exact dd.typeIs
 · obtain⟨_,_,xs,_,dd⟩:=mD I.hok e;exact dd.typeIs
def yB(td ty:TE):TE:=fun σ H Q=>td σ H fun x H1=>ty σ H1 fun y H2=>∃a v,x = .ref a/\xy H2 a y (some v)/\Q v H2
def Ef(ty td:TE):TE:=fun σ H Q=>ty σ H fun y H1=>td σ H1 fun x H2=>∃a o,x = .ref a/\xy H2 a y o/\Q (.bl o.isSome) H2
def BD(td ty tv:TE):TS:=fun D σ H=>tv σ H fun v H1=>td σ H1 fun x H2=>ty σ H2 fun y H3=>∃a H4,x = .ref a/\A5 H3 a y v H4/\D.nx σ H4
section
variable{X:Cx}{o i e value:Expr}{pos pos' tpos:Pos}{td ty tv:TE}
theorem fB(hu:X.A.units+1<N1)(ho:PE X o td)(hi:PE X i ty)(hs:ui i):PE X (.Subscript o i pos) (yB td ty):=by
 intro pins s σ H Q I h;refine u7 PySem.F.slot_dict_getitem.lookup hs (FB (ho pins s σ H _ I h) fun u s1 ⟨x,H1,I1,rx,q1⟩=>FB (hi pins s1 σ H1 _ I1 q1) fun iv s2 ⟨y,H2,I2,ry,a,v,ex,g,q2⟩=>?_);subst ex;obtain rfl:u=K0 a:=rx;exact⟨jR I2 g,pH hu I2 g ry fun w' s3 I3 rw'=>⟨v,H2,I3,rw',q2⟩⟩
theorem zf(hu:X.A.units+1<N1)(hi:PE X i ty)(ho:PE X o td):PC X .In i o (Ef ty td):=by
 intro pins s σ H Q I h;refine FB (hi pins s σ H _ I h) fun iv s1 ⟨y,H1,I1,ry,q1⟩=>FB (ho pins s1 σ H1 _ I1 q1) fun u s2 ⟨x,H2,I2,rx,a,ov,ex,g,q2⟩=>?_;subst ex;obtain rfl:u=K0 a:=rx;exact EB hu I2 g ry fun s3 I3=>⟨.bl ov.isSome,H2,I3,rfl,q2⟩
theorem gZ(hu:X.A.units+1<N1)(ho:PE X o td)(hi:PE X i ty)(hv:PE X value tv)(hs:K4 value (some (.Subscript o i pos')) pos.line X.env=pure false) :
 PS X (.Assign [.Subscript o i pos'] value pos) (BD td ty tv):=by
 intro pins s σ H D I h;refine wpAny_Assign_Subscript (FB (hv pins s σ H _ I h) fun r s1 ⟨v,H1,I1,rv,q1⟩=>FB (ho pins s1 σ H1 _ I1 q1) fun u s2 ⟨x,H2,I2,rx,q2⟩=>FB (hi pins s2 σ H2 _ I2 q2) fun iv s3 ⟨y,H3,I3,ry,a,H4,ex,g,q3⟩=>?_) hs;subst ex;obtain rfl:u=K0 a:=rx;exact pG hu I3 g ry rv fun s4 I4=>⟨σ,H4,I4,q3⟩
end
theorem eU{w:Kh}(h:Heap)(hb:Lg<h.objs.size):cw P w H (h.push {cls:=.type "dict", data:=.dict #[]}) h.objs.size (.dK []) :=
 ⟨J1 _,beq_eq_false_iff_ne.mpr (Nf (JS hb)),[],.nil,Heap.DictOf.new h⟩
theorem sJ{w:Kh}(h:Heap)(hb:Lg<h.objs.size):cw P w H (h.push {cls:=.type "dict", data:=.dict #[]}) h.objs.size (.dT []) :=
 ⟨J1 _,beq_eq_false_iff_ne.mpr (Nf (JS hb)),[],.nil,_,#[],0,Jk _ rfl,⟨rfl,rfl,rfl⟩,rfl,rfl,List.nodup_nil⟩
def yz:TE:=fun _ H Q=>∀p,H p=none->Q (.ref p) (upd H p (.dK []))
def yy:TE:=fun _ H Q=>∀p,H p=none->Q (.ref p) (upd H p (.dT []))
section
variable{X:Cx}{pos:Pos}
theorem rh:PE X (.Dict [] [] pos) yz:=fun pins s σ H Q I h =>
 wpAny_Dict_empty ⟨.ref s.heap.objs.size,_,I.laid (a:=s.heap.objs.size) (o:=.dK []) (t':=s.toks) (fun _ _ q=>IW _ q) (Jb _) (eU s.heap I.big),rfl,h _ (I.hok.fresh (Jb _))⟩
theorem rg:PE X (.Dict [] [] pos) yy:=fun pins s σ H Q I h =>
 wpAny_Dict_empty ⟨.ref s.heap.objs.size,_,I.laid (a:=s.heap.objs.size) (o:=.dT []) (t':=s.toks) (fun _ _ q=>IW _ q) (Jb _) (sJ s.heap I.big),rfl,h _ (I.hok.fresh (Jb _))⟩
end
def nN:List (TE×TE)->St->Hp->(List (V×V)->Hp->Prop)->Prop
 | [],_,H,Q=>Q [] H
 | (tk,tv)::r,σ,H,Q=>tk σ H fun x H1=>tv σ H1 fun y H2=>nN r σ H2 fun ps H3=>Q ((x,y)::ps) H3
abbrev VV:List (V×V)->List (I0×I0)->Prop:=Kr fun p q=>RelV p.1 q.1/\RelV p.2 q.2
def HW(X:Cx)(pos:Pos)(keys:List (Option Expr))(values:List Expr)(trs:List (TE×TE)):Prop :=
 ∀ (pins:List (Addr×Obj))(s:Ja)(σ:St)(H:Hp)(Q:List (V×V)->Hp->Prop),Inv X pins σ H s->nN trs σ H Q ->
   Jr (JE X.prog X.w) X.A (evalPairs (pairTrees keys values X.env pos)) (fun vs s'=>∃ps H',Inv X pins σ H' s'/\VV ps vs/\Q ps H') X.xe s
theorem oA:HW X pos [] [] []:=fun pins s σ H Q I h=>pairTrees_nil_walk ⟨[],H,I,.nil,h⟩
theorem cD{k v:Expr}{ks:List (Option Expr)}{vs:List Expr}{tk tv:TE}{trs:List (TE×TE)}(hk:PE X k tk)(hv:PE X v tv)(hr:HW X pos ks vs trs) :
 HW X pos (some k::ks) (v::vs) ((tk,tv)::trs):=fun pins s σ H Q I h =>
 pairTrees_cons_walk (FB (hk pins s σ H _ I h) fun u s1 ⟨x,H1,I1,rx,q1⟩=>FB (hv pins s1 σ H1 _ I1 q1) fun w2 s2 ⟨y,H2,I2,ry,q2⟩ =>
  FB (hr pins s2 σ H2 _ I2 q2) fun ws s3 ⟨ps,H3,I3,rel,q3⟩=>⟨(x,y)::ps,H3,I3,.cons ⟨rx,ry⟩ rel,q3⟩)
def dD(kvs more:List (Ih×V)):List (Ih×V):=more.foldl (fun acc kv=>cT acc kv.1 kv.2) kvs
theorem KV.merge:∀{more:List (Ih×V)}{rs:List (Ih×I0)}{kvs:List (Ih×V)}{vs:List (Ih×I0)},KV more rs->KV kvs vs->KV (dD kvs more) (merged vs rs):=by
 intro more rs kvs vs r;unfold KV at r
 induction r generalizing kvs vs with
 | nil=>intro q;exact q
 | @cons p q ps qs h t ih =>
   intro r0
   have e:KV (cT kvs p.1 p.2) (stored vs q.1 q.2):=by
    have:=r0.put p.1 h.2;rw[<- h.1];exact this
   exact ih e
theorem dE:∀(more kvs:List (Ih×V)),(dD kvs more).length<=kvs.length+more.length
 | [],kvs=>by show kvs.length<=kvs.length+0;omega
 | p::r,kvs=>by
   have h1:=dE r (cT kvs p.1 p.2);have h2:=cG kvs p.1 p.2;show(dD (cT kvs p.1 p.2) r).length<=_;rw[JG];omega
theorem gK{P:Ju}{w:Kh}:∀{kvs:List (Ih×V)}{ws:List (I0×I0)},VV (kvs.map fun kv=>(kV kv.1,kv.2)) ws->∃rs,Carries (bj P w) ws rs/\KV kvs rs
 | [],_,r=>by rw[O9]at r;cases r;exact⟨[],NE,.nil⟩
 | p::kvs,_,r=>by
   rw[Ji]at r
   cases r with
   | @cons a b as bs h t =>
     obtain⟨rs,c,q⟩:=gK (P:=P) (w:=w) t;obtain⟨b1,b2⟩:=b;exact⟨(p.1,b2)::rs,⟨mi h.1,rfl,c⟩,.cons ⟨rfl,h.2⟩ q⟩
def By(trs:List (TE×TE)):TE:=fun σ H Q=>∀p,H p=none->nN trs σ (upd H p (.dK [])) fun ps H2=>H2 p=some (.dK [])/\∃kvs:List (Ih×V),ps=kvs.map (fun kv=>(kV kv.1,kv.2))/\kvs.length<=15/\Q (.ref p) (upd H2 p (.dK (dD [] kvs)))
theorem oI{keys:List (Option Expr)}{values:List Expr}{trs:List (TE×TE)}(h:HW X pos keys values trs)(hall:keys.all (·.isSome)=true)(hl:keys.length=values.length)(h0:keys≠[])
 (h15:keys.length<=15):PE X (.Dict keys values pos) (By trs):=by
 intro pins s σ H Q I q;have hn:=I.hok.fresh (Jb s.heap.objs.size);have I1:=I.laid (a:=s.heap.objs.size) (o:=.dK []) (h':=s.heap.push {cls:=.type "dict", data:=.dict #[]}) (t':=s.toks) (fun _ _ q=>IW _ q) (Jb _) (eU s.heap I.big);refine wpAny_Dict_walk (knd:=bj X.prog X.w) hall hl h0 h15 (FB (h pins _ σ _ _ I1 (q _ hn)) fun ws s2 ⟨ps,H2,I2,rel,e,kvs,ep,lk,q2⟩=>?_);subst ep;obtain⟨rs,c,rk⟩:=gK (P:=X.prog) (w:=X.w) rel;obtain⟨z,hd,vs0,r0,dd⟩:=wP I2.hok e;cases r0;refine⟨rs,c,dd,fun h' dd' hs=>⟨.ref s.heap.objs.size,_,?_,rfl,q2⟩⟩
 have hz:(dD [] kvs).length<=sizeLine:=by
  have h1:=dE kvs [];rw[MT]at h1;rw[Qs];omega
 have he:∃q,h'.get? s.heap.objs.size=some q:=let ⟨q,_,_,hq,_⟩:=dd';⟨q,hq⟩
 exact dY I2 (by rw[e];exact NE) hs he (dk_new hz hd (rk.merge .nil) dd')
structure M1 (X:Cx) (o:Expr) (m:Str) (apos:Pos) (e:Expr) (cpos:Pos):Prop where
 base:Li o m X.env (eval o X.env)=eval o X.env
 few:((KB cpos (Jc [e] X.env)).all (fun x=>!x.1)&&(Nn cpos (LW [] X.env)).all (fun x=>x.1.isSome)
  && decide (([e]:List Expr).length+([]:List LG).length+(if([]:List LG).isEmpty then 0 else 1)<30))=true
 line:(apos.endLine==cpos.line)=true
 trees:KB cpos (Jc [e] X.env)=[(false,eval e X.env)]
structure M2 (X:Cx) (o:Expr) (m:Str) (apos:Pos) (e f:Expr) (cpos:Pos):Prop where
 base:Li o m X.env (eval o X.env)=eval o X.env
 few:((KB cpos (Jc [e,f] X.env)).all (fun x=>!x.1)&&(Nn cpos (LW [] X.env)).all (fun x=>x.1.isSome)
  && decide (([e,f]:List Expr).length+([]:List LG).length+(if([]:List LG).isEmpty then 0 else 1)<30))=true
 line:(apos.endLine==cpos.line)=true
 trees:KB cpos (Jc [e,f] X.env)=[(false,eval e X.env),(false,eval f X.env)]
def Iy(H:Hp)(a:Addr):Prop:=(∃kvs,Rd H a (.dK kvs))\/∃kvs,Rd H a (.dT kvs)
theorem zT(I:Inv X pins σ H s)(d:Iy H a) :
 s.TypeIs (.ref a) "dict" /\ (∀b,K0 a = .ref b->∃ob,s.heap.get? b=some ob/\ob.dict=none)/\(a==Lg)=false:=by
 rcases d with⟨kvs,e⟩|⟨kvs,e⟩
 · obtain⟨_,hd,vs,_,dd⟩:=pE I.hok e;refine⟨dd.typeIs,fun b q=>?_,hd⟩;cases q;obtain⟨ob,_,_,h1,h2,_⟩:=dd;exact⟨ob,h1,h2.2.1⟩
 · obtain⟨_,hd,xs,_,dd⟩:=mD I.hok e;refine⟨dd.typeIs,fun b q=>?_,hd⟩;cases q;obtain⟨ob,_,_,h1,h2,_⟩:=dd;exact⟨ob,h1,h2.2.1⟩
section
variable{X:Cx}{pins:List (Addr×Obj)}{σ:St}{H:Hp}{s:Ja}{a:Addr}{y d:V}{u r:I0}{o:Option V}{A:Ko}{E:I0->Ja->Prop}
end
section
variable{X:Cx}{o e f:Expr}{apos cpos:Pos}{td ty tx:TE}
end
section
variable{X:Cx}{pins:List (Addr×Obj)}{σ:St}{H:Hp}{s:Ja}{a:Addr}{kvs:List (Ih×V)}{A:Ko}{E:I0->Ja->Prop}
end
section
variable{X:Cx}{pins:List (Addr×Obj)}{σ:St}{H:Hp}{s:Ja}{a:Addr}{y:V}{u:I0}{A:Ko}{E:I0->Ja->Prop}
end
end L2
namespace Att
open PySem PySem.W PySem.Calls PyProof.Rows
theorem fJ{P:QE}:∀(ns:List Int)(vs:List I0),WellAll P h vs (ns.map WData.int)->PP vs ns:=by
 intro ns
 induction ns with
 | nil =>
   intro vs w;rw[O9]at w;cases w
   exact .nil
 | cons n ns ih =>
   intro vs w;rw[Ji]at w
   cases w with
   | cons a b =>
     cases a;exact .cons _ _ (ih _ b)
theorem nX{l:QF}(hn:l.most=some n){P:QE}{args:List WData}{vals:List I0}
 (hpre:l.row.toRowW.claim.pre args=true)(hwl:WellAll P h vals args) :
 ∃a vs ns,vals=[K0 a]/\args=[WData.list (ns.map WData.int)]/\h.get? a=some {cls:=.type "list", data:=.seq vs.toArray}/\PP vs ns/\ns.length<=n:=by
 have hsh:WShape.hasAll [] args [.list .int]=true:=(pre_splitW hpre).1;have hc:l.pre.holds [] {args:=args}=true:=(pre_splitW hpre).2;obtain⟨d,r,rfl,h1,h2⟩:=hasAllW_cons hsh;obtain rfl:=hasAllW_nil h2;obtain⟨xs,rfl,h3⟩:=hasW_list h1;obtain⟨ns,rfl⟩:=items_int h3
 have hlen:ns.length<=n:=by
  unfold QF.pre at hc
  have h4:(WTm.not (.lt (.lit (.int (n:Int))) (.len (.arg 0)))).holds [] {args:=[.list (ns.map .int)]}=true:=by
   have h4:=(holds_andW hc).1;rw[hn]at h4;exact h4
  have h5:=condW_of h4 (w_not (w_lt w_lit (w_len_list (w_arg rfl))));rw[I_]at h5;refine Nat.le_of_not_lt fun q=>?_;have q':(n:Int)<((ns.length:Nat):Int):=by omega
  first
   | (rw[decide_eq_true q']at h5;exact absurd h5 (by decide))
   | (simp at h5;omega)
 cases hwl with
 | cons w1 w2 =>
   cases w2
   cases w1 with
   | list ho hall=>exact⟨_,_,ns,rfl,rfl,ho,fJ ns _ hall,hlen⟩
theorem oB(l:QF)(args:List WData):l.row.toRowW.claim.post args (.bool true) args=true :=
 postW_of (r:=l.row.toRowW) (X:=(true==true))
  (show WShape.has [] (.bool true) .bool=true by first|rfl|decide|simp[WShape.has,WShape.arms,WShape.armsAll])
  (show(WTm.eq .res (.lit (.bool true))).value [] {args:=args,res:=some (.bool true),after:=args}=some (.bool (true==true))from w_eq_bool (w_res rfl) w_lit) rfl
theorem attach_call{l:QF}{q:Ju}{loose:List Str}{XP:(Str->Option I0)->Heap->Prop}{YP:Kh->Heap->Prop}{d:DefRec}
 (hn:l.most=some n)(hdf:d.params.defaults=[])
 (call:∀(w:Kh)(s₀ s₁:Ja)(mg mb:Str->Option I0)(fa:Addr)(o:Obj)(pm cd doc:I0)(a:Addr)(vs:List I0)(ns:List Int),
  Ground q loose [] XP w s₀ mg mb s₁.heap->YP w s₁.heap ->
  s₁.heap.get? fa=some o->o.data = .func (docDef d.name d.params d.body d.scope pm cd doc)->s₁.heap.CodeRec cd d.name->mg d.name=some (.ref fa) ->
  s₁.heap.get? a=some {cls:=.type "list", data:=.seq vs.toArray}->PP vs ns->ns.length<=n->s₁.gens = #[] ->
  LF (JE l.prog w) P9 (.call (.ref fa) ⟨[.ref a],[]⟩) (fun r s'=>r = .ok (.ret (.bool true))/\OldK s₁.heap s'.heap/\s'.os=s₁.os/\PK s'.gens) s₁) :
 WalkO q loose XP YP l.row.toRowW d [] (fun f vs=>PySem.call f vs):=by
 intro w s₀ s₁ mg mb G Y fa o pm cd doc dV kV ho hd hcd hD hmg hg args vals as hpre hlay hrd hwl hlo;obtain rfl:dV = .none:=Dflts.none hD hdf;obtain rfl:kV = .none:=Dflts.noKw hD;obtain⟨a,vs,ns,rfl,rfl,hobj,hints,hlen⟩:=nX hn hpre hwl;refine enter_call (N6 (call w s₀ s₁ mg mb fa o pm cd doc a vs ns G Y ho (fd_plain hd) hcd hmg hobj hints hlen hg) fun r s' hq=>?_);obtain⟨rfl,h2,h3,h4⟩:=hq;exact⟨.inl ⟨.bool true,.bool true,[],rfl,fun _=>rfl,.bool true,oB l _,fun _=>⟨Ow,fun _ hm=>(nomatch hm)⟩⟩,h2,h3,h4⟩
section
variable{prog:Ju}{w:Kh}{A:Ko}{E:I0->Ja->Prop}{s:Ja}{K:Frag}
end
end Att
namespace L2
theorem im:∀{vs:List I0}{ns:List Int},PP vs ns->bP (ns.map V.int) vs
 | _,_,.nil=>.nil
 | _,_,.cons n t h=>.cons ⟨t,rfl⟩ (im h)
def CP(H:Hp):Prop:=∀b,H b=none\/∃o xs,H b=some (.frz o (.lst xs))
theorem rQ{w:Kh}{K:W.Frag}{mg mb:Str->Option I0}{CX:ID}{k:Nat}{fa:Addr}{x:Str}{sp:Sp}{s₁:Ja}{vs:List I0}{ns:List Int}
 (KX:K.In s₁.heap)(hns:s₁.heap.Ns Ke mg)(hb:s₁.heap.Ns builtinsNs mb)(hbb:∀x:Str,x ≠ "__name__" -> mb x=Mp x)(hlim:s₁.heap.NoLimit)(hg:s₁.gens = #[])
 (ha:s₁.heap.get? a=some {cls:=.type "list", data:=.seq vs.toArray})(hi:PP vs ns)(hl:ns.length<=sizeLine)(hr:Room k P9)
 (F:∀base:Heap,K.In base->base.Ns Ke mg->FnOk P w K mg base CX k fa fd [x] sp)(hbind:∀(s:Ja)(u:I0),Qu s fd ⟨[u],[]⟩ [(x,u)])
 (hsp:∀H:Hp,CP H->HJ K H a (ns.map V.int)->sp [.ref a] H (fun v _=>v = .bl true) fun _ _ _=>False)
 (hCX:∀H e s',CX [] H s₁ (fun _ _ _=>False) e s'->False) :
 LF (JE P w) P9 (.call (.ref fa) ⟨[.ref a],[]⟩) (fun r s'=>r = .ok (.ret (.bool true))/\OldK s₁.heap s'.heap/\s'.os=s₁.os/\PK s'.gens) s₁:=by
 have rv:=im hi;have lenV:=hi.length
 have core:∀H:Hp,CP H->HJ K H a (ns.map V.int)->IA P w H s₁.heap->(∀b,H b≠none->b=a)->(H a≠none->K.lookup a=none) ->
  LF (JE P w) P9 (.call (.ref fa) ⟨[.ref a],[]⟩) (fun r s'=>r = .ok (.ret (.bool true))/\OldK s₁.heap s'.heap/\s'.os=s₁.os/\PK s'.gens) s₁:=by
  intro H hO hS hok hA hK;have base_of:∀{b:Addr}{o:Obj},s₁.heap.get? b=some o->H b=none->(rY s₁.heap H).get? b=some o:=fun e n=>rX e n
  have noA:∀{b:Addr}{o:Obj}{es:Array O4}{ep:Nat},s₁.heap.get? b=some o->o.data = .dict es ep->H b=none:=fun{b o es ep} e d=>by
   cases q:H b with
   | none=>rfl
   | some u =>
     have e':b=a:=hA b (by rw[q];simp);subst e';rw[ha]at e;cases e;have d':Data.seq vs.toArray _=Data.dict es ep:=d;cases d'
  have nsK:∀{b:Addr}{m:Str->Option I0},s₁.heap.Ns b m->(rY s₁.heap H).Ns b m:=fun{b m} ⟨o,es,ep,e,d,r⟩=>⟨o,es,ep,base_of e (noA e d),d,r⟩
  have hKb:K.In (rY s₁.heap H):=fun b o e=>base_of (KX b o e) (by
   cases q:H b with
   | none=>rfl
   | some u =>
     have e':b=a:=hA b (by rw[q];simp);subst e'
     rw[hK (by rw[q];simp)]at e;cases e)
  have hM:Mod K mg (rY s₁.heap H):=⟨hKb,nsK hns,⟨mb,nsK hb,hbb⟩,let ⟨mc,h1,h2⟩:=hlim;⟨mc,nsK h1,h2⟩⟩;have e0:Env0 P w K mg (rY s₁.heap H) P9 [] s₁ H:=⟨rfl,hM,fun b o e=>vW e,Nat.le_of_eq (pi _ _),trivial,fun b hb=>absurd (show b∈([]:List Addr)from hb) (by simp),hok,.of_eq hg⟩;refine N6 ((F _ hKb (nsK hns)).run P9 [] s₁ H ⟨[.ref a],[]⟩ [.ref a] [.ref a] _ _ hr e0 (hbind s₁ (.ref a)) (.cons rfl .nil) (hsp H hO hS)) fun r s' h=>?_
  cases r with
  | error e=>exact(hCX H e s' h).elim
  | ok fl =>
    cases fl with
    | next=>exact JR h
    | brk=>exact JR h
    | cont=>exact JR h
    | ret u =>
      obtain⟨v,H',os,bare,un,hok',r',q⟩:=h;have q':v = .bl true:=q;subst q';obtain rfl:u=I0.bool true:=r';refine⟨rfl,OldK.of_keep fun b o e=>?_,os,bare⟩
      cases q:H b with
      | none=>exact un.keep b o e q (by intro z;exact absurd (show b∈([]:List Addr)from z) (by simp)) (by simp)
      | some u =>
        rcases hO b with z|⟨ob,xs,z⟩
        · rw[q]at z;cases z
        · have z2:=un.frzs b ob _ z;obtain⟨e1,_⟩:=hok b _ z;obtain⟨e2,_⟩:=hok' b _ z2;rw[e]at e1;cases e1;exact e2
 cases hk:K.lookup a with
 | some o =>
   have e:=KX a o hk;rw[ha]at e;cases e
   refine core (fun _=>none) (fun _=>.inl rfl) (.inr ⟨_,vs.toArray,_,hk,rfl,rfl,rfl,by rw[Jl,lenV];exact hl,by simpa using rv⟩) (fun b u z=>by have z':(none:Option HO)=some u:=z;cases z') (fun b z=>absurd rfl z) fun z=>absurd rfl z
 | none =>
   refine core (fun b=>if b=a then some (.frz {cls:=.type "list", data:=.seq vs.toArray} (.lst (ns.map V.int)))else none) (fun b=>?_) (.inl (.inr ⟨{cls:=.type "list", data:=.seq vs.toArray},if_pos rfl⟩)) (fun b u z=>?_) (fun b z=>?_) fun _=>hk
   · by_cases hb:b=a
     · exact .inr ⟨_,_,if_pos hb⟩
     · exact .inl (if_neg hb)
   · by_cases hb:b=a
     · have z':=(if_pos hb).symm.trans z;cases z';subst hb;exact⟨ha,by rw[I_];exact hl,vs,_,rv,ha⟩
     · have z':=(if_neg hb).symm.trans z;cases z'
   · by_cases hb:b=a
     · exact hb
     · exact absurd (if_neg hb) z
theorem walk_of{l:W.OpenLaw}{k:Nat}{q:Ju}{loose:List Str}{XP:(Str->Option I0)->Heap->Prop}{YP:Kh->Heap->Prop}{d:DefRec}{K:QE->W.Frag}{CX:Kh->ID}{sp:Kh->Sp}{x:Str}
 (hn:l.most=some n)(hn2:n<=sizeLine)(hdf:d.params.defaults=[])(hr:Room k P9)
 (hY:∀(w:Kh)(h:Heap),YP w h->(K w.params).In h)
 (F:∀(w:Kh)(mg:Str->Option I0)(fa:Addr)(h:Heap),(K w.params).In h->h.Ns Ke mg->mg d.name=some (.ref fa) ->
  ∃ fd:LD,(∀(s:Ja)(u:I0),Qu s fd ⟨[u],[]⟩ [(x,u)]) /\
    ∀base:Heap,(K w.params).In base->base.Ns Ke mg->FnOk l.prog w (K w.params) mg base (CX w) k fa fd [x] (sp w))
 (hsp:∀(w:Kh)(H:Hp)(a:Addr)(ns:List Int),ns.length<=n->CP H->HJ (K w.params) H a (ns.map V.int)->sp w [.ref a] H (fun v _=>v = .bl true) fun _ _ _=>False)
 (hCX:∀(w:Kh)(H:Hp)(s:Ja)(e:I0)(s':Ja),CX w [] H s (fun _ _ _=>False) e s'->False) :
 W.WalkO q loose XP YP l.row.toRowW d [] (fun f vs=>PySem.call f vs):=by
 refine Att.attach_call hn hdf fun w s₀ s₁ mg mb fa o pm cd doc a vs ns G Y ho hd hcd hmg hobj hints hlen hg=>?_;have KX:=hY w _ Y;obtain⟨fd,hb,hF⟩:=F w mg fa _ KX G.T.g hmg;exact rQ KX G.T.g G.T.b G.T.builtins G.T.nolimit hg hobj hints (JF hlen hn2) hr hF hb (fun H hO hS=>hsp w H a ns hlen hO hS) fun H e s'=>hCX w H s₁ e s'
abbrev IE:ID:=fun _ _ _ _ _ _=>False
abbrev E0:XK:=fun _ _ _=>False
theorem oK:qj IE X E0:=fun _ _ _ _ _ _ _ h=>h.elim
structure Fun (K:W.Frag) (x qual:Str) (st:Stmt) (f:Addr) (fd:LD):Prop where
 ex:∃(oc:I0)(od:Option Addr)(kV doc pm:I0)(an:Option Addr)(cdv ct:I0)(osl:Array (Option I0)),
  fd=W.fnOf x qual (defArgs st) (defBody st) (defScope st) .none kV doc pm an cdv ct/\K.lookup f=some ⟨oc,od,.func fd,osl⟩/\W.codeIn K cdv qual=true
 kp:W.keepIn K (.ref f)=true
section
variable{P:Ju}{w:Kh}{K:W.Frag}{mg:Str->Option I0}{base:Heap}
theorem Fun.ok{x qual:Str}{st:Stmt}{f:Addr}{N ps:List Str}{k:Nat}{sp:Sp}(F:Fun K x qual st f fd)(S:FnScope N ps (defScope st))(len:∀vs H Q E,sp vs H Q E->vs.length=ps.length)
 (hbody:∀(cdv:I0)(A:Ko)(outer:List Env)(s:Ja)(H:Hp)(vs:List V)(Q:VK)(E:XK),Room k (A.deeper (NL qual (defScope st) s.heap.objs.size f cdv))->sp vs H Q E ->
  ∃t,HU (lu IE P w K mg base N qual (defScope st) f cdv A outer s H E).nox (defBody st) t/\t {nx:=fun _ H'=>Q .non H',rt:=Q} (start N vs) H):FnOk P w K mg base IE (k+1) f fd ps sp:=by
 obtain⟨oc,od,kV,doc,pm,an,cdv,ct,osl,rfl,lk,hcd⟩:=F.ex;refine Cq lk hcd S len fun A outer s H vs Q E hr hsp=>?_;obtain⟨t,h,q⟩:=hbody cdv A outer s H vs Q E hr hsp;exact⟨t,h.nox,q⟩
theorem Fun.binds{x qual:Str}{st:Stmt}{f:Addr}{ps:List Str}(F:Fun K x qual st f fd)
 (h:∀(kV doc pm:I0)(an:Option Addr)(cdv ct:I0)(us:List I0),us.length=ps.length->bindArgs (W.fnOf x qual (defArgs st) (defBody st) (defScope st) .none kV doc pm an cdv ct) ⟨us,[]⟩=pure (ps.zip us)):Binds K fd ps []:=by
 obtain⟨oc,od,kV,doc,pm,an,cdv,ct,osl,rfl,lk,hcd⟩:=F.ex;exact .all (h kV doc pm an cdv ct)
theorem pC{x qual:Str}{st:Stmt}{f:Addr}{oc:I0}{od an:Option Addr}{osl:Array (Option I0)}{kV doc pm cdv ct:I0}(l:K.lookup f=some ⟨oc,od,.func (W.fnOf x qual (defArgs st) (defBody st) (defScope st) .none kV doc pm an cdv ct),osl⟩)
 (c:W.codeIn K cdv qual=true)(k:W.keepIn K (.ref f)=true):Fun K x qual st f (W.fnOf x qual (defArgs st) (defBody st) (defScope st) .none kV doc pm an cdv ct):=⟨⟨oc,od,kV,doc,pm,an,cdv,ct,osl,rfl,l,c⟩,k⟩
end
theorem mw{k:Nat}(hr:Room k A):A.units+1<N1:=LL (Nat.add_le_add_left (by decide:1<=64) _) hr.units
theorem iy(h:n<=1000):n<sizeLine:=LL h (by decide)
section
variable{X:Cx}
theorem pv(i:Nat){x:Str}(hN:X.N[i]?=some x:=by rfl)(hv:Hw X.env.scope x:=by first|exact KH rfl|exact J8 (KH rfl)|exact J8 (J8 rfl))(hd:(x==("__debug__" : Str))=false:=by decide)
 (hcd:(x==("__classdict__" : Str))=false:=by decide):PE X (.Name x pos) (xB i):=bI hN hv hd hcd
end
def bm(H H':Hp):Prop:=∀b o,H b=some o->H' b=some o
theorem bm.refl(H:Hp):bm H H:=fun _ _ h=>h
theorem bm.trans{H1 H2:Hp}(a:bm H H1)(b:bm H1 H2):bm H H2:=fun c o h=>b c o (a c o h)
theorem bm.free(e:bm H H'){l:Addr}(h:H' l=Option.none):H l=Option.none:=by
 cases q:H l with
 | none=>rfl
 | some o =>
   rw[e l o q]at h;cases h
theorem bm.seq{K:W.Frag}{xs:List V}(e:bm H H')(h:HJ K H a xs):HJ K H' a xs:=by
 rcases h with(h|⟨o,h⟩)|h
 · exact .inl (.inl (e _ _ h))
 · exact .inl (.inr ⟨o,e _ _ h⟩)
 · exact .inr h
section
variable{X:Cx}
end
section
variable{κ:Type}[DecidableEq κ]
end
end L2
namespace L2.VL
structure RlT where
 a:Option Addr
 b:Nat
abbrev RlT.no:RlT:=⟨none,0⟩
abbrev RlT.at'(r:Addr)(b:Nat):RlT:=⟨some r,b⟩
def BM:Nat:=2^50000
def RO(b:Nat)(_:Hp)(o:HO):Prop:=∃(c l t:Int),o = .dK [(LS "cell", .int c),(LS "left", .int l),(LS "turn", .int t)]/\0<=l/\0<=t/\t+b<2^59990
theorem RO.mono{b:Nat}{o:HO}(s:bm F F')(h:RO b F o):RO b F' o:=h
theorem RO.pay{b b':Nat}{o:HO}(s:b'<=b)(h:RO b F o):RO b' F o:=by
 obtain⟨c,l,t,e,h1,h2,h3⟩:=h;exact⟨c,l,t,e,h1,h2,by omega⟩
mutual
inductive Rep (K:W.Frag) (F:Hp):V->IQ->Prop
 | non:Rep K F .non .none
 | bl (b:Bool):Rep K F (.bl b) (.bool b)
 | int (i:Int):Rep K F (.int i) (.int i)
 | str (x:Str):Rep K F (.str x) (.str x)
 | tup {a:Addr} {vs:List V} {ds:List IQ}:HI K F a vs->Reps K F vs ds->Rep K F (.ref a) (.tuple ds)
 | lst {a:Addr} {vs:List V} {ds:List IQ}:F a=some (.lst vs)->Reps K F vs ds->Rep K F (.ref a) (.list ds)
inductive Reps (K:W.Frag) (F:Hp):List V->List IQ->Prop
 | nil:Reps K F [] []
 | cons {v:V} {d:IQ} {vs:List V} {ds:List IQ}:Rep K F v d->Reps K F vs ds->Reps K F (v::vs) (d::ds)
end
theorem cR{K:W.Frag}{xs:List V}(e:bm H H')(h:HI K H a xs):HI K H' a xs:=by
 rcases h with(h|⟨o,h⟩)|h
 · exact .inl (.inl (e _ _ h))
 · exact .inl (.inr ⟨o,e _ _ h⟩)
 · exact .inr h
theorem iF{K:W.Frag}{xs:List V}(e:bm H H')(h:HJ K H a xs):HJ K H' a xs:=by
 rcases h with(h|⟨o,h⟩)|h
 · exact .inl (.inl (e _ _ h))
 · exact .inl (.inr ⟨o,e _ _ h⟩)
 · exact .inr h
mutual
theorem Rep.mono{K:W.Frag}{F F':Hp}(s:bm F F'):∀{v:V}{d:IQ},Rep K F v d->Rep K F' v d
 | _,_,.non=>.non
 | _,_,.bl b=>.bl b
 | _,_,.int i=>.int i
 | _,_,.str x=>.str x
 | _,_,.tup h r=>.tup (cR s h) (Reps.mono s r)
 | _,_,.lst h r=>.lst (s _ _ h) (Reps.mono s r)
theorem Reps.mono{K:W.Frag}{F F':Hp}(s:bm F F'):∀{vs:List V}{ds:List IQ},Reps K F vs ds->Reps K F' vs ds
 | _,_,.nil=>.nil
 | _,_,.cons h r=>.cons (Rep.mono s h) (Reps.mono s r)
end
theorem Reps.length{K:W.Frag}{F:Hp}:∀{vs:List V}{ds:List IQ},Reps K F vs ds->vs.length=ds.length
 | _,_,.nil=>rfl
 | _,_,.cons _ r=>by simp[Reps.length r]
theorem Reps.get{K:W.Frag}{F:Hp}:∀{vs:List V}{ds:List IQ}{i:Nat}{d:IQ},Reps K F vs ds->ds[i]?=some d->∃v,vs[i]?=some v/\Rep K F v d
 | _,_,_,_,.nil,e=>by simp at e
 | _,_,0,_,.cons h _,e=>by simp at e;subst e;exact⟨_,rfl,h⟩
 | _,_,i+1,d,.cons _ r,e=>by
   obtain⟨v,h1,h2⟩:=Reps.get (i:=i) (d:=d) r (by simpa using e);exact⟨v,by simpa using h1,h2⟩
theorem Reps.getV{K:W.Frag}{F:Hp}:∀{vs:List V}{ds:List IQ}{i:Nat}{v:V},Reps K F vs ds->vs[i]?=some v->∃d,ds[i]?=some d/\Rep K F v d
 | _,_,_,_,.nil,e=>by simp at e
 | _,_,0,_,.cons h _,e=>by simp at e;subst e;exact⟨_,rfl,h⟩
 | _,_,i+1,d,.cons _ r,e=>by
   obtain⟨v,h1,h2⟩:=Reps.getV (i:=i) (v:=d) r (by simpa using e);exact⟨v,by simpa using h1,h2⟩
theorem Reps.append{K:W.Frag}{F:Hp}:∀{vs us:List V}{ds es:List IQ},Reps K F vs ds->Reps K F us es->Reps K F (vs++us) (ds++es)
 | _,_,_,_,.nil,s=>s
 | _,_,_,_,.cons h r,s=>.cons h (Reps.append r s)
theorem Reps.snoc{K:W.Frag}{ds:List IQ}(r:Reps K F vs ds)(h:Rep K F v d):Reps K F (vs++[v]) (ds++[d]):=r.append (.cons h .nil)
theorem Reps.take{K:W.Frag}{F:Hp}:∀{vs:List V}{ds:List IQ}(n:Nat),Reps K F vs ds->Reps K F (vs.take n) (ds.take n)
 | _,_,0,_=>.nil
 | _,_,_+1,.nil=>.nil
 | _,_,n+1,.cons h r=>.cons h (Reps.take n r)
theorem Reps.drop{K:W.Frag}{F:Hp}:∀{vs:List V}{ds:List IQ}(n:Nat),Reps K F vs ds->Reps K F (vs.drop n) (ds.drop n)
 | _,_,0,r=>r
 | _,_,_+1,.nil=>.nil
 | _,_,n+1,.cons _ r=>Reps.drop n r
theorem Reps.nil_iff{K:W.Frag}(h:Reps K F vs []):vs=[]:=by cases h;rfl
mutual
theorem Rep.reads{X:Cx}{pins:List (Addr×Obj)}{σ:St}{H F:Hp}{s:Ja}(I:Inv X pins σ H s)(sub:bm F H):∀{v:V}{d:IQ},Rep X.K F v d->∀u,RelV v u->∃as,Reads s.heap u d as
 | _,_,.non,u,r=>by cases(show u=LI from r);exact⟨_,.none⟩
 | _,_,.bl b,u,r=>by cases(show u=I0.bool b from r);exact⟨_,.bool b⟩
 | _,_,.int i,u,r=>by obtain⟨t,q⟩:=(show ∃t,u=PZ i t from r);cases q;exact⟨_,.int i t⟩
 | _,_,.str x,u,r=>by obtain⟨t,q⟩:=(show ∃t,u=Qq x t from r);cases q;exact⟨_,.str x t⟩
 | _,_,.tup (a:=a) h q,u,r=>by
   cases(show u=K0 a from r);obtain⟨its,rv,⟨o,h1,h2,n,h3⟩,hz⟩:=I.tuple (cR sub h);obtain⟨as,ra⟩:=Reps.reads I sub q its rv
   exact⟨_,.tuple h1 h2 h3 (by simpa using ra)⟩
 | _,_,.lst (a:=a) h q,u,r=>by
   cases(show u=K0 a from r);obtain⟨its,rv,p,hz⟩:=I.list (.inl (.inl (sub _ _ h)));obtain⟨o,h1,h2,n,h3⟩:=p.isList;obtain⟨as,ra⟩:=Reps.reads I sub q its rv;exact⟨_,.list h1 h2 h3 (by simpa using ra)⟩
theorem Reps.reads{X:Cx}{pins:List (Addr×Obj)}{σ:St}{H F:Hp}{s:Ja}(I:Inv X pins σ H s)(sub:bm F H):∀{vs:List V}{ds:List IQ},Reps X.K F vs ds->∀us,bP vs us->∃as,ReadsAll s.heap us ds as
 | _,_,.nil,us,r=>by cases r;exact⟨_,.nil⟩
 | _,_,.cons h q,us,r=>by
   cases r with
   | cons r1 r2 =>
     obtain⟨as,a1⟩:=Rep.reads I sub h _ r1;obtain⟨bs,a2⟩:=Reps.reads I sub q _ r2;exact⟨_,.cons a1 a2⟩
end
structure ReelOk (b:Nat) (F H:Hp) (r:Addr):Prop where
 ex:∃o,H r=some o/\RO b F o
def HP(rl:RlT)(F H:Hp):Prop:=∀r,rl.a=some r->F r=none/\ReelOk rl.b F H r
theorem HP.live{rl:RlT}(h:HP rl F H){r:Addr}(e:rl.a=some r):∃o,H r=some o:=by
 obtain⟨_,⟨o,q,_⟩⟩:=h r e;exact⟨_,q⟩
structure Grow (rl:RlT) (F H F' H':Hp):Prop where
 same:∀b o,H b=some o->rl.a≠some b->H' b=some o
 fs:bm F F'
 sub:bm F' H'
 old:∀b o,H b=some o->F' b=F b
 reel:HP rl F' H'
theorem Grow.refl{rl:RlT}{F H:Hp}(s:bm F H)(r:HP rl F H):Grow rl F H F H:=⟨fun _ _ e _=>e,.refl F,s,fun _ _ _=>rfl,r⟩
theorem Grow.live{rl:RlT}{F H F' H':Hp}(g:Grow rl F H F' H'){b:Addr}{o:HO}(e:H b=some o):∃o',H' b=some o':=by
 by_cases h:rl.a=some b
 · exact g.reel.live h
 · exact⟨o,g.same b o e h⟩
theorem Grow.trans{rl:RlT}{F H F1 H1 F2 H2:Hp}(a:Grow rl F H F1 H1)(b:Grow rl F1 H1 F2 H2):Grow rl F H F2 H2 :=
 ⟨fun c o e n=>b.same c o (a.same c o e n) n,a.fs.trans b.fs,b.sub,fun c o e=>by obtain⟨o',e'⟩:=a.live e;rw[b.old c o' e',a.old c o e],b.reel⟩
theorem Grow.freeB{rl:RlT}(g:Grow rl F H F' H'){b:Addr}(e:H' b=none):H b=none:=by
 cases q:H b with
 | none=>rfl
 | some o=>obtain⟨o',e'⟩:=g.live q;rw[e]at e';cases e'
theorem Grow.laid{rl:RlT}{o:HO}(s:bm F H)(r:HP rl F H)(n:H a=none):Grow rl F H F (upd H a o):=by
 have ne:∀b u,H b=some u->b≠a:=fun b u e=>ay e n;refine⟨fun b u e _=>by rw[ag (ne b u e)];exact e,.refl F,fun b u e=>by rw[ag (ne b u (s b u e))];exact s b u e,fun _ _ _=>rfl,fun q e=>?_⟩;obtain⟨z,⟨u,h1,h2⟩⟩:=r q e;exact⟨z,⟨u,by rw[ag (ne _ _ h1)];exact h1,h2⟩⟩
theorem Grow.data{rl:RlT}{o:HO}(s:bm F H)(r:HP rl F H)(n:H a=none):Grow rl F H (upd F a o) (upd H a o):=by
 have ne:∀b u,H b=some u->b≠a:=fun b u e=>ay e n;have neF:∀b u,F b=some u->b≠a:=fun b u e=>ne b u (s b u e);refine⟨fun b u e _=>by rw[ag (ne b u e)];exact e,fun b u e=>by rw[ag (neF b u e)];exact e,fun b u e=>?_,fun b u e=>by rw[ag (ne b u e)],fun q e=>?_⟩
 · by_cases hb:b=a
   · subst hb;rw[ak]at e ⊢;exact e
   · rw[ag hb]at e ⊢;exact s b u e
 · obtain⟨z,⟨u,h1,h2⟩⟩:=r q e;exact⟨by rw[ag (ne _ _ h1)];exact z,⟨u,by rw[ag (ne _ _ h1)];exact h1,RO.mono (fun b u e=>by rw[ag (neF b u e)];exact e) h2⟩⟩
theorem Grow.freeze{rl:RlT}{F1 H1:Hp}{o:HO}(g:Grow rl F H F1 H1)(n:H a=none)(e:H1 a=some o)(f:F1 a=none)(hr:rl.a≠some a):Grow rl F H (upd F1 a o) H1:=by
 have neF:∀b u,F1 b=some u->b≠a:=fun b u q z=>by subst z;rw[f]at q;cases q
 refine⟨g.same,fun b u q=>by rw[ag (neF b u (g.fs b u q))];exact g.fs b u q,fun b u q=>?_,fun b u q=>by rw[ag (ay q n)];exact g.old b u q,fun q z=>?_⟩
 · by_cases hb:b=a
   · subst hb;rw[ak]at q;rw[e];exact q
   · rw[ag hb]at q;exact g.sub b u q
 · obtain⟨z1,⟨u,h1,h2⟩⟩:=g.reel q z;exact⟨by rw[ag (fun y=>hr (by rw[<- y];exact z))];exact z1,⟨u,h1,RO.mono (fun b u e=>by rw[ag (neF b u e)];exact e) h2⟩⟩
inductive W where
 | d (x:IQ)
 | ml (xs:List IQ)
 | pk (xs:List IQ)
 | reel
 | vv (v:V)
 | md (kvs:List (List Ih×IQ))
 | mk (kvs:List (Ih×IQ))
 | nt (ds:List IQ)
 | lk
 | sc (ns:List Int)
 | fd (kvs:List (Ih×IQ))
 | fw (kvs:List (Ih×IQ))
 | ft (kvs:List (List Ih×IQ))
 | xc (x:Str) (fs:List (Str×IQ))
 | dp (kvs:List (Ih×IQ)) (x:IQ)
def W.dat:W->Option IQ
 | .d x=>some x
 | .ml xs=>some (.list xs)
 | .pk xs=>some (.list xs)
 | .nt ds=>some (.tuple ds)
 | _=>none
def W.peek:W->W
 | .ml xs=>.pk xs
 | .md _=>.lk
 | .mk _=>.lk
 | w=>w
def W.own:W->Bool
 | .ml _=>true
 | .md _=>true
 | .mk _=>true
 | _=>false
abbrev KD(K:W.Frag)(F:Hp):List (List Ih×V)->List (List Ih×IQ)->Prop:=Kr fun p q=>p.1=q.1/\Rep K F p.2 q.2
abbrev Ij(K:W.Frag)(F:Hp):List (Ih×V)->List (Ih×IQ)->Prop:=Kr fun p q=>p.1=q.1/\Rep K F p.2 q.2
abbrev Ii(K:W.Frag)(F:Hp):List (Str×V)->List (Str×IQ)->Prop:=Kr fun p q=>p.1=q.1/\Rep K F p.2 q.2
def CW(e C dx:Addr):Heap->Prop:=fun h=>∃oe vs,h.get? e=some oe/\oe.cls = .ref C/\oe.dict=some dx/\oe.data = .fields vs
def jY(K:W.Frag)(rl:RlT)(F H:Hp)(v:V)(kvs:List (List Ih×IQ)):Prop:=∃a us,v = .ref a/\F a=none/\rl.a≠some a/\H a=some (.dT us)/\KD K F us kvs
def lH(K:W.Frag)(rl:RlT)(F H:Hp)(v:V)(kvs:List (Ih×IQ)):Prop:=∃a us,v = .ref a/\F a=none/\rl.a≠some a/\H a=some (.dK us)/\Ij K F us kvs
def eE(K:W.Frag)(rl:RlT)(F H:Hp)(v:V)(xs:List IQ):Prop:=∃a vs,v = .ref a/\F a=none/\rl.a≠some a/\H a=some (.lst vs)/\Reps K F vs xs
def cu(K:W.Frag)(rl:RlT)(F H:Hp)(v:V):W->Prop
 | .d x=>Rep K F v x
 | .ml xs=>eE K rl F H v xs
 | .pk xs=>eE K rl F H v xs
 | .reel=>∃r,rl.a=some r/\v = .ref r
 | .vv u=>v=u
 | .md kvs=>jY K rl F H v kvs
 | .mk kvs=>lH K rl F H v kvs
 | .nt ds=>∃a vs,v = .ref a/\F a=some (.tup vs)/\Reps K F vs ds
 | .lk=>True
 | .sc ns=>∃a,v = .ref a/\HJ K F a (ns.map V.int)
 | .fd kvs=>∃a us,v = .ref a/\F a=some (.dK us)/\Ij K F us kvs
 | .fw kvs=>∃a us o,v = .ref a/\F a=some (.frz o (.dK us))/\Ij K F us kvs
 | .ft kvs=>∃a us o,v = .ref a/\F a=some (.frz o (.dT us))/\KD K F us kvs
 | .xc x fs=>∃e dx us C,v = .ref e/\W.nsIn K Ke x=some (some (.ref C))/\F e=some (.ext (CW e C dx))/\F dx=some (.xd us)/\Ii K F us fs
 | .dp kvs x=>∃a b us u o,v = .ref a/\F a=some (.tup [.ref b,u])/\F b=some (.frz o (.dK us))/\Ij K F us kvs/\Rep K F u x
theorem jY.grow{K:W.Frag}{rl:RlT}(g:Grow rl F H F' H')(r:jY K rl F H v kvs):jY K rl F' H' v kvs:=by
 obtain⟨a,us,rfl,h1,h2,h3,h4⟩:=r;exact⟨a,us,rfl,by rw[g.old a _ h3];exact h1,h2,g.same a _ h3 h2,Kr.mapP h4 fun _ _ z=>⟨z.1,z.2.mono g.fs⟩⟩
theorem lH.grow{K:W.Frag}{rl:RlT}{kvs:List (Ih×IQ)}(g:Grow rl F H F' H')(r:lH K rl F H v kvs):lH K rl F' H' v kvs:=by
 obtain⟨a,us,rfl,h1,h2,h3,h4⟩:=r;exact⟨a,us,rfl,by rw[g.old a _ h3];exact h1,h2,g.same a _ h3 h2,Kr.mapP h4 fun _ _ z=>⟨z.1,z.2.mono g.fs⟩⟩
theorem eE.grow{K:W.Frag}{rl:RlT}(g:Grow rl F H F' H')(r:eE K rl F H v xs):eE K rl F' H' v xs:=by
 obtain⟨a,vs,rfl,h1,h2,h3,h4⟩:=r;exact⟨a,vs,rfl,by rw[g.old a _ h3];exact h1,h2,g.same a _ h3 h2,h4.mono g.fs⟩
theorem cu.grow{K:W.Frag}{rl:RlT}{F H F' H':Hp}{v:V}{w:W}(g:Grow rl F H F' H')(r:cu K rl F H v w):cu K rl F' H' v w:=by
 cases w with
 | d x=>exact Rep.mono g.fs r
 | ml xs=>exact eE.grow g r
 | pk xs=>exact eE.grow g r
 | reel=>exact r
 | vv u=>exact r
 | md kvs=>exact jY.grow g r
 | mk kvs=>exact lH.grow g r
 | nt ds=>obtain⟨a,vs,e,h,q⟩:=r;exact⟨a,vs,e,g.fs _ _ h,q.mono g.fs⟩
 | lk=>trivial
 | sc ns=>obtain⟨a,e,h⟩:=r;exact⟨a,e,iF g.fs h⟩
 | fd kvs=>obtain⟨a,us,e,h,q⟩:=r;exact⟨a,us,e,g.fs _ _ h,Kr.mapP q fun _ _ z=>⟨z.1,z.2.mono g.fs⟩⟩
 | fw kvs=>obtain⟨a,us,o,e,h,q⟩:=r;exact⟨a,us,o,e,g.fs _ _ h,Kr.mapP q fun _ _ z=>⟨z.1,z.2.mono g.fs⟩⟩
 | ft kvs=>obtain⟨a,us,o,e,h,q⟩:=r;exact⟨a,us,o,e,g.fs _ _ h,Kr.mapP q fun _ _ z=>⟨z.1,z.2.mono g.fs⟩⟩
 | xc _ _=>obtain⟨a,dx,us,C,e,n,h1,h2,q⟩:=r;exact⟨a,dx,us,C,e,n,g.fs _ _ h1,g.fs _ _ h2,Kr.mapP q fun _ _ z=>⟨z.1,z.2.mono g.fs⟩⟩
 | dp _ _=>obtain⟨a,b,us,u,o,e,h1,h2,q,z⟩:=r;exact⟨a,b,us,u,o,e,g.fs _ _ h1,g.fs _ _ h2,Kr.mapP q fun _ _ z=>⟨z.1,z.2.mono g.fs⟩,z.mono g.fs⟩
theorem cu.peek{K:W.Frag}{rl:RlT}{w:W}(r:cu K rl F H v w):cu K rl F H v w.peek:=by cases w<;>first|exact r|trivial
theorem eE.rep{K:W.Frag}{rl:RlT}(s:bm F H)(r:eE K rl F H v xs):Rep K H v (.list xs):=by
 obtain⟨a,vs,rfl,h1,h2,h3,h4⟩:=r;exact .lst h3 (h4.mono s)
theorem cu.dat{K:W.Frag}{rl:RlT}{w:W}{x:IQ}(s:bm F H)(r:cu K rl F H v w)(e:w.dat=some x):Rep K H v x:=by
 cases w with
 | d y=>cases e;exact Rep.mono s r
 | ml xs=>cases e;exact eE.rep s r
 | pk xs=>cases e;exact eE.rep s r
 | reel=>cases e
 | vv u=>cases e
 | md kvs=>cases e
 | mk kvs=>cases e
 | nt ds=>cases e;obtain⟨a,vs,rfl,h,q⟩:=r;exact .tup (.inl (.inl (s _ _ h))) (q.mono s)
 | lk=>cases e
 | sc _=>cases e
 | fd _=>cases e
 | fw _=>cases e
 | ft _=>cases e
 | xc _ _=>cases e
 | dp _ _=>cases e
theorem cu.items{K:W.Frag}{rl:RlT}{w:W}(s:bm F H)(r:cu K rl F H v w)(e:w.dat=some (.list xs)):∃a vs,v = .ref a/\HJ K H a vs/\Reps K F vs xs:=by
 have own:eE K rl F H v xs->∃a vs,v = .ref a/\HJ K H a vs/\Reps K F vs xs:=fun⟨a,vs,e1,_,_,e2,e3⟩=>⟨a,vs,e1,.inl (.inl e2),e3⟩
 cases w with
 | d y =>
   cases e
   cases(show Rep K F v (.list xs)from r)with
   | lst h q=>exact⟨_,_,rfl,.inl (.inl (s _ _ h)),q⟩
 | ml ys=>cases e;exact own r
 | pk ys=>cases e;exact own r
 | reel=>cases e
 | vv u=>cases e
 | md kvs=>cases e
 | mk kvs=>cases e
 | nt ds=>cases e
 | lk=>cases e
 | sc _=>cases e
 | fd _=>cases e
 | fw _=>cases e
 | ft _=>cases e
 | xc _ _=>cases e
 | dp _ _=>cases e
theorem cu.itemsT{K:W.Frag}{rl:RlT}{w:W}(s:bm F H)(r:cu K rl F H v w)(e:w.dat=some (.tuple xs)):∃a vs,v = .ref a/\HI K H a vs/\Reps K F vs xs:=by
 cases w with
 | d y =>
   cases e
   cases(show Rep K F v (.tuple xs)from r)with
   | tup h q=>exact⟨_,_,rfl,cR s h,q⟩
 | ml ys=>cases e
 | pk ys=>cases e
 | reel=>cases e
 | vv u=>cases e
 | md kvs=>cases e
 | mk kvs=>cases e
 | nt ds=>cases e;obtain⟨a,vs,rfl,h,q⟩:=r;exact⟨a,vs,rfl,.inl (.inl (s _ _ h)),q⟩
 | lk=>cases e
 | sc _=>cases e
 | fd _=>cases e
 | fw _=>cases e
 | ft _=>cases e
 | xc _ _=>cases e
 | dp _ _=>cases e
def cO(H:Hp)(v:V):W->Prop
 | .ml _=>∀a,v = .ref a->H a=none
 | .md _=>∀a,v = .ref a->H a=none
 | .mk _=>∀a,v = .ref a->H a=none
 | _=>True
theorem cu.live{K:W.Frag}{rl:RlT}{w:W}(r:cu K rl F H v w)(h:w.own=true):∃a o,v = .ref a/\H a=some o:=by
 cases w with
 | ml xs=>obtain⟨a,vs,e,_,_,hh,_⟩:=r;exact⟨a,_,e,hh⟩
 | md xs=>obtain⟨a,vs,e,_,_,hh,_⟩:=r;exact⟨a,_,e,hh⟩
 | mk xs=>obtain⟨a,vs,e,_,_,hh,_⟩:=r;exact⟨a,_,e,hh⟩
 | _=>cases h
theorem cO.none{w:W}(n:cO H v w)(h:w.own=true)(e:v = .ref a):H a=none:=by
 cases w with
 | ml xs=>exact n a e
 | md xs=>exact n a e
 | mk xs=>exact n a e
 | _=>cases h
abbrev En:=List (Option W)
structure VR (K:W.Frag) (rl:RlT) (F₀ H₀ F H:Hp) (σ:St) (ρ:En):Prop where
 g:Grow rl F₀ H₀ F H
 sl:∀(i:Nat) w,ρ[i]?=some (some w)->∃v,σ[i]?=some (some v)/\cu K rl F H v w/\cO H₀ v w
 ap:∀(i j:Nat)(x y:W) v,i≠j->ρ[i]?=some (some x)->ρ[j]?=some (some y)->x.own=true->y.own=true->σ[i]?=some (some v)->σ[j]?=some (some v)->False
 np:∀(i:Nat) xs,ρ[i]?≠some (some (W.pk xs))
 len:ρ.length=σ.length
section
variable{K:W.Frag}{rl:RlT}{F₀ H₀ F H F' H':Hp}{σ:St}{ρ:En}
theorem VR.sub(r:VR K rl F₀ H₀ F H σ ρ):bm F H:=r.g.sub
theorem VR.reel(r:VR K rl F₀ H₀ F H σ ρ):HP rl F H:=r.g.reel
theorem VR.grow(r:VR K rl F₀ H₀ F H σ ρ)(g:Grow rl F H F' H'):VR K rl F₀ H₀ F' H' σ ρ :=
 ⟨r.g.trans g,fun i w e=>let ⟨v,e1,e2,e3⟩:=r.sl i w e;⟨v,e1,e2.grow g,e3⟩,r.ap,r.np,r.len⟩
theorem VR.set(r:VR K rl F₀ H₀ F H σ ρ){H1 F1:Hp}(g:Grow rl F H F1 H1){w:W}(rw':cu K rl F1 H1 v w)(hn:cO H v w)(hp:∀xs,w ≠ .pk xs)(i:Nat):VR K rl F₀ H₀ F1 H1 (σ.set i (some v)) (ρ.set i (some w)):=by
 have r1:=r.grow g;refine⟨r1.g,fun j w' e=>?_,fun j k xs ys u hjk e1 e2 w1 w2 s1 s2=>?_,fun j xs z=>?_,by simp[r.len]⟩
 · by_cases hj:i=j
   · subst hj
     have hi:i<ρ.length:=by
      rw[Kb]at e;by_cases hi:i<ρ.length
      · exact hi
      · simp[hi]at e
     rw[Jo hi]at e;cases e;refine⟨v,by rw[Jo (by rw[<- r.len];exact hi)],rw',?_⟩
     cases w with
     | ml xs=>exact fun a ea=>r.g.freeB (hn a ea)
     | d x=>trivial
     | pk xs=>trivial
     | reel=>trivial
     | vv u=>trivial
     | md xs=>exact fun a ea=>r.g.freeB (hn a ea)
     | mk xs=>exact fun a ea=>r.g.freeB (hn a ea)
     | nt ds=>trivial
     | lk=>trivial
     | sc _=>trivial
     | fd _=>trivial
     | fw _=>trivial
     | ft _=>trivial
     | xc _ _=>trivial
     | dp _ _=>trivial
   · rw[Jj hj]at e;obtain⟨u,h1,h2,h3⟩:=r1.sl j w' e;exact⟨u,by rw[Jj hj];exact h1,h2,h3⟩
 · have key:∀(k:Nat)(x y:W),ρ[k]?=some (some y)->some (some w)=some (some x)->x.own=true->y.own=true->σ[k]?=some (some v)->False:=fun k x y d2 e1 o1 o2 s2=>by
     cases e1;obtain⟨u',h1,h2,h3⟩:=r.sl k _ d2;rw[s2]at h1;cases h1;obtain⟨a,o,ea,hh⟩:=h2.live o2;rw[hn.none o1 ea]at hh;cases hh
   by_cases hj:i=j
   · subst hj;have hk:i≠k:=hjk
     have hi:i<ρ.length:=by
      rw[Kb]at e1;by_cases hi:i<ρ.length
      · exact hi
      · simp[hi]at e1
     rw[Jo hi]at e1;rw[Jj hk]at e2 s2;rw[Jo (by rw[<- r.len];exact hi)]at s1;cases s1;exact key k xs ys e2 e1 w1 w2 s2
   · by_cases hk:i=k
     · subst hk
       have hi:i<ρ.length:=by
        rw[Kb]at e2;by_cases hi:i<ρ.length
        · exact hi
        · simp[hi]at e2
       rw[Jo hi]at e2;rw[Jj hj]at e1 s1;rw[Jo (by rw[<- r.len];exact hi)]at s2;cases s2;exact key j ys xs e1 e2 w2 w1 s1
     · rw[Jj hj]at e1 s1;rw[Jj hk]at e2 s2;exact r.ap j k xs ys u hjk e1 e2 w1 w2 s1 s2
 · rw[Kb]at z;split at z
   · split at z
     · exact hp xs (JK (JK z))
     · cases z
   · exact r.np j xs z
theorem VR.freeze(r:VR K rl F₀ H₀ F H σ ρ){i:Nat}{xs:List IQ}(e:ρ[i]?=some (some (.ml xs))):∃F1,VR K rl F₀ H₀ F1 H σ (ρ.set i (some (.d (.list xs)))):=by
 obtain⟨v,h1,h2,h3⟩:=r.sl i _ e;obtain⟨a,vs,rfl,f,hr,hh,q⟩:=(show eE K rl F H v xs from h2);have hi:i<ρ.length:=(Jn.mp e).1;have neF:∀b u,F b=some u->b≠a:=fun b u q z=>by subst z;rw[f]at q;cases q
 have fsm:bm F (upd F a (.lst vs)):=fun b u z=>by rw[ag (neF b u z)];exact z
 refine⟨upd F a (.lst vs),r.g.freeze (h3 a rfl) hh f hr,fun j w e1=>?_,fun j k ys zs u hjk e1 e2 w1 w2 s1 s2=>?_,fun j ys z=>?_,by simp[r.len]⟩
 · by_cases hj:i=j
   · subst hj;rw[Jo hi]at e1;cases e1;exact⟨.ref a,h1,.lst ak (q.mono fsm),trivial⟩
   · rw[Jj hj]at e1;obtain⟨u,g1,g2,g3⟩:=r.sl j w e1;refine⟨u,g1,?_,g3⟩
     have own:∀ys,(∀zs,w = .ml zs->ys=zs)->eE K rl F H u ys->(∃b,u = .ref b/\b≠a)->eE K rl (upd F a (.lst vs)) H u ys:=fun ys _ ⟨b,us,eb,f1,f2,f3,f4⟩ ⟨b',eb',ne⟩=>by
      rw[eb]at eb';cases eb';exact⟨b,us,eb,by rw[ag ne];exact f1,f2,f3,f4.mono fsm⟩
     cases w with
     | d x=>exact Rep.mono fsm g2
     | reel=>exact g2
     | vv u=>exact g2
     | ml ys =>
       obtain⟨b,us,eb,f1,f2,f3,f4⟩:=(show eE K rl F H u ys from g2);have ne:b≠a:=fun z=>r.ap i j _ _ (.ref a) hj e e1 rfl rfl h1 (by rw[g1,eb,z])
       exact⟨b,us,eb,by rw[ag ne];exact f1,f2,f3,f4.mono fsm⟩
     | pk ys=>exact absurd e1 (r.np j ys)
     | md ys =>
       obtain⟨b,us,eb,f1,f2,f3,f4⟩:=(show jY K rl F H u ys from g2);have ne:b≠a:=fun z=>r.ap i j _ _ (.ref a) hj e e1 rfl rfl h1 (by rw[g1,eb,z])
       exact⟨b,us,eb,by rw[ag ne];exact f1,f2,f3,Kr.mapP f4 fun _ _ z=>⟨z.1,z.2.mono fsm⟩⟩
     | mk ys =>
       obtain⟨b,us,eb,f1,f2,f3,f4⟩:=(show lH K rl F H u ys from g2);have ne:b≠a:=fun z=>r.ap i j _ _ (.ref a) hj e e1 rfl rfl h1 (by rw[g1,eb,z])
       exact⟨b,us,eb,by rw[ag ne];exact f1,f2,f3,Kr.mapP f4 fun _ _ z=>⟨z.1,z.2.mono fsm⟩⟩
     | nt ds=>obtain⟨b,us,eb,f1,f2⟩:=g2;exact⟨b,us,eb,fsm _ _ f1,f2.mono fsm⟩
     | lk=>trivial
     | sc ns=>obtain⟨b,eb,f1⟩:=g2;exact⟨b,eb,iF fsm f1⟩
     | fd kvs=>obtain⟨b,us,eb,f1,f2⟩:=g2;exact⟨b,us,eb,fsm _ _ f1,Kr.mapP f2 fun _ _ z=>⟨z.1,z.2.mono fsm⟩⟩
     | fw kvs=>obtain⟨b,us,o,eb,f1,f2⟩:=g2;exact⟨b,us,o,eb,fsm _ _ f1,Kr.mapP f2 fun _ _ z=>⟨z.1,z.2.mono fsm⟩⟩
     | ft kvs=>obtain⟨b,us,o,eb,f1,f2⟩:=g2;exact⟨b,us,o,eb,fsm _ _ f1,Kr.mapP f2 fun _ _ z=>⟨z.1,z.2.mono fsm⟩⟩
     | xc _ _=>obtain⟨b,dx,us,C,eb,n,f1,f3,f2⟩:=g2;exact⟨b,dx,us,C,eb,n,fsm _ _ f1,fsm _ _ f3,Kr.mapP f2 fun _ _ z=>⟨z.1,z.2.mono fsm⟩⟩
     | dp _ _=>obtain⟨c,b,us,u,o,eb,f1,f3,f2,z⟩:=g2;exact⟨c,b,us,u,o,eb,fsm _ _ f1,fsm _ _ f3,Kr.mapP f2 fun _ _ z=>⟨z.1,z.2.mono fsm⟩,z.mono fsm⟩
 · have nd:∀(j:Nat)(y:W),(ρ.set i (some (W.d (.list xs))))[j]?=some (some y)->y.own=true->ρ[j]?=some (some y):=fun j y z o=>by
     by_cases hj:i=j
     · subst hj;rw[Jo hi]at z;cases z;cases o
     · rw[Jj hj]at z;exact z
   exact r.ap j k ys zs u hjk (nd j ys e1 w1) (nd k zs e2 w2) w1 w2 s1 s2
 · rw[Kb]at z;split at z
   · first|cases z|(split at z<;>cases z)
   · exact r.np j ys z
end
abbrev TV:=En->(W->Prop)->Prop
abbrev TB:=En->(Bool->Prop)->Prop
abbrev HC:=En->(List W->Prop)->Prop
abbrev cZ(K:W.Frag)(rl:RlT)(F H:Hp):List V->List W->Prop:=Kr (cu K rl F H)
def PV(X:Cx)(rl:RlT)(e:Expr)(f:TV):Prop:=∃t,PE X e t/\∀{F₀ H₀ F H:Hp}{σ:St}{ρ:En},VR X.K rl F₀ H₀ F H σ ρ->∀(Qd:W->Prop)(Q:VK),f ρ Qd ->
 (∀v w F' H',Grow rl F H F' H'->cu X.K rl F' H' v w->cO H v w->Qd w->Q v H')->t σ H Q
def PB(X:Cx)(rl:RlT)(e:Expr)(f:TB):Prop:=∃t,PT X e t/\∀{F₀ H₀ F H:Hp}{σ:St}{ρ:En},VR X.K rl F₀ H₀ F H σ ρ->∀(Qd:Bool->Prop)(Q:Bool->Hp->Prop),f ρ Qd ->
 (∀b F' H',Grow rl F H F' H'->Qd b->Q b H')->t σ H Q
def HQ(X:Cx)(rl:RlT)(es:List Expr)(f:HC):Prop:=∃t,PA X es t/\∀{F₀ H₀ F H:Hp}{σ:St}{ρ:En},VR X.K rl F₀ H₀ F H σ ρ->∀(Qd:List W->Prop)(Q:List V->Hp->Prop),f ρ Qd ->
 (∀vs ws F' H',Grow rl F H F' H'->cZ X.K rl F' H' vs ws->Qd ws->Q vs H')->t σ H Q
def W.fz:W->W
 | .ml xs=>.d (.list xs)
 | .nt ds=>.d (.tuple ds)
 | w=>w
theorem cu.fz{K:W.Frag}{rl:RlT}{F1 H1:Hp}{w:W}(g:Grow rl F H F1 H1)(r:cu K rl F1 H1 v w)(n:cO H v w):∃F2,Grow rl F H F2 H1/\bm F1 F2/\cu K rl F2 H1 v w.fz:=by
 cases w with
 | d x=>exact⟨F1,g,.refl _,r⟩
 | pk xs=>exact⟨F1,g,.refl _,r⟩
 | reel=>exact⟨F1,g,.refl _,r⟩
 | vv u=>exact⟨F1,g,.refl _,r⟩
 | md u=>exact⟨F1,g,.refl _,r⟩
 | mk u=>exact⟨F1,g,.refl _,r⟩
 | lk=>exact⟨F1,g,.refl _,r⟩
 | sc _=>exact⟨F1,g,.refl _,r⟩
 | fd _=>exact⟨F1,g,.refl _,r⟩
 | fw _=>exact⟨F1,g,.refl _,r⟩
 | ft _=>exact⟨F1,g,.refl _,r⟩
 | xc _ _=>exact⟨F1,g,.refl _,r⟩
 | dp _ _=>exact⟨F1,g,.refl _,r⟩
 | nt ds=>obtain⟨a,vs,rfl,h,q⟩:=r;exact⟨F1,g,.refl _,.tup (.inl (.inl h)) q⟩
 | ml xs =>
   obtain⟨a,vs,rfl,f,hr,hh,q⟩:=(show eE K rl F1 H1 v xs from r);have neF:∀b u,F1 b=some u->b≠a:=fun b u q z=>by subst z;rw[f]at q;cases q
   have fsm:bm F1 (upd F1 a (.lst vs)):=fun b u z=>by rw[ag (neF b u z)];exact z
   exact⟨upd F1 a (.lst vs),g.freeze (n a rfl) hh f hr,fsm,.lst ak (q.mono fsm)⟩
section
variable{X:Cx}{rl:RlT}{a b e:Expr}{es:List Expr}{fa fb fc:TV}{fs:HC}{pos p:Pos}
def vC(x:IQ):TV:=fun _ Q=>Q (.d x)
theorem eN{x:IQ}(h:PE X e (tC v))(r:∀F,Rep X.K F v x):PV X rl e (vC x) :=
 ⟨_,h,fun R Qd Q q k=>k v (.d x) _ _ (Grow.refl R.sub R.reel) (r _) trivial q⟩
theorem aq{i:Int}{j pos}:PV X rl (.Constant (.int i) j pos) (vC (.int i)):=eN dB fun _=>.int i
theorem lT{i:Bool}{j pos}:PV X rl (.Constant (.bool i) j pos) (vC (.bool i)):=eN BR fun _=>.bl i
theorem gw{j pos}:PV X rl (.Constant .none j pos) (vC .none):=eN zd fun _=>.non
theorem ox{x:Str}{j pos}:PV X rl (.Constant (.str x) j pos) (vC (.str x)):=eN dA fun _=>.str x
def xA(i:Nat):TV:=fun ρ Q=>∃w,ρ[i]?=some (some w)/\Q w.peek
theorem vn(i:Nat){x:Str}{pos:Pos}(hN:X.N[i]?=some x:=by rfl)(hv:Hw X.env.scope x:=by first|exact KH rfl|exact J8 (KH rfl)|exact J8 (J8 rfl))(hd:(x==("__debug__" : Str))=false:=by decide)
 (hcd:(x==("__classdict__" : Str))=false:=by decide):PV X rl (.Name x pos) (xA i) :=
 ⟨_,bI hN hv hd hcd,fun R Qd Q ⟨w,e,q⟩ k=>by
  obtain⟨v,e1,r,_⟩:=R.sl i w e;refine⟨v,e1,k v w.peek _ _ (Grow.refl R.sub R.reel) r.peek ?_ q⟩
  cases w<;>trivial⟩
def tw:HC:=fun _ Q=>Q []
def ip(f:TV)(fs:HC):HC:=fun ρ Q=>f ρ fun w=>fs ρ fun ws=>Q (w.fz::ws)
theorem ab:HQ X rl [] tw:=⟨_,iK,fun R Qd Q q k=>k [] [] _ _ (Grow.refl R.sub R.reel) .nil q⟩
theorem aa(h1:PV X rl e fa)(h2:HQ X rl es fs)(hs:Jc (e::es) X.env=(false,eval e X.env)::Jc es X.env:=by rfl):HQ X rl (e::es) (ip fa fs):=by
 obtain⟨t,p1,k1⟩:=h1;obtain⟨ts,p2,k2⟩:=h2;refine⟨_,dk p1 p2 hs,fun R Qd Q q k=>?_⟩;refine k1 R _ _ q fun v w F1 H1 g1 r1 n1 q1=>?_;obtain⟨F2,g2,s2,r2⟩:=cu.fz g1 r1 n1;refine k2 (R.grow g2) _ _ q1 fun vs ws F3 H3 g3 r3 q3=>?_;exact k (v::vs) (w.fz::ws) F3 H3 (g2.trans g3) (.cons (r2.grow g3) r3) q3
def Hy(X:Cx)(rl:RlT)(r:R2)(g:W->W->(W->Prop)->Prop):Prop:=∀{F H:Hp}{x y:V}{wx wy:W}(Qd:W->Prop)(Q:VK),bm F H->HP rl F H->cu X.K rl F H x wx->cu X.K rl F H y wy->g wx wy Qd ->
 (∀v w F' H',Grow rl F H F' H'->cu X.K rl F' H' v w->cO H v w->Qd w->Q v H')->r x y H Q
def Fm(g:W->W->(W->Prop)->Prop)(fa fb:TV):TV:=fun ρ Q=>fa ρ fun x=>fb ρ fun y=>g x y Q
theorem ii{r:R2}{g:W->W->(W->Prop)->Prop}(vo:Hy X rl r g)(ha:PV X rl a fa)(hb:PV X rl b fb){e:Expr}(hp:∀ta tb,PE X a ta->PE X b tb->PE X e (FI r ta tb)):PV X rl e (Fm g fa fb):=by
 obtain⟨ta,p1,k1⟩:=ha;obtain⟨tb,p2,k2⟩:=hb;refine⟨_,hp ta tb p1 p2,fun R Qd Q q k=>?_⟩;refine k1 R _ _ q fun v w F1 H1 g1 r1 n1 q1=>?_;refine k2 (R.grow g1) _ _ q1 fun v2 w2 F2 H2 g2 r2 n2 q2=>?_
 exact vo Qd Q g2.sub g2.reel (r1.grow g2) r2 q2 fun v3 w3 F3 H3 g3 r3 n3 q3=>k v3 w3 F3 H3 ((g1.trans g2).trans g3) r3 (by
  cases w3 with
  | ml xs=>exact fun a ea=>g1.freeB (g2.freeB (n3 a ea))
  | md xs=>exact fun a ea=>g1.freeB (g2.freeB (n3 a ea))
  | mk xs=>exact fun a ea=>g1.freeB (g2.freeB (n3 a ea))
  | nt _=>trivial
  | lk=>trivial
  | sc _=>trivial
  | fd _=>trivial
  | fw _=>trivial
  | ft _=>trivial
  | xc _ _=>trivial
  | dp _ _=>trivial
  | d _=>trivial
  | pk _=>trivial
  | reel=>trivial
  | vv _=>trivial) q3
theorem gY{op:Qo}{r:R2}{g:W->W->(W->Prop)->Prop}(ho:Ib X (Ma op) r)(vo:Hy X rl r g)(ha:PV X rl a fa)(hb:PV X rl b fb):PV X rl (.BinOp a op b pos) (Fm g fa fb) :=
 ii vo ha hb fun _ _ p1 p2=>zb ho p1 p2
def gI(C:Int->Int->Prop)(g:Int->Int->IQ):W->W->(W->Prop)->Prop:=fun x y Q=>∃i j,x = .d (.int i)/\y = .d (.int j)/\C i j/\Q (.d (g i j))
theorem aB{K:W.Frag}{i:Int}(h:Rep K F v (.int i)):v = .int i:=by cases h;rfl
theorem eX{C:Int->Int->Prop}{g:Int->Int->V}{gd:Int->Int->IQ}(h:∀K F i j,Rep K F (g i j) (gd i j)):Hy X rl (rI C g) (gI C gd):=fun{F H x y wx wy} Qd Q s ra r1 r2 q k=>by
 obtain⟨i,j,rfl,rfl,c,q⟩:=q;exact⟨i,j,aB r1,aB r2,c,k _ (.d _) _ _ (Grow.refl s ra) (h _ _ i j) trivial q⟩
def G3(g:Int->Int->IQ):W->W->(W->Prop)->Prop:=fun x y Q=>∃i j,x = .d (.int i)/\y = .d (.int j)/\Q (.d (g i j))
theorem dr{g:Int->Int->V}{gd:Int->Int->IQ}(h:∀K F i j,Rep K F (g i j) (gd i j)):Hy X rl (Gc g) (G3 gd):=fun{F H x y wx wy} Qd Q s ra r1 r2 q k=>by
 obtain⟨i,j,rfl,rfl,q⟩:=q;exact⟨i,j,aB r1,aB r2,k _ (.d _) _ _ (Grow.refl s ra) (h _ _ i j) trivial q⟩
theorem v_add(ha:PV X rl a fa)(hb:PV X rl b fb):PV X rl (.BinOp a .Add b pos) (Fm (G3 fun i j=>.int (i+j)) fa fb):=gY tT (dr fun _ _ _ _=>.int _) ha hb
theorem v_sub(ha:PV X rl a fa)(hb:PV X rl b fb):PV X rl (.BinOp a .Sub b pos) (Fm (G3 fun i j=>.int (i-j)) fa fb):=gY zn (dr fun _ _ _ _=>.int _) ha hb
def IK(i:Int):Prop:=i.natAbs<2^60000
theorem IK.bits{i:Int}(h:IK i):Builtin.Int.intBits i<=60000:=PD.mpr h
def bR(i j:Int):Prop:=i.natAbs<2^64\/j.natAbs<2^64\/(IK i/\IK j)
theorem bR.lt{i j:Int}(h:i.natAbs<2^64):bR i j:=.inl h
theorem bR.rt{i j:Int}(h:j.natAbs<2^64):bR i j:=.inr (.inl h)
theorem bR.bb{i j:Int}(h:IK i)(h':IK j):bR i j:=.inr (.inr ⟨h,h'⟩)
theorem bR.ok{i j:Int}(h:bR i j):IntMulOk i j:=by
 rcases h with h|h|h
 · exact .of_left (PD.mpr h)
 · exact .of_right (PD.mpr h)
 · exact IntMulOk.of_le h.1.bits h.2.bits (by decide)
theorem oP:Ib X (Ma .Mult) (rI bR fun i j=>.int (i*j)):=Gp fun _ _ _ _ _ _ _ hc q=>mul_int q hc.ok
theorem v_mul(ha:PV X rl a fa)(hb:PV X rl b fb):PV X rl (.BinOp a .Mult b pos) (Fm (gI bR fun i j=>.int (i*j)) fa fb):=gY oP (eX fun _ _ _ _=>.int _) ha hb
def ic(_ j:Int):Prop:=j≠0/\j.natAbs<2^9000
theorem rC:Ib X (Ma .FloorDiv) (rI ic fun i j=>.int (i.fdiv j)):=Gp fun _ j _ _ _ _ _ hc q=>floordiv_int hc.1 q (.inl (PyProof.noPylong_of_log2 ((Nat.log2_lt (by have:=hc.1;omega)).mpr hc.2)))
theorem v_div(ha:PV X rl a fa)(hb:PV X rl b fb):PV X rl (.BinOp a .FloorDiv b pos) (Fm (gI ic fun i j=>.int (i.fdiv j)) fa fb):=gY rC (eX fun _ _ _ _=>.int _) ha hb
theorem v_mod(ha:PV X rl a fa)(hb:PV X rl b fb):PV X rl (.BinOp a .Mod b pos) (Fm (gI (fun _ j=>j≠0) fun i j=>.int (i.fmod j)) fa fb):=gY vR (eX fun _ _ _ _=>.int _) ha hb
theorem v_pow(ha:PV X rl a fa)(hb:PV X rl b fb):PV X rl (.BinOp a .Pow b pos) (Fm (gI DY fun i j=>.int (i^j.toNat)) fa fb):=gY zp (eX fun _ _ _ _=>.int _) ha hb
def Bi(fa:TV):TV:=fun ρ Q=>fa ρ fun x=>∃i,x = .d (.int i)/\Q (.d (.int (-i)))
theorem Ba(ha:PV X rl a fa):PV X rl (.UnaryOp .USub a pos) (Bi fa):=by
 obtain⟨ta,p1,k1⟩:=ha;refine⟨_,BP ym p1,fun R Qd Q q k=>k1 R _ _ q fun v w F1 H1 g1 r1 n1 ⟨i,ew,q1⟩=>?_⟩;subst ew;exact⟨i,aB r1,k _ (.d _) F1 H1 g1 (.int _) trivial q1⟩
theorem m7{r:R2}{g:W->W->(W->Prop)->Prop}(ho:Ib X (LJ op) r)(vo:Hy X rl r g)(hm:Lh op b=false)(ha:PV X rl a fa)(hb:PV X rl b fb):PV X rl (.Compare a [op] [b] pos) (Fm g fa fb) :=
 ii vo ha hb fun _ _ p1 p2=>oJ ho p1 p2 hm
def na(f:TV):TB:=fun ρ Q=>f ρ fun w=>∃k,w = .d (.bool k)/\Q k
theorem iH{K:W.Frag}{i:Bool}(h:Rep K F v (.bool i)):v = .bl i:=by cases h;rfl
theorem bF{r:R2}{g:W->W->(W->Prop)->Prop}(ho:Ib X (LJ op) r)(vo:Hy X rl r g)(hm:Lh op b=false)(ha:PV X rl a fa)(hb:PV X rl b fb):PB X rl (.Compare a [op] [b] pos) (na (Fm g fa fb)):=by
 obtain⟨ta,p1,k1⟩:=ha;obtain⟨tb,p2,k2⟩:=hb;refine⟨_,vD ho p1 p2 hm,fun R Qd Q q k=>?_⟩;refine k1 R _ _ q fun v w F1 H1 g1 r1 n1 q1=>?_;refine k2 (R.grow g1) _ _ q1 fun v2 w2 F2 H2 g2 r2 n2 q2=>?_;refine vo _ _ g2.sub g2.reel (r1.grow g2) r2 q2 fun v3 w3 F3 H3 g3 r3 n3 ⟨kb,ew,q3⟩=>?_;subst ew;exact⟨kb,iH r3,k kb F3 H3 ((g1.trans g2).trans g3) q3⟩
theorem xZ(ha:PV X rl e fa)(he:∀whole,isTrue e X.env whole=(do let v <- whole;OG e.pos;NF [v] (truthy v)):=by intro _;rfl):PB X rl e (na fa):=by
 obtain⟨ta,p1,k1⟩:=ha;refine⟨_,yV p1 he,fun R Qd Q q k=>k1 R _ _ q fun v w F1 H1 g1 r1 n1 ⟨kb,ew,q1⟩=>?_⟩;subst ew;exact⟨kb,iH r1,k kb F1 H1 g1 q1⟩
abbrev DO(p:Int->Int->Bool):=G3 fun i j=>.bool (p i j)
theorem A8:Hy X rl (Gc fun i j=>.bl (decide (i<j))) (DO fun i j=>decide (i<j)):=dr fun _ _ _ _=>.bl _
theorem lJ:Hy X rl (Gc fun i j=>.bl (decide (j<i))) (DO fun i j=>decide (j<i)):=dr fun _ _ _ _=>.bl _
def BG(K:W.Frag)(neg:Bool):R2:=fun x y H Q=>∃dx dy,Rep K H x dx/\Rep K H y dy/\JT dx=true/\JT dy=true/\Q (.bl (if neg then !Ky dx dy else Ky dx dy)) H
theorem dh(hu:X.A.units+64<N1):Ib X (LJ .Eq) (BG X.K false):=by
 intro pins s σ H x y v u Q I rx ry ⟨dx,dy,h1,h2,s1,s2,q⟩;obtain⟨as,a1⟩:=Rep.reads I (.refl H) h1 v rx;obtain⟨bs,a2⟩:=Rep.reads I (.refl H) h2 u ry;exact SeqAt.compareEq_shaped a1 a2 s1 s2 hu ⟨.bl _,H,I,rfl,q⟩
theorem kP(hu:X.A.units+64<N1):Ib X (LJ .NotEq) (BG X.K true):=by
 intro pins s σ H x y v u Q I rx ry ⟨dx,dy,h1,h2,s1,s2,q⟩;obtain⟨as,a1⟩:=Rep.reads I (.refl H) h1 v rx;obtain⟨bs,a2⟩:=Rep.reads I (.refl H) h2 u ry;exact SeqAt.compareNe_shaped a1 a2 s1 s2 hu ⟨.bl _,H,I,rfl,q⟩
def Cn(neg:Bool):W->W->(W->Prop)->Prop:=fun x y Q=>∃dx dy,x.dat=some dx/\y.dat=some dy/\JT dx=true/\JT dy=true/\Q (.d (.bool (if neg then !Ky dx dy else Ky dx dy)))
theorem cj{neg:Bool}:Hy X rl (BG X.K neg) (Cn neg):=fun{F H x y wx wy} Qd Q s ra r1 r2 q k=>by
 obtain⟨dx,dy,e1,e2,s1,s2,q⟩:=q;exact⟨dx,dy,r1.dat s e1,r2.dat s e2,s1,s2,k _ (.d _) _ _ (Grow.refl s ra) (.bl _) trivial q⟩
def DF(K:W.Frag)(neg:Bool):R2:=fun x y H Q=>∃dx ys,Rep K H x dx/\(Rep K H y (.list ys)\/Rep K H y (.tuple ys))/\JT dx=true/\JZ ys=true/\Q (.bl (if neg then !(ys.any fun z=>Ky z dx)else ys.any fun z=>Ky z dx)) H
theorem jL{ys:List IQ}(hu:A.units+65<N1)(h:JT d=true):A.units+1+min (J4 ys) d.depth<N1:=by
 have h1:=SeqAt.depth_of_shaped h;have h2:min (J4 ys) d.depth<=d.depth:=Nat.min_le_right _ _;omega
theorem zr(hu:X.A.units+65<N1):Ib X (LJ .In) (DF X.K false):=by
 intro pins s σ H x y v u Q I rx ry ⟨dx,ys,h1,h2,s1,s2,q⟩;obtain⟨as,a1⟩:=Rep.reads I (.refl H) h1 v rx;rcases h2 with h2|h2
 · obtain⟨bs,a2⟩:=Rep.reads I (.refl H) h2 u ry;exact SeqAt.in_list_reads a2 a1 s2 (Nc s1) (jL hu s1) ⟨.bl _,H,I,rfl,q⟩
 · obtain⟨bs,a2⟩:=Rep.reads I (.refl H) h2 u ry;exact SeqAt.in_tuple_reads a2 a1 s2 (Nc s1) (jL hu s1) ⟨.bl _,H,I,rfl,q⟩
def Ck(neg:Bool):W->W->(W->Prop)->Prop:=fun x y Q=>∃dx ys,x.dat=some dx/\(y.dat=some (.list ys)\/y.dat=some (.tuple ys))/\JT dx=true/\JZ ys=true/\Q (.d (.bool (if neg then !(ys.any fun z=>Ky z dx)else ys.any fun z=>Ky z dx)))
theorem xS{neg:Bool}:Hy X rl (DF X.K neg) (Ck neg):=fun{F H x y wx wy} Qd Q s ra r1 r2 q k=>by
 obtain⟨dx,ys,e1,e2,s1,s2,q⟩:=q;exact⟨dx,ys,r1.dat s e1,e2.imp (fun e=>r2.dat s e) (fun e=>r2.dat s e),s1,s2,k _ (.d _) _ _ (Grow.refl s ra) (.bl _) trivial q⟩
def Bl(f g:TB):TB:=fun ρ Q=>f ρ fun b=>if b=true then g ρ Q else Q false
def Fj(f g:TB):TB:=fun ρ Q=>f ρ fun b=>if b=true then Q true else g ρ Q
def Dx(f:TB):TB:=fun ρ Q=>f ρ fun b=>Q (!b)
def Ia(X:Cx)(rl:RlT)(e:Expr)(f:TB):Prop:=∃t,PW X e t/\∀{F₀ H₀ F H:Hp}{σ:St}{ρ:En},VR X.K rl F₀ H₀ F H σ ρ->∀(Qd:Bool->Prop)(Q:Bool->Hp->Prop),f ρ Qd ->
 (∀b F' H',Grow rl F H F' H'->Qd b->Q b H')->t σ H Q
variable{f g:TB}{rest:List Expr}
theorem Ia.pb(h:Ia X rl e f):PB X rl e f:=let ⟨t,p,k⟩:=h;⟨t,p.pt,k⟩
theorem uH(ha:PB X rl a f):Ia X rl (.BoolOp .And [a] pos) f:=let ⟨t,p,k⟩:=ha;⟨t,vA p,k⟩
theorem x5(ha:PB X rl a f):Ia X rl (.BoolOp .Or [a] pos) f:=let ⟨t,p,k⟩:=ha;⟨t,yT p,k⟩
theorem x8(ha:PB X rl a f)(hb:Ia X rl (.BoolOp .And (b::rest) pos) g):Ia X rl (.BoolOp .And (a::b::rest) pos) (Bl f g):=by
 obtain⟨t,p,k⟩:=ha;obtain⟨t2,p2,k2⟩:=hb;refine⟨_,yU p p2,fun R Qd Q q h=>k R _ _ q fun c F1 H1 g1 q1=>?_⟩
 cases c with
 | true=>exact k2 (R.grow g1) _ _ q1 fun c F2 H2 g2 q2=>h c F2 H2 (g1.trans g2) q2
 | false=>exact h false F1 H1 g1 q1
theorem A9(ha:PB X rl a f)(hb:Ia X rl (.BoolOp .Or (b::rest) pos) g):Ia X rl (.BoolOp .Or (a::b::rest) pos) (Fj f g):=by
 obtain⟨t,p,k⟩:=ha;obtain⟨t2,p2,k2⟩:=hb;refine⟨_,BJ p p2,fun R Qd Q q h=>k R _ _ q fun c F1 H1 g1 q1=>?_⟩
 cases c with
 | true=>exact h true F1 H1 g1 q1
 | false=>exact k2 (R.grow g1) _ _ q1 fun c F2 H2 g2 q2=>h c F2 H2 (g1.trans g2) q2
theorem x6(ha:PB X rl a f):PB X rl (.UnaryOp .Not a pos) (Dx f):=by
 obtain⟨t,p,k⟩:=ha;exact⟨_,yW p,fun R Qd Q q h=>k R _ _ q fun c F1 H1 g1 q1=>h (!c) F1 H1 g1 q1⟩
def Bh(fa fb:TV):TV:=fun ρ Q=>fa ρ fun w=>∃c,w = .d (.bool c)/\if c=true then Q (.d (.bool true))else fb ρ Q
theorem cO.back{rl:RlT}{w:W}(g:Grow rl F H F' H')(n:cO H' v w):cO H v w:=by
 cases w with
 | ml xs=>exact fun a ea=>g.freeB (n a ea)
 | md xs=>exact fun a ea=>g.freeB (n a ea)
 | mk xs=>exact fun a ea=>g.freeB (n a ea)
 | nt _=>trivial
 | lk=>trivial
 | sc _=>trivial
 | fd _=>trivial
 | fw _=>trivial
 | ft _=>trivial
 | xc _ _=>trivial
 | dp _ _=>trivial
 | d _=>trivial
 | pk _=>trivial
 | reel=>trivial
 | vv _=>trivial
def Fq(t:TB)(fa fb:TV):TV:=fun ρ Q=>t ρ fun c=>if c=true then fa ρ Q else fb ρ Q
theorem jr{c:Expr}(hc:PB X rl c f)(ha:PV X rl a fa)(hb:PV X rl b fb):PV X rl (.IfExp c a b pos) (Fq f fa fb):=by
 obtain⟨t,p,k⟩:=hc;obtain⟨t1,p1,k1⟩:=ha;obtain⟨t2,p2,k2⟩:=hb;refine⟨_,re p p1 p2,fun R Qd Q q h=>k R _ _ q fun c F1 H1 g1 q1=>?_⟩
 cases c with
 | true=>exact k1 (R.grow g1) _ _ q1 fun v w F2 H2 g2 r2 n2 q2=>h v w F2 H2 (g1.trans g2) r2 (n2.back g1) q2
 | false=>exact k2 (R.grow g1) _ _ q1 fun v w F2 H2 g2 r2 n2 q2=>h v w F2 H2 (g1.trans g2) r2 (n2.back g1) q2
def ji:List W->Option (List IQ)
 | []=>some []
 | .d x::r=>(ji r).map (x :: ·)
 | _::_=>none
theorem cJ{K:W.Frag}{F H:Hp}:∀{vs:List V}{ws:List W}{ds:List IQ},cZ K rl F H vs ws->ji ws=some ds->Reps K F vs ds
 | _,_,_,.nil,e=>by cases e;exact .nil
 | _,.d x::ws,ds,.cons r rs,e=>by
   have e:(ji ws).map (x :: ·)=some ds:=e
   cases q:ji ws with
   | none=>rw[q]at e;cases e
   | some es=>rw[q]at e;cases e;exact .cons r (cJ rs q)
 | _,.ml x::ws,ds,.cons r rs,e=>by cases(show none=some ds from e)
 | _,.pk x::ws,ds,.cons r rs,e=>by cases(show none=some ds from e)
 | _,.reel::ws,ds,.cons r rs,e=>by cases(show none=some ds from e)
 | _,.vv u::ws,ds,.cons r rs,e=>by cases(show none=some ds from e)
 | _,.md u::ws,ds,.cons r rs,e=>by cases(show none=some ds from e)
 | _,.nt u::ws,ds,.cons r rs,e=>by cases(show none=some ds from e)
 | _,.lk::ws,ds,.cons r rs,e=>by cases(show none=some ds from e)
 | _,.sc _::ws,ds,.cons r rs,e=>by cases(show none=some ds from e)
 | _,.fd _::ws,ds,.cons r rs,e=>by cases(show none=some ds from e)
 | _,.xc _ _::ws,ds,.cons r rs,e=>by cases(show none=some ds from e)
 | _,.mk _::ws,ds,.cons r rs,e=>by cases(show none=some ds from e)
 | _,.fw _::ws,ds,.cons r rs,e=>by cases(show none=some ds from e)
 | _,.ft _::ws,ds,.cons r rs,e=>by cases(show none=some ds from e)
 | _,.dp _ _::ws,ds,.cons r rs,e=>by cases(show none=some ds from e)
def yf(fs:HC):TV:=fun ρ Q=>fs ρ fun ws=>∃ds,ji ws=some ds/\ds.length<=sizeLine/\Q (.d (.tuple ds))
def Bj(fs:HC):TV:=fun ρ Q=>fs ρ fun ws=>∃ds,ji ws=some ds/\ds.length<=sizeLine/\Q (.ml ds)
theorem fW{x1}(h:HQ X rl es fs):PV X rl (.Tuple es x1 pos) (yf fs):=by
 obtain⟨t,p,k⟩:=h;refine⟨_,oG p,fun R Qd Q q h=>k R _ _ q fun vs ws F1 H1 g1 r1 ⟨ds,e1,z,q1⟩=>?_⟩;have rs:=cJ r1 e1;refine⟨by rw[rs.length];exact z,fun p hp=>?_⟩;have g2:=g1.trans (Grow.data (a:=p) (o:=.tup vs) g1.sub g1.reel hp);exact h _ (.d (.tuple ds)) _ _ g2 (.tup (.inl (.inl ak)) (rs.mono (Grow.data (o:=.tup vs) g1.sub g1.reel hp).fs)) trivial q1
theorem da{K:W.Frag}{p:Addr}{ds:List IQ}(s:bm F H)(ra:HP rl F H)(hp:H p=none)(rs:Reps K F vs ds):eE K rl F (upd H p (.lst vs)) (.ref p) ds:=by
 refine⟨p,vs,rfl,s.free hp,fun e=>?_,ak,rs⟩;obtain⟨o,q⟩:=ra.live e;rw[hp]at q;cases q
theorem cQ(h:HQ X rl es fs):PV X rl (.List es pos) (Bj fs):=by
 obtain⟨t,p,k⟩:=h;refine⟨_,ze p,fun R Qd Q q h=>k R _ _ q fun vs ws F1 H1 g1 r1 ⟨ds,e1,z,q1⟩=>?_⟩;have rs:=cJ r1 e1;refine⟨by rw[rs.length];exact z,fun p hp=>?_⟩;exact h _ (.ml ds) _ _ (g1.trans (Grow.laid (a:=p) (o:=.lst vs) g1.sub g1.reel hp)) (da g1.sub g1.reel hp rs) (fun a ea=>by cases ea;exact g1.freeB hp) q1
def itemAt:IQ->Int->Option IQ
 | .list xs,i=>atI xs i
 | .tuple xs,i=>atI xs i
 | _,_=>none
theorem Reps.atI{K:W.Frag}{F:Hp}{vs:List V}{ds:List IQ}{i:Int}{d:IQ}(r:Reps K F vs ds)(e:L2.atI ds i=some d):∃v,L2.atI vs i=some v/\Rep K F v d:=by
 unfold L2.atI at e ⊢;rw[r.length]
 cases q:ixN ds.length i with
 | none=>rw[q]at e;cases e
 | some j =>
   rw[q]at e;exact r.get e
def G0:W->W->(W->Prop)->Prop:=fun x y Q=>∃dx i z,x.dat=some dx/\y = .d (.int i)/\itemAt dx i=some z/\Q (.d z)
theorem xQ:Hy X rl (Gb X.K) G0:=fun{F H x y wx wy} Qd Q s ra r1 r2 q k=>by
 obtain⟨dx,i,z,e1,rfl,e3,q⟩:=q;have ey:=aB r2;subst ey
 cases dx with
 | list xs =>
   obtain⟨a,vs,rfl,sq,rs⟩:=r1.items s e1;obtain⟨v,e4,rz⟩:=Reps.atI rs e3
   exact .inl ⟨a,vs,i,v,rfl,rfl,sq,e4,k _ (.d _) _ _ (Grow.refl s ra) rz trivial q⟩
 | tuple xs =>
   obtain⟨a,vs,rfl,sq,rs⟩:=r1.itemsT s e1;obtain⟨v,e4,rz⟩:=Reps.atI rs e3
   exact .inr (.inl ⟨a,vs,i,v,rfl,rfl,sq,e4,k _ (.d _) _ _ (Grow.refl s ra) rz trivial q⟩)
 | none=>cases e3
 | bool b=>cases e3
 | int b=>cases e3
 | str b=>cases e3
 | dict b=>cases e3
theorem lL(ha:PV X rl a fa)(hb:PV X rl b fb)(hs:fV b:=by exact fun _ _=>rfl):PV X rl (.Subscript a b pos) (Fm G0 fa fb):=ii xQ ha hb fun _ _ p1 p2=>qZ lh p1 p2 hs
def dP(X:Cx)(rl:RlT)(r:List V->Hp->VK->Prop)(g:List W->(W->Prop)->Prop):Prop:=∀{F H:Hp}{vs:List V}{ws:List W}(Qd:W->Prop)(Q:VK),bm F H->HP rl F H->cZ X.K rl F H vs ws->g ws Qd ->
 (∀v w F' H',Grow rl F H F' H'->cu X.K rl F' H' v w->cO H v w->Qd w->Q v H')->r vs H Q
def cr(g:List W->(W->Prop)->Prop)(fs:HC):TV:=fun ρ Q=>fs ρ fun ws=>g ws Q
theorem ke{g:List W->(W->Prop)->Prop}{t:TA->TE}(vc:dP X rl r g)(ha:HQ X rl es fs){e:Expr}(hp:∀ta,PA X es ta->PE X e (FM r ta)):PV X rl e (cr g fs):=by
 obtain⟨ta,p1,k1⟩:=ha;refine⟨_,hp ta p1,fun R Qd Q q k=>k1 R _ _ q fun vs ws F1 H1 g1 r1 q1=>?_⟩;exact vc Qd Q g1.sub g1.reel r1 q1 fun v w F2 H2 g2 r2 n2 q2=>k v w F2 H2 (g1.trans g2) r2 (n2.back g1) q2
theorem dS{id:String}{x:Str}{g:List W->(W->Prop)->Prop}(hc:dg X (.builtin id) r)(vc:dP X rl r g)(hm:X.mg x=none)(hv:Mp x=some (.builtin id))(ha:HQ X rl (e::es) fs)(hg:Gl X x:=by rfl)(hn:x ≠ "__name__" := by decide)(hdb:(x==("__debug__" : Str))=false:=by decide)
 (he:Jc (e::es) X.env=(false,eval e X.env)::Jc es X.env:=by rfl)(hpl:(KB pos (Jc es X.env)).any (·.1)=false:=by rfl):PV X rl (.Call (.Name x p) (e::es) [] pos) (cr g fs) :=
 ke (t:=fun _=>tC .non) vc ha fun _ p1=>kO hc hg hm hv p1 hn hdb he hpl
theorem eL{T:String}{x:Str}{g:List W->(W->Prop)->Prop}(hc:dg X (.type T) r)(vc:dP X rl r g)(hm:X.mg x=none)(hv:Mp x=some (.type T))(ha:HQ X rl (e::es) fs)(hg:Gl X x:=by rfl)(hn:x ≠ "__name__" := by decide)(hdb:(x==("__debug__" : Str))=false:=by decide)
 (he:Jc (e::es) X.env=(false,eval e X.env)::Jc es X.env:=by rfl)(hpl:(KB pos (Jc es X.env)).any (·.1)=false:=by rfl):PV X rl (.Call (.Name x p) (e::es) [] pos) (cr g fs) :=
 ke (t:=fun _=>tC .non) vc ha fun _ p1=>fC hc hg hm hv p1 hn hdb he hpl
theorem mL{K:W.Frag}{w:W}(r:cZ K rl F H vs [w]):∃v,vs=[v]/\cu K rl F H v w:=by
 cases r with
 | cons r1 r2=>cases r2;exact⟨_,rfl,r1⟩
theorem AR{K:W.Frag}{w w':W}(r:cZ K rl F H vs [w,w']):∃v u,vs=[v,u]/\cu K rl F H v w/\cu K rl F H u w':=by
 cases r with
 | cons r1 r2 =>
   cases r2 with
   | cons r3 r4=>cases r4;exact⟨_,_,rfl,r1,r3⟩
def DP:List W->(W->Prop)->Prop:=fun ws Q=>∃i,ws=[.d (.int i)]/\Q (.d (.int (if i<0 then -i else i)))
def tZ:IQ->Option Nat
 | .list xs=>some xs.length
 | .tuple xs=>some xs.length
 | _=>none
def xF:List W->(W->Prop)->Prop:=fun ws Q=>∃w d n,ws=[w]/\w.dat=some d/\tZ d=some n/\Q (.d (.int n))
theorem xX:dP X rl (fun xs H Q=>∃p ys,xs=[.ref p]/\(HJ X.K H p ys\/HI X.K H p ys)/\Q (.int ys.length) H) xF:=fun{F H vs ws} Qd Q s ra r ⟨w,d,n,ew,e1,e2,q⟩ k=>by
 subst ew;obtain⟨v,rfl,r1⟩:=mL r
 cases d with
 | list xs =>
   obtain⟨a,vs,rfl,sq,rs⟩:=r1.items s e1;cases e2
   exact⟨a,vs,rfl,.inl sq,k _ (.d _) _ _ (Grow.refl s ra) (by rw[rs.length];exact .int _) trivial q⟩
 | tuple xs =>
   obtain⟨a,vs,rfl,sq,rs⟩:=r1.itemsT s e1;cases e2
   exact⟨a,vs,rfl,.inr sq,k _ (.d _) _ _ (Grow.refl s ra) (by rw[rs.length];exact .int _) trivial q⟩
 | none=>cases e2
 | bool b=>cases e2
 | int b=>cases e2
 | str b=>cases e2
 | dict b=>cases e2
end
structure VEnds where
 nx:En->Prop
 rt:W->Prop
 bk:En->Prop:=fun _=>False
 ct:En->Prop:=fun _=>False
structure EndsOk (K:W.Frag) (rl:RlT) (F₀ H₀ Fs:Hp) (Dv:VEnds) (D:Ends):Prop where
 nx:∀F H σ ρ,bm Fs F->VR K rl F₀ H₀ F H σ ρ->Dv.nx ρ->D.nx σ H
 rt:∀v w F H,Grow rl F₀ H₀ F H->cu K rl F H v w->cO H₀ v w->Dv.rt w->D.rt v H
 bk:∀F H σ ρ,bm Fs F->VR K rl F₀ H₀ F H σ ρ->Dv.bk ρ->D.bk σ H
 ct:∀F H σ ρ,bm Fs F->VR K rl F₀ H₀ F H σ ρ->Dv.ct ρ->D.ct σ H
theorem EndsOk.on{K:W.Frag}{rl:RlT}{Fs:Hp}{Dv:VEnds}{D:Ends}(ok:EndsOk K rl F₀ H₀ Fs Dv D)(s:bm Fs F):EndsOk K rl F₀ H₀ F Dv D :=
 ⟨fun F1 H σ ρ s1=>ok.nx F1 H σ ρ (s.trans s1),ok.rt,fun F1 H σ ρ s1=>ok.bk F1 H σ ρ (s.trans s1),fun F1 H σ ρ s1=>ok.ct F1 H σ ρ (s.trans s1)⟩
abbrev HD:=VEnds->En->Prop
def HV(X:Cx)(rl:RlT)(st:Stmt)(t:HD):Prop:=∃T,PS X st T/\∀{F₀ H₀ F H:Hp}{σ:St}{ρ:En},VR X.K rl F₀ H₀ F H σ ρ->∀Dv D,EndsOk X.K rl F₀ H₀ F Dv D->t Dv ρ->T D σ H
def jk(X:Cx)(rl:RlT)(st:List Stmt)(t:HD):Prop:=∃T,HU X st T/\∀{F₀ H₀ F H:Hp}{σ:St}{ρ:En},VR X.K rl F₀ H₀ F H σ ρ->∀Dv D,EndsOk X.K rl F₀ H₀ F Dv D->t Dv ρ->T D σ H
section
variable{X:Cx}{rl:RlT}{st:Stmt}{rest body:List Stmt}{t u:HD}{a b c e:Expr}{es:List Expr}{fa fb:TV}{fs:HC}{f:TB}{pos p:Pos}
def uQ:HD:=fun D ρ=>D.nx ρ
def uP(t u:HD):HD:=fun D ρ=>t {D with nx:=u D} ρ
theorem cL:jk X rl [] uQ:=⟨_,vE,fun R Dv D ok q=>ok.nx _ _ _ _ (.refl _) R q⟩
theorem aw(h:HV X rl st t):jk X rl [st] t:=let ⟨T,p,k⟩:=h;⟨T,jB p,k⟩
theorem aj(h:HV X rl st t)(h2:jk X rl rest u):jk X rl (st::rest) (uP t u):=by
 obtain⟨T,p,k⟩:=h;obtain⟨T2,p2,k2⟩:=h2;exact⟨_,cC p p2,fun R Dv D ok q=>k R {Dv with nx:=u Dv} {D with nx:=T2 D} ⟨fun F H σ ρ s' R' q'=>k2 R' Dv D (ok.on s') q',ok.rt,ok.bk,ok.ct⟩ q⟩
def Bg(fa:TV):HD:=fun D ρ=>fa ρ D.rt
theorem aK(h:PV X rl e fa):HV X rl (.Return (some e) pos) (Bg fa):=by
 obtain⟨t,p,k⟩:=h;exact⟨_,kK p,fun R Dv D ok q=>k R _ _ q fun v w F1 H1 g1 r1 n1 q1=>ok.rt v w F1 H1 (R.g.trans g1) r1 (n1.back R.g) q1⟩
def AJ(f:TB)(t u:HD):HD:=fun D ρ=>f ρ fun b=>if b=true then t D ρ else u D ρ
theorem eW{A B:List Stmt}(hc:PB X rl c f)(ha:jk X rl A t)(hb:jk X rl B u):HV X rl (.If c A B pos) (AJ f t u):=by
 obtain⟨t0,p0,k0⟩:=hc;obtain⟨t1,p1,k1⟩:=ha;obtain⟨t2,p2,k2⟩:=hb;refine⟨_,yZ p0 p1 p2,fun R Dv D ok q=>k0 R _ _ q fun b F1 H1 g1 q1=>?_⟩
 cases b with
 | true=>exact k1 (R.grow g1) Dv D (ok.on g1.fs) q1
 | false=>exact k2 (R.grow g1) Dv D (ok.on g1.fs) q1
def W.isPk:W->Bool
 | .pk _=>true
 | _=>false
def AI(i:Nat)(fa:TV):HD:=fun D ρ=>fa ρ fun w=>w.isPk=false/\D.nx (ρ.set i (some w))
theorem bS(i:Nat){x:Str}(hN:X.N.Nodup)(he:PV X rl e fa)(hi:X.N[i]?=some x:=by rfl)(hx:Loc X.env.scope x:=by first|exact KH rfl|exact J8 rfl)
 (hs:K4 e (some (.Name x pos')) pos.line X.env=pure false:=by rfl)(hf:X.fn x=true\/X.env.scope.names.lookup x=some .local:=by first|exact .inl rfl|exact .inr rfl) :
 HV X rl (.Assign [.Name x pos'] e pos) (AI i fa):=by
 obtain⟨t,p,k⟩:=he;refine⟨_,gz hN hi hx p hs hf,fun R Dv D ok q=>k R _ _ q fun v w F1 H1 g1 r1 n1 ⟨hp,q1⟩=>?_⟩;exact ok.nx _ _ _ _ g1.fs (R.set g1 r1 n1 (fun xs z=>by subst z;cases hp) i) q1
def mI(ρ:En):Prop:=∀(i:Nat)(w:W),ρ[i]?=some (some w)->w.own=false
theorem mI.set{ρ:En}(h:mI ρ)(i:Nat)(x:IQ):mI (ρ.set i (some (.d x))):=fun j w z=>by
 rw[Kb]at z;split at z
 · split at z
   · cases z;rfl
   · cases z
 · exact h j w z
abbrev HG:=IQ->En->(En->Prop)->Prop
abbrev qr:=List IQ->En->(En->Prop)->Prop
def H_(X:Cx)(rl:RlT)(tg:Expr)(g:HG):Prop:=∃G,PG X tg G/\∀{F₀ H₀ F H:Hp}{σ:St}{ρ:En},VR X.K rl F₀ H₀ F H σ ρ->∀(v:V)(x:IQ)(Qd:En->Prop)(Q:St->Hp->Prop),Rep X.K F v x->g x ρ Qd ->
 (∀F' H' σ' ρ',Grow rl F H F' H'->(mI ρ->mI ρ')->VR X.K rl F₀ H₀ F' H' σ' ρ'->Qd ρ'->Q σ' H')->G v σ H Q
def A3(X:Cx)(rl:RlT)(tgs:List Expr)(g:qr):Prop:=∃G,H0 X tgs G/\∀{F₀ H₀ F H:Hp}{σ:St}{ρ:En},VR X.K rl F₀ H₀ F H σ ρ->∀(vs:List V)(xs:List IQ)(Qd:En->Prop)(Q:St->Hp->Prop),Reps X.K F vs xs->g xs ρ Qd ->
 (∀F' H' σ' ρ',Grow rl F H F' H'->(mI ρ->mI ρ')->VR X.K rl F₀ H₀ F' H' σ' ρ'->Qd ρ'->Q σ' H')->G vs σ H Q
def wF(i:Nat):HG:=fun x ρ Q=>Q (ρ.set i (some (.d x)))
theorem ar(i:Nat){x:Str}(hN:X.N.Nodup)(hi:X.N[i]?=some x:=by rfl)(hx:Loc X.env.scope x:=by first|exact KH rfl|exact J8 rfl)(hf:X.fn x=true\/X.env.scope.names.lookup x=some .local:=by first|exact .inl rfl|exact .inr rfl):H_ X rl (.Name x pos) (wF i) :=
 ⟨_,hG hN hi hx hf,fun R v x Qd Q r q k=>k _ _ _ _ (Grow.refl R.sub R.reel) (fun n=>n.set i x) (R.set (w:=.d x) (Grow.refl R.sub R.reel) r trivial (fun _ z=>by cases z) i) q⟩
def Ch:qr:=fun xs ρ Q=>xs=[]/\Q ρ
def r_(g:HG)(gs:qr):qr:=fun xs ρ Q=>∃y r,xs=y::r/\g y ρ fun ρ'=>gs r ρ' Q
theorem cP:A3 X rl [] Ch:=⟨_,oF,fun R vs xs Qd Q r ⟨e,q⟩ k=>by subst e;exact⟨r.nil_iff,k _ _ _ _ (Grow.refl R.sub R.reel) (fun n=>n) R q⟩⟩
theorem aX{g:HG}{gs:qr}(h1:H_ X rl e g)(h2:A3 X rl es gs)(hs:(KO (e::es) X.env).map (·.2)=L0 e X.env::(KO es X.env).map (·.2):=by rfl):A3 X rl (e::es) (r_ g gs):=by
 obtain⟨G,p,k⟩:=h1;obtain⟨G2,p2,k2⟩:=h2;refine⟨_,hE p p2 hs,fun R vs xs Qd Q r ⟨y,ys,ex,q⟩ h=>?_⟩;subst ex
 cases r with
 | cons r1 r2 =>
   refine⟨_,_,rfl,k R _ y _ _ r1 q fun F1 H1 σ1 ρ1 s1 n1 R1 q1=>?_⟩;exact k2 R1 _ ys _ _ (r2.mono s1.fs) q1 fun F2 H2 σ2 ρ2 s2 n2 R2 q2=>h F2 H2 σ2 ρ2 (s1.trans s2) (fun n=>n2 (n1 n)) R2 q2
def Cf(n:Nat)(gs:qr):HG:=fun x ρ Q=>∃xs,x = .tuple xs/\xs.length=n/\gs xs ρ Q
theorem d_{kk:Nat}{gs:qr}(hc:X.calm=true)(h:A3 X rl es gs)(hn:(KO es X.env).length=n:=by rfl)(hst:(KO es X.env).findIdx? (·.1)=none:=by rfl):H_ X rl (.Tuple es kk pos) (Cf n gs):=by
 obtain⟨G,p,k⟩:=h;refine⟨_,tP hc p hn hst,fun R v x Qd Q r ⟨xs,ex,hl,q⟩ h=>?_⟩;subst ex
 cases r with
 | tup sq rs=>exact⟨_,_,rfl,cR R.sub sq,by rw[rs.length];exact hl,k R _ xs _ _ rs q h⟩
def AM(fa:TV)(g:HG):HD:=fun D ρ=>fa ρ fun w=>∃x,w = .d x/\g x ρ D.nx
theorem xN{g:HG}(he:PV X rl e fa)(hg:H_ X rl tg g)(hs:L8 [tg] e pos.line X.env=pure false:=by rfl)(hw:L9 [tg] e X.env=pure none:=by rfl)
 (h1:(KO [tg] X.env).map (·.2)=[L0 tg X.env]:=by rfl):HV X rl (.Assign [tg] e pos) (AM fa g):=by
 obtain⟨t,p,k⟩:=he;obtain⟨G,p2,k2⟩:=hg;refine⟨_,iJ p p2 hs hw h1,fun R Dv D ok q=>k R _ _ q fun v w F1 H1 g1 r1 n1 ⟨x,ew,q1⟩=>?_⟩;subst ew;exact k2 (R.grow g1) v x _ _ r1 q1 fun F2 H2 σ2 ρ2 s2 n2 R2 q2=>ok.nx _ _ _ _ (g1.fs.trans s2.fs) R2 q2
def Dw(i j:Nat)(fs:HC):HD:=fun D ρ=>fs ρ fun ws=>∃x y,ji ws=some [x,y]/\D.nx ((ρ.set i (some (.d x))).set j (some (.d y)))
theorem mQ(i j:Nat){x y:Str}{py pt:Pos}{kt k2 pt2}(hc:X.calm=true)(hN:X.N.Nodup)(ha:HQ X rl [a,b] fs)
 (hw:L9 [.Tuple [.Name x px,.Name y py] kt pt] (.Tuple [a,b] k2 pt2) X.env=pure (some [x,y]):=by rfl)(hi:X.N[i]?=some x:=by rfl)(hj:X.N[j]?=some y:=by rfl)(hij:i≠j:=by decide)
 (hx:X.env.scope.names.lookup x=some .local:=by rfl)(hy:X.env.scope.names.lookup y=some .local:=by rfl)
 (hs:L8 [.Tuple [.Name x px,.Name y py] kt pt] (.Tuple [a,b] k2 pt2) pos.line X.env=pure false:=by rfl) :
 HV X rl (.Assign [.Tuple [.Name x px,.Name y py] kt pt] (.Tuple [a,b] k2 pt2) pos) (Dw i j fs):=by
 obtain⟨t,p,k⟩:=ha;refine⟨_,yY hc hN hi hj hij hx hy p hw hs,fun R Dv D ok q=>k R _ _ q fun vs ws F1 H1 g1 r1 ⟨x,y,e1,q1⟩=>?_⟩;have rs:=cJ r1 e1
 cases rs with
 | cons rx rs =>
   cases rs with
   | cons ry rs =>
     cases rs;have R1:=(R.grow g1).set (w:=.d x) (Grow.refl g1.sub g1.reel) rx trivial (fun _ z=>by cases z) i;exact⟨_,_,rfl,ok.nx _ _ _ _ g1.fs (R1.set (w:=.d y) (Grow.refl g1.sub g1.reel) ry trivial (fun _ z=>by cases z) j) q1⟩
structure VIt (K:W.Frag) (rl:RlT) (F:Hp) (J:It) (xs:List IQ):Prop where
 go:∀i H x,xs[i]?=some x->bm F H->J.go i H
 stop:∀i H,xs.length<=i->bm F H->J.stop i H
 yld:∀{r:RlT} i H v H' x F2,xs[i]?=some x->bm F F2->bm F2 H->HP r F2 H->J.yld i H v H'->∃F3,Grow r F2 H F3 H'/\Rep K F3 v x
theorem VIt.of{K:W.Frag}{rl:RlT}{J:It}(go:∀i H x,xs[i]?=some x->bm F H->J.go i H)(stop:∀i H,xs.length<=i->bm F H->J.stop i H)
 (yld:∀i H v H' x,xs[i]?=some x->bm F H->J.yld i H v H'->H'=H/\Rep K F v x):VIt K rl F J xs :=
 ⟨go,stop,fun i H v H' x F2 e s s2 ra y=>by
  obtain⟨e1,r⟩:=yld i H v H' x e (s.trans s2) y;subst e1
  exact⟨F2,Grow.refl s2 ra,r.mono s⟩⟩
def HY(X:Cx)(rl:RlT)(tg iter:Expr)(fi:En->(List IQ->Prop)->Prop):Prop:=∃wi,PI X tg iter wi/\∀{F₀ H₀ F H:Hp}{σ:St}{ρ:En},VR X.K rl F₀ H₀ F H σ ρ->∀(Qd:List IQ->Prop)(R:It->Hp->Prop),fi ρ Qd ->
 (∀J xs F' H',Grow rl F H F' H'->VIt X.K rl F' J xs->Qd xs->R J H')->wi σ H R
end
section
variable{X:Cx}{rl:RlT}{st:Stmt}{rest body:List Stmt}{t u:HD}{a b c e:Expr}{es:List Expr}{fa fb:TV}{fs:HC}{f:TB}{pos p:Pos}{tg:Expr}
def Bk(i:Nat)(t:HD):HD:=fun D ρ=>∃xs,ρ[i]?=some (some (.ml xs))/\t D (ρ.set i (some (.d (.list xs))))
theorem sB{K:W.Frag}{ρ:En}(r:VR K rl F₀ H₀ F H σ ρ){i:Nat}(e:ρ[i]?=some (some (.ml xs))):∃F1,bm F F1/\VR K rl F₀ H₀ F1 H σ (ρ.set i (some (.d (.list xs)))):=by
 obtain⟨v,h1,h2,h3⟩:=r.sl i _ e;obtain⟨a,vs,ev,f,hr,hh,q⟩:=(show eE K rl F H v xs from h2);obtain⟨F1,R1⟩:=r.freeze e;obtain⟨v',k1,k2,k3⟩:=R1.sl i _ (Jo (Jn.mp e).1);have neF:∀b u,F b=some u->b≠a:=fun b u q z=>by subst z;rw[f]at q;cases q
 have fsm:bm F (upd F a (.lst vs)):=fun b u z=>by rw[ag (neF b u z)];exact z
 have hi:i<ρ.length:=(Jn.mp e).1;refine⟨upd F a (.lst vs),fsm,r.g.freeze (h3 a ev) hh f hr,fun j w e1=>?_,R1.ap,R1.np,R1.len⟩;by_cases hj:i=j
 · subst hj;rw[Jo hi]at e1;cases e1;exact⟨v,h1,by rw[ev];exact .lst ak (q.mono fsm),trivial⟩
 · rw[Jj hj]at e1;obtain⟨u,g1,g2,g3⟩:=r.sl j w e1;refine⟨u,g1,?_,g3⟩
   cases w with
   | d x=>exact Rep.mono fsm g2
   | reel=>exact g2
   | vv u=>exact g2
   | ml ys =>
     obtain⟨b,us,eb,f1,f2,f3,f4⟩:=(show eE K rl F H u ys from g2);have ne:b≠a:=fun z=>r.ap i j _ _ v hj e e1 rfl rfl h1 (by rw[g1,eb,z,ev])
     exact⟨b,us,eb,by rw[ag ne];exact f1,f2,f3,f4.mono fsm⟩
   | pk ys=>exact absurd e1 (r.np j ys)
   | md ys =>
     obtain⟨b,us,eb,f1,f2,f3,f4⟩:=(show jY K rl F H u ys from g2);have ne:b≠a:=fun z=>r.ap i j _ _ v hj e e1 rfl rfl h1 (by rw[g1,eb,z,ev])
     exact⟨b,us,eb,by rw[ag ne];exact f1,f2,f3,Kr.mapP f4 fun _ _ z=>⟨z.1,z.2.mono fsm⟩⟩
   | mk ys =>
     obtain⟨b,us,eb,f1,f2,f3,f4⟩:=(show lH K rl F H u ys from g2);have ne:b≠a:=fun z=>r.ap i j _ _ v hj e e1 rfl rfl h1 (by rw[g1,eb,z,ev])
     exact⟨b,us,eb,by rw[ag ne];exact f1,f2,f3,Kr.mapP f4 fun _ _ z=>⟨z.1,z.2.mono fsm⟩⟩
   | nt ds=>obtain⟨b,us,eb,f1,f2⟩:=g2;exact⟨b,us,eb,fsm _ _ f1,f2.mono fsm⟩
   | lk=>trivial
   | sc ns=>obtain⟨b,eb,f1⟩:=g2;exact⟨b,eb,iF fsm f1⟩
   | fd kvs=>obtain⟨b,us,eb,f1,f2⟩:=g2;exact⟨b,us,eb,fsm _ _ f1,Kr.mapP f2 fun _ _ z=>⟨z.1,z.2.mono fsm⟩⟩
   | fw kvs=>obtain⟨b,us,o,eb,f1,f2⟩:=g2;exact⟨b,us,o,eb,fsm _ _ f1,Kr.mapP f2 fun _ _ z=>⟨z.1,z.2.mono fsm⟩⟩
   | ft kvs=>obtain⟨b,us,o,eb,f1,f2⟩:=g2;exact⟨b,us,o,eb,fsm _ _ f1,Kr.mapP f2 fun _ _ z=>⟨z.1,z.2.mono fsm⟩⟩
   | xc _ _=>obtain⟨b,dx,us,C,eb,n,f1,f3,f2⟩:=g2;exact⟨b,dx,us,C,eb,n,fsm _ _ f1,fsm _ _ f3,Kr.mapP f2 fun _ _ z=>⟨z.1,z.2.mono fsm⟩⟩
   | dp _ _=>obtain⟨c,b,us,u,o,eb,f1,f3,f2,z⟩:=g2;exact⟨c,b,us,u,o,eb,fsm _ _ f1,fsm _ _ f3,Kr.mapP f2 fun _ _ z=>⟨z.1,z.2.mono fsm⟩,z.mono fsm⟩
theorem ka(i:Nat)(h:HV X rl st t):HV X rl st (Bk i t):=by
 obtain⟨T,p,k⟩:=h;refine⟨T,p,fun R Dv D ok ⟨xs,e,q⟩=>?_⟩;obtain⟨F1,s1,R1⟩:=sB R e;exact k R1 Dv D (ok.on s1) q
def iL(fa:TV):En->(List IQ->Prop)->Prop:=fun ρ Q=>fa ρ fun w=>∃xs,w.fz = .d (.list xs)/\Q xs
def iT(fa:TV):En->(List IQ->Prop)->Prop:=fun ρ Q=>fa ρ fun w=>∃xs,w.fz = .d (.tuple xs)/\Q xs
theorem di{l:Expr}(hl:PV X rl l fa):HY X rl tg l (iL fa):=by
 obtain⟨t,p,k⟩:=hl;refine⟨_,vM p,fun R Qd Q q h=>k R _ _ q fun v w F1 H1 g1 r1 n1 ⟨xs,ew,q1⟩=>?_⟩;obtain⟨F2,g2,s2,r2⟩:=cu.fz g1 r1 n1;rw[ew]at r2
 cases(show Rep X.K F2 v (.list xs)from r2)with
 | @lst a vs _ sq rs =>
   have sqH:∀H,bm F2 H->HJ X.K H a vs:=fun H s=>.inl (.inl (s _ _ sq));refine⟨a,rfl,⟨vs,sqH H1 g2.sub⟩,h _ xs F2 H1 g2 (.of (fun i H x e s=>?_) (fun i H hl s=>⟨vs,sqH H s,by rw[rs.length];exact hl⟩) (fun i H v H' x e s y=>?_)) q1⟩
   · obtain⟨v,ev,_⟩:=rs.get e;exact⟨vs,v,sqH H s,ev⟩
   · obtain⟨e',hy⟩:=y;obtain⟨v',ev,rv⟩:=rs.get e;have:=hy vs (sqH H s);rw[ev]at this;cases this;exact⟨e',rv⟩
theorem kd{l:Expr}(hl:PV X rl l fa):HY X rl tg l (iT fa):=by
 obtain⟨t,p,k⟩:=hl;refine⟨_,za p,fun R Qd Q q h=>k R _ _ q fun v w F1 H1 g1 r1 n1 ⟨xs,ew,q1⟩=>?_⟩;obtain⟨F2,g2,s2,r2⟩:=cu.fz g1 r1 n1;rw[ew]at r2
 cases(show Rep X.K F2 v (.tuple xs)from r2)with
 | @tup a vs _ sq rs =>
   have sqH:∀H,bm F2 H->HI X.K H a vs:=fun H s=>cR s sq;refine⟨a,rfl,⟨vs,sqH H1 g2.sub⟩,h _ xs F2 H1 g2 (.of (fun i H x e s=>?_) (fun i H hl s=>⟨vs,sqH H s,by rw[rs.length];exact hl⟩) (fun i H v H' x e s y=>?_)) q1⟩
   · obtain⟨v,ev,_⟩:=rs.get e;exact⟨vs,v,sqH H s,ev⟩
   · obtain⟨e',hy⟩:=y;obtain⟨v',ev,rv⟩:=rs.get e;have:=hy vs (sqH H s);rw[ev]at this;cases this;exact⟨e',rv⟩
def aY(lo:Int)(n:Nat):List IQ:=(Jm n).map fun(i:Nat)=>.int (lo+i)
theorem gv{lo:Int}{i:Nat}{x:IQ}(h:(aY lo n)[i]?=some x):i<n/\x = .int (lo+i):=by
 unfold aY at h;rw[JY]at h;by_cases hi:i<n
 · rw[Jd (by simpa using hi)]at h;simp at h;exact⟨hi,h.symm⟩
 · rw[Nq (by simpa using hi)]at h;cases h
theorem ae{lo:Int}:(aY lo n).length=n:=by simp[aY]
theorem ij{K:W.Frag}(lo:Int)(n:Nat):VIt K rl F (Io lo n) (aY lo n) :=
 .of (fun i H x e s=>(gv e).1) (fun i H hl s=>by rw[ae]at hl;exact hl) (fun i H v H' x e s y=>by
  obtain⟨e1,e2⟩:=y;subst e2;rw[(gv e).2]
  exact⟨e1,.int _⟩)
def GS(fs:HC):En->(List IQ->Prop)->Prop:=fun ρ Q=>fs ρ fun ws=>∃j:Int,ws=[.d (.int j)]/\(-(2^62)<=j/\j<2^62)/\Q (aY 0 j.toNat)
def GR(fs:HC):En->(List IQ->Prop)->Prop:=fun ρ Q=>fs ρ fun ws=>∃i j:Int,ws=[.d (.int i),.d (.int j)]/\(-(2^62)<=i/\i<2^62 /\ -(2^62)<=j/\j<2^62)/\Q (aY i (j-i).toNat)
theorem aH(hm:X.mg "range" = none)(ha:HQ X rl [a] fs)(hg:Gl X "range" := by rfl)(hs:Jc [a] X.env=[(false,eval a X.env)]:=by rfl):HY X rl tg (.Call (.Name "range" p) [a] [] pos) (GS fs):=by
 obtain⟨t,p1,k⟩:=ha;refine⟨_,oE hg hm p1 hs,fun R Qd Q q h=>k R _ _ q fun vs ws F1 H1 g1 r1 ⟨j,ew,b,q1⟩=>?_⟩;subst ew;obtain⟨v,rfl,rv⟩:=mL r1;have e:=aB rv;subst e;exact⟨j,rfl,b.1,b.2,h _ _ F1 H1 g1 (ij 0 _) q1⟩
theorem ik(hm:X.mg "range" = none)(ha:HQ X rl [a,b] fs)(hg:Gl X "range" := by rfl)(hs:Jc [a,b] X.env=[(false,eval a X.env),(false,eval b X.env)]:=by rfl)(hs2:Jc [b] X.env=[(false,eval b X.env)]:=by rfl):HY X rl tg (.Call (.Name "range" p) [a,b] [] pos) (GR fs):=by
 obtain⟨t,p1,k⟩:=ha;refine⟨_,oD hg hm p1 hs hs2,fun R Qd Q q h=>k R _ _ q fun vs ws F1 H1 g1 r1 ⟨i,j,ew,b,q1⟩=>?_⟩;subst ew;obtain⟨v,u,rfl,rv,ru⟩:=AR r1;have e:=aB rv;have e':=aB ru;subst e e';exact⟨i,j,rfl,b,h _ _ F1 H1 g1 (ij i _) q1⟩
theorem VR.own{K:W.Frag}{F₀ H₀ F H:Hp}{σ:St}{ρ:En}(r:VR K rl F₀ H₀ F H σ ρ){i:Nat}{xs ys:List IQ}{a:Addr}{us:List V}(e:ρ[i]?=some (some (.ml xs)))(es:σ[i]?=some (some (.ref a)))(rs:Reps K F us ys) :
 VR K rl F₀ H₀ F (upd H a (.lst us)) σ (ρ.set i (some (.ml ys))):=by
 obtain⟨v,h1,h2,h3⟩:=r.sl i _ e;rw[es]at h1;cases h1;obtain⟨a',vs,ev,f,hr,hh,q⟩:=(show eE K rl F H (.ref a) xs from h2);cases ev;have n0:H₀ a=none:=h3 a rfl;have hi:i<ρ.length:=(Jn.mp e).1;have neF:∀b u,F b=some u->b≠a:=fun b u q z=>by subst z;rw[f]at q;cases q
 have g:Grow rl F₀ H₀ F (upd H a (.lst us)):=by
  refine⟨fun b o q1 n=>by rw[ag (ay q1 n0)];exact r.g.same b o q1 n,r.g.fs,fun b o q1=>by rw[ag (neF b o q1)];exact r.sub b o q1,r.g.old,fun y z=>?_⟩;obtain⟨z1,⟨u,h1,h2⟩⟩:=r.reel y z;exact⟨z1,⟨u,by rw[ag (fun q=>hr (by rw[<- q];exact z))];exact h1,h2⟩⟩
 refine⟨g,fun j w e1=>?_,fun j k ys' zs u hjk e1 e2 w1 w2 s1 s2=>?_,fun j ys' z=>?_,by simp[r.len]⟩
 · by_cases hj:i=j
   · subst hj;rw[Jo hi]at e1;cases e1;exact⟨_,es,⟨a,us,rfl,f,hr,ak,rs⟩,h3⟩
   · rw[Jj hj]at e1;obtain⟨u,g1,g2,g3⟩:=r.sl j w e1;refine⟨u,g1,?_,g3⟩
     cases w with
     | d x=>exact g2
     | reel=>exact g2
     | vv u=>exact g2
     | ml zs =>
       obtain⟨b,us',eb,f1,f2,f3,f4⟩:=(show eE K rl F H u zs from g2);have ne:b≠a:=fun z=>r.ap i j _ _ (.ref a) hj e e1 rfl rfl es (by rw[g1,eb,z])
       exact⟨b,us',eb,f1,f2,by rw[ag ne];exact f3,f4⟩
     | pk zs=>exact absurd e1 (r.np j zs)
     | md zs =>
       obtain⟨b,us',eb,f1,f2,f3,f4⟩:=(show jY K rl F H u zs from g2);have ne:b≠a:=fun z=>r.ap i j _ _ (.ref a) hj e e1 rfl rfl es (by rw[g1,eb,z])
       exact⟨b,us',eb,f1,f2,by rw[ag ne];exact f3,f4⟩
     | mk zs =>
       obtain⟨b,us',eb,f1,f2,f3,f4⟩:=(show lH K rl F H u zs from g2);have ne:b≠a:=fun z=>r.ap i j _ _ (.ref a) hj e e1 rfl rfl es (by rw[g1,eb,z])
       exact⟨b,us',eb,f1,f2,by rw[ag ne];exact f3,f4⟩
     | nt ds=>exact g2
     | lk=>trivial
     | sc _=>exact g2
     | fd _=>exact g2
     | fw _=>exact g2
     | ft _=>exact g2
     | xc _ _=>exact g2
     | dp _ _=>exact g2
 · have nd:∀(j:Nat)(z:W),(ρ.set i (some (W.ml ys)))[j]?=some (some z)->z.own=true->∃z',ρ[j]?=some (some z')/\z'.own=true:=fun j zs z o=>by
     by_cases hj:i=j
     · subst hj;exact⟨_,e,rfl⟩
     · rw[Jj hj]at z;exact⟨zs,z,o⟩
   obtain⟨_,d1,o1⟩:=nd j _ e1 w1;obtain⟨_,d2,o2⟩:=nd k _ e2 w2;exact r.ap j k _ _ u hjk d1 d2 o1 o2 s1 s2
 · rw[Kb]at z;split at z
   · first|cases z|(split at z<;>cases z)
   · exact r.np j ys' z
def A2(K:W.Frag)(rl:RlT)(r:V->List V->Hp->VK->Prop)(g:List IQ->List W->(List IQ->Prop)->Prop):Prop :=
 ∀ {F H:Hp}{a:Addr}{vs args:List V}{xs:List IQ}{ws:List W}(Qn:List IQ->Prop)(Q:VK),bm F H->H a=some (.lst vs)->Reps K F vs xs->cZ K rl F H args ws->g xs ws Qn ->
   (∀us ys,Reps K F us ys->Qn ys->Q .non (upd H a (.lst us)))->r (.ref a) args H Q
def uR(i:Nat)(g:List IQ->List W->(List IQ->Prop)->Prop)(fs:HC):HD:=fun D ρ=>∃xs,ρ[i]?=some (some (.ml xs))/\fs ρ fun ws=>g xs ws fun ys=>D.nx (ρ.set i (some (.ml ys)))
theorem sV(i:Nat){x:Str}{nm:Str}{id:String}{r:V->List V->Hp->VK->Prop}{g:List IQ->List W->(List IQ->Prop)->Prop}{apos:Pos}(slot:Slot "list" nm id)(hty:typeOf (.builtin id)=pure (.type "method_descriptor"))(hm:Ie X id r)(vm:A2 X.K rl r g)(ha:HQ X rl (e::es) fs)
 (hN:X.N[i]?=some x:=by rfl)(hv:Hw X.env.scope x:=by first|exact KH rfl|exact J8 (KH rfl)|exact J8 (J8 rfl))
 (hd:(x==("__debug__" : Str))=false:=by decide)(hcd:(x==("__classdict__" : Str))=false:=by decide)
 (hbase:Li (.Name x px) nm X.env (eval (.Name x px) X.env)=eval (.Name x px) X.env:=by rfl)
 (hfew:((KB cpos (Jc (e::es) X.env)).all (fun x=>!x.1)&&(Nn cpos (LW [] X.env)).all (fun x=>x.1.isSome)
  && decide ((e::es).length+([]:List LG).length+(if([]:List LG).isEmpty then 0 else 1)<30))=true:=by rfl)
 (hline:(apos.endLine==cpos.line)=true:=by rfl)(hs:Jc (e::es) X.env=(false,eval e X.env)::Jc es X.env:=by rfl)(hplain:(KB cpos (Jc es X.env)).any (·.1)=false:=by rfl)
 (hsw:K4 (.Call (.Attribute (.Name x px) nm apos) (e::es) [] cpos) none pos.line X.env=pure false:=by rfl) :
 HV X rl (.Expr (.Call (.Attribute (.Name x px) nm apos) (e::es) [] cpos) pos) (uR i g fs):=by
 obtain⟨t,p1,k⟩:=ha;refine⟨_,oy (rA Mc slot hty hm (bI hN hv hd hcd) p1 hbase hfew hline hs hplain) hsw,fun{F₀ H₀ F H σ ρ} R Dv D ok ⟨xs,e1,q⟩=>?_⟩;obtain⟨v,h1,h2,h3⟩:=R.sl i _ e1;obtain⟨a,vs,rfl,f,hr,hh,rs⟩:=(show eE X.K rl F H v xs from h2);refine⟨.ref a,h1,.inl ⟨rfl,vs,.inl (.inl hh)⟩,k R _ _ q fun args ws F1 H1 g1 r1 q1=>?_⟩;refine vm _ _ g1.sub (g1.same a _ hh hr) (rs.mono g1.fs) r1 q1 fun us ys r2 q2=>?_;exact ok.nx _ _ _ _ g1.fs ((R.grow g1).own e1 h1 r2) q2
def z0:List IQ->List W->(List IQ->Prop)->Prop:=fun xs ws Q=>∃x,ji ws=some [x]/\xs.length<sizeLine/\Q (xs++[x])
theorem sW{K:W.Frag}:A2 K rl ot z0:=fun{F H a vs args xs ws} Qn Q s ha rs ra ⟨x,e,z,q⟩ k=>by
 have r2:=cJ ra e
 cases r2 with
 | cons rx r3 =>
   cases r3;exact⟨a,vs,_,rfl,rfl,ha,by rw[rs.length];exact z,k _ _ (rs.snoc rx) q⟩
def AX:List IQ->List W->(List IQ->Prop)->Prop:=fun xs ws Q=>∃ys,ji ws=some [.list ys]/\xs.length+ys.length<=sizeLine/\Q (xs++ys)
theorem xU{K:W.Frag}:A2 K rl oq AX:=fun{F H a vs args xs ws} Qn Q s ha rs ra ⟨ys,e,z,q⟩ k=>by
 have r2:=cJ ra e
 cases r2 with
 | cons rx r3 =>
   cases r3
   cases rx with
   | lst hb ry=>exact⟨a,_,vs,_,rfl,rfl,ha,s _ _ hb,by rw[rs.length,ry.length];exact z,k _ _ (rs.append ry) q⟩
theorem d9(i:Nat){x:Str}{apos:Pos}(ha:HQ X rl [e] fs)(hN:X.N[i]?=some x:=by rfl)(hv:Hw X.env.scope x:=by first|exact KH rfl|exact J8 (KH rfl)|exact J8 (J8 rfl))
 (hd:(x==("__debug__" : Str))=false:=by decide)(hcd:(x==("__classdict__" : Str))=false:=by decide)
 (hbase:Li (.Name x px) "append" X.env (eval (.Name x px) X.env)=eval (.Name x px) X.env:=by rfl)
 (hfew:((KB cpos (Jc [e] X.env)).all (fun x=>!x.1)&&(Nn cpos (LW [] X.env)).all (fun x=>x.1.isSome)
  && decide (([e]).length+([]:List LG).length+(if([]:List LG).isEmpty then 0 else 1)<30))=true:=by rfl)
 (hline:(apos.endLine==cpos.line)=true:=by rfl)(hs:Jc [e] X.env=(false,eval e X.env)::Jc [] X.env:=by rfl)(hplain:(KB cpos (Jc [] X.env)).any (·.1)=false:=by rfl)
 (hsw:K4 (.Call (.Attribute (.Name x px) "append" apos) [e] [] cpos) none pos.line X.env=pure false:=by rfl) :
 HV X rl (.Expr (.Call (.Attribute (.Name x px) "append" apos) [e] [] cpos) pos) (uR i z0 fs) :=
 sV i Ox Oy dC sW ha hN hv hd hcd hbase hfew hline hs hplain hsw
def cY:W->Bool
 | .ml _=>false
 | .md _=>false
 | .mk _=>false
 | .pk _=>false
 | _=>true
def Fa(K:W.Frag)(rl:RlT)(P:List W->(IQ->Prop)->Prop):Sp:=fun vs H Q _=>∃F ws,bm F H/\HP rl F H/\cZ K rl F H vs ws/\ws.all cY=true/\P ws fun d=>∀v F' H',Grow rl F H F' H'->Rep K F' v d->Q v H'
def ck(N:List Str)(ws:List W):En:=ws.map some++Jp (N.length-ws.length) none
theorem iI{K:W.Frag}{F H:Hp}:∀{vs:List V}{ws:List W}{i:Nat}{w:W},cZ K rl F H vs ws->ws[i]?=some w->∃v,vs[i]?=some v/\cu K rl F H v w
 | _,_,_,_,.nil,e=>by simp at e
 | _,_,0,_,.cons h _,e=>by simp at e;subst e;exact⟨_,rfl,h⟩
 | _,_,i+1,w,.cons _ r,e=>by
   obtain⟨v,h1,h2⟩:=iI (i:=i) (w:=w) r (by simpa using e);exact⟨v,by simpa using h1,h2⟩
theorem iw{N:List Str}{ws:List W}{i:Nat}{w:W}(h:(ck N ws)[i]?=some (some w)):ws[i]?=some w:=by
 unfold ck at h;by_cases hi:i<ws.length
 · rw[LU (by simpa using hi),JY]at h
   cases q:ws[i]? with
   | none=>rw[q]at h;cases h
   | some x=>rw[q]at h;cases h;rfl
 · rw[Mx (by simpa using hi),MR]at h;split at h<;>cases h
theorem cx{K:W.Frag}{N:List Str}{ws:List W}(s:bm F H)(ra:HP rl F H)(r:cZ K rl F H vs ws)(ok:ws.all cY=true):VR K rl F H F H (start N vs) (ck N ws):=by
 have hl:vs.length=ws.length:=JU r;have no:∀(i:Nat) w,(ck N ws)[i]?=some (some w)->cY w=true:=fun i w e=>(Lo.mp ok) w (NA (iw e));refine⟨Grow.refl s ra,fun i w e=>?_,fun i j xs ys v _ e1 _ o _ _ _=>(by have:=no i _ e1;cases xs<;>first|exact Nw o|exact Nw this),fun i xs e=>(by have:=no i _ e;cases this),?_⟩
 · obtain⟨v,h1,h2⟩:=iI r (iw e);refine⟨v,?_,h2,?_⟩
   · unfold start;rw[LU (by simpa using(Jn.mp h1).1),JY,h1];rfl
   · have:=no i w e
     cases w with
     | ml xs=>cases this
     | md xs=>cases this
     | mk xs=>cases this
     | nt _=>trivial
     | lk=>trivial
     | sc _=>trivial
     | fd _=>trivial
     | fw _=>trivial
     | ft _=>trivial
     | xc _ _=>trivial
     | dp _ _=>trivial
     | d _=>trivial
     | pk _=>trivial
     | reel=>trivial
     | vv _=>trivial
 · unfold ck start;simp[hl]
def lM(Q:IQ->Prop):VEnds:=⟨fun _=>Q .none,fun w=>∃d,w.fz = .d d/\Q d,fun _=>False,fun _=>False⟩
theorem Fb{w:Kh}{K:W.Frag}{mg:Str->Option I0}{x qual:Str}{st:Stmt}{fa:Addr}{N ps:List Str}{k:Nat}{Pd:List W->(IQ->Prop)->Prop}{t:HD}
 (Fn:Fun K x qual st fa fd)(S:FnScope N ps (defScope st))(len:∀ws Q,Pd ws Q->ws.length=ps.length)
 (hbody:∀(cdv:I0)(A:Ko)(outer:List Env)(s:Ja)(H:Hp)(E:XK),Room k (A.deeper (NL qual (defScope st) s.heap.objs.size fa cdv)) ->
  jk (lu IE P w K mg base N qual (defScope st) fa cdv A outer s H E).nox rl (defBody st) t)
 (hread:∀ws Q,Pd ws Q->t (lM Q) (ck N ws)):FnOk P w K mg base IE (k+1) fa fd ps (Fa K rl Pd):=by
 refine Fn.ok S (fun vs H Q E ⟨F,ws,_,_,r,_,q⟩=>(JU r).trans (len ws _ q)) fun cdv A outer s H vs Q E hr h=>?_;obtain⟨F,ws,sm,ra,r,ok,q⟩:=h;obtain⟨T,p,kk⟩:=hbody cdv A outer s H E hr;refine⟨T,p,kk (cx sm ra r ok) (lM _) _ ⟨?_,?_,fun _ _ _ _ _ _ z=>JR z,fun _ _ _ _ _ _ z=>JR z⟩ (hread ws _ q)⟩
 · intro F1 H1 σ1 ρ1 _ R1 q1;exact q1 .non F1 H1 R1.g .non
 · rintro v w1 F1 H1 g1 r1 n1 ⟨d,ed,q1⟩;obtain⟨F2,g2,s2,r2⟩:=cu.fz g1 r1 n1;rw[ed]at r2;exact q1 v F2 H1 g2 r2
structure Dfn (P:Ju) (w:Kh) (K:W.Frag) (mg:Str->Option I0) (base:Heap) (rl:RlT) (x:Str) (ps:List Str) (k:Nat) (Pd:List W->(IQ->Prop)->Prop):Prop where
 mono:∀ws Q Q',(∀d,Q d->Q' d)->Pd ws Q->Pd ws Q'
 ex:∃f fd,mg x=some (.ref f)/\W.keepIn K (.ref f)=true/\Binds K fd ps []/\FnOk P w K mg base IE k f fd ps (Fa K rl Pd)
def Bc(Pd:List W->(IQ->Prop)->Prop)(fs:HC):TV:=fun ρ Q=>fs ρ fun ws=>ws.all cY=true/\Pd ws fun d=>Q (.d d)
theorem bo{x:Str}{ps:List Str}{k:Nat}{Pd:List W->(IQ->Prop)->Prop}(D:Dfn X.prog X.w X.K X.mg X.base rl x ps k Pd)(hr:Room k X.A)(ha:HQ X rl (e::es) fs)(hg:Gl X x:=by rfl)
 (hdb:(x==("__debug__" : Str))=false:=by decide)(he:Jc (e::es) X.env=(false,eval e X.env)::Jc es X.env:=by rfl)(hpl:(KB pos (Jc es X.env)).any (·.1)=false:=by rfl) :
 PV X rl (.Call (.Name x p) (e::es) [] pos) (Bc Pd fs):=by
 obtain⟨f,fd,hm,hk,hb,F⟩:=D.ex;obtain⟨t,p1,kk⟩:=ha;refine⟨_,fD F hr hg hm hk hb .nil oK p1 hdb he hpl,fun R Qd Q q h=>kk R _ _ q fun vs ws F1 H1 g1 r1 ⟨ok,q1⟩=>?_⟩;refine⟨F1,ws,g1.sub,g1.reel,by rw[Kl];exact r1,ok,?_⟩;exact D.mono ws _ _ (fun d qd v F2 H2 g2 r2=>h v (.d d) F2 H2 (g1.trans g2) r2 trivial qd) q1
end
end L2.VL
variable{rl:L2.VL.RlT}{ρ:L2.VL.En}{fi:L2.VL.En->(List IQ->Prop)->Prop}
namespace L2
theorem dZ{env:Env}:∀(names:List (Str×MQ))(acc:List (Str×Addr)),(∀x∈names,x.2 = .free->∃c,env.cells.lookup x.1=some c)->(∀x c,acc.lookup x=some c->env.cells.lookup x=some c) ->
 ∃ cl,(forIn names acc (fun(x:Str×MQ)(cs:List (Str×Addr))=>if(x.2==Ks)=true then do let c <- cellOf env x.1;pure (Mr ((x.1,c)::cs))else pure (Mr cs)):Sem (List (Str×Addr)))=pure cl /\
   (∀x c,cl.lookup x=some c->env.cells.lookup x=some c)/\(∀x,(acc.lookup x).isSome=true->(cl.lookup x).isSome=true)/\∀x,(x,Ks)∈names->(cl.lookup x).isSome=true
 | [],acc,_,h2=>⟨acc,rfl,h2,fun _ z=>z,fun _ z=>nomatch z⟩
 | (n,k)::r,acc,h1,h2=>by
   by_cases hk:k = .free
   · subst hk;obtain⟨c,hc⟩:=h1 (n,.free) IV rfl
     have h2':∀x c',((n,c)::acc).lookup x=some c'->env.cells.lookup x=some c':=fun x c' z=>by
      rw[Kq]at z
      cases e:x==n with
      | true =>
        rw[e]at z;have e':x=n:=by simpa using e
        cases z;rw[e']
        exact hc
      | false =>
        rw[e]at z;exact h2 x c' z
     obtain⟨cl,e,g1,g2,g3⟩:=dZ r ((n,c)::acc) (fun x hx=>h1 x (IT _ hx)) h2';refine⟨cl,?_,g1,fun x z=>g2 x ?_,fun x z=>?_⟩
     · rw[MV];simp only[beq_self_eq_true,if_true];have e0:cellOf env n=pure c:=by unfold cellOf;rw[hc]
       rw[e0,pure_bind,pure_bind];exact e
     · rw[Kq];split
       · rfl
       · exact z
     · rcases JA.mp z with z|z
       · cases z;refine g2 _ ?_;rw[Kq];simp
       · exact g3 x z
   · obtain⟨cl,e,g1,g2,g3⟩:=dZ r acc (fun x hx=>h1 x (IT _ hx)) h2;refine⟨cl,?_,g1,g2,fun x z=>?_⟩
     · rw[MV];have hb:(k==Ks)=false:=by simpa using hk
       simp only[hb,LM,if_false];rw[pure_bind];exact e
     · rcases JA.mp z with z|z
       · cases z;exact absurd rfl hk
       · exact g3 x z
theorem b9{env:Env}(h:∀x∈scope.names,x.2 = .free->∃c,env.cells.lookup x.1=some c) :
 ∃cl,closureFor scope env=pure cl/\(∀x c,cl.lookup x=some c->env.cells.lookup x=some c)/\∀x,(x,Ks)∈scope.names->(cl.lookup x).isSome=true:=by
 obtain⟨cl,e,g1,_,g3⟩:=dZ scope.names [] h (fun _ _ z=>by cases z);refine⟨cl,?_,g1,g3⟩;unfold closureFor
 first
  | exact e
  | (simp only[bind_pure];exact e)
theorem eA{env:Env}{x:Str}(h:(QH scope env).names.lookup x=some .cell\/(QH scope env).names.lookup x=some .free):(x,Ks)∈scope.names\/(x,Lj)∈scope.names:=by
 have key:∀names:List (Str×MQ),∀k,(k = .cell\/k = .free) ->
  (names.map fun(n,k)=>if(k==Ks&&env.scope.kind == .function&&env.kindOf n==some .cell)then(n,Lj)else(n,k)).lookup x=some k->(x,Ks)∈names\/(x,Lj)∈names:=by
  intro names
  induction names with
  | nil=>intro k _ z;cases z
  | cons y r ih =>
    intro k hk z;obtain⟨n,kn⟩:=y;have step:((x,Ks)∈r\/(x,Lj)∈r)->((x,Ks)∈(n,kn)::r\/(x,Lj)∈(n,kn)::r):=fun z=>z.imp (IT _) (IT _);rw[Ji]at z;dsimp only at z;by_cases hc:(kn==Ks&&env.scope.kind == .function&&env.kindOf n==some .cell)=true
    · rw[if_pos hc,Kq]at z
      have hf:kn = .free:=by
       have:=(Je.mp (Je.mp hc).1).1;simpa using this
      cases e:x==n with
      | true =>
        have e':x=n:=by simpa using e
        rw[e',<- hf]
        exact .inl IV
      | false =>
        rw[e]at z;exact step (ih k hk z)
    · rw[if_neg hc,Kq]at z
      cases e:x==n with
      | true =>
        rw[e]at z;have e':x=n:=by simpa using e
        cases z;rcases hk with hk|hk
        · rw[e',hk];exact .inr IV
        · rw[e',hk];exact .inl IV
      | false =>
        rw[e]at z;exact step (ih k hk z)
 rcases h with h|h
 · exact key scope.names .cell (.inl rfl) h
 · exact key scope.names .free (.inr rfl) h
theorem aG:∀(names:List (Str×MQ))(n:Nat)(acc:List (Str×Addr)),Kw n names acc=Kw n names []++acc
 | [],_,_=>rfl
 | (x,k)::r,n,acc=>by
   unfold Kw;split
   · rw[aG r (n+1) ((x,n)::acc),aG r (n+1) [(x,n)],Ov];rfl
   · exact aG r n acc
theorem bV{x:Str}{c:Addr}:∀{names:List (Str×MQ)}{n:Nat},(x,c)∈Kw n names []->(x,Lj)∈names
 | (y,k)::r,n,h=>by
   unfold Kw at h;split at h
   · rename_i hk;rw[aG]at h;rcases J3.mp h with h|h
     · exact IT _ (bV h)
     · simp at h;have:k = .cell:=by simpa using hk
       rw[h.1,this];exact IV
   · exact IT _ (bV h)
theorem bX{a b:List (Str×Addr)}{x:Str}:(a++b).lookup x=(a.lookup x).or (b.lookup x):=by
 induction a with
 | nil=>simp
 | cons y a ih =>
   obtain⟨n,c⟩:=y;rw[Nx,Kq,Kq];cases x==n<;>simp[ih]
theorem fF{M:Model}{globals:Addr}{cl:List (Str×Addr)}{qual:Str}{o:Env}{Q:Env->Ja->Prop}
 (hQ:Q {scope,locals:=s.heap.objs.size,globals,cells:=Kw (s.heap.objs.size+1) scope.names cl,qual,func:=none,code:=o.code,frame:=o.frame,builtins:=o.builtins} {s with heap:=Oz (s.heap.push {cls:=.type "dict", data:=.dict #[]}) scope.names}) :
 Jr M A (No scope globals cl [] qual none .none (some o)) Q E s:=by
 simp only[No,N8,if_true];refine IR (wpAny_alloc ?_);refine IR (wpAny_layCells _ (fun name kind cells=>by cases hkc:kind==Lj<;>simp[hkc]) _ _ _ _ ?_);rw[show({s with heap:=s.heap.push {cls:=.type "dict", data:=.dict #[]}}:Ja).heap.objs.size=s.heap.objs.size+1 from KC ..];exact IR (IZ (IZ hQ))
def aR(X:Cx)(N':List Str)(scope:Scope)(cl:List (Str×Addr))(fp:List Addr)(pn:List (Addr×Obj))(s:Ja)(H:Hp):Cx :=
 {X with N:=N',s₀:=s,H₀:=H,env:={compEnvC scope cl s.heap.objs.size X.env with cells:=Kw (s.heap.objs.size+1) scope.names cl},outer:=X.stack,ex:=fp,fn:=fun x=>scope.names.lookup x==some .cell,pn:=pn,xe:=fun _ _=>False}
abbrev dj(ifs:List Expr)(env:Env):Sem Bool:=forIn ifs true fun c r=>if r=true then do let ok <- isTrue c env (eval c env);pure (Mr ok)else pure (Mr r)
def HS(X:Cx)(ifs:List Expr)(t:TT):Prop :=
 ∀(pins:List (Addr×Obj))(s:Ja)(σ:St)(H:Hp)(Q:Bool->Hp->Prop),Inv X pins σ H s->t σ H Q->Jr (JE X.prog X.w) X.A (dj ifs X.env) (TP X pins σ Q) X.xe s
theorem jA:HS X [] (fun _ H Q=>Q true H):=fun _ _ _ H _ I h=>wpAny_tests_nil ⟨H,I,h⟩
theorem vB{c:Expr}{t:TT}(h:PT X c t):HS X [c] t:=fun pins s σ H Q I hw=>wpAny_tests_one (h pins s σ H Q I hw)
theorem pK{prog:Ju}{w:Kh}{R:Qt->Ja->Prop}{elt target:Expr}{it acc:I0}{env:Env}(I:Nat->Ja->Prop)
 (turn:∀n s,I n s->Jr (JE prog w) A (NJ it) (fun r s₁=>(r=none/\R (.ok .next) s₁)\/∃v,r=some v /\
  Jr (JE prog w) A (Ll target it v) (fun _ s₂=>Jr (JE prog w) A (L0 target env v) (fun _ s₃=>Jr (JE prog w) A (dj ifs env) (fun ok s₄ =>
   if ok=true then Jr (JE prog w) A (eval elt env) (fun x s₅=>Jr (JE prog w) A (call (.builtin "list.append") [acc,x]) (fun _ s₆=>∃m,m<n/\I m s₆) (fun _ _=>False) s₅) (fun _ _=>False) s₄
   else ∃m,m<n/\I m s₄) (fun _ _=>False) s₃) (fun _ _=>False) s₂) (fun _ _=>False) s₁) (fun _ _=>False) s)
 (n:Nat)(h:I n s):LF (JE prog w) A (.compLoop (.ListComp elt [⟨target,iter,ifs,0⟩] scope pos) 0 it acc env) R s:=by
 refine Pa rfl I (fun n s hI=>?_) n h;show Jr _ A ((P4 (.ListComp elt [⟨target,iter,ifs,0⟩] scope pos) 0 it acc env).onRaise (fun x=>do P5 x env;NM x)) _ _ s;refine PQ ?_;rw[compTurn_list];refine IR (K7 (IR (JO (turn n s hI) (fun r s₁ h₁=>?_) fun _ _ h'=>h'.elim)));rcases h₁ with⟨rfl,h₁⟩|⟨v,rfl,h₁⟩
 · exact IZ h₁
 · refine IR (JO h₁ (fun _ s₂ h₂=>IR (JO h₂ (fun _ s₃ h₃=>IR (JO h₃ (fun ok s₄ h₄=>?_) fun _ _ z=>z.elim)) fun _ _ z=>z.elim)) fun _ _ z=>z.elim)
   cases ok with
   | false=>exact IZ ⟨rfl,h₄⟩
   | true=>exact IR (IR (JO h₄ (fun x s₅ h₅=>IR (JO h₅ (fun _ s₆ h₆=>IZ (IZ ⟨rfl,h₆⟩)) fun _ _ z=>z.elim)) fun _ _ z=>z.elim))
def jO(fr:List (Option Nat))(σ:St):St:=fr.map fun o=>o.bind fun j=>(σ[j]?).join
def mC(fr:List (Option Nat))(N' N:List Str)(sc scX:Scope):Bool :=
 decide (fr.length=N'.length)&&(Jm fr.length).all fun i=>match fr[i]? with
  | some (some j)=>match N'[i]? with
    | some x=>decide (N[j]?=some x)&&decide (sc.names.lookup x=some .free)&&(decide (scX.names.lookup x=some .cell)||decide (scX.names.lookup x=some .free))
    | none=>false
  | _=>true
def mK(sc scX:Scope):Bool :=
 decide (sc.kind = .function)&&sc.names.all fun y=>(decide (y.2 ≠ .cell)||decide (sc.names.lookup y.1=some .cell))&&(decide (y.2 ≠ .local)||decide (sc.names.lookup y.1=some .local)) &&
  (decide (y.2 ≠ .free)||(decide (scX.names.lookup y.1=some .cell)||decide (scX.names.lookup y.1=some .free)))
theorem mC.get{fr:List (Option Nat)}{N' N:List Str}{sc scX:Scope}(h:mC fr N' N sc scX=true):fr.length=N'.length/\∀(i j:Nat),fr[i]?=some (some j)->∃x,N'[i]?=some x/\N[j]?=some x/\sc.names.lookup x=some .free/\(scX.names.lookup x=some .cell\/scX.names.lookup x=some .free):=by
 unfold mC at h;obtain⟨h1,h2⟩:=Je.mp h;refine⟨of_decide_eq_true h1,fun i j e=>?_⟩;have hi:i<fr.length:=(Jn.mp e).1;have q:=Lo.mp h2 i (Kd.mpr hi);rw[e]at q;dsimp only at q
 cases en:N'[i]? with
 | none=>rw[en]at q;cases q
 | some x =>
   rw[en]at q;dsimp only at q;obtain⟨q1,q2⟩:=Je.mp q;obtain⟨q3,q4⟩:=Je.mp q1;exact⟨x,rfl,of_decide_eq_true q3,of_decide_eq_true q4,(Jx.mp q2).imp of_decide_eq_true of_decide_eq_true⟩
theorem gE{x:Str}{k:MQ}:∀{names:List (Str×MQ)},names.lookup x=some k->(x,k)∈names:=fun h=>J6 h
structure CompA where
 cl:List (Str×Addr)
 fp:List Addr
 pn:List (Addr×Obj)
 s:Ja
 H:Hp
abbrev blk(X:Cx)(N':List Str)(scope:Scope)(y:CompA):Cx:=aR X N' scope y.cl y.fp y.pn y.s y.H
def qM(wi:TI)(fr:List (Option Nat))(g:CompA->TG)(tt:CompA->TT)(te:CompA->TE):TE:=fun σ H Q=>wi σ H fun J H1=>∀D,H1 D=none->∃Wv:Nat->Nat->List V->St->Hp->Prop,(∃m,Wv 0 m [] (jO fr σ) (upd H1 D (.lst []))) /\
 ∀ (z:CompA) i m acc σc H,Wv i m acc σc H->(J.stop i H/\Q (.ref D) H)\/(J.go i H/\∀x H',J.yld i H x H'->g z x σc H' fun σ2 H2=>tt z σ2 H2 fun b H3 =>
   if b=true then te z σ2 H3 fun y H4=>H4 D=some (.lst acc)/\acc.length<sizeLine/\∃m',m'<m/\Wv (i+1) m' (acc++[y]) σ2 (upd H4 D (.lst (acc++[y])))else ∃m',m'<m/\Wv (i+1) m' acc σ2 H3)
theorem cS{env:Env}:∀{names:List (Str×MQ)}{x:Str},names.lookup x=some .free ->
 (names.map fun(n,k)=>if(k==Ks&&env.scope.kind == .function&&env.kindOf n==some .cell)then(n,Lj)else(n,k)).lookup x=some .cell \/
 (names.map fun(n,k)=>if(k==Ks&&env.scope.kind == .function&&env.kindOf n==some .cell)then(n,Lj)else(n,k)).lookup x=some .free
 | [],_,h=>by simp at h
 | (n,k)::r,x,h=>by
   have ih:=@cS env r x;rw[Ji];dsimp only
   cases hx:x==n with
   | true =>
     simp only[Kq,hx]at h;cases h;by_cases hc:((Ks==Ks)&&env.scope.kind == .function&&env.kindOf n==some .cell)=true
     · rw[if_pos hc];simp[Kq,hx]
     · rw[if_neg hc];simp[Kq,hx]
   | false =>
     simp only[Kq,hx]at h;by_cases hc:(k==Ks&&env.scope.kind == .function&&env.kindOf n==some .cell)=true
     · rw[if_pos hc];simp only[Kq,hx];exact ih h
     · rw[if_neg hc];simp only[Kq,hx];exact ih h
theorem fP{ex:Expr}{H3:Hp}{s3:Ja}{D:Addr}{J:It}{Q:VK}
 {cl:List (Str×Addr)}(N':List Str)(fr:List (Option Nat))(hc:X.calm=true)(hkind:scope.kind = .function)(hcell:∀y∈scope.names,y.2 = .cell->scope.names.lookup y.1=some .cell)
 (hfree:∀y∈scope.names,y.2 = .free->X.env.kindOf y.1=some .cell\/X.env.kindOf y.1=some .free)(frl:fr.length=N'.length)
 (frg:∀(i j:Nat),fr[i]?=some (some j)->∃x,N'[i]?=some x/\X.N[j]?=some x/\scope.names.lookup x=some .free/\(X.env.scope.names.lookup x=some .cell\/X.env.scope.names.lookup x=some .free))
 (cl1:∀x c,cl.lookup x=some c->X.env.cells.lookup x=some c)(cl2:∀x,(x,Ks)∈scope.names->(cl.lookup x).isSome=true)
 (I3:Inv X pins σ H3 s3)(T:Turn X.prog X.w X.K tg J fp it tn)(tn3:tn 0 s3.heap)(fpD:∀b∈fp,H3 b=none)(fp3:∀b∈fp,b<s3.heap.objs.size)
 (fpk:∀b∈fp,b≠X.env.locals/\b∉X.fs/\(b∈X.ex\/X.s₀.heap.objs.size<=b)/\(∀x c,X.env.cells.lookup x=some c->c≠b)/\∀p∈X.pn++pins,p.1≠b)
 (loop:∀s',Inv (aR X N' scope cl fp (X.pn++pins) s3 H3) [] (jO fr σ) H3 s'->tn 0 s'.heap->(∀{H':Hp},(∀b∈fp,H' b=none)->∀b∈fp,jf (aR X N' scope cl fp (X.pn++pins) s3 H3) [] H' b) ->
  LF (JE X.prog X.w) X.A (.compStart ex 0 (.ref it) (.ref D) (aR X N' scope cl fp (X.pn++pins) s3 H3).env) (fun r s5=>r = .ok .next/\∃σ5 H4,Inv (aR X N' scope cl fp (X.pn++pins) s3 H3) [] σ5 H4 s5/\Q (.ref D) H4) s')
 (fin:∀s5 H4 m,s5.heap.Ns s3.heap.objs.size m->(∀h',Lu s3.heap.objs.size s5.heap h'->Inv X pins σ H4 {s5 with heap:=h' })->jf X pins H4 s3.heap.objs.size->Q (.ref D) H4->Rp s3.heap.objs.size (.ok .next) s5) :
 Jr (JE X.prog X.w) X.A (No scope X.env.globals cl [] X.env.qual none .none (some X.env)) (fun cenv s₄ =>
  LF (JE X.prog X.w) X.A (.compStart ex 0 (.ref it) (.ref D) {cenv with scope:=QH scope X.env})
   (Rp cenv.locals) s₄) X.xe s3:=by
 refine fF ?_;have ok:=cellsFrom_ok scope.names (s3.heap.push {cls:=.type "dict", data:=.dict #[]}) (s3.heap.objs.size+1) [] ⟨fun _ _ hm=>(nomatch hm),Ow⟩ (by rw[KC];exact Jb _);rw[KC]at ok;have kp:∀b o,s3.heap.get? b=some o->(Oz (s3.heap.push {cls:=.type "dict", data:=.dict #[]}) scope.names).get? b=some o:=fun b o e=>NN _ _ b o (IW _ e);have hns₁:(Oz (s3.heap.push {cls:=.type "dict", data:=.dict #[]}) scope.names).Ns s3.heap.objs.size (fun _=>none):=(Heap.Ns.new s3.heap (.type "dict")).keeps (NN _ _);generalize Oz (s3.heap.push {cls:=.type "dict", data:=.dict #[]}) scope.names=h₁ at ok kp hns₁ ⊢
 have cs:∀x c,(Kw (s3.heap.objs.size+1) scope.names cl).lookup x=some c->(Kw (s3.heap.objs.size+1) scope.names []).lookup x=some c\/cl.lookup x=some c:=fun x c e=>by
  rw[aG,bX]at e
  cases q:(Kw (s3.heap.objs.size+1) scope.names []).lookup x with
  | none=>rw[q]at e;exact .inr (by simpa using e)
  | some c'=>rw[q]at e;exact .inl (by simpa using e)
 have own:∀x c,(Kw (s3.heap.objs.size+1) scope.names []).lookup x=some c->h₁.IsCell c none/\s3.heap.objs.size+1<=c:=fun x c e=>ok.empty x c (J6 e)
 have clt:∀x c,cl.lookup x=some c->c<s3.heap.objs.size:=fun x c e=>by
  obtain⟨v,o,ho,_⟩:=I3.cell x c (cl1 x c e);exact Jg ho
 have frn:∀x,scope.names.lookup x=some .free->(Kw (s3.heap.objs.size+1) scope.names []).lookup x=none:=fun x e=>by
  cases q:(Kw (s3.heap.objs.size+1) scope.names []).lookup x with
  | none=>rfl
  | some c =>
    have:=hcell (x,.cell) (bV (J6 q)) rfl;rw[e]at this;cases this
 have notC:∀b o,s3.heap.get? b=some o->b≠s3.heap.objs.size:=fun b o e=>JS (Jg e);have fpstk:∀b∈fp,b∉frs X.stack:=fun b hb z=>(JA.mp (I3.stkSub b z)).elim (fpk b hb).1 (fpk b hb).2.1;have cellK:∀c v,s3.heap.IsCell c v->h₁.IsCell c v:=fun c v ⟨o,ho,hd⟩=>⟨o,kp c o ho,hd⟩
 have IY:Inv (aR X N' scope cl fp (X.pn++pins) s3 H3) [] (jO fr σ) H3 {s3 with heap:=h₁}:=by
  refine⟨⟨I3.ok.mod,hkind,I3.ok.glob,I3.ok.blt,Jb _,fun x y c e1 e2=>?_,fun x hx=>?_,fun x c _ e=>?_,I3.ok.hd,I3.ok.frames,.inl rfl,
   fun b hb=>⟨JS (fp3 b hb),fun x c e=>?_⟩,I3.bs,JF I3.ok.bsz I3.sz,fun b o e hb=>?_,fun b hb=>fpstk b hb,I3.stack,I3.stkFree⟩,
   rfl,I3.bare,Un.kept kp,⟨_,hns₁,fun i x v e1 e2 e3=>?_⟩,fun x c e=>?_,I3.hok.fresh (Jb _),fun x c e=>?_,fun p hp=>?_,I3.hok.kept kp,?_⟩
  · rcases cs x c e1 with q1|q1<;>rcases cs y c e2 with q2|q2
    · exact Qc ok.apart (J6 q1) (J6 q2)
    · exact absurd (Jh (clt y c q2) (KU (own x c q1).2)) (Ki _)
    · exact absurd (Jh (clt x c q1) (KU (own y c q2).2)) (Ki _)
    · exact I3.ok.inj x y c (cl1 x c q1) (cl1 y c q2)
  · refine KP.mp ?_;show((Kw (s3.heap.objs.size+1) scope.names cl).lookup x).isSome=true;rcases eA hx with q|q
    · exact W.cellsFrom_some _ _ _ (.inr (cl2 x q))
    · exact W.cellsFrom_some _ _ _ (.inl (hcell _ q rfl))
  · rename_i hfn;rcases cs x c e with q|q
    · have:=(own x c q).2;show s3.heap.objs.size<=c;omega
    · have hfn:(scope.names.lookup x==some Lj)=true:=hfn;have hl:scope.names.lookup x=some .cell:=by simpa using hfn
      obtain⟨c',ec'⟩:=KP.mp (W.cellsFrom_some scope.names (s3.heap.objs.size+1) [] (.inl hl));have e':(Kw (s3.heap.objs.size+1) scope.names cl).lookup x=some c:=e;rw[aG,bX,ec']at e';simp at e';subst e';exact KU (own x c' ec').2
  · rcases cs x c e with q|q
    · exact fun z=>absurd (Jh (fp3 b hb) (KU (by rw[<- z];exact(own x c q).2))) (Ki _)
    · exact(fpk b hb).2.2.2.1 x c (cl1 x c q)
  · rcases(fpk b hb).2.2.1 with z|z
    · exact I3.ok.noex b o e z
    · exact absurd (Jh (Jg e) (JF I3.ok.bsz z)) (Ki _)
  · have e2':(fr[i]?).map (fun o=>o.bind fun j=>(σ[j]?).join)=some (some v):=by unfold jO at e2;rw[JY]at e2;exact e2
    cases ef:fr[i]? with
    | none=>rw[ef]at e2';cases e2'
    | some o =>
      cases o with
      | none=>rw[ef]at e2';cases e2'
      | some j =>
        rw[ef]at e2';have e3':(σ[j]?).join=some v:=JK e2'
        have e4:σ[j]?=some (some v):=by
         cases q:σ[j]? with
         | none=>rw[q]at e3';cases e3'
         | some z=>rw[q]at e3';cases e3';rfl
        obtain⟨x',n1,n2,n3,n4⟩:=frg i j ef;have ex:x'=x:=JK (n1.symm.trans e1);subst ex;obtain⟨m,hn,hl⟩:=I3.loc;obtain⟨u,ru,lk⟩:=hl j x' v n2 e4 (n4.elim (fun z=>.inr (.inl z)) fun z=>.inr (.inr z));refine⟨u,ru,?_⟩;rcases lk with⟨kl,_⟩|⟨_,c,ec,hcl⟩
        · exact absurd (show X.env.scope.names.lookup x'=some .local from kl) (by rcases n4 with z|z<;>rw[z]<;>decide)
        · obtain⟨c',ec'⟩:=KP.mp (cl2 x' (gE n3));have:=cl1 x' c' ec';rw[ec]at this;cases this;refine .inr ⟨cS n3,c,?_,cellK _ _ hcl⟩;show(Kw (s3.heap.objs.size+1) scope.names cl).lookup x'=some c;rw[aG,bX,frn x' n3];simpa using ec'
  · rcases cs x c e with q|q
    · exact⟨_,(own x c q).1⟩
    · obtain⟨v,z⟩:=I3.cell x c (cl1 x c q);exact⟨v,cellK _ _ z⟩
  · rcases cs x c e with q|q
    · exact I3.hok.fresh (by have:=(own x c q).2;omega)
    · exact I3.freeC x c (cl1 x c q)
  · rw[Kl]at hp;obtain⟨e,n,ne,nf,d⟩:=I3.pin p hp;exact⟨kp _ _ e,n,notC _ _ e,fun z=>(JA.mp (I3.stkSub p.1 z)).elim ne nf,d⟩
  · unfold jO;rw[I_];exact frl
 have stat:∀{H':Hp},(∀b∈fp,H' b=none)->∀b∈fp,jf (aR X N' scope cl fp (X.pn++pins) s3 H3) [] H' b:=fun hn b hb =>
  ⟨hn b hb,JS (fp3 b hb),fpstk b hb,.inl hb,fun x c e=>(by
   rcases cs x c e with q|q
   · exact fun z=>absurd (Jh (fp3 b hb) (KU (by rw[<- z];exact(own x c q).2))) (Ki _)
   · exact(fpk b hb).2.2.2.1 x c (cl1 x c q)),fun p hp=>by rw[Kl]at hp;exact(fpk b hb).2.2.2.2 p hp⟩
 refine N6 (loop _ IY (T.keep _ _ _ tn3 fun b _ o e=>kp b o e) stat) fun r s5 ⟨hr,σ5,H4,I5,qn⟩=>?_;subst hr;obtain⟨m,hn,_⟩:=I5.loc;refine fin s5 H4 m hn (fun h' hs'=>?_) (I3.fpOk (Jb _) I5.free) qn;have k':∀b o,b≠s3.heap.objs.size->s5.heap.get? b=some o->h'.get? b=some o:=fun b o nb e=>hs'.extBut b o nb e;have u5:Un (frs X.stack) fp H3 H4 s3.heap s5.heap:=I5.base
 have un:Un (frs X.stack) fp H3 H4 s3.heap h' :=
  ⟨fun b o e n hb hx=>k' b o (notC b o e) (u5.keep b o e n hb hx),fun b o e n hb hx=>by obtain⟨sl,q⟩:=u5.slot b o e n hb hx;exact⟨sl,k' b _ (notC b o e) q⟩,u5.free,
   fun b o e hx=>by obtain⟨o',q⟩:=u5.there b o e hx;exact⟨o',k' b _ (notC b o e) q⟩,u5.tups,u5.frzs,u5.tbls⟩
 have nC:H4 s3.heap.objs.size=none:=I5.free
 have hok':IA X.prog X.w H4 h':=fun b u e=>(I5.hok b u e).stay (fun c v hcv q=>k' c v (by
  rintro rfl;rcases hcv with z|z
  · rw[<- z]at e;rw[nC]at e;cases e
  · rw[nC]at z;cases z) q) (fun _ q=>q) fun _ _ q=>q
 obtain⟨hh,g5,d5,t5,os5⟩:=s5;have os':os5=s3.os:=I5.os;subst os';have I':=Inv.call (s:=s3) (h':=h') (g':=g5) (d':=d5) (t':=t5) (ch:=fp) I3 un hok' I5.bare (fun b hb=>⟨(fpk b hb).2.2.1,(fpk b hb).1,(fpk b hb).2.2.2.1,(fpk b hb).2.2.2.2⟩);exact I'
theorem gJ{elt:Expr}{g:TG}{tt:TT}{te:TE}{H3:Hp}{s3:Ja}{D:Addr}{J:It}{Q:VK}
 {cl:List (Str×Addr)}(N':List Str)(fr:List (Option Nat))(hc:X.calm=true)(hkind:scope.kind = .function)(hcell:∀y∈scope.names,y.2 = .cell->scope.names.lookup y.1=some .cell)
 (hfree:∀y∈scope.names,y.2 = .free->X.env.kindOf y.1=some .cell\/X.env.kindOf y.1=some .free)(frl:fr.length=N'.length)
 (frg:∀(i j:Nat),fr[i]?=some (some j)->∃x,N'[i]?=some x/\X.N[j]?=some x/\scope.names.lookup x=some .free/\(X.env.scope.names.lookup x=some .cell\/X.env.scope.names.lookup x=some .free))
 (cl1:∀x c,cl.lookup x=some c->X.env.cells.lookup x=some c)(cl2:∀x,(x,Ks)∈scope.names->(cl.lookup x).isSome=true)
 (I3:Inv X pins σ H3 s3)(T:Turn X.prog X.w X.K tg J fp it tn)(tn3:tn 0 s3.heap)(fpD:∀b∈fp,H3 b=none)(fp3:∀b∈fp,b<s3.heap.objs.size)
 (fpk:∀b∈fp,b≠X.env.locals/\b∉X.fs/\(b∈X.ex\/X.s₀.heap.objs.size<=b)/\(∀x c,X.env.cells.lookup x=some c->c≠b)/\∀p∈X.pn++pins,p.1≠b)
 (hg:PG (aR X N' scope cl fp (X.pn++pins) s3 H3) tg g)(ht:HS (aR X N' scope cl fp (X.pn++pins) s3 H3) ifs tt)(he:PE (aR X N' scope cl fp (X.pn++pins) s3 H3) elt te)
 {Wv:Nat->Nat->List V->St->Hp->Prop}{m0:Nat}(w0:Wv 0 m0 [] (jO fr σ) H3)
 (turn:∀i m acc σc H,Wv i m acc σc H->(J.stop i H/\Q (.ref D) H)\/(J.go i H/\∀x H',J.yld i H x H'->g x σc H' fun σ2 H2=>tt σ2 H2 fun b H3 =>
  if b=true then te σ2 H3 fun y H4=>H4 D=some (.lst acc)/\acc.length<sizeLine/\∃m',m'<m/\Wv (i+1) m' (acc++[y]) σ2 (upd H4 D (.lst (acc++[y])))else ∃m',m'<m/\Wv (i+1) m' acc σ2 H3))
 (fin:∀s5 H4 m,s5.heap.Ns s3.heap.objs.size m->(∀h',Lu s3.heap.objs.size s5.heap h'->Inv X pins σ H4 {s5 with heap:=h' })->jf X pins H4 s3.heap.objs.size->Q (.ref D) H4->Rp s3.heap.objs.size (.ok .next) s5) :
 Jr (JE X.prog X.w) X.A (No scope X.env.globals cl [] X.env.qual none .none (some X.env)) (fun cenv s₄ =>
  LF (JE X.prog X.w) X.A (.compStart (.ListComp elt [⟨tg,iter,ifs,0⟩] scope pos) 0 (.ref it) (.ref D) {cenv with scope:=QH scope X.env})
   (Rp cenv.locals) s₄) X.xe s3:=by
 refine fP N' fr hc hkind hcell hfree frl frg cl1 cl2 I3 T tn3 fpD fp3 fpk (fun s' IY tY stat=>?_) fin
 have loop:LF (JE X.prog X.w) X.A (.compLoop (.ListComp elt [⟨tg,iter,ifs,0⟩] scope pos) 0 (.ref it) (.ref D) (aR X N' scope cl fp (X.pn++pins) s3 H3).env)
  (fun r s5=>r = .ok .next/\∃σ5 H4,Inv (aR X N' scope cl fp (X.pn++pins) s3 H3) [] σ5 H4 s5/\Q (.ref D) H4) s':=by
  refine pK (fun n s'=>∃i acc σ' H',Inv (aR X N' scope cl fp (X.pn++pins) s3 H3) [] σ' H' s'/\tn i s'.heap/\(∀b∈fp,H' b=none)/\Wv i n acc σ' H') ?_ m0
   ⟨0,[],_,_,IY,tY,fpD,w0⟩
  rintro n s4 ⟨i,acc,σ4,H4,I4,st4,fr4,w4⟩;rcases turn i n acc σ4 H4 w4 with⟨stop,qn⟩|⟨go,step⟩
  · exact FB (T.done (aR X N' scope cl fp (X.pn++pins) s3 H3) rfl rfl rfl hc i [] s4 σ4 H4 (fun _ _=>False) I4 (stat fr4) st4 stop) fun r s5 ⟨hr,I5⟩=>.inl ⟨hr,rfl,σ4,H4,I5,qn⟩
  · refine FB (T.item (aR X N' scope cl fp (X.pn++pins) s3 H3) rfl rfl rfl hc i [] s4 σ4 H4 (fun _ _=>False) I4 (stat fr4) st4 go) fun r s5 ⟨u,hr,h5⟩=>.inr ⟨u,hr,?_⟩;refine FB h5 fun _ s6 ⟨x,H6,I6,r6,y6,st6,fr6⟩=>?_;have I6':=I6.pinned (stat fr6) (T.obj _ _ st6)
    have OW:∀{σ7:St}{H7:Hp}{s7:Ja},Inv (aR X N' scope cl fp (X.pn++pins) s3 H3) ([]++eB fp s6.heap) σ7 H7 s7->∀{acc':List V}{m':Nat},m'<n->Wv (i+1) m' acc' σ7 H7 ->
     ∃m,m<n/\∃i acc σ' H',Inv (aR X N' scope cl fp (X.pn++pins) s3 H3) [] σ' H' s7/\tn i s7.heap/\(∀b∈fp,H' b=none)/\Wv i m acc σ' H':=fun{σ7 H7 s7} I7 {acc' m'} hm w7=>by
     refine⟨m',hm,i+1,acc',σ7,H7,I7.unpinned,T.keep _ _ _ st6 fun b hb o e=>(I7.pin (b,o) (Jq _ (Jq _ (bq hb e)))).1,fun b hb=>?_,w7⟩;obtain⟨o,e,d⟩:=T.obj _ _ st6 b hb;exact(I7.pin (b,o) (Jq _ (Jq _ (bq hb e)))).2.1
    refine FB (hg _ s6 σ4 H6 x u _ I6' r6 (step x H6 y6)) fun _ s7 ⟨σ7,H7,I7,q7⟩=>?_;refine FB (ht _ s7 σ7 H7 _ I7 q7) fun ok s8 ⟨H8,I8,q8⟩=>?_
    cases ok with
    | false =>
      rw[if_neg J5]at q8 ⊢;obtain⟨m',hm,w8⟩:=q8
      exact OW I8 hm w8
    | true =>
      rw[if_pos rfl]at q8 ⊢;refine FB (he _ s8 σ7 H8 _ I8 q8) fun y s9 ⟨yv,H9,I9,r9,eD,hl,m',hm,w9⟩=>?_
      exact FB (dC (X:=aR X N' scope cl fp (X.pn++pins) s3 H3) _ s9 σ7 H9 (.ref D) [yv] (.ref D) [y] (fun _ H'=>H'=upd H9 D (.lst (acc++[yv]))) I9 rfl (.cons r9 .nil) ⟨D,acc,yv,rfl,rfl,eD,hl,rfl⟩)
       fun _ s10 ⟨_,H10,I10,_,e10⟩=>by subst e10;exact OW I10 hm w9
 exact OZ loop (T.self X.A 0 _ _ _ tY loop)
section
variable{X:Cx}{elt tg iter:Expr}{ifs:List Expr}{scope:Scope}{pos:Pos}{wi:TI}{g:CompA->TG}{tt:CompA->TT}{te:CompA->TE}
theorem eP(N':List Str)(fr:List (Option Nat))(hc:X.calm=true)(hi:PI X tg iter wi)(hfr:mC fr N' X.N scope X.env.scope=true)(hsc:mK scope X.env.scope=true)
 (hg:∀y,PG (blk X N' scope y) tg (g y))(ht:∀y,HS (blk X N' scope y) ifs (tt y))(he:∀y,PE (blk X N' scope y) elt (te y))
 (hs:∀x,JI iter X.env x=pure x:=by intro _;rfl):PE X (.ListComp elt [⟨tg,iter,ifs,0⟩] scope pos) (qM wi fr g tt te):=by
 intro pins s σ H Q I h;obtain⟨sk,sn⟩:=Je.mp hsc;have hkind:scope.kind = .function:=of_decide_eq_true sk;have hall:=Lo.mp sn
 have hcell:∀y∈scope.names,y.2 = .cell->scope.names.lookup y.1=some .cell:=fun y hy hl=>by
  rcases Jx.mp (Je.mp (Je.mp (hall y hy)).1).1 with z|z
  · exact absurd hl (of_decide_eq_true z)
  · exact of_decide_eq_true z
 have hnames:∀y∈scope.names,y.2 = .local->scope.names.lookup y.1=some .local:=fun y hy hl=>by
  rcases Jx.mp (Je.mp (Je.mp (hall y hy)).1).2 with z|z
  · exact absurd hl (of_decide_eq_true z)
  · exact of_decide_eq_true z
 have hfree:∀y∈scope.names,y.2 = .free->X.env.kindOf y.1=some .cell\/X.env.kindOf y.1=some .free:=fun y hy hl=>by
  rcases Jx.mp (Je.mp (hall y hy)).2 with z|z
  · exact absurd hl (of_decide_eq_true z)
  · exact(Jx.mp z).imp of_decide_eq_true of_decide_eq_true
 obtain⟨frl,frg⟩:=mC.get hfr;obtain⟨cl,hclos,cl1,cl2⟩:=b9 (env:=X.env) (scope:=scope) fun y hy hl=>I.ok.has y.1 (hfree y hy hl);rw[eval_ListComp];refine Lm (use:=none) rfl hs hclos hkind hnames (FB (hi pins s σ H _ I h) fun v s1 h1=>FB h1 fun itv s2 h2=>?_);obtain⟨it,fp,tn,J,H2,e,I2,T,st2,f2,q2⟩:=h2;subst e;refine JX ?_;have hD:H2 s2.heap.objs.size=none:=I2.hok.fresh (Jb _)
 have I3:Inv X pins σ (upd H2 s2.heap.objs.size (.lst [])) {s2 with heap:=s2.heap.push {cls:=.type "list", data:=.seq ([]:List I0).toArray}} :=
  I2.laid (t':=s2.toks) (fun b u e=>IW _ e) (Jb _) ⟨by show 0<=sizeLine;exact J1 _,[],0,.nil,Jk _ rfl⟩
 obtain⟨Wv,⟨m0,w0⟩,turn⟩:=q2 _ hD;have tn3:tn 0 (s2.heap.push {cls:=.type "list", data:=.seq ([]:List I0).toArray}):=T.keep _ _ _ st2 fun b _ o e=>IW _ e
 have fpD:∀b∈fp,(upd H2 s2.heap.objs.size (.lst [])) b=none:=fun b hb=>by
  obtain⟨o,e,_⟩:=T.obj _ _ st2 b hb;rw[ag (JS (Jg e))];exact(f2 b hb).1
 have fp3:∀b∈fp,b<(s2.heap.push {cls:=.type "list", data:=.seq ([]:List I0).toArray}).objs.size:=fun b hb=>by
  obtain⟨o,e,_⟩:=T.obj _ _ tn3 b hb;exact Jg e
 exact gJ N' fr hc hkind hcell hfree frl frg cl1 cl2 I3 T tn3 fpD fp3 (fun b hb=>(f2 b hb).2) (hg ⟨cl,fp,X.pn++pins,_,_⟩) (ht ⟨cl,fp,X.pn++pins,_,_⟩) (he ⟨cl,fp,X.pn++pins,_,_⟩) w0 (turn ⟨cl,fp,X.pn++pins,_,_⟩)
  (Rp:=Qp (JE X.prog X.w) X.A X.xe none (EP X pins σ Q) (.ref s2.heap.objs.size)) fun s5 H4 m hn k _ qn=>⟨m,hn,fun h' hs'=>⟨.ref _,H4,k h' hs',rfl,qn⟩⟩
theorem lU{b:Bool}{x:Str}{spos:Pos}{ix:Nat}(N':List Str)(fr:List (Option Nat))(hc:X.calm=true)(hi:PI X tg iter wi)(hfr:mC fr N' X.N scope X.env.scope=true)(hsc:mK scope X.env.scope=true)
 (hg:∀y,PG (blk X N' scope y) tg (g y))(ht:∀y,HS (blk X N' scope y) ifs (tt y))(he:∀y,PE (blk X N' scope y) elt (te y))(hN:X.N.Nodup)(hix:X.N[ix]?=some x)(hx:Loc X.env.scope x)
 (hf:X.fn x=true\/X.env.scope.names.lookup x=some .local)(hsw:K4 (.ListComp elt [⟨tg,iter,ifs,0⟩] scope pos) (some (.Name x px)) spos.line X.env=pure b)
 (hs:∀x,JI iter X.env x=pure x):PS X (.Assign [.Name x px] (.ListComp elt [⟨tg,iter,ifs,0⟩] scope pos) spos) (AO (qM wi fr g tt te) (iQ ix)):=by
 cases b with
 | false=>exact gz hN hix hx (eP N' fr hc hi hfr hsc hg ht he hs) hsw hf
 | true =>
 intro pins s σ H DD I h;obtain⟨sk,sn⟩:=Je.mp hsc;have hkind:scope.kind = .function:=of_decide_eq_true sk;have hall:=Lo.mp sn
 have hcell:∀y∈scope.names,y.2 = .cell->scope.names.lookup y.1=some .cell:=fun y hy hl=>by
  rcases Jx.mp (Je.mp (Je.mp (hall y hy)).1).1 with z|z
  · exact absurd hl (of_decide_eq_true z)
  · exact of_decide_eq_true z
 have hnames:∀y∈scope.names,y.2 = .local->scope.names.lookup y.1=some .local:=fun y hy hl=>by
  rcases Jx.mp (Je.mp (Je.mp (hall y hy)).1).2 with z|z
  · exact absurd hl (of_decide_eq_true z)
  · exact of_decide_eq_true z
 have hfree:∀y∈scope.names,y.2 = .free->X.env.kindOf y.1=some .cell\/X.env.kindOf y.1=some .free:=fun y hy hl=>by
  rcases Jx.mp (Je.mp (hall y hy)).2 with z|z
  · exact absurd hl (of_decide_eq_true z)
  · exact(Jx.mp z).imp of_decide_eq_true of_decide_eq_true
 obtain⟨frl,frg⟩:=mC.get hfr;obtain⟨cl,hclos,cl1,cl2⟩:=b9 (env:=X.env) (scope:=scope) fun y hy hl=>I.ok.has y.1 (hfree y hy hl);rw[Pb _ _ _ _ hsw];refine IR (K7 (IR ?_));show Jr _ X.A (do let _ <- comprehension (.ListComp elt [⟨tg,iter,ifs,0⟩] scope pos) scope X.env _ (newList []) false (eval iter X.env) (some (L0 (.Name x px) X.env))) _ _ s
 refine IR (JO (Lm (use:=some (L0 (.Name x px) X.env)) (Q:=fun _ s'=>SP X pins DD .next s') rfl hs hclos hkind hnames
  (FB (hi pins s σ H _ I h) fun v s1 h1=>FB h1 fun itv s2 h2=>?_)) (fun _ s' hq=>IZ (IZ hq)) fun _ _ e=>e)
 obtain⟨it,fp,tn,J,H2,e,I2,T,st2,f2,q2⟩:=h2;subst e;refine JX ?_;have hD:H2 s2.heap.objs.size=none:=I2.hok.fresh (Jb _)
 have I3:Inv X pins σ (upd H2 s2.heap.objs.size (.lst [])) {s2 with heap:=s2.heap.push {cls:=.type "list", data:=.seq ([]:List I0).toArray}} :=
  I2.laid (t':=s2.toks) (fun b u e=>IW _ e) (Jb _) ⟨by show 0<=sizeLine;exact J1 _,[],0,.nil,Jk _ rfl⟩
 obtain⟨Wv,⟨m0,w0⟩,turn⟩:=q2 _ hD;have tn3:tn 0 (s2.heap.push {cls:=.type "list", data:=.seq ([]:List I0).toArray}):=T.keep _ _ _ st2 fun b _ o e=>IW _ e
 have fpD:∀b∈fp,(upd H2 s2.heap.objs.size (.lst [])) b=none:=fun b hb=>by
  obtain⟨o,e,_⟩:=T.obj _ _ st2 b hb;rw[ag (JS (Jg e))];exact(f2 b hb).1
 have fp3:∀b∈fp,b<(s2.heap.push {cls:=.type "list", data:=.seq ([]:List I0).toArray}).objs.size:=fun b hb=>by
  obtain⟨o,e,_⟩:=T.obj _ _ tn3 b hb;exact Jg e
 refine gJ (Q:=fun v H1=>iQ ix v σ H1 DD.nx) N' fr hc hkind hcell hfree frl frg cl1 cl2 I3 T tn3 fpD fp3 (fun b hb=>(f2 b hb).2) (hg ⟨cl,fp,X.pn++pins,_,_⟩) (ht ⟨cl,fp,X.pn++pins,_,_⟩) (he ⟨cl,fp,X.pn++pins,_,_⟩) w0 (turn ⟨cl,fp,X.pn++pins,_,_⟩)
  (Rp:=Qp (JE X.prog X.w) X.A X.xe (some (L0 (.Name x px) X.env)) (fun _ s'=>SP X pins DD .next s') (.ref s2.heap.objs.size)) fun s5 H4 m hn k fpo qn=>?_
 show Jr _ X.A (L0 (.Name x px) X.env (.ref s2.heap.objs.size)) _ _ s5;have I5:Inv X pins σ H4 s5:=k s5.heap (Nk _ _);obtain⟨f0,f1,f2',f3,f4,f5⟩:=fpo;refine Op (eZ I5 hN hix hx (v:=.ref s2.heap.objs.size) rfl (fun s6 I6 sb=>?_) hf);obtain⟨a,sb,ha⟩:=sb
 have hne:(s2.heap.push {cls:=.type "list", data:=.seq ([]:List I0).toArray}).objs.size≠a:=by
  rcases ha with rfl|ha
  · exact f1
  · exact fun z=>f4 x a ha z.symm
 refine⟨m,hn.at' fun o e=>sb.extBut _ o hne e,fun h' hs'=>?_⟩;exact⟨_,H4,I6.turned (t':=s6.toks) (fun b o hb e=>hs'.extBut b o hb e) f0 f1 f3 f4 f5,qn⟩
end
end L2
namespace L2.VL
def W.cap:W->Option W
 | .d x=>some (.d x)
 | .reel=>some .reel
 | .vv u=>some (.vv u)
 | .sc ns=>some (.sc ns)
 | .fd kvs=>some (.fd kvs)
 | .fw kvs=>some (.fw kvs)
 | .ft kvs=>some (.ft kvs)
 | .xc x fs=>some (.xc x fs)
 | .dp kvs x=>some (.dp kvs x)
 | _=>none
def dn(fr:List (Option Nat))(ρ:En):En:=fr.map fun o=>o.bind fun j=>((ρ[j]?).join).bind W.cap
def ql(X:Cx)(rl:RlT)(ifs:List Expr)(f:TB):Prop:=∃t,HS X ifs t/\∀{F₀ H₀ F H:Hp}{σ:St}{ρ:En},VR X.K rl F₀ H₀ F H σ ρ->∀(Qd:Bool->Prop)(Q:Bool->Hp->Prop),f ρ Qd ->
 (∀b F' H',Grow rl F H F' H'->Qd b->Q b H')->t σ H Q
theorem cf:ql X rl [] (fun _ Q=>Q true):=⟨_,jA,fun R Qd Q q k=>k true _ _ (Grow.refl R.sub R.reel) q⟩
theorem mO{c:Expr}{f:TB}(h:PB X rl c f):ql X rl [c] f:=let ⟨t,p,k⟩:=h;⟨t,vB p,k⟩
theorem eR{fr:List (Option Nat)}{i:Nat}{w:W}(h:(dn fr ρ)[i]?=some (some w)):∃j w',fr[i]?=some (some j)/\ρ[j]?=some (some w')/\w'.cap=some w:=by
 unfold dn at h;rw[JY]at h
 cases ef:fr[i]? with
 | none=>rw[ef]at h;cases h
 | some o =>
   cases o with
   | none=>rw[ef]at h;cases h
   | some j =>
     rw[ef]at h;have h':((ρ[j]?).join).bind W.cap=some w:=JK h
     cases q:ρ[j]? with
     | none=>rw[q]at h';cases h'
     | some o =>
       cases o with
       | none=>rw[q]at h';cases h'
       | some w'=>rw[q]at h';exact⟨j,w',rfl,q,h'⟩
theorem lC{w' w:W}(h:w'.cap=some w):w=w'/\w.own=false/\∀xs,w ≠ .pk xs:=by
 cases w'<;>cases h<;>exact⟨rfl,rfl,(fun _ z=>by cases z)⟩
theorem eJ{K:W.Frag}{fr:List (Option Nat)}(R:VR K rl F₀ H₀ F H σ ρ)(g:Grow rl F H F H'):VR K rl F H F H' (jO fr σ) (dn fr ρ):=by
 refine⟨g,fun i w e=>?_,fun i j xs ys v _ e1 _ o1 _ _ _=>?_,fun i xs e=>?_,by simp[jO,dn]⟩
 · obtain⟨j,w',e1,e2,e3⟩:=eR e;obtain⟨rfl,n1,n2⟩:=lC e3;obtain⟨v,s1,r1,_⟩:=R.sl j w e2;refine⟨v,?_,r1.grow g,?_⟩
   · unfold jO;rw[JY,e1];show some ((σ[j]?).join)=_;rw[s1];rfl
   · cases w with
     | ml xs=>cases n1
     | md xs=>cases n1
     | mk xs=>cases n1
     | nt _=>trivial
     | lk=>trivial
     | sc _=>trivial
     | fd _=>trivial
     | fw _=>trivial
     | ft _=>trivial
     | xc _ _=>trivial
     | dp _ _=>trivial
     | d _=>trivial
     | pk _=>trivial
     | reel=>trivial
     | vv _=>trivial
 · obtain⟨_,_,_,_,e3⟩:=eR e1;rw[(lC e3).2.1]at o1;cases o1
 · obtain⟨_,_,_,_,e3⟩:=eR e;exact absurd rfl ((lC e3).2.2 xs)
theorem db{fr:List (Option Nat)}:mI (dn fr ρ):=fun i xs e=>by
 obtain⟨_,_,_,_,e3⟩:=eR e;exact(lC e3).2.1
theorem VR.other{K:W.Frag}(R:VR K rl F₀ H₀ F H σ ρ)(n:mI ρ){D:Addr}{o:HO}(h0:H₀ D=none)(f:F D=none)(hr:rl.a≠some D):VR K rl F₀ H₀ F (upd H D o) σ ρ:=by
 have neF:∀b u,F b=some u->b≠D:=fun b u q z=>by subst z;rw[f]at q;cases q
 have g:Grow rl F₀ H₀ F (upd H D o):=by
  refine⟨fun b o q1 n=>by rw[ag (ay q1 h0)];exact R.g.same b o q1 n,R.g.fs,fun b o q1=>by rw[ag (neF b o q1)];exact R.sub b o q1,R.g.old,fun y z=>?_⟩;obtain⟨z1,⟨u,h1,h2⟩⟩:=R.reel y z;exact⟨z1,⟨u,by rw[ag (fun q=>hr (by rw[<- q];exact z))];exact h1,h2⟩⟩
 refine⟨g,fun i w e=>?_,R.ap,R.np,R.len⟩;obtain⟨v,h1,h2,h3⟩:=R.sl i w e;refine⟨v,h1,?_,h3⟩
 cases w with
 | d x=>exact h2
 | reel=>exact h2
 | vv u=>exact h2
 | ml xs=>cases n i _ e
 | md xs=>cases n i _ e
 | mk xs=>cases n i _ e
 | nt ds=>exact h2
 | lk=>trivial
 | sc _=>exact h2
 | fd _=>exact h2
 | fw _=>exact h2
 | ft _=>exact h2
 | xc _ _=>exact h2
 | dp _ _=>exact h2
 | pk xs=>exact absurd e (R.np i xs)
section
variable{X:Cx}{rl:RlT}{elt tg iter:Expr}{ifs:List Expr}{scope:Scope}{pos:Pos}{fi:En->(List IQ->Prop)->Prop}{g:HG}{ft:TB}{fe:TV}
end
mutual
def xu:IQ->Prop
 | .none=>True
 | .bool _=>True
 | .int i=>i.natAbs<2^1900
 | .str x=>IQ.strOk x=true
 | .list xs=>d8 xs
 | .tuple xs=>d8 xs
 | .dict _=>False
def d8:List IQ->Prop
 | []=>True
 | x::xs=>xu x/\d8 xs
end
theorem mh{k:Nat}(h:n<2^k)(hk:0<k):n.log2<k:=by
 by_cases h0:n=0
 · subst h0;simpa using hk
 · exact(Nat.log2_lt h0).mpr h
mutual
theorem xu.facts:∀d:IQ,xu d->d.showable=true/\d.canLay0=true/\d.hasDict=false/\d.leavesShort 1921=true
 | .none,_=>⟨rfl,rfl,rfl,rfl⟩
 | .bool _,_=>⟨rfl,rfl,rfl,rfl⟩
 | .int i,h=>by
   have hl:i.natAbs.log2<1920:=mh (Jh (show i.natAbs<2^1900 from h) (Jz (by decide) (by decide))) (by decide);refine⟨by simp[Pe,hl],rfl,rfl,?_⟩;simp only[MW,decide_eq_true_eq]
   exact int_text_len_1921 hl
 | .str x,h=>by
   refine⟨rfl,(show KM (.str x)=true by simp only[KM];exact h),rfl,?_⟩;have h:x.cps.all (· < 0x110000)=true:=h;simp only[MW];rw[Lo];intro c hc;have:=(Array.all_eq_true_iff_forall_mem.mp h) c (by simpa using hc);simp at this ⊢
   omega
 | .list xs,h=>by
   obtain⟨a,b,c,d⟩:=d8.facts xs h
   exact⟨by simpa[Pe]using a,by simpa[KM]using b,by simpa[IQ.hasDict]using c,by simpa[MW]using d⟩
 | .tuple xs,h=>by
   obtain⟨a,b,c,d⟩:=d8.facts xs h
   exact⟨by simpa[Pe]using a,by simpa[KM]using b,by simpa[IQ.hasDict]using c,by simpa[MW]using d⟩
 | .dict _,h=>JR h
theorem d8.facts:∀xs:List IQ,d8 xs->IQ.showableAll xs=true/\JZ xs=true/\IQ.hasDictAll xs=false/\Pf 1921 xs=true
 | [],_=>⟨rfl,rfl,rfl,rfl⟩
 | x::xs,h=>by
   obtain⟨a,b,c,d⟩:=xu.facts x h.1;obtain⟨a',b',c',d'⟩:=d8.facts xs h.2;exact⟨by simp[IQ.showableAll,a,a'],by simp[JZ,b,b'],by simp[IQ.hasDictAll,c,c'],by simp[Pf,d,d']⟩
end
def HN(d:IQ):Prop:=xu d/\d.depth<=60/\d.bulk<=8000
theorem HN.shaped(h:HN d):JT d=true:=by
 obtain⟨_,b,_⟩:=xu.facts d h.1;have:=h.2.1;simp[JT,b];omega
theorem HN.len(h:HN d):d.shown.length<=sizeLine:=by
 have q:=IQ.shown_le_bulk 1921 (by decide) d (xu.facts d h.1).2.2.2;have:=h.2.2;have e:sizeLine=16777216:=by decide
 omega
section
variable{X:Cx}{rl:RlT}{a b e:Expr}{es:List Expr}{fa fb fc:TV}{fs:HC}{pos p:Pos}
theorem eG(hm:X.mg "len" = none)(ha:HQ X rl [a] fs)(hg:Gl X "len" := by rfl)(he:Jc [a] X.env=(false,eval a X.env)::Jc [] X.env:=by rfl)(hpl:(KB pos (Jc [] X.env)).any (·.1)=false:=by rfl) :
 PV X rl (.Call (.Name "len" p) [a] [] pos) (cr xF fs):=dS cW xX hm boot_len ha hg (by decide) (by decide) he hpl
end
structure FnIn (K:W.Frag) (mg:Str->Option I0) (x:Str) (st:Stmt) (ps:List Str):Prop where
 ex:∃f fd,mg x=some (.ref f)/\Fun K x x st f fd/\Binds K fd ps []
structure Bz (mg:Str->Option I0):Prop where
 int_:mg "int" = none
 bool_:mg "bool" = none
 str_:mg "str" = none
 list_:mg "list" = none
 tuple_:mg "tuple" = none
 dict_:mg "dict" = none
 isinstance_:mg "isinstance" = none
 len_:mg "len" = none
 abs_:mg "abs" = none
 repr_:mg "repr" = none
 range_:mg "range" = none
 all_:mg "all" = none
 any_:mg "any" = none
 sum_:mg "sum" = none
 min_:mg "min" = none
 max_:mg "max" = none
 sorted_:mg "sorted" = none
 zip_:mg "zip" = none
 enumerate_:mg "enumerate" = none
 reversed_:mg "reversed" = none
 divmod_:mg "divmod" = none
 set_:mg "set" = none
section
variable{P:Ju}{w:Kh}{K:W.Frag}{mg:Str->Option I0}{base:Heap}{rl:RlT}{x:Str}{st:Stmt}{N ps:List Str}{k:Nat}{Pd:List W->(IQ->Prop)->Prop}{t:HD}
theorem Dfn.of(Fn:FnIn K mg x st ps)(S:FnScope N ps (defScope st))(mono:∀ws Q Q',(∀d,Q d->Q' d)->Pd ws Q->Pd ws Q')(len:∀ws Q,Pd ws Q->ws.length=ps.length)
 (hbody:∀{f:Addr}(cdv:I0)(A:Ko)(outer:List Env)(s:Ja)(H:Hp)(E:XK),Room k (A.deeper (NL x (defScope st) s.heap.objs.size f cdv)) ->
  jk (lu IE P w K mg base N x (defScope st) f cdv A outer s H E).nox rl (defBody st) t)
 (hread:∀ws Q,Pd ws Q->t (lM Q) (ck N ws)):Dfn P w K mg base rl x ps (k+1) Pd:=by
 obtain⟨f,fd,hm,F,hb⟩:=Fn.ex;exact⟨mono,f,fd,hm,F.kp,hb,Fb F S len hbody hread⟩
end
section
variable{X:Cx}{rl:RlT}{e:Expr}{es:List Expr}{fa fb fc:TV}{fs:HC}{pos p:Pos}
theorem xM(i:Nat){x:Str}{apos:Pos}(ha:HQ X rl [e] fs)(hN:X.N[i]?=some x:=by rfl)(hv:Hw X.env.scope x:=by first|exact KH rfl|exact J8 (KH rfl)|exact J8 (J8 rfl))
 (hd:(x==("__debug__" : Str))=false:=by decide)(hcd:(x==("__classdict__" : Str))=false:=by decide)
 (hbase:Li (.Name x px) "extend" X.env (eval (.Name x px) X.env)=eval (.Name x px) X.env:=by rfl)
 (hfew:((KB cpos (Jc [e] X.env)).all (fun x=>!x.1)&&(Nn cpos (LW [] X.env)).all (fun x=>x.1.isSome)
  && decide (([e]).length+([]:List LG).length+(if([]:List LG).isEmpty then 0 else 1)<30))=true:=by rfl)
 (hline:(apos.endLine==cpos.line)=true:=by rfl)(hs:Jc [e] X.env=(false,eval e X.env)::Jc [] X.env:=by rfl)(hplain:(KB cpos (Jc [] X.env)).any (·.1)=false:=by rfl)
 (hsw:K4 (.Call (.Attribute (.Name x px) "extend" apos) [e] [] cpos) none pos.line X.env=pure false:=by rfl) :
 HV X rl (.Expr (.Call (.Attribute (.Name x px) "extend" apos) [e] [] cpos) pos) (uR i AX fs) :=
 sV i PySem.F.slot_list_extend PySem.F.type_list_extend oS xU ha hN hv hd hcd hbase hfew hline hs hplain hsw
end
def G5(pre:IQ->Prop)(f:IQ->IQ):List W->(IQ->Prop)->Prop:=fun ws Q=>∃a,ws=[.d a]/\pre a/\Q (f a)
def G4(pre:IQ->IQ->Prop)(f:IQ->IQ->IQ):List W->(IQ->Prop)->Prop:=fun ws Q=>∃a b,ws=[.d a,.d b]/\pre a b/\Q (f a b)
theorem G5.mono{pre:IQ->Prop}{f:IQ->IQ}:∀ws (Q Q':IQ->Prop),(∀d,Q d->Q' d)->G5 pre f ws Q->G5 pre f ws Q':=fun _ _ _ h ⟨a,e,p,q⟩=>⟨a,e,p,h _ q⟩
theorem G4.mono{pre:IQ->IQ->Prop}{f:IQ->IQ->IQ}:∀ws (Q Q':IQ->Prop),(∀d,Q d->Q' d)->G4 pre f ws Q->G4 pre f ws Q':=fun _ _ _ h ⟨a,b,e,p,q⟩=>⟨a,b,e,p,h _ q⟩
theorem G5.len{pre:IQ->Prop}{f:IQ->IQ}:∀ws (Q:IQ->Prop),G5 pre f ws Q->ws.length=1:=fun _ _ ⟨a,e,_⟩=>by subst e;rfl
theorem G4.len{pre:IQ->IQ->Prop}{f:IQ->IQ->IQ}:∀ws (Q:IQ->Prop),G4 pre f ws Q->ws.length=2:=fun _ _ ⟨a,b,e,_⟩=>by subst e;rfl
def F_(post:IQ->Prop):List W->(IQ->Prop)->Prop:=fun ws Q=>ws=[.reel]/\∀d,post d->Q d
theorem F_.mono{post:IQ->Prop}:∀ws (Q Q':IQ->Prop),(∀d,Q d->Q' d)->F_ post ws Q->F_ post ws Q':=fun _ _ _ h ⟨e,q⟩=>⟨e,fun d hd=>h d (q d hd)⟩
theorem F_.len{post:IQ->Prop}:∀ws (Q:IQ->Prop),F_ post ws Q->ws.length=1:=fun _ _ ⟨e,_⟩=>by subst e;rfl
def vK:List W->(IQ->Prop)->Prop:=fun ws Q=>∃m:Int,ws=[.reel,.d (.int m)]/\0<m/\m<2^60/\∀k:Int,0<=k->k<m->Q (.int k)
theorem vK.mono:∀ws (Q Q':IQ->Prop),(∀d,Q d->Q' d)->vK ws Q->vK ws Q':=fun _ _ _ h ⟨m,e,p,z,q⟩=>⟨m,e,p,z,fun k a b=>h _ (q k a b)⟩
theorem vK.len:∀ws (Q:IQ->Prop),vK ws Q->ws.length=2:=fun _ _ ⟨m,e,_⟩=>by subst e;rfl
theorem fz_d(x:IQ):(W.d x).fz = .d x:=rfl
theorem fz_ml(x:List IQ):(W.ml x).fz = .d (.list x):=rfl
theorem fz_nt(x:List IQ):(W.nt x).fz = .d (.tuple x):=rfl
theorem pk_nt(x:List IQ):L2.VL.W.peek (.nt x) = .nt x:=rfl
theorem dat_nt(x:List IQ):(W.nt x).dat=some (.tuple x):=rfl
theorem isPk_nt(x:List IQ):(W.nt x).isPk=false:=rfl
theorem isPk_md(x:List (List Ih×IQ)):(W.md x).isPk=false:=rfl
theorem fz_pk(x:List IQ):(W.pk x).fz = .pk x:=rfl
theorem fz_reel:W.reel.fz = .reel:=rfl
theorem fz_vv(x:V):(W.vv x).fz = .vv x:=rfl
theorem pk_d(x:IQ):L2.VL.W.peek (.d x) = .d x:=rfl
theorem pk_ml(x:List IQ):L2.VL.W.peek (.ml x) = .pk x:=rfl
theorem pk_reel:L2.VL.W.peek .reel = .reel:=rfl
theorem pk_vv(x:V):L2.VL.W.peek (.vv x) = .vv x:=rfl
theorem dat_d(x:IQ):(W.d x).dat=some x:=rfl
theorem dat_ml(x:List IQ):(W.ml x).dat=some (.list x):=rfl
theorem dat_pk(x:List IQ):(W.pk x).dat=some (.list x):=rfl
theorem isPk_d(x:IQ):(W.d x).isPk=false:=rfl
theorem isPk_ml(x:List IQ):(W.ml x).isPk=false:=rfl
theorem isPk_reel:W.reel.isPk=false:=rfl
theorem dats_nil:ji []=some []:=rfl
theorem dats_d(x:IQ)(r:List W):ji (.d x::r)=(ji r).map (x :: ·):=rfl
theorem arg_d(x:IQ):cY (.d x)=true:=rfl
theorem arg_reel:cY .reel=true:=rfl
theorem item_l(xs:List IQ)(i:Int):L2.VL.itemAt (.list xs) i=L2.atI xs i:=rfl
theorem item_t(xs:List IQ)(i:Int):L2.VL.itemAt (.tuple xs) i=L2.atI xs i:=rfl
theorem len_l(xs:List IQ):tZ (.list xs)=some xs.length:=rfl
theorem len_t(xs:List IQ):tZ (.tuple xs)=some xs.length:=rfl
theorem at0{α:Type}(x:α)(r:List α):L2.atI (x::r) 0=some x:=by simp[L2.atI,L2.ixN]
theorem at1{α:Type}(x y:α)(r:List α):L2.atI (x::y::r) 1=some y:=by
 have:(1:Int)<((x::y::r).length:Int):=by simp;omega
 simp only[L2.atI,L2.ixN];rw[if_pos (by decide),if_pos this];rfl
theorem se(x y:Int):Ls y (x.fmod y)=Ls x y:=by
 have e:x.fmod y=x+y*(-(x.fdiv y)):=by
  have:=Int.fmod_add_mul_fdiv x y;rw[Qx];omega
 rw[e,Int.gcd_add_mul_left_right];exact N9 y x
theorem eqv_ii(a b:Int):Ky (.int a) (.int b)=(a==b):=by simp[Ky]
theorem shaped_i(a:Int):JT (.int a)=true:=rfl
theorem shaped_b(a:Bool):JT (.bool a)=true:=rfl
def Ci:List W->(IQ->Prop)->Prop:=fun ws Q=>∃i j:Int,ws=[.d (.int i),.d (.int j)]/\Q (.int (Ls i j))
theorem Ci.mono:∀ws (Q Q':IQ->Prop),(∀d,Q d->Q' d)->Ci ws Q->Ci ws Q':=fun _ _ _ h ⟨i,j,e,q⟩=>⟨i,j,e,h _ q⟩
theorem Ci.len:∀ws (Q:IQ->Prop),Ci ws Q->ws.length=2:=fun _ _ ⟨_,_,e,_⟩=>by subst e;rfl
theorem ic.of{i j:Int}(h:j≠0)(b:j.natAbs<2^64):ic i j:=⟨h,Jh b (Jz (by decide) (by decide))⟩
theorem fS:∀ns:List Int,JZ (ns.map Jt)=true
 | []=>rfl
 | n::ns=>by simp[JZ,KM,fS ns]
theorem gH:∀ns:List Int,J4 (ns.map Jt)=0
 | []=>rfl
 | n::ns=>by simp[J4,Kt,gH ns]
theorem HN.pair{a b:IQ}(h:HN (.tuple [a,b])):a.canLay0=true/\b.canLay0=true/\a.depth<=59/\b.depth<=59:=by
 obtain⟨_,c,_⟩:=xu.facts _ h.1;have d:=h.2.1;simp[KM,JZ]at c;simp[Kt,J4]at d;exact⟨c.1,c.2,by omega,by omega⟩
def v_:List W->(IQ->Prop)->Prop:=fun ws Q=>∃a b:Int,ws=[.d (.int a),.d (.int b)]/\b≠0/\b.natAbs<2^8000 /\
 ∀c,c=(if 0<b then(Ls a b:Int)else -(Ls a b:Int))->Q (.tuple [.int (a.fdiv c),.int (b.fdiv c)])
theorem v_.mono:∀ws (Q Q':IQ->Prop),(∀d,Q d->Q' d)->v_ ws Q->v_ ws Q':=fun _ _ _ h ⟨a,b,e,p,z,q⟩=>⟨a,b,e,p,z,fun c hc=>h _ (q c hc)⟩
theorem v_.len:∀ws (Q:IQ->Prop),v_ ws Q->ws.length=2:=fun _ _ ⟨_,_,e,_⟩=>by subst e;rfl
structure Lf (d:IQ):Prop where
 nice:xu d
 dep:d.depth<=2
 wt:d.bulk<=2000
theorem Lf.int{i:Int}(h:i.natAbs<2^1000):Lf (.int i) :=
 ⟨O_ h (MB (by decide) (by decide)),by simp[Kt],by simp[Ms]⟩
theorem HN.t1{a:IQ}(ha:Lf a):HN (.tuple [a]):=by
 refine⟨⟨ha.nice,trivial⟩,?_,?_⟩
 · have:=ha.dep;simp[Kt,J4];omega
 · have:=ha.wt;simp[Ms,Lk];omega
theorem HN.t2{a b:IQ}(ha:Lf a)(hb:Lf b):HN (.tuple [a,b]):=by
 refine⟨⟨ha.nice,hb.nice,trivial⟩,?_,?_⟩
 · have:=ha.dep;have:=hb.dep;simp[Kt,J4];omega
 · have:=ha.wt;have:=hb.wt;simp[Ms,Lk];omega
theorem HN.l2{a b:IQ}(ha:Lf a)(hb:Lf b):HN (.list [a,b]):=by
 refine⟨⟨ha.nice,hb.nice,trivial⟩,?_,?_⟩
 · have:=ha.dep;have:=hb.dep;simp[Kt,J4];omega
 · have:=ha.wt;have:=hb.wt;simp[Ms,Lk];omega
theorem Lf.pair{a:Int}(ha:a.natAbs<2^900)(hb:b.natAbs<2^900):Lf (.tuple [.int a,.int b]):=by
 refine⟨⟨O_ ha (MB (by decide) (by decide)),O_ hb (MB (by decide) (by decide)),trivial⟩,by simp[Kt,J4],by simp[Ms,Lk]⟩
theorem At{xs:List α}{k:Int}(h0:0<=k)(h1:k<(xs.length:Int)):∃z,L2.atI xs k=some z/\z∈xs:=by
 obtain⟨n,rfl⟩:=JN h0;have hn:n<xs.length:=by omega
 exact⟨xs[n],cK (Jd hn),JP hn⟩
theorem Lf.i{i:Int}(h:i.natAbs<2^250):Lf (.int i):=.int (Jh h (Jz (by decide) (by decide)))
theorem Lf.p{a:Int}(ha:a.natAbs<2^250)(hb:b.natAbs<2^250):Lf (.tuple [.int a,.int b]):=.pair (Jh ha (Jz (by decide) (by decide))) (Jh hb (Jz (by decide) (by decide)))
theorem gX{K:W.Frag}{i:Str}(h:Rep K F v (.str i)):v = .str i:=by cases h;rfl
def Cm(neg:Bool):W->W->(W->Prop)->Prop:=fun x y Q=>∃a b:Str,x = .d (.str a)/\y = .d (.str b)/\Q (.d (.bool (if neg then !decide (a=b)else decide (a=b))))
theorem xT:Hy X rl Ge (Cm false):=fun{F H x y wx wy} Qd Q s ra r1 r2 q k=>by
 obtain⟨a,b,rfl,rfl,q⟩:=q;have e1:=gX r1;have e2:=gX r2;subst e1 e2
 have e:decide (V.str a=V.str b)=decide (a=b):=by
  by_cases h:a=b
  · subst h;simp
  · rw[decide_eq_false h,decide_eq_false fun z=>h (by injection z)]
 exact⟨rfl,by rw[e];exact k _ (.d _) _ _ (Grow.refl s ra) (.bl _) trivial q⟩
def D5(K:W.Frag)(rl:RlT)(P:List W->(List IQ->Prop)->Prop):Sp:=fun vs H Q _=>∃F ws,bm F H/\HP rl F H/\cZ K rl F H vs ws/\ws.all cY=true/\P ws fun xs=>∀v F' H',Grow rl F H F' H'->eE K rl F' H' v xs->cO H v (.ml xs)->Q v H'
def zJ(Q:List IQ->Prop):VEnds:=⟨fun _=>False,fun w=>∃xs,w = .ml xs/\Q xs,fun _=>False,fun _=>False⟩
structure DfnL (P:Ju) (w:Kh) (K:W.Frag) (mg:Str->Option I0) (base:Heap) (rl:RlT) (x:Str) (ps:List Str) (k:Nat) (Pd:List W->(List IQ->Prop)->Prop):Prop where
 mono:∀ws Q Q',(∀d,Q d->Q' d)->Pd ws Q->Pd ws Q'
 ex:∃f fd,mg x=some (.ref f)/\W.keepIn K (.ref f)=true/\Binds K fd ps []/\FnOk P w K mg base IE k f fd ps (D5 K rl Pd)
section
variable{P:Ju}{w:Kh}{K:W.Frag}{mg:Str->Option I0}{base:Heap}{rl:RlT}{x:Str}{st:Stmt}{N ps:List Str}{k:Nat}{Pd:List W->(List IQ->Prop)->Prop}{t:HD}
theorem DfnL.of(Fn:FnIn K mg x st ps)(S:FnScope N ps (defScope st))(mono:∀ws Q Q',(∀d,Q d->Q' d)->Pd ws Q->Pd ws Q')(len:∀ws Q,Pd ws Q->ws.length=ps.length)
 (hbody:∀{f:Addr}(cdv:I0)(A:Ko)(outer:List Env)(s:Ja)(H:Hp)(E:XK),Room k (A.deeper (NL x (defScope st) s.heap.objs.size f cdv)) ->
  jk (lu IE P w K mg base N x (defScope st) f cdv A outer s H E).nox rl (defBody st) t)
 (hread:∀ws Q,Pd ws Q->t (zJ Q) (ck N ws)):DfnL P w K mg base rl x ps (k+1) Pd:=by
 obtain⟨f,fd,hm,F,hb⟩:=Fn.ex;refine⟨mono,f,fd,hm,F.kp,hb,?_⟩;refine F.ok S (fun vs H Q E ⟨F,ws,_,_,r,_,q⟩=>(JU r).trans (len ws _ q)) fun cdv A outer s H vs Q E hr h=>?_;obtain⟨F,ws,sm,ra,r,ok,q⟩:=h;obtain⟨T,p,kk⟩:=hbody cdv A outer s H E hr;refine⟨T,p,kk (cx sm ra r ok) (zJ _) _ ⟨fun _ _ _ _ _ _ z=>JR z,?_,fun _ _ _ _ _ _ z=>JR z,fun _ _ _ _ _ _ z=>JR z⟩ (hread ws _ q)⟩;rintro v w1 F1 H1 g1 r1 n1 ⟨xs,rfl,q1⟩;exact q1 v F1 H1 g1 r1 n1
end
section
variable{X:Cx}{rl:RlT}{e:Expr}{es:List Expr}{fs:HC}{pos p:Pos}
theorem vF(X:Cx)(rest:List Stmt):HU X rest (fun D σ H=>∀pins s,Inv X pins σ H s->Jr (JE X.prog X.w) X.A (execs rest X.env) (SP X pins D) X.xe s):=fun pins s σ H D I h=>h pins s I
end
section
variable{X:Cx}{rl:RlT}{a b c e:Expr}{es:List Expr}{fa fb fc:TV}{fs:HC}{pos p:Pos}
def eh:IQ->Option (List IQ)
 | .list xs=>some xs
 | .tuple xs=>some xs
 | _=>none
theorem seq_l(xs:List IQ):eh (.list xs)=some xs:=rfl
theorem seq_t(xs:List IQ):eh (.tuple xs)=some xs:=rfl
theorem eh.of{o:Option IQ}(h:o=some d)(e:eh d=some xs):o=some (.list xs)\/o=some (.tuple xs):=by
 cases d<;>cases e
 · exact .inl h
 · exact .inr h
def pz:List W->(W->Prop)->Prop:=fun ws Q=>∃w d xs,ws=[w]/\w.dat=some d/\eh d=some xs/\Q (.d (.tuple xs))
theorem sX:dP X rl (fun xs H Q=>∃p ys,xs=[.ref p]/\((HJ X.K H p ys/\∀l,H l=none->Q (.ref l) (upd H l (.tup ys)))\/(HI X.K H p ys/\Q (.ref p) H))) pz:=fun{F H vs ws} Qd Q s ra r ⟨w,d,xs,ew,ed1,ed2,q⟩ k=>by
 have ed:=eh.of ed1 ed2;subst ew;obtain⟨v,rfl,r1⟩:=mL r;rcases ed with ed|ed
 · obtain⟨a,us,rfl,sq,rs⟩:=r1.items s ed;refine⟨a,us,rfl,.inl ⟨sq,fun l hl=>?_⟩⟩;have g:=Grow.data (a:=l) (o:=.tup us) s ra hl;exact k _ (.d (.tuple xs)) _ _ g (.tup (.inl (.inl ak)) (rs.mono g.fs)) trivial q
 · cases w with
   | d y =>
     cases ed
     cases(show Rep X.K F v (.tuple xs)from r1)with
     | tup sq rs=>exact⟨_,_,rfl,.inr ⟨cR s sq,k _ (.d (.tuple xs)) _ _ (Grow.refl s ra) (.tup sq rs) trivial q⟩⟩
   | ml ys=>cases ed
   | pk ys=>cases ed
   | reel=>cases ed
   | vv u=>cases ed
   | md u=>cases ed
   | mk u=>cases ed
   | lk=>cases ed
   | sc _=>cases ed
   | fd _=>cases ed
   | fw _=>cases ed
   | ft _=>cases ed
   | xc _ _=>cases ed
   | dp _ _=>cases ed
   | nt ds =>
     cases ed;obtain⟨b,us,rfl,h,q'⟩:=r1;exact⟨_,_,rfl,.inr ⟨.inl (.inl (s _ _ h)),k _ (.d (.tuple xs)) _ _ (Grow.refl s ra) (.tup (.inl (.inl h)) q') trivial q⟩⟩
theorem bC(hm:X.mg "tuple" = none)(ha:HQ X rl [a] fs)(hg:Gl X "tuple" := by rfl)(he:Jc [a] X.env=(false,eval a X.env)::Jc [] X.env:=by rfl)(hpl:(KB pos (Jc [] X.env)).any (·.1)=false:=by rfl) :
 PV X rl (.Call (.Name "tuple" p) [a] [] pos) (cr pz fs):=eL bW sX hm (by rfl) ha hg (by decide) (by decide) he hpl
def sw:List W->(W->Prop)->Prop:=fun ws Q=>∃w d xs,ws=[w]/\w.dat=some d/\eh d=some xs/\Q (.ml xs)
theorem xW:dP X rl (fun xs H Q=>∃p ys,xs=[.ref p]/\(HJ X.K H p ys\/HI X.K H p ys)/\∀l,H l=none->Q (.ref l) (upd H l (.lst ys))) sw:=fun{F H vs ws} Qd Q s ra r ⟨w,d,xs,ew,ed1,ed2,q⟩ k=>by
 have ed:=eh.of ed1 ed2;subst ew;obtain⟨v,rfl,r1⟩:=mL r;rcases ed with ed|ed
 · obtain⟨a,us,rfl,sq,rs⟩:=r1.items s ed;exact⟨a,us,rfl,.inl sq,fun l hl=>k _ (.ml xs) _ _ (Grow.laid s ra hl) (da s ra hl rs) (fun a ea=>by cases ea;exact hl) q⟩
 · obtain⟨a,us,rfl,sq,rs⟩:=r1.itemsT s ed;exact⟨a,us,rfl,.inr sq,fun l hl=>k _ (.ml xs) _ _ (Grow.laid s ra hl) (da s ra hl rs) (fun a ea=>by cases ea;exact hl) q⟩
theorem kj(hm:X.mg "list" = none)(ha:HQ X rl [a] fs)(hg:Gl X "list" := by rfl)(he:Jc [a] X.env=(false,eval a X.env)::Jc [] X.env:=by rfl)(hpl:(KB pos (Jc [] X.env)).any (·.1)=false:=by rfl) :
 PV X rl (.Call (.Name "list" p) [a] [] pos) (cr sw fs):=eL i7 xW hm (by rfl) ha hg (by decide) (by decide) he hpl
end
section
variable{X:Cx}{rl:RlT}
end
section
variable{X:Cx}{rl:RlT}{a b c e:Expr}{es:List Expr}{fa fb fc:TV}{fs:HC}{pos p p2:Pos}
def G1(f:Int->Int->IQ):List W->(W->Prop)->Prop:=fun ws Q=>∃i j,ws=[.d (.int i),.d (.int j)]/\Q (.d (f i j))
theorem xY{f:Int->Int->V}{g:Int->Int->IQ}(h:∀K F i j,Rep K F (f i j) (g i j)):dP X rl (fun xs H Q=>∃i j,xs=[.int i,.int j]/\Q (f i j) H) (G1 g):=fun{F H vs ws} Qd Q s ra r ⟨i,j,ew,q⟩ k=>by
 subst ew;obtain⟨v,u,rfl,r1,r2⟩:=AR r;have e1:=aB r1;have e2:=aB r2;subst e1 e2;exact⟨i,j,rfl,k _ (.d _) _ _ (Grow.refl s ra) (h _ _ i j) trivial q⟩
theorem yc(hm:X.mg "max" = none)(ha:HQ X rl [a,b] fs)(hc:X.calm=true:=by rfl)(hg:Gl X "max" := by rfl)(he:Jc [a,b] X.env=(false,eval a X.env)::Jc [b] X.env:=by rfl)(hpl:(KB pos (Jc [b] X.env)).any (·.1)=false:=by rfl) :
 PV X rl (.Call (.Name "max" p) [a,b] [] pos) (cr (G1 fun i j=>.int (max i j)) fs) :=
 dS (pS hc) (xY (f:=fun i j=>.int (if j>i then j else i)) fun _ _ i j=>(show(if j>i then j else i)=max i j by split<;>omega) ▸ .int _) hm (by rfl) ha hg (by decide) (by decide) he hpl
theorem yb(hm:X.mg "min" = none)(ha:HQ X rl [a,b] fs)(hc:X.calm=true:=by rfl)(hg:Gl X "min" := by rfl)(he:Jc [a,b] X.env=(false,eval a X.env)::Jc [b] X.env:=by rfl)(hpl:(KB pos (Jc [b] X.env)).any (·.1)=false:=by rfl) :
 PV X rl (.Call (.Name "min" p) [a,b] [] pos) (cr (G1 fun i j=>.int (min i j)) fs) :=
 dS (pR hc) (xY (f:=fun i j=>.int (if j<i then j else i)) fun _ _ i j=>(show(if j<i then j else i)=min i j by split<;>omega) ▸ .int _) hm (by rfl) ha hg (by decide) (by decide) he hpl
def pA:List W->(W->Prop)->Prop:=fun ws Q=>(∃i,ws=[.d (.int i)]/\Q (.d (.int i)))\/∃k:Bool,ws=[.d (.bool k)]/\Q (.d (.int (if k then 1 else 0)))
theorem mY:dP X rl (fun xs H Q=>(∃i,xs=[.int i]/\Q (.int i) H)\/∃k,xs=[.bl k]/\Q (.int (if k then 1 else 0)) H) pA:=fun{F H vs ws} Qd Q s ra r h k=>by
 rcases h with⟨i,ew,q⟩|⟨i,ew,q⟩
 · subst ew;obtain⟨v,rfl,r1⟩:=mL r;have e1:=aB r1;subst e1;exact .inl ⟨i,rfl,k _ (.d _) _ _ (Grow.refl s ra) (.int _) trivial q⟩
 · subst ew;obtain⟨v,rfl,r1⟩:=mL r;have e1:=iH r1;subst e1;exact .inr ⟨i,rfl,k _ (.d _) _ _ (Grow.refl s ra) (.int _) trivial q⟩
theorem s_(hm:X.mg "int" = none)(ha:HQ X rl [a] fs)(hg:Gl X "int" := by rfl)(he:Jc [a] X.env=(false,eval a X.env)::Jc [] X.env:=by rfl)(hpl:(KB pos (Jc [] X.env)).any (·.1)=false:=by rfl) :
 PV X rl (.Call (.Name "int" p) [a] [] pos) (cr pA fs):=eL i8 mY hm (by rfl) ha hg (by decide) (by decide) he hpl
def cutD(xs:List IQ)(lo hi:Option Int):List IQ:=(xs.drop (HT.sIx xs.length 0 lo)).take (HT.sIx xs.length xs.length hi-HT.sIx xs.length 0 lo)
theorem Reps.cut{K:W.Frag}{ds:List IQ}(r:Reps K F vs ds)(lo hi:Option Int):Reps K F (qp vs lo hi) (cutD ds lo hi):=by
 unfold qp cutD;rw[r.length];exact(r.drop _).take _
abbrev HE:=En->(Option Int->Prop)->Prop
def HR(X:Cx)(rl:RlT)(o:Option Expr)(f:HE):Prop:=∃t,PO X o t/\∀{F₀ H₀ F H:Hp}{σ:St}{ρ:En},VR X.K rl F₀ H₀ F H σ ρ->∀(Qd:Option Int->Prop)(Q:Option Int->Hp->Prop),f ρ Qd ->
 (∀o F' H',Grow rl F H F' H'->Qd o->Q o H')->t σ H Q
def Gq:HE:=fun _ Q=>Q none
def Gr(fa:TV):HE:=fun ρ Q=>fa ρ fun w=>∃i,w = .d (.int i)/\Q (some i)
theorem cA:HR X rl none Gq:=⟨_,vJ,fun R Qd Q q k=>k _ _ _ (Grow.refl R.sub R.reel) q⟩
theorem cz(h:PV X rl e fa):HR X rl (some e) (Gr fa):=by
 obtain⟨t,p,k⟩:=h;refine⟨_,vI p,fun R Qd Q q h=>k R _ _ q fun v w F1 H1 g1 r1 n1 ⟨i,ew,q1⟩=>?_⟩;subst ew;exact⟨i,aB r1,h _ F1 H1 g1 q1⟩
def Bf(fa:TV)(fl fh:HE):TV:=fun ρ Q=>fa ρ fun w=>fl ρ fun l=>fh ρ fun h=>∃xs,w.dat=some (.list xs)/\Q (.ml (cutD xs l h))
theorem A_{lo hi:Option Expr}{fl fh:HE}(ha:PV X rl a fa)(hl:HR X rl lo fl)(hh:HR X rl hi fh):PV X rl (.Subscript a (.Slice lo hi none p2) pos) (Bf fa fl fh):=by
 obtain⟨t,p,k⟩:=ha;obtain⟨tl,pl,kl⟩:=hl;obtain⟨th,ph,kh⟩:=hh;refine⟨_,eO nT p pl ph,fun R Qd Q q h=>k R _ _ q fun v w F1 H1 g1 r1 n1 q1=>?_⟩;refine kl (R.grow g1) _ _ q1 fun l F2 H2 g2 q2=>kh ((R.grow g1).grow g2) _ _ q2 fun u F3 H3 g3 q3=>?_;obtain⟨xs,ed,q3⟩:=q3;have r3:=(r1.grow g2).grow g3;obtain⟨a,vs,rfl,sq,rs⟩:=r3.items g3.sub ed;have g:=(g1.trans g2).trans g3;exact⟨a,vs,rfl,sq,fun p hp=>h _ (.ml _) _ _ (g.trans (Grow.laid g3.sub g3.reel hp)) (da g3.sub g3.reel hp (rs.cut l u)) (fun a ea=>by cases ea;exact g.freeB hp) q3⟩
def sA:W->W->(W->Prop)->Prop:=fun x y Q=>∃xs ys,x.dat=some (.list xs)/\y.dat=some (.list ys)/\xs.length+ys.length<=sizeLine/\Q (.ml (xs++ys))
theorem cu.lst{K:W.Frag}{F H:Hp}{v:V}{w:W}{xs:List IQ}(s:bm F H)(r:cu K rl F H v w)(e:w.dat=some (.list xs)):∃a vs,v = .ref a/\H a=some (.lst vs)/\Reps K F vs xs:=by
 have own:eE K rl F H v xs->∃a vs,v = .ref a/\H a=some (.lst vs)/\Reps K F vs xs:=fun⟨a,vs,e1,_,_,e2,e3⟩=>⟨a,vs,e1,e2,e3⟩
 cases w with
 | d y =>
   cases e
   cases(show Rep K F v (.list xs)from r)with
   | lst h q=>exact⟨_,_,rfl,s _ _ h,q⟩
 | ml ys=>cases e;exact own r
 | pk ys=>cases e;exact own r
 | reel=>cases e
 | vv u=>cases e
 | md u=>cases e
 | mk u=>cases e
 | nt u=>cases e
 | lk=>cases e
 | sc _=>cases e
 | fd _=>cases e
 | fw _=>cases e
 | ft _=>cases e
 | xc _ _=>cases e
 | dp _ _=>cases e
theorem uA:Hy X rl DG sA:=fun{F H x y wx wy} Qd Q s ra r1 r2 q k=>by
 obtain⟨xs,ys,e1,e2,z,q⟩:=q;obtain⟨a,vs,rfl,h1,q1⟩:=r1.lst s e1;obtain⟨b,us,rfl,h2,q2⟩:=r2.lst s e2;refine⟨a,b,vs,us,rfl,rfl,h1,h2,by rw[q1.length,q2.length];exact z,fun p hp=>?_⟩;exact k _ (.ml _) _ _ (Grow.laid s ra hp) (da s ra hp (q1.append q2)) (fun a ea=>by cases ea;exact hp) q
theorem tj(ha:PV X rl a fa)(hb:PV X rl b fb):PV X rl (.BinOp a .Add b pos) (Fm sA fa fb):=gY zt uA ha hb
structure GlD (K:W.Frag) (mg:Str->Option I0) (x:Str) (d:IQ):Prop where
 ex:∃v u,mg x=some u/\RelV v u/\∀F,Rep K F v d
structure GlK (K:W.Frag) (x:Str) (d:IQ):Prop where
 ex:∃v u,W.nsIn K Ke x=some (some u)/\RelV v u/\∀F,Rep K F v d
theorem GlK.of{K:W.Frag}{x:Str}{mg:Str->Option I0}(k:GlK K x d)(Y:K.In h)(G:h.Ns Ke mg):GlD K mg x d:=by
 obtain⟨v,u,h1,h2,h3⟩:=k.ex;exact⟨v,u,W.mg_of Y G h1,h2,h3⟩
end
end L2.VL
namespace L2
section
variable{X:Cx}{a b:Expr}{ta:TA}{p q pos pos2:Pos}
end
end L2
namespace L2.VL
section
variable{X:Cx}{rl:RlT}{a b c e:Expr}{es:List Expr}{fa fb fc:TV}{fs:HC}{pos pos2 p q:Pos}
theorem Reps.erase{K:W.Frag}{F:Hp}:∀{vs:List V}{ds:List IQ}(n:Nat),Reps K F vs ds->Reps K F (vs.eraseIdx n) (ds.eraseIdx n)
 | _,_,_,.nil=>by simp;exact .nil
 | _,_,0,.cons h r=>r
 | _,_,n+1,.cons h r=>.cons h (Reps.erase n r)
end
structure Sm (dp bk:Nat) (d:IQ):Prop where
 nice:xu d
 dep:d.depth<=dp
 blk:d.bulk<=bk
theorem gB:∀{xs:List IQ},(∀d∈xs,xu d)->d8 xs
 | [],_=>trivial
 | x::xs,h=>⟨h x IV,gB fun d hd=>h d (IT _ hd)⟩
theorem fN{k:Nat}:∀{xs:List IQ},(∀d∈xs,d.depth<=k)->J4 xs<=k+1
 | [],_=>by simp[J4]
 | x::xs,h=>by
   have h1:=h x IV;have h2:=fN (k:=k) (xs:=xs) fun d hd=>h d (IT _ hd);simp only[J4];omega
theorem gL{k:Nat}:∀{xs:List IQ},(∀d∈xs,d.bulk<=k)->Lk xs<=(k+1)*xs.length
 | [],_=>by simp[Lk]
 | x::xs,h=>by
   have h1:=h x IV;have h2:=gL (k:=k) (xs:=xs) fun d hd=>h d (IT _ hd);simp only[Lk,JG,Nat.mul_succ];omega
theorem Sm.seq{dp bk:Nat}(h:∀d∈xs,Sm dp bk d)(hl:xs.length<=n):Sm (dp+2) ((bk+1)*n) (.tuple xs)/\Sm (dp+2) ((bk+1)*n) (.list xs):=by
 have a:=gB fun d hd=>(h d hd).nice;have b:=fN fun d hd=>(h d hd).dep;have c:Lk xs<=(bk+1)*n:=JF (gL fun d hd=>(h d hd).blk) (NO _ hl);refine⟨⟨a,?_,c⟩,⟨a,?_,c⟩⟩<;>simp only[Kt]<;>omega
theorem Sm.int{i:Int}(h:i.natAbs<2^1000):Sm 0 0 (.int i):=⟨(Lf.int h).nice,by simp[Kt],by simp[Ms]⟩
theorem Sm.bool{b:Bool}:Sm 0 0 (.bool b):=⟨trivial,by simp[Kt],by simp[Ms]⟩
theorem Sm.none:Sm 0 0 .none:=⟨trivial,by simp[Kt],by simp[Ms]⟩
theorem Sm.mono{dp bk dp' bk':Nat}(h:Sm dp bk d)(h1:dp<=dp')(h2:bk<=bk'):Sm dp' bk' d:=⟨h.nice,JF h.dep h1,JF h.blk h2⟩
theorem Sm.pair{a:Int}(ha:a.natAbs<2^1000)(hb:b.natAbs<2^1000):Sm 2 2 (.tuple [.int a,.int b]) :=
 (Sm.seq (dp:=0) (bk:=0) (n:=2) (xs:=[.int a,.int b]) (fun d hd=>by
  rcases JA.mp hd with rfl|hd
  · exact Sm.int ha
  · rcases JA.mp hd with rfl|hd
    · exact Sm.int hb
    · cases hd) (Jb _)).1
theorem HN.refl(h:HN d):Ky d d=true:=SeqAt.eqv_refl d (xu.facts d h.1).2.1
end L2.VL
namespace L2
section
variable{X:Cx}{tg e:Expr}{ta te:TE}{p p2 pos:Pos}
end
end L2
namespace L2.VL
section
variable{X:Cx}{rl:RlT}{a b c e tg:Expr}{es:List Expr}{fa fb fc:TV}{fs:HC}{pos pos2 p p2 q:Pos}
end
end L2.VL
namespace L2
section
variable{X:Cx}
end
end L2
namespace L2.VL
section
variable{X:Cx}{rl:RlT}{a b c e:Expr}{es:List Expr}{fa fb fc:TV}{fs:HC}{pos p p2:Pos}
end
end L2.VL
namespace L2.TM
theorem zy:fillsNumberSlot (.type "tuple") "mul" = pure false :=
 PySem.fillsNumberSlot_seq (id := "tuple.__mul__") (r:=some (.builtin "tuple.__rmul__")) F.slot_tuple_mul.lookup (by decide +kernel) F.slot_tuple_rmul.lookup (by decide +kernel)
theorem Ek:seqRepeat? (.type "tuple")=pure (some (.builtin "tuple.__mul__")):=by
 unfold seqRepeat?;have s1:=PySem.seqSlot_of (T := "tuple") (name := "__mul__") (id := "tuple.__mul__") F.slot_tuple_mul.lookup (by decide +kernel);have s2:=PySem.seqSlot_of (T := "tuple") (name := "__rmul__") (id := "tuple.__rmul__") F.slot_tuple_rmul.lookup (by decide +kernel);rw[s1,s2];rfl
theorem qO(its:Array I0):∀n:Nat,(ML (fun x y=>x++y) #[] (Jp n its)).size=its.size*n:=by
 have key:∀(n:Nat)(acc:Array I0),(ML (fun x y=>x++y) acc (Jp n its)).size=acc.size+its.size*n:=by
  intro n
  induction n with
  | zero=>intro acc;simp
  | succ n ih=>intro acc;rw[Km,LA,ih,Array.size_append,Nat.mul_succ];omega
 intro n;have:=key n #[];simpa using this
def TupAt(h:Heap)(l:Addr)(its:Array I0):Prop:=∃(dc:Option Addr)(sl:Array (Option I0))(n:Nat),h.get? l=some ⟨.type "tuple", dc,.seq its n,sl⟩
section
variable{prog:Ju}{w:Kh}{A:Ko}{E:I0->Ja->Prop}{s:Ja}{k:Int}{t:Tok}{l:Addr}{its:Array I0}
theorem tupAt(h:P6 s.heap l its):TupAt s.heap l its:=by
 obtain⟨⟨c,dc,d,sl⟩,ho,hc,n,hd⟩:=h;cases hc;cases hd;exact⟨dc,sl,n,ho⟩
theorem EA(h:TupAt s.heap l its)(q:Q .notImplemented s):Jr (JE prog w) A (call (.builtin "int.__rmul__") [.int k t,.ref l]) Q E s:=by
 obtain⟨dc,sl,n,ho⟩:=h;refine Nj F.slot_int_rmul (typeIs_int s k t) F.entry_int_rmul (F.args_int_rmul_2 _ _) (S:=fun _ R s=>s.heap.get? l=some ⟨.type "tuple", dc,.seq its n,sl⟩/\R (.ok (.ret I0.notImplemented)) s) ?_ ⟨ho,q⟩
 exact .of_wp fun prog w A R s h=>by
  obtain⟨hp,g,d,tk,os⟩:=s;obtain⟨ho,h⟩:=h
  wp_walk
  exact⟨_,rfl,h⟩
theorem rep_body(hk:2<=k)(hk':k<2^62)(he:its.isEmpty=false)(hz:its.size*k.toNat<=sizeLine)(h:TupAt s.heap l its)
 (q:Q (.ref s.heap.objs.size) {s with heap:=s.heap.push {cls:=.type "tuple", data:=.seq ((Jp k.toNat its).foldl (· ++ ·) #[])}}):Jr (JE prog w) A (call (.builtin "tuple.__mul__") [.ref l,.int k t]) Q E s:=by
 obtain⟨dc,sl,n,ho⟩:=h
 refine Nj F.slot_tuple_mul ⟨_,ho,rfl⟩ F.entry_tuple_mul (F.args_tuple_mul_2 _ _)
  (S:=fun _ R s=>s.heap.get? l=some ⟨.type "tuple", dc,.seq its n,sl⟩/\R (.ok (.ret (.ref s.heap.objs.size))) {s with heap:=s.heap.push {cls:=.type "tuple", data:=.seq ((Jp k.toNat its).foldl (· ++ ·) #[])}}) ?_ ⟨ho,q⟩
 have h1:¬(decide (k < -(2^63))||decide (k ≥ 2^63))=true:=by simp;omega
 have h2:¬(its.isEmpty||k==1)=true:=by rw[he];simp;omega
 have h3:¬(decide (k<=0)||its.isEmpty)=true:=by rw[he];simp;omega
 have sz:=Js;have hk0:k=(k.toNat:Int):=by omega
 have h4:¬((its.size:Int)*k>(2^63-1) / 8):=by
  rw[hk0];have:((its.size*k.toNat:Nat):Int)<=sizeLine:=by exact_mod_cast hz
  rw[NP]at this;omega
 have h5:¬Builtin.Tuple.tupleTooMany ((its.size:Int)*k)=true:=by
  intro z;have z:=of_decide_eq_true z;rw[hk0]at z;have:((its.size*k.toNat:Nat):Int)<=sizeLine:=by exact_mod_cast hz
  rw[NP]at this;omega
 refine .of_wp fun prog w A R s h=>?_;obtain⟨ho,h⟩:=h;have tp:P6 s.heap l its:=⟨_,ho,rfl,n,rfl⟩;unfold Builtin.«tuple.__mul__»;show Jr _ _ (do let z <- asIndex (.int k t);_) _ _ s;refine IR (OI (a:=k) (by first|rfl|kernel_rfl) ?_);rw[if_neg h1];refine IR (NC tp ?_);rw[if_neg h2,if_neg h3]
 first|rw[if_neg h4]|skip
 first|rw[if_neg h5]|skip
 show Jr _ _ (do let z <- K6 (ML (fun x y=>x++y) #[] (Jp k.toNat its));ret z) _ _ s;refine IR (m:=K6 _) (JX (IZ ⟨_,rfl,h⟩) ?_);show(ML (fun x y=>x++y) #[] (Jp k.toNat its)).size<=sizeLine;rw[qO];exact hz
theorem rep_one(h:TupAt s.heap l its)(q:Q (.ref l) s):Jr (JE prog w) A (call (.builtin "tuple.__mul__") [.ref l,.int 1 t]) Q E s:=by
 obtain⟨dc,sl,n,ho⟩:=h;refine Nj F.slot_tuple_mul ⟨_,ho,rfl⟩ F.entry_tuple_mul (F.args_tuple_mul_2 _ _) (S:=fun _ R s=>s.heap.get? l=some ⟨.type "tuple", dc,.seq its n,sl⟩/\R (.ok (.ret (.ref l))) s) ?_ ⟨ho,q⟩;refine .of_wp fun prog w A R s h=>?_;obtain⟨ho,h⟩:=h;have tp:P6 s.heap l its:=⟨_,ho,rfl,n,rfl⟩;unfold Builtin.«tuple.__mul__»;show Jr _ _ (do let z <- asIndex (.int 1 t);_) _ _ s;refine IR (OI (a:=(1:Int)) (by first|rfl|kernel_rfl) ?_);rw[if_neg (by decide)];refine IR (NC tp ?_);rw[if_pos (by simp)];show Jr _ _ (do let z <- Mz (.ref l);_) _ _ s;refine IR ?_;unfold Mz;refine IR (O6 (T := "tuple") ⟨_,ho,rfl⟩ (IZ ?_));rw[if_pos (by decide)];exact IR (MK (IR (IZ (IZ ⟨_,rfl,h⟩))))
theorem mul_tup(tp:P6 s.heap l its)(q:Jr (JE prog w) A (call (.builtin "tuple.__mul__") [.ref l,.int k t]) Q E s):Jr (JE prog w) A (Ma .Mult (.ref l) (.int k t)) Q E s :=
 wpAny_binaryOp_repeat_ref (T := "tuple") (U := "int") (by decide) tp.typeIs (fun s'=>typeIs_int s' k t) zy F.fills_int_mul F.slot_int_rmul Ek F.slot_int_index.lookup (EA (tupAt tp) ⟨rfl,tp.typeIs,q⟩)
end
end L2.TM
namespace L2
section
variable{X:Cx}
def yQ(K:W.Frag):R2:=fun x y H Q=>∃a k xs,x = .ref a/\y = .int k/\HI K H a xs/\xs≠[]/\1<=k/\k<2^62/\xs.length*k.toNat<=sizeLine/\(k=1->Q (.ref a) H)/\(2<=k->∀p,H p=none->Q (.ref p) (upd H p (.tup (Jp k.toNat xs).flatten)))
theorem vQ:Ib X (Ma .Mult) (yQ X.K):=by
 intro pins s σ H x y v u Q I rx ry h;obtain⟨a,k,xs,rfl,rfl,ha,hne,h1,h2,hz,q1,q2⟩:=h;cases rx;obtain⟨t,rfl⟩:=ry;obtain⟨its,r,p,_⟩:=I.tuple ha;have hl:=r.length;refine TM.mul_tup p ?_;by_cases hk:k=1
 · subst hk;exact TM.rep_one (TM.tupAt p) ⟨.ref a,H,I,rfl,q1 rfl⟩
 · have he:its.toArray.isEmpty=false:=by
     cases its with
     | nil=>simp at hl;exact absurd hl hne
     | cons _ _=>rfl
   refine TM.rep_body (by omega) h2 he (by rw[Jl,<- hl];exact hz) (TM.tupAt p) ?_
   have e:ML (fun x y=>x++y) #[] (Jp k.toNat its.toArray)=(Jp k.toNat its).flatten.toArray:=by
    have:=foldl_rep its k.toNat [];rw[Pg]at this;exact this
   rw[e];refine⟨.ref s.heap.objs.size,_,I.laid (t':=s.toks) (o:=.tup (Jp k.toNat xs).flatten) (fun b ob q=>IW _ q) (Jb _) ?_,rfl,q2 (by omega) _ (I.hok.fresh (Jb _))⟩;exact⟨by rw[wg,N_];exact hz,_,r.rep k.toNat,qm.new _ _⟩
end
end L2
namespace L2.VL
section
variable{X:Cx}{rl:RlT}{a b c e:Expr}{es:List Expr}{fa fb fc:TV}{fs:HC}{pos p p2:Pos}
theorem Reps.repl{K:W.Frag}{F:Hp}{vs:List V}{ds:List IQ}(r:Reps K F vs ds):∀n:Nat,Reps K F (Jp n vs).flatten (Jp n ds).flatten
 | 0=>.nil
 | n+1=>by rw[Km,Km,Lx,Lx];exact r.append (Reps.repl r n)
def so:W->W->(W->Prop)->Prop:=fun x y Q=>∃xs k,x = .d (.tuple xs)/\y = .d (.int k)/\xs≠[]/\1<=k/\k<2^62/\xs.length*k.toNat<=sizeLine/\Q (.d (.tuple (Jp k.toNat xs).flatten))
theorem uy:Hy X rl (yQ X.K) so:=fun{F H x y wx wy} Qd Q s ra r1 r2 q k=>by
 obtain⟨xs,n,rfl,rfl,hne,h1,h2,hz,q⟩:=q;have ey:=aB r2;subst ey
 cases(show Rep X.K F x (.tuple xs)from r1)with
 | @tup a vs _ sq rs =>
   refine⟨a,n,vs,rfl,rfl,cR s sq,fun z=>hne ?_,h1,h2,by rw[rs.length];exact hz,fun e=>?_,fun e p hp=>?_⟩
   · subst z;cases rs;rfl
   · subst e;have e1:(Jp (MX 1) xs).flatten=xs:=by simp
     rw[e1]at q;exact k _ (.d (.tuple xs)) _ _ (Grow.refl s ra) (.tup sq rs) trivial q
   · have g:=Grow.data (a:=p) (o:=.tup (Jp n.toNat vs).flatten) s ra hp;exact k _ (.d _) _ _ g (.tup (.inl (.inl ak)) ((rs.repl n.toNat).mono g.fs)) trivial q
theorem ya(ha:PV X rl a fa)(hb:PV X rl b fb):PV X rl (.BinOp a .Mult b pos) (Fm so fa fb):=gY vQ uy ha hb
def Cp:W->W->(W->Prop)->Prop:=fun x y Q=>∃xs ys,x = .d (.tuple xs)/\y = .d (.tuple ys)/\xs≠[]/\xs.length+ys.length<=sizeLine/\Q (.d (.tuple (xs++ys)))
theorem uz:Hy X rl (vq X.K) Cp:=fun{F H x y wx wy} Qd Q s ra r1 r2 q k=>by
 obtain⟨xs,ys,rfl,rfl,hne,hz,q⟩:=q
 cases(show Rep X.K F x (.tuple xs)from r1)with
 | @tup a vs _ sq rs =>
   cases(show Rep X.K F y (.tuple ys)from r2)with
   | @tup b us _ sq2 rs2 =>
     refine⟨a,b,vs,us,rfl,rfl,cR s sq,cR s sq2,fun z=>hne ?_,by rw[rs.length,rs2.length];exact hz,fun e=>?_,fun e p hp=>?_⟩
     · subst z;cases rs;rfl
     · subst e;cases rs2;rw[Kl]at q;exact k _ (.d (.tuple xs)) _ _ (Grow.refl s ra) (.tup sq rs) trivial q
     · have g:=Grow.data (a:=p) (o:=.tup (vs++us)) s ra hp;exact k _ (.d _) _ _ g (.tup (.inl (.inl ak)) ((rs.append rs2).mono g.fs)) trivial q
end
end L2.VL
namespace L2
section
variable{X:Cx}
theorem Room.u65{k:Nat}(r:Room k A):A.units+65<N1:=by have:=r.un;omega
def yR(K:W.Frag):R2:=fun x y H Q=>∃a b ys,x = .ref a/\y = .ref b/\HI K H a []/\HI K H b ys/\Q (.ref b) H
theorem vU:Ib X (Ma .Add) (yR X.K):=by
 intro pins s σ H x y v u Q I rx ry h;obtain⟨a,b,ys,rfl,rfl,ha,hb,q⟩:=h;cases rx;cases ry;obtain⟨its,r1,p1,_⟩:=I.tuple ha;obtain⟨its2,r2,p2,_⟩:=I.tuple hb;cases r1;obtain⟨⟨c1,d1,e1,sl1⟩,ho,hc,n,hd⟩:=p1;obtain⟨⟨c2,d2,e2,sl2⟩,ho2,hc2,n2,hd2⟩:=p2;cases hc;cases hd;cases hc2;cases hd2
 exact Qe ⟨_,ho,rfl⟩ ⟨_,ho2,rfl⟩ Me MS Lc K9 (K5 _ _)
  (tuple_addW0 a b _ its2.toArray n n2 d1 d2 sl1 sl2 rfl) ⟨ho,ho2,⟨.ref b,H,I,rfl,q⟩⟩
def vt(K:W.Frag):R2:=fun x y H Q=>vq K x y H Q\/yR K x y H Q
theorem vT:Ib X (Ma .Add) (vt X.K):=fun pins s σ H x y v u Q I rx ry h=>h.elim (vS pins s σ H x y v u Q I rx ry) (vU pins s σ H x y v u Q I rx ry)
section
variable{prog:Ju}{w:Kh}{A:Ko}{E:I0->Ja->Prop}{s:Ja}
end
end
end L2
namespace L2.VL
section
variable{X:Cx}{rl:RlT}{a b c e:Expr}{es:List Expr}{fa fb fc:TV}{fs:HC}{pos p p2:Pos}
def pB:W->W->(W->Prop)->Prop:=fun x y Q=>∃xs ys,x = .d (.tuple xs)/\y = .d (.tuple ys)/\xs.length+ys.length<=sizeLine/\Q (.d (.tuple (xs++ys)))
theorem mU:Hy X rl (vt X.K) pB:=fun{F H x y wx wy} Qd Q s ra r1 r2 q k=>by
 obtain⟨xs,ys,rfl,rfl,hz,q⟩:=q;by_cases hx:xs=[]
 · subst hx
   cases(show Rep X.K F x (.tuple [])from r1)with
   | @tup a vs _ sq rs =>
     cases rs
     cases(show Rep X.K F y (.tuple ys)from r2)with
     | @tup b us _ sq2 rs2=>exact .inr ⟨a,b,us,rfl,rfl,cR s sq,cR s sq2,k _ (.d (.tuple ys)) _ _ (Grow.refl s ra) (.tup sq2 rs2) trivial q⟩
 · exact .inl (uz Qd Q s ra r1 r2 ⟨xs,ys,rfl,rfl,hx,hz,q⟩ k)
theorem io(ha:PV X rl a fa)(hb:PV X rl b fb):PV X rl (.BinOp a .Add b pos) (Fm pB fa fb):=gY vT mU ha hb
theorem kH{K:W.Frag}{F:Hp}:∀{vs:List V}{ns:List Int},Reps K F vs (ns.map .int)->vs=ns.map V.int
 | _,[],h=>h.nil_iff
 | _,n::ns,.cons h r=>by rw[aB h,kH r];rfl
end
end L2.VL
namespace L2.TO
section
variable{prog:Ju}{w:Kh}{A:Ko}{E:I0->Ja->Prop}{s:Ja}
end
end L2.TO
namespace L2
section
variable{X:Cx}{a b e:Expr}{ta:TA}{te:TE}{p p2 q pos pos2:Pos}
end
end L2
namespace L2.VL
section
variable{X:Cx}{rl:RlT}{a b c e:Expr}{es:List Expr}{fa fb fc:TV}{fs:HC}{pos pos2 p q p2:Pos}
end
end L2.VL
namespace L2.TW
section
variable{prog:Ju}{w:Kh}{A:Ko}{E:I0->Ja->Prop}{s:Ja}
theorem get_whole{t sl:Addr}{items:Array I0}{vl vu:I0}{lo hi:Option Int}(ht:P6 s.heap t items)(hs:s.heap.IsSliceOf sl vl vu .none)(pl:P2 vl lo)(pu:P2 vu hi)
 (hw:HT.sIx items.size 0 lo=0/\HT.sIx items.size items.size hi=items.size)(h:Q (.ref t) s):Jr (JE prog w) A (OH (.ref t) (.ref sl)) Q E s:=by
 have ty:s.TypeIs (.ref sl) "slice" := let ⟨o,h1,h2,_⟩:=hs;⟨o,h1,h2⟩
 have key:Jr (JE prog w) A (call (.builtin "tuple.__getitem__") [.ref t,.ref sl]) Q E s:=by
  refine Kx Kk ht.typeIs entry_tuple_getitem ?_ (args_tuple_getitem _ _);show Jr _ _ (My (.ref t) >>= _) _ _ s;refine IR (NC ht (IR (O6 ty ?_)));rw[if_pos (by decide)];refine IR (HT.sliceApplied_gen hs pl pu ?_);rw[hw.1,hw.2,Oa];show Jr _ _ (if(((0:Nat):Int)==0&&(1:Int)==1&&items.size==items.size)=true then _ else _) _ _ s;rw[if_pos (by simp)];unfold Mz;refine IR (IR (O6 ht.typeIs (IZ ?_)));rw[if_pos (by decide)];exact IR (MK (IR (IZ (IZ ⟨_,rfl,h⟩))))
 unfold OH;try with_reducible refine Lr ?_
 first|exact IR (IZ (IR (Ot ht.typeIs (by decide) (IR (JV (name:=Str.ofString "__getitem__") ht.typeIs Kk (FB key fun v s' q=>IZ q))))))|exact IR (Ot ht.typeIs (by decide) (IR (JV (name:=Str.ofString "__getitem__") ht.typeIs Kk (FB key fun v s' q=>IZ q))))
end
end L2.TW
namespace L2
section
variable{X:Cx}
def Em(K:W.Frag):V->Option Int->Option Int->Hp->VK->Prop:=fun x lo hi H Q=>DA K x lo hi H Q\/∃a xs,x = .ref a/\HI K H a xs/\(HT.sIx xs.length 0 lo=0/\HT.sIx xs.length xs.length hi=xs.length)/\Q (.ref a) H
theorem nS:HM X (Em X.K):=by
 intro pins s σ H x v vl vu lo hi sl Q I rx hs pl pu h;rcases h with h|⟨a,xs,rfl,hx,hw,q⟩
 · exact yG pins s σ H x v vl vu lo hi sl Q I rx hs pl pu h
 · cases rx;obtain⟨its,r,ht,hz⟩:=I.tuple hx;have hlen:its.toArray.size=xs.length:=by rw[Jl];exact r.length.symm
   exact⟨"tuple", _,Kk.lookup,ht.typeIs,TW.get_whole ht hs pl pu (by rw[hlen];exact hw) ⟨.ref a,H,I,rfl,q⟩⟩
end
end L2
namespace L2.VL
section
variable{X:Cx}{rl:RlT}{a b c e:Expr}{es:List Expr}{fa fb fc:TV}{fs:HC}{pos p p2:Pos}
theorem iZ{l u:Option Int}(h:HT.sIx xs.length 0 l=0/\HT.sIx xs.length xs.length u=xs.length):cutD xs l u=xs:=by
 unfold cutD;rw[h.1,h.2];simp
def AH(fa:TV)(fl fh:HE):TV:=fun ρ Q=>fa ρ fun w=>fl ρ fun l=>fh ρ fun h=>∃xs,w = .d (.tuple xs)/\Q (.d (.tuple (cutD xs l h)))
theorem lK{lo hi:Option Expr}{fl fh:HE}(ha:PV X rl a fa)(hl:HR X rl lo fl)(hh:HR X rl hi fh):PV X rl (.Subscript a (.Slice lo hi none p2) pos) (AH fa fl fh):=by
 obtain⟨t,p,k⟩:=ha;obtain⟨tl,pl,kl⟩:=hl;obtain⟨th,ph,kh⟩:=hh;refine⟨_,eO nS p pl ph,fun R Qd Q q h=>k R _ _ q fun v w F1 H1 g1 r1 n1 q1=>?_⟩;refine kl (R.grow g1) _ _ q1 fun l F2 H2 g2 q2=>kh ((R.grow g1).grow g2) _ _ q2 fun u F3 H3 g3 q3=>?_;obtain⟨xs,rfl,q3⟩:=q3;have r3:=(r1.grow g2).grow g3;have g:=(g1.trans g2).trans g3
 cases(show Rep X.K F3 v (.tuple xs)from r3)with
 | @tup a vs _ sq rs =>
   by_cases hw:HT.sIx xs.length 0 l=0/\HT.sIx xs.length xs.length u=xs.length
   · rw[iZ hw]at q3;exact .inr ⟨a,vs,rfl,cR g3.sub sq,by rw[rs.length];exact hw,h _ (.d _) _ _ g (.tup sq rs) trivial q3⟩
   · refine .inl ⟨a,vs,rfl,cR g3.sub sq,by rw[rs.length];exact hw,fun p hp=>?_⟩;have g':=Grow.data (a:=p) (o:=.tup (qp vs l u)) g3.sub g3.reel hp;exact h _ (.d _) _ _ (g.trans g') (.tup (.inl (.inl ak)) ((rs.cut l u).mono g'.fs)) trivial q3
end
end L2.VL
namespace L2
abbrev Dy(D:List (Str×Int)):List (IQ×IQ):=(D.map fun q=>(q.1,Jt q.2)).map fun q=>(IQ.str q.1,q.2)
structure GlT (P:Ju) (w:Kh) (K:W.Frag) (mg:Str->Option I0) (x:Str) (D:List (Str×Int)):Prop where
 ex:∃p,mg x=some (.ref p)/\∀h,K.In h->StrTab P w h p (Dy D)
section
variable{X:Cx}{e:Expr}{ty:TE}{px apos cpos:Pos}
end
end L2
namespace L2.VL
section
variable{X:Cx}{rl:RlT}{a b c e:Expr}{es:List Expr}{fa fb fc:TV}{fs:HC}{pos p p2 px apos cpos:Pos}
end
end L2.VL
set_option exponentiation.threshold 10000
namespace L2.VL
def Cj:List W->(IQ->Prop)->Prop:=fun ws Q=>∃i j:Int,ws=[.d (.int i),.d (.int j)]/\0<=i/\0<=j/\Q (.int (Ls i j))
theorem Cj.mono:∀ws (Q Q':IQ->Prop),(∀d,Q d->Q' d)->Cj ws Q->Cj ws Q':=fun _ _ _ h ⟨i,j,e,a,b,q⟩=>⟨i,j,e,a,b,h _ q⟩
theorem Cj.len:∀ws (Q:IQ->Prop),Cj ws Q->ws.length=2:=fun _ _ ⟨_,_,e,_⟩=>by subst e;rfl
def xD(a b:Int):IQ:=.tuple [.int (a.fdiv (Ls a b)),.int (b.fdiv (Ls a b))]
def B1:List W->(IQ->Prop)->Prop:=fun ws Q=>∃a b:Int,ws=[.d (.int a),.d (.int b)]/\0<b/\b.natAbs<2^8000/\Q (xD a b)
theorem B1.mono:∀ws (Q Q':IQ->Prop),(∀d,Q d->Q' d)->B1 ws Q->B1 ws Q':=fun _ _ _ h ⟨i,j,e,a,b,q⟩=>⟨i,j,e,a,b,h _ q⟩
theorem B1.len:∀ws (Q:IQ->Prop),B1 ws Q->ws.length=2:=fun _ _ ⟨_,_,e,_⟩=>by subst e;rfl
def iP(n:Nat)(pre:List Int->Prop)(f:List Int->IQ):List W->(IQ->Prop)->Prop:=fun ws Q=>∃xs:List Int,ws=xs.map (fun i=>.d (.int i))/\xs.length=n/\pre xs/\Q (f xs)
theorem iP.mono{pre:List Int->Prop}{f:List Int->IQ}:∀ws (Q Q':IQ->Prop),(∀d,Q d->Q' d)->iP n pre f ws Q->iP n pre f ws Q':=fun _ _ _ h ⟨i,e,a,b,q⟩=>⟨i,e,a,b,h _ q⟩
def GU(pre:Int->Int->Prop)(f:Int->Int->IQ):List W->(IQ->Prop)->Prop:=fun ws Q=>∃i j:Int,ws=[.d (.int i),.d (.int j)]/\pre i j/\Q (f i j)
theorem GU.mono{pre:Int->Int->Prop}{f:Int->Int->IQ}:∀ws (Q Q':IQ->Prop),(∀d,Q d->Q' d)->GU pre f ws Q->GU pre f ws Q':=fun _ _ _ h ⟨i,j,e,a,q⟩=>⟨i,j,e,a,h _ q⟩
theorem GU.len{pre:Int->Int->Prop}{f:Int->Int->IQ}:∀ws (Q:IQ->Prop),GU pre f ws Q->ws.length=2:=fun _ _ ⟨_,_,e,_⟩=>by subst e;rfl
structure IsEx (b:Int) (p:List Int):Prop where
 len:p.length=b.toNat
 zero:p.head?=some 0
 nd:p.Nodup
 rng:∀x∈p,0<=x/\x<b
def G8(p:List Int):IQ:=.tuple (p.map .int)
def G6:List W->(IQ->Prop)->Prop:=fun ws Q=>∃b:Int,ws=[.reel,.d (.int b)]/\2<=b/\b<=16/\∀p,IsEx b p->Q (G8 p)
theorem G6.mono:∀ws (Q Q':IQ->Prop),(∀d,Q d->Q' d)->G6 ws Q->G6 ws Q':=fun _ _ _ h ⟨b,e,x,y,q⟩=>⟨b,e,x,y,fun p hp=>h _ (q p hp)⟩
theorem G6.len:∀ws (Q:IQ->Prop),G6 ws Q->ws.length=2:=fun _ _ ⟨_,e,_⟩=>by subst e;rfl
def zV(lo:Int)(n:Nat):List Int:=(Jm n).map fun(i:Nat)=>lo+i
theorem rV{lo x:Int}:x∈zV lo n↔lo<=x/\x<lo+n:=by
 unfold zV;simp only[Jv,Kd];constructor
 · rintro⟨k,hk,rfl⟩;omega
 · rintro⟨h1,h2⟩;exact⟨(x-lo).toNat,by omega,by omega⟩
theorem jK(lo:Int)(n:Nat):(zV lo n).length=n:=by simp[zV]
def AQ(rows:List (Int×List Int)):IQ:=.tuple (rows.map fun r=>.tuple [.int r.1,G8 r.2])
structure IsRow (rows:List (Int×List Int)):Prop where
 lo:1<=rows.length
 hi:rows.length<=4
 ok:∀r∈rows,2<=r.1/\r.1<=16/\IsEx r.1 r.2
 co:rows.Pairwise fun x y=>Ls x.1 y.1=1
def BE:List W->(IQ->Prop)->Prop:=fun ws Q=>∃m:Int,ws=[.reel,.d (.int m)]/\1<=m/\m<=4/\∀rows,IsRow rows->rows.length<=m.toNat->Q (AQ rows)
theorem BE.mono:∀ws (Q Q':IQ->Prop),(∀d,Q d->Q' d)->BE ws Q->BE ws Q':=fun _ _ _ h ⟨b,e,x,y,q⟩=>⟨b,e,x,y,fun p hp hl=>h _ (q p hp hl)⟩
theorem BE.len:∀ws (Q:IQ->Prop),BE ws Q->ws.length=2:=fun _ _ ⟨_,e,_⟩=>by subst e;rfl
def AE(bs:List Int):Prop:=bs.length=4/\(∀b∈bs,2<=b/\b<=16)/\bs.Pairwise fun x y=>Ls x y=1
instance (bs:List Int):Decidable (AE bs):=by unfold AE;infer_instance
theorem fA{d:Nat}{k:Int}(h:0<=k):HT.sIx n d (some k)=min k.toNat n:=by
 obtain⟨m,rfl⟩:=JN h;exact HT.sIx_nat n d m
theorem lv{k:Int}(h:0<=k):cutD xs (some k) none=xs.drop k.toNat:=by
 unfold cutD;rw[fA h,HT.sIx_none];by_cases hk:k.toNat<=xs.length
 · rw[Mt hk];exact JQ (by simp)
 · rw[Mf (by omega),Lp,Ld (by omega)];simp
theorem pI{k:Int}(h:0<=k):cutD xs none (some k)=xs.take k.toNat:=by
 unfold cutD;rw[fA h,HT.sIx_none,Og,Oa];by_cases hk:k.toNat<=xs.length
 · rw[Mt hk]
 · rw[Mf (by omega),JQ (Jb _),JQ (by omega)]
theorem va:∀{cs:List Int}{ds:List IQ},Kr (fun x d=>∃b p,x = .int b/\d = .tuple [.int b,G8 p]/\IsEx b p) (cs.map Jt) ds->∃rows:List (Int×List Int),ds=rows.map (fun r=>.tuple [.int r.1,G8 r.2])/\rows.map (·.1)=cs/\∀r∈rows,IsEx r.1 r.2
 | [],_,h=>by cases h;exact⟨[],rfl,rfl,fun _ z=>nomatch z⟩
 | c::cs,_,h=>by
   cases h with
   | cons h r =>
     obtain⟨b,p,e1,e2,ex⟩:=h;cases e1;obtain⟨rows,h1,h2,h3⟩:=va r;refine⟨(c,p)::rows,by simp[e2,h1],by simp[h2],fun r hr=>?_⟩;rcases JA.mp hr with rfl|hr
     · exact ex
     · exact h3 r hr
def v6:List W->(IQ->Prop)->Prop:=fun ws Q=>∃b n:Int,ws=[.d (.int b),.d (.int n)]/\2<=b/\b<=16/\n<2^40/\∀e:Nat,n<=b^e->(∀k<e,b^k<n)->Q (.int e)
theorem v6.mono:∀ws (Q Q':IQ->Prop),(∀d,Q d->Q' d)->v6 ws Q->v6 ws Q':=fun _ _ _ h ⟨b,n,e,x,y,z,q⟩=>⟨b,n,e,x,y,z,fun p a b=>h _ (q p a b)⟩
theorem v6.len:∀ws (Q:IQ->Prop),v6 ws Q->ws.length=2:=fun _ _ ⟨_,_,e,_⟩=>by subst e;rfl
def pr(a b:Int):IQ:=.tuple [.int a,.int b]
def pW:List W->(IQ->Prop)->Prop:=fun ws Q=>∃a b c d:Int,ws=[.d (pr a b),.d (pr c d)]/\bR a d/\bR c b/\Q (.bool (decide (a*d<c*b)))
theorem pW.mono:∀ws (Q Q':IQ->Prop),(∀d,Q d->Q' d)->pW ws Q->pW ws Q':=fun _ _ _ h ⟨b,n,c,d,e,x,y,q⟩=>⟨b,n,c,d,e,x,y,h _ q⟩
theorem pW.len:∀ws (Q:IQ->Prop),pW ws Q->ws.length=2:=fun _ _ ⟨_,_,_,_,e,_⟩=>by subst e;rfl
def wf(f:Bool->IQ->IQ->IQ):List W->(IQ->Prop)->Prop:=fun ws Q=>∃a b c d:Int,ws=[.d (pr a b),.d (pr c d)]/\bR a d/\bR c b/\Q (f (decide (a*d<c*b)) (pr a b) (pr c d))
theorem wf.mono{f:Bool->IQ->IQ->IQ}:∀ws (Q Q':IQ->Prop),(∀d,Q d->Q' d)->wf f ws Q->wf f ws Q':=fun _ _ _ h ⟨b,n,c,d,e,x,y,q⟩=>⟨b,n,c,d,e,x,y,h _ q⟩
theorem wf.len{f:Bool->IQ->IQ->IQ}:∀ws (Q:IQ->Prop),wf f ws Q->ws.length=2:=fun _ _ ⟨_,_,_,_,e,_⟩=>by subst e;rfl
def zC(b n:Int):Nat:=((Jm 31).filter fun k=>decide (b^k<n)).length
theorem gA(h:1<=b){i:Nat}(hij:i<=j):b^i<=b^j:=by
 induction hij with
 | refl=>exact NQ _
 | step _ ih =>
   rw[Lw];have:0<=b^i:=Ob (KY (by omega))
   exact Int.le_trans ih (by
    rename_i m _;have hm:0<b^m:=KY (by omega);have:=KL h (Ob hm)
    omega)
theorem kM{a b:Int}(h0:0<=a)(h:a<=b):∀k:Nat,a^k<=b^k
 | 0=>by simp
 | k+1=>by
   rw[Lw,Lw];exact Int.mul_le_mul (kM h0 h k) h h0 (PF (by omega))
def BA(n:Int)(p:Int)(r:Int×List Int):Int:=p*max 1 ((r.1-1)*zC r.1 n)
def Aq(p n:Int):IQ:=xD (min n p) n
def Ga:List W->(IQ->Prop)->Prop:=fun ws Q=>∃rows n,ws=[.d (AQ rows),.d (.int n)]/\IsRow rows/\1<=n/\n<=2^31/\Q (Aq (rows.foldl (BA n) 1+rows.length) n)
theorem Ga.mono:∀ws (Q Q':IQ->Prop),(∀d,Q d->Q' d)->Ga ws Q->Ga ws Q':=fun _ _ _ h ⟨b,n,e,x,y,z,q⟩=>⟨b,n,e,x,y,z,h _ q⟩
theorem Ga.len:∀ws (Q:IQ->Prop),Ga ws Q->ws.length=2:=fun _ _ ⟨_,_,e,_⟩=>by subst e;rfl
theorem GlK.pair{K:W.Frag}{x:Str}{a:Int}{p:Addr}{sl:Array (Option I0)}{t u:Tok}(h1:W.nsIn K Ke x=some (some (.ref p)))
 (h2:K.lookup p=some ⟨.type "tuple", none,.seq #[.int a t,.int b u] n,sl⟩):GlK K x (pr a b):=by
 refine⟨.ref p,.ref p,h1,rfl,fun F=>.tup (vs:=[.int a,.int b]) (.inr ⟨_,_,n,h2,rfl,rfl,(by show 2<=sizeLine;decide),.cons ⟨t,rfl⟩ (.cons ⟨u,rfl⟩ .nil),rfl⟩) (.cons (.int a) (.cons (.int b) .nil))⟩
end L2.VL
set_option exponentiation.threshold 10000
namespace L2.VL
def digs(b n:Nat):List Nat:=if h:2<=b/\0<n then(n%b)::digs b (n / b)else []
termination_by n
decreasing_by exact NR h.2 h.1
theorem cU(b:Nat):digs b 0=[]:=by unfold digs;simp
theorem dH{b:Nat}(hb:2<=b)(hn:0<n):digs b n=(n%b)::digs b (n / b):=by
 rw[digs];simp[hb,hn]
theorem wR{b:Nat}(hb:2<=b):∀n:Nat,∀a∈digs b n,a<b:=by
 intro n
 induction n using NS with
 | ind n ih =>
   intro a ha;by_cases hn:0<n
   · rw[dH hb hn]at ha;rcases JA.mp ha with rfl|ha
     · exact Nat.mod_lt _ (by omega)
     · exact ih (n / b) (NR hn hb) a ha
   · have:n=0:=by omega
     subst this;rw[cU]at ha;cases ha
theorem sK{b:Nat}(hb:2<=b):∀n:Nat,0<n->b^(digs b n).length<=b*n:=by
 intro n
 induction n using NS with
 | ind n ih =>
   intro hn;rw[dH hb hn,JG,Oc];by_cases h:0<n / b
   · have:=ih (n / b) (NR hn hb) h;have h2:b*(n / b)<=n:=Nat.mul_div_le n b
     calc b^(digs b (n / b)).length*b<=(b*(n / b))*b:=Px b this
      _<=n*b:=Px b h2
      _=b*n:=N_ _ _
   · have:n / b=0:=Nat.eq_zero_of_not_pos h;rw[this,cU];simp;exact OJ b hn
def Ep(b:Int)(n:Nat):Int:=b^(digs b.toNat n).length
def stepT(b:Int)(p:List Int)(t:Int)(a:Nat):Int:=t*b+p.getD a 0
def Br(b:Int)(p:List Int)(n:Nat):Int:=(digs b.toNat n).foldl (stepT b p) 0
def Bp(b:Int)(p:List Int)(n:Nat):IQ:=xD (Br b p n) (Ep b n)
theorem wH{p:List Int}(ex:IsEx b p){a:Nat}(h:a<b.toNat):p[a]?=some (p.getD a 0)/\0<=p.getD a 0/\p.getD a 0<b:=by
 have hl:a<p.length:=by rw[ex.len];exact h
 have e:p.getD a 0=p[a]:=by simp[List.getD,hl]
 have:=ex.rng p[a] (JP hl);rw[e];exact⟨Jd hl,this⟩
def Cs:List W->(IQ->Prop)->Prop:=fun ws Q=>∃b n:Int,ws=[.d (.int b),.d (.int n)]/\2<=b/\b<=16/\0<=n/\n<2^100/\Q (.list ((digs b.toNat n.toNat).map fun(k:Nat)=>.int k))
theorem Cs.mono:∀ws (Q Q':IQ->Prop),(∀d,Q d->Q' d)->Cs ws Q->Cs ws Q':=fun _ _ _ h ⟨b,n,e,x,y,z,u,q⟩=>⟨b,n,e,x,y,z,u,h _ q⟩
theorem Cs.len:∀ws (Q:IQ->Prop),Cs ws Q->ws.length=2:=fun _ _ ⟨_,_,e,_⟩=>by subst e;rfl
def BV:List W->(IQ->Prop)->Prop:=fun ws Q=>∃(b:Int)(xs:List Int),ws=[.d (.int b),.d (.list (xs.map .int))]/\0<=b/\b<=16/\Q (.int (xs.reverse.foldl (fun t a=>t*b+a) 0))
theorem BV.mono:∀ws (Q Q':IQ->Prop),(∀d,Q d->Q' d)->BV ws Q->BV ws Q':=fun _ _ _ h ⟨b,n,e,x,y,q⟩=>⟨b,n,e,x,y,h _ q⟩
theorem BV.len:∀ws (Q:IQ->Prop),BV ws Q->ws.length=2:=fun _ _ ⟨_,_,e,_⟩=>by subst e;rfl
def uW(f:Int->List Int->Nat->IQ):List W->(IQ->Prop)->Prop:=fun ws Q=>∃(b:Int)(p:List Int)(n:Int),ws=[.d (.int b),.d (G8 p),.d (.int n)]/\2<=b/\b<=16/\IsEx b p/\0<=n/\n<2^100/\Q (f b p n.toNat)
theorem uW.mono{f:Int->List Int->Nat->IQ}:∀ws (Q Q':IQ->Prop),(∀d,Q d->Q' d)->uW f ws Q->uW f ws Q':=fun _ _ _ h ⟨b,p,n,e,x,y,z,u,v,q⟩=>⟨b,p,n,e,x,y,z,u,v,h _ q⟩
theorem uW.len{f:Int->List Int->Nat->IQ}:∀ws (Q:IQ->Prop),uW f ws Q->ws.length=3:=fun _ _ ⟨_,_,_,e,_⟩=>by subst e;rfl
theorem wQ{n:Int}(hb:0<=b)(hn:0<=n):n / b=((n.toNat / b.toNat:Nat):Int):=by
 obtain⟨k,rfl⟩:=JN hb;obtain⟨m,rfl⟩:=JN hn;simp
theorem rJ{n:Int}(hb:0<=b)(hn:0<=n):n%b=((n.toNat%b.toNat:Nat):Int):=by
 obtain⟨k,rfl⟩:=JN hb;obtain⟨m,rfl⟩:=JN hn;simp
def y9(rows:List (Int×List Int))(n:Nat):IQ:=.tuple (rows.map fun r=>Bp r.1 r.2 n)
def Eo(rows:List (Int×List Int))(n m:Nat):IQ:=.tuple ((Jm m).map fun i=>y9 rows (n+i))
def BN:List W->(IQ->Prop)->Prop:=fun ws Q=>∃rows n m,ws=[.d (AQ rows),.d (.int n),.d (.int m)]/\IsRow rows/\0<=n/\n<2^60/\0<=m/\m<=1000/\Q (Eo rows n.toNat m.toNat)
theorem BN.mono:∀ws (Q Q':IQ->Prop),(∀d,Q d->Q' d)->BN ws Q->BN ws Q':=fun _ _ _ h ⟨b,p,n,e,x,y,z,u,v,q⟩=>⟨b,p,n,e,x,y,z,u,v,h _ q⟩
theorem BN.len:∀ws (Q:IQ->Prop),BN ws Q->ws.length=3:=fun _ _ ⟨_,_,_,e,_⟩=>by subst e;rfl
def Fu:IQ->Int
 | .int i=>i
 | _=>0
def EJ(K:W.Frag)(F:Hp)(v:V)(ds:List IQ):Prop:=∃a vs,v = .ref a/\F a=some (.tup vs)/\Reps K F vs ds
def D3(K:W.Frag)(rl:RlT)(P:List W->(List IQ->Prop)->Prop):Sp:=fun vs H Q _=>∃F ws,bm F H/\HP rl F H/\cZ K rl F H vs ws/\ws.all cY=true/\P ws fun xs=>∀v F' H',Grow rl F H F' H'->EJ K F' v xs->Q v H'
def yx(Q:List IQ->Prop):VEnds:=⟨fun _=>False,fun w=>∃xs,w = .nt xs/\Q xs,fun _=>False,fun _=>False⟩
structure DfnT (P:Ju) (w:Kh) (K:W.Frag) (mg:Str->Option I0) (base:Heap) (rl:RlT) (x:Str) (ps:List Str) (k:Nat) (Pd:List W->(List IQ->Prop)->Prop):Prop where
 mono:∀ws Q Q',(∀d,Q d->Q' d)->Pd ws Q->Pd ws Q'
 ex:∃f fd,mg x=some (.ref f)/\W.keepIn K (.ref f)=true/\Binds K fd ps []/\FnOk P w K mg base IE k f fd ps (D3 K rl Pd)
section
variable{P:Ju}{w:Kh}{K:W.Frag}{mg:Str->Option I0}{base:Heap}{rl:RlT}{x:Str}{st:Stmt}{N ps:List Str}{k:Nat}{Pd:List W->(List IQ->Prop)->Prop}{t:HD}
theorem DfnT.of(Fn:FnIn K mg x st ps)(S:FnScope N ps (defScope st))(mono:∀ws Q Q',(∀d,Q d->Q' d)->Pd ws Q->Pd ws Q')(len:∀ws Q,Pd ws Q->ws.length=ps.length)
 (hbody:∀{f:Addr}(cdv:I0)(A:Ko)(outer:List Env)(s:Ja)(H:Hp)(E:XK),Room k (A.deeper (NL x (defScope st) s.heap.objs.size f cdv)) ->
  jk (lu IE P w K mg base N x (defScope st) f cdv A outer s H E).nox rl (defBody st) t)
 (hread:∀ws Q,Pd ws Q->t (yx Q) (ck N ws)):DfnT P w K mg base rl x ps (k+1) Pd:=by
 obtain⟨f,fd,hm,F,hb⟩:=Fn.ex;refine⟨mono,f,fd,hm,F.kp,hb,?_⟩;refine F.ok S (fun vs H Q E ⟨F,ws,_,_,r,_,q⟩=>(JU r).trans (len ws _ q)) fun cdv A outer s H vs Q E hr h=>?_;obtain⟨F,ws,sm,ra,r,ok,q⟩:=h;obtain⟨T,p,kk⟩:=hbody cdv A outer s H E hr;refine⟨T,p,kk (cx sm ra r ok) (yx _) _ ⟨fun _ _ _ _ _ _ z=>JR z,?_,fun _ _ _ _ _ _ z=>JR z,fun _ _ _ _ _ _ z=>JR z⟩ (hread ws _ q)⟩;rintro v w1 F1 H1 g1 r1 n1 ⟨xs,rfl,q1⟩;exact q1 v F1 H1 g1 r1
end
section
variable{X:Cx}{rl:RlT}{a b c e:Expr}{es:List Expr}{fa fb fc:TV}{fs:HC}{pos p p2 px apos cpos:Pos}
def mM:Ih->IQ
 | .inl i=>.int i
 | .inr x=>.str x
theorem dz{K:W.Frag}{F:Hp}:∀{vs:List V}{ks:List Ih},Reps K F vs (ks.map mM)->vs=ks.map kV
 | _,[],h=>h.nil_iff
 | _,.inl i::ks,.cons h r=>by rw[aB h,dz r];rfl
 | _,.inr i::ks,.cons h r=>by rw[gX h,dz r];rfl
def qA(kvs:List (List Ih×IQ))(k:List Ih):Option IQ:=(kvs.find? fun kv=>decide (kv.1=k)).map (·.2)
def xC(kvs:List (List Ih×IQ))(k:List Ih)(x:IQ):List (List Ih×IQ) :=
 if(kvs.any fun kv=>decide (kv.1=k))=true then kvs.map (fun kv=>if kv.1=k then(kv.1,x)else kv)else kvs++[(k,x)]
theorem KD.val{K:W.Frag}(r:KD K F us kvs)(k:List Ih):(dq us k=none/\qA kvs k=none)\/∃v d,dq us k=some v/\qA kvs k=some d/\Rep K F v d:=by
 induction r with
 | nil=>exact .inl ⟨rfl,rfl⟩
 | @cons p q ps qs h t ih =>
   unfold dq qA at *;rw[Ka,Ka,h.1];by_cases e:q.1=k
   · simp only[e,decide_true];exact .inr ⟨p.2,q.2,rfl,rfl,h.2⟩
   · simp only[e,decide_false];exact ih
theorem KD.any{K:W.Frag}(r:KD K F us kvs)(k:List Ih):(us.any fun kv=>decide (kv.1=k))=kvs.any fun kv=>decide (kv.1=k):=by
 induction r with
 | nil=>rfl
 | cons h t ih=>rw[Mw,Mw,ih,h.1]
theorem KD.repl{K:W.Frag}(r:KD K F us kvs)(k:List Ih)(rv:Rep K F v d):KD K F (us.map fun kv=>if kv.1=k then(kv.1,v)else kv) (kvs.map fun kv=>if kv.1=k then(kv.1,d)else kv):=by
 induction r with
 | nil=>exact .nil
 | @cons p q ps qs h t ih =>
   refine .cons ?_ ih;show(if p.1=k then(p.1,v)else p).1=(if q.1=k then(q.1,d)else q).1/\Rep K F (if p.1=k then(p.1,v)else p).2 (if q.1=k then(q.1,d)else q).2;by_cases e:q.1=k
   · have e':p.1=k:=h.1.trans e;rw[if_pos e,if_pos e'];exact⟨h.1,rv⟩
   · have e':¬p.1=k:=fun z=>e (h.1.symm.trans z);rw[if_neg e,if_neg e'];exact h
theorem KD.snoc{K:W.Frag}(r:KD K F us kvs)(k:List Ih)(rv:Rep K F v d):KD K F (us++[(k,v)]) (kvs++[(k,d)]):=by
 induction r with
 | nil=>exact .cons ⟨rfl,rv⟩ .nil
 | cons h t ih=>exact .cons h ih
theorem KD.put{K:W.Frag}(r:KD K F us kvs)(k:List Ih)(rv:Rep K F v d):KD K F (cT us k v) (xC kvs k d):=by
 unfold cT xC;rw[r.any k];split
 · exact r.repl k rv
 · exact r.snoc k rv
def tE:TV:=fun _ Q=>Q (.md [])
theorem uM:PV X rl (.Dict [] [] pos) tE:=by
 refine⟨_,rg,fun R Qd Q q h p hp=>?_⟩;refine h _ (.md []) _ _ (Grow.laid R.sub R.reel hp) ⟨p,[],rfl,R.sub.free hp,fun e=>?_,ak,.nil⟩ (fun a ea=>by cases ea;exact hp) q;obtain⟨o,z⟩:=R.reel.live e;rw[hp]at z;cases z
theorem VR.ownD{K:W.Frag}(r:VR K rl F₀ H₀ F H σ ρ){i:Nat}{xs ys:List (List Ih×IQ)}{a:Addr}(e:ρ[i]?=some (some (.md xs)))(es:σ[i]?=some (some (.ref a)))(rs:KD K F us ys) :
 VR K rl F₀ H₀ F (upd H a (.dT us)) σ (ρ.set i (some (.md ys))):=by
 obtain⟨v,h1,h2,h3⟩:=r.sl i _ e;rw[es]at h1;cases h1;obtain⟨a',vs,ev,f,hr,hh,q⟩:=(show jY K rl F H (.ref a) xs from h2);cases ev;have n0:H₀ a=none:=h3 a rfl;have hi:i<ρ.length:=(Jn.mp e).1;have neF:∀b u,F b=some u->b≠a:=fun b u q z=>by subst z;rw[f]at q;cases q
 have g:Grow rl F₀ H₀ F (upd H a (.dT us)):=by
  refine⟨fun b o q1 n=>by rw[ag (ay q1 n0)];exact r.g.same b o q1 n,r.g.fs,fun b o q1=>by rw[ag (neF b o q1)];exact r.sub b o q1,r.g.old,fun y z=>?_⟩;obtain⟨z1,⟨u,h1,h2⟩⟩:=r.reel y z;exact⟨z1,⟨u,by rw[ag (fun q=>hr (by rw[<- q];exact z))];exact h1,h2⟩⟩
 refine⟨g,fun j w e1=>?_,fun j k ys' zs u hjk e1 e2 w1 w2 s1 s2=>?_,fun j ys' z=>?_,by simp[r.len]⟩
 · by_cases hj:i=j
   · subst hj;rw[Jo hi]at e1;cases e1;exact⟨_,es,⟨a,us,rfl,f,hr,ak,rs⟩,h3⟩
   · rw[Jj hj]at e1;obtain⟨u,g1,g2,g3⟩:=r.sl j w e1;refine⟨u,g1,?_,g3⟩
     cases w with
     | d x=>exact g2
     | reel=>exact g2
     | vv u=>exact g2
     | ml zs =>
       obtain⟨b,us',eb,f1,f2,f3,f4⟩:=(show eE K rl F H u zs from g2);have ne:b≠a:=fun z=>r.ap i j _ _ (.ref a) hj e e1 rfl rfl es (by rw[g1,eb,z])
       exact⟨b,us',eb,f1,f2,by rw[ag ne];exact f3,f4⟩
     | pk zs=>exact absurd e1 (r.np j zs)
     | md zs =>
       obtain⟨b,us',eb,f1,f2,f3,f4⟩:=(show jY K rl F H u zs from g2);have ne:b≠a:=fun z=>r.ap i j _ _ (.ref a) hj e e1 rfl rfl es (by rw[g1,eb,z])
       exact⟨b,us',eb,f1,f2,by rw[ag ne];exact f3,f4⟩
     | mk zs =>
       obtain⟨b,us',eb,f1,f2,f3,f4⟩:=(show lH K rl F H u zs from g2);have ne:b≠a:=fun z=>r.ap i j _ _ (.ref a) hj e e1 rfl rfl es (by rw[g1,eb,z])
       exact⟨b,us',eb,f1,f2,by rw[ag ne];exact f3,f4⟩
     | nt ds=>exact g2
     | lk=>trivial
     | sc _=>exact g2
     | fd _=>exact g2
     | fw _=>exact g2
     | ft _=>exact g2
     | xc _ _=>exact g2
     | dp _ _=>exact g2
 · have nd:∀(j:Nat)(z:W),(ρ.set i (some (W.md ys)))[j]?=some (some z)->z.own=true->∃z',ρ[j]?=some (some z')/\z'.own=true:=fun j zs z o=>by
     by_cases hj:i=j
     · subst hj;exact⟨_,e,rfl⟩
     · rw[Jj hj]at z;exact⟨zs,z,o⟩
   obtain⟨_,d1,o1⟩:=nd j _ e1 w1;obtain⟨_,d2,o2⟩:=nd k _ e2 w2;exact r.ap j k _ _ u hjk d1 d2 o1 o2 s1 s2
 · rw[Kb]at z;split at z
   · first|cases z|(split at z<;>cases z)
   · exact r.np j ys' z
end
end L2.VL
namespace L2.IX
section
variable{prog:Ju}{w:Kh}{A:Ko}{E:I0->Ja->Prop}{s:Ja}
end
end L2.IX
namespace L2
section
variable{X:Cx}
end
end L2
namespace L2.VL
section
variable{X:Cx}{rl:RlT}{a b c e:Expr}{es:List Expr}{fa fb fc:TV}{fs:HC}{pos p p2 px apos cpos:Pos}
def gG:IQ->Bool
 | .none=>true
 | _=>false
def AW(neg:Bool):W->W->(W->Prop)->Prop:=fun x y Q=>∃d,x.dat=some d/\y = .d .none/\Q (.d (.bool (if neg then !gG d else gG d)))
theorem og{K:W.Frag}(h:Rep K F v d):decide (v=V.non)=gG d:=by
 cases h<;>first|rfl|exact decide_eq_false (fun z=>by cases z)
theorem xR:Hy X rl (fun x y H Q=>y = .non/\Q (.bl (decide (x = .non))) H) (AW false):=fun{F H x y wx wy} Qd Q s ra r1 r2 q k=>by
 obtain⟨d,e1,rfl,q⟩:=q;have e2:y = .non:=by cases(show Rep X.K F y .none from r2);rfl
 refine⟨e2,?_⟩;rw[og (r1.dat s e1)];exact k _ (.d _) _ _ (Grow.refl s ra) (.bl _) trivial q
theorem mT:Hy X rl (fun x y H Q=>y = .non/\Q (.bl (!decide (x = .non))) H) (AW true):=fun{F H x y wx wy} Qd Q s ra r1 r2 q k=>by
 obtain⟨d,e1,rfl,q⟩:=q;have e2:y = .non:=by cases(show Rep X.K F y .none from r2);rfl
 refine⟨e2,?_⟩;rw[og (r1.dat s e1)];exact k _ (.d _) _ _ (Grow.refl s ra) (.bl _) trivial q
end
end L2.VL
namespace L2.ZP
section
variable{prog:Ju}{w:Kh}{A:Ko}{E:I0->Ja->Prop}{s:Ja}{it a:Addr}{k:Nat}{xs:Array I0}{v:I0}
theorem u3(st:s.heap.IsTupleIter it a k)(tu:s.heap.IsTuple a xs)(e:xs[k]?=some v)
 (q:∀g,g.IsTupleIter it a (k+1)->Lu it s.heap g->Q v {s with heap:=g}):Jr (JE prog w) A (J9 (.ref it)) Q E s:=by
 have ty:=st.typeIs;obtain⟨o,oe,oc,od⟩:=st;obtain⟨l,le,_,_,ld⟩:=tu;unfold J9;have sl:=F.slot_tuple_iterator_next;refine IR (JV (name:=Str.ofString "__next__") ty sl (Kx sl ty F.entry_tuple_iterator_next ?_ (F.args_tuple_iterator_next_1 _)));show Jr _ _ (do let z <- Qy (.ref it) 0;_) _ _ s;refine IR (Kv oe od (x:=.ref a) rfl ?_);show Jr _ _ (ite ((K0 a==LI)=true) _ _) _ _ s;rw[if_neg (show ¬(K0 a == .none)=true by intro z;cases z)];show Jr _ _ (do let z <- Qy (.ref it) 1;_) _ _ s;refine IR (Kv oe od (x:=.int k 0) rfl ?_);show Jr _ _ (do let z <- seqItems? (.ref a);_) _ _ s;refine IR (LX le ld ?_);simp only[JJ,e];refine IR (Oh oe od (by simp) (IZ ⟨v,rfl,IZ (q _ ?_ (MH ..))⟩));refine⟨_,Np _ oe (Ph (MY od _)),?_,?_⟩
 · exact(Obj.cls_mapFields ..).trans oc
 · rw[MY od];simp[Oq]
theorem yr(hd:A.handled=none)(st:s.heap.IsTupleIter it a k)(tu:s.heap.IsTuple a xs)(e:xs[k]?=none)
 (q:∀g x,Qz it s.heap g->(∃o,g.get? x=some o/\o.cls = .type "StopIteration")->E (.ref x) {s with heap:=g}):Jr (JE prog w) A (J9 (.ref it)) Q E s:=by
 have ty:=st.typeIs;obtain⟨o,oe,oc,od⟩:=st;obtain⟨l,le,_,_,ld⟩:=tu;unfold J9;have sl:=F.slot_tuple_iterator_next;refine IR (JV (name:=Str.ofString "__next__") ty sl (Kx sl ty F.entry_tuple_iterator_next ?_ (F.args_tuple_iterator_next_1 _)));show Jr _ _ (do let z <- Qy (.ref it) 0;_) _ _ s;refine IR (Kv oe od (x:=.ref a) rfl ?_);show Jr _ _ (ite ((K0 a==LI)=true) _ _) _ _ s;rw[if_neg (show ¬(K0 a == .none)=true by intro z;cases z)];show Jr _ _ (do let z <- Qy (.ref it) 1;_) _ _ s;refine IR (Kv oe od (x:=.int k 0) rfl ?_);show Jr _ _ (do let z <- seqItems? (.ref a);_) _ _ s;refine IR (LX le ld ?_);simp only[JJ,e];refine IR (MK (IR (Oh oe od (by simp) ?_)));show Jr _ _ (do let z <- newExc (.type "StopIteration") [];_) _ _ _;refine IR ?_;simp only[newExc,newTuple];refine IR (JX ?_ (by size_fits));refine IR (m:=Oi _ _) (OI (a:=.none) (by first|rfl|(simp only[Oi];rfl)) (JX ?_ (by size_fits)));simp only[raiseNew];refine IR (wpAny_handled ?_)
 first
  | rw[show A.in1.handled=none from hd]
  | rw[hd]
 refine IR (IZ (wpAny_throw ?_));exact q _ _ (((MH ..).extBut.push _).push _) ⟨_,Jk _ rfl,rfl⟩
end
def Ix(h:Heap)(it a:Addr)(xs:Array I0)(k:Nat):Prop:=(h.IsListIter it a k/\h.IsList a xs)\/(h.IsTupleIter it a k/\h.IsTuple a xs)
section
variable{prog:Ju}{w:Kh}{A:Ko}{E:I0->Ja->Prop}{s:Ja}{it a:Addr}{k:Nat}{xs:Array I0}{v:I0}
theorem Ix.item(st:Ix s.heap it a xs k)(ne:a≠it)(e:xs[k]?=some v)
 (q:∀g,Ix g it a xs (k+1)->Lu it s.heap g->Q v {s with heap:=g}):Jr (JE prog w) A (J9 (.ref it)) Q E s:=by
 rcases st with⟨h1,h2⟩|⟨h1,h2⟩
 · exact wpAny_nextOf_list_item h1 h2 e fun g h3 h4=>q g (.inl ⟨h3,h2.extBut h4.extBut ne⟩) h4
 · exact u3 h1 h2 e fun g h3 h4=>q g (.inr ⟨h3,h2.extBut h4.extBut ne⟩) h4
theorem Ix.fin(hd:A.handled=none)(st:Ix s.heap it a xs k)(e:xs[k]?=none)
 (q:∀g x,Qz it s.heap g->(∃o,g.get? x=some o/\o.cls = .type "StopIteration")->E (.ref x) {s with heap:=g}):Jr (JE prog w) A (J9 (.ref it)) Q E s:=by
 rcases st with⟨h1,h2⟩|⟨h1,h2⟩
 · exact wpAny_nextOf_list_end hd h1 h2 e q
 · exact yr hd h1 h2 e q
theorem Ix.keep(st:Ix h it a xs k)(e1:∀o,h.get? it=some o->h'.get? it=some o)(e2:∀o,h.get? a=some o->h'.get? a=some o):Ix h' it a xs k:=by
 rcases st with⟨⟨o,h1,r1⟩,⟨p,h2,r2⟩⟩|⟨⟨o,h1,r1⟩,⟨p,h2,r2⟩⟩
 · exact .inl ⟨⟨o,e1 _ h1,r1⟩,⟨p,e2 _ h2,r2⟩⟩
 · exact .inr ⟨⟨o,e1 _ h1,r1⟩,⟨p,e2 _ h2,r2⟩⟩
theorem Ix.lt(st:Ix h it a xs k):it<h.objs.size/\a<h.objs.size:=by
 rcases st with⟨⟨o,h1,_⟩,⟨p,h2,_⟩⟩|⟨⟨o,h1,_⟩,⟨p,h2,_⟩⟩<;>exact⟨Jg h1,Jg h2⟩
end
section
variable{prog:Ju}{w:Kh}{A:Ko}{E:I0->Ja->Prop}{s:Ja}{z ti to i1 i2 a1 a2:Addr}{k1 k2:Nat}{xs ys:Array I0}{x y p q:I0}
theorem SameBut.keep{b:Addr}(sb:Lu a h h')(ne:b≠a):∀o,h.get? b=some o->h'.get? b=some o:=fun o e=>sb.extBut _ _ ne e
theorem uo(D:ZipApart z ti to i1 i2 a1 a2)(oz:P_ s.heap z ti to .none)(oi:NT s.heap ti (.ref i1) (.ref i2))(oo:NT s.heap to p q)
 (s1:Ix s.heap i1 a1 xs k1)(s2:Ix s.heap i2 a2 ys k2)(ex:xs[k1]?=some x)(ey:ys[k2]?=some y)
 (done:∀g,P_ g z ti to (Oq s.heap.objs.size)->NT g to x y->Ix g i1 a1 xs (k1+1)->Ix g i2 a2 ys (k2+1)->NT g s.heap.objs.size x y->g.objs.size=s.heap.objs.size+1 ->
  (∀b o,b≠z->b≠to->b≠i1->b≠i2->s.heap.get? b=some o->g.get? b=some o)->Q (.ref s.heap.objs.size) {s with heap:=g}) :
 Jr (JE prog w) A (Builtin.«zip.__next__» ⟨[.ref z],[]⟩) (fun r s'=>∃u,r = .done (.ret u)/\Q u s') E s:=by
 show Jr _ _ (do let c <- Qy (.ref z) 2;_) _ _ _;refine IR (Kv oz rfl (x:=.bool false) rfl ?_);show Jr _ _ (do let c <- Qy (.ref z) 3;_) _ _ _;refine IR (Kv oz rfl (x:=.ref ti) rfl ?_);refine IR (LX oi rfl ?_);show Jr _ _ (do let c <- Kn (.ref z);_) _ _ _;refine IR ?_;unfold Kn;refine IR (Kv oz rfl (x:=LI) rfl (IZ ?_));simp only[if_true];refine IR (MK (IR (Kv oz rfl (x:=.ref to) rfl (IR (KE oz (by simp) fun g1 z1 b1=>?_)))));have z1:P_ g1 z ti to .ellipsis:=z1;refine IR ?_;simp only[MV,List.forIn_nil,List.zipIdx_cons,List.zipIdx_nil];have s1a:Ix g1 i1 a1 xs k1:=s1.keep (SameBut.keep b1 D.i1z) (SameBut.keep b1 D.l1z);refine IR (IR (OK ?_));show Jr _ _ (do let c <- J9 (.ref i1);_) _ _ _;refine IR (s1a.item D.l1i1 ex fun g2 s1b b2=>IZ ?_);have o2:NT g2 to p q:=b2.extBut _ _ D.TOi1 (b1.extBut _ _ D.TOz oo);refine IR (LX o2 rfl (IR (NB o2 fun g3 o3 b3=>?_)));have o3:NT g3 to x q:=o3;refine IR (OL (IZ ?_));have s2a:Ix g3 i2 a2 ys k2:=((s2.keep (SameBut.keep b1 D.i2z) (SameBut.keep b1 D.l2z)).keep (SameBut.keep b2 D.i12.symm) (SameBut.keep b2 D.l2i1)).keep (SameBut.keep b3 D.TOi2.symm) (SameBut.keep b3 D.l2TO);refine IR (IR (OK ?_));show Jr _ _ (do let c <- J9 (.ref i2);_) _ _ _;refine IR (s2a.item D.l2i2 ey fun g4 s2b b4=>IZ ?_);have o4:NT g4 to x q:=b4.extBut _ _ D.TOi2 o3;refine IR (LX o4 rfl (IR (NB o4 fun g5 o5 b5=>?_)));have o5:NT g5 to x y:=o5;refine IR (OL (IZ (IZ ?_)));refine IR (LX o5 rfl (IR (wpAny_newTuple ?_)));have size:g5.objs.size=s.heap.objs.size:=by rw[b5.1,b4.1,b3.1,b2.1,b1.1]
 have z5:P_ g5 z ti to .ellipsis:=b5.extBut _ _ D.TOz.symm (b4.extBut _ _ D.i2z.symm (b3.extBut _ _ D.TOz.symm (b2.extBut _ _ D.i1z.symm z1)));have kp:∀b o,b≠z->b≠to->b≠i1->b≠i2->s.heap.get? b=some o->g5.get? b=some o:=fun b o n1 n2 n3 n4 e=>b5.extBut _ _ n2 (b4.extBut _ _ n4 (b3.extBut _ _ n2 (b2.extBut _ _ n3 (b1.extBut _ _ n1 e))));have s1c:Ix g5 i1 a1 xs (k1+1):=((s1b.keep (SameBut.keep b3 D.TOi1.symm) (SameBut.keep b3 D.l1TO)).keep (SameBut.keep b4 D.i12) (SameBut.keep b4 D.l1i2)).keep (SameBut.keep b5 D.TOi1.symm) (SameBut.keep b5 D.l1TO);have s2c:Ix g5 i2 a2 ys (k2+1):=s2b.keep (SameBut.keep b5 D.TOi2.symm) (SameBut.keep b5 D.l2TO);have zl:z<g5.objs.size:=Jg z5;show Jr _ _ (do K1 (.ref z) (.ref g5.objs.size);_) _ _ _;refine IR ?_;unfold K1;have z6:P_ (g5.push {cls:=.type "tuple", data:=.seq #[x,y]}) z ti to .ellipsis:=IW _ z5;refine IR (KE z6 (by simp) fun g7 z7 b7=>?_);have z7:P_ g7 z ti to (Oq g5.objs.size):=z7;refine KE z7 (by simp) fun g8 z8 b8=>?_;have z8:P_ g8 z ti to (Oq g5.objs.size):=z8;have up:∀b o,b≠z->g5.get? b=some o->g8.get? b=some o:=fun b o n e=>b8.extBut _ _ n (b7.extBut _ _ n (IW _ e));have t8:NT g8 g5.objs.size x y:=b8.extBut _ _ (Mq zl) (b7.extBut _ _ (Mq zl) (Jk _ rfl));have l8:g8.objs.size=g5.objs.size+1:=by rw[b8.1,b7.1,KC]
 rw[size]at z8 t8 l8;refine IZ ⟨_,rfl,?_⟩;show Q (.ref g5.objs.size) _;rw[size];exact done g8 z8 (up _ _ D.TOz o5) (s1c.keep (fun o e=>up _ o D.i1z e) fun o e=>up _ o D.l1z e) (s2c.keep (fun o e=>up _ o D.i2z e) fun o e=>up _ o D.l2z e) t8 l8 fun b o n1 n2 n3 n4 e=>up b o n1 (kp b o n1 n2 n3 n4 e)
theorem xI{Q:Fin->Ja->Prop}(hd:A.handled=none)(D:ZipApart z ti to i1 i2 a1 a2)(oz:P_ s.heap z ti to .none)(oi:NT s.heap ti (.ref i1) (.ref i2))(oo:NT s.heap to p q)
 (s1:Ix s.heap i1 a1 xs k1)(s2:Ix s.heap i2 a2 ys k2)(e:xs[k1]?=none\/ys[k2]?=none)
 (q':∀g x,(∀b o,b≠z->b≠to->b≠i1->b≠i2->s.heap.get? b=some o->g.get? b=some o)->(∃o,g.get? x=some o/\o.cls = .type "StopIteration")->E (.ref x) {s with heap:=g}) :
 Jr (JE prog w) A (Builtin.«zip.__next__» ⟨[.ref z],[]⟩) Q E s:=by
 show Jr _ _ (do let c <- Qy (.ref z) 2;_) _ _ _;refine IR (Kv oz rfl (x:=.bool false) rfl ?_);show Jr _ _ (do let c <- Qy (.ref z) 3;_) _ _ _;refine IR (Kv oz rfl (x:=.ref ti) rfl ?_);refine IR (LX oi rfl ?_);show Jr _ _ (do let c <- Kn (.ref z);_) _ _ _;refine IR ?_;unfold Kn;refine IR (Kv oz rfl (x:=LI) rfl (IZ ?_));simp only[if_true];refine IR (MK (IR (Kv oz rfl (x:=.ref to) rfl (IR (KE oz (by simp) fun g1 z1 b1=>?_)))));have z1:P_ g1 z ti to .ellipsis:=z1;refine IR ?_;simp only[MV,List.forIn_nil,List.zipIdx_cons,List.zipIdx_nil];have s1a:Ix g1 i1 a1 xs k1:=s1.keep (SameBut.keep b1 D.i1z) (SameBut.keep b1 D.l1z);refine IR (IR (OK ?_));show Jr _ _ (do let c <- J9 (.ref i1);_) _ _ _
 have last:∀(g g':Heap)(u:Addr)(o:Obj),g.get? u=some o->o.cls = .type "StopIteration" -> P_ g z ti to .ellipsis->Lu z g g'->∃o,g'.get? u=some o/\o.cls = .type "StopIteration" := fun g g' u o h1 h2 h3 sb=>by
  have ne:u≠z:=fun c=>by rw[c,h3]at h1;cases h1;simp at h2
  exact⟨o,sb.extBut _ _ ne h1,h2⟩
 cases ex:xs[k1]? with
 | none =>
   refine IR (s1a.fin hd ex fun g2 u b2 ⟨o,ou,oc⟩=>?_);have z2:P_ g2 z ti to .ellipsis:=b2 _ _ D.i1z.symm z1
   exact KE z2 (by simp) fun g3 _ b3=>q' g3 u (fun b o n1 _ n3 _ e=>b3.extBut _ _ n1 (b2 _ _ n3 (b1.extBut _ _ n1 e))) (last g2 g3 u o ou oc z2 b3)
 | some x =>
   have ey:ys[k2]?=none:=e.elim (fun h=>by rw[ex]at h;cases h) id;refine IR (s1a.item D.l1i1 ex fun g2 s1b b2=>IZ ?_);have o2:NT g2 to p q:=b2.extBut _ _ D.TOi1 (b1.extBut _ _ D.TOz oo);refine IR (LX o2 rfl (IR (NB o2 fun g3 o3 b3=>?_)));refine IR (OL (IZ ?_));have s2a:Ix g3 i2 a2 ys k2:=((s2.keep (SameBut.keep b1 D.i2z) (SameBut.keep b1 D.l2z)).keep (SameBut.keep b2 D.i12.symm) (SameBut.keep b2 D.l2i1)).keep (SameBut.keep b3 D.TOi2.symm) (SameBut.keep b3 D.l2TO);refine IR (IR (OK ?_));show Jr _ _ (do let c <- J9 (.ref i2);_) _ _ _;refine IR (s2a.fin hd ey fun g4 u b4 ⟨o,ou,oc⟩=>?_);have z4:P_ g4 z ti to .ellipsis:=b4 _ _ D.i2z.symm (b3.extBut _ _ D.TOz.symm (b2.extBut _ _ D.i1z.symm z1));exact KE z4 (by simp) fun g5 _ b5=>q' g5 u (fun b o n1 n2 n3 n4 e=>b5.extBut _ _ n1 (b4 _ _ n4 (b3.extBut _ _ n2 (b2.extBut _ _ n3 (b1.extBut _ _ n1 e))))) (last g4 g5 u o ou oc z4 b5)
end
def HL(b:Bool)(h:Heap)(a:Addr)(xs:Array I0):Prop:=bif b then h.IsTuple a xs else h.IsList a xs
def GL(b:Bool):String:=bif b then "tuple_iterator" else "list_iterator"
theorem HL.push{b:Bool}{h:Heap}{a:Addr}{xs:Array I0}(q:HL b h a xs)(o:Obj):HL b (h.push o) a xs:=by
 cases b with
 | true=>exact Heap.IsTuple.push q o
 | false=>exact Heap.IsList.push q o
section
variable{prog:Ju}{w:Kh}{A:Ko}{E:I0->Ja->Prop}{s:Ja}{b b1 b2:Bool}{a a1 a2:Addr}{xs ys:Array I0}
theorem rS(st:HL b s.heap a xs)(q:Q (.ref s.heap.objs.size) {s with heap:=s.heap.push {cls:=.type (GL b),data:=.fields #[.ref a,.int 0 0]}}):Jr (JE prog w) A (Qb (.ref a)) Q E s:=by
 cases b with
 | true=>exact N4 st q
 | false=>exact wpAny_pyIter_list st q
abbrev y1(h:Heap)(b1:Bool)(a1:Addr):Heap:=h.push {cls:=.type (GL b1),data:=.fields #[.ref a1,.int 0 0]}
abbrev y2(h:Heap)(b1 b2:Bool)(a1 a2:Addr):Heap:=(y1 h b1 a1).push {cls:=.type (GL b2),data:=.fields #[.ref a2,.int 0 0]}
abbrev y3(h:Heap)(b1 b2:Bool)(a1 a2:Addr):Heap:=(y2 h b1 b2 a1 a2).push {cls:=.type "tuple", data:=.seq #[.ref h.objs.size,.ref (y1 h b1 a1).objs.size]}
abbrev y4(h:Heap)(b1 b2:Bool)(a1 a2:Addr):Heap:=(y3 h b1 b2 a1 a2).push {cls:=.type "tuple", data:=.seq #[.none,.none]}
abbrev y5(h:Heap)(b1 b2:Bool)(a1 a2:Addr):Heap:=(y4 h b1 b2 a1 a2).push {cls:=.type "zip", data:=.fields #[.none,.bool false,.bool false,.ref (y2 h b1 b2 a1 a2).objs.size,.ref (y3 h b1 b2 a1 a2).objs.size]}
theorem uq(b1 b2:Bool)(a1 a2:Addr)(xs ys:Array I0) :
 Meets (Builtin.«zip.__new__» ⟨[.type "zip", .ref a1,.ref a2],[]⟩) (fun _ R s=>HL b1 s.heap a1 xs/\HL b2 s.heap a2 ys/\R (.ok (.ret (.ref (y4 s.heap b1 b2 a1 a2).objs.size))) {s with heap:=y5 s.heap b1 b2 a1 a2}) :=
 .of_wp fun prog w A R s h=>by
  obtain⟨hp,g,d,tk,os⟩:=s;obtain⟨q1,q2,h⟩:=h;have hsub:=sub_zip;have k1:HL b1 (QA ⟨hp,g,d,tk,os⟩) a1 xs:=q1;have k2:HL b2 (QA ⟨hp.push {cls:=.type (GL b1),data:=.fields #[.ref a1,.int 0 0]},g,d,tk,os⟩) a2 ys:=q2.push _
  wp_walk using rS k1,rS k2
  exact⟨_,rfl,h⟩
theorem sQ(q1:HL b1 s.heap a1 xs)(q2:HL b2 s.heap a2 ys)
 (k:∀g,P_ g (s.heap.objs.size+4) (s.heap.objs.size+2) (s.heap.objs.size+3) .none->NT g (s.heap.objs.size+2) (.ref s.heap.objs.size) (.ref (s.heap.objs.size+1))->NT g (s.heap.objs.size+3) .none .none ->
  Ix g s.heap.objs.size a1 xs 0->Ix g (s.heap.objs.size+1) a2 ys 0->g.objs.size=s.heap.objs.size+5->(∀c o,s.heap.get? c=some o->g.get? c=some o)->Q (.ref (s.heap.objs.size+4)) {s with heap:=g}) :
 Jr (JE prog w) A (call (.type "zip") [.ref a1,.ref a2]) Q E s:=by
 refine callType_new F.called_zip (by decide) (F.typeCall_zip_2 _ _) (F.newCall_zip_2 _ _) (fun u=>F.args_object_init_3 u _ _) F.entry_zip_new (uq b1 b2 a1 a2 xs ys) ⟨q1,q2,?_⟩;have n1:(y1 s.heap b1 a1).objs.size=s.heap.objs.size+1:=KC ..;have n2:(y2 s.heap b1 b2 a1 a2).objs.size=s.heap.objs.size+2:=by rw[KC,n1]
 have n3:(y3 s.heap b1 b2 a1 a2).objs.size=s.heap.objs.size+3:=by rw[KC,n2]
 have n4:(y4 s.heap b1 b2 a1 a2).objs.size=s.heap.objs.size+4:=by rw[KC,n3]
 have n5:(y5 s.heap b1 b2 a1 a2).objs.size=s.heap.objs.size+5:=by rw[KC,n4]
 have pu:∀{h:Heap}{o u:Obj}{c:Addr},h.get? c=some u->(h.push o).get? c=some u:=fun e=>IW _ e;have kp:∀c o,s.heap.get? c=some o->(y5 s.heap b1 b2 a1 a2).get? c=some o:=fun c o e=>pu (pu (pu (pu (pu e))));have f5:(y5 s.heap b1 b2 a1 a2).get? (y4 s.heap b1 b2 a1 a2).objs.size=some _:=Jk _ rfl;have f4:(y5 s.heap b1 b2 a1 a2).get? (y3 s.heap b1 b2 a1 a2).objs.size=some _:=pu (Jk _ rfl);have f3:(y5 s.heap b1 b2 a1 a2).get? (y2 s.heap b1 b2 a1 a2).objs.size=some _:=pu (pu (Jk _ rfl));have f2:(y5 s.heap b1 b2 a1 a2).get? (y1 s.heap b1 a1).objs.size=some _:=pu (pu (pu (Jk _ rfl)));have f1:(y5 s.heap b1 b2 a1 a2).get? s.heap.objs.size=some _:=pu (pu (pu (pu (Jk _ rfl))));show _/\_;rw[n2,n3,n4]at f5;rw[n1,n2]at f3;rw[n3]at f4;rw[n1]at f2;rw[n4]
 have mk:∀{b:Bool}{i a:Addr}{zs:Array I0},(y5 s.heap b1 b2 a1 a2).get? i=some {cls:=.type (GL b),data:=.fields #[.ref a,.int 0 0]}->HL b s.heap a zs->Ix (y5 s.heap b1 b2 a1 a2) i a zs 0:=fun{b i a zs} e q=>by
  cases b with
  | true=>obtain⟨o,h1,h2⟩:=(show s.heap.IsTuple a zs from q);exact .inr ⟨⟨_,e,rfl,rfl⟩,⟨o,kp _ _ h1,h2⟩⟩
  | false=>obtain⟨o,h1,h2⟩:=(show s.heap.IsList a zs from q);exact .inl ⟨⟨_,e,rfl,rfl⟩,⟨o,kp _ _ h1,h2⟩⟩
 exact⟨⟨_,f5,rfl⟩,k _ f5 f3 f4 (mk f1 q1) (mk f2 q2) n5 kp⟩
end
end L2.ZP
namespace L2
open PySem PySem.Spec PyProof.Rows L2.ZP
theorem Inv.turnedL{ch:List Addr}(I:Inv X pins σ H s)(k:∀b o,b∉ch->s.heap.get? b=some o->h'.get? b=some o)(hn:∀b∈ch,jf X pins H b) :
 Inv X pins σ H {s with heap:=h',toks:=t' }:=by
 have nit:∀b u,H b=some u->b∉ch:=fun b u e z=>by rw[(hn b z).1]at e;cases e
 refine I.step (g':=s.gens) (d':=s.drawn) (ch:=ch) (fun b hb=>?_) (fun b o _ _ hc e _=>k b o hc e) (fun b o _ _ hc e _=>⟨o.slots,k b o hc e⟩) (fun _ _ _ _ n=>n) (fun b o hc e=>⟨o,k b o hc e⟩) (fun _ _ e=>e) (fun _ _ _ e=>e) (fun b ps e=>⟨#[],by rw[e];simp⟩) (fun m hm=>?_) (fun b u e=>?_) I.bare
 · obtain⟨_,h2,_,h4,h5,h6⟩:=hn b hb;exact⟨h4,h2,h5,h6⟩
 · obtain⟨o,es,ep,ho,r⟩:=hm;exact⟨o,es,ep,k _ o (fun z=>(hn _ z).2.1 rfl) ho,r⟩
 · refine(I.hok b u e).stay (fun c v hc q=>k c v ?_ q) (fun _ q=>q) fun _ _ q=>q;rcases hc with z|z
   · rw[z];exact nit b u e
   · exact nit c _ z
def HK(b:Bool)(K:W.Frag)(H:Hp)(a:Addr)(xs:List V):Prop:=bif b then HI K H a xs else HJ K H a xs
theorem Inv.sqB{b:Bool}{xs:List V}(I:Inv X pins σ H s)(h:HK b X.K H a xs):∃its,bP xs its/\HL b s.heap a its.toArray:=by
 cases b with
 | true =>
   obtain⟨its,r,t,z⟩:=I.tuple h
   exact⟨its,r,t⟩
 | false =>
   obtain⟨its,r,p,z⟩:=I.list h;exact⟨its,r,p.isList⟩
theorem Inv.sqB_inj{b:Bool}{xs ys:List V}(I:Inv X pins σ H s)(h:HK b X.K H a xs)(h':HK b X.K H a ys):xs=ys:=by
 cases b with
 | true=>exact I.tuple_inj h h'
 | false=>exact I.list_inj h h'
def Il(K:W.Frag)(b1 b2:Bool)(a1 a2:Addr):It :=
 ⟨fun i H=>∃xs ys x y,HK b1 K H a1 xs/\HK b2 K H a2 ys/\xs[i]?=some x/\ys[i]?=some y,
  fun i H v H'=>∃x y p,(∀xs,HK b1 K H a1 xs->xs[i]?=some x)/\(∀ys,HK b2 K H a2 ys->ys[i]?=some y)/\H p=none/\v = .ref p/\H'=upd H p (.tup [x,y]),
  fun i H=>∃xs ys,HK b1 K H a1 xs/\HK b2 K H a2 ys/\(xs.length<=i\/ys.length<=i)⟩
def Iz(b:Bool)(h:Heap)(it a:Addr)(k:Nat):Prop:=bif b then h.IsTupleIter it a k else h.IsListIter it a k
theorem Iz.it1{b:Bool}{k:Nat}{xs:Array I0}(q:Iz b h it a k)(r:HL b h a xs):Ix h it a xs k:=by
 cases b with
 | true=>exact .inr ⟨q,r⟩
 | false=>exact .inl ⟨q,r⟩
theorem Iz.keep{b:Bool}{k:Nat}(q:Iz b h it a k)(e:∀o,h.get? it=some o->h'.get? it=some o):Iz b h' it a k:=by
 cases b with
 | true=>obtain⟨o,h1,r⟩:=(show h.IsTupleIter it a k from q);exact⟨o,e _ h1,r⟩
 | false=>obtain⟨o,h1,r⟩:=(show h.IsListIter it a k from q);exact⟨o,e _ h1,r⟩
theorem Iz.obj{b:Bool}{k:Nat}(q:Iz b h it a k):∃o,h.get? it=some o/\∀v,o.data ≠ .cell v:=by
 cases b with
 | true=>obtain⟨o,h1,_,d⟩:=(show h.IsTupleIter it a k from q);exact⟨o,h1,fun v z=>by rw[d]at z;cases z⟩
 | false=>obtain⟨o,h1,_,d⟩:=(show h.IsListIter it a k from q);exact⟨o,h1,fun v z=>by rw[d]at z;cases z⟩
theorem Ix.ir{b:Bool}{k:Nat}{xs:Array I0}{h0:Heap}(q:Ix h it a xs k)(r:Iz b h0 it a j)(s:HL b h a xs):Iz b h it a k:=by
 cases b with
 | true =>
   rcases q with⟨_,⟨o,e,c,_⟩⟩|⟨q,_⟩
   · obtain⟨o',e',c',_⟩:=(show h.IsTuple a xs from s);rw[e]at e';cases e';rw[c]at c';injection c' with z;exact absurd z (by decide)
   · exact q
 | false =>
   rcases q with⟨q,_⟩|⟨_,⟨o,e,c,_⟩⟩
   · exact q
   · obtain⟨o',e',c',_⟩:=(show h.IsList a xs from s);rw[e]at e';cases e';rw[c]at c';injection c' with z;exact absurd z (by decide)
def ZS(b1 b2:Bool)(z ti to i1 i2 a1 a2:Addr)(i:Nat)(h:Heap):Prop:=P_ h z ti to .none/\NT h ti (.ref i1) (.ref i2)/\(∃p q,NT h to p q)/\Iz b1 h i1 a1 i/\Iz b2 h i2 a2 i
theorem HL.of{b:Bool}{xs:Array I0}(q:HL b h a xs)(e:∀o,h.get? a=some o->h'.get? a=some o):HL b h' a xs:=by
 cases b with
 | true=>obtain⟨o,h1,r⟩:=(show h.IsTuple a xs from q);exact⟨o,e _ h1,r⟩
 | false=>obtain⟨o,h1,r⟩:=(show h.IsList a xs from q);exact⟨o,e _ h1,r⟩
theorem qJ{w:Kh}{K:W.Frag}{elts:List Expr}{kt:Nat}{pt:Pos}(b1 b2:Bool)(z ti to i1 i2 a1 a2:Addr)(D:ZipApart z ti to i1 i2 a1 a2) :
 Turn P w K (.Tuple elts kt pt) (Il K b1 b2 a1 a2) [z,ti,to,i1,i2] z (ZS b1 b2 z ti to i1 i2 a1 a2) where
 mem:=by simp
 obj:=fun i h ⟨h1,h2,⟨p,q,h3⟩,h4,h5⟩ b hb=>by
  simp at hb;rcases hb with rfl|rfl|rfl|rfl|rfl
  · exact⟨_,h1,fun v c=>by cases c⟩
  · exact⟨_,h2,fun v c=>by cases c⟩
  · exact⟨_,h3,fun v c=>by cases c⟩
  · exact h4.obj
  · exact h5.obj
 keep:=fun i h h' ⟨h1,h2,⟨p,q,h3⟩,h4,h5⟩ k=>⟨k z (by simp) _ h1,k ti (by simp) _ h2,⟨p,q,k to (by simp) _ h3⟩,h4.keep fun o e=>k i1 (by simp) o e,h5.keep fun o e=>k i2 (by simp) o e⟩
 item:=by
  intro X hP hw hK hc i pins s σ H E I hf st hg;subst hP hw hK;obtain⟨h1,h2,⟨p,q,h3⟩,h4,h5⟩:=st;obtain⟨xs,ys,x,y,q1,q2,ex,ey⟩:=hg;obtain⟨its,r1,t1⟩:=I.sqB q1;obtain⟨jts,r2,t2⟩:=I.sqB q2;obtain⟨u,hu,ru⟩:=r1.get ex;obtain⟨v,hv,rv⟩:=r2.get ey;have ty:s.TypeIs (.ref z) "zip" := ⟨_,h1,rfl⟩;unfold NJ
  refine IR (MZ (JV (name:=Str.ofString "__next__") ty F.slot_zip_next (Kx F.slot_zip_next ty F.entry_zip_next
   (uo D h1 h2 h3 (h4.it1 t1) (h5.it1 t2) (by simpa using hu) (by simpa using hv) fun g e1 e2 e3 e4 e5 e6 e7=>IZ ?_) (F.args_zip_next_1 _))))
  have hz:s.heap.objs.size≠z:=Mq (Jg h1);refine⟨.ref s.heap.objs.size,rfl,wpAny_letOwnedTupleGo_zip e1 fun g' f1 fb=>?_⟩;have hp:H s.heap.objs.size=none:=I.hok.fresh (Jb _)
  have I1:Inv X pins σ (upd H s.heap.objs.size (.tup [x,y])) {s with heap:=s.heap.push {cls:=.type "tuple", data:=.seq [u,v].toArray}} :=
   I.laid (t':=s.toks) (o:=.tup [x,y]) (fun b ob e=>IW _ e) (Jb _) ⟨(by show 2<=sizeLine;decide),[u,v],.cons ru (.cons rv .nil),qm.new _ _⟩
  have ne:∀b∈[z,ti,to,i1,i2],b≠s.heap.objs.size:=fun b hb e=>by
   simp at hb;rcases hb with rfl|rfl|rfl|rfl|rfl
   · exact hz e.symm
   · exact absurd (Jg h2) (by rw[e];exact Ki _)
   · exact absurd (Jg h3) (by rw[e];exact Ki _)
   · obtain⟨o,ho,_⟩:=h4.obj;exact absurd (Jg ho) (by rw[e];exact Ki _)
   · obtain⟨o,ho,_⟩:=h5.obj;exact absurd (Jg ho) (by rw[e];exact Ki _)
  have kg:∀b o,b∉[z,ti,to,i1,i2]->(s.heap.push {cls:=.type "tuple", data:=.seq [u,v].toArray}).get? b=some o->g'.get? b=some o:=fun b o hb e=>by
   simp at hb;obtain⟨n1,n2,n3,n4,n5⟩:=hb;refine fb.extBut _ _ n1 ?_;by_cases hbn:b=s.heap.objs.size
   · subst hbn;rw[Jk _ rfl]at e;cases e;exact e5
   · exact e7 b o n1 n3 n4 n5 (by rw[Heap.get?_push_ne _ _ _ hbn]at e;exact e)
  have fp1:∀b∈[z,ti,to,i1,i2],jf X pins (upd H s.heap.objs.size (.tup [x,y])) b:=fun b hb=>by
   obtain⟨f0,fr⟩:=hf b hb;exact⟨by rw[ag (ne b hb)];exact f0,fr⟩
  have I2:Inv X pins σ (upd H s.heap.objs.size (.tup [x,y])) {s with heap:=g' }:=I1.turnedL (t':=s.toks) kg fp1;have k8:∀b o,b≠z->g.get? b=some o->g'.get? b=some o:=fun b o n e=>fb.extBut _ _ n e;have t1':HL b1 g a1 its.toArray:=HL.of t1 fun o e=>e7 _ o D.l1z D.l1TO D.l1i1 D.l1i2 e;have t2':HL b2 g a2 jts.toArray:=HL.of t2 fun o e=>e7 _ o D.l2z D.l2TO D.l2i1 D.l2i2 e;refine⟨.ref s.heap.objs.size,_,I2,rfl,⟨x,y,_,fun xs' q'=>by rw[I.sqB_inj q' q1];exact ex,fun ys' q'=>by rw[I.sqB_inj q' q2];exact ey,hp,rfl,rfl⟩,⟨f1,k8 _ _ D.TIz (e7 _ _ D.TIz D.TITO D.TIi1 D.TIi2 h2),⟨_,_,k8 _ _ D.TOz e2⟩,(Ix.ir e3 h4 t1').keep fun o e=>k8 _ o D.i1z e,(Ix.ir e4 h5 t2').keep fun o e=>k8 _ o D.i2z e⟩,fun b hb=>(fp1 b hb).1⟩
 done:=by
  intro X hP hw hK hc i pins s σ H E I hf st hg;subst hP hw hK;obtain⟨h1,h2,⟨p,q,h3⟩,h4,h5⟩:=st;obtain⟨xs,ys,q1,q2,ex⟩:=hg;obtain⟨its,r1,t1⟩:=I.sqB q1;obtain⟨jts,r2,t2⟩:=I.sqB q2;have l1:=r1.length;have l2:=r2.length;have ty:s.TypeIs (.ref z) "zip" := ⟨_,h1,rfl⟩;unfold NJ
  refine IR (MZ (JV (name:=Str.ofString "__next__") ty F.slot_zip_next (Kx F.slot_zip_next ty F.entry_zip_next
   (xI (I.ok.hd hc) D h1 h2 h3 (h4.it1 t1) (h5.it1 t2) (by simp;omega) fun g e kg ⟨o,ho,hoc⟩=>?_) (F.args_zip_next_1 _))))
  refine IR (OQ (T := "StopIteration") (b:=true) ⟨o,ho,hoc⟩ PH (IZ ⟨rfl,?_⟩));exact I.turnedL (t':=s.toks) (fun b o hb e=>by simp at hb;exact kg b o hb.1 hb.2.2.1 hb.2.2.2.1 hb.2.2.2.2 e) hf
 self:=fun _ _ _ _ _ st h=>wpAny_pyIter_zip st.1 h
open PySem PySem.Spec PyProof.Rows L2.ZP
section
variable{X:Cx}{e1 e2:Expr}{ta:TA}{elts:List Expr}{kt:Nat}{pt p pos:Pos}
def Eu(K:W.Frag)(b1 b2:Bool)(t:TA):TI:=fun σ H R=>t σ H fun vs H1=>∃a1 a2 xs ys,vs=[.ref a1,.ref a2]/\HK b1 K H1 a1 xs/\HK b2 K H1 a2 ys/\R (Il K b1 b2 a1 a2) H1
theorem y_(b1 b2:Bool)(hg:Gl X "zip")(hm:X.mg "zip" = none)(ha:PA X [e1,e2] ta)(hs:Jc [e1,e2] X.env=(false,eval e1 X.env)::Jc [e2] X.env:=by rfl)(hpl:(KB pos (Jc [e2] X.env)).any (·.1)=false:=by rfl) :
 PI X (.Tuple elts kt pt) (.Call (.Name "zip" p) [e1,e2] [] pos) (Eu X.K b1 b2 ta):=by
 intro pins s σ H R I h;refine Call_ (fG I hg hm (by rfl) (KR (FB (ha pos pins s σ H _ I h) fun us s1 ⟨vs,H1,I1,r1,q1⟩=>?_) hs hpl) (by decide) (by decide));obtain⟨a1,a2,xs,ys,ev,q1,q2,q⟩:=q1;subst ev
 cases r1 with
 | cons r rr =>
   cases rr with
   | cons r' rr =>
     cases rr;cases r;cases r';obtain⟨its,v1,t1⟩:=I1.sqB q1;obtain⟨jts,v2,t2⟩:=I1.sqB q2;refine sQ t1 t2 fun g f1 f2 f3 f4 f5 f6 kp=>wpAny_pyIter_zip f1 ?_
     have lt1:a1<s1.heap.objs.size/\a2<s1.heap.objs.size:=by
      constructor
      · cases b1 with
        | true=>obtain⟨o,ho,_⟩:=(show s1.heap.IsTuple a1 _ from t1);exact Jg ho
        | false=>obtain⟨o,ho,_⟩:=(show s1.heap.IsList a1 _ from t1);exact Jg ho
      · cases b2 with
        | true=>obtain⟨o,ho,_⟩:=(show s1.heap.IsTuple a2 _ from t2);exact Jg ho
        | false=>obtain⟨o,ho,_⟩:=(show s1.heap.IsList a2 _ from t2);exact Jg ho
     obtain⟨l1,l2⟩:=lt1;have ap:∀{n c:Nat},c<n->∀k:Nat,c≠n+k:=fun h k e=>by omega
     have D:ZipApart (s1.heap.objs.size+4) (s1.heap.objs.size+2) (s1.heap.objs.size+3) s1.heap.objs.size (s1.heap.objs.size+1) a1 a2:=by
      generalize hN:s1.heap.objs.size=N at l1 l2;exact⟨by simp,by simp,by simp,by simp,by simp,by simp,by simp,by simp,by simp,by simp,ap l1 4,ap l1 3,ap l1 0,ap l1 1,ap l2 4,ap l2 3,ap l2 0,ap l2 1⟩
     have kg:∀b o,s1.heap.get? b=some o->g.get? b=some o:=kp;have I2:Inv X pins σ H1 {s1 with heap:=g}:=I1.kept (t':=s1.toks) kg
     have ir:∀{b:Bool}{it a:Addr}{zs:Array I0},Ix g it a zs 0->HL b s1.heap a zs->Iz b g it a 0:=fun{b it a zs} q r=>by
      have r':=HL.of r fun o e=>kg _ o e
      cases b with
      | true =>
        rcases q with⟨_,⟨o,e,c,_⟩⟩|⟨q,_⟩
        · obtain⟨o',e',c',_⟩:=(show g.IsTuple a zs from r');rw[e]at e';cases e';rw[c]at c';injection c' with z;exact absurd z (by decide)
        · exact q
      | false =>
        rcases q with⟨q,_⟩|⟨_,⟨o,e,c,_⟩⟩
        · exact q
        · obtain⟨o',e',c',_⟩:=(show g.IsList a zs from r');rw[e]at e';cases e';rw[c]at c';injection c' with z;exact absurd z (by decide)
     refine⟨_,[s1.heap.objs.size+4,s1.heap.objs.size+2,s1.heap.objs.size+3,s1.heap.objs.size,s1.heap.objs.size+1],_,_,H1,rfl,I2,qJ b1 b2 _ _ _ _ _ a1 a2 D,⟨f1,f2,⟨_,_,f3⟩,ir f4 t1,ir f5 t2⟩,fun b hb=>?_,q⟩
     have hb':s1.heap.objs.size<=b:=by
      simp at hb;rcases hb with rfl|rfl|rfl|rfl|rfl
      · exact MF _ 4
      · exact MF _ 2
      · exact MF _ 3
      · exact Jb _
      · exact MF _ 1
     exact I1.fpOk hb' (I1.hok.fresh hb')
end
end L2
namespace L2.VL
section
variable{X:Cx}{rl:RlT}{a b:Expr}{elts:List Expr}{kt:Nat}{pt p pos:Pos}{fs:HC}
def ie(xs ys:List IQ):List IQ:=List.zipWith (fun x y=>.tuple [x,y]) xs ys
def dF:IQ->Bool
 | .tuple _=>true
 | _=>false
theorem oa{K:W.Frag}(r:Rep K F v d)(e:eh d=some xs):∃a vs,v = .ref a/\Reps K F vs xs/\∀H,bm F H->HK (dF d) K H a vs:=by
 cases r with
 | tup sq rs=>cases e;exact⟨_,_,rfl,rs,fun H s=>cR s sq⟩
 | lst h rs=>cases e;exact⟨_,_,rfl,rs,fun H s=>.inl (.inl (s _ _ h))⟩
 | non=>cases e
 | bl b=>cases e
 | int i=>cases e
 | str x=>cases e
theorem j9{ys:List IQ}{i:Nat}(h:(ie xs ys)[i]?=some d):∃x y,xs[i]?=some x/\ys[i]?=some y/\d = .tuple [x,y]:=by
 unfold ie at h;rw[List.getElem?_zipWith]at h
 cases ex:xs[i]? with
 | none=>rw[ex]at h;cases h
 | some x =>
   cases ey:ys[i]? with
   | none=>rw[ex,ey]at h;cases h
   | some y=>rw[ex,ey]at h;cases h;exact⟨x,y,rfl,rfl,rfl⟩
theorem xV(b1 b2:Bool)(hm:X.mg "zip" = none)(ha:HQ X rl [a,b] fs)(hg:Gl X "zip" := by rfl)(hs:Jc [a,b] X.env=(false,eval a X.env)::Jc [b] X.env:=by rfl)(hpl:(KB pos (Jc [b] X.env)).any (·.1)=false:=by rfl) :
 HY X rl (.Tuple elts kt pt) (.Call (.Name "zip" p) [a,b] [] pos) (fun ρ Q=>fs ρ fun ws=>∃dx dy xs ys,ws=[.d dx,.d dy]/\eh dx=some xs/\eh dy=some ys/\dF dx=b1/\dF dy=b2/\Q (ie xs ys)):=by
 obtain⟨t,p1,k⟩:=ha;refine⟨_,y_ b1 b2 hg hm p1 hs hpl,fun R Qd Q q h=>k R _ _ q fun vs ws F1 H1 g1 r1 ⟨dx,dy,xs,ys,ew,e1,e2,kb1,kb2,q1⟩=>?_⟩;subst ew kb1 kb2;obtain⟨v,u,rfl,rv,ru⟩:=AR r1;obtain⟨a1,vs,rfl,rs,sq1⟩:=oa rv e1;obtain⟨a2,us,rfl,rt,sq2⟩:=oa ru e2;refine⟨a1,a2,vs,us,rfl,sq1 _ g1.sub,sq2 _ g1.sub,h _ (ie xs ys) F1 H1 g1 ⟨fun i H x e s=>?_,fun i H hl s=>?_,fun i H v H' x F2 e s s2 ra y=>?_⟩ q1⟩
 · obtain⟨x1,y1,ex,ey,_⟩:=j9 e;obtain⟨v1,ev1,_⟩:=rs.get ex;obtain⟨u1,eu1,_⟩:=rt.get ey;exact⟨vs,us,v1,u1,sq1 _ s,sq2 _ s,ev1,eu1⟩
 · refine⟨vs,us,sq1 _ s,sq2 _ s,?_⟩;unfold ie at hl;rw[List.length_zipWith]at hl;rw[rs.length,rt.length];omega
 · obtain⟨x1,y1,ex,ey,ed⟩:=j9 e;obtain⟨vx,vy,pp,hx,hy,hp,ev,eH⟩:=y;obtain⟨v1,ev1,rv1⟩:=rs.get ex;obtain⟨u1,eu1,ru1⟩:=rt.get ey;have h1:=hx vs (sq1 _ (s.trans s2));have h2:=hy us (sq2 _ (s.trans s2));rw[ev1]at h1;rw[eu1]at h2;cases h1;cases h2;subst ev eH ed;have g:=Grow.data (a:=pp) (o:=.tup [vx,vy]) s2 ra hp;exact⟨_,g,.tup (.inl (.inl ak)) (.cons ((rv1.mono s).mono g.fs) (.cons ((ru1.mono s).mono g.fs) .nil))⟩
def GP(b1 b2:Bool)(fs:HC):En->(List IQ->Prop)->Prop:=fun ρ Q=>fs ρ fun ws=>∃dx dy xs ys,ws=[.d dx,.d dy]/\eh dx=some xs/\eh dy=some ys/\dF dx=b1/\dF dy=b2/\Q (ie xs ys)
theorem eK(hm:X.mg "zip" = none)(ha:HQ X rl [a,b] fs)(hg:Gl X "zip" := by rfl)(hs:Jc [a,b] X.env=(false,eval a X.env)::Jc [b] X.env:=by rfl)(hpl:(KB pos (Jc [b] X.env)).any (·.1)=false:=by rfl) :
 HY X rl (.Tuple elts kt pt) (.Call (.Name "zip" p) [a,b] [] pos) (GP true true fs):=xV true true hm ha hg hs hpl
end
theorem nr{α:Sort u}{a b:α}(h:a=b):a=b:=h
abbrev Mo(α:Type):=(α->Prop)->Prop
def ret{α:Type}(a:α):Mo α:=fun Q=>Q a
def Hj{α β:Type}(m:Mo α)(f:α->Mo β):Mo β:=fun Q=>m fun a=>f a Q
def GW{α:Type}(P:Prop)(m:Mo α):Mo α:=fun Q=>P/\m Q
def stk{α:Type}:Mo α:=fun _=>False
def anyM{α:Type}(P:α->Prop):Mo α:=fun Q=>∀a,P a->Q a
def aD{α β:Type}(o:Option α)(f:α->Mo β):Mo β:=match o with
 | some a=>f a
 | none=>stk
section
variable{α β γ:Type}
theorem bnd_ret(a:α)(f:α->Mo β):Hj (ret a) f=f a:=nr rfl
theorem bnd_bnd(m:Mo α)(f:α->Mo β)(g:β->Mo γ):Hj (Hj m f) g=Hj m fun a=>Hj (f a) g:=nr rfl
theorem bnd_grd(P:Prop)(m:Mo α)(f:α->Mo β):Hj (GW P m) f=GW P (Hj m f):=nr rfl
theorem bnd_stk(f:α->Mo β):Hj stk f=stk:=nr rfl
theorem bnd_ite(c:Prop)[Decidable c](a b:Mo α)(f:α->Mo β):Hj (if c then a else b) f=if c then Hj a f else Hj b f:=by split<;>rfl
theorem bnd_opt(o:Option α)(k:α->Mo β)(f:β->Mo γ):Hj (aD o k) f=aD o fun a=>Hj (k a) f:=by cases o<;>rfl
theorem opt_some(a:α)(k:α->Mo β):aD (some a) k=k a:=nr rfl
theorem opt_none(k:α->Mo β):aD none k=stk:=nr rfl
theorem ah{P:Prop}(h:P)(m:Mo α):GW P m=m:=by funext Q;exact propext ⟨fun z=>z.2,fun z=>⟨h,z⟩⟩
theorem grd_T(m:Mo α):GW True m=m:=ah trivial m
theorem gF(c:Prop)[Decidable c](a b:Mo α)(Q:α->Prop):(if c then a else b) Q=if c then a Q else b Q:=by split<;>rfl
theorem af{m n:Mo α}(h:∀Q,m Q↔n Q):m=n:=funext fun Q=>propext (h Q)
end
def asI:W->Option Int
 | .d (.int i)=>some i
 | _=>none
def asB:W->Option Bool
 | .d (.bool b)=>some b
 | _=>none
def asS:W->Option Str
 | .d (.str b)=>some b
 | _=>none
def asD:W->Option IQ
 | .d x=>some x
 | _=>none
def lstD:IQ->Option (List IQ)
 | .list xs=>some xs
 | _=>none
def tupD:IQ->Option (List IQ)
 | .tuple xs=>some xs
 | _=>none
def Hs(w:W):Option (List IQ):=w.dat.bind lstD
def Ho(w:W):Option (List IQ):=(asD w).bind tupD
def Hr(w:W):Option (List IQ):=w.dat.bind eh
def FA:W->Option Int
 | .d (.int i)=>some i
 | .d (.bool b)=>some (if b then 1 else 0)
 | _=>none
def Et:W->Option String
 | .vv (.ty T)=>some T
 | _=>none
def CK:List IQ->Option (List Bool)
 | []=>some []
 | .bool b::r=>(CK r).map (b :: ·)
 | _=>none
def gb:List IQ->Option (List Int)
 | []=>some []
 | .int b::r=>(gb r).map (b :: ·)
 | _=>none
theorem blsD_map:∀bs:List Bool,CK (bs.map .bool)=some bs
 | []=>rfl
 | b::bs=>by show(CK (bs.map .bool)).map (b :: ·)=_;rw[blsD_map bs];rfl
theorem intsD_map:∀bs:List Int,gb (bs.map .int)=some bs
 | []=>rfl
 | b::bs=>by show(gb (bs.map .int)).map (b :: ·)=_;rw[intsD_map bs];rfl
theorem hW:∀{xs:List IQ}{bs:List Int},gb xs=some bs->xs=bs.map .int
 | [],bs,h=>by cases h;rfl
 | .int b::r,bs,h=>by
   have h:(gb r).map (b :: ·)=some bs:=h
   cases q:gb r with
   | none=>rw[q]at h;cases h
   | some cs=>rw[q]at h;cases h;rw[hW q];rfl
 | .none::_,_,h=>by cases h
 | .bool _::_,_,h=>by cases h
 | .str _::_,_,h=>by cases h
 | .list _::_,_,h=>by cases h
 | .tuple _::_,_,h=>by cases h
 | .dict _::_,_,h=>by cases h
theorem asI_d(i:Int):asI (.d (.int i))=some i:=rfl
theorem asB_d(i:Bool):asB (.d (.bool i))=some i:=rfl
theorem asS_d(i:Str):asS (.d (.str i))=some i:=rfl
theorem asD_d(i:IQ):asD (.d i)=some i:=rfl
theorem asT_d(x:IQ):Ho (.d x)=tupD x:=rfl
theorem asL_d(x:IQ):Hs (.d x)=lstD x:=rfl
theorem asL_ml(x:List IQ):Hs (.ml x)=some x:=rfl
theorem asL_pk(x:List IQ):Hs (.pk x)=some x:=rfl
theorem asQ_d(x:IQ):Hr (.d x)=eh x:=rfl
theorem asQ_ml(x:List IQ):Hr (.ml x)=some x:=rfl
theorem asQ_pk(x:List IQ):Hr (.pk x)=some x:=rfl
theorem lstD_l(x:List IQ):lstD (.list x)=some x:=rfl
theorem tupD_t(x:List IQ):tupD (.tuple x)=some x:=rfl
theorem toI_i(i:Int):FA (.d (.int i))=some i:=rfl
theorem toI_b(i:Bool):FA (.d (.bool i))=some (if i then 1 else 0):=rfl
theorem isiT_t(T:String):Et (.vv (.ty T))=some T:=rfl
theorem cN{w:W}{i:Int}:asI w=some i↔w = .d (.int i):=by
 constructor
 · intro h;unfold asI at h;split at h<;>simp_all
 · rintro rfl;rfl
theorem ug{w:W}{i:Bool}:asB w=some i↔w = .d (.bool i):=by
 constructor
 · intro h;unfold asB at h;split at h<;>simp_all
 · rintro rfl;rfl
theorem Av{w:W}{i:Str}:asS w=some i↔w = .d (.str i):=by
 constructor
 · intro h;unfold asS at h;split at h<;>simp_all
 · rintro rfl;rfl
theorem cX{w:W}{i:IQ}:asD w=some i↔w = .d i:=by
 constructor
 · intro h;unfold asD at h;split at h<;>simp_all
 · rintro rfl;rfl
theorem B0{w:IQ}{i:List IQ}:lstD w=some i↔w = .list i:=by
 constructor
 · intro h;unfold lstD at h;split at h<;>simp_all
 · rintro rfl;rfl
theorem uZ{w:IQ}{i:List IQ}:tupD w=some i↔w = .tuple i:=by
 constructor
 · intro h;unfold tupD at h;split at h<;>simp_all
 · rintro rfl;rfl
theorem jc{w:W}{i:List IQ}:Ho w=some i↔w = .d (.tuple i):=by
 constructor
 · intro h;unfold Ho at h
   cases q:asD w with
   | none=>rw[q]at h;cases h
   | some x=>rw[q]at h;rw[cX.mp q,uZ.mp h]
 · rintro rfl;rfl
theorem pZ{w:W}{i:List IQ}:Hs w=some i↔w.dat=some (.list i):=by
 unfold Hs;constructor
 · intro h
   cases q:w.dat with
   | none=>rw[q]at h;cases h
   | some x=>rw[q]at h;rw[B0.mp h]
 · intro h;rw[h];rfl
theorem ai{o:Option α}{k:α->Mo β}{Q:β->Prop}:aD o k Q↔∃a,o=some a/\k a Q:=by
 cases o with
 | none=>exact⟨fun z=>z.elim,fun⟨_,z,_⟩=>by cases z⟩
 | some a=>exact⟨fun z=>⟨a,rfl,z⟩,fun⟨_,e,z⟩=>by cases e;exact z⟩
section
variable{fa fb fc:TV}{fs:HC}{f g:TB}{ρ:En}{t u:HD}
theorem m_vC(x:IQ):vC x ρ=ret (.d x):=nr rfl
theorem m_vVar(i:Nat):xA i ρ=aD ((ρ[i]?).join) fun w=>ret w.peek:=by
 refine af fun Q=>?_;rw[ai];constructor
 · rintro⟨w,e,q⟩;exact⟨w,by rw[e];rfl,q⟩
 · rintro⟨w,e,q⟩;refine⟨w,?_,q⟩
   cases h:ρ[i]? with
   | none=>rw[h]at e;cases e
   | some o=>rw[h]at e;cases o with
     | none=>cases e
     | some x=>cases e;rfl
theorem m_vNil:tw ρ=ret []:=nr rfl
theorem m_vCons{f:TV}:ip f fs ρ=Hj (f ρ) fun w=>Hj (fs ρ) fun ws=>ret (w.fz::ws):=nr rfl
theorem m_vOp(h:W->W->(W->Prop)->Prop):Fm h fa fb ρ=Hj (fa ρ) fun x=>Hj (fb ρ) fun y=>h x y:=nr rfl
theorem m_gI(C:Int->Int->Prop)(h:Int->Int->IQ)(x y:W):gI C h x y=aD (asI x) fun i=>aD (asI y) fun j=>GW (C i j) (ret (.d (h i j))):=by
 refine af fun Q=>?_;simp only[ai,cN,gI,GW,ret];exact⟨fun⟨i,j,a,b,c,q⟩=>⟨i,a,j,b,c,q⟩,fun⟨i,a,j,b,c,q⟩=>⟨i,j,a,b,c,q⟩⟩
theorem m_gI0(h:Int->Int->IQ)(x y:W):G3 h x y=aD (asI x) fun i=>aD (asI y) fun j=>ret (.d (h i j)):=by
 refine af fun Q=>?_;simp only[ai,cN,G3,ret];exact⟨fun⟨i,j,a,b,q⟩=>⟨i,a,j,b,q⟩,fun⟨i,a,j,b,q⟩=>⟨i,j,a,b,q⟩⟩
theorem m_vNeg:Bi fa ρ=Hj (fa ρ) fun x=>aD (asI x) fun i=>ret (.d (.int (-i))):=by
 refine af fun Q=>?_;simp only[Bi,Hj,ai,cN,ret]
theorem m_vTest{f:TV}:na f ρ=Hj (f ρ) fun w=>aD (asB w) ret:=by
 refine af fun Q=>?_;simp only[na,Hj,ai,ug,ret]
theorem m_gEqD(neg:Bool)(x y:W):Cn neg x y=aD x.dat fun dx=>aD y.dat fun dy=>GW (JT dx=true) (GW (JT dy=true) (ret (.d (.bool (if neg then !Ky dx dy else Ky dx dy))))):=by
 refine af fun Q=>?_;simp only[ai,Cn,GW,ret];exact⟨fun⟨i,j,a,b,c,d,q⟩=>⟨i,a,j,b,c,d,q⟩,fun⟨i,a,j,b,c,d,q⟩=>⟨i,j,a,b,c,d,q⟩⟩
theorem Aw{w:W}{i:List IQ}:Hr w=some i↔(w.dat=some (.list i)\/w.dat=some (.tuple i)):=by
 unfold Hr;constructor
 · intro h
   cases q:w.dat with
   | none=>rw[q]at h;cases h
   | some x=>rw[q]at h;exact eh.of (o:=some x) rfl h
 · rintro(h|h)<;>rw[h]<;>rfl
theorem m_gInD(neg:Bool)(x y:W):Ck neg x y=aD x.dat fun dx=>aD (Hr y) fun ys=>GW (JT dx=true) (GW (JZ ys=true) (ret (.d (.bool (if neg then !(ys.any fun z=>Ky z dx)else ys.any fun z=>Ky z dx))))):=by
 refine af fun Q=>?_;simp only[ai,Aw,Ck,GW,ret];exact⟨fun⟨i,j,a,b,c,d,q⟩=>⟨i,a,j,b,c,d,q⟩,fun⟨i,a,j,b,c,d,q⟩=>⟨i,j,a,b,c,d,q⟩⟩
theorem m_vAnd:Bl f g ρ=Hj (f ρ) fun b=>if b=true then g ρ else ret false:=by
 refine af fun Q=>?_;simp only[Bl,Hj,gF,ret]
theorem m_vOr:Fj f g ρ=Hj (f ρ) fun b=>if b=true then ret true else g ρ:=by
 refine af fun Q=>?_;simp only[Fj,Hj,gF,ret]
theorem m_vNot:Dx f ρ=Hj (f ρ) fun b=>ret (!b):=nr rfl
theorem m_vOrV:Bh fa fb ρ=Hj (fa ρ) fun w=>aD (asB w) fun b=>if b=true then ret (.d (.bool true))else fb ρ:=by
 refine af fun Q=>?_;simp only[Bh,Hj,ai,ug,gF,ret]
theorem m_vIf{t:TB}:Fq t fa fb ρ=Hj (t ρ) fun c=>if c=true then fa ρ else fb ρ:=by
 refine af fun Q=>?_;simp only[Fq,Hj,gF]
theorem m_vTup:yf fs ρ=Hj (fs ρ) fun ws=>aD (ji ws) fun ds=>GW (ds.length<=sizeLine) (ret (.d (.tuple ds))):=by
 refine af fun Q=>?_;simp only[yf,Hj,ai,GW,ret]
theorem m_vLst:Bj fs ρ=Hj (fs ρ) fun ws=>aD (ji ws) fun ds=>GW (ds.length<=sizeLine) (ret (.ml ds)):=by
 refine af fun Q=>?_;simp only[Bj,Hj,ai,GW,ret]
theorem m_gIx(x y:W):G0 x y=aD x.dat fun dx=>aD (asI y) fun i=>aD (itemAt dx i) fun z=>ret (.d z):=by
 refine af fun Q=>?_;simp only[G0,ai,cN,ret];exact⟨fun⟨i,j,z,a,b,c,q⟩=>⟨i,a,j,b,z,c,q⟩,fun⟨i,a,j,b,z,c,q⟩=>⟨i,j,z,a,b,c,q⟩⟩
theorem m_vCall(h:List W->(W->Prop)->Prop):cr h fs ρ=Hj (fs ρ) h:=nr rfl
theorem m_gAbs(w:W):DP [w]=aD (asI w) fun i=>ret (.d (.int (if i<0 then -i else i))):=by
 refine af fun Q=>?_;simp only[DP,ai,cN,ret,Ku,and_true]
theorem m_gLen(w:W):xF [w]=aD w.dat fun d=>aD (tZ d) fun n=>ret (.d (.int n)):=by
 refine af fun Q=>?_;simp only[xF,ai,ret,Ku,and_true];exact⟨fun⟨w',d,n,e,a,b,q⟩=>by subst e;exact⟨d,a,n,b,q⟩,fun⟨d,a,n,b,q⟩=>⟨w,d,n,rfl,a,b,q⟩⟩
theorem m_gTupO(w:W):pz [w]=aD (Hr w) fun xs=>ret (.d (.tuple xs)):=by
 refine af fun Q=>?_;simp only[pz,ai,ret,Ku,and_true];constructor
 · rintro⟨w',d,xs,e,a,b,q⟩;subst e;exact⟨xs,by unfold Hr;rw[a];exact b,q⟩
 · rintro⟨xs,e,q⟩;unfold Hr at e
   cases h:w.dat with
   | none=>rw[h]at e;cases e
   | some d=>rw[h]at e;exact⟨w,d,xs,rfl,h,e,q⟩
theorem m_gLstO(w:W):sw [w]=aD (Hr w) fun xs=>ret (.ml xs):=by
 refine af fun Q=>?_;simp only[sw,ai,ret,Ku,and_true];constructor
 · rintro⟨w',d,xs,e,a,b,q⟩;subst e;exact⟨xs,by unfold Hr;rw[a];exact b,q⟩
 · rintro⟨xs,e,q⟩;unfold Hr at e
   cases h:w.dat with
   | none=>rw[h]at e;cases e
   | some d=>rw[h]at e;exact⟨w,d,xs,rfl,h,e,q⟩
theorem m_gIsN(neg:Bool)(x:W):AW neg x (.d .none)=aD x.dat fun d=>ret (.d (.bool (if neg then !gG d else gG d))):=by
 refine af fun Q=>?_;simp only[ai,AW,ret,true_and]
theorem m_gI2(h:Int->Int->IQ)(x y:W):G1 h [x,y]=aD (asI x) fun i=>aD (asI y) fun j=>ret (.d (h i j)):=by
 refine af fun Q=>?_;simp only[ai,cN,G1,ret,Ku,and_true];exact⟨fun⟨i,j,⟨a,b⟩,q⟩=>⟨i,a,j,b,q⟩,fun⟨i,a,j,b,q⟩=>⟨i,j,⟨a,b⟩,q⟩⟩
theorem yq{w:W}{i:Int}:FA w=some i↔(w = .d (.int i)\/∃b:Bool,w = .d (.bool b)/\i=if b then 1 else 0):=by
 constructor
 · intro h;unfold FA at h;split at h
   · cases h;exact .inl rfl
   · cases h;exact .inr ⟨_,rfl,rfl⟩
   · cases h
 · rintro(rfl|⟨b,rfl,rfl⟩)<;>rfl
theorem m_gInt1(w:W):pA [w]=aD (FA w) fun i=>ret (.d (.int i)):=by
 refine af fun Q=>?_;simp only[ai,yq,pA,ret,Ku,and_true];constructor
 · rintro(⟨i,rfl,q⟩|⟨k,rfl,q⟩)
   · exact⟨i,.inl rfl,q⟩
   · exact⟨_,.inr ⟨k,rfl,rfl⟩,q⟩
 · rintro⟨i,rfl|⟨b,rfl,rfl⟩,q⟩
   · exact .inl ⟨i,rfl,q⟩
   · exact .inr ⟨b,rfl,q⟩
theorem m_oNo:Gq ρ=ret none:=nr rfl
theorem m_oIt:Gr fa ρ=Hj (fa ρ) fun w=>aD (asI w) fun i=>ret (some i):=by
 refine af fun Q=>?_;simp only[Gr,Hj,ai,cN,ret]
theorem m_vSlL{fl fh:HE}:Bf fa fl fh ρ=Hj (fa ρ) fun w=>Hj (fl ρ) fun l=>Hj (fh ρ) fun h=>aD (Hs w) fun xs=>ret (.ml (cutD xs l h)):=by
 refine af fun Q=>?_;simp only[Bf,Hj,ai,pZ,ret]
theorem m_vSlA{fl fh:HE}:AH fa fl fh ρ=Hj (fa ρ) fun w=>Hj (fl ρ) fun l=>Hj (fh ρ) fun h=>aD (Ho w) fun xs=>ret (.d (.tuple (cutD xs l h))):=by
 refine af fun Q=>?_;simp only[AH,Hj,ai,jc,ret]
theorem m_gCatD(x y:W):sA x y=aD (Hs x) fun xs=>aD (Hs y) fun ys=>GW (xs.length+ys.length<=sizeLine) (ret (.ml (xs++ys))):=by
 refine af fun Q=>?_;simp only[sA,ai,pZ,GW,ret];exact⟨fun⟨i,j,a,b,c,q⟩=>⟨i,a,j,b,c,q⟩,fun⟨i,a,j,b,c,q⟩=>⟨i,j,a,b,c,q⟩⟩
theorem m_gCatA(x y:W):pB x y=aD (Ho x) fun xs=>aD (Ho y) fun ys=>GW (xs.length+ys.length<=sizeLine) (ret (.d (.tuple (xs++ys)))):=by
 refine af fun Q=>?_;simp only[pB,ai,jc,GW,ret];exact⟨fun⟨i,j,a,b,c,q⟩=>⟨i,a,j,b,c,q⟩,fun⟨i,a,j,b,c,q⟩=>⟨i,j,a,b,c,q⟩⟩
def two(ws:List W):Option (Int×Int):=match ws with
 | [a,b]=>(asI a).bind fun i=>(asI b).map fun j=>(i,j)
 | _=>none
theorem two_d(a b:Int):two [.d (.int a),.d (.int b)]=some (a,b):=rfl
theorem yo{ws:List W}{p:Int×Int}:two ws=some p↔ws=[.d (.int p.1),.d (.int p.2)]:=by
 constructor
 · intro h
   match ws with
   | []=>cases h
   | [_]=>cases h
   | _::_::_::_=>cases h
   | [a,b] =>
     have h:((asI a).bind fun i=>(asI b).map fun j=>(i,j))=some p:=h
     cases ha:asI a with
     | none=>rw[ha]at h;cases h
     | some i =>
       cases hb:asI b with
       | none=>rw[ha,hb]at h;cases h
       | some j=>rw[ha,hb]at h;cases h;rw[cN.mp ha,cN.mp hb]
 · rintro rfl;rfl
theorem m_iL:iL fa ρ=Hj (fa ρ) fun w=>aD ((asD w.fz).bind lstD) ret:=by
 show(Hj (fa ρ) fun w=>fun(Q:List IQ->Prop)=>∃xs,w.fz = .d (.list xs)/\Q xs)=_;congr 1;funext w;refine af fun Q=>?_;simp only[ai,ret];constructor
 · rintro⟨xs,e,q⟩;exact⟨xs,by rw[e];rfl,q⟩
 · rintro⟨xs,e,q⟩
   cases h:asD w.fz with
   | none=>rw[h]at e;cases e
   | some x=>rw[h]at e;rw[cX.mp h,B0.mp e];exact⟨xs,rfl,q⟩
theorem m_iT:iT fa ρ=Hj (fa ρ) fun w=>aD ((asD w.fz).bind tupD) ret:=by
 show(Hj (fa ρ) fun w=>fun(Q:List IQ->Prop)=>∃xs,w.fz = .d (.tuple xs)/\Q xs)=_;congr 1;funext w;refine af fun Q=>?_;simp only[ai,ret];constructor
 · rintro⟨xs,e,q⟩;exact⟨xs,by rw[e];rfl,q⟩
 · rintro⟨xs,e,q⟩
   cases h:asD w.fz with
   | none=>rw[h]at e;cases e
   | some x=>rw[h]at e;rw[cX.mp h,uZ.mp e];exact⟨xs,rfl,q⟩
theorem m_iR1:GS fs ρ=Hj (fs ρ) fun ws=>aD (ws.head?.bind asI) fun j=>GW (ws.length=1) (GW (-(2^62)<=j/\j<2^62) (ret (aY 0 j.toNat))):=by
 show(Hj (fs ρ) fun ws=>fun(Q:List IQ->Prop)=>∃j:Int,ws=[.d (.int j)]/\(-(2^62)<=j/\j<2^62)/\Q (aY 0 j.toNat))=_;congr 1;funext ws;refine af fun Q=>?_;simp only[ai,GW,ret];constructor
 · rintro⟨j,rfl,a,q⟩;exact⟨j,rfl,rfl,a,q⟩
 · rintro⟨j,e,l,a,q⟩
   match ws,l with
   | [w],_=>rw[show w = .d (.int j)from cN.mp e];exact⟨j,rfl,a,q⟩
theorem m_iR2:GR fs ρ=Hj (fs ρ) fun ws=>aD (two ws) fun p=>GW (-(2^62)<=p.1/\p.1<2^62 /\ -(2^62)<=p.2/\p.2<2^62) (ret (aY p.1 (p.2-p.1).toNat)):=by
 show(Hj (fs ρ) fun ws=>fun(Q:List IQ->Prop)=>∃i j:Int,ws=[.d (.int i),.d (.int j)]/\(-(2^62)<=i/\i<2^62 /\ -(2^62)<=j/\j<2^62)/\Q (aY i (j-i).toNat))=_;congr 1;funext ws;refine af fun Q=>?_;simp only[ai,yo,GW,ret];exact⟨fun⟨i,j,a,b,q⟩=>⟨(i,j),a,b,q⟩,fun⟨p,a,b,q⟩=>⟨p.1,p.2,a,b,q⟩⟩
def A7(b1 b2:Bool)(ws:List W):Option (List IQ):=match ws with
 | [.d x,.d y]=>if dF x=b1/\dF y=b2 then(eh x).bind fun xs=>(eh y).map fun ys=>ie xs ys else none
 | _=>none
theorem m_iZb(b1 b2:Bool):GP b1 b2 fs ρ=Hj (fs ρ) fun ws=>aD (A7 b1 b2 ws) ret:=by
 show(Hj (fs ρ) fun ws=>fun(Q:List IQ->Prop)=>∃dx dy xs ys,ws=[.d dx,.d dy]/\eh dx=some xs/\eh dy=some ys/\dF dx=b1/\dF dy=b2/\Q (ie xs ys))=_;congr 1;funext ws;refine af fun Q=>?_;simp only[ai,ret];constructor
 · rintro⟨dx,dy,xs,ys,rfl,a,b,c,d,q⟩;exact⟨_,by show(if dF dx=b1/\dF dy=b2 then(eh dx).bind fun xs=>(eh dy).map fun ys=>ie xs ys else none)=_;rw[if_pos ⟨c,d⟩,a,b];rfl,q⟩
 · rintro⟨zs,e,q⟩;unfold A7 at e;split at e
   · rename_i dx dy;split at e
     · rename_i c
       cases ha:eh dx with
       | none=>rw[ha]at e;cases e
       | some xs =>
         cases hb:eh dy with
         | none=>rw[ha,hb]at e;cases e
         | some ys=>rw[ha,hb]at e;cases e;exact⟨dx,dy,xs,ys,rfl,ha,hb,c.1,c.2,q⟩
     · cases e
   · cases e
theorem m_vUse(Pd:List W->(IQ->Prop)->Prop):Bc Pd fs ρ=Hj (fs ρ) fun ws=>GW (ws.all cY=true) (Hj (Pd ws) fun d=>ret (.d d)):=nr rfl
theorem m_gRepT(x y:W):so x y=aD (Ho x) fun xs=>aD (asI y) fun k=>GW (xs≠[]/\1<=k/\k<2^62/\xs.length*k.toNat<=sizeLine) (ret (.d (.tuple (Jp k.toNat xs).flatten))):=by
 refine af fun Q=>?_;simp only[so,ai,jc,cN,GW,ret];exact⟨fun⟨i,j,a,b,c,d,e,f,q⟩=>⟨i,a,j,b,⟨c,d,e,f⟩,q⟩,fun⟨i,a,j,b,⟨c,d,e,f⟩,q⟩=>⟨i,j,a,b,c,d,e,f,q⟩⟩
theorem m_gEqS(neg:Bool)(x y:W):Cm neg x y=aD (asS x) fun i=>aD (asS y) fun j=>ret (.d (.bool (if neg then !decide (i=j)else decide (i=j)))):=by
 refine af fun Q=>?_;simp only[ai,Av,Cm,ret];exact⟨fun⟨i,j,a,b,q⟩=>⟨i,a,j,b,q⟩,fun⟨i,a,j,b,q⟩=>⟨i,j,a,b,q⟩⟩
end
inductive Fl where
 | nx (ρ:En)|rt (w:W)|bk (ρ:En)|ct (ρ:En)
def mS(t:HD)(ρ:En):Mo Fl:=fun Q=>t ⟨fun ρ=>Q (.nx ρ),fun w=>Q (.rt w),fun ρ=>Q (.bk ρ),fun ρ=>Q (.ct ρ)⟩ ρ
def sq(m:Mo Fl)(k:En->Mo Fl):Mo Fl:=Hj m fun fl=>match fl with
 | .nx ρ=>k ρ
 | .rt w=>ret (.rt w)
 | .bk ρ=>ret (.bk ρ)
 | .ct ρ=>ret (.ct ρ)
def xG(Q:IQ->Prop):Fl->Prop
 | .nx _=>Q .none
 | .rt w=>∃d,w.fz = .d d/\Q d
 | _=>False
section
variable{fa fb fc:TV}{fs:HC}{f g:TB}{ρ:En}{t u:HD}{k:En->Mo Fl}
theorem aL{Q:IQ->Prop}(h:mS t ρ (xG Q)):t (lM Q) ρ:=h
theorem end_d(Q:IQ->Prop)(d:IQ):xG Q (.rt (.d d))=Q d:=propext ⟨fun⟨_,e,q⟩=>by cases e;exact q,fun q=>⟨d,rfl,q⟩⟩
theorem end_ml(Q:IQ->Prop)(d:List IQ):xG Q (.rt (.ml d))=Q (.list d):=propext ⟨fun⟨_,e,q⟩=>by cases e;exact q,fun q=>⟨_,rfl,q⟩⟩
theorem end_nx(Q:IQ->Prop)(ρ:En):xG Q (.nx ρ)=Q .none:=nr rfl
theorem sq_nx:sq (ret (.nx ρ)) k=k ρ:=nr rfl
theorem sq_rt(w:W):sq (ret (.rt w)) k=ret (.rt w):=nr rfl
theorem sq_bk:sq (ret (.bk ρ)) k=ret (.bk ρ):=nr rfl
theorem sq_ct:sq (ret (.ct ρ)) k=ret (.ct ρ):=nr rfl
theorem sq_grd(P:Prop)(m:Mo Fl):sq (GW P m) k=GW P (sq m k):=nr rfl
theorem sq_stk:sq stk k=stk:=nr rfl
theorem sq_ite(c:Prop)[Decidable c](a b:Mo Fl):sq (if c then a else b) k=if c then sq a k else sq b k:=by split<;>rfl
theorem yF(o:Option α)(h:α->Mo Fl):sq (aD o h) k=aD o fun a=>sq (h a) k:=by cases o<;>rfl
theorem s_next:mS uQ ρ=ret (.nx ρ):=nr rfl
theorem s_seq:mS (uP t u) ρ=sq (mS t ρ) (mS u):=by
 refine af fun Q=>?_;show t ⟨fun ρ=>u ⟨_,_,_,_⟩ ρ,_,_,_⟩ ρ↔_;exact M3
theorem s_ret:mS (Bg fa) ρ=Hj (fa ρ) fun w=>ret (.rt w):=nr rfl
theorem s_ifS:mS (AJ f t u) ρ=Hj (f ρ) fun b=>if b=true then mS t ρ else mS u ρ:=by
 refine af fun Q=>?_;simp only[mS,AJ,Hj,gF]
theorem s_set(i:Nat):mS (AI i fa) ρ=Hj (fa ρ) fun w=>GW (w.isPk=false) (ret (.nx (ρ.set i (some w)))):=nr rfl
theorem s_never:mS (fun _ _=>False) ρ=stk:=nr rfl
theorem m_hName(i:Nat)(x:IQ):wF i x ρ=ret (ρ.set i (some (.d x))):=nr rfl
theorem zF(xs:List IQ):Ch xs ρ=GW (xs=[]) (ret ρ):=nr rfl
theorem wa{g:HG}{gs:qr}(xs:List IQ):r_ g gs xs ρ=aD (match xs with | []=>none|y::r=>some (y,r)) fun p=>Hj (g p.1 ρ) fun ρ'=>gs p.2 ρ':=by
 refine af fun Q=>?_;simp only[ai,r_,Hj];constructor
 · rintro⟨y,r,rfl,q⟩;exact⟨(y,r),rfl,q⟩
 · rintro⟨p,e,q⟩
   cases xs with
   | nil=>cases e
   | cons y r=>cases e;exact⟨y,r,rfl,q⟩
theorem m_hCons_c{g:HG}{gs:qr}(y:IQ)(r:List IQ):r_ g gs (y::r) ρ=Hj (g y ρ) fun ρ'=>gs r ρ':=by rw[wa];rfl
theorem m_hNil_n:Ch [] ρ=ret ρ:=by rw[zF,ah rfl]
theorem m_hTup(n:Nat){gs:qr}(x:IQ):Cf n gs x ρ=aD (tupD x) fun xs=>GW (xs.length=n) (gs xs ρ):=by
 refine af fun Q=>?_;simp only[ai,uZ,Cf,GW]
theorem s_asg{g:HG}:mS (AM fa g) ρ=Hj (fa ρ) fun w=>aD (asD w) fun x=>Hj (g x ρ) fun ρ'=>ret (.nx ρ'):=by
 refine af fun Q=>?_;simp only[mS,AM,Hj,ai,cX,ret]
theorem s_par(i j:Nat):mS (Dw i j fs) ρ=Hj (fs ρ) fun ws=>aD (ji ws) fun ds=>aD (match ds with | [x,y]=>some (x,y)|_=>none) fun p=>ret (.nx ((ρ.set i (some (.d p.1))).set j (some (.d p.2)))):=by
 show(Hj (fs ρ) fun ws=>fun(Q:Fl->Prop)=>∃x y,ji ws=some [x,y]/\Q (.nx ((ρ.set i (some (.d x))).set j (some (.d y)))))=_;congr 1;funext ws;refine af fun Q=>?_;simp only[ai,ret];constructor
 · rintro⟨x,y,e,q⟩;exact⟨_,e,(x,y),rfl,q⟩
 · rintro⟨ds,e,p,e2,q⟩;split at e2
   · cases e2;exact⟨_,_,e,q⟩
   · cases e2
def FX(ρ:En)(i:Nat):Option Int:=((ρ[i]?).join).bind asI
def asM:W->Option (List IQ)
 | .ml xs=>some xs
 | _=>none
def FV(ρ:En)(i:Nat):Option (List IQ):=((ρ[i]?).join).bind asM
theorem asM_ml(xs:List IQ):asM (.ml xs)=some xs:=rfl
theorem DR{w:W}:asM w=some xs↔w = .ml xs:=by
 constructor
 · intro h;unfold asM at h;split at h<;>simp_all
 · rintro rfl;rfl
theorem nU{i:Nat}:FV ρ i=some xs↔ρ[i]?=some (some (.ml xs)):=by
 unfold FV;constructor
 · intro h
   cases q:ρ[i]? with
   | none=>rw[q]at h;cases h
   | some o=>rw[q]at h;cases o with
     | none=>cases h
     | some w=>rw[DR.mp h]
 · intro h;rw[h];rfl
theorem s_frz(i:Nat):mS (Bk i t) ρ=aD (FV ρ i) fun xs=>mS t (ρ.set i (some (.d (.list xs)))):=by
 refine af fun Q=>?_;simp only[mS,Bk,ai,nU]
theorem s_mut(i:Nat)(h:List IQ->List W->(List IQ->Prop)->Prop):mS (uR i h fs) ρ=aD (FV ρ i) fun xs=>Hj (fs ρ) fun ws=>Hj (h xs ws) fun ys=>ret (.nx (ρ.set i (some (.ml ys)))):=by
 refine af fun Q=>?_;simp only[mS,uR,Hj,ai,nU,ret]
theorem m_gApp(xs:List IQ)(w:W):z0 xs [w]=aD (asD w) fun x=>GW (xs.length<sizeLine) (ret (xs++[x])):=by
 refine af fun Q=>?_;simp only[z0,ai,cX,GW,ret];constructor
 · rintro⟨x,e,a,q⟩;cases w<;>first|(cases e;exact⟨_,rfl,a,q⟩)|cases e
 · rintro⟨x,rfl,a,q⟩;exact⟨x,rfl,a,q⟩
theorem m_gExt(xs:List IQ)(w:W):AX xs [w]=aD ((asD w).bind lstD) fun ys=>GW (xs.length+ys.length<=sizeLine) (ret (xs++ys)):=by
 refine af fun Q=>?_;simp only[AX,ai,GW,ret];constructor
 · rintro⟨x,e,a,q⟩;cases w<;>first|(cases e;exact⟨_,rfl,a,q⟩)|cases e
 · rintro⟨x,e,a,q⟩
   cases h:asD w with
   | none=>rw[h]at e;cases e
   | some d=>rw[h]at e;rw[cX.mp h,B0.mp e];exact⟨x,rfl,a,q⟩
end
def Le(a b:En):Prop:=a.length=b.length/\∀(i:Nat) w,a[i]?=some (some w)->b[i]?=some (some w)
theorem Le.refl(a:En):Le a a:=⟨rfl,fun _ _ h=>h⟩
theorem Le.trans{a b c:En}(h:Le a b)(h':Le b c):Le a c:=⟨h.1.trans h'.1,fun i w e=>h'.2 i w (h.2 i w e)⟩
theorem le_nil:Le [] []=True:=propext ⟨fun _=>trivial,fun _=>Le.refl _⟩
theorem le_cn(x:Option W)(a b:En):Le (none::a) (x::b)=Le a b:=by
 refine propext ⟨fun h=>⟨by have:=h.1;simpa using this,fun i w e=>by have:=h.2 (i+1) w (by simpa using e);simpa using this⟩,fun h=>⟨by simp[h.1],fun i w e=>?_⟩⟩
 cases i with
 | zero=>simp at e
 | succ i=>simpa using h.2 i w (by simpa using e)
theorem le_cs(x:Option W)(a b:En):Le (x::a) (x::b)=Le a b:=by
 refine propext ⟨fun h=>⟨by have:=h.1;simpa using this,fun i w e=>by have:=h.2 (i+1) w (by simpa using e);simpa using this⟩,fun h=>⟨by simp[h.1],fun i w e=>?_⟩⟩
 cases i with
 | zero=>simpa using e
 | succ i=>simpa using h.2 i w (by simpa using e)
theorem VR.le{K:W.Frag}{ρ0:En}(R:VR K rl F₀ H₀ F H σ ρ)(h:Le ρ0 ρ):VR K rl F₀ H₀ F H σ ρ0 :=
 ⟨R.g,fun i w e=>R.sl i w (h.2 i w e),fun i j x y v n e1 e2=>R.ap i j x y v n (h.2 i x e1) (h.2 j y e2),fun i xs e=>R.np i xs (h.2 i _ e),h.1.trans R.len⟩
def fo:List Nat->En->En
 | [],ρ=>ρ
 | i::l,ρ=>fo l (ρ.set i none)
theorem zI(ρ:En)(i:Nat):Le (ρ.set i none) ρ:=by
 refine⟨by simp,fun j w e=>?_⟩;rw[Kb]at e;split at e
 · split at e
   · cases e
   · cases e
 · exact e
theorem dX:∀(l:List Nat)(ρ:En),Le (fo l ρ) ρ
 | [],ρ=>Le.refl ρ
 | i::l,ρ=>(dX l (ρ.set i none)).trans (zI ρ i)
theorem fo_nil(ρ:En):fo [] ρ=ρ:=rfl
theorem fo_cons(i:Nat)(l:List Nat)(ρ:En):fo (i::l) ρ=fo l (ρ.set i none):=rfl
def bM(fl:List Nat)(g:HG)(t:HD):List IQ->HD
 | [],D,ρ=>D.nx ρ
 | x::xs,D,ρ=>g x ρ fun ρ2=>t {D with nx:=fun ρ'=>bM fl g t xs D (fo fl ρ'),ct:=fun ρ'=>bM fl g t xs D (fo fl ρ'),bk:=fun ρ'=>D.nx (fo fl ρ')} ρ2
def yi(fl:List Nat)(fi:En->(List IQ->Prop)->Prop)(g:HG)(t:HD):HD:=fun D ρ=>fi ρ fun xs=>bM fl g t xs D (fo fl ρ)
section
variable{X:Cx}{rl:RlT}{st:Stmt}{rest body:List Stmt}{t u:HD}{a b c e:Expr}{es:List Expr}{fa fb:TV}{fs:HC}{f:TB}{pos p:Pos}
theorem ba(fl:List Nat){g:HG}(hp:P1 (JE X.prog X.w) X.A X.env X.xe)(hc:X.calm=true)(hi:HY X rl tg iter fi)(hg:H_ X rl tg g)(hb:jk X rl body t)
 (hs:∀x,JI iter X.env x=pure x:=by intro _;rfl):HV X rl (.For tg iter body [] pos) (yi fl fi g t):=by
 obtain⟨wi,p0,k0⟩:=hi;obtain⟨G,p1,k1⟩:=hg;obtain⟨T,p2,k2⟩:=hb;refine⟨_,tO hp hc p0 p1 p2 hs,fun{F₀ H₀ F H σ ρ} R Dv D ok q=>k0 R _ _ q fun J xs F1 H1 g1 vi q1=>?_⟩;refine⟨fun i m σ H=>m=xs.length-i/\i<=xs.length/\∃F ρ,bm F1 F/\VR X.K rl F₀ H₀ F H σ ρ/\bM fl g t (xs.drop i) Dv ρ,⟨xs.length,by simp,J1 _,F1,fo fl ρ,.refl _,(R.grow g1).le (dX fl ρ),by simpa using q1⟩,?_⟩;rintro i m σ H ⟨rfl,hi,F2,ρ2,s2,R2,j2⟩;have sH:bm F1 H:=s2.trans R2.sub;by_cases hlt:i<xs.length
 · have ei:xs[i]?=some xs[i]:=by simp[hlt]
   rw[Kj hlt]at j2;refine .inr ⟨vi.go i H _ ei sH,fun σ' H'=>∃F ρ,bm F1 F/\VR X.K rl F₀ H₀ F H' σ' ρ/\bM fl g t (xs.drop (i+1)) Dv ρ,fun σ' H' z=>⟨xs.length-(i+1),by omega,rfl,hlt,z⟩,fun v H' y=>?_⟩;obtain⟨Fy,gy,rv⟩:=vi.yld i H v H' _ F2 ei s2 R2.sub R2.reel y;refine k1 (R2.grow gy) v _ _ _ rv j2 fun F3 H3 σ3 ρ3 s3 n3 R3 q3=>?_;have s13:bm F1 F3:=s2.trans (gy.fs.trans s3.fs)
   exact k2 R3 {Dv with nx:=fun ρ'=>bM fl g t (xs.drop (i+1)) Dv (fo fl ρ'),ct:=fun ρ'=>bM fl g t (xs.drop (i+1)) Dv (fo fl ρ'),bk:=fun ρ'=>Dv.nx (fo fl ρ')} _
    ⟨fun F4 H4 σ4 ρ4 s4 R4 q4=>⟨F4,fo fl ρ4,s13.trans s4,R4.le (dX fl ρ4),q4⟩,ok.rt,fun F4 H4 σ4 ρ4 s4 R4 q4=>ok.nx _ _ _ _ (g1.fs.trans (s13.trans s4)) (R4.le (dX fl ρ4)) q4,fun F4 H4 σ4 ρ4 s4 R4 q4=>⟨F4,fo fl ρ4,s13.trans s4,R4.le (dX fl ρ4),q4⟩⟩ q3
 · have e:i=xs.length:=by omega
   subst e;rw[Lp]at j2;exact .inl ⟨vi.stop _ H (Jb _) sH,ok.nx _ _ _ _ (g1.fs.trans s2) R2 j2⟩
def Fd(fl:List Nat)(f:TB)(t:HD)(m:Nat):HD:=fun D ρ=>f ρ fun b=>if b=true then t {D with nx:=fun ρ'=>∃k,∃h:k<m,Fd fl f t k D (fo fl ρ'),ct:=fun ρ'=>∃k,∃h:k<m,Fd fl f t k D (fo fl ρ'),bk:=fun ρ'=>D.nx (fo fl ρ')} ρ else D.nx ρ
termination_by m
def m_(fl:List Nat)(f:TB)(t:HD):HD:=fun D ρ=>∃m,Fd fl f t m D (fo fl ρ)
theorem tm(fl:List Nat)(f:TB)(t:HD)(m:Nat)(D:VEnds)(ρ:En):Fd fl f t m D ρ=f ρ fun b=>if b=true then t {D with nx:=fun ρ'=>∃k,∃h:k<m,Fd fl f t k D (fo fl ρ'),ct:=fun ρ'=>∃k,∃h:k<m,Fd fl f t k D (fo fl ρ'),bk:=fun ρ'=>D.nx (fo fl ρ')} ρ else D.nx ρ:=by
 conv=>lhs;unfold Fd
theorem mP(fl:List Nat)(hp:P1 (JE X.prog X.w) X.A X.env X.xe)(hc:PB X rl c f)(hb:jk X rl body t):HV X rl (.While c body [] pos) (m_ fl f t):=by
 obtain⟨t0,p0,k0⟩:=hc;obtain⟨t1,p1,k1⟩:=hb;refine⟨_,qW hp p0 p1,fun{F₀ H₀ F H σ ρ} R Dv D ok q=>?_⟩;obtain⟨m,j0⟩:=q;refine⟨fun m σ' H'=>∃F' ρ',bm F F'/\VR X.K rl F₀ H₀ F' H' σ' ρ'/\Fd fl f t m Dv ρ',⟨m,F,fo fl ρ,.refl _,R.le (dX fl ρ),j0⟩,?_⟩;rintro m σ2 H2 ⟨F2,ρ2,s2,R2,j⟩;rw[tm]at j;refine k0 R2 _ _ j fun b F1 H1 g1 q1=>?_
 cases b with
 | false=>exact ok.nx _ _ _ _ (s2.trans g1.fs) (R2.grow g1) q1
 | true =>
   refine⟨fun σ' H'=>∃F' ρ',bm F F'/\VR X.K rl F₀ H₀ F' H' σ' ρ'/\∃m',m'<m/\Fd fl f t m' Dv ρ',fun σ' H' ⟨F',ρ',s',R',m',hm,j⟩=>⟨m',hm,F',ρ',s',R',j⟩,?_⟩
   exact k1 (R2.grow g1) {Dv with nx:=fun ρ'=>∃k,∃h:k<m,Fd fl f t k Dv (fo fl ρ'),ct:=fun ρ'=>∃k,∃h:k<m,Fd fl f t k Dv (fo fl ρ'),bk:=fun ρ'=>Dv.nx (fo fl ρ')} _
    ⟨fun F3 H3 σ3 ρ3 s3 R3 ⟨m',hm,q3⟩=>⟨F3,fo fl ρ3,(s2.trans g1.fs).trans s3,R3.le (dX fl ρ3),m',hm,q3⟩,ok.rt,fun F3 H3 σ3 ρ3 s3 R3 q3=>ok.nx _ _ _ _ ((s2.trans g1.fs).trans s3) (R3.le (dX fl ρ3)) q3,fun F3 H3 σ3 ρ3 s3 R3 ⟨m',hm,q3⟩=>⟨F3,fo fl ρ3,(s2.trans g1.fs).trans s3,R3.le (dX fl ρ3),m',hm,q3⟩⟩ q1
end
def GE(fl:List Nat)(k:En->Mo Fl):Fl->Mo Fl
 | .nx ρ=>k (fo fl ρ)
 | .ct ρ=>k (fo fl ρ)
 | .bk ρ=>ret (.nx (fo fl ρ))
 | .rt w=>ret (.rt w)
def bQ(fl:List Nat)(b:IQ->En->Mo Fl):List IQ->En->Mo Fl
 | [],ρ=>ret (.nx ρ)
 | x::xs,ρ=>Hj (b x ρ) (GE fl (bQ fl b xs))
theorem jG(fl:List Nat)(g:HG)(t:HD):∀(xs:List IQ)(ρ:En),mS (bM fl g t xs) ρ=bQ fl (fun x ρ=>Hj (g x ρ) (mS t)) xs ρ
 | [],ρ=>rfl
 | x::xs,ρ=>by
   refine af fun Q=>?_;show(g x ρ fun ρ2=>t ⟨fun ρ'=>mS (bM fl g t xs) (fo fl ρ') Q,fun w=>Q (.rt w),fun ρ'=>Q (.nx (fo fl ρ')),fun ρ'=>mS (bM fl g t xs) (fo fl ρ') Q⟩ ρ2)↔_;simp only[jG fl g t xs];exact M3
def Hn(g:HG)(t:HD):IQ->En->Mo Fl:=fun x ρ=>Hj (g x ρ) (mS t)
theorem bdy_ap(g:HG)(t:HD)(x:IQ)(ρ:En):Hn g t x ρ=Hj (g x ρ) (mS t):=nr rfl
theorem s_for(fl:List Nat)(fi:En->(List IQ->Prop)->Prop)(g:HG)(t:HD)(ρ:En):mS (yi fl fi g t) ρ=Hj (fi ρ) fun xs=>bQ fl (Hn g t) xs (fo fl ρ):=by
 refine af fun Q=>?_;show(fi ρ fun xs=>mS (bM fl g t xs) (fo fl ρ) Q)↔_;simp only[jG];exact M3
def GD(fl:List Nat)(J:En->Prop)(Q:Fl->Prop):Fl->Prop
 | .nx ρ=>J (fo fl ρ)
 | .ct ρ=>J (fo fl ρ)
 | .bk ρ=>Q (.nx (fo fl ρ))
 | .rt w=>Q (.rt w)
section
variable{α σ:Type}{fl:List Nat}{b:IQ->En->Mo Fl}
theorem kZ(J:Nat->En->Prop){Q:Fl->Prop}:∀{xs:List IQ}{ρ:En}(n:Nat),J n ρ->(∀i x ρ,xs[i]?=some x->J (n+i) ρ->∀k:Fl->Prop,(∀r,GD fl (J (n+i+1)) Q r->k r)->b x ρ k)->(∀ρ,J (n+xs.length) ρ->Q (.nx ρ))->bQ fl b xs ρ Q
 | [],ρ,n,h0,_,fin=>fin ρ h0
 | x::xs,ρ,n,h0,step,fin=>by
   refine step 0 x ρ rfl h0 (fun r=>GE fl (bQ fl b xs) r Q) fun r hr=>?_;have rc:∀ρ',J (n+1) ρ'->bQ fl b xs ρ' Q:=fun ρ' h'=>kZ J (n+1) h' (fun i y ρ e j k hk=>step (i+1) y ρ (by simpa using e) (by rw[show n+(i+1)=n+1+i by omega];exact j) k (by rw[show n+(i+1)+1=n+1+i+1 by omega];exact hk)) (fun ρ j=>fin ρ (by rw[JG,show n+(xs.length+1)=n+1+xs.length by omega];exact j))
   cases r with
   | nx ρ'=>exact rc _ hr
   | ct ρ'=>exact rc _ hr
   | bk ρ'=>exact hr
   | rt w=>exact hr
theorem o6{xs:List α}{enc:α->IQ}{Q:Fl->Prop}(J:Nat->En->Prop)(h0:J 0 ρ)
 (step:∀i (h:i<xs.length) ρ,J i ρ->∀k:Fl->Prop,(∀r,GD fl (J (i+1)) Q r->k r)->b (enc xs[i]) ρ k)(fin:∀ρ,J xs.length ρ->Q (.nx ρ)):bQ fl b (xs.map enc) ρ Q:=by
 refine kZ J 0 h0 (fun i x ρ e j k hk=>?_) (fun ρ j=>fin ρ (by simpa using j));have hi:i<xs.length:=by have:=(Jn.mp e).1;simpa using this
 rw[JY,Jd hi]at e;cases e;rw[Nat.zero_add]at j hk;exact step i hi ρ j k hk
theorem rM{lo:Int}{Q:Fl->Prop}(J:Nat->En->Prop)(h0:J 0 ρ)
 (step:∀i,i<n->∀ρ,J i ρ->∀k:Fl->Prop,(∀r,GD fl (J (i+1)) Q r->k r)->b (.int (lo+i)) ρ k)(fin:∀ρ,J n ρ->Q (.nx ρ)):bQ fl b (aY lo n) ρ Q:=by
 refine o6 (xs:=Jm n) J h0 (fun i h ρ j k hk=>?_) (fun ρ j=>fin ρ (by simpa using j));rw[LN];exact step i (by simpa using h) ρ j k hk
theorem oY{xs:List α}{enc:α->IQ}(st:σ->En)(f:σ->α->σ)(s:σ)(I:σ->Prop)(h0:I s)(step:∀x∈xs,∀s,I s->I (f s x)/\∃ρ',b (enc x) (st s)=ret (.nx ρ')/\fo fl ρ'=st (f s x)):bQ fl b (xs.map enc) (st s)=ret (.nx (st (xs.foldl f s))):=by
 induction xs generalizing s with
 | nil=>rfl
 | cons x xs ih =>
   obtain⟨h1,ρ',e1,e2⟩:=step x IV s h0;show Hj (b (enc x) (st s)) (GE fl (bQ fl b (xs.map enc)))=_;rw[e1,bnd_ret];show bQ fl b (xs.map enc) (fo fl ρ')=_;rw[e2];exact ih (f s x) h1 fun y hy=>step y (IT _ hy)
theorem me{lo:Int}(st:Nat->En)(h0:∀i,i<n->∃ρ',b (.int (lo+i)) (st i)=ret (.nx ρ')/\fo fl ρ'=st (i+1)):bQ fl b (aY lo n) (st 0)=ret (.nx (st n)):=by
 have key:∀k m,m+k=n->bQ fl b ((aY lo n).drop m) (st m)=ret (.nx (st n)):=by
  intro k
  induction k with
  | zero => intro m e;have e:m=n:=by omega
            subst e;rw[Ld (by rw[ae];omega)];rfl
  | succ k ih =>
    intro m e;have hm:m<(aY lo n).length:=by rw[ae];omega
    rw[Kj hm];have ex:(aY lo n)[m] = .int (lo+m):=by simp[aY]
    rw[ex];obtain⟨ρ',e1,e2⟩:=h0 m (by omega);show Hj (b (.int (lo+m)) (st m)) (GE fl (bQ fl b ((aY lo n).drop (m+1))))=_;rw[e1,bnd_ret];show bQ fl b _ (fo fl ρ')=_;rw[e2];exact ih (m+1) (by omega)
 have:=key n 0 (by omega);simpa using this
theorem oZ{xs:List α}{enc:α->IQ}(p:α->Bool)(w:α->W)(step:∀x∈xs,(p x=true->b (enc x) ρ=ret (.rt (w x)))/\(p x=false->∃ρ',b (enc x) ρ=ret (.nx ρ')/\fo fl ρ'=ρ)) :
 bQ fl b (xs.map enc) ρ=match xs.find? p with|some x=>ret (.rt (w x))|none=>ret (.nx ρ):=by
 induction xs with
 | nil=>rfl
 | cons x xs ih =>
   have h:=step x IV;show Hj (b (enc x) ρ) (GE fl (bQ fl b (xs.map enc)))=_
   cases hp:p x with
   | true=>rw[h.1 hp,bnd_ret,List.find?_cons_of_pos hp];rfl
   | false =>
     obtain⟨ρ',e1,e2⟩:=h.2 hp;rw[e1,bnd_ret,List.find?_cons_of_neg (by rw[hp];decide)];show bQ fl b _ (fo fl ρ')=_;rw[e2];exact ih fun y hy=>step y (IT _ hy)
end
def ge(fl:List Nat)(f:TB)(t:HD)(ρ:En):Mo Fl:=fun Q=>∃m,mS (Fd fl f t m) ρ Q
theorem s_while(fl:List Nat)(f:TB)(t:HD)(ρ:En):mS (m_ fl f t) ρ=ge fl f t (fo fl ρ):=nr rfl
theorem qu(fl:List Nat)(f:TB)(t:HD)(m:Nat)(ρ:En):mS (Fd fl f t m) ρ=Hj (f ρ) fun b=>if b=true then Hj (mS t ρ) (GE fl fun ρ'=>fun Q=>∃k,∃h:k<m,mS (Fd fl f t k) ρ' Q)else ret (.nx ρ):=by
 refine af fun Q=>?_;show Fd fl f t m _ ρ↔_;rw[tm];simp only[Hj,gF];exact M3
theorem ut{fl:List Nat}{f:TB}{t:HD}(h:f ρ=ret false):ge fl f t ρ=ret (.nx ρ):=by
 refine af fun Q=>?_;constructor
 · rintro⟨m,q⟩;rw[qu,h,bnd_ret,if_neg (by decide)]at q;exact q
 · intro q;refine⟨0,?_⟩;rw[qu,h,bnd_ret,if_neg (by decide)];exact q
theorem ur{fl:List Nat}{f:TB}{t:HD}{ρ':En}(h:f ρ=ret true)(h2:mS t ρ=ret (.nx ρ')):ge fl f t ρ=ge fl f t (fo fl ρ'):=by
 refine af fun Q=>?_;constructor
 · rintro⟨m,q⟩;rw[qu,h,bnd_ret,if_pos rfl,h2,bnd_ret]at q;obtain⟨k,_,q⟩:=q;exact⟨k,q⟩
 · rintro⟨m,q⟩;refine⟨m+1,?_⟩;rw[qu,h,bnd_ret,if_pos rfl,h2,bnd_ret];exact⟨m,Nat.lt_succ_self m,q⟩
theorem mN{σ:Type}{fl:List Nat}{f:TB}{t:HD}(st:σ->En)(c:σ->Bool)(nxt:σ->σ)(μ:σ->Nat)(I:σ->Prop)
 (hf:∀s,I s->f (st s)=ret (c s))(ht:∀s,I s->c s=true->I (nxt s)/\μ (nxt s)<μ s/\∃ρ',mS t (st s)=ret (.nx ρ')/\fo fl ρ'=st (nxt s))(s:σ)(hs:I s):∃s',I s'/\c s'=false/\ge fl f t (st s)=ret (.nx (st s')):=by
 induction hm:μ s using NS generalizing s with
 | ind n ih =>
   subst hm
   cases hc:c s with
   | false=>exact⟨s,hs,hc,ut (by rw[hf s hs,hc])⟩
   | true =>
     obtain⟨i1,m1,ρ',e1,e2⟩:=ht s hs hc;obtain⟨s',a,b,e⟩:=ih _ m1 (nxt s) i1 rfl;exact⟨s',a,b,by rw[ur (by rw[hf s hs,hc]) e1,e2,e]⟩
def kr(ρ0:En)(g:HG)(ft:TB)(fe:TV):List IQ->List IQ->(List IQ->Prop)->Prop
 | [],acc,Q=>Q acc
 | x::xs,acc,Q=>g x ρ0 fun ρ2=>Le ρ0 ρ2/\ft ρ2 fun b=>if b=true then fe ρ2 fun w=>∃d,w.fz = .d d/\acc.length<sizeLine/\kr ρ0 g ft fe xs (acc++[d]) Q else kr ρ0 g ft fe xs acc Q
def kz(fi:En->(List IQ->Prop)->Prop)(fr:List (Option Nat))(g:HG)(ft:TB)(fe:TV):TV:=fun ρ Q=>fi ρ fun xs=>kr (dn fr ρ) g ft fe xs [] fun ds=>Q (.ml ds)
section
variable{X:Cx}{rl:RlT}{elt tg iter:Expr}{ifs:List Expr}{scope:Scope}{pos:Pos}{fi:En->(List IQ->Prop)->Prop}{g:HG}{ft:TB}{fe:TV}
theorem lc{N':List Str}{wi:TI}(fr:List (Option Nat))(k0:∀{F₀ H₀ F H:Hp}{σ:St}{ρ:En},VR X.K rl F₀ H₀ F H σ ρ->∀(Qd:List IQ->Prop)(R:It->Hp->Prop),fi ρ Qd ->
 (∀J xs F' H',Grow rl F H F' H'->VIt X.K rl F' J xs->Qd xs->R J H')->wi σ H R)
 (hg:∀y,H_ (blk X N' scope y) rl tg g)(ht:∀y,ql (blk X N' scope y) rl ifs ft)(he:∀y,PV (blk X N' scope y) rl elt fe)
 (R:VR X.K rl F₀ H₀ F H σ ρ)(Qd:W->Prop)(Q:VK)(q:kz fi fr g ft fe ρ Qd)
 (k:∀v w F' H',Grow rl F H F' H'->cu X.K rl F' H' v w->cO H v w->Qd w->Q v H'):qM wi fr (fun y=>Jw (hg y)) (fun y=>Jw (ht y)) (fun y=>Jw (he y)) σ H Q:=by
 refine k0 R _ _ q fun J xs F1 H1 g1 vi q1=>?_;intro D hD;have rD:rl.a≠some D:=fun e=>by obtain⟨o,z⟩:=g1.reel.live e;rw[hD]at z;cases z
 have FD:F1 D=none:=g1.sub.free hD;have gD:Grow rl F1 H1 F1 (upd H1 D (.lst [])):=Grow.laid g1.sub g1.reel hD;have R1:=R.grow g1;have n0:mI (dn fr ρ):=db
 refine⟨fun i m acc σc Hc=>m=xs.length-i/\i<=xs.length/\∃Fc ds,VR X.K rl F1 H1 Fc Hc σc (dn fr ρ)/\Hc D=some (.lst acc)/\Fc D=none/\Reps X.K Fc acc ds/\kr (dn fr ρ) g ft fe (xs.drop i) ds (fun ds=>Qd (.ml ds)),
  ⟨xs.length,by simp,J1 _,F1,[],eJ R1 gD,ak,FD,.nil,by simpa using q1⟩,?_⟩
 rintro z i m acc σc Hc ⟨rfl,hi,Fc,ds,Rc,hDc,fDc,rs,q2⟩;have sH:bm F1 Hc:=Rc.g.fs.trans Rc.sub;by_cases hlt:i<xs.length
 · have ei:xs[i]?=some xs[i]:=by simp[hlt]
   have ed:xs.drop i=xs[i]::xs.drop (i+1):=Kj hlt;rw[ed]at q2;refine .inr ⟨vi.go i Hc _ ei sH,fun v H' y=>?_⟩;obtain⟨Fy,gy,rv⟩:=vi.yld i Hc v H' _ Fc ei Rc.g.fs Rc.sub Rc.reel y;refine(IU (hg z)).2 (Rc.grow gy) v _ _ _ rv q2 fun F3 H3 σ3 ρ3 g3 n3 R3 ⟨le3,q3⟩=>?_;refine(IU (ht z)).2 R3 _ _ q3 fun b F4 H4 g4 q4=>?_;have R4:=R3.grow g4;have g34:=(gy.trans g3).trans g4;have keepD:∀{Fx Hx:Hp},Grow rl Fc Hc Fx Hx->Hx D=some (.lst acc)/\Fx D=none:=fun gx=>⟨gx.same D _ hDc rD,by rw[gx.old D _ hDc];exact fDc⟩
   cases b with
   | false=>exact⟨xs.length-(i+1),by omega,rfl,hlt,F4,ds,R4.le le3,(keepD g34).1,(keepD g34).2,rs.mono g34.fs,q4⟩
   | true =>
     refine(IU (he z)).2 R4 _ _ q4 fun v5 w5 F5 H5 g5 r5 n5 ⟨d,ed5,hl,q5⟩=>?_;obtain⟨F6,g6,s6,r6⟩:=cu.fz g5 r5 n5;rw[ed5]at r6;have g36:=g34.trans g6;refine⟨(keepD g36).1,by rw[rs.length];exact hl,xs.length-(i+1),by omega,rfl,hlt,F6,ds++[d],((R4.grow g6).le le3).other n0 hD (keepD g36).2 rD,ak,(keepD g36).2,(rs.mono g36.fs).snoc r6,q5⟩
 · have e:i=xs.length:=by omega
   subst e;rw[Lp]at q2;refine .inl ⟨vi.stop _ Hc (Jb _) sH,k _ (.ml ds) Fc Hc (g1.trans Rc.g) ⟨D,acc,rfl,fDc,rD,hDc,rs⟩ (fun a ea=>by cases ea;exact g1.freeB hD) q2⟩
theorem bv(N':List Str)(fr:List (Option Nat))(hc:X.calm=true)(hi:HY X rl tg iter fi)
 (hg:∀y,H_ (blk X N' scope y) rl tg g)(ht:∀y,ql (blk X N' scope y) rl ifs ft)(he:∀y,PV (blk X N' scope y) rl elt fe)
 (hfr:mC fr N' X.N scope X.env.scope=true:=by rfl)(hsc:mK scope X.env.scope=true:=by rfl)
 (hs:∀x,JI iter X.env x=pure x:=by intro _;rfl):PV X rl (.ListComp elt [⟨tg,iter,ifs,0⟩] scope pos) (kz fi fr g ft fe):=by
 obtain⟨wi,p0,k0⟩:=hi;exact⟨_,eP N' fr hc p0 hfr hsc (fun y=>(IU (hg y)).1) (fun y=>(IU (ht y)).1) (fun y=>(IU (he y)).1) hs,fun R Qd Q q k=>lc fr k0 hg ht he R Qd Q q k⟩
theorem jo(i:Nat){b:Bool}{x:Str}{spos:Pos}(hN:X.N.Nodup)(N':List Str)(fr:List (Option Nat))(hc:X.calm=true)(hi:HY X rl tg iter fi)
 (hg:∀y,H_ (blk X N' scope y) rl tg g)(ht:∀y,ql (blk X N' scope y) rl ifs ft)(he:∀y,PV (blk X N' scope y) rl elt fe)
 (hsw:K4 (.ListComp elt [⟨tg,iter,ifs,0⟩] scope pos) (some (.Name x px)) spos.line X.env=pure b:=by rfl)
 (hix:X.N[i]?=some x:=by rfl)(hx:Loc X.env.scope x:=by first|exact KH rfl|exact J8 rfl)(hf:X.fn x=true\/X.env.scope.names.lookup x=some .local:=by first|exact .inl rfl|exact .inr rfl)
 (hfr:mC fr N' X.N scope X.env.scope=true:=by rfl)(hsc:mK scope X.env.scope=true:=by rfl)
 (hs:∀x,JI iter X.env x=pure x:=by intro _;rfl):HV X rl (.Assign [.Name x px] (.ListComp elt [⟨tg,iter,ifs,0⟩] scope pos) spos) (AI i (kz fi fr g ft fe)):=by
 obtain⟨wi,p0,k0⟩:=hi;refine⟨_,lU N' fr hc p0 hfr hsc (fun y=>(IU (hg y)).1) (fun y=>(IU (ht y)).1) (fun y=>(IU (he y)).1) hN hix hx hf hsw hs,fun R Dv D ok q=>lc fr k0 hg ht he R _ _ q fun v w F1 H1 g1 r1 n1 ⟨hp,q1⟩=>?_⟩;exact ok.nx _ _ _ _ g1.fs (R.set g1 r1 n1 (fun xs z=>by subst z;cases hp) i) q1
end
def GM(ρ0:En)(g:HG)(ft:TB)(fe:TV)(x:IQ):Mo (Option IQ):=Hj (g x ρ0) fun ρ2=>GW (Le ρ0 ρ2) (Hj (ft ρ2) fun b=>if b=true then Hj (fe ρ2) fun w=>aD (asD w.fz) fun d=>ret (some d)else ret none)
def bH(b:IQ->Mo (Option IQ)):List IQ->List IQ->Mo (List IQ)
 | [],acc=>ret acc
 | x::xs,acc=>Hj (b x) fun o=>match o with
   | some d=>GW (acc.length<sizeLine) (bH b xs (acc++[d]))
   | none=>bH b xs acc
theorem ib(ρ0:En)(g:HG)(ft:TB)(fe:TV):∀(xs acc:List IQ),kr ρ0 g ft fe xs acc=bH (GM ρ0 g ft fe) xs acc
 | [],acc=>rfl
 | x::xs,acc=>by
   refine af fun Q=>?_;show(g x ρ0 fun ρ2=>Le ρ0 ρ2/\ft ρ2 fun b=>if b=true then fe ρ2 fun w=>∃d,w.fz = .d d/\acc.length<sizeLine/\kr ρ0 g ft fe xs (acc++[d]) Q else kr ρ0 g ft fe xs acc Q)↔(Hj (GM ρ0 g ft fe x) _) Q;simp only[ib ρ0 g ft fe xs]
   have:∀(ρ2:En)(b:Bool),(if b=true then fe ρ2 fun w=>∃d,w.fz = .d d/\acc.length<sizeLine/\bH (GM ρ0 g ft fe) xs (acc++[d]) Q else bH (GM ρ0 g ft fe) xs acc Q)=(Hj (if b=true then Hj (fe ρ2) fun w=>aD (asD w.fz) fun d=>ret (some d)else ret none) fun o=>match o with
   | some d=>GW (acc.length<sizeLine) (bH (GM ρ0 g ft fe) xs (acc++[d]))
   | none=>bH (GM ρ0 g ft fe) xs acc) Q:=by
     intro ρ2 b
     cases b with
     | false=>rfl
     | true =>
       rw[if_pos rfl,if_pos rfl];show _=fe ρ2 fun w=>_;congr 1;funext w;refine propext ?_;show _↔(Hj (aD (asD w.fz) fun d=>ret (some d)) _) Q;rw[bnd_opt,ai];simp only[cX];exact M3
   simp only[this];exact M3
theorem m_comp(fi:En->(List IQ->Prop)->Prop)(fr:List (Option Nat))(g:HG)(ft:TB)(fe:TV)(ρ:En):kz fi fr g ft fe ρ=Hj (fi ρ) fun xs=>Hj (bH (GM (dn fr ρ) g ft fe) xs []) fun ds=>ret (.ml ds):=by
 refine af fun Q=>?_;show(fi ρ fun xs=>kr (dn fr ρ) g ft fe xs [] fun ds=>Q (.ml ds))↔_;simp only[ib];exact M3
section
variable{α:Type}{b:IQ->Mo (Option IQ)}
theorem dM{enc:α->IQ}(f:α->Option IQ):∀(xs:List α)(acc:List IQ),(∀x∈xs,b (enc x)=ret (f x))->acc.length+xs.length<=sizeLine->bH b (xs.map enc) acc=ret (acc++xs.filterMap f)
 | [],acc,_,_=>by simp[bH]
 | x::xs,acc,h,hl=>by
   show Hj (b (enc x)) _=_;rw[h x IV,bnd_ret];simp at hl
   cases e:f x with
   | none =>
     show bH b (xs.map enc) acc=_
     rw[dM f xs acc (fun y hy=>h y (IT _ hy)) (by omega),MN e]
   | some d =>
     show GW (acc.length<sizeLine) (bH b (xs.map enc) (acc++[d]))=_;rw[ah (by omega),dM f xs (acc++[d]) (fun y hy=>h y (IT _ hy)) (by simp;omega),MO e];simp
theorem pL{xs:List α}{enc:α->IQ}(f:α->Option IQ)(h:∀x∈xs,b (enc x)=ret (f x))(hl:xs.length<=sizeLine):bH b (xs.map enc) []=ret (xs.filterMap f):=by
 have:=dM f xs [] h (by simpa using hl);simpa using this
theorem comp_map{xs:List α}{enc:α->IQ}(f:α->IQ)(h:∀x∈xs,b (enc x)=ret (some (f x)))(hl:xs.length<=sizeLine):bH b (xs.map enc) []=ret (xs.map f):=by
 rw[pL (fun x=>some (f x)) h hl,O0]
theorem i4{lo:Int}(f:Nat->IQ)(h:∀j,j<n->b (.int (lo+j))=ret (some (f j)))(hl:n<=sizeLine):bH b (aY lo n) []=ret ((Jm n).map f) :=
 comp_map (xs:=Jm n) f (fun j hj=>h j (Kd.mp hj)) (by simpa using hl)
theorem eC{enc:α->IQ}(R:α->IQ->Prop){Q:List IQ->Prop}:∀(xs:List α)(acc:List IQ),(∀x∈xs,∀k:Option IQ->Prop,(∀d,R x d->k (some d))->b (enc x) k)->acc.length+xs.length<=sizeLine->(∀ds,Kr R xs ds->Q (acc++ds))->bH b (xs.map enc) acc Q
 | [],acc,_,_,fin=>by have:=fin [] .nil;rw[Kl]at this;exact this
 | x::xs,acc,h,hl,fin=>by
   simp at hl;refine h x IV _ fun d r=>?_;refine⟨by omega,eC R xs (acc++[d]) (fun y hy=>h y (IT _ hy)) (by simp;omega) fun ds ps=>?_⟩;have:=fin (d::ds) (.cons r ps);simpa using this
theorem sO{xs:List α}{enc:α->IQ}(R:α->IQ->Prop){Q:List IQ->Prop}(h:∀x∈xs,∀k:Option IQ->Prop,(∀d,R x d->k (some d))->b (enc x) k)(hl:xs.length<=sizeLine)(fin:∀ds,Kr R xs ds->Q ds):bH b (xs.map enc) [] Q :=
 eC R xs [] h (by simpa using hl) (by simpa using fin)
theorem pM{lo:Int}(P:IQ->Prop){Q:List IQ->Prop}(h:∀j,j<n->∀k:Option IQ->Prop,(∀d,P d->k (some d))->b (.int (lo+j)) k)(hl:n<=sizeLine)(fin:∀ds:List IQ,ds.length=n->(∀d∈ds,P d)->Q ds):bH b (aY lo n) [] Q:=by
 refine sO (xs:=Jm n) (fun _ d=>P d) (fun j hj=>h j (Kd.mp hj)) (by simpa using hl) fun ds ps=>?_;refine fin ds ?_ ?_
 · have:=JU ps;simpa using this.symm
 · clear fin h hl;intro d hd;generalize Jm n=l at ps
   induction ps with
   | nil=>cases hd
   | cons r _ ih=>exact(JA.mp hd).elim (fun e=>by rw[e];exact r) ih
end
section
variable(c:Prop)[Decidable c]
theorem ite_nx(a b:En):(if c then ret (Fl.nx a)else ret (Fl.nx b))=ret (Fl.nx (if c then a else b)):=by split<;>rfl
theorem ite_rt(a b:W):(if c then ret (Fl.rt a)else ret (Fl.rt b))=ret (Fl.rt (if c then a else b)):=by split<;>rfl
theorem ite_retd(a b:IQ):(if c then ret (W.d a)else ret (W.d b))=ret (W.d (if c then a else b)):=by split<;>rfl
theorem ite_retb(a b:Bool):(if c then ret a else ret b)=ret (if c then a else b):=by split<;>rfl
theorem ite_rets(a b:IQ):(if c then ret (some a)else ret (some b))=ret (some (if c then a else b)):=by split<;>rfl
theorem ite_cons{α:Type}(x y:α)(l m:List α):(if c then x::l else y::m)=(if c then x else y)::(if c then l else m):=by split<;>rfl
theorem ite_some{α:Type}(x y:α):(if c then some x else some y)=some (if c then x else y):=by split<;>rfl
theorem ite_d(a b:IQ):(if c then W.d a else W.d b)=W.d (if c then a else b):=by split<;>rfl
theorem ite_pi(a b:Int):(if c then Jt a else Jt b)=Jt (if c then a else b):=by split<;>rfl
theorem ite_pb(a b:Bool):(if c then Kz a else Kz b)=Kz (if c then a else b):=by split<;>rfl
theorem itb_tt(b y:Bool):(if b=true then true else y)=(b||y):=by cases b<;>rfl
theorem itb_ff(b y:Bool):(if b=true then y else false)=(b&&y):=by cases b<;>rfl
theorem itb_ft(b y:Bool):(if b=true then false else y)=(!b&&y):=by cases b<;>rfl
theorem itb_tf(b y:Bool):(if b=true then y else true)=(!b||y):=by cases b<;>rfl
end
theorem ac(h:n<=1000):(n<=sizeLine)=True:=by have:=Js;exact propext ⟨fun _=>trivial,fun _=>by omega⟩
theorem tup2(x y:IQ):(match [x,y]with | [x,y]=>some (x,y)|_=>none)=some (x,y):=rfl
theorem bnd_tt{α β:Type}(a:α)(f:α->Mo β):Hj (fun Q=>Q a) f=f a:=nr rfl
section
variable{α β:Type}
theorem ax{P:α->Prop}{f:α->Mo β}{Q:β->Prop}(h:∀a,P a->f a Q):Hj (anyM P) f Q:=h
theorem bB{P:Prop}{m:Mo α}{Q:α->Prop}(h:P)(h':m Q):GW P m Q:=⟨h,h'⟩
theorem dG{c:Prop}[Decidable c]{a b:Mo α}{Q:α->Prop}(h:c->a Q)(h':¬c->b Q):(if c then a else b) Q:=by split<;>simp_all
end
theorem aQ{Q:IQ->Prop}(h:Q d):ret (Fl.rt (.d d)) (xG Q):=⟨d,rfl,h⟩
theorem gW{Q:IQ->Prop}{d:List IQ}(h:Q (.list d)):ret (Fl.rt (.ml d)) (xG Q):=⟨_,rfl,h⟩
section
variable{α:Type}{k:En->Mo Fl}{Q:Fl->Prop}
theorem FS{m:Mo α}{h:α->Mo Fl}(z:Hj m (fun a=>sq (h a) k) Q):sq (Hj m h) k Q:=z
theorem FR{o:Option α}{h:α->Mo Fl}(z:aD o (fun a=>sq (h a) k) Q):sq (aD o h) k Q:=by rw[yF];exact z
def kc(k1 k2:En->Mo Fl):En->Mo Fl:=fun ρ=>sq (k1 ρ) k2
theorem kc_ap(k1 k2:En->Mo Fl)(ρ:En):kc k1 k2 ρ=sq (k1 ρ) k2:=nr rfl
theorem sq_sq(m:Mo Fl)(k1 k2:En->Mo Fl):sq (sq m k1) k2=sq m (kc k1 k2):=by
 refine af fun Q=>?_;show m _↔m _;have:∀fl:Fl,(sq (match fl with | .nx ρ=>k1 ρ | .rt w=>ret (.rt w) | .bk ρ=>ret (.bk ρ) | .ct ρ=>ret (.ct ρ)) k2) Q=(match fl with | .nx ρ=>kc k1 k2 ρ | .rt w=>ret (.rt w) | .bk ρ=>ret (.bk ρ) | .ct ρ=>ret (.ct ρ):Mo Fl) Q:=by intro fl;cases fl<;>rfl
 exact Iff.of_eq (congrArg m (funext this))
theorem aI{P:α->Prop}{f:α->Mo Fl}(z:∀a,P a->sq (f a) k Q):sq (Hj (anyM P) f) k Q:=z
end
theorem pk_sc(x:List Int):L2.VL.W.peek (.sc x) = .sc x:=rfl
theorem fz_sc(x:List Int):(W.sc x).fz = .sc x:=rfl
theorem arg_sc(x:List Int):cY (.sc x)=true:=rfl
theorem isPk_sc(x:List Int):(W.sc x).isPk=false:=rfl
section
variable{X:Cx}{rl:RlT}{a b c e:Expr}{es:List Expr}{fa fb fc:TV}{fs:HC}{pos p p2:Pos}{ρ:En}
def sy:List W->(W->Prop)->Prop:=fun ws Q=>∃ns,ws=[.sc ns]/\Q (.d (.int ns.length))
theorem uF:dP X rl (fun xs H Q=>∃p ys,xs=[.ref p]/\(HJ X.K H p ys\/HI X.K H p ys)/\Q (.int ys.length) H) sy:=fun{F H vs ws} Qd Q s ra r ⟨ns,ew,q⟩ k=>by
 subst ew;obtain⟨v,rfl,⟨a,rfl,sq⟩⟩:=mL r;exact⟨a,_,rfl,.inl (iF s sq),k _ (.d _) _ _ (Grow.refl s ra) (by rw[I_];exact .int _) trivial q⟩
theorem jq(hm:X.mg "len" = none)(ha:HQ X rl [a] fs)(hg:Gl X "len" := by rfl)(he:Jc [a] X.env=(false,eval a X.env)::Jc [] X.env:=by rfl)(hpl:(KB pos (Jc [] X.env)).any (·.1)=false:=by rfl) :
 PV X rl (.Call (.Name "len" p) [a] [] pos) (cr sy fs):=dS cW uF hm boot_len ha hg (by decide) (by decide) he hpl
def asSc:W->Option (List Int)
 | .sc ns=>some ns
 | _=>none
theorem asSc_s(ns:List Int):asSc (.sc ns)=some ns:=rfl
theorem jU{w:W}{i:List Int}:asSc w=some i↔w = .sc i:=by
 constructor
 · intro h;unfold asSc at h;split at h<;>simp_all
 · rintro rfl;rfl
theorem m_gLenS(w:W):sy [w]=aD (asSc w) fun ns=>ret (.d (.int ns.length)):=by
 refine af fun Q=>?_;simp only[sy,ai,jU,ret,Ku,and_true]
def AU:W->W->(W->Prop)->Prop:=fun x y Q=>∃ns i n,x = .sc ns/\y = .d (.int i)/\atI ns i=some n/\Q (.d (.int n))
theorem d6(f:α->β)(xs:List α)(i:Int):atI (xs.map f) i=(atI xs i).map f:=by
 unfold atI;rw[I_];cases ixN xs.length i<;>simp
theorem xO:Hy X rl (Gb X.K) AU:=fun{F H x y wx wy} Qd Q s ra r1 r2 q k=>by
 obtain⟨ns,i,n,rfl,rfl,e,q⟩:=q;obtain⟨a,rfl,sq⟩:=r1;have ey:=aB r2;subst ey;exact .inl ⟨a,_,i,.int n,rfl,rfl,iF s sq,by rw[d6,e];rfl,k _ (.d _) _ _ (Grow.refl s ra) (.int n) trivial q⟩
theorem yd(ha:PV X rl a fa)(hb:PV X rl b fb)(hs:fV b:=by exact fun _ _=>rfl):PV X rl (.Subscript a b pos) (Fm AU fa fb):=ii xO ha hb fun _ _ p1 p2=>qZ lh p1 p2 hs
theorem m_gIxS(x y:W):AU x y=aD (asSc x) fun ns=>aD (asI y) fun i=>aD (atI ns i) fun n=>ret (.d (.int n)):=by
 refine af fun Q=>?_;simp only[AU,ai,jU,cN,ret];exact⟨fun⟨i,j,z,a,b,c,q⟩=>⟨i,a,j,b,z,c,q⟩,fun⟨i,a,j,b,z,c,q⟩=>⟨i,j,z,a,b,c,q⟩⟩
theorem n_{K:W.Frag}{F:Hp}:∀ns:List Int,Reps K F (ns.map V.int) (ns.map Jt)
 | []=>.nil
 | n::ns=>.cons (.int n) (n_ ns)
def Be(fa:TV)(fl fh:HE):TV:=fun ρ Q=>fa ρ fun w=>fl ρ fun l=>fh ρ fun h=>∃ns:List Int,w = .sc ns/\Q (.ml (cutD (ns.map .int) l h))
theorem x_{lo hi:Option Expr}{fl fh:HE}(ha:PV X rl a fa)(hl:HR X rl lo fl)(hh:HR X rl hi fh):PV X rl (.Subscript a (.Slice lo hi none p2) pos) (Be fa fl fh):=by
 obtain⟨t,p,k⟩:=ha;obtain⟨tl,pl,kl⟩:=hl;obtain⟨th,ph,kh⟩:=hh;refine⟨_,eO nT p pl ph,fun R Qd Q q h=>k R _ _ q fun v w F1 H1 g1 r1 n1 q1=>?_⟩;refine kl (R.grow g1) _ _ q1 fun l F2 H2 g2 q2=>kh ((R.grow g1).grow g2) _ _ q2 fun u F3 H3 g3 q3=>?_;obtain⟨ns,rfl,q3⟩:=q3;obtain⟨a,rfl,sq⟩:=(r1.grow g2).grow g3;have g:=(g1.trans g2).trans g3;exact⟨a,_,rfl,iF g3.sub sq,fun p hp=>h _ (.ml _) _ _ (g.trans (Grow.laid g3.sub g3.reel hp)) (da g3.sub g3.reel hp ((n_ ns).cut l u)) (fun a ea=>by cases ea;exact g.freeB hp) q3⟩
theorem m_vSlS{fl fh:HE}:Be fa fl fh ρ=Hj (fa ρ) fun w=>Hj (fl ρ) fun l=>Hj (fh ρ) fun h=>aD (asSc w) fun ns=>ret (.ml (cutD (ns.map .int) l h)):=by
 refine af fun Q=>?_;simp only[Be,Hj,ai,jU,ret]
end
def FT(K:W.Frag)(pre:List W->Prop):Sp:=fun vs H Q _=>∃F ws,bm F H/\cZ K RlT.no F H vs ws/\ws.all cY=true/\pre ws/\∀r F' H',H r=none->Grow RlT.no F H F' H'->HP (RlT.at' r BM) F' H'->Q (.ref r) H'
structure DfnR (P:Ju) (w:Kh) (K:W.Frag) (mg:Str->Option I0) (base:Heap) (x:Str) (ps:List Str) (k:Nat) (pre:List W->Prop):Prop where
 ex:∃f fd,mg x=some (.ref f)/\W.keepIn K (.ref f)=true/\Binds K fd ps []/\FnOk P w K mg base IE k f fd ps (FT K pre)
def Gw:Option W->Option W
 | some .reel=>none
 | o=>o
def nR(ρ:En):En:=ρ.map Gw
def W.isR:W->Bool
 | .reel=>true
 | _=>false
def yh(i:Nat)(pre:List W->Prop)(fs:HC)(t:HD):HD:=fun D ρ=>fs ρ fun ws=>ws.all cY=true/\pre ws/\t ⟨fun ρ'=>D.nx (nR ρ'),fun w=>w.isR=false/\D.rt w,fun ρ'=>D.bk (nR ρ'),fun ρ'=>D.ct (nR ρ')⟩ (ρ.set i (some .reel))
theorem wG{r:Addr}(g:Grow RlT.no F₀ H₀ F H)(ra:HP (RlT.at' r BM) F H):Grow (RlT.at' r BM) F₀ H₀ F H:=⟨fun b o e _=>g.same b o e (by simp),g.fs,g.sub,g.old,ra⟩
theorem ln{r:Addr}{n':Nat}(g:Grow (RlT.at' r n') F₀ H₀ F H)(n:H₀ r=none):Grow RlT.no F₀ H₀ F H:=⟨fun b o e _=>g.same b o e (fun z=>by cases z;rw[n]at e;cases e),g.fs,g.sub,g.old,fun _ z=>by cases z⟩
theorem yO{K:W.Frag}{r:Addr}{w:W}(h:cu K RlT.no F H v w)(ne:∀a,w.own=true\/(∃xs,w = .pk xs)->v = .ref a->a≠r):cu K (RlT.at' r BM) F H v w:=by
 cases w with
 | d x=>exact h
 | ml xs=>obtain⟨a,vs,e,f,_,g⟩:=h;exact⟨a,vs,e,f,fun z=>ne a (.inl rfl) e (by cases z;rfl),g⟩
 | pk xs=>obtain⟨a,vs,e,f,_,g⟩:=h;exact⟨a,vs,e,f,fun z=>ne a (.inr ⟨_,rfl⟩) e (by cases z;rfl),g⟩
 | reel=>obtain⟨_,z,_⟩:=h;cases z
 | vv u=>exact h
 | md kvs=>obtain⟨a,vs,e,f,_,g⟩:=h;exact⟨a,vs,e,f,fun z=>ne a (.inl rfl) e (by cases z;rfl),g⟩
 | mk kvs=>obtain⟨a,vs,e,f,_,g⟩:=h;exact⟨a,vs,e,f,fun z=>ne a (.inl rfl) e (by cases z;rfl),g⟩
 | nt ds=>exact h
 | lk=>trivial
 | sc ns=>exact h
 | fd _=>exact h
 | fw _=>exact h
 | ft _=>exact h
 | xc _ _=>exact h
 | dp _ _=>exact h
theorem oj{K:W.Frag}{r:Addr}{n':Nat}{w:W}(h:cu K (RlT.at' r n') F H v w)(n:w.isR=false):cu K RlT.no F H v w:=by
 cases w with
 | d x=>exact h
 | ml xs=>obtain⟨a,vs,e,f,_,g⟩:=h;exact⟨a,vs,e,f,by simp,g⟩
 | pk xs=>obtain⟨a,vs,e,f,_,g⟩:=h;exact⟨a,vs,e,f,by simp,g⟩
 | reel=>cases n
 | vv u=>exact h
 | md kvs=>obtain⟨a,vs,e,f,_,g⟩:=h;exact⟨a,vs,e,f,by simp,g⟩
 | mk kvs=>obtain⟨a,vs,e,f,_,g⟩:=h;exact⟨a,vs,e,f,by simp,g⟩
 | nt ds=>exact h
 | lk=>trivial
 | sc ns=>exact h
 | fd _=>exact h
 | fw _=>exact h
 | ft _=>exact h
 | xc _ _=>exact h
 | dp _ _=>exact h
theorem kW{i:Nat}{w:W}(h:(nR ρ)[i]?=some (some w)):ρ[i]?=some (some w)/\w.isR=false:=by
 unfold nR at h;rw[JY]at h
 cases e:ρ[i]? with
 | none=>rw[e]at h;cases h
 | some o =>
   rw[e]at h
   cases o with
   | none=>cases h
   | some u=>cases u<;>first|(cases h;exact⟨rfl,rfl⟩)|cases h
theorem VR.out{K:W.Frag}{r:Addr}{n':Nat}(R:VR K (RlT.at' r n') F₀ H₀ F H σ ρ)(n:H₀ r=none):VR K RlT.no F₀ H₀ F H σ (nR ρ):=by
 refine⟨ln R.g n,fun i w e=>?_,fun i j x y v hn e1 e2=>R.ap i j x y v hn (kW e1).1 (kW e2).1,fun i xs e=>R.np i xs (kW e).1,?_⟩
 · obtain⟨e1,e2⟩:=kW e;obtain⟨v,h1,h2,h3⟩:=R.sl i w e1;exact⟨v,h1,oj h2 e2,h3⟩
 · have:=R.len;simpa[nR]using this
theorem VR.into{K:W.Frag}{r:Addr}(R:VR K RlT.no F₀ H₀ F H σ ρ)(n:H r=none)(g:Grow RlT.no F H F' H')(ra:HP (RlT.at' r BM) F' H')(i:Nat):VR K (RlT.at' r BM) F₀ H₀ F' H' (σ.set i (some (.ref r))) (ρ.set i (some .reel)):=by
 have R1:=R.grow g;refine⟨wG R1.g ra,fun j w e=>?_,fun j k x y v hn e1 e2 o1 o2 s1 s2=>?_,fun j xs e=>?_,by simp[R.len]⟩
 · by_cases hj:i=j
   · subst hj
     have hi:i<ρ.length:=by
      rw[Kb]at e;by_cases hi:i<ρ.length
      · exact hi
      · simp[hi]at e
     rw[Jo hi]at e;cases e;exact⟨.ref r,by rw[Jo (by rw[<- R.len];exact hi)],⟨r,rfl,rfl⟩,trivial⟩
   · rw[Jj hj]at e;obtain⟨v,h1,h2,h3⟩:=R1.sl j w e;refine⟨v,by rw[Jj hj];exact h1,yO h2 fun a ow ea z=>?_,h3⟩;obtain⟨v0,h10,h20,_⟩:=R.sl j w e;rw[h1]at h10;cases h10;rcases ow with ow|⟨xs,rfl⟩
     · obtain⟨b,o,eb,hb⟩:=h20.live ow;rw[ea]at eb;cases eb;rw[z,n]at hb;cases hb
     · exact absurd e (R.np j xs)
 · have key:∀(m:Nat)(z:W),(ρ.set i (some W.reel))[m]?=some (some z)->z.own=true->i≠m/\ρ[m]?=some (some z):=fun m z e o=>by
     by_cases hm:i=m
     · subst hm;rw[Kb]at e;split at e
       · split at e
         · cases e;cases o
         · cases e
       · exact absurd rfl (by assumption)
     · rw[Jj hm]at e;exact⟨hm,e⟩
   obtain⟨n1,d1⟩:=key j x e1 o1;obtain⟨n2,d2⟩:=key k y e2 o2;rw[Jj n1]at s1;rw[Jj n2]at s2;exact R1.ap j k x y v hn d1 d2 o1 o2 s1 s2
 · rw[Kb]at e;split at e
   · split at e
     · cases e
     · cases e
   · exact R1.np j xs e
section
variable{X:Cx}{st:Stmt}{rest body:List Stmt}{t u:HD}{a b c e:Expr}{es:List Expr}{fa fb:TV}{fs:HC}{pos p px cpos:Pos}{ρ:En}
end
def Ft:Fl->Mo Fl
 | .nx ρ=>ret (.nx (nR ρ))
 | .rt w=>GW (w.isR=false) (ret (.rt w))
 | .bk ρ=>ret (.bk (nR ρ))
 | .ct ρ=>ret (.ct (nR ρ))
theorem s_newR(i:Nat)(pre:List W->Prop)(fs:HC)(t:HD)(ρ:En):mS (yh i pre fs t) ρ=Hj (fs ρ) fun ws=>GW (ws.all cY=true) (GW (pre ws) (Hj (mS t (ρ.set i (some .reel))) Ft)):=nr rfl
theorem nR_nil:nR []=[]:=rfl
theorem nR_r(l:En):nR (some .reel::l)=none::nR l:=rfl
theorem nR_n(l:En):nR (none::l)=none::nR l:=rfl
theorem nR_d(x:IQ)(l:En):nR (some (.d x)::l)=some (.d x)::nR l:=rfl
theorem nR_ml(x:List IQ)(l:En):nR (some (.ml x)::l)=some (.ml x)::nR l:=rfl
theorem nR_sc(x:List Int)(l:En):nR (some (.sc x)::l)=some (.sc x)::nR l:=rfl
def gn(K:W.Frag):Sp:=fun vs H Q _=>∃(a:Addr)(ns:List Int),vs=[.ref a]/\HJ K H a (ns.map V.int)/\ns.length<=63/\∀H',Q (.bl true) H'
def Er:VEnds:=⟨fun _=>False,fun w=>w = .d (.bool true),fun _=>False,fun _=>False⟩
def xE:Fl->Prop
 | .rt w=>w = .d (.bool true)
 | _=>False
theorem un_law(m:Mo Fl):Hj m Ft xE=m xE:=by
 show m (fun fl=>Ft fl xE)=m xE;congr 1;funext fl
 cases fl with
 | rt w=>exact propext ⟨fun⟨_,h⟩=>h,fun h=>⟨by rw[show w = .d (.bool true)from h];rfl,h⟩⟩
 | _=>rfl
theorem wu:ret (Fl.rt (.d (.bool true))) xE:=rfl
section
variable{P:Ju}{w:Kh}{K:W.Frag}{mg:Str->Option I0}{base:Heap}{st:Stmt}{N:List Str}{k:Nat}{t:HD}{x:Str}
theorem vV{f:Addr}(F:Fun K "law" "law" st f fd)(S:FnScope N [x] (defScope st))
 (hbody:∀(cdv:I0)(A:Ko)(outer:List Env)(s:Ja)(H:Hp)(E:XK),Room k (A.deeper (NL "law" (defScope st) s.heap.objs.size f cdv))->jk (lu IE P w K mg base N "law" (defScope st) f cdv A outer s H E).nox RlT.no (defBody st) t)
 (hread:∀ns:List Int,ns.length<=63->mS t (ck N [.sc ns]) xE):FnOk P w K mg base IE (k+1) f fd [x] (gn K):=by
 refine F.ok S (fun vs H Q E h=>?_) (fun cdv A outer s H vs Q E hr h=>?_)
 · obtain⟨a,ns,rfl,_⟩:=h;rfl
 · obtain⟨a,ns,rfl,hS,hl,kq⟩:=h;obtain⟨T,p,kk⟩:=hbody cdv A outer s H E hr;have rw0:cZ K RlT.no H H [.ref a] [.sc ns]:=.cons ⟨a,rfl,hS⟩ .nil;have R:VR K RlT.no H H H H (start N [.ref a]) (ck N [.sc ns]):=cx (.refl H) (fun _ z=>by cases z) rw0 rfl;refine⟨T,p,kk R Er _ ⟨fun _ _ _ _ _ _ z=>JR z,?_,fun _ _ _ _ _ _ z=>JR z,fun _ _ _ _ _ _ z=>JR z⟩ (hread ns hl)⟩;rintro v w1 F1 H1 g1 r1 n1 z;have z:w1 = .d (.bool true):=z;subst z;have e:=iH r1;subst e;exact kq H1
end
def qF(i:Nat)(fa:TV):HD:=fun D ρ=>fa ρ fun w=>∃d,w.fz = .d d/\D.nx (ρ.set i (some (.d d)))
section
variable{X:Cx}{rl:RlT}{st:Stmt}{rest body:List Stmt}{t u:HD}{a b c e:Expr}{es:List Expr}{fa fb:TV}{fs:HC}{f:TB}{pos p:Pos}{ρ:En}
theorem az(i:Nat){x:Str}(hN:X.N.Nodup)(he:PV X rl e fa)(hi:X.N[i]?=some x:=by rfl)(hx:Loc X.env.scope x:=by first|exact KH rfl|exact J8 rfl)
 (hs:K4 e (some (.Name x pos')) pos.line X.env=pure false:=by rfl)(hf:X.fn x=true\/X.env.scope.names.lookup x=some .local:=by first|exact .inl rfl|exact .inr rfl) :
 HV X rl (.Assign [.Name x pos'] e pos) (qF i fa):=by
 obtain⟨t,p,k⟩:=he;refine⟨_,gz hN hi hx p hs hf,fun R Dv D ok q=>k R _ _ q fun v w F1 H1 g1 r1 n1 ⟨d,ed,q1⟩=>?_⟩;obtain⟨F2,g2,s2,r2⟩:=cu.fz g1 r1 n1;rw[ed]at r2;exact ok.nx _ _ _ _ g2.fs (R.set g2 r2 trivial (fun xs z=>by cases z) i) q1
theorem s_setZ(i:Nat):mS (qF i fa) ρ=Hj (fa ρ) fun w=>aD (asD w.fz) fun d=>ret (.nx (ρ.set i (some (.d d)))):=by
 show(Hj (fa ρ) fun w=>fun(Q:Fl->Prop)=>∃d,w.fz = .d d/\Q (.nx (ρ.set i (some (.d d)))))=_;congr 1;funext w;refine af fun Q=>?_;simp only[ai,cX,ret]
end
section
variable{X:Cx}{rl:RlT}{elt tg iter:Expr}{ifs:List Expr}{scope:Scope}{pos:Pos}{fi:En->(List IQ->Prop)->Prop}{g:HG}{ft:TB}{fe:TV}
end
def av(xs:List Int):IQ:=.tuple (xs.map .int)
def l_(xs:List Int):IQ:=.list (xs.map .int)
theorem dm:∀{xs ys:List Int},xs.map Jt=ys.map Jt↔xs=ys:=by
 intro xs ys;constructor
 · intro h;have:=congrArg gb h;rw[intsD_map,intsD_map]at this;exact JK this
 · rintro rfl;rfl
theorem kA{xs:List Int}:av xs=av ys↔xs=ys:=by
 unfold av;rw[LO,dm]
theorem rK{xs:List Int}:l_ xs=l_ ys↔xs=ys:=by
 unfold l_;rw[OA,dm]
theorem gC{α:Type}{f:α->IQ}(h:∀a b,f a=f b↔a=b):∀{xs ys:List α},xs.map f=ys.map f↔xs=ys
 | [],[]=>by simp
 | [],_::_=>by simp
 | _::_,[]=>by simp
 | x::xs,y::ys=>by simp[h,gC h (xs:=xs) (ys:=ys)]
def Bq(xs:List (List Int)):IQ:=.tuple (xs.map av)
theorem qK{xs ys:List (List Int)}:Bq xs=Bq ys↔xs=ys:=by
 unfold Bq;rw[LO,gC fun _ _=>kA]
theorem pX{xs:List α}{i:Int}(h0:0<=i)(h1:i<(xs.length:Int)):atI xs i=some (xs[i.toNat]'(by omega)):=by
 obtain⟨n,rfl⟩:=JN h0;exact cK (Jd (by omega))
section
variable{α σ:Type}{fl:List Nat}{b:IQ->En->Mo Fl}{k:En->Mo Fl}{Q:Fl->Prop}{ρ:En}
theorem qt{f:TB}{t:HD}(st:σ->En)(c:σ->Bool)(nxt:σ->σ)(μ:σ->Nat)(I:σ->Prop)(s:σ)(h0:ρ=st s)(hs:I s)
 (hf:∀s,I s->f (st s)=ret (c s))(ht:∀s,I s->c s=true->I (nxt s)/\μ (nxt s)<μ s/\∃ρ',mS t (st s)=ret (.nx ρ')/\fo fl ρ'=st (nxt s))(fin:∀s,I s->c s=false->k (st s) Q):sq (ge fl f t ρ) k Q:=by
 subst h0;obtain⟨s',a,b,e⟩:=mN st c nxt μ I hf ht s hs;rw[e];exact fin s' a b
theorem jP{xs:List α}{enc:α->IQ}(st:σ->En)(f:σ->α->σ)(s:σ)(I:σ->Prop)(h0:ρ=st s)(hx:xs'=xs.map enc)(hs:I s)(step:∀x∈xs,∀s,I s->I (f s x)/\∃ρ',b (enc x) (st s)=ret (.nx ρ')/\fo fl ρ'=st (f s x))
 (fin:k (st (xs.foldl f s)) Q):sq (bQ fl b xs' ρ) k Q:=by
 subst h0 hx;rw[oY st f s I hs step];exact fin
theorem sD{lo:Int}(st:Nat->En)(h0:ρ=st 0)(step:∀i,i<n->∃ρ',b (.int (lo+i)) (st i)=ret (.nx ρ')/\fo fl ρ'=st (i+1))(fin:k (st n) Q):sq (bQ fl b (aY lo n) ρ) k Q:=by
 subst h0;rw[me st step];exact fin
theorem wK{xs:List α}{enc:α->IQ}(p:α->Bool)(w:α->W)(hx:xs'=xs.map enc)(step:∀x∈xs,(p x=true->b (enc x) ρ=ret (.rt (w x)))/\(p x=false->∃ρ',b (enc x) ρ=ret (.nx ρ')/\fo fl ρ'=ρ))
 (hit:∀x∈xs,p x=true->Q (.rt (w x)))(fin:(∀x∈xs,p x=false)->k ρ Q):sq (bQ fl b xs' ρ) k Q:=by
 subst hx;rw[oZ p w step]
 cases h:xs.find? p with
 | none=>exact fin fun x hx=>by have:=List.find?_eq_none.mp h x hx;simpa using this
 | some x=>exact hit x (Oj h) (by have:=List.find?_some h;exact this)
def GC(fl:List Nat)(J:En->Prop)(k:En->Mo Fl)(Q:Fl->Prop):Fl->Prop
 | .nx ρ=>J (fo fl ρ)
 | .ct ρ=>J (fo fl ρ)
 | .bk ρ=>k (fo fl ρ) Q
 | .rt w=>Q (.rt w)
theorem bT{J:En->Prop}{ρ:En}(h:J (fo fl ρ)):GC fl J k Q (.nx ρ):=h
theorem oW{J:En->Prop}{w:W}(h:Q (.rt w)):GC fl J k Q (.rt w):=h
theorem fI{xs:List α}{enc:α->IQ}(J:Nat->En->Prop)(hx:xs'=xs.map enc)(h0:J 0 ρ)
 (step:∀i (h:i<xs.length) ρ,J i ρ->∀K:Fl->Prop,(∀r,GC fl (J (i+1)) k Q r->K r)->b (enc xs[i]) ρ K)(fin:∀ρ,J xs.length ρ->k ρ Q):sq (bQ fl b xs' ρ) k Q:=by
 subst hx;refine o6 (Q:=fun r=>(match r with | .nx ρ=>k ρ | .rt w=>ret (.rt w) | .bk ρ=>ret (.bk ρ) | .ct ρ=>ret (.ct ρ):Mo Fl) Q) J h0 (fun i hi ρ j K hK=>step i hi ρ j K fun r hr=>hK r ?_) fin;cases r<;>exact hr
theorem cH{lo:Int}(J:Nat->En->Prop)(h0:J 0 ρ)
 (step:∀i,i<n->∀ρ,J i ρ->∀K:Fl->Prop,(∀r,GC fl (J (i+1)) k Q r->K r)->b (.int (lo+i)) ρ K)(fin:∀ρ,J n ρ->k ρ Q):sq (bQ fl b (aY lo n) ρ) k Q:=by
 refine rM (Q:=fun r=>(match r with | .nx ρ=>k ρ | .rt w=>ret (.rt w) | .bk ρ=>ret (.bk ρ) | .ct ρ=>ret (.ct ρ):Mo Fl) Q) J h0 (fun i hi ρ j K hK=>step i hi ρ j K fun r hr=>hK r ?_) fin;cases r<;>exact hr
theorem sI{lo:Int}(step:∀i,i<n->∀K:Fl->Prop,(∀r,GC fl (fun ρ'=>ρ'=ρ) k Q r->K r)->b (.int (lo+i)) ρ K)(fin:k ρ Q):sq (bQ fl b (aY lo n) ρ) k Q :=
 cH (fun _ ρ'=>ρ'=ρ) rfl (fun i h ρ' e K hK=>by subst e;exact step i h K hK) fun ρ' e=>by subst e;exact fin
end
section
variable{α β:Type}{b:IQ->Mo (Option IQ)}{k:List IQ->Mo β}{Q:β->Prop}
theorem uf{xs:List α}{enc:α->IQ}(f:α->Option IQ)(hx:xs'=xs.map enc)(h:∀x∈xs,b (enc x)=ret (f x))(hl:xs.length<=sizeLine)(fin:k (xs.filterMap f) Q):Hj (bH b xs' []) k Q:=by
 subst hx;rw[pL f h hl];exact fin
theorem fR{xs:List α}{enc:α->IQ}(f:α->IQ)(hx:xs'=xs.map enc)(h:∀x∈xs,b (enc x)=ret (some (f x)))(hl:xs.length<=sizeLine)(fin:k (xs.map f) Q):Hj (bH b xs' []) k Q:=by
 subst hx;rw[comp_map f h hl];exact fin
theorem eV{lo:Int}(f:Nat->IQ)(h:∀j,j<n->b (.int (lo+j))=ret (some (f j)))(hl:n<=sizeLine)(fin:k ((Jm n).map f) Q):Hj (bH b (aY lo n) []) k Q:=by
 rw[i4 f h hl];exact fin
theorem lD{lo:Int}(P:IQ->Prop)(h:∀j,j<n->∀K:Option IQ->Prop,(∀d,P d->K (some d))->b (.int (lo+j)) K)(hl:n<=sizeLine)(fin:∀ds:List IQ,ds.length=n->(∀d∈ds,P d)->k ds Q):Hj (bH b (aY lo n) []) k Q :=
 pM P h hl fin
end
section
variable{α β:Type}
theorem oT{i:Int}{k:IQ->Mo β}{Q:β->Prop}(h0:0<=i)(h1:i<(xs.length:Int))(h:∀z∈xs,k z Q):aD (atI xs i) k Q:=by
 obtain⟨z,e,m⟩:=At h0 h1;rw[e];exact h z m
theorem lY{xs:List α}{enc:α->IQ}{i:Int}{k:IQ->Mo β}{Q:β->Prop}(P:α->Prop)(hx:xs'=xs.map enc)(h0:0<=i)(h1:i<(xs.length:Int))(hP:∀z∈xs,P z)(h:∀z,P z->k (enc z) Q):aD (atI xs' i) k Q:=by
 subst hx;refine oT h0 (by simpa using h1) fun z mz=>?_;obtain⟨x,hx,rfl⟩:=Jv.mp mz;exact h x (hP x hx)
end
theorem dI{α:Type}{enc:α->IQ}{P:α->Prop}:∀{ds:List IQ},(∀d∈ds,∃x,P x/\d=enc x)->∃xs:List α,ds=xs.map enc/\xs.length=ds.length/\∀x∈xs,P x
 | [],_=>⟨[],rfl,rfl,by simp⟩
 | d::ds,h=>by
   obtain⟨x,hx,e⟩:=h d IV;obtain⟨xs,e1,e2,e3⟩:=dI (ds:=ds) fun d hd=>h d (IT _ hd);exact⟨x::xs,by rw[e,e1];rfl,by simp[e2],fun y hy=>(JA.mp hy).elim (fun z=>by rw[z];exact hx) (e3 y)⟩
section
variable{X:Cx}{rl:RlT}{a b c o e:Expr}{es:List Expr}{fa fb:TV}{fs:HC}{pos p apos cpos:Pos}{ρ:En}
def Hz(X:Cx)(rl:RlT)(r:V->List V->Hp->VK->Prop)(g:List IQ->List W->(W->Prop)->Prop):Prop :=
 ∀ {F H:Hp}{v:V}{args:List V}{xs:List IQ}{ws:List W}(Qd:W->Prop)(Q:VK),bm F H->HP rl F H->Rep X.K H v (.list xs)->cZ X.K rl F H args ws->g xs ws Qd ->
   (∀v w F' H',Grow rl F H F' H'->cu X.K rl F' H' v w->cO H v w->Qd w->Q v H')->r v args H Q
def Fp(g:List IQ->List W->(W->Prop)->Prop)(fa:TV)(fs:HC):TV:=fun ρ Q=>fa ρ fun x=>∃xs,x.dat=some (.list xs)/\fs ρ fun ws=>g xs ws Q
theorem D6{nm:Str}{id:String}{r:V->List V->Hp->VK->Prop}{g:List IQ->List W->(W->Prop)->Prop}(slot:Slot "list" nm id)(hty:typeOf (.builtin id)=pure (.type "method_descriptor"))(hm:Ie X id r)(vm:Hz X rl r g)(ho:PV X rl o fa)(ha:HQ X rl (e::es) fs)
 (hbase:Li o nm X.env (eval o X.env)=eval o X.env:=by rfl)
 (hfew:((KB cpos (Jc (e::es) X.env)).all (fun x=>!x.1)&&(Nn cpos (LW [] X.env)).all (fun x=>x.1.isSome)
  && decide ((e::es).length+([]:List LG).length+(if([]:List LG).isEmpty then 0 else 1)<30))=true:=by rfl)
 (hline:(apos.endLine==cpos.line)=true:=by rfl)(hs:Jc (e::es) X.env=(false,eval e X.env)::Jc es X.env:=by rfl)(hplain:(KB cpos (Jc es X.env)).any (·.1)=false:=by rfl) :
 PV X rl (.Call (.Attribute o nm apos) (e::es) [] cpos) (Fp g fa fs):=by
 obtain⟨to,po,ko⟩:=ho;obtain⟨t,p1,k⟩:=ha;refine⟨_,rA Mc slot hty hm po p1 hbase hfew hline hs hplain,fun{F₀ H₀ F H σ ρ} R Qd Q q h=>ko R _ _ q fun v w F1 H1 g1 r1 n1 ⟨xs,ed,q1⟩=>?_⟩;obtain⟨a,vs,rfl,sq,rs⟩:=r1.items g1.sub ed;refine⟨.inl ⟨rfl,vs,sq⟩,k (R.grow g1) _ _ q1 fun args ws F2 H2 g2 r2 q2=>?_⟩;have rd:Rep X.K H2 (.ref a) (.list xs):=(r1.grow g2).dat g2.sub ed;exact vm Qd Q g2.sub g2.reel rd r2 q2 fun v3 w3 F3 H3 g3 r3 n3 q3=>h v3 w3 F3 H3 ((g1.trans g2).trans g3) r3 ((n3.back g2).back g1) q3
theorem m_vML(g:List IQ->List W->(W->Prop)->Prop):Fp g fa fs ρ=Hj (fa ρ) fun x=>aD (Hs x) fun xs=>Hj (fs ρ) fun ws=>g xs ws:=by
 show(Hj (fa ρ) fun x=>fun(Q:W->Prop)=>∃xs,x.dat=some (.list xs)/\fs ρ fun ws=>g xs ws Q)=_;congr 1;funext x;refine af fun Q=>?_;rw[ai];simp only[pZ];exact M3
end
end L2.VL
namespace L2
section
variable{X:Cx}{pos:Pos}
end
end L2
namespace L2.VL
section
variable{X:Cx}{rl:RlT}{es:List Expr}{pos:Pos}{ρ:En}
end
def C4:=IS @bnd_tt (IS @bnd_ret (IS @bnd_bnd (IS @bnd_grd (IS @bnd_stk (IS @bnd_ite (IS @bnd_opt (IS @opt_some (IS @opt_none (IS @grd_T (IS @sq_nx (IS @sq_rt (IS @sq_bk (IS @sq_ct (IS @sq_grd (IS @sq_stk (IS @sq_ite (IS @sq_sq (@kc_ap))))))))))))))))))
def C7:=IS @ite_nx (IS @ite_rt (IS @ite_retd (IS @ite_retb (IS @ite_rets (IS @ite_cons (IS @ite_some (IS @ite_d (IS @ite_pi (IS @ite_pb (IS @itb_tt (IS @itb_ff (IS @itb_ft (IS @itb_tf (@ite_self.{1}))))))))))))))
def C_:=IS @m_vC (IS @m_vVar (IS @m_vNil (IS @m_vCons (IS @m_vOp (IS @m_gI (IS @m_gI0 (IS @m_vNeg (IS @m_vTest (IS @m_gEqD (IS @m_gInD (IS @m_vAnd (IS @m_vOr (IS @m_vNot (IS @m_vOrV (IS @m_vIf (IS @m_vTup (IS @m_vLst (IS @m_gIx (IS @m_vCall (IS @m_gAbs (@m_gLen)))))))))))))))))))))
def C9:=IS @m_gTupO (IS @m_gLstO (IS @m_gIsN (IS @m_gI2 (IS @m_gInt1 (IS @m_oNo (IS @m_oIt (IS @m_vSlL (IS @m_vSlA (IS @m_gCatD (IS @m_gCatA (IS @m_iL (IS @m_iT (IS @m_iR1 (@m_iR2))))))))))))))
def C8:=IS @m_iZb (IS @m_vUse (IS @m_gRepT (IS @m_gEqS (IS @m_comp (IS @m_gLenS (IS @m_gIxS (IS @m_vSlS (@m_vML))))))))
def C0:=IS @s_next (IS @s_seq (IS @s_ret (IS @s_ifS (IS @s_set (IS @s_setZ (IS @s_never (IS @s_asg (IS @s_par (IS @s_frz (IS @s_mut (IS @s_for (IS @bdy_ap (IS @s_while (IS @s_newR (IS @m_hName (@m_hNil_n))))))))))))))))
def CZ:=IS @m_hCons_c (IS @m_hTup (IS @m_gApp (@m_gExt)))
def C3:=IS @pk_sc (IS @fz_sc (IS @arg_sc (IS @isPk_sc (IS @asI_d (IS @asB_d (IS @asS_d (IS @asD_d (IS @asT_d (IS @asL_d (IS @asL_ml (IS @asL_pk (IS @asQ_d (IS @asQ_ml (IS @asQ_pk (IS @lstD_l (IS @tupD_t (IS @toI_i (IS @toI_b (IS @isiT_t (IS @asM_ml (IS @asSc_s (IS @two_d (@fz_d)))))))))))))))))))))))
def C2:=IS @fz_ml (IS @fz_pk (IS @fz_reel (IS @fz_vv (IS @pk_d (IS @pk_ml (IS @pk_reel (IS @pk_vv (IS @dat_d (IS @dat_ml (IS @dat_pk (IS @isPk_d (IS @isPk_ml (IS @isPk_reel (IS @dats_nil (IS @dats_d (IS @arg_d (IS @arg_reel (IS @item_l (IS @item_t (IS @len_l (IS @len_t (IS @seq_l (@seq_t)))))))))))))))))))))))
def C1:=IS @at0 (IS @at1 (IS @blsD_map (IS @tup2 (IS @fo_nil (IS @fo_cons (IS @nR_nil (IS @nR_r (IS @nR_n (IS @nR_d (IS @nR_ml (IS @nR_sc (IS @le_nil (IS @le_cn (IS @le_cs (IS @end_d (IS @end_ml (IS @end_nx (@un_law))))))))))))))))))
def C6:=IS @Ji.{0,0} (IS @O9.{0,0} (IS @JG.{0} (IS @MT.{0} (IS @List.getElem?_cons_zero.{0} (IS @List.getElem?_cons_succ.{0} (IS @List.set_cons_zero.{0} (IS @List.set_cons_succ.{0} (IS @List.set_nil.{0} (IS @Nx.{0} (IS @Pg.{0} (IS @List.all_cons.{0} (IS @List.all_nil.{0} (IS @List.head?_cons.{0} (IS @Bool.and_true (IS @QK.injEq.{0} (IS @Option.map_some.{0,0} (IS @Option.bind_some.{0,0} (IS @Option.bind_none.{0,0} (IS @Option.join_some.{0} (IS @Option.join_none.{0} (IS @LM (IS @and_self (@and_true)))))))))))))))))))))))
def C5:=IS @true_and (IS @shaped_i (IS @eqv_ii (IS @shaped_b (IS @Bool.true_and (IS @Bool.and_self (IS @Bool.not_true (IS @Bool.not_false (IS @I_.{0,0} (IS @JJ (IS @Bool.true_eq_false (IS @decide_true (IS @decide_false (IS @List.isEmpty_cons.{0} (IS @List.isEmpty_nil.{0} (@List.isEmpty_map.{0,0})))))))))))))))
structure GlTK (P:Ju) (w:Kh) (K:W.Frag) (x:Str) (D:List (Str×Int)):Prop where
 ex:∃p,W.nsIn K Ke x=some (some (.ref p))/\∀h,K.In h->StrTab P w h p (Dy D)
theorem GlTK.of{w:Kh}{K:W.Frag}{x:Str}{D:List (Str×Int)}{mg:Str->Option I0}(k:GlTK P w K x D)(Y:K.In h)(G:h.Ns Ke mg):GlT P w K mg x D:=by
 obtain⟨p,h1,h2⟩:=k.ex;exact⟨p,W.mg_of Y G h1,h2⟩
section
variable{X:Cx}{rl:RlT}{e:Expr}{fa:TV}{pos dpos q1 q2 q3 q4:Pos}{ρ:En}{j1 j2 j3 j4:Nat}{a b x y:Str}
end
theorem HP.pay{a:Option Addr}{b b':Nat}{F H:Hp}(r:HP ⟨a,b⟩ F H)(h:b'<=b):HP ⟨a,b'⟩ F H:=fun x e=>by
 obtain⟨z,⟨o,q,ro⟩⟩:=r x e;exact⟨z,⟨o,q,ro.pay h⟩⟩
theorem Grow.pay{a:Option Addr}{b b':Nat}{F H F' H':Hp}(g:Grow ⟨a,b⟩ F H F' H')(h:b'<=b):Grow ⟨a,b'⟩ F H F' H':=⟨g.same,g.fs,g.sub,g.old,g.reel.pay h⟩
theorem Grow.tr{a:Option Addr}{b b':Nat}{F1 H1 F2 H2:Hp}(g:Grow ⟨a,b⟩ F H F1 H1)(g':Grow ⟨a,b'⟩ F1 H1 F2 H2):Grow ⟨a,b'⟩ F H F2 H2 :=
 ⟨fun c o e n=>g'.same c o (g.same c o e n) n,g.fs.trans g'.fs,g'.sub,fun c o e=>by obtain⟨o',e'⟩:=g.live e;rw[g'.old c o' e',g.old c o e],g'.reel⟩
theorem cu.on{K:W.Frag}{a:Option Addr}{b b':Nat}{w:W}(r:cu K ⟨a,b⟩ F H v w):cu K ⟨a,b'⟩ F H v w:=by cases w<;>exact r
theorem cu.gr{K:W.Frag}{a:Option Addr}{b b' b2:Nat}{w:W}(g:Grow ⟨a,b'⟩ F H F' H')(r:cu K ⟨a,b⟩ F H v w):cu K ⟨a,b2⟩ F' H' v w:=((r.on (b':=b')).grow g).on
theorem VR.gr{K:W.Frag}{a:Option Addr}{b b':Nat}{F₀ H₀ F H F' H':Hp}{σ:St}{ρ:En}(r:VR K ⟨a,b⟩ F₀ H₀ F H σ ρ)(g:Grow ⟨a,b'⟩ F H F' H'):VR K ⟨a,b'⟩ F₀ H₀ F' H' σ ρ :=
 ⟨r.g.tr g,fun i w e=>let ⟨v,e1,e2,e3⟩:=r.sl i w e;⟨v,e1,e2.gr g,e3⟩,r.ap,r.np,r.len⟩
theorem VR.pay{K:W.Frag}{a:Option Addr}{b b':Nat}{F₀ H₀ F H:Hp}{σ:St}{ρ:En}(r:VR K ⟨a,b⟩ F₀ H₀ F H σ ρ)(h:b'<=b):VR K ⟨a,b'⟩ F₀ H₀ F H σ ρ:=r.gr ((Grow.refl r.sub r.reel).pay h)
theorem EndsOk.pay{K:W.Frag}{a:Option Addr}{b b':Nat}{F₀ H₀ Fs:Hp}{Dv:VEnds}{D:Ends}(ok:EndsOk K ⟨a,b'⟩ F₀ H₀ Fs Dv D)(h:b'<=b):EndsOk K ⟨a,b⟩ F₀ H₀ Fs Dv D :=
 ⟨fun F H σ ρ s R=>ok.nx F H σ ρ s (R.pay h),fun v w F H g r n=>ok.rt v w F H (g.pay h) r.on n,fun F H σ ρ s R=>ok.bk F H σ ρ s (R.pay h),fun F H σ ρ s R=>ok.ct F H σ ρ s (R.pay h)⟩
def CV(X:Cx)(al:Option Addr)(c:Nat)(e:Expr)(f:TV):Prop:=∃t,PE X e t/\∀{b:Nat}{F₀ H₀ F H:Hp}{σ:St}{ρ:En},VR X.K ⟨al,b+c⟩ F₀ H₀ F H σ ρ->∀(Qd:W->Prop)(Q:VK),f ρ Qd ->
 (∀v w F' H',Grow ⟨al,b⟩ F H F' H'->cu X.K ⟨al,b⟩ F' H' v w->cO H v w->Qd w->Q v H')->t σ H Q
def CB(X:Cx)(al:Option Addr)(c:Nat)(e:Expr)(f:TB):Prop:=∃t,PT X e t/\∀{b:Nat}{F₀ H₀ F H:Hp}{σ:St}{ρ:En},VR X.K ⟨al,b+c⟩ F₀ H₀ F H σ ρ->∀(Qd:Bool->Prop)(Q:Bool->Hp->Prop),f ρ Qd ->
 (∀k F' H',Grow ⟨al,b⟩ F H F' H'->Qd k->Q k H')->t σ H Q
def IJ(X:Cx)(al:Option Addr)(c:Nat)(e:Expr)(f:TB):Prop:=∃t,PW X e t/\∀{b:Nat}{F₀ H₀ F H:Hp}{σ:St}{ρ:En},VR X.K ⟨al,b+c⟩ F₀ H₀ F H σ ρ->∀(Qd:Bool->Prop)(Q:Bool->Hp->Prop),f ρ Qd ->
 (∀k F' H',Grow ⟨al,b⟩ F H F' H'->Qd k->Q k H')->t σ H Q
def IF(X:Cx)(al:Option Addr)(c:Nat)(es:List Expr)(f:HC):Prop:=∃t,PA X es t/\∀{b:Nat}{F₀ H₀ F H:Hp}{σ:St}{ρ:En},VR X.K ⟨al,b+c⟩ F₀ H₀ F H σ ρ->∀(Qd:List W->Prop)(Q:List V->Hp->Prop),f ρ Qd ->
 (∀vs ws F' H',Grow ⟨al,b⟩ F H F' H'->cZ X.K ⟨al,b⟩ F' H' vs ws->Qd ws->Q vs H')->t σ H Q
def CS(X:Cx)(al:Option Addr)(c:Nat)(st:Stmt)(t:HD):Prop:=∃T,PS X st T/\∀{b:Nat}{F₀ H₀ F H:Hp}{σ:St}{ρ:En},VR X.K ⟨al,b+c⟩ F₀ H₀ F H σ ρ->∀Dv D,EndsOk X.K ⟨al,b⟩ F₀ H₀ F Dv D->t Dv ρ->T D σ H
def II(X:Cx)(al:Option Addr)(c:Nat)(st:List Stmt)(t:HD):Prop:=∃T,HU X st T/\∀{b:Nat}{F₀ H₀ F H:Hp}{σ:St}{ρ:En},VR X.K ⟨al,b+c⟩ F₀ H₀ F H σ ρ->∀Dv D,EndsOk X.K ⟨al,b⟩ F₀ H₀ F Dv D->t Dv ρ->T D σ H
def CI(X:Cx)(al:Option Addr)(c:Nat)(tg iter:Expr)(fi:En->(List IQ->Prop)->Prop):Prop:=∃wi,PI X tg iter wi/\∀{b:Nat}{F₀ H₀ F H:Hp}{σ:St}{ρ:En},VR X.K ⟨al,b+c⟩ F₀ H₀ F H σ ρ->∀(Qd:List IQ->Prop)(R:It->Hp->Prop),fi ρ Qd ->
 (∀J xs F' H',Grow ⟨al,b⟩ F H F' H'->(∀b',VIt X.K ⟨al,b'⟩ F' J xs)->Qd xs->R J H')->wi σ H R
section
variable{X:Cx}{al:Option Addr}{c c1 c2 c3:Nat}{st:Stmt}{rest body:List Stmt}{t u:HD}{a b e ec:Expr}{es:List Expr}{fa fb:TV}{fs:HC}{f g:TB}{pos p:Pos}
theorem cv(h:∀n,PV X ⟨al,n⟩ e fa):CV X al 0 e fa :=
 ⟨fun σ H Q=>∃n,Jw (h n) σ H Q,fun pins s σ H Q I ⟨n,z⟩=>(IU (h n)).1 pins s σ H Q I z,fun{b F₀ H₀ F H σ ρ} R Qd Q q k=>⟨b,(IU (h b)).2 R Qd Q q k⟩⟩
theorem cb(h:∀n,PB X ⟨al,n⟩ e f):CB X al 0 e f :=
 ⟨fun σ H Q=>∃n,Jw (h n) σ H Q,fun pins s σ H Q I ⟨n,z⟩=>(IU (h n)).1 pins s σ H Q I z,fun{b F₀ H₀ F H σ ρ} R Qd Q q k=>⟨b,(IU (h b)).2 R Qd Q q k⟩⟩
theorem Hb(h:∀n,HQ X ⟨al,n⟩ es fs):IF X al 0 es fs :=
 ⟨fun σ H Q=>∃n,Jw (h n) σ H Q,fun p pins s σ H Q I ⟨n,z⟩=>(IU (h n)).1 p pins s σ H Q I z,fun{b F₀ H₀ F H σ ρ} R Qd Q q k=>⟨b,(IU (h b)).2 R Qd Q q k⟩⟩
theorem cs(h:∀n,HV X ⟨al,n⟩ st t):CS X al 0 st t :=
 ⟨fun D σ H=>∃n,Jw (h n) D σ H,fun pins s σ H D I ⟨n,z⟩=>(IU (h n)).1 pins s σ H D I z,fun{b F₀ H₀ F H σ ρ} R Dv D ok q=>⟨b,(IU (h b)).2 R Dv D ok q⟩⟩
theorem Hf(h:∀n,jk X ⟨al,n⟩ body t):II X al 0 body t :=
 ⟨fun D σ H=>∃n,Jw (h n) D σ H,fun pins s σ H D I ⟨n,z⟩=>(IU (h n)).1 pins s σ H D I z,fun{b F₀ H₀ F H σ ρ} R Dv D ok q=>⟨b,(IU (h b)).2 R Dv D ok q⟩⟩
theorem VIt.on{K:W.Frag}{r r':RlT}{J:It}(h:VIt K r F J xs):VIt K r' F J xs:=⟨h.go,h.stop,h.yld⟩
theorem ci(h:∀n,HY X ⟨al,n⟩ tg iter fi):CI X al 0 tg iter fi :=
 ⟨fun σ H Q=>∃n,Jw (h n) σ H Q,fun pins s σ H Q I ⟨n,z⟩=>(IU (h n)).1 pins s σ H Q I z,fun{b F₀ H₀ F H σ ρ} R Qd Q q k=>⟨b,(IU (h b)).2 R Qd Q q fun J xs F' H' g v=>k J xs F' H' g fun _=>v.on⟩⟩
theorem br:IF X al 0 [] tw:=Hb fun _=>ab
theorem au(h1:CV X al c1 e fa)(h2:IF X al c2 es fs)(hs:Jc (e::es) X.env=(false,eval e X.env)::Jc es X.env:=by rfl):IF X al (c1+c2) (e::es) (ip fa fs):=by
 obtain⟨t,p1,k1⟩:=h1;obtain⟨ts,p2,k2⟩:=h2;refine⟨_,dk p1 p2 hs,fun{n _ _ _ _ _ _} R Qd Q q k=>?_⟩;refine k1 (b:=n+c2) (R.pay (by omega)) _ _ q fun v w F1 H1 g1 r1 n1 q1=>?_;obtain⟨F2,g2,s2,r2⟩:=cu.fz g1 r1 n1;refine k2 (b:=n) (R.gr g2) _ _ q1 fun vs ws F3 H3 g3 r3 q3=>?_;exact k (v::vs) (w.fz::ws) F3 H3 (g2.tr g3) (.cons (r2.gr g3) r3) q3
theorem i3{r:R2}{g:W->W->(W->Prop)->Prop}(vo:∀n,Hy X ⟨al,n⟩ r g)(ha:CV X al c1 a fa)(hb:CV X al c2 b fb){e:Expr}(hp:∀ta tb,PE X a ta->PE X b tb->PE X e (FI r ta tb)):CV X al (c1+c2) e (Fm g fa fb):=by
 obtain⟨ta,p1,k1⟩:=ha;obtain⟨tb,p2,k2⟩:=hb;refine⟨_,hp ta tb p1 p2,fun{n _ _ _ _ _ _} R Qd Q q k=>?_⟩;refine k1 (b:=n+c2) (R.pay (by omega)) _ _ q fun v w F1 H1 g1 r1 n1 q1=>?_;refine k2 (b:=n) (R.gr g1) _ _ q1 fun v2 w2 F2 H2 g2 r2 n2 q2=>?_;exact vo n Qd Q g2.sub g2.reel (r1.gr g2) r2 q2 fun v3 w3 F3 H3 g3 r3 n3 q3=>k v3 w3 F3 H3 ((g1.tr g2).tr g3) r3 ((n3.back g2).back g1) q3
theorem Ao{op:Qo}{r:R2}{g:W->W->(W->Prop)->Prop}(ho:Ib X (Ma op) r)(vo:∀n,Hy X ⟨al,n⟩ r g)(ha:CV X al c1 a fa)(hb:CV X al c2 b fb):CV X al (c1+c2) (.BinOp a op b pos) (Fm g fa fb) :=
 i3 vo ha hb fun _ _ p1 p2=>zb ho p1 p2
theorem Ap(ha:CV X al c1 a fa)(hb:CV X al c2 b fb):CV X al (c1+c2) (.BinOp a .Add b pos) (Fm (G3 fun i j=>.int (i+j)) fa fb):=Ao tT (fun _=>dr fun _ _ _ _=>.int _) ha hb
theorem CD(ha:CV X al c1 a fa)(hb:CV X al c2 b fb):CV X al (c1+c2) (.BinOp a .Mult b pos) (Fm (gI bR fun i j=>.int (i*j)) fa fb):=Ao oP (fun _=>eX fun _ _ _ _=>.int _) ha hb
theorem EF(ha:CV X al c1 a fa)(hb:CV X al c2 b fb)(hs:fV b:=by exact fun _ _=>rfl):CV X al (c1+c2) (.Subscript a b pos) (Fm G0 fa fb):=i3 (fun _=>xQ) ha hb fun _ _ p1 p2=>qZ lh p1 p2 hs
theorem CF{r:R2}{g:W->W->(W->Prop)->Prop}(ho:Ib X (LJ op) r)(vo:∀n,Hy X ⟨al,n⟩ r g)(hm:Lh op b=false)(ha:CV X al c1 a fa)(hb:CV X al c2 b fb):CV X al (c1+c2) (.Compare a [op] [b] pos) (Fm g fa fb) :=
 i3 vo ha hb fun _ _ p1 p2=>oJ ho p1 p2 hm
theorem CC{op}(ha:CV X al c a fa):CV X al c (.BoolOp op [a] pos) fa:=by
 obtain⟨t,p,k⟩:=ha;exact⟨t,zc p,k⟩
theorem EE{rest:List Expr}(ha:CV X al c1 a fa)(hb:CV X al c2 (.BoolOp .Or (b::rest) pos) fb):CV X al (c1+c2) (.BoolOp .Or (a::b::rest) pos) (Bh fa fb):=by
 obtain⟨t,p,k⟩:=ha;obtain⟨t2,p2,k2⟩:=hb;refine⟨_,BQ p p2,fun{n _ _ _ _ _ _} R Qd Q q h=>k (b:=n+c2) (R.pay (by omega)) _ _ q fun v w F1 H1 g1 r1 n1 ⟨c,ew,q1⟩=>?_⟩;subst ew;refine⟨c,iH r1,?_⟩
 cases c with
 | false=>exact k2 (b:=n) (R.gr g1) _ _ q1 fun v w F2 H2 g2 r2 n2 q2=>h v w F2 H2 (g1.tr g2) r2 (n2.back g1) q2
 | true=>exact h _ (.d _) F1 H1 (g1.pay (by omega)) (.bl true) trivial q1
theorem IJ.cb(h:IJ X al c e f):CB X al c e f:=by
 obtain⟨t,p,k⟩:=h;exact⟨t,p.pt,k⟩
theorem Cz{x1}(h:IF X al c es fs):CV X al c (.Tuple es x1 pos) (yf fs):=by
 obtain⟨t,p,k⟩:=h;refine⟨_,oG p,fun R Qd Q q h=>k R _ _ q fun vs ws F1 H1 g1 r1 ⟨ds,e1,z,q1⟩=>?_⟩;have rs:=cJ r1 e1;refine⟨by rw[rs.length];exact z,fun p hp=>?_⟩;have g2:=g1.tr (Grow.data (a:=p) (o:=.tup vs) g1.sub g1.reel hp);exact h _ (.d (.tuple ds)) _ _ g2 (.tup (.inl (.inl ak)) (rs.mono (Grow.data (o:=.tup vs) g1.sub g1.reel hp).fs)) trivial q1
theorem sP{g:List W->(W->Prop)->Prop}(vc:∀n,dP X ⟨al,n⟩ r g)(ha:IF X al c es fs){e:Expr}(hp:∀ta,PA X es ta->PE X e (FM r ta)):CV X al c e (cr g fs):=by
 obtain⟨ta,p1,k1⟩:=ha;refine⟨_,hp ta p1,fun{n _ _ _ _ _ _} R Qd Q q k=>k1 R _ _ q fun vs ws F1 H1 g1 r1 q1=>?_⟩;exact vc n Qd Q g1.sub g1.reel r1 q1 fun v w F2 H2 g2 r2 n2 q2=>k v w F2 H2 (g1.tr g2) r2 (n2.back g1) q2
theorem lE{T:String}{x:Str}{g:List W->(W->Prop)->Prop}(hc:dg X (.type T) r)(vc:∀n,dP X ⟨al,n⟩ r g)(hm:X.mg x=none)(hv:Mp x=some (.type T))(ha:IF X al c (e::es) fs)(hg:Gl X x:=by rfl)(hn:x ≠ "__name__" := by decide)(hdb:(x==("__debug__" : Str))=false:=by decide)
 (he:Jc (e::es) X.env=(false,eval e X.env)::Jc es X.env:=by rfl)(hpl:(KB pos (Jc es X.env)).any (·.1)=false:=by rfl):CV X al c (.Call (.Name x p) (e::es) [] pos) (cr g fs) :=
 sP vc ha fun _ p1=>fC hc hg hm hv p1 hn hdb he hpl
theorem w_(hm:X.mg "tuple" = none)(ha:IF X al c [a] fs)(hg:Gl X "tuple" := by rfl)(he:Jc [a] X.env=(false,eval a X.env)::Jc [] X.env:=by rfl)(hpl:(KB pos (Jc [] X.env)).any (·.1)=false:=by rfl) :
 CV X al c (.Call (.Name "tuple" p) [a] [] pos) (cr pz fs):=lE bW (fun _=>sX) hm (by rfl) ha hg (by decide) (by decide) he hpl
theorem An(hm:X.mg "int" = none)(ha:IF X al c [a] fs)(hg:Gl X "int" := by rfl)(he:Jc [a] X.env=(false,eval a X.env)::Jc [] X.env:=by rfl)(hpl:(KB pos (Jc [] X.env)).any (·.1)=false:=by rfl) :
 CV X al c (.Call (.Name "int" p) [a] [] pos) (cr pA fs):=lE i8 (fun _=>mY) hm (by rfl) ha hg (by decide) (by decide) he hpl
theorem ub:II X al 0 [] uQ:=Hf fun _=>cL
theorem dJ(h:CS X al c st t):II X al c [st] t:=by
 obtain⟨T,p,k⟩:=h;exact⟨T,jB p,k⟩
theorem aF(h:CS X al c1 st t)(h2:II X al c2 rest u):II X al (c1+c2) (st::rest) (uP t u):=by
 obtain⟨T,p,k⟩:=h;obtain⟨T2,p2,k2⟩:=h2;refine⟨_,cC p p2,fun{n _ _ _ _ _ _} R Dv D ok q=>k (b:=n+c2) (R.pay (by omega)) {Dv with nx:=u Dv} {D with nx:=T2 D} ?_ q⟩;have o2:=ok.pay (b:=n+c2) (by omega);exact⟨fun F H σ ρ s' R' q'=>k2 (b:=n) R' Dv D (ok.on s') q',o2.rt,o2.bk,o2.ct⟩
theorem ua(h:CV X al c e fa):CS X al c (.Return (some e) pos) (Bg fa):=by
 obtain⟨t,p,k⟩:=h;exact⟨_,kK p,fun R Dv D ok q=>k R _ _ q fun v w F1 H1 g1 r1 n1 q1=>ok.rt v w F1 H1 (R.g.tr g1) r1 (n1.back R.g) q1⟩
theorem Aj{A B:List Stmt}(hc:CB X al c1 ec f)(ha:II X al c2 A t)(hb:II X al c3 B u):CS X al (c1+(c2+c3)) (.If ec A B pos) (AJ f t u):=by
 obtain⟨t0,p0,k0⟩:=hc;obtain⟨t1,p1,k1⟩:=ha;obtain⟨t2,p2,k2⟩:=hb;refine⟨_,yZ p0 p1 p2,fun{n _ _ _ _ _ _} R Dv D ok q=>k0 (b:=n+(c2+c3)) (R.pay (by omega)) _ _ q fun k F1 H1 g1 q1=>?_⟩
 cases k with
 | true=>exact k1 (b:=n) ((R.gr g1).pay (by omega)) Dv D (ok.on g1.fs) q1
 | false=>exact k2 (b:=n) ((R.gr g1).pay (by omega)) Dv D (ok.on g1.fs) q1
theorem VR.setC{K:W.Frag}{n':Nat}(r:VR K ⟨al,n⟩ F₀ H₀ F H σ ρ){H1 F1:Hp}(g:Grow ⟨al,n'⟩ F H F1 H1)(hn:n'<=n){w:W}(rw':cu K ⟨al,n'⟩ F1 H1 v w)(hw:cO H v w)(hp:∀xs,w ≠ .pk xs)(i:Nat):VR K ⟨al,n'⟩ F₀ H₀ F1 H1 (σ.set i (some v)) (ρ.set i (some w)) :=
 (r.pay hn).set g rw' hw hp i
theorem cV(i:Nat){x:Str}(hN:X.N.Nodup)(he:CV X al c e fa)(hi:X.N[i]?=some x:=by rfl)(hx:Loc X.env.scope x:=by first|exact KH rfl|exact J8 rfl)
 (hs:K4 e (some (.Name x pos')) pos.line X.env=pure false:=by rfl)(hf:X.fn x=true\/X.env.scope.names.lookup x=some .local:=by first|exact .inl rfl|exact .inr rfl) :
 CS X al c (.Assign [.Name x pos'] e pos) (qF i fa):=by
 obtain⟨t,p,k⟩:=he;refine⟨_,gz hN hi hx p hs hf,fun R Dv D ok q=>k R _ _ q fun v w F1 H1 g1 r1 n1 ⟨d,ed,q1⟩=>?_⟩;obtain⟨F2,g2,s2,r2⟩:=cu.fz g1 r1 n1;rw[ed]at r2;exact ok.nx _ _ _ _ g2.fs (R.setC g2 (by omega) r2 trivial (fun xs z=>by cases z) i) q1
theorem Ak{g:HG}(he:CV X al c e fa)(hg:∀n,H_ X ⟨al,n⟩ tg g)(hs:L8 [tg] e pos.line X.env=pure false:=by rfl)(hw:L9 [tg] e X.env=pure none:=by rfl)
 (h1:(KO [tg] X.env).map (·.2)=[L0 tg X.env]:=by rfl):CS X al c (.Assign [tg] e pos) (AM fa g):=by
 obtain⟨t,p,k⟩:=he;refine⟨_,iJ p (g:=fun v σ H Q=>∃n,Jw (hg n) v σ H Q) (fun pins s σ H v u Q I rv ⟨n,z⟩=>(IU (hg n)).1 pins s σ H v u Q I rv z) hs hw h1,fun{n _ _ _ _ _ _} R Dv D ok q=>k R _ _ q fun v w F1 H1 g1 r1 n1 ⟨x,ew,q1⟩=>?_⟩;subst ew;exact⟨n,(IU (hg n)).2 (R.gr g1) v x _ _ r1 q1 fun F2 H2 σ2 ρ2 s2 n2 R2 q2=>ok.nx _ _ _ _ (g1.fs.trans s2.fs) R2 q2⟩
theorem Ai(i:Nat){x:Str}{nm:Str}{id:String}{r:V->List V->Hp->VK->Prop}{g:List IQ->List W->(List IQ->Prop)->Prop}{apos:Pos}(slot:Slot "list" nm id)(hty:typeOf (.builtin id)=pure (.type "method_descriptor"))(hm:Ie X id r)(vm:∀n,A2 X.K ⟨al,n⟩ r g)(ha:IF X al c (e::es) fs)
 (hN:X.N[i]?=some x:=by rfl)(hv:Hw X.env.scope x:=by first|exact KH rfl|exact J8 (KH rfl)|exact J8 (J8 rfl))
 (hd:(x==("__debug__" : Str))=false:=by decide)(hcd:(x==("__classdict__" : Str))=false:=by decide)
 (hbase:Li (.Name x px) nm X.env (eval (.Name x px) X.env)=eval (.Name x px) X.env:=by rfl)
 (hfew:((KB cpos (Jc (e::es) X.env)).all (fun x=>!x.1)&&(Nn cpos (LW [] X.env)).all (fun x=>x.1.isSome)
  && decide ((e::es).length+([]:List LG).length+(if([]:List LG).isEmpty then 0 else 1)<30))=true:=by rfl)
 (hline:(apos.endLine==cpos.line)=true:=by rfl)(hs:Jc (e::es) X.env=(false,eval e X.env)::Jc es X.env:=by rfl)(hplain:(KB cpos (Jc es X.env)).any (·.1)=false:=by rfl)
 (hsw:K4 (.Call (.Attribute (.Name x px) nm apos) (e::es) [] cpos) none pos.line X.env=pure false:=by rfl) :
 CS X al c (.Expr (.Call (.Attribute (.Name x px) nm apos) (e::es) [] cpos) pos) (uR i g fs):=by
 obtain⟨t,p1,k⟩:=ha;refine⟨_,oy (rA Mc slot hty hm (bI hN hv hd hcd) p1 hbase hfew hline hs hplain) hsw,fun{n F₀ H₀ F H σ ρ} R Dv D ok ⟨xs,e1,q⟩=>?_⟩;obtain⟨v,h1,h2,h3⟩:=R.sl i _ e1;obtain⟨a,vs,rfl,f,hr,hh,rs⟩:=(show eE X.K ⟨al,n+c⟩ F H v xs from h2);refine⟨.ref a,h1,.inl ⟨rfl,vs,.inl (.inl hh)⟩,k R _ _ q fun args ws F1 H1 g1 r1 q1=>?_⟩;refine vm n _ _ g1.sub (g1.same a _ hh hr) (rs.mono g1.fs) r1 q1 fun us ys r2 q2=>?_;exact ok.nx _ _ _ _ g1.fs ((R.gr g1).own e1 h1 r2) q2
theorem Al(i:Nat){x:Str}{apos:Pos}(ha:IF X al c [e] fs)(hN:X.N[i]?=some x:=by rfl)(hv:Hw X.env.scope x:=by first|exact KH rfl|exact J8 (KH rfl)|exact J8 (J8 rfl))
 (hd:(x==("__debug__" : Str))=false:=by decide)(hcd:(x==("__classdict__" : Str))=false:=by decide)
 (hbase:Li (.Name x px) "append" X.env (eval (.Name x px) X.env)=eval (.Name x px) X.env:=by rfl)
 (hfew:((KB cpos (Jc [e] X.env)).all (fun x=>!x.1)&&(Nn cpos (LW [] X.env)).all (fun x=>x.1.isSome)
  && decide (([e]).length+([]:List LG).length+(if([]:List LG).isEmpty then 0 else 1)<30))=true:=by rfl)
 (hline:(apos.endLine==cpos.line)=true:=by rfl)(hs:Jc [e] X.env=(false,eval e X.env)::Jc [] X.env:=by rfl)(hplain:(KB cpos (Jc [] X.env)).any (·.1)=false:=by rfl)
 (hsw:K4 (.Call (.Attribute (.Name x px) "append" apos) [e] [] cpos) none pos.line X.env=pure false:=by rfl) :
 CS X al c (.Expr (.Call (.Attribute (.Name x px) "append" apos) [e] [] cpos) pos) (uR i z0 fs) :=
 Ai i Ox Oy dC (fun _=>sW) ha hN hv hd hcd hbase hfew hline hs hplain hsw
end
theorem eY{i c:Nat}(h:i<n):(n-i)*c=(n-(i+1))*c+c:=by
 have:n-i=(n-(i+1))+1:=by omega
 rw[this,Qg]
def yj(n:Nat)(fl:List Nat)(fi:En->(List IQ->Prop)->Prop)(g:HG)(t:HD):HD:=fun D ρ=>fi ρ fun xs=>xs.length<=n/\bM fl g t xs D (fo fl ρ)
section
variable{X:Cx}{al:Option Addr}{c c1 c2 c3:Nat}{st:Stmt}{rest body:List Stmt}{t u:HD}{a b e ec:Expr}{es:List Expr}{fa fb:TV}{fs:HC}{f:TB}{pos p:Pos}
theorem uc(n:Nat)(fl:List Nat){g:HG}(hp:P1 (JE X.prog X.w) X.A X.env X.xe)(hc:X.calm=true)(hi:CI X al c1 tg iter fi)(hg:∀m,H_ X ⟨al,m⟩ tg g)(hb:II X al c2 body t)
 (hs:∀x,JI iter X.env x=pure x:=by intro _;rfl):CS X al (c1+n*c2) (.For tg iter body [] pos) (yj n fl fi g t):=by
 obtain⟨wi,p0,k0⟩:=hi;obtain⟨T,p2,k2⟩:=hb;have p1:PG X tg (fun v σ H Q=>∃m,Jw (hg m) v σ H Q):=fun pins s σ H v u Q I rv ⟨m,z⟩=>(IU (hg m)).1 pins s σ H v u Q I rv z;refine⟨_,tO hp hc p0 p1 p2 hs,fun{b F₀ H₀ F H σ ρ} R Dv D ok q=>k0 (b:=b+n*c2) (R.pay (by omega)) _ _ q fun J xs F1 H1 g1 vi ⟨hn,q1⟩=>?_⟩;refine⟨fun i m σ H=>m=xs.length-i/\i<=xs.length/\∃F ρ,bm F1 F/\VR X.K ⟨al,b+(n-i)*c2⟩ F₀ H₀ F H σ ρ/\bM fl g t (xs.drop i) Dv ρ,⟨xs.length,by simp,J1 _,F1,fo fl ρ,.refl _,(R.gr g1).le (dX fl ρ),by simpa using q1⟩,?_⟩;rintro i m σ H ⟨rfl,hi,F2,ρ2,s2,R2,j2⟩;have sH:bm F1 H:=s2.trans R2.sub;by_cases hlt:i<xs.length
 · have ei:xs[i]?=some xs[i]:=by simp[hlt]
   rw[Kj hlt]at j2;have el:=eY (n:=n) (i:=i) (c:=c2) (by omega);refine .inr ⟨(vi 0).go i H _ ei sH,fun σ' H'=>∃F ρ,bm F1 F/\VR X.K ⟨al,b+(n-(i+1))*c2⟩ F₀ H₀ F H' σ' ρ/\bM fl g t (xs.drop (i+1)) Dv ρ,fun σ' H' z=>⟨xs.length-(i+1),by omega,rfl,hlt,z⟩,fun v H' y=>?_⟩;obtain⟨Fy,gy,rv⟩:=(vi 0).yld i H v H' _ F2 ei s2 R2.sub R2.reel y;refine⟨_,(IU (hg (b+(n-i)*c2))).2 (R2.gr gy) v _ _ _ rv j2 fun F3 H3 σ3 ρ3 s3 n3 R3 q3=>?_⟩;have s13:bm F1 F3:=s2.trans (gy.fs.trans s3.fs);have o2:=ok.pay (b:=b+(n-(i+1))*c2) (by omega)
   exact k2 (b:=b+(n-(i+1))*c2) (R3.pay (by omega)) {Dv with nx:=fun ρ'=>bM fl g t (xs.drop (i+1)) Dv (fo fl ρ'),ct:=fun ρ'=>bM fl g t (xs.drop (i+1)) Dv (fo fl ρ'),bk:=fun ρ'=>Dv.nx (fo fl ρ')} _
    ⟨fun F4 H4 σ4 ρ4 s4 R4 q4=>⟨F4,fo fl ρ4,s13.trans s4,R4.le (dX fl ρ4),q4⟩,o2.rt,fun F4 H4 σ4 ρ4 s4 R4 q4=>o2.nx _ _ _ _ (g1.fs.trans (s13.trans s4)) (R4.le (dX fl ρ4)) q4,fun F4 H4 σ4 ρ4 s4 R4 q4=>⟨F4,fo fl ρ4,s13.trans s4,R4.le (dX fl ρ4),q4⟩⟩ q3
 · have e:i=xs.length:=by omega
   subst e;rw[Lp]at j2;exact .inl ⟨(vi 0).stop _ H (Jb _) sH,ok.nx _ _ _ _ (g1.fs.trans s2) (R2.pay (by omega)) j2⟩
def ED(K:W.Frag)(al:Option Addr)(c:Nat)(P:List W->(IQ->Prop)->Prop):Sp:=fun vs H Q _=>∃b F ws,bm F H/\HP ⟨al,b+c⟩ F H/\cZ K ⟨al,b+c⟩ F H vs ws/\ws.all cY=true/\P ws fun d=>∀v F' H',Grow ⟨al,b⟩ F H F' H'->Rep K F' v d->Q v H'
structure DfnC (P:Ju) (w:Kh) (K:W.Frag) (mg:Str->Option I0) (base:Heap) (al:Option Addr) (c:Nat) (x:Str) (ps:List Str) (k:Nat) (Pd:List W->(IQ->Prop)->Prop):Prop where
 mono:∀ws Q Q',(∀d,Q d->Q' d)->Pd ws Q->Pd ws Q'
 ex:∃f fd,mg x=some (.ref f)/\W.keepIn K (.ref f)=true/\Binds K fd ps []/\FnOk P w K mg base IE k f fd ps (ED K al c Pd)
theorem cp{x:Str}{ps:List Str}{k:Nat}{Pd:List W->(IQ->Prop)->Prop}(D:DfnC X.prog X.w X.K X.mg X.base al c2 x ps k Pd)(hr:Room k X.A)(ha:IF X al c1 (e::es) fs)(hg:Gl X x:=by rfl)
 (hdb:(x==("__debug__" : Str))=false:=by decide)(he:Jc (e::es) X.env=(false,eval e X.env)::Jc es X.env:=by rfl)(hpl:(KB pos (Jc es X.env)).any (·.1)=false:=by rfl) :
 CV X al (c1+c2) (.Call (.Name x p) (e::es) [] pos) (Bc Pd fs):=by
 obtain⟨f,fd,hm,hk,hb,F⟩:=D.ex;obtain⟨t,p1,kk⟩:=ha;refine⟨_,fD F hr hg hm hk hb .nil oK p1 hdb he hpl,fun{n _ _ _ _ _ _} R Qd Q q h=>kk (b:=n+c2) (R.pay (by omega)) _ _ q fun vs ws F1 H1 g1 r1 ⟨ok,q1⟩=>?_⟩;refine⟨n,F1,ws,g1.sub,g1.reel,by rw[Kl];exact r1,ok,?_⟩;exact D.mono ws _ _ (fun d qd v F2 H2 g2 r2=>h v (.d d) F2 H2 (g1.tr g2) r2 trivial qd) q1
end
section
variable{P:Ju}{w:Kh}{K:W.Frag}{mg:Str->Option I0}{base:Heap}{al:Option Addr}{c c0:Nat}{x:Str}{st:Stmt}{N ps:List Str}{k:Nat}{Pd:List W->(IQ->Prop)->Prop}{t:HD}
theorem DfnC.of(Fn:FnIn K mg x st ps)(S:FnScope N ps (defScope st))(mono:∀ws Q Q',(∀d,Q d->Q' d)->Pd ws Q->Pd ws Q')(len:∀ws Q,Pd ws Q->ws.length=ps.length)
 (hbody:∀{f:Addr}(cdv:I0)(A:Ko)(outer:List Env)(s:Ja)(H:Hp)(E:XK),Room k (A.deeper (NL x (defScope st) s.heap.objs.size f cdv)) ->
  II (lu IE P w K mg base N x (defScope st) f cdv A outer s H E).nox al c0 (defBody st) t)
 (hle:c0<=c)(hread:∀ws Q,Pd ws Q->t (lM Q) (ck N ws)):DfnC P w K mg base al c x ps (k+1) Pd:=by
 obtain⟨f,fd,hm,F,hb⟩:=Fn.ex;refine⟨mono,f,fd,hm,F.kp,hb,?_⟩;refine F.ok S (fun vs H Q E ⟨n,F,ws,_,_,r,_,q⟩=>(JU r).trans (len ws _ q)) fun cdv A outer s H vs Q E hr h=>?_;obtain⟨n,F1,ws,sm,ra,r,ok,q⟩:=h;obtain⟨T,p,kk⟩:=hbody cdv A outer s H E hr;refine⟨T,p,kk (b:=n) ((cx sm ra r ok).pay (by omega)) (lM _) _ ⟨?_,?_,fun _ _ _ _ _ _ z=>JR z,fun _ _ _ _ _ _ z=>JR z⟩ (hread ws _ q)⟩
 · intro F2 H2 σ1 ρ1 _ R1 q1;exact q1 .non F2 H2 R1.g .non
 · rintro v w1 F2 H2 g1 r1 n1 ⟨d,ed,q1⟩;obtain⟨F3,g2,s2,r2⟩:=cu.fz g1 r1 n1;rw[ed]at r2;exact q1 v F3 H2 g2 r2
end
def nq(n:Nat)(fi:En->(List IQ->Prop)->Prop)(fr:List (Option Nat))(g:HG)(ft:TB)(fe:TV):TV:=fun ρ Q=>fi ρ fun xs=>xs.length<=n/\kr (dn fr ρ) g ft fe xs [] fun ds=>Q (.ml ds)
def IH(X:Cx)(al:Option Addr)(c:Nat)(ifs:List Expr)(f:TB):Prop:=∃t,HS X ifs t/\∀{b:Nat}{F₀ H₀ F H:Hp}{σ:St}{ρ:En},VR X.K ⟨al,b+c⟩ F₀ H₀ F H σ ρ->∀(Qd:Bool->Prop)(Q:Bool->Hp->Prop),f ρ Qd ->
 (∀k F' H',Grow ⟨al,b⟩ F H F' H'->Qd k->Q k H')->t σ H Q
theorem Ah{al:Option Addr}:IH X al 0 [] (fun _ Q=>Q true):=⟨_,jA,fun R Qd Q q k=>k true _ _ (Grow.refl R.sub R.reel) q⟩
section
variable{X:Cx}{al:Option Addr}{c1 c2 c3:Nat}{elt tg iter:Expr}{ifs:List Expr}{scope:Scope}{pos:Pos}{fi:En->(List IQ->Prop)->Prop}{g:HG}{ft:TB}{fe:TV}
abbrev FC{Y:Cx}(hg:∀m,H_ Y ⟨al,m⟩ tg g):TG:=fun v σ H Q=>∃m,Jw (hg m) v σ H Q
theorem Bs{Y:Cx}(hg:∀m,H_ Y ⟨al,m⟩ tg g):PG Y tg (FC hg):=fun pins s σ H v u Q I rv ⟨m,z⟩=>(IU (hg m)).1 pins s σ H v u Q I rv z
theorem rO{N':List Str}{wi:TI}(n:Nat)(fr:List (Option Nat))(k0:∀{b:Nat}{F₀ H₀ F H:Hp}{σ:St}{ρ:En},VR X.K ⟨al,b+c1⟩ F₀ H₀ F H σ ρ->∀(Qd:List IQ->Prop)(R:It->Hp->Prop),fi ρ Qd ->
 (∀J xs F' H',Grow ⟨al,b⟩ F H F' H'->(∀b',VIt X.K ⟨al,b'⟩ F' J xs)->Qd xs->R J H')->wi σ H R)
 (hg:∀y m,H_ (blk X N' scope y) ⟨al,m⟩ tg g)(ht:∀y,IH (blk X N' scope y) al c2 ifs ft)(he:∀y,CV (blk X N' scope y) al c3 elt fe)
 {b:Nat}(R:VR X.K ⟨al,b+(c1+n*(c2+c3))⟩ F₀ H₀ F H σ ρ)(Qd:W->Prop)(Q:VK)(q:nq n fi fr g ft fe ρ Qd)
 (k:∀v w F' H',Grow ⟨al,b⟩ F H F' H'->cu X.K ⟨al,b⟩ F' H' v w->cO H v w->Qd w->Q v H'):qM wi fr (fun y=>FC (hg y)) (fun y=>Jw (ht y)) (fun y=>Jw (he y)) σ H Q:=by
 refine k0 (b:=b+n*(c2+c3)) (R.pay (by omega)) _ _ q fun J xs F1 H1 g1 vi ⟨hn,q1⟩=>?_;intro D hD;have rD:al≠some D:=fun e=>by obtain⟨o,z⟩:=g1.reel.live e;rw[hD]at z;cases z
 have FD:F1 D=none:=g1.sub.free hD;have gD:Grow ⟨al,b+n*(c2+c3)⟩ F1 H1 F1 (upd H1 D (.lst [])):=Grow.laid g1.sub g1.reel hD;have R1:=R.gr g1;have n0:mI (dn fr ρ):=db
 refine⟨fun i m acc σc Hc=>m=xs.length-i/\i<=xs.length/\∃Fc ds,VR X.K ⟨al,b+(n-i)*(c2+c3)⟩ F1 H1 Fc Hc σc (dn fr ρ)/\Hc D=some (.lst acc)/\Fc D=none/\Reps X.K Fc acc ds/\kr (dn fr ρ) g ft fe (xs.drop i) ds (fun ds=>Qd (.ml ds)),
  ⟨xs.length,by simp,J1 _,F1,[],eJ R1 gD,ak,FD,.nil,by simpa using q1⟩,?_⟩
 rintro z i m acc σc Hc ⟨rfl,hi,Fc,ds,Rc,hDc,fDc,rs,q2⟩;have sH:bm F1 Hc:=Rc.g.fs.trans Rc.sub;by_cases hlt:i<xs.length
 · have ei:xs[i]?=some xs[i]:=by simp[hlt]
   have ed:xs.drop i=xs[i]::xs.drop (i+1):=Kj hlt;rw[ed]at q2;have el:=eY (n:=n) (i:=i) (c:=c2+c3) (by omega);refine .inr ⟨(vi 0).go i Hc _ ei sH,fun v H' y=>?_⟩;obtain⟨Fy,gy,rv⟩:=(vi 0).yld i Hc v H' _ Fc ei Rc.g.fs Rc.sub Rc.reel y;refine⟨_,(IU (hg z _)).2 (Rc.gr gy) v _ _ _ rv q2 fun F3 H3 σ3 ρ3 g3 n3 R3 ⟨le3,q3⟩=>?_⟩;obtain⟨_,kt⟩:=IU (ht z);refine kt (b:=b+(n-(i+1))*(c2+c3)+c3) (R3.pay (by omega)) _ _ q3 fun k4 F4 H4 g4 q4=>?_;have R4:=R3.gr g4;have g34:=(gy.tr g3).tr g4;have keepD:∀{m:Nat}{Fx Hx:Hp},Grow ⟨al,m⟩ Fc Hc Fx Hx->Hx D=some (.lst acc)/\Fx D=none:=fun gx=>⟨gx.same D _ hDc rD,by rw[gx.old D _ hDc];exact fDc⟩
   cases k4 with
   | false=>exact⟨xs.length-(i+1),by omega,rfl,hlt,F4,ds,(R4.pay (by omega)).le le3,(keepD g34).1,(keepD g34).2,rs.mono g34.fs,q4⟩
   | true =>
     obtain⟨_,kv⟩:=IU (he z);refine kv (b:=b+(n-(i+1))*(c2+c3)) R4 _ _ q4 fun v5 w5 F5 H5 g5 r5 n5 ⟨d,ed5,hl,q5⟩=>?_;obtain⟨F6,g6,s6,r6⟩:=cu.fz g5 r5 n5;rw[ed5]at r6;have g36:=g34.tr g6;refine⟨(keepD g36).1,by rw[rs.length];exact hl,xs.length-(i+1),by omega,rfl,hlt,F6,ds++[d],((R4.gr g6).le le3).other n0 hD (keepD g36).2 rD,ak,(keepD g36).2,(rs.mono g36.fs).snoc r6,q5⟩
 · have e:i=xs.length:=by omega
   subst e;rw[Lp]at q2;refine .inl ⟨(vi 0).stop _ Hc (Jb _) sH,k _ (.ml ds) Fc Hc (g1.tr (Rc.g.pay (by omega))) ⟨D,acc,rfl,fDc,rD,hDc,rs⟩ (fun a ea=>by cases ea;exact g1.freeB hD) q2⟩
theorem xa(n:Nat)(N':List Str)(fr:List (Option Nat))(hc:X.calm=true)(hi:CI X al c1 tg iter fi)
 (hg:∀y m,H_ (blk X N' scope y) ⟨al,m⟩ tg g)(ht:∀y,IH (blk X N' scope y) al c2 ifs ft)(he:∀y,CV (blk X N' scope y) al c3 elt fe)
 (hfr:mC fr N' X.N scope X.env.scope=true:=by rfl)(hsc:mK scope X.env.scope=true:=by rfl)
 (hs:∀x,JI iter X.env x=pure x:=by intro _;rfl):CV X al (c1+n*(c2+c3)) (.ListComp elt [⟨tg,iter,ifs,0⟩] scope pos) (nq n fi fr g ft fe):=by
 obtain⟨wi,p0,k0⟩:=hi;exact⟨_,eP N' fr hc p0 hfr hsc (fun y=>Bs (hg y)) (fun y=>(IU (ht y)).1) (fun y=>(IU (he y)).1) hs,fun R Qd Q q k=>rO n fr k0 hg ht he R Qd Q q k⟩
end
def kC:Ih:=LS "cell"
def kL:Ih:=LS "left"
def kT:Ih:=LS "turn"
theorem B5:¬kC=kL:=by decide +kernel
theorem B4:¬kC=kT:=by decide +kernel
theorem AT:¬kL=kT:=by decide +kernel
def bG(c l t:Int):List (Ih×V):=[(kC,.int c),(kL,.int l),(kT,.int t)]
theorem jp{p:Ih×V}{r:List (Ih×V)}{k:Ih}(e:¬p.1=k):dq (p::r) k=dq r k:=by
 unfold dq;rw[Ka];simp[e]
theorem yu(c l t:Int):dq (bG c l t) kC=some (.int c):=c_ rfl
theorem yt(c l t:Int):dq (bG c l t) kL=some (.int l):=by unfold bG;rw[jp B5];exact c_ rfl
theorem tF(c l t:Int):dq (bG c l t) kT=some (.int t):=by unfold bG;rw[jp B4,jp AT];exact c_ rfl
theorem Gu{a b:Ih}(h:¬a=b):¬b=a:=fun e=>h e.symm
theorem BL(c l t n:Int):cT (bG c l t) kL (.int n)=bG c n t:=by
 unfold cT bG;rw[if_pos (by simp)];simp[B5,Gu AT]
theorem BK(c l t n:Int):cT (bG c l t) kT (.int n)=bG c l n:=by
 unfold cT bG;rw[if_pos (by simp)];simp[B4,AT]
theorem CJ:(0:Int)+BM<2^59990:=by
 have h:BM<2^59990:=MB (by decide) (by decide);rw[L4]
 exact_mod_cast h
theorem ReelOk.kv{r:Addr}(h:ReelOk n F H r):∃c l t:Int,H r=some (.dK (bG c l t))/\0<=l/\0<=t/\t+n<2^59990:=by
 obtain⟨o,e,c,l,t,rfl,q⟩:=h.ex;exact⟨c,l,t,e,q⟩
theorem HP.put{al:Option Addr}{n':Nat}{K:W.Frag}{r:Addr}{l t:Int}(R:VR K ⟨al,n⟩ F₀ H₀ F H σ ρ)(e:al=some r)(h:0<=l/\0<=t/\t+n'<2^59990):VR K ⟨al,n'⟩ F₀ H₀ F (upd H r (.dK (bG c l t))) σ ρ:=by
 have fr:F r=none:=(R.reel r e).1;have neF:∀b u,F b=some u->b≠r:=fun b u q z=>by subst z;rw[fr]at q;cases q
 have g:Grow ⟨al,n'⟩ F H F (upd H r (.dK (bG c l t))):=by
  refine⟨fun b o q n=>by rw[ag (fun z=>n (by rw[z];exact e))];exact q,.refl F,fun b o q=>by rw[ag (neF b o q)];exact R.sub b o q,fun _ _ _=>rfl,fun y z=>?_⟩;have:y=r:=JK (z.symm.trans e);subst this;exact⟨fr,⟨_,ak,c,l,t,rfl,h⟩⟩
 exact R.gr g
section
variable{X:Cx}{rl:RlT}{e:Expr}{fa:TV}{pos p p1 p2:Pos}{ρ:En}
def Fh(i:Nat):TV:=fun ρ Q=>ρ[i]?=some (some .reel)/\∀n:Int,0<=n->Q (.d (.int n))
def Fi(i:Nat):TV:=fun ρ Q=>ρ[i]?=some (some .reel)/\∀n:Int,Q (.d (.int n))
theorem m6{i:Nat}{x:Str}{k:Str}{j}(hr:Room 0 X.A)(hk:(LS k:Ih)=kL\/(LS k:Ih)=kT)(hN:X.N[i]?=some x:=by rfl)(hv:Hw X.env.scope x:=by first|exact KH rfl|exact J8 (KH rfl)|exact J8 (J8 rfl))
 (hd:(x==("__debug__" : Str))=false:=by decide)(hcd:(x==("__classdict__" : Str))=false:=by decide)(hs:ui (.Constant (.str k) j p2):=by exact fun _ _=>rfl):PV X rl (.Subscript (.Name x p1) (.Constant (.str k) j p2) pos) (Fh i):=by
 refine⟨_,fB (mw hr) (bI hN hv hd hcd) dA hs,fun{F₀ H₀ F H σ ρ} R Qd Q ⟨e1,q⟩ h=>?_⟩;obtain⟨v,s1,⟨r,er,ev⟩,_⟩:=R.sl i _ e1;subst ev;obtain⟨_,ok⟩:=R.reel r er;obtain⟨c,l,t,hH,b2,b3,b4⟩:=ok.kv
 have go:∀n:Int,0<=n->dq (bG c l t) (LS k)=some (.int n)->yB (xB i) (tC (.str k)) σ H Q:=fun n hn e=>by
  refine⟨.ref r,s1,r,.int n,rfl,?_,h _ (.d _) F H (Grow.refl R.sub R.reel) (.int n) trivial (q n hn)⟩;have g:=xy.k (k:=(LS k:Ih)) hH;rw[e]at g;exact g
 rcases hk with hk|hk
 · exact go l b2 (by rw[hk];exact yt c l t)
 · exact go t b3 (by rw[hk];exact tF c l t)
theorem uJ{i:Nat}{x:Str}{j}(hr:Room 0 X.A)(hN:X.N[i]?=some x:=by rfl)(hv:Hw X.env.scope x:=by first|exact KH rfl|exact J8 (KH rfl)|exact J8 (J8 rfl))
 (hd:(x==("__debug__" : Str))=false:=by decide)(hcd:(x==("__classdict__" : Str))=false:=by decide)(hs:ui (.Constant (.str "cell") j p2):=by exact fun _ _=>rfl):PV X rl (.Subscript (.Name x p1) (.Constant (.str "cell") j p2) pos) (Fi i):=by
 refine⟨_,fB (mw hr) (bI hN hv hd hcd) dA hs,fun{F₀ H₀ F H σ ρ} R Qd Q ⟨e1,q⟩ h=>?_⟩;obtain⟨v,s1,⟨r,er,ev⟩,_⟩:=R.sl i _ e1;subst ev;obtain⟨_,ok⟩:=R.reel r er;obtain⟨c,l,t,hH,b2,b3,b4⟩:=ok.kv;refine⟨.ref r,s1,r,.int c,rfl,?_,h _ (.d _) F H (Grow.refl R.sub R.reel) (.int c) trivial (q c)⟩;have g:=xy.k (k:=kC) hH;rw[yu]at g;exact g
def yg(i:Nat)(fa:TV):HD:=fun D ρ=>fa ρ fun w=>∃n,w = .d (.int n)/\0<=n/\ρ[i]?=some (some .reel)/\D.nx ρ
theorem uu{i:Nat}{x:Str}{k:Str}{j}(hr:Room 0 X.A)(hk:(LS k:Ih)=kL\/False)(ha:PV X rl e fa)(hN:X.N[i]?=some x:=by rfl)(hv:Hw X.env.scope x:=by first|exact KH rfl|exact J8 (KH rfl)|exact J8 (J8 rfl))
 (hd:(x==("__debug__" : Str))=false:=by decide)(hcd:(x==("__classdict__" : Str))=false:=by decide)(hsw:K4 e (some (.Subscript (.Name x p1) (.Constant (.str k) j p2) pos')) pos.line X.env=pure false:=by rfl) :
 HV X rl (.Assign [.Subscript (.Name x p1) (.Constant (.str k) j p2) pos'] e pos) (yg i fa):=by
 obtain⟨t,p3,kk⟩:=ha;refine⟨_,gZ (mw hr) (bI hN hv hd hcd) dA p3 hsw,fun{F₀ H₀ F H σ ρ} R Dv D ok q=>kk R _ _ q fun v w F1 H1 g1 r1 n1 ⟨n,ew,hn,e1,q1⟩=>?_⟩;subst ew;have ev:=aB r1;subst ev;have R1:=R.grow g1;obtain⟨v,s1,⟨r,er,ev⟩,_⟩:=R1.sl i _ e1;subst ev;obtain⟨_,okr⟩:=R1.reel r er;obtain⟨c,l,t,hH,b2,b3,b4⟩:=okr.kv;refine⟨.ref r,s1,r,_,rfl,A5.k (k:=(LS k:Ih)) hH (iy (by show 3<=1000;decide)),?_⟩
 have go:∀l' t':Int,0<=l'->0<=t'->t'+rl.b<2^59990->cT (bG c l t) (LS k) (.int n)=bG c l' t'->D.nx σ (upd H1 r (.dK (cT (bG c l t) (LS k) (.int n)))):=fun l' t' x2 x3 x4 e=>by
  rw[e];exact ok.nx _ _ _ _ g1.fs (HP.put (al:=rl.a) (n:=rl.b) (n':=rl.b) R1 er ⟨x2,x3,x4⟩) q1
 rcases hk with hk|hk
 · exact go n t hn b3 b4 (by rw[hk];exact BL c l t n)
 · exact hk.elim
def Hq:W->Option Unit
 | .reel=>some ()
 | _=>none
theorem bA:Hq .reel=some ():=rfl
theorem Dz{i:Nat}:(((ρ[i]?).join).bind Hq=some ())↔ρ[i]?=some (some .reel):=by
 constructor
 · intro h
   cases q:ρ[i]? with
   | none=>rw[q]at h;cases h
   | some o=>rw[q]at h;cases o with
     | none=>cases h
     | some w=>cases w<;>first|rfl|cases h
 · intro h;rw[h];rfl
theorem yI{i:Nat}{k:Unit->Mo β}{Q:β->Prop}:aD (((ρ[i]?).join).bind Hq) k Q↔ρ[i]?=some (some .reel)/\k () Q:=by
 rw[ai];exact⟨fun⟨u,a,q⟩=>⟨Dz.mp a,q⟩,fun⟨a,q⟩=>⟨(),Dz.mpr a,q⟩⟩
theorem bw(i:Nat):Fh i ρ=aD (((ρ[i]?).join).bind Hq) fun _=>Hj (anyM fun n:Int=>0<=n) fun n=>ret (.d (.int n)):=af fun Q=>(Iff.intro (fun⟨a,q⟩=>yI.mpr ⟨a,fun n h=>q n h⟩) fun h=>⟨(yI.mp h).1,fun n hn=>(yI.mp h).2 n hn⟩)
theorem bx(i:Nat):Fi i ρ=aD (((ρ[i]?).join).bind Hq) fun _=>Hj (anyM fun _:Int=>True) fun n=>ret (.d (.int n)):=af fun Q=>(Iff.intro (fun⟨a,q⟩=>yI.mpr ⟨a,fun n _=>q n⟩) fun h=>⟨(yI.mp h).1,fun n=>(yI.mp h).2 n trivial⟩)
theorem aM(i:Nat):mS (yg i fa) ρ=Hj (fa ρ) fun w=>aD (asI w) fun n=>GW (0<=n) (aD (((ρ[i]?).join).bind Hq) fun _=>ret (.nx ρ)):=by
 show(Hj (fa ρ) fun w=>fun(Q:Fl->Prop)=>∃n,w = .d (.int n)/\0<=n/\ρ[i]?=some (some .reel)/\Q (.nx ρ))=_;congr 1;funext w;refine af fun Q=>?_;simp only[ai (o:=asI w),cN,GW,yI,ret]
end
theorem lX(c l t:Int):dD [] [(kC,V.int c),(kL,.int l),(kT,.int t)]=bG c l t:=by
 unfold dD bG;simp only[LA,List.foldl_nil];have p0:cT ([]:List (Ih×V)) kC (V.int c)=[(kC,V.int c)]:=rfl;rw[p0];unfold cT;simp[B5,B4,AT]
section
variable{X:Cx}{s1 s2:Stmt}{t1 t2:HD}{e1 e2 e3:Expr}{f1 f2 f3:TV}{pos dpos q1 q2 q3:Pos}{j1 j2 j3:Nat}
theorem nM(hs1:HV X RlT.no s1 t1)(hs2:HV X RlT.no s2 t2)(h1:PV X RlT.no e1 f1)(h2:PV X RlT.no e2 f2)(h3:PV X RlT.no e3 f3) :
 ∃ T,HU X [s1,s2,.Return (some (.Dict [some (.Constant (.str "cell") j1 q1),some (.Constant (.str "left") j2 q2),some (.Constant (.str "turn") j3 q3)] [e1,e2,e3] dpos)) pos] T /\
   ∀ {F H:Hp}{σ:St}{ρ:En},VR X.K RlT.no F H F H σ ρ->∀D:Ends,(mS (uP t1 t2) ρ fun r=>∃ρ',r = .nx ρ'/\(Hj (f1 ρ') fun w1=>Hj (f2 ρ') fun w2=>Hj (f3 ρ') fun w3=>ret (w1,w2,w3)) fun p=>∃c l t:Int,p=(.d (.int c),.d (.int l),.d (.int t))/\0<=l/\t=0) ->
     (∀r F' H',H r=none->Grow RlT.no F H F' H'->HP (RlT.at' r BM) F' H'->D.rt (.ref r) H')->T D σ H:=by
 obtain⟨T1,p1,k1⟩:=hs1;obtain⟨T2,p2,k2⟩:=hs2;obtain⟨g1,pe1,ke1⟩:=h1;obtain⟨g2,pe2,ke2⟩:=h2;obtain⟨g3,pe3,ke3⟩:=h3;refine⟨_,cC p1 (cC p2 (jB (kK (oI (cD dA pe1 (cD dA pe2 (cD dA pe3 oA))) rfl rfl (by intro z;cases z) (by show 3<=15;decide))))),fun{F H σ ρ} R D q fin=>?_⟩
 have qq:t1 ⟨fun ρ=>t2 ⟨fun ρ'=>(Hj (f1 ρ') fun w1=>Hj (f2 ρ') fun w2=>Hj (f3 ρ') fun w3=>ret (w1,w2,w3)) fun p=>∃c l t:Int,p=(.d (.int c),.d (.int l),.d (.int t))/\0<=l/\t=0,fun _=>False,fun _=>False,fun _=>False⟩ ρ,fun _=>False,fun _=>False,fun _=>False⟩ ρ:=by
  simpa[mS,uP]using q
 refine k1 R ⟨_,fun _=>False,fun _=>False,fun _=>False⟩ _ ⟨fun F1 H1 σ1 ρ1 sm1 R1 qa=>?_,fun _ _ _ _ _ _ _ z=>JR z,fun _ _ _ _ _ _ z=>JR z,fun _ _ _ _ _ _ z=>JR z⟩ qq;refine k2 R1 ⟨_,fun _=>False,fun _=>False,fun _=>False⟩ _ ⟨fun F2 H2 σ2 ρ2 sm2 R2 qb=>?_,fun _ _ _ _ _ _ _ z=>JR z,fun _ _ _ _ _ _ z=>JR z,fun _ _ _ _ _ _ z=>JR z⟩ qa;intro p hp;have gp:Grow RlT.no F2 H2 F2 (upd H2 p (.dK [])):=Grow.laid R2.sub R2.reel hp;refine ke1 (R2.grow gp) _ _ qb fun v1 w1 F3 H3 g3' r1 n1 qc=>?_;refine ke2 ((R2.grow gp).grow g3') _ _ qc fun v2 w2 F4 H4 g4 r2 n2 qd=>?_;refine ke3 (((R2.grow gp).grow g3').grow g4) _ _ qd fun v3 w3 F5 H5 g5 r3 n3 qe=>?_;obtain⟨c,l,t,e,hl,ht⟩:=qe;cases e;have a1:=aB r1;have a2:=aB r2;have a3:=aB r3;subst a1 a2 a3;have gg:Grow RlT.no (F2) (upd H2 p (.dK [])) F5 H5:=(g3'.trans g4).trans g5;have hp5:H5 p=some (.dK []):=gg.same p _ ak (by simp);refine⟨hp5,[(kC,.int c),(kL,.int l),(kT,.int t)],rfl,(by show 3<=15;decide),?_⟩;rw[lX];have h0:H p=none:=R2.g.freeB hp;have f5:F5 p=none:=by rw[gg.old p _ ak];exact R2.sub.free hp
 have g0:Grow RlT.no F H F5 H5:=(R2.g.trans gp).trans gg;refine fin p F5 _ h0 ⟨fun b o eb _=>by rw[ag (ay eb h0)];exact g0.same b o eb (by simp),g0.fs,fun b o eb=>?_,g0.old,fun _ z=>by cases z⟩ (fun r er=>?_)
 · have:b≠p:=fun z=>by subst z;rw[f5]at eb;cases eb
   rw[ag this];exact g0.sub b o eb
 · cases er;subst ht;exact⟨f5,⟨_,ak,c,l,0,rfl,hl,by omega,CJ⟩⟩
end
def Ff(m:Nat)(i:Nat):TV:=fun ρ Q=>ρ[i]?=some (some .reel)/\∀n:Int,0<=n->n+m<2^59990->Q (.d (.int n))
section
variable{X:Cx}{al:Option Addr}{m m' c:Nat}{rest:List Stmt}{u:HD}{e:Expr}{fa:TV}{pos p p1 p2:Pos}{ρ:En}
theorem uI{i:Nat}{x:Str}{j}(hr:Room 0 X.A)(hN:X.N[i]?=some x:=by rfl)(hv:Hw X.env.scope x:=by first|exact KH rfl|exact J8 (KH rfl)|exact J8 (J8 rfl))
 (hd:(x==("__debug__" : Str))=false:=by decide)(hcd:(x==("__classdict__" : Str))=false:=by decide)(hs:ui (.Constant (.str "turn") j p2):=by exact fun _ _=>rfl):PV X ⟨al,m⟩ (.Subscript (.Name x p1) (.Constant (.str "turn") j p2) pos) (Ff m i):=by
 refine⟨_,fB (mw hr) (bI hN hv hd hcd) dA hs,fun{F₀ H₀ F H σ ρ} R Qd Q ⟨e1,q⟩ h=>?_⟩;obtain⟨v,s1,⟨r,er,ev⟩,_⟩:=R.sl i _ e1;subst ev;obtain⟨_,ok⟩:=R.reel r er;obtain⟨c,l,t,hH,b2,b3,b4⟩:=ok.kv;refine⟨.ref r,s1,r,.int t,rfl,?_,h _ (.d _) F H (Grow.refl R.sub R.reel) (.int t) trivial (q t b3 b4)⟩;have g:=xy.k (k:=kT) hH;rw[tF]at g;exact g
def yk(i ih:Nat)(u:HD):HD:=fun D ρ=>ρ[ih]?=some (some .reel)/\i<ρ.length/\∀n:Int,0<=n->n<2^59990->u D (ρ.set i (some (.d (.int n))))
theorem wZ(i ih:Nat){x h:Str}{j1 j2:Nat}{q1 q2 q3 q4 q5 q6 q7 q8 q9 q10 q11:Pos}(hr:Room 0 X.A)(hN:X.N.Nodup)(hne:i≠ih)(hrest:II X al c rest u)(hi:X.N[i]?=some x:=by rfl)(hih:X.N[ih]?=some h:=by rfl)
 (hx:Loc X.env.scope x:=by first|exact KH rfl|exact J8 rfl)(hf:X.fn x=true\/X.env.scope.names.lookup x=some .local:=by first|exact .inl rfl|exact .inr rfl)
 (hv:Hw X.env.scope h:=by first|exact KH rfl|exact J8 (KH rfl)|exact J8 (J8 rfl))(hvx:Hw X.env.scope x:=by first|exact KH rfl|exact J8 (KH rfl)|exact J8 (J8 rfl))
 (hd:(h==("__debug__" : Str))=false:=by decide)(hcd:(h==("__classdict__" : Str))=false:=by decide)(hd':(x==("__debug__" : Str))=false:=by decide)(hcd':(x==("__classdict__" : Str))=false:=by decide)
 (hs:K4 (.BinOp (.Subscript (.Name h q1) (.Constant (.str "turn") j1 q2) q3) .Add (.Constant (.int 1) j2 q4) q5) (some (.Name x q6)) q7.line X.env=pure false:=by rfl)
 (hsw:K4 (.Name x q8) (some (.Subscript (.Name h q9) (.Constant (.str "turn") j1 q10) q11)) pos.line X.env=pure false:=by rfl)
 (hsl:ui (.Constant (.str "turn") j1 q2):=by exact fun _ _=>rfl) :
 II X al (1+c) (.Assign [.Name x q6] (.BinOp (.Subscript (.Name h q1) (.Constant (.str "turn") j1 q2) q3) .Add (.Constant (.int 1) j2 q4) q5) q7 :: .Assign [.Subscript (.Name h q9) (.Constant (.str "turn") j1 q10) q11] (.Name x q8) pos::rest) (yk i ih u):=by
 obtain⟨T,pT,kR⟩:=hrest
 have s1:∀n,HV X ⟨al,n⟩ (.Assign [.Name x q6] (.BinOp (.Subscript (.Name h q1) (.Constant (.str "turn") j1 q2) q3) .Add (.Constant (.int 1) j2 q4) q5) q7) (qF i (Fm (G3 fun i j=>.int (i+j)) (Ff n ih) (vC (.int 1)))):=fun n =>
  az i hN (v_add (uI hr hih hv hd hcd hsl) aq) hi hx hs hf
 refine⟨_,cC (t:=fun D σ H=>∃n,Jw (s1 n) D σ H) (fun pins s σ H D I ⟨n,z⟩=>(IU (s1 n)).1 pins s σ H D I z) (cC (gZ (mw hr) (bI hih hv hd hcd) dA (bI hi hvx hd' hcd') hsw) pT),fun{b F₀ H₀ F H σ ρ} R Dv D ok ⟨e1,hlen,q⟩=>⟨b+(1+c),?_⟩⟩;refine(IU (s1 (b+(1+c)))).2 R {Dv with nx:=fun ρ'=>∃n:Int,(0<=n/\n+(b+c:Nat)<2^59990)/\ρ'=ρ.set i (some (.d (.int n)))} _ ⟨fun F1 H1 σ1 ρ1 sm R1 qn=>?_,fun v w F1 H1 g r n q=>(ok.pay (by omega)).rt v w F1 H1 g r n q,fun F1 H1 σ1 ρ1 sm R1 q=>(ok.pay (b:=b+(1+c)) (by omega)).bk F1 H1 σ1 ρ1 sm R1 q,fun F1 H1 σ1 ρ1 sm R1 q=>(ok.pay (b:=b+(1+c)) (by omega)).ct F1 H1 σ1 ρ1 sm R1 q⟩ ?_
 · obtain⟨n,⟨hn,hl⟩,rfl⟩:=qn;obtain⟨v,s1',r1,_⟩:=R1.sl i (.d (.int n)) (by rw[Jo hlen]);have ev:=aB r1;subst ev;obtain⟨v2,s2,⟨r,er,ev2⟩,_⟩:=R1.sl ih .reel (by rw[Jj hne];exact e1);subst ev2;obtain⟨_,okr⟩:=R1.reel r er;obtain⟨cc,l,t,hH,b2,b3,b4⟩:=okr.kv;refine⟨.int n,s1',.ref r,s2,r,_,rfl,A5.k (k:=kT) hH (iy (by show 3<=1000;decide)),?_⟩;rw[BK];exact kR (b:=b) (HP.put (n':=b+c) R1 er ⟨b2,hn,hl⟩) Dv D (ok.on sm) (q n hn (by omega))
 · refine⟨e1,fun n h0 h1=>?_⟩;refine⟨n,1,rfl,rfl,.int (n+1),rfl,n+1,⟨by omega,by omega⟩,rfl⟩
theorem aO(i ih:Nat):mS (yk i ih u) ρ=aD (((ρ[ih]?).join).bind Hq) fun _=>GW (i<ρ.length) (Hj (anyM fun n:Int=>0<=n/\n<2^59990) fun n=>mS u (ρ.set i (some (.d (.int n))))):=af fun Q=>(Iff.intro (fun⟨a,l,q⟩=>yI.mpr ⟨a,l,fun n hn=>q n hn.1 hn.2⟩) fun h=>⟨(yI.mp h).1,(yI.mp h).2.1,fun n h0 h1=>(yI.mp h).2.2 n ⟨h0,h1⟩⟩)
theorem wX(i:Nat){x f:Str}{ps:List Str}{k:Nat}{pre:List W->Prop}{fs:HC}{es:List Expr}(D:DfnR X.prog X.w X.K X.mg X.base f ps k pre)(hr:Room k X.A)(hN:X.N.Nodup)(ha:HQ X RlT.no (e::es) fs)(hrest:∀r,II X (some r) c rest u)(hc:c<=BM)
 (hi:X.N[i]?=some x:=by rfl)(hx:Loc X.env.scope x:=by first|exact KH rfl|exact J8 rfl)(hg:Gl X f:=by rfl)(hdb:(f==("__debug__" : Str))=false:=by decide)
 (he:Jc (e::es) X.env=(false,eval e X.env)::Jc es X.env:=by rfl)(hpl:(KB cpos (Jc es X.env)).any (·.1)=false:=by rfl)
 (hs:K4 (.Call (.Name f p) (e::es) [] cpos) (some (.Name x px)) pos.line X.env=pure false:=by rfl)(hf:X.fn x=true\/X.env.scope.names.lookup x=some .local:=by first|exact .inl rfl|exact .inr rfl) :
 jk X RlT.no (.Assign [.Name x px] (.Call (.Name f p) (e::es) [] cpos) pos::rest) (yh i pre fs u):=by
 obtain⟨fa,fd,hm,hk,hb,F⟩:=D.ex;obtain⟨ta,p1,k1⟩:=ha;refine⟨_,cC (gz hN hi hx (fD F hr hg hm hk hb .nil oK p1 hdb he hpl) hs hf) (vF X rest),fun{F₀ H₀ F H σ ρ} R Dv D ok q=>k1 R _ _ q fun vs ws F1 H1 g1 r1 ⟨ao,pw,q1⟩=>?_⟩;have R1:=R.grow g1;refine⟨F1,ws,g1.sub,by rw[Kl];exact r1,ao,pw,fun r F2 H2 hr2 g2 ra=>?_⟩;intro pins s I;obtain⟨T,pT,kT⟩:=hrest r;have h0:H₀ r=none:=R1.g.freeB hr2;refine pT pins s _ H2 D I (kT (b:=0) ((R1.into hr2 g2 ra i).pay (by omega)) _ D ⟨fun F3 H3 σ3 ρ3 s3 R3 q3=>?_,fun v w F3 H3 g3 r3 n3 q3=>?_,fun F3 H3 σ3 ρ3 s3 R3 q3=>?_,fun F3 H3 σ3 ρ3 s3 R3 q3=>?_⟩ q1)
 · exact ok.nx F3 H3 σ3 _ (g1.fs.trans (g2.fs.trans s3)) (R3.out h0) q3
 · exact ok.rt v w F3 H3 (ln g3 h0) (oj r3 q3.1) n3 q3.2
 · exact ok.bk F3 H3 σ3 _ (g1.fs.trans (g2.fs.trans s3)) (R3.out h0) q3
 · exact ok.ct F3 H3 σ3 _ (g1.fs.trans (g2.fs.trans s3)) (R3.out h0) q3
end
theorem aN(n:Nat)(fl:List Nat)(fi:En->(List IQ->Prop)->Prop)(g:HG)(t:HD)(ρ:En):mS (yj n fl fi g t) ρ=Hj (fi ρ) fun xs=>GW (xs.length<=n) (bQ fl (Hn g t) xs (fo fl ρ)):=by
 refine af fun Q=>?_;show(fi ρ fun xs=>xs.length<=n/\mS (bM fl g t xs) (fo fl ρ) Q)↔_;simp only[jG];exact M3
theorem aA(n:Nat)(fi:En->(List IQ->Prop)->Prop)(fr:List (Option Nat))(g:HG)(ft:TB)(fe:TV)(ρ:En):nq n fi fr g ft fe ρ=Hj (fi ρ) fun xs=>GW (xs.length<=n) (Hj (bH (GM (dn fr ρ) g ft fe) xs []) fun ds=>ret (.ml ds)):=by
 refine af fun Q=>?_;show(fi ρ fun xs=>xs.length<=n/\kr (dn fr ρ) g ft fe xs [] fun ds=>Q (.ml ds))↔_;simp only[ib];exact M3
def fr(q:Rat):IQ:=.tuple [.int q.num,.int q.den]
theorem z9{r:Rat}(h:fr q=fr r):q=r:=by
 simp only[fr,LO,Ku,OR,and_true]at h;exact Rat.ext h.1 (by omega)
theorem kY(n:Int)(d:Nat)(h:d≠0):xD n d=fr (OM n d h):=by
 unfold xD fr;rw[Rat.normalize_eq];have g:(Ls n d:Int)=((n.natAbs.gcd d:Nat):Int):=by simp[Ls]
 have gp:0<n.natAbs.gcd d:=Nat.gcd_pos_of_pos_right _ (by omega);have e1:n.fdiv (Ls n d)=n / ((n.natAbs.gcd d:Nat):Int):=by rw[g,KF _ (by omega)]
 have e2:(d:Int).fdiv (Ls n d)=((d / n.natAbs.gcd d:Nat):Int):=by rw[g,KF _ (by omega),Int.natCast_ediv]
 rw[e1,e2]
theorem wc{a:Int}(hb:0<b):xD a b=fr ((a:Rat) / (b:Rat)):=by
 obtain⟨d,rfl⟩:=JN (show 0<=b by omega);rw[kY a d (by omega)];congr 1;have:(OM a d (by omega))=mkRat a d:=by rw[Rat.normalize_eq_mkRat]
 rw[this,Rat.mkRat_eq_div];rfl
def Gg(f:Rat->Rat->IQ)(pre:Rat->Rat->Prop):List W->(IQ->Prop)->Prop:=fun ws Q=>∃q r,ws=[.d (fr q),.d (fr r)]/\pre q r/\Q (f q r)
theorem Gg.mono{f:Rat->Rat->IQ}{pre:Rat->Rat->Prop}:∀ws (Q Q':IQ->Prop),(∀d,Q d->Q' d)->Gg f pre ws Q->Gg f pre ws Q':=fun _ _ _ h ⟨q,r,e,p,x⟩=>⟨q,r,e,p,h _ x⟩
theorem Gg.len{f:Rat->Rat->IQ}{pre:Rat->Rat->Prop}:∀ws (Q:IQ->Prop),Gg f pre ws Q->ws.length=2:=fun _ _ ⟨_,_,e,_⟩=>by subst e;rfl
def Gh(f:Rat->IQ)(pre:Rat->Prop):List W->(IQ->Prop)->Prop:=fun ws Q=>∃q,ws=[.d (fr q)]/\pre q/\Q (f q)
theorem Gh.mono{f:Rat->IQ}{pre:Rat->Prop}:∀ws (Q Q':IQ->Prop),(∀d,Q d->Q' d)->Gh f pre ws Q->Gh f pre ws Q':=fun _ _ _ h ⟨q,e,p,x⟩=>⟨q,e,p,h _ x⟩
theorem Gh.len{f:Rat->IQ}{pre:Rat->Prop}:∀ws (Q:IQ->Prop),Gh f pre ws Q->ws.length=1:=fun _ _ ⟨_,e,_⟩=>by subst e;rfl
def Gf(n:Nat)(q:Rat):Prop:=q.num.natAbs<2^n/\q.den<2^n
theorem Gf.mono(h:Gf n q)(hm:n<=m):Gf m q:=⟨Jh h.1 (Jz (by decide) hm),Jh h.2 (Jz (by decide) hm)⟩
theorem xb{i:Int}(h:i.natAbs<2^2000):IK i:=Jh h (Jz (by decide) (by decide))
theorem Gf.bn(h:Gf 2000 q):IK q.num:=xb h.1
inductive Sd where
 | to (t:Rat)|from(a b:Rat)|round (a b:Rat)
def Sd.last:Sd->Rat
 | .to t=>t | .from _ b=>b | .round _ b=>b
def Sd.first:Sd->Rat
 | .to t=>t | .from a _=>a | .round a _=>a
def F0:Sd->IQ
 | .to t=>.tuple [.str "to", fr t]
 | .from a b=>.tuple [.str "from", fr a,fr b]
 | .round a b=>.tuple [.str "round", fr a,fr b]
def mx(q r:Rat):Rat:=if q<r then r else q
def mn(q r:Rat):Rat:=if q<r then q else r
def Sd.Sm(s:Sd):Prop:=Gf 60 s.first/\Gf 60 s.last
theorem vZ{n:Int}{d k:Nat}(hd:d≠0)(h1:n.natAbs<2^k)(h2:d<2^k):Gf k (OM n d hd):=by
 rw[Rat.normalize_eq];refine⟨?_,LL (Nat.div_le_self _ _) h2⟩;show(n / ((n.natAbs.gcd d:Nat):Int)).natAbs<2^k;have hdv:((n.natAbs.gcd d:Nat):Int)∣n:=Int.ofNat_dvd_left.mpr (Nat.gcd_dvd_left _ _);rw[Int.natAbs_ediv_of_dvd hdv,Od];exact LL (Nat.div_le_self _ _) h1
theorem Gf.up(h:Gf 60 q):Gf 2000 q:=h.mono (by decide)
def Cr{α:Type}(pre:α->Prop)(enc:α->IQ)(f:α->IQ):List W->(IQ->Prop)->Prop:=fun ws Q=>∃a,ws=[.d (enc a)]/\pre a/\Q (f a)
theorem Cr.mono{pre:α->Prop}{enc:α->IQ}{f:α->IQ}:∀ws (Q Q':IQ->Prop),(∀d,Q d->Q' d)->Cr pre enc f ws Q->Cr pre enc f ws Q':=fun _ _ _ h ⟨a,e,p,q⟩=>⟨a,e,p,h _ q⟩
theorem Cr.len{pre:α->Prop}{enc:α->IQ}{f:α->IQ}:∀ws (Q:IQ->Prop),Cr pre enc f ws Q->ws.length=1:=fun _ _ ⟨_,e,_⟩=>by subst e;rfl
def GZ(x y:Rat)(b:Bool):Bool:=if b then !decide (y<x)else decide (x<y)
def GY:List W->(IQ->Prop)->Prop:=fun ws Q=>∃x y b,ws=[.d (fr x),.d (fr y),.d (.bool b)]/\Gf 2000 x/\Gf 2000 y/\Q (.bool (GZ x y b))
theorem GY.mono:∀ws (Q Q':IQ->Prop),(∀d,Q d->Q' d)->GY ws Q->GY ws Q':=fun _ _ _ h ⟨a,b,c,e,p,p',q⟩=>⟨a,b,c,e,p,p',h _ q⟩
theorem GY.len:∀ws (Q:IQ->Prop),GY ws Q->ws.length=3:=fun _ _ ⟨_,_,_,e,_⟩=>by subst e;rfl
def GO(w:Str):Prop:=w = "half" \/ w = "shut" \/ w = "open"
theorem GO.sh{w:Str}(h:GO w):JT (.str w)=true:=by rcases h with rfl|rfl|rfl<;>decide +kernel
def Gz(s:Sd)(w:Str)(x:Rat):Bool :=
 let ahead:=GZ x s.last (decide (w = "shut"))
 let behind:=GZ s.first x (!decide (w = "open"))
 match s with
 | .to _=>ahead
 | .from _ _=>behind&&ahead
 | .round _ _=>behind||ahead
def Gy:List W->(IQ->Prop)->Prop:=fun ws Q=>∃x s w,ws=[.d (fr x),.d (F0 s),.d (.str w)]/\Gf 60 x/\s.Sm/\GO w/\Q (.bool (Gz s w x))
theorem Gy.mono:∀ws (Q Q':IQ->Prop),(∀d,Q d->Q' d)->Gy ws Q->Gy ws Q':=fun _ _ _ h ⟨a,b,c,e,p,p',p'',q⟩=>⟨a,b,c,e,p,p',p'',h _ q⟩
theorem Gy.len:∀ws (Q:IQ->Prop),Gy ws Q->ws.length=3:=fun _ _ ⟨_,_,_,e,_⟩=>by subst e;rfl
def BO(qs:List Rat):Rat:=qs.foldl (· * ·) 1
def Gn:List W->(IQ->Prop)->Prop:=fun ws Q=>∃qs:List Rat,ws=[.d (.list (qs.map fr))]/\qs.length<=4/\(∀q∈qs,Gf 400 q)/\Q (fr (BO qs))
theorem Gn.mono:∀ws (Q Q':IQ->Prop),(∀d,Q d->Q' d)->Gn ws Q->Gn ws Q':=fun _ _ _ h ⟨a,e,p,p',q⟩=>⟨a,e,p,p',h _ q⟩
theorem Gn.len:∀ws (Q:IQ->Prop),Gn ws Q->ws.length=1:=fun _ _ ⟨_,e,_⟩=>by subst e;rfl
def CH(ss:List Sd):IQ:=.tuple (ss.map F0)
def CT(ss:List Sd):Prop:=1<=ss.length/\ss.length<=4/\∀s∈ss,s.Sm
def Gj(qs:List Rat):IQ:=.tuple (qs.map fr)
def DV(n:Nat)(qs:List Rat):Prop:=qs.length=n/\∀q∈qs,Gf 60 q
def GG(qs:List Rat)(ss:List Sd)(w:Str):Bool:=(qs.zip ss).all fun p=>Gz p.2 w p.1
def GF:List W->(IQ->Prop)->Prop:=fun ws Q=>∃qs ss w,ws=[.d (Gj qs),.d (CH ss),.d (.str w)]/\DV ss.length qs/\CT ss/\GO w/\Q (.bool (GG qs ss w))
theorem GF.mono:∀ws (Q Q':IQ->Prop),(∀d,Q d->Q' d)->GF ws Q->GF ws Q':=fun _ _ _ h ⟨a,b,c,e,p,p',p'',q⟩=>⟨a,b,c,e,p,p',p'',h _ q⟩
theorem GF.len:∀ws (Q:IQ->Prop),GF ws Q->ws.length=3:=fun _ _ ⟨_,_,_,e,_⟩=>by subst e;rfl
def DH(ps:List (List Rat)):IQ:=.tuple (ps.map Gj)
def DW(n:Nat)(ps:List (List Rat)):Prop:=1<=ps.length/\ps.length<=40/\∀p∈ps,DV n p
def Hh(f:List (List Rat)->List Sd->Str->IQ):List W->(IQ->Prop)->Prop:=fun ws Q=>∃ps ss w,ws=[.d (DH ps),.d (CH ss),.d (.str w)]/\DW ss.length ps/\CT ss/\GO w/\Q (f ps ss w)
theorem Hh.mono{f:List (List Rat)->List Sd->Str->IQ}:∀ws (Q Q':IQ->Prop),(∀d,Q d->Q' d)->Hh f ws Q->Hh f ws Q':=fun _ _ _ h ⟨a,b,c,e,p,p',p'',q⟩=>⟨a,b,c,e,p,p',p'',h _ q⟩
theorem Hh.len{f:List (List Rat)->List Sd->Str->IQ}:∀ws (Q:IQ->Prop),Hh f ws Q->ws.length=3:=fun _ _ ⟨_,_,_,e,_⟩=>by subst e;rfl
def Gx(f:List (List Rat)->List Sd->Rat):List W->(IQ->Prop)->Prop:=fun ws Q=>∃ps ss,ws=[.d (DH ps),.d (CH ss)]/\DW ss.length ps/\CT ss/\Q (fr (f ps ss))
theorem Gx.mono{f:List (List Rat)->List Sd->Rat}:∀ws (Q Q':IQ->Prop),(∀d,Q d->Q' d)->Gx f ws Q->Gx f ws Q':=fun _ _ _ h ⟨a,b,e,p,p',q⟩=>⟨a,b,e,p,p',h _ q⟩
theorem Gx.len{f:List (List Rat)->List Sd->Rat}:∀ws (Q:IQ->Prop),Gx f ws Q->ws.length=2:=fun _ _ ⟨_,_,e,_⟩=>by subst e;rfl
theorem jZ{α β:Type}(f:α->IQ)(g:β->IQ):∀(xs:List α)(ys:List β),ie (xs.map f) (ys.map g)=(xs.zip ys).map fun p=>.tuple [f p.1,g p.2]
 | [],_=>by simp[ie]
 | _::_,[]=>by simp[ie]
 | x::xs,y::ys=>by
   show JM [f x,g y]::ie (xs.map f) (ys.map g)=_;rw[jZ f g xs ys];rfl
def Gv:List W->(IQ->Prop)->Prop:=fun ws Q=>ws=[.reel]/\∀q,Gf 60 q->Q (fr q)
theorem Gv.mono:∀ws (Q Q':IQ->Prop),(∀d,Q d->Q' d)->Gv ws Q->Gv ws Q':=fun _ _ _ h ⟨e,q⟩=>⟨e,fun r hr=>h _ (q r hr)⟩
theorem Gv.len:∀ws (Q:IQ->Prop),Gv ws Q->ws.length=1:=fun _ _ ⟨e,_⟩=>by subst e;rfl
def G9:List W->(IQ->Prop)->Prop:=fun ws Q=>∃qs:List Rat,ws=[.reel,.d (.list (qs.map fr))]/\(∀q∈qs,Gf 60 q)/\qs.length<=40/\∀q,Gf 60 q->Q (fr q)
theorem G9.mono:∀ws (Q Q':IQ->Prop),(∀d,Q d->Q' d)->G9 ws Q->G9 ws Q':=fun _ _ _ h ⟨a,e,p,p',q⟩=>⟨a,e,p,p',fun r hr=>h _ (q r hr)⟩
theorem G9.len:∀ws (Q:IQ->Prop),G9 ws Q->ws.length=2:=fun _ _ ⟨_,e,_⟩=>by subst e;rfl
def DN(w:Str):Prop:=w = "to" \/ w = "from" \/ w = "round"
theorem DN.sh{w:Str}(h:DN w):JT (.str w)=true:=by rcases h with rfl|rfl|rfl<;>decide +kernel
def FZ:List W->(IQ->Prop)->Prop:=fun ws Q=>∃(qs:List Rat)(w:Str),ws=[.reel,.d (.list (qs.map fr)),.d (.str w)]/\(∀q∈qs,Gf 60 q)/\qs.length<=40/\DN w/\∀s:Sd,s.Sm->Q (F0 s)
theorem FZ.mono:∀ws (Q Q':IQ->Prop),(∀d,Q d->Q' d)->FZ ws Q->FZ ws Q':=fun _ _ _ h ⟨a,b,e,p,p',p'',q⟩=>⟨a,b,e,p,p',p'',fun r hr=>h _ (q r hr)⟩
theorem FZ.len:∀ws (Q:IQ->Prop),FZ ws Q->ws.length=3:=fun _ _ ⟨_,_,e,_⟩=>by subst e;rfl
def qd(a b:Int):Rat:=(a:Rat) / (b:Rat)
theorem vw(q:Rat):qd q.num q.den=q:=by
 unfold qd;have:=Rat.mkRat_self q;rw[Rat.mkRat_eq_div]at this;exact this
theorem Ae(q:Rat):(0:Int)<(q.den:Int):=by have:=q.den_nz;omega
theorem BH{a:Int}{k:Nat}(hb:0<b)(h1:a.natAbs<2^k)(h2:b.natAbs<2^k):Gf k (qd a b):=by
 obtain⟨d,rfl⟩:=JN (show 0<=b by omega);have hd:d≠0:=by omega
 have e:qd a d=OM a d hd:=z9 (by rw[<- kY,wc (by omega)];rfl);rw[e];exact vZ _ h1 (by simpa using h2)
def sg(x y:Rat):Int:=x.num*y.den-y.num*x.den
def A4(qs:List Rat):Prop:=∀q∈qs,0<=q/\q<1
def AD(ps:List (List Rat)):Prop:=∀p∈ps,A4 p
theorem A4.snoc{qs:List Rat}{r:Rat}(h:A4 qs)(hr:0<=r/\r<1):A4 (qs++[r]):=fun q hq=>by
 rcases J3.mp hq with h'|h'
 · exact h q h'
 · simp at h';rw[h'];exact hr
theorem AD.snoc{ps:List (List Rat)}{r:List Rat}(h:AD ps)(hr:A4 r):AD (ps++[r]):=fun q hq=>by
 rcases J3.mp hq with h'|h'
 · exact h q h'
 · simp at h';rw[h'];exact hr
theorem yS{a:Int}(hb:0<b)(h:a<b):qd a b<1:=by
 unfold qd;have h1:(a:Rat)<(b:Rat):=by exact_mod_cast h
 have h2:(0:Rat)<(b:Rat):=by exact_mod_cast hb
 exact(Rat.div_lt_iff h2).mpr (by rw[Rat.one_mul];exact h1)
def fv(b:Int):List Int->Rat
 | []=>0
 | d::ds=>((d:Rat)+fv b ds) / (b:Rat)
def nv(b:Int):List Int->Int
 | []=>0
 | d::ds=>d+b*nv b ds
def tv(b:Int)(ds:List Int):Int:=ds.foldl (fun t d=>t*b+d) 0
def IB(b:Int)(ds:List Int):Prop:=∀d∈ds,0<=d/\d<b
theorem ia(b:Int):∀(ds:List Int)(t:Int),ds.foldl (fun t d=>t*b+d) t=t*b^ds.length+tv b ds
 | [],t=>by simp[tv]
 | d::ds,t=>by
   rw[LA,ia b ds (t*b+d),show tv b (d::ds)=ds.foldl (fun t d=>t*b+d) (0*b+d)from rfl,ia b ds (0*b+d),JG,Lw]
   grind
theorem gO(b d:Int)(ds:List Int):tv b (d::ds)=d*b^ds.length+tv b ds:=by
 rw[show tv b (d::ds)=ds.foldl (fun t d=>t*b+d) (0*b+d)from rfl,ia];grind
theorem gt(h:0<b):(b:Rat)≠0:=by
 intro z;have:b=0:=by exact_mod_cast z
 omega
theorem yp{b:Int}(hb:2<=b):∀ds:List Int,qd (tv b ds) (b^ds.length)=fv b ds
 | []=>by rw[show tv b []=0 from rfl,MT,Pi];show((0:Int):Rat) / ((1:Int):Rat)=0;rw[Rat.div_def,show((0:Int):Rat)=0 from rfl,Rat.zero_mul]
 | d::ds=>by
   have ih:=yp hb ds;have h1:=gt (show 0<b by omega);have h2:=gt (show 0<b^ds.length from KY (by omega));rw[gO,fv,<- ih,JG,Lw];unfold qd;rw[Rat.intCast_add,NU,NU]
   grind
theorem nE{b:Int}(hb:2<=b):∀ds:List Int,IB b ds->0<=tv b ds/\tv b ds<b^ds.length
 | [],_=>⟨NQ _,by simp[tv]⟩
 | d::ds,h=>by
   obtain⟨i1,i2⟩:=nE hb ds fun x m=>h x (IT _ m);obtain⟨j1,j2⟩:=h d IV;have hp:0<b^ds.length:=KY (by omega);rw[gO,JG,Lw,Oe (b^ds.length) b];have h1:0<=d*b^ds.length:=LY j1 (by omega);have h2:(d+1)*b^ds.length<=b*b^ds.length:=L5 (by omega) (by omega);rw[Int.add_mul,Int.one_mul]at h2;omega
def Xp(b t B:Int)(ds:List Int):Prop:=IB b ds/\t*b^ds.length=tv b ds*B
theorem Xp.nil{t B:Int}(h:Xp b t B []):t=0:=by
 have:=h.2;simpa[tv]using this
theorem Xp.cons{b t B d:Int}{ds:List Int}(hb:2<=b)(hB:0<B)(h:Xp b t B (d::ds)):(t*b) / B=d/\Xp b (t*b%B) B ds:=by
 obtain⟨f,e⟩:=h;have fd:IB b ds:=fun x m=>f x (IT _ m);obtain⟨s0,s1⟩:=nE hb ds fd;rw[gO,JG,Lw]at e;generalize hn:b^ds.length=n at *;generalize hs:tv b ds=s at *;have hn0:0<n:=by rw[<- hn];exact KY (by omega)
 have e1:n*(t*b-d*B)=s*B:=by grind
 have r0:0<=t*b-d*B:=by
  by_cases z:0<=t*b-d*B
  · exact z
  · have:n*(t*b-d*B)<0:=Int.mul_neg_of_pos_of_neg hn0 (by omega);have:0<=s*B:=LY s0 (by omega);omega
 have r1:t*b-d*B<B:=by
  have h1:s*B<n*B:=Mu s1 hB;exact Int.lt_of_mul_lt_mul_left (e1▸h1) (by omega)
 have q:t*b / B=d:=by
  have:t*b=(t*b-d*B)+d*B:=by omega
  rw[this,Mi _ _ (by omega),Mj r0 r1,L4]
 have q2:t*b%B=t*b-d*B:=by rw[Int.emod_def,q,Oe B d]
 exact⟨q,fd,by rw[q2,hn,hs,Oe,e1]⟩
theorem Fw{b:Int}(hb:2<=b):∀ds:List Int,IB b ds->tv b ds=0->∀d∈ds,d=0
 | [],_,_,_,m=>nomatch m
 | d::ds,h,e,x,m=>by
   have fd:IB b ds:=fun x m=>h x (IT _ m);obtain⟨s0,s1⟩:=nE hb ds fd;obtain⟨j1,j2⟩:=h d IV;have hp:0<b^ds.length:=KY (by omega);rw[gO]at e
   have hd:d=0:=by
    by_cases z:d=0
    · exact z
    · have:0<d*b^ds.length:=Int.mul_pos (by omega) hp;omega
   subst hd;rw[Qh,L4]at e;rcases JA.mp m with rfl|m
   · rfl
   · exact Fw hb ds fd e x m
theorem Gs(b:Int)(f:Int->Int)(h0:f 0=0):∀ds:List Int,(∀d∈ds,d=0)->nv b (ds.map f)=0
 | [],_=>rfl
 | d::ds,h=>by
   rw[Ji,nv,h d IV,h0,Gs b f h0 ds fun x m=>h x (IT _ m)];simp
theorem Xp.zero{B:Int}(hb:2<=b)(hB:0<B)(h:Xp b 0 B ds):∀d∈ds,d=0:=by
 have e:=h.2;rw[Qh]at e
 have:tv b ds=0:=by
  rcases Int.mul_eq_zero.mp e.symm with z|z
  · exact z
  · omega
 exact Fw hb ds h.1 this
theorem Xp.uniq{b B:Int}(hb:2<=b)(hB:0<B)(f:Int->Int)(h0:f 0=0):∀(ds es:List Int)(t:Int),Xp b t B ds->Xp b t B es->nv b (ds.map f)=nv b (es.map f)
 | [],es,t,h,k=>by
   have:=h.nil;subst this
   rw[Gs b f h0 es (k.zero hb hB)];rfl
 | d::ds,[],t,h,k=>by
   have:=k.nil;subst this
   rw[Gs b f h0 (d::ds) (h.zero hb hB)];rfl
 | d::ds,e::es,t,h,k=>by
   obtain⟨a1,a2⟩:=h.cons hb hB;obtain⟨b1,b2⟩:=k.cons hb hB;rw[Ji,Ji,nv,nv,Xp.uniq hb hB f h0 ds es _ a2 b2,<- a1,<- b1]
def ix(p:List Int)(f:Int):Int:=(p.idxOf f:Int)
def DX(b:Int)(q:Rat):Prop:=∃ds,Xp b q.num q.den ds
open Classical in
noncomputable def sR(b:Int)(p:List Int)(q:Rat):Option Int:=if h:DX b q then some (nv b (h.choose.map (ix p)))else none
theorem GK{p:List Int}(ex:IsEx b p):ix p 0=0:=by
 cases p with
 | nil=>cases ex.zero
 | cons x p =>
   have:=ex.zero;simp only[List.head?_cons,QK.injEq]at this;subst this;simp[ix,List.idxOf_cons_self]
theorem xf{p:List Int}(hb:2<=b)(ex:IsEx b p)(h:Xp b q.num q.den ds):sR b p q=some (nv b (ds.map (ix p))):=by
 have hx:DX b q:=⟨ds,h⟩;unfold sR;rw[dif_pos hx,Xp.uniq hb (Ae q) (ix p) (GK ex) _ ds q.num hx.choose_spec h]
def Ha(b n:Int):List Int:=(digs b.toNat n.toNat).map fun(k:Nat)=>(k:Int)
theorem vY{b:Nat}(hb:2<=b):∀n:Nat,nv (b:Int) ((digs b n).map fun(k:Nat)=>(k:Int))=n:=by
 intro n
 induction n using NS with
 | _ n ih =>
   by_cases h:0<n
   · rw[dH hb h,Ji,nv,ih (n / b) (NR h (by omega))];have:=Nat.mod_add_div n b
     exact_mod_cast this
   · have:n=0:=by omega
     subst this;rw[cU];rfl
theorem zw{n:Int}(hb:2<=b)(hn:0<=n):nv b (Ha b n)=n:=by
 have:=vY (b:=b.toNat) (by omega) n.toNat;rw[KG (by omega),KG hn]at this;exact this
theorem pD(hb:2<=b)(n:Int):IB b (Ha b n):=by
 intro d m;obtain⟨k,mk,rfl⟩:=Jv.mp m;have:=wR (b:=b.toNat) (by omega) _ k mk;omega
theorem kQ(b:Int)(m:Nat):∀xs:List Int,nv b (xs++Jp m 0)=nv b xs
 | []=>by
   show nv b (Jp m 0)=0
   induction m with
   | zero=>rfl
   | succ m ih=>rw[Km,nv,ih];simp
 | x::xs=>by rw[Nx,nv,kQ b m xs,nv]
theorem uV(b:Int)(ds:List Int)(d:Int):tv b (ds++[d])=tv b ds*b+d:=by simp[tv]
theorem iq(b:Int):∀xs:List Int,tv b xs.reverse=nv b xs
 | []=>rfl
 | x::xs=>by rw[Ou,uV,iq b xs,nv];grind
theorem k_{b:Nat}(hb:2<=b):∀(k n:Nat),n<b^k->(digs b n).length<=k
 | k,n,h=>by
   by_cases hn:0<n
   · cases k with
     | zero=>simp at h;omega
     | succ k =>
       rw[dH hb hn,JG];have:n / b<b^k:=by rw[Nat.div_lt_iff_lt_mul (by omega)];rw[Oc]at h;exact h
       have:=k_ hb k (n / b) this;omega
   · have:n=0:=by omega
     subst this;rw[cU];simp
theorem wp{n:Int}{k:Nat}(hb:2<=b)(hn:0<=n)(h:n<b^k):(Ha b n).length<=k:=by
 unfold Ha;rw[I_];refine k_ (by omega) k _ ?_
 have:((n.toNat:Nat):Int)<((b.toNat^k:Nat):Int):=by
  rw[KG hn,K_,KG (by omega)];exact h
 exact_mod_cast this
def Go(b c:Int)(k:Nat):List Int:=Ha b c++Jp (k-(Ha b c).length) 0
theorem dW{k:Nat}(hb:2<=b)(hc:0<=c)(h:c<b^k):(Go b c k).length=k:=by
 have:=wp hb hc h;simp[Go];omega
theorem hJ{k:Nat}(hb:2<=b):IB b (Go b c k):=by
 intro d m;rcases J3.mp m with m|m
 · exact pD hb c d m
 · rw[(List.mem_replicate.mp m).2];omega
theorem oM{k:Nat}(hb:2<=b)(hc:0<=c):nv b (Go b c k)=c:=by
 unfold Go;rw[kQ,zw hb hc]
theorem zg{t B:Int}{k:Nat}(hb:2<=b)(hc:0<=c)(h:c<b^k)(e:c*B=t*b^k):Xp b t B (Go b c k).reverse:=by
 refine⟨fun d m=>hJ hb d (MG.mp m),?_⟩;rw[MI,dW hb hc h,iq,oM hb hc,e]
theorem qU{a:Int}(hc:0<c):(qd a c).num*c=a*(qd a c).den:=by
 have h1:=gt hc;have h2:=gt (Ae (qd a c));have e:qd (qd a c).num (qd a c).den=qd a c:=vw _;have e':((qd a c).num:Rat) / (((qd a c).den:Int):Rat)=(a:Rat) / (c:Rat):=e;generalize (qd a c).num=x at *;generalize ((qd a c).den:Int)=y at *;have:(x:Rat)*(c:Rat)=(a:Rat)*(y:Rat):=by grind
 exact_mod_cast this
def G7(p:List Int)(a:Int):Int:=p.getD a.toNat 0
theorem Ab{p:List Int}(ex:IsEx b p){a:Int}(h0:0<=a)(h:a<b):0<=G7 p a/\G7 p a<b:=(wH ex (show a.toNat<b.toNat by omega)).2
theorem Gm:∀(l r:List Int),l.Nodup->(∀x∈l,x∈r)->l.length<=r.length
 | [],r,_,_=>J1 _
 | x::l,r,nd,h=>by
   have hx:=h x IV;obtain⟨n1,n2⟩:=KI.mp nd;have:=Gm l (r.erase x) n2 fun y my=>(MC (a:=y) (b:=x) (fun z=>n1 (by rw[<- z];exact my))).mpr (h y (IT _ my));rw[Ln hx]at this;have:=O1 hx;simp only[JG];omega
theorem zE{p:List Int}(ex:IsEx b p){f:Int}(h0:0<=f)(h:f<b):f∈p:=by
 by_cases m:f∈p
 · exact m
 · have:=Gm (f::p) (zV 0 b.toNat) (KI.mpr ⟨m,ex.nd⟩) fun x mx=>by
     rw[rV];rcases JA.mp mx with rfl|mx
     · omega
     · have:=ex.rng x mx;omega
   rw[jK,JG,ex.len]at this;omega
theorem B7{p:List Int}(ex:IsEx b p){f:Int}(h0:0<=f)(h:f<b):0<=ix p f/\ix p f<b:=by
 have:=List.idxOf_lt_length_of_mem (zE ex h0 h);rw[ex.len]at this;unfold ix;omega
def Bo(b:Int)(p:List Int)(n:Int):Rat:=fv b ((Ha b n).map (G7 p))
theorem Aa{p:List Int}(ex:IsEx b p)(f:IB b ds):IB b (ds.map (G7 p)):=by
 intro d m;obtain⟨a,ma,rfl⟩:=Jv.mp m;exact Ab ex (f a ma).1 (f a ma).2
theorem t_{p:List Int}(ex:IsEx b p)(f:IB b ds):IB b (ds.map (ix p)):=by
 intro d m;obtain⟨a,ma,rfl⟩:=Jv.mp m;exact B7 ex (f a ma).1 (f a ma).2
theorem vX{b:Int}(hb:2<=b):∀es:List Int,IB b es->0<=nv b es
 | [],_=>NQ _
 | e::es,f=>by
   have h1:=vX hb es fun x m=>f x (IT _ m);have h2:=(f e IV).1;have:=LY (show 0<=b by omega) h1;rw[nv];omega
theorem zx(hb:2<=b)(es:List Int)(f:IB b es):nv b es<b^es.length:=by
 have:=(nE hb es.reverse fun d m=>f d (MG.mp m)).2
 rwa [iq,MI]at this
theorem xg{p:List Int}{v:Int}(hb:2<=b)(ex:IsEx b p)(hx:Xp b q.num q.den ds)(h:sR b p q=some v):0<=v/\v<b^ds.length:=by
 rw[xf hb ex hx]at h;cases h;have f:=t_ ex hx.1;have:=zx hb _ f;rw[I_]at this;exact⟨vX hb _ f,this⟩
theorem wT(b:Int):Ha b 0=[]:=by unfold Ha;rw[show(0:Int).toNat=0 from rfl,cU];rfl
theorem wS{n:Int}(hb:2<=b)(hn:0<n):Ha b n=(n%b)::Ha b (n / b):=by
 unfold Ha;rw[dH (show 2<=b.toNat by omega) (show 0<n.toNat by omega),Ji];have m1:=rJ (b:=b) (n:=n) (by omega) (by omega);have m2:=wQ (b:=b) (n:=n) (by omega) (by omega);rw[m1,m2,JJ]
def Fx(b:Int)(N:Nat)(q:Rat):Prop:=∃(T:Int)(k:Nat),q=qd T (b^k)/\0<=T/\T<b^k/\b^k<2^N
theorem BI{a d:Int}(hb:0<b)(hd:0<d):qd a b*qd c d=qd (a*c) (b*d):=by
 have h1:=gt hb;have h2:=gt hd;unfold qd;rw[NU,NU]
 grind
theorem Fx.lt(hb:2<=b)(h:Fx b N q):q<1:=by
 obtain⟨T,k,rfl,h0,h1,_⟩:=h;exact yS (KY (by omega)) h1
theorem qi{x:Int}(h0:0<=x)(h:x<2^N):x.natAbs<2^N:=by
 have:((x.natAbs:Nat):Int)<((2^N:Nat):Int):=by rw[Py h0];exact_mod_cast h
 exact_mod_cast this
theorem Fx.sm(hb:2<=b)(h:Fx b N q):Gf N q:=by
 obtain⟨T,k,rfl,h0,h1,h2⟩:=h;have hp:0<b^k:=KY (by omega);exact BH hp (qi h0 (by omega)) (qi (by omega) h2)
theorem Fx.mono{M:Nat}(h:Fx b N q)(hm:N<=M):Fx b M q:=by
 obtain⟨T,k,e,h0,h1,h2⟩:=h;exact⟨T,k,e,h0,h1,Int.lt_of_lt_of_le h2 (gA (by decide) hm)⟩
theorem v8{x y:Int}{M:Nat}(x0:0<=x)(y0:0<y)(hx:x<2^N)(hy:y<2^M):x*y<2^(N+M):=by
 rw[ON];have h1:x*y<2^N*y:=Mu hx y0;have h2:(2:Int)^N*y<=2^N*2^M:=KL (by omega) (PF (by decide));omega
theorem Fx.mul{M:Nat}{r:Rat}(hb:2<=b)(h:Fx b N q)(g:Fx b M r):Fx b (N+M) (q*r):=by
 obtain⟨T,k,rfl,h0,h1,h2⟩:=h;obtain⟨S,m,rfl,g0,g1,g2⟩:=g;have hp:0<b^k:=KY (by omega);have gp:0<b^m:=KY (by omega);refine⟨T*S,k+m,by rw[BI hp gp,ON],LY h0 g0,?_,?_⟩
 · rw[ON];have a1:T*S<=T*b^m:=KL (by omega) h0;have a2:T*b^m<b^k*b^m:=Mu h1 gp;omega
 · rw[ON];exact v8 (by omega) gp h2 g2
theorem Fx.turn{p:List Int}{n:Int}(hb:2<=b)(h16:b<=16)(ex:IsEx b p)(h0:0<=n)(h1:n<=10^9+1):Fx b 40 (Bo b p n):=by
 have f:=Aa ex (pD hb n);obtain⟨t0,t1⟩:=nE hb _ f;refine⟨_,_,(yp hb _).symm,t0,t1,?_⟩;rw[I_];by_cases hn:0<n
 · have h:=sK (b:=b.toNat) (by omega) n.toNat (by omega);unfold Ha;rw[I_];have h':((b.toNat^(digs b.toNat n.toNat).length:Nat):Int)<=((b.toNat*n.toNat:Nat):Int):=by exact_mod_cast h
   rw[K_,NP,KG (by omega),KG (by omega)]at h';have h3:b*n<=16*n:=L5 h16 h0;omega
 · have:n=0:=by omega
   subst this;rw[wT,MT,Pi];decide
theorem Fx.xp(hb:2<=b)(h:Fx b N q):∃ds,Xp b q.num q.den ds/\b^ds.length<2^N:=by
 obtain⟨T,k,rfl,h0,h1,h2⟩:=h;have hp:0<b^k:=KY (by omega);refine⟨_,zg hb h0 h1 (qU hp).symm,?_⟩;rw[MI,dW hb h0 h1];exact h2
theorem Fx.back{p:List Int}(hb:2<=b)(ex:IsEx b p)(h:Fx b N q)(hN:N<=1000):∀v,sR b p q=some v->v.natAbs<2^1000:=by
 intro v e;obtain⟨ds,hx,hl⟩:=h.xp hb;obtain⟨v0,v1⟩:=xg hb ex hx e;exact Jh (qi v0 (Int.lt_trans v1 hl)) (Jz (by decide) hN)
def q9:Rat:=⟨999999999998,999999999999,by decide,by decide⟩
theorem tU{b:Int}(hb:2<=b):∀xs ys:List Int,IB b xs->IB b ys->xs.length=ys.length->nv b xs=nv b ys->xs=ys
 | [],[],_,_,_,_=>rfl
 | [],_::_,_,_,h,_=>by simp at h
 | _::_,[],_,_,h,_=>by simp at h
 | x::xs,y::ys,fx,fy,h,e=>by
   obtain⟨x0,x1⟩:=fx x IV;obtain⟨y0,y1⟩:=fy y IV;rw[nv,nv]at e
   have hxy:x=y:=by
    have h1:(x+b*nv b xs)%b=x:=by rw[LH,Ly x0 x1]
    have h2:(y+b*nv b ys)%b=y:=by rw[LH,Ly y0 y1]
    rw[<- h1,<- h2,e]
   subst hxy;have e2:nv b xs=nv b ys:=Int.eq_of_mul_eq_mul_left (show b≠0 by omega) (by omega);rw[tU hb xs ys (fun z m=>fx z (IT _ m)) (fun z m=>fy z (IT _ m)) (by simpa using h) e2]
theorem nA(hb:2<=b){xs:List Int}(fx:IB b xs)(fy:IB b ys)(h:xs.length=ys.length)(e:tv b xs=tv b ys):xs=ys:=by
 have:=tU hb xs.reverse ys.reverse (fun d m=>fx d (MG.mp m)) (fun d m=>fy d (MG.mp m)) (by simpa using h) (by rw[<- iq,<- iq,Pz,Pz,e]);exact List.reverse_inj.mp this
def E_(b:Int)(p:List Int)(k c:Int):Int:=nv b ((Go b c k.toNat).reverse.map (ix p))
theorem xK{p:List Int}{k:Int}(hb:2<=b)(ex:IsEx b p)(h0:0<=c)(h1:c<b^k.toNat):0<=E_ b p k c/\E_ b p k c<b^k.toNat:=by
 have f:=t_ ex (fun d m=>hJ (c:=c) (k:=k.toNat) hb d (MG.mp m));have:=zx hb _ f;rw[I_,MI,dW hb h0 h1]at this;exact⟨vX hb _ f,this⟩
theorem jD{M s y:Int}(c:Ls M s=1):M*s∣y↔M∣y/\s∣y:=by
 constructor
 · intro h;exact⟨Int.dvd_trans (OB M s) h,Int.dvd_trans (Int.dvd_mul_left M s) h⟩
 · rintro⟨h1,h2⟩;have:=PR.mul_dvd_of_dvd_of_dvd (show PR M.natAbs s.natAbs from c) (Nr.mpr h1) (Nr.mpr h2);exact Nr.mp (by rwa [Int.natAbs_mul])
theorem sG{n s w:Int}(w0:0<=w)(w1:w<s):s∣n-w↔n%s=w:=by
 rw[Int.dvd_iff_emod_eq_zero,<- Int.emod_eq_emod_iff_emod_sub_eq_zero,Ly w0 w1]
theorem sM{M s r w h:Int}(hM:0<M)(hs:0<s)(c:Ls M s=1)(r0:0<=r)(r1:r<M)(w0:0<=w)(w1:w<s)(hh:s∣M*h-1) :
 0<=r+M*((w-r)*h%s)/\r+M*((w-r)*h%s)<M*s/\∀n,M*s∣n-(r+M*((w-r)*h%s))↔M∣n-r/\n%s=w:=by
 have x0:0<=(w-r)*h%s:=NV _ (by omega);have x1:(w-r)*h%s<s:=M4 _ hs;have dx:s∣(w-r)*h-(w-r)*h%s:=Int.dvd_self_sub_emod;generalize (w-r)*h%s=x at *;have m0:0<=M*x:=LY (by omega) x0;have m1:M*x<=M*(s-1):=KL (by omega) (by omega);have m2:M*(s-1)=M*s-M:=by rw[Int.mul_sub,NK]
 have dw:s∣r+M*x-w:=by
  obtain⟨u,hu⟩:=dx;obtain⟨v,hv⟩:=hh;refine⟨(w-r)*v-M*u,?_⟩;have hx:x=(w-r)*h-s*u:=by omega
  have hMh:M*h=1+s*v:=by omega
  have:M*x=(w-r)*(M*h)-M*s*u:=by rw[hx];grind
  rw[hMh]at this;rw[this];grind
 refine⟨by omega,by omega,fun n=>?_⟩;rw[jD c,<- sG w0 w1];constructor
 · rintro⟨a1,a2⟩;refine⟨?_,?_⟩
   · have:=Int.dvd_add a1 (OB M x)
     rwa [show n-(r+M*x)+M*x=n-r by omega]at this
   · have:=Int.dvd_add a2 dw
     rwa [show n-(r+M*x)+(r+M*x-w)=n-w by omega]at this
 · rintro⟨a1,a2⟩;refine⟨?_,?_⟩
   · have:=Int.dvd_sub a1 (OB M x)
     rwa [show n-r-M*x=n-(r+M*x) by omega]at this
   · have:=Int.dvd_sub a2 dw
     rwa [show n-w-(r+M*x-w)=n-(r+M*x) by omega]at this
structure Iv (a m f h r d:Int):Prop where
 r0:0<r
 d0:0<d
 c:Ls r d=1
 hh:m∣a*h-r
 hf:m∣a*f-d
 sg:(0<=h/\f<=0/\h*d-f*r=m)\/(h<=0/\0<=f/\f*r-h*d=m)
theorem Iv.start{a m:Int}(ha:0<a)(hm:0<m)(c:Ls a m=1):Iv a m 0 1 a m:=⟨ha,hm,c,by simp,by simp,.inl ⟨by decide,by decide,by omega⟩⟩
theorem Iv.step{a m f h r d:Int}(i:Iv a m f h r d)(r1:1<r):Iv a m h (f-d / r*h) (d-d / r*r) r/\(d-d / r*r).toNat<r.toNat:=by
 obtain⟨r0,d0,c,hh,hf,sg⟩:=i;have e:d-d / r*r=d%r:=by rw[Int.emod_def,Oe]
 have m0:=NV d (show r≠0 by omega);have m1:=M4 d r0;have q0:0<=d / r:=Pj (by omega) (by omega)
 have c':Ls (d%r) r=1:=by
  rw[N9,<- MA d (show 0<=r by omega),se,N9];exact c
 have nz:d%r≠0:=fun z=>by
  rw[z,Int.gcd_zero_left]at c';omega
 rw[e];have ed:d=d%r+d / r*r:=by omega
 refine⟨⟨by omega,r0,c',?_,hh,?_⟩,by omega⟩
 · obtain⟨u,hu⟩:=hh;obtain⟨v,hv⟩:=hf;refine⟨v-d / r*u,?_⟩;rw[<- e];generalize d / r=q at *
   grind
 · rw[<- e];generalize d / r=q at *;rcases sg with⟨a1,a2,a3⟩|⟨a1,a2,a3⟩
   · right
     have:=LY q0 a1;exact⟨by omega,a1,by grind⟩
   · left
     have:=LY q0 (show 0 <= -h by omega);rw[Qx]at this;exact⟨by omega,a1,by grind⟩
abbrev Pc:=(Int×List Int)×(Int×Int)
def FQ(z:Pc):Int:=z.1.1^z.2.1.toNat
def wz(z:Pc):Int:=E_ z.1.1 z.1.2 z.2.1 z.2.2
def y8(zs:List Pc):Int:=zs.foldl (fun t z=>t*FQ z) 1
structure PcOk (z:Pc):Prop where
 b2:2<=z.1.1
 b16:z.1.1<=16
 ex:IsEx z.1.1 z.1.2
 k0:0<=z.2.1
 k8:z.2.1<=8
 c0:0<=z.2.2
 c1:z.2.2<z.1.1^z.2.1.toNat
theorem PcOk.st{z:Pc}(h:PcOk z):0<FQ z/\FQ z<=2^32:=by
 refine⟨KY (by have:=h.b2;omega),?_⟩;have h1:FQ z<=16^z.2.1.toNat:=kM (by have:=h.b2;omega) h.b16 _;have h2:(16:Int)^z.2.1.toNat<=16^8:=gA (by decide) (by have:=h.k8;omega);have h3:(16:Int)^8=2^32:=by decide
 omega
theorem PcOk.w{z:Pc}(h:PcOk z):0<=wz z/\wz z<FQ z:=xK h.b2 h.ex h.c0 h.c1
structure Ixs (zs:List Pc) (r M:Int):Prop where
 r0:0<=r
 r1:r<M
 M1:M=y8 zs
 Mb:M<=2^(32*zs.length)
 iff:∀n,M∣n-r↔∀z∈zs,n%FQ z=wz z
theorem Ixs.nil:Ixs [] 0 1:=⟨by decide,by decide,rfl,by decide,fun n=>by simp⟩
theorem pq{a:Int}(h:Ls a b=1)(k:Nat):Ls a (b^k)=1:=by
 have:PR a.natAbs (b.natAbs^k):=PR.pow_right k h;rw[Ls,PJ];exact this
theorem Ixs.step{zs:List Pc}{r M h:Int}{z:Pc}(i:Ixs zs r M)(ok:PcOk z)(c:Ls M (FQ z)=1)(hh:FQ z∣M*h-1):Ixs (zs++[z]) (r+M*((wz z-r)*h%FQ z)) (M*FQ z):=by
 obtain⟨s0,s1⟩:=ok.st;obtain⟨w0,w1⟩:=ok.w;have M0:0<M:=by have:=i.r0;have:=i.r1;omega
 obtain⟨a0,a1,a2⟩:=sM M0 s0 c i.r0 i.r1 w0 w1 hh;refine⟨a0,a1,by rw[i.M1];simp[y8],?_,fun n=>?_⟩
 · rw[JH,O7,Nat.mul_add,ON];exact Int.mul_le_mul i.Mb s1 (by omega) (PF (by decide))
 · rw[a2 n,i.iff n];simp only[J3,La];constructor
   · rintro⟨p,q⟩ y (hy|rfl)
     · exact p y hy
     · exact q
   · intro p;exact⟨fun y hy=>p y (.inl hy),p z (.inr rfl)⟩
theorem Ixs.uniq{zs:List Pc}{r M r' M':Int}(i:Ixs zs r M)(j:Ixs zs r' M'):r=r'/\M=M':=by
 have e:M=M':=by rw[i.M1,j.M1]
 subst e;refine⟨?_,rfl⟩;have h:M∣r'-r:=(i.iff r').mpr ((j.iff r').mp (by simp));obtain⟨u,hu⟩:=h;have:=i.r0;have:=i.r1;have:=j.r0;have:=j.r1
 have:u=0:=by
  rcases Int.lt_trichotomy u 0 with z|z|z
  · have:M*u<=M*(-1):=KL (by omega) (by omega);omega
  · exact z
  · have:M*1<=M*u:=KL (by omega) (by omega);omega
 subst this;omega
def AA(rows:List (Int×List Int))(sm:List (Int×Int)):Prop:=IsRow rows/\sm.length=rows.length/\∀z∈rows.zip sm,PcOk z
theorem AA.len{rows:List (Int×List Int)}{sm:List (Int×Int)}(h:AA rows sm):(rows.zip sm).length=rows.length:=by rw[NW,h.2.1,Nat.min_self]
theorem AA.co{rows:List (Int×List Int)}{sm:List (Int×Int)}(h:AA rows sm){i:Nat}(hi:i<(rows.zip sm).length):∀z∈(rows.zip sm).take i,Ls (FQ z) (FQ (rows.zip sm)[i])=1:=by
 intro z mz;obtain⟨j,hj,e⟩:=List.mem_iff_getElem.mp mz;rw[JB]at hj;rw[List.getElem_take]at e;have lr:=h.len;have p:=List.pairwise_iff_getElem.mp h.1.co j i (by omega) (by omega) (by omega);subst e;unfold FQ;rw[OS,OS];have:=pq p (sm[i]'(by have:=h.2.1;omega)).1.toNat;rw[N9]at this;have:=pq this (sm[j]'(by have:=h.2.1;omega)).1.toNat;rw[N9];exact this
noncomputable def tf(p:Prop):Bool:=@decide p (J_ p)
noncomputable def B8(b:Int)(d:IQ):Bool:=tf (∃p,d=G8 p/\IsEx b p)
noncomputable def Az(bs:List Int):Bool:=tf (bs.Pairwise fun x y=>Ls x y=1)
theorem lF:∀{xs:List IQ}{x:IQ},x∈xs->x.bulk<=Lk xs
 | y::ys,x,h=>by
   simp only[Lk];rcases JA.mp h with rfl|h
   · omega
   · have:=lF h;omega
theorem iY:∀{xs:List IQ}{x:IQ},x∈xs->x.depth<=J4 xs
 | y::ys,x,h=>by
   simp only[J4];rcases JA.mp h with rfl|h
   · omega
   · have:=iY h;omega
theorem kU:∀{xs:List IQ}{x:IQ},d8 xs->x∈xs->xu x
 | y::ys,x,h,hx=>by
   rcases JA.mp hx with rfl|hx
   · exact h.1
   · exact kU h.2 hx
theorem HN.mem{x:IQ}(h:HN (.tuple xs))(hx:x∈xs):HN x:=by
 obtain⟨a,b,c⟩:=h;have h1:=lF hx;have h2:=iY hx;simp only[Kt]at b;simp only[Ms]at c;exact⟨kU a hx,by omega,by omega⟩
theorem Sm.i{i:Int}(h:i.natAbs<2^1000):Sm 0 3 (.int i):=(Sm.int h).mono (by decide) (by decide)
theorem Sm.i2{i:Int}(h:i.natAbs<2^1000):Sm 2 68 (.int i):=(Sm.int h).mono (by decide) (by decide)
theorem u8{p:List Int}(h:∀x∈p,0<=x/\x<100):∀d∈p.map Jt,Sm 0 3 d:=fun d hd=>by
 obtain⟨i,hi,rfl⟩:=Jv.mp hd;have:=h i hi;exact .i (Jh (show i.natAbs<2^7 by omega) (Jz (by decide) (by decide)))
theorem IsEx.sm{p:List Int}(h:IsEx b p)(hb:b<=16):∀d∈p.map Jt,Sm 0 3 d:=u8 fun x hx=>by have:=h.rng x hx;omega
theorem pJ(xs:List IQ)(l u:Option Int):(cutD xs l u).length<=xs.length:=by
 unfold cutD;rw[JB,KJ];omega
theorem GlK.int{K:W.Frag}{x:Str}{a:Int}{t:Tok}(h1:W.nsIn K Ke x=some (some (.int a t))):GlK K x (.int a):=⟨.int a,.int a t,h1,⟨t,rfl⟩,fun F=>.int a⟩
def Ct:List W->(IQ->Prop)->Prop:=fun ws Q=>∃b d,ws=[.d (.int b),.d d]/\2<=b/\b<=16/\HN d/\Q (.bool (B8 b d))
theorem Ct.mono:∀ws (Q Q':IQ->Prop),(∀d,Q d->Q' d)->Ct ws Q->Ct ws Q':=fun _ _ _ h ⟨b,d,e,x,y,z,q⟩=>⟨b,d,e,x,y,z,h _ q⟩
theorem Ct.len:∀ws (Q:IQ->Prop),Ct ws Q->ws.length=2:=fun _ _ ⟨_,_,e,_⟩=>by subst e;rfl
def Hu:List W->(IQ->Prop)->Prop:=fun ws Q=>∃bs:List Int,ws=[.d (.list (bs.map .int))]/\bs.length<=4/\(∀b∈bs,2<=b/\b<=16)/\Q (.bool (Az bs))
theorem Hu.mono:∀ws (Q Q':IQ->Prop),(∀d,Q d->Q' d)->Hu ws Q->Hu ws Q':=fun _ _ _ h ⟨b,e,x,y,q⟩=>⟨b,e,x,y,h _ q⟩
theorem Hu.len:∀ws (Q:IQ->Prop),Hu ws Q->ws.length=1:=fun _ _ ⟨_,e,_⟩=>by subst e;rfl
def Hi:List W->(IQ->Prop)->Prop:=fun ws Q=>∃b p,ws=[.reel,.d (.tuple [.int b,G8 p])]/\2<=b/\b<=16/\IsEx b p/\∀d,Sm 4 276 d->Q d
theorem Hi.mono:∀ws (Q Q':IQ->Prop),(∀d,Q d->Q' d)->Hi ws Q->Hi ws Q':=fun _ _ _ h ⟨b,p,e,x,y,z,q⟩=>⟨b,p,e,x,y,z,fun d hd=>h _ (q d hd)⟩
theorem Hi.len:∀ws (Q:IQ->Prop),Hi ws Q->ws.length=2:=fun _ _ ⟨_,_,e,_⟩=>by subst e;rfl
def Hl:List W->(IQ->Prop)->Prop:=fun ws Q=>∃rows,ws=[.reel,.d (AQ rows)]/\IsRow rows/\∀d,Sm 8 2600 d->Q d
theorem Hl.mono:∀ws (Q Q':IQ->Prop),(∀d,Q d->Q' d)->Hl ws Q->Hl ws Q':=fun _ _ _ h ⟨p,e,x,q⟩=>⟨p,e,x,fun d hd=>h _ (q d hd)⟩
theorem Hl.len:∀ws (Q:IQ->Prop),Hl ws Q->ws.length=2:=fun _ _ ⟨_,e,_⟩=>by subst e;rfl
def Tm(n:Nat)(d:IQ):Prop:=d.canLay0=true/\d.depth<=n
theorem nL{n:Nat}:∀{xs:List IQ},(∀x∈xs,Tm n x)->JZ xs=true/\J4 xs<=n
 | [],_=>⟨rfl,by simp[J4]⟩
 | x::xs,h=>by
   obtain⟨a,b⟩:=nL fun y m=>h y (IT x m);obtain⟨c,d⟩:=h x IV;simp[JZ,J4,a,c];omega
theorem Tm.tup{n:Nat}{xs:List IQ}(h:∀x∈xs,Tm n x):Tm (n+1) (.tuple xs):=by
 obtain⟨a,b⟩:=nL h;exact⟨by simp[KM,a],by simp[Kt];omega⟩
theorem Tm.lst{n:Nat}{xs:List IQ}(h:∀x∈xs,Tm n x):Tm (n+1) (.list xs):=by
 obtain⟨a,b⟩:=nL h;exact⟨by simp[KM,a],by simp[Kt];omega⟩
theorem Tm.int(i:Int):Tm n (.int i):=⟨by simp[KM],by simp[Kt]⟩
theorem Tm.bool(i:Bool):Tm n (.bool i):=⟨by simp[KM],by simp[Kt]⟩
theorem Tm.none:Tm n .none:=⟨by simp[KM],by simp[Kt]⟩
theorem Tm.mono(h:Tm n d)(hm:n<=m):Tm m d:=⟨h.1,JF h.2 hm⟩
theorem Tm.shaped(h:Tm n d)(hn:n<=50):JT d=true:=by
 obtain⟨a,b⟩:=h;simp[JT,a];omega
end L2.VL
namespace L2
theorem mF{prog:Ju}{w:Kh}{R:Qt->Ja->Prop}{kx vx target:Expr}{it:I0}{D:Addr}{env:Env}(I:Nat->Ja->Prop)
 (turn:∀n s,I n s->Jr (JE prog w) A (NJ it) (fun r s₁=>(r=none/\R (.ok .next) s₁)\/∃v,r=some v /\
  Jr (JE prog w) A (Ll target it v) (fun _ s₂=>Jr (JE prog w) A (L0 target env v) (fun _ s₃=>Jr (JE prog w) A (dj ifs env) (fun ok s₄ =>
   if ok=true then Jr (JE prog w) A (eval kx env) (fun x s₅=>Jr (JE prog w) A (eval vx env) (fun y s₆=>Jr (JE prog w) A (dictSet D x y) (fun _ s₇=>∃m,m<n/\I m s₇) (fun _ _=>False) s₆) (fun _ _=>False) s₅) (fun _ _=>False) s₄
   else ∃m,m<n/\I m s₄) (fun _ _=>False) s₃) (fun _ _=>False) s₂) (fun _ _=>False) s₁) (fun _ _=>False) s)
 (n:Nat)(h:I n s):LF (JE prog w) A (.compLoop (.DictComp kx vx [⟨target,iter,ifs,0⟩] scope pos) 0 it (.ref D) env) R s:=by
 refine Pa rfl I (fun n s hI=>?_) n h;show Jr _ A ((P4 (.DictComp kx vx [⟨target,iter,ifs,0⟩] scope pos) 0 it (.ref D) env).onRaise (fun x=>do P5 x env;NM x)) _ _ s;refine PQ ?_;rw[compTurn_dict];refine IR (K7 (IR (JO (turn n s hI) (fun r s₁ h₁=>?_) fun _ _ h'=>h'.elim)));rcases h₁ with⟨rfl,h₁⟩|⟨v,rfl,h₁⟩
 · exact IZ h₁
 · refine IR (JO h₁ (fun _ s₂ h₂=>IR (JO h₂ (fun _ s₃ h₃=>IR (JO h₃ (fun ok s₄ h₄=>?_) fun _ _ z=>z.elim)) fun _ _ z=>z.elim)) fun _ _ z=>z.elim)
   cases ok with
   | false=>exact IZ ⟨rfl,h₄⟩
   | true=>exact IR (IR (JO h₄ (fun x s₅ h₅=>IR (Lr (JO h₅ (fun y s₆ h₆=>IR (K7 (Lr (JO h₆ (fun _ s₇ h₇=>IZ ⟨rfl,h₇⟩) fun _ _ z=>z.elim)))) fun _ _ z=>z.elim))) fun _ _ z=>z.elim))
def nP(wi:TI)(fr:List (Option Nat))(g:CompA->TG)(tt:CompA->TT)(tk te:CompA->TE):TE:=fun σ H Q=>wi σ H fun J H1=>∀D,H1 D=none->∃Wv:Nat->Nat->List (Ih×V)->St->Hp->Prop,(∃m,Wv 0 m [] (jO fr σ) (upd H1 D (.dK []))) /\
 ∀ (z:CompA) i m acc σc H,Wv i m acc σc H->(J.stop i H/\Q (.ref D) H)\/(J.go i H/\∀x H',J.yld i H x H'->g z x σc H' fun σ2 H2=>tt z σ2 H2 fun b H3 =>
   if b=true then tk z σ2 H3 fun ky H4=>te z σ2 H4 fun y H5=>∃k:Ih,ky=kV k/\H5 D=some (.dK acc)/\acc.length<sizeLine/\∃m',m'<m/\Wv (i+1) m' (cT acc k y) σ2 (upd H5 D (.dK (cT acc k y)))else ∃m',m'<m/\Wv (i+1) m' acc σ2 H3)
theorem fQ{kx vx:Expr}{g:TG}{tt:TT}{tk te:TE}{H3:Hp}{s3:Ja}{D:Addr}{J:It}{Q:VK}
 {cl:List (Str×Addr)}(N':List Str)(fr:List (Option Nat))(hc:X.calm=true)(hkind:scope.kind = .function)(hcell:∀y∈scope.names,y.2 = .cell->scope.names.lookup y.1=some .cell)
 (hfree:∀y∈scope.names,y.2 = .free->X.env.kindOf y.1=some .cell\/X.env.kindOf y.1=some .free)(frl:fr.length=N'.length)
 (frg:∀(i j:Nat),fr[i]?=some (some j)->∃x,N'[i]?=some x/\X.N[j]?=some x/\scope.names.lookup x=some .free/\(X.env.scope.names.lookup x=some .cell\/X.env.scope.names.lookup x=some .free))
 (cl1:∀x c,cl.lookup x=some c->X.env.cells.lookup x=some c)(cl2:∀x,(x,Ks)∈scope.names->(cl.lookup x).isSome=true)
 (I3:Inv X pins σ H3 s3)(T:Turn X.prog X.w X.K tg J fp it tn)(tn3:tn 0 s3.heap)(fpD:∀b∈fp,H3 b=none)(fp3:∀b∈fp,b<s3.heap.objs.size)
 (fpk:∀b∈fp,b≠X.env.locals/\b∉X.fs/\(b∈X.ex\/X.s₀.heap.objs.size<=b)/\(∀x c,X.env.cells.lookup x=some c->c≠b)/\∀p∈X.pn++pins,p.1≠b)
 (hg:PG (aR X N' scope cl fp (X.pn++pins) s3 H3) tg g)(ht:HS (aR X N' scope cl fp (X.pn++pins) s3 H3) ifs tt)(hk:PE (aR X N' scope cl fp (X.pn++pins) s3 H3) kx tk)(he:PE (aR X N' scope cl fp (X.pn++pins) s3 H3) vx te)
 {Wv:Nat->Nat->List (Ih×V)->St->Hp->Prop}{m0:Nat}(w0:Wv 0 m0 [] (jO fr σ) H3)
 (turn:∀i m acc σc H,Wv i m acc σc H->(J.stop i H/\Q (.ref D) H)\/(J.go i H/\∀x H',J.yld i H x H'->g x σc H' fun σ2 H2=>tt σ2 H2 fun b H3 =>
  if b=true then tk σ2 H3 fun ky H4=>te σ2 H4 fun y H5=>∃k:Ih,ky=kV k/\H5 D=some (.dK acc)/\acc.length<sizeLine/\∃m',m'<m/\Wv (i+1) m' (cT acc k y) σ2 (upd H5 D (.dK (cT acc k y)))else ∃m',m'<m/\Wv (i+1) m' acc σ2 H3))
 (fin:∀s5 H4 m,s5.heap.Ns s3.heap.objs.size m->(∀h',Lu s3.heap.objs.size s5.heap h'->Inv X pins σ H4 {s5 with heap:=h' })->jf X pins H4 s3.heap.objs.size->Q (.ref D) H4->Rp s3.heap.objs.size (.ok .next) s5) :
 Jr (JE X.prog X.w) X.A (No scope X.env.globals cl [] X.env.qual none .none (some X.env)) (fun cenv s₄ =>
  LF (JE X.prog X.w) X.A (.compStart (.DictComp kx vx [⟨tg,iter,ifs,0⟩] scope pos) 0 (.ref it) (.ref D) {cenv with scope:=QH scope X.env})
   (Rp cenv.locals) s₄) X.xe s3:=by
 refine fF ?_;have ok:=cellsFrom_ok scope.names (s3.heap.push {cls:=.type "dict", data:=.dict #[]}) (s3.heap.objs.size+1) [] ⟨fun _ _ hm=>(nomatch hm),Ow⟩ (by rw[KC];exact Jb _);rw[KC]at ok;have kp:∀b o,s3.heap.get? b=some o->(Oz (s3.heap.push {cls:=.type "dict", data:=.dict #[]}) scope.names).get? b=some o:=fun b o e=>NN _ _ b o (IW _ e);have hns₁:(Oz (s3.heap.push {cls:=.type "dict", data:=.dict #[]}) scope.names).Ns s3.heap.objs.size (fun _=>none):=(Heap.Ns.new s3.heap (.type "dict")).keeps (NN _ _);generalize Oz (s3.heap.push {cls:=.type "dict", data:=.dict #[]}) scope.names=h₁ at ok kp hns₁ ⊢
 have cs:∀x c,(Kw (s3.heap.objs.size+1) scope.names cl).lookup x=some c->(Kw (s3.heap.objs.size+1) scope.names []).lookup x=some c\/cl.lookup x=some c:=fun x c e=>by
  rw[aG,bX]at e
  cases q:(Kw (s3.heap.objs.size+1) scope.names []).lookup x with
  | none=>rw[q]at e;exact .inr (by simpa using e)
  | some c'=>rw[q]at e;exact .inl (by simpa using e)
 have own:∀x c,(Kw (s3.heap.objs.size+1) scope.names []).lookup x=some c->h₁.IsCell c none/\s3.heap.objs.size+1<=c:=fun x c e=>ok.empty x c (J6 e)
 have clt:∀x c,cl.lookup x=some c->c<s3.heap.objs.size:=fun x c e=>by
  obtain⟨v,o,ho,_⟩:=I3.cell x c (cl1 x c e);exact Jg ho
 have frn:∀x,scope.names.lookup x=some .free->(Kw (s3.heap.objs.size+1) scope.names []).lookup x=none:=fun x e=>by
  cases q:(Kw (s3.heap.objs.size+1) scope.names []).lookup x with
  | none=>rfl
  | some c =>
    have:=hcell (x,.cell) (bV (J6 q)) rfl;rw[e]at this;cases this
 have notC:∀b o,s3.heap.get? b=some o->b≠s3.heap.objs.size:=fun b o e=>JS (Jg e);have fpstk:∀b∈fp,b∉frs X.stack:=fun b hb z=>(JA.mp (I3.stkSub b z)).elim (fpk b hb).1 (fpk b hb).2.1;have cellK:∀c v,s3.heap.IsCell c v->h₁.IsCell c v:=fun c v ⟨o,ho,hd⟩=>⟨o,kp c o ho,hd⟩
 have IY:Inv (aR X N' scope cl fp (X.pn++pins) s3 H3) [] (jO fr σ) H3 {s3 with heap:=h₁}:=by
  refine⟨⟨I3.ok.mod,hkind,I3.ok.glob,I3.ok.blt,Jb _,fun x y c e1 e2=>?_,fun x hx=>?_,fun x c _ e=>?_,I3.ok.hd,I3.ok.frames,.inl rfl,
   fun b hb=>⟨JS (fp3 b hb),fun x c e=>?_⟩,I3.bs,JF I3.ok.bsz I3.sz,fun b o e hb=>?_,fun b hb=>fpstk b hb,I3.stack,I3.stkFree⟩,
   rfl,I3.bare,Un.kept kp,⟨_,hns₁,fun i x v e1 e2 e3=>?_⟩,fun x c e=>?_,I3.hok.fresh (Jb _),fun x c e=>?_,fun p hp=>?_,I3.hok.kept kp,?_⟩
  · rcases cs x c e1 with q1|q1<;>rcases cs y c e2 with q2|q2
    · exact Qc ok.apart (J6 q1) (J6 q2)
    · exact absurd (Jh (clt y c q2) (KU (own x c q1).2)) (Ki _)
    · exact absurd (Jh (clt x c q1) (KU (own y c q2).2)) (Ki _)
    · exact I3.ok.inj x y c (cl1 x c q1) (cl1 y c q2)
  · refine KP.mp ?_;show((Kw (s3.heap.objs.size+1) scope.names cl).lookup x).isSome=true;rcases eA hx with q|q
    · exact W.cellsFrom_some _ _ _ (.inr (cl2 x q))
    · exact W.cellsFrom_some _ _ _ (.inl (hcell _ q rfl))
  · rename_i hfn;rcases cs x c e with q|q
    · have:=(own x c q).2;show s3.heap.objs.size<=c;omega
    · have hfn:(scope.names.lookup x==some Lj)=true:=hfn;have hl:scope.names.lookup x=some .cell:=by simpa using hfn
      obtain⟨c',ec'⟩:=KP.mp (W.cellsFrom_some scope.names (s3.heap.objs.size+1) [] (.inl hl));have e':(Kw (s3.heap.objs.size+1) scope.names cl).lookup x=some c:=e;rw[aG,bX,ec']at e';simp at e';subst e';exact KU (own x c' ec').2
  · rcases cs x c e with q|q
    · exact fun z=>absurd (Jh (fp3 b hb) (KU (by rw[<- z];exact(own x c q).2))) (Ki _)
    · exact(fpk b hb).2.2.2.1 x c (cl1 x c q)
  · rcases(fpk b hb).2.2.1 with z|z
    · exact I3.ok.noex b o e z
    · exact absurd (Jh (Jg e) (JF I3.ok.bsz z)) (Ki _)
  · have e2':(fr[i]?).map (fun o=>o.bind fun j=>(σ[j]?).join)=some (some v):=by unfold jO at e2;rw[JY]at e2;exact e2
    cases ef:fr[i]? with
    | none=>rw[ef]at e2';cases e2'
    | some o =>
      cases o with
      | none=>rw[ef]at e2';cases e2'
      | some j =>
        rw[ef]at e2';have e3':(σ[j]?).join=some v:=JK e2'
        have e4:σ[j]?=some (some v):=by
         cases q:σ[j]? with
         | none=>rw[q]at e3';cases e3'
         | some z=>rw[q]at e3';cases e3';rfl
        obtain⟨x',n1,n2,n3,n4⟩:=frg i j ef;have ex:x'=x:=JK (n1.symm.trans e1);subst ex;obtain⟨m,hn,hl⟩:=I3.loc;obtain⟨u,ru,lk⟩:=hl j x' v n2 e4 (n4.elim (fun z=>.inr (.inl z)) fun z=>.inr (.inr z));refine⟨u,ru,?_⟩;rcases lk with⟨kl,_⟩|⟨_,c,ec,hcl⟩
        · exact absurd (show X.env.scope.names.lookup x'=some .local from kl) (by rcases n4 with z|z<;>rw[z]<;>decide)
        · obtain⟨c',ec'⟩:=KP.mp (cl2 x' (gE n3));have:=cl1 x' c' ec';rw[ec]at this;cases this;refine .inr ⟨cS n3,c,?_,cellK _ _ hcl⟩;show(Kw (s3.heap.objs.size+1) scope.names cl).lookup x'=some c;rw[aG,bX,frn x' n3];simpa using ec'
  · rcases cs x c e with q|q
    · exact⟨_,(own x c q).1⟩
    · obtain⟨v,z⟩:=I3.cell x c (cl1 x c q);exact⟨v,cellK _ _ z⟩
  · rcases cs x c e with q|q
    · exact I3.hok.fresh (by have:=(own x c q).2;omega)
    · exact I3.freeC x c (cl1 x c q)
  · rw[Kl]at hp;obtain⟨e,n,ne,nf,d⟩:=I3.pin p hp;exact⟨kp _ _ e,n,notC _ _ e,fun z=>(JA.mp (I3.stkSub p.1 z)).elim ne nf,d⟩
  · unfold jO;rw[I_];exact frl
 have loop:LF (JE X.prog X.w) X.A (.compLoop (.DictComp kx vx [⟨tg,iter,ifs,0⟩] scope pos) 0 (.ref it) (.ref D) {compEnvC scope cl s3.heap.objs.size X.env with cells:=Kw (s3.heap.objs.size+1) scope.names cl})
  (Rp s3.heap.objs.size) {s3 with heap:=h₁}:=by
  have stat:∀{H':Hp},(∀b∈fp,H' b=none)->∀b∈fp,jf (aR X N' scope cl fp (X.pn++pins) s3 H3) [] H' b:=fun hn b hb =>
   ⟨hn b hb,JS (fp3 b hb),fpstk b hb,.inl hb,fun x c e=>(by
    rcases cs x c e with q|q
    · exact fun z=>absurd (Jh (fp3 b hb) (KU (by rw[<- z];exact(own x c q).2))) (Ki _)
    · exact(fpk b hb).2.2.2.1 x c (cl1 x c q)),fun p hp=>by rw[Kl]at hp;exact(fpk b hb).2.2.2.2 p hp⟩
  refine mF (fun n s'=>∃i acc σ' H',Inv (aR X N' scope cl fp (X.pn++pins) s3 H3) [] σ' H' s'/\tn i s'.heap/\(∀b∈fp,H' b=none)/\Wv i n acc σ' H') ?_ m0
   ⟨0,[],_,_,IY,T.keep _ _ _ tn3 fun b _ o e=>kp b o e,fpD,w0⟩
  rintro n s4 ⟨i,acc,σ4,H4,I4,st4,fr4,w4⟩;rcases turn i n acc σ4 H4 w4 with⟨stop,qn⟩|⟨go,step⟩
  · refine FB (T.done (aR X N' scope cl fp (X.pn++pins) s3 H3) rfl rfl rfl hc i [] s4 σ4 H4 (fun _ _=>False) I4 (stat fr4) st4 stop) fun r s5 ⟨hr,I5⟩=>.inl ⟨hr,?_⟩;obtain⟨m,hn,_⟩:=I5.loc;refine fin s5 H4 m hn (fun h' hs'=>?_) (I3.fpOk (Jb _) I5.free) qn;have k':∀b o,b≠s3.heap.objs.size->s5.heap.get? b=some o->h'.get? b=some o:=fun b o nb e=>hs'.extBut b o nb e;have u5:Un (frs X.stack) fp H3 H4 s3.heap s5.heap:=I5.base
    have un:Un (frs X.stack) fp H3 H4 s3.heap h' :=
     ⟨fun b o e n hb hx=>k' b o (notC b o e) (u5.keep b o e n hb hx),fun b o e n hb hx=>by obtain⟨sl,q⟩:=u5.slot b o e n hb hx;exact⟨sl,k' b _ (notC b o e) q⟩,u5.free,
      fun b o e hx=>by obtain⟨o',q⟩:=u5.there b o e hx;exact⟨o',k' b _ (notC b o e) q⟩,u5.tups,u5.frzs,u5.tbls⟩
    have nC:H4 s3.heap.objs.size=none:=I5.free
    have hok':IA X.prog X.w H4 h':=fun b u e=>(I5.hok b u e).stay (fun c v hcv q=>k' c v (by
     rintro rfl;rcases hcv with z|z
     · rw[<- z]at e;rw[nC]at e;cases e
     · rw[nC]at z;cases z) q) (fun _ q=>q) fun _ _ q=>q
    obtain⟨hh,g5,d5,t5,os5⟩:=s5;have os':os5=s3.os:=I5.os;subst os';have I':=Inv.call (s:=s3) (h':=h') (g':=g5) (d':=d5) (t':=t5) (ch:=fp) I3 un hok' I5.bare (fun b hb=>⟨(fpk b hb).2.2.1,(fpk b hb).1,(fpk b hb).2.2.2.1,(fpk b hb).2.2.2.2⟩);exact I'
  · refine FB (T.item (aR X N' scope cl fp (X.pn++pins) s3 H3) rfl rfl rfl hc i [] s4 σ4 H4 (fun _ _=>False) I4 (stat fr4) st4 go) fun r s5 ⟨u,hr,h5⟩=>.inr ⟨u,hr,?_⟩;refine FB h5 fun _ s6 ⟨x,H6,I6,r6,y6,st6,fr6⟩=>?_;have I6':=I6.pinned (stat fr6) (T.obj _ _ st6)
    have OW:∀{σ7:St}{H7:Hp}{s7:Ja},Inv (aR X N' scope cl fp (X.pn++pins) s3 H3) ([]++eB fp s6.heap) σ7 H7 s7->∀{acc':List (Ih×V)}{m':Nat},m'<n->Wv (i+1) m' acc' σ7 H7 ->
     ∃m,m<n/\∃i acc σ' H',Inv (aR X N' scope cl fp (X.pn++pins) s3 H3) [] σ' H' s7/\tn i s7.heap/\(∀b∈fp,H' b=none)/\Wv i m acc σ' H':=fun{σ7 H7 s7} I7 {acc' m'} hm w7=>by
     refine⟨m',hm,i+1,acc',σ7,H7,I7.unpinned,T.keep _ _ _ st6 fun b hb o e=>(I7.pin (b,o) (Jq _ (Jq _ (bq hb e)))).1,fun b hb=>?_,w7⟩;obtain⟨o,e,d⟩:=T.obj _ _ st6 b hb;exact(I7.pin (b,o) (Jq _ (Jq _ (bq hb e)))).2.1
    refine FB (hg _ s6 σ4 H6 x u _ I6' r6 (step x H6 y6)) fun _ s7 ⟨σ7,H7,I7,q7⟩=>?_;refine FB (ht _ s7 σ7 H7 _ I7 q7) fun ok s8 ⟨H8,I8,q8⟩=>?_
    cases ok with
    | false =>
      rw[if_neg J5]at q8 ⊢;obtain⟨m',hm,w8⟩:=q8
      exact OW I8 hm w8
    | true =>
      rw[if_pos rfl]at q8 ⊢;refine FB (hk _ s8 σ7 H8 _ I8 q8) fun ku s9 ⟨ky,H9,I9,rk,q9⟩=>?_;refine FB (he _ s9 σ7 H9 _ I9 q9) fun y s10 ⟨yv,H10,I10,r10,k,ek,eD,hl,m',hm,w10⟩=>?_;subst ek;obtain⟨z,hd,vs,rel,dd⟩:=wP I10.hok eD;have hz:vs.length<=sizeLine:=by rw[<- rel.length];exact z
      have hl2:(cT acc k yv).length<=sizeLine:=by have:=cG acc k yv;omega
      refine wpAny_dictSet_pairs (hsz:=hz) (mi rk) dd fun h' dd' hs=>?_;have hex:∃q,h'.get? D=some q:=let ⟨q,_,_,hq,_⟩:=dd';⟨q,hq⟩
      exact OW (dY I10 (by rw[eD];exact NE) hs hex (dk_new hl2 hd (rel.put k r10) dd')) hm w10
 exact codeAny_compStart_dict loop (T.self X.A 0 _ _ _ (T.keep _ _ _ tn3 fun b _ o e=>kp b o e) loop)
section
variable{X:Cx}{kx vx tg iter:Expr}{ifs:List Expr}{scope:Scope}{pos:Pos}{wi:TI}{g:CompA->TG}{tt:CompA->TT}{tk te:CompA->TE}
theorem rm(N':List Str)(fr:List (Option Nat))(hc:X.calm=true)(hi:PI X tg iter wi)(hfr:mC fr N' X.N scope X.env.scope=true)(hsc:mK scope X.env.scope=true)
 (hg:∀y,PG (blk X N' scope y) tg (g y))(ht:∀y,HS (blk X N' scope y) ifs (tt y))(hk:∀y,PE (blk X N' scope y) kx (tk y))(he:∀y,PE (blk X N' scope y) vx (te y))
 (hs:∀x,JI iter X.env x=pure x:=by intro _;rfl):PE X (.DictComp kx vx [⟨tg,iter,ifs,0⟩] scope pos) (nP wi fr g tt tk te):=by
 intro pins s σ H Q I h;obtain⟨sk,sn⟩:=Je.mp hsc;have hkind:scope.kind = .function:=of_decide_eq_true sk;have hall:=Lo.mp sn
 have hcell:∀y∈scope.names,y.2 = .cell->scope.names.lookup y.1=some .cell:=fun y hy hl=>by
  rcases Jx.mp (Je.mp (Je.mp (hall y hy)).1).1 with z|z
  · exact absurd hl (of_decide_eq_true z)
  · exact of_decide_eq_true z
 have hnames:∀y∈scope.names,y.2 = .local->scope.names.lookup y.1=some .local:=fun y hy hl=>by
  rcases Jx.mp (Je.mp (Je.mp (hall y hy)).1).2 with z|z
  · exact absurd hl (of_decide_eq_true z)
  · exact of_decide_eq_true z
 have hfree:∀y∈scope.names,y.2 = .free->X.env.kindOf y.1=some .cell\/X.env.kindOf y.1=some .free:=fun y hy hl=>by
  rcases Jx.mp (Je.mp (hall y hy)).2 with z|z
  · exact absurd hl (of_decide_eq_true z)
  · exact(Jx.mp z).imp of_decide_eq_true of_decide_eq_true
 obtain⟨frl,frg⟩:=mC.get hfr;obtain⟨cl,hclos,cl1,cl2⟩:=b9 (env:=X.env) (scope:=scope) fun y hy hl=>I.ok.has y.1 (hfree y hy hl);rw[arm_eval_DictComp];refine Lm (use:=none) rfl hs hclos hkind hnames (FB (hi pins s σ H _ I h) fun v s1 h1=>FB h1 fun itv s2 h2=>?_);obtain⟨it,fp,tn,J,H2,e,I2,T,st2,f2,q2⟩:=h2;subst e;refine JX ?_;have hD:H2 s2.heap.objs.size=none:=I2.hok.fresh (Jb _)
 have I3:Inv X pins σ (upd H2 s2.heap.objs.size (.dK [])) {s2 with heap:=s2.heap.push {cls:=.type "dict", data:=.dict #[]}} :=
  I2.laid (t':=s2.toks) (fun b u e=>IW _ e) (Jb _) (eU s2.heap I2.big)
 obtain⟨Wv,⟨m0,w0⟩,turn⟩:=q2 _ hD;have tn3:tn 0 (s2.heap.push {cls:=.type "dict", data:=.dict #[]}):=T.keep _ _ _ st2 fun b _ o e=>IW _ e
 have fpD:∀b∈fp,(upd H2 s2.heap.objs.size (.dK [])) b=none:=fun b hb=>by
  obtain⟨o,e,_⟩:=T.obj _ _ st2 b hb;rw[ag (JS (Jg e))];exact(f2 b hb).1
 have fp3:∀b∈fp,b<(s2.heap.push {cls:=.type "dict", data:=.dict #[]}).objs.size:=fun b hb=>by
  obtain⟨o,e,_⟩:=T.obj _ _ tn3 b hb;exact Jg e
 exact fQ N' fr hc hkind hcell hfree frl frg cl1 cl2 I3 T tn3 fpD fp3 (fun b hb=>(f2 b hb).2) (hg ⟨cl,fp,X.pn++pins,_,_⟩) (ht ⟨cl,fp,X.pn++pins,_,_⟩) (hk ⟨cl,fp,X.pn++pins,_,_⟩) (he ⟨cl,fp,X.pn++pins,_,_⟩) w0 (turn ⟨cl,fp,X.pn++pins,_,_⟩)
  (Rp:=Qp (JE X.prog X.w) X.A X.xe none (EP X pins σ Q) (.ref s2.heap.objs.size)) fun s5 H4 m hn k _ qn=>⟨m,hn,fun h' hs'=>⟨.ref _,H4,k h' hs',rfl,qn⟩⟩
theorem jC{b:Bool}{x:Str}{spos:Pos}{ix:Nat}(N':List Str)(fr:List (Option Nat))(hc:X.calm=true)(hi:PI X tg iter wi)(hfr:mC fr N' X.N scope X.env.scope=true)(hsc:mK scope X.env.scope=true)
 (hg:∀y,PG (blk X N' scope y) tg (g y))(ht:∀y,HS (blk X N' scope y) ifs (tt y))(hk:∀y,PE (blk X N' scope y) kx (tk y))(he:∀y,PE (blk X N' scope y) vx (te y))(hN:X.N.Nodup)(hix:X.N[ix]?=some x)(hx:Loc X.env.scope x)
 (hf:X.fn x=true\/X.env.scope.names.lookup x=some .local)(hsw:K4 (.DictComp kx vx [⟨tg,iter,ifs,0⟩] scope pos) (some (.Name x px)) spos.line X.env=pure b)
 (hs:∀x,JI iter X.env x=pure x):PS X (.Assign [.Name x px] (.DictComp kx vx [⟨tg,iter,ifs,0⟩] scope pos) spos) (AO (nP wi fr g tt tk te) (iQ ix)):=by
 cases b with
 | false=>exact gz hN hix hx (rm N' fr hc hi hfr hsc hg ht hk he hs) hsw hf
 | true =>
 intro pins s σ H DD I h;obtain⟨sk,sn⟩:=Je.mp hsc;have hkind:scope.kind = .function:=of_decide_eq_true sk;have hall:=Lo.mp sn
 have hcell:∀y∈scope.names,y.2 = .cell->scope.names.lookup y.1=some .cell:=fun y hy hl=>by
  rcases Jx.mp (Je.mp (Je.mp (hall y hy)).1).1 with z|z
  · exact absurd hl (of_decide_eq_true z)
  · exact of_decide_eq_true z
 have hnames:∀y∈scope.names,y.2 = .local->scope.names.lookup y.1=some .local:=fun y hy hl=>by
  rcases Jx.mp (Je.mp (Je.mp (hall y hy)).1).2 with z|z
  · exact absurd hl (of_decide_eq_true z)
  · exact of_decide_eq_true z
 have hfree:∀y∈scope.names,y.2 = .free->X.env.kindOf y.1=some .cell\/X.env.kindOf y.1=some .free:=fun y hy hl=>by
  rcases Jx.mp (Je.mp (hall y hy)).2 with z|z
  · exact absurd hl (of_decide_eq_true z)
  · exact(Jx.mp z).imp of_decide_eq_true of_decide_eq_true
 obtain⟨frl,frg⟩:=mC.get hfr;obtain⟨cl,hclos,cl1,cl2⟩:=b9 (env:=X.env) (scope:=scope) fun y hy hl=>I.ok.has y.1 (hfree y hy hl);rw[Pb _ _ _ _ hsw];refine IR (K7 (IR ?_));show Jr _ X.A (do let _ <- comprehension (.DictComp kx vx [⟨tg,iter,ifs,0⟩] scope pos) scope X.env _ newDict false (eval iter X.env) (some (L0 (.Name x px) X.env))) _ _ s
 refine IR (JO (Lm (use:=some (L0 (.Name x px) X.env)) (Q:=fun _ s'=>SP X pins DD .next s') rfl hs hclos hkind hnames
  (FB (hi pins s σ H _ I h) fun v s1 h1=>FB h1 fun itv s2 h2=>?_)) (fun _ s' hq=>IZ (IZ hq)) fun _ _ e=>e)
 obtain⟨it,fp,tn,J,H2,e,I2,T,st2,f2,q2⟩:=h2;subst e;refine JX ?_;have hD:H2 s2.heap.objs.size=none:=I2.hok.fresh (Jb _)
 have I3:Inv X pins σ (upd H2 s2.heap.objs.size (.dK [])) {s2 with heap:=s2.heap.push {cls:=.type "dict", data:=.dict #[]}} :=
  I2.laid (t':=s2.toks) (fun b u e=>IW _ e) (Jb _) (eU s2.heap I2.big)
 obtain⟨Wv,⟨m0,w0⟩,turn⟩:=q2 _ hD;have tn3:tn 0 (s2.heap.push {cls:=.type "dict", data:=.dict #[]}):=T.keep _ _ _ st2 fun b _ o e=>IW _ e
 have fpD:∀b∈fp,(upd H2 s2.heap.objs.size (.dK [])) b=none:=fun b hb=>by
  obtain⟨o,e,_⟩:=T.obj _ _ st2 b hb;rw[ag (JS (Jg e))];exact(f2 b hb).1
 have fp3:∀b∈fp,b<(s2.heap.push {cls:=.type "dict", data:=.dict #[]}).objs.size:=fun b hb=>by
  obtain⟨o,e,_⟩:=T.obj _ _ tn3 b hb;exact Jg e
 refine fQ (Q:=fun v H1=>iQ ix v σ H1 DD.nx) N' fr hc hkind hcell hfree frl frg cl1 cl2 I3 T tn3 fpD fp3 (fun b hb=>(f2 b hb).2) (hg ⟨cl,fp,X.pn++pins,_,_⟩) (ht ⟨cl,fp,X.pn++pins,_,_⟩) (hk ⟨cl,fp,X.pn++pins,_,_⟩) (he ⟨cl,fp,X.pn++pins,_,_⟩) w0 (turn ⟨cl,fp,X.pn++pins,_,_⟩)
  (Rp:=Qp (JE X.prog X.w) X.A X.xe (some (L0 (.Name x px) X.env)) (fun _ s'=>SP X pins DD .next s') (.ref s2.heap.objs.size)) fun s5 H4 m hn k fpo qn=>?_
 show Jr _ X.A (L0 (.Name x px) X.env (.ref s2.heap.objs.size)) _ _ s5;have I5:Inv X pins σ H4 s5:=k s5.heap (Nk _ _);obtain⟨f0,f1,f2',f3,f4,f5⟩:=fpo;refine Op (eZ I5 hN hix hx (v:=.ref s2.heap.objs.size) rfl (fun s6 I6 sb=>?_) hf);obtain⟨a,sb,ha⟩:=sb
 have hne:(s2.heap.push {cls:=.type "dict", data:=.dict #[]}).objs.size≠a:=by
  rcases ha with rfl|ha
  · exact f1
  · exact fun z=>f4 x a ha z.symm
 refine⟨m,hn.at' fun o e=>sb.extBut _ o hne e,fun h' hs'=>?_⟩;exact⟨_,H4,I6.turned (t':=s6.toks) (fun b o hb e=>hs'.extBut b o hb e) f0 f1 f3 f4 f5,qn⟩
end
section
variable{prog:Ju}{w:Kh}{A:Ko}{E:I0->Ja->Prop}
end
section
variable{X:Cx}
end
end L2
theorem L2.Room.un1{k:Nat}{A:PySem.Around}(r:L2.Room k A):A.units+1<PySem.cLine:=by have:=r.un;omega
namespace L2.VL
def mJ(kvs:List (Ih×IQ))(k:Ih):Option IQ:=(kvs.find? fun kv=>decide (kv.1=k)).map (·.2)
def putF(kvs:List (Ih×IQ))(k:Ih)(x:IQ):List (Ih×IQ) :=
 if(kvs.any fun kv=>decide (kv.1=k))=true then kvs.map (fun kv=>if kv.1=k then(kv.1,x)else kv)else kvs++[(k,x)]
section
variable{K:W.Frag}{F:Hp}{us:List (Ih×V)}{kvs:List (Ih×IQ)}
theorem Ij.val(r:Ij K F us kvs)(k:Ih):(dq us k=none/\mJ kvs k=none)\/∃v d,dq us k=some v/\mJ kvs k=some d/\Rep K F v d:=by
 induction r with
 | nil=>exact .inl ⟨rfl,rfl⟩
 | @cons p q ps qs h t ih =>
   unfold dq mJ at *;rw[Ka,Ka,h.1];by_cases e:q.1=k
   · simp only[e,decide_true];exact .inr ⟨p.2,q.2,rfl,rfl,h.2⟩
   · simp only[e,decide_false];exact ih
theorem Ij.any(r:Ij K F us kvs)(k:Ih):(us.any fun kv=>decide (kv.1=k))=kvs.any fun kv=>decide (kv.1=k):=by
 induction r with
 | nil=>rfl
 | cons h t ih=>rw[Mw,Mw,ih,h.1]
theorem Ij.keys(r:Ij K F us kvs):us.map (·.1)=kvs.map (·.1):=by
 induction r with
 | nil=>rfl
 | cons h t ih=>rw[Ji,Ji,ih,h.1]
theorem Ij.repl(r:Ij K F us kvs)(k:Ih)(rv:Rep K F v d):Ij K F (us.map fun kv=>if kv.1=k then(kv.1,v)else kv) (kvs.map fun kv=>if kv.1=k then(kv.1,d)else kv):=by
 induction r with
 | nil=>exact .nil
 | @cons p q ps qs h t ih =>
   refine .cons ?_ ih;show(if p.1=k then(p.1,v)else p).1=(if q.1=k then(q.1,d)else q).1/\Rep K F (if p.1=k then(p.1,v)else p).2 (if q.1=k then(q.1,d)else q).2;by_cases e:q.1=k
   · have e':p.1=k:=h.1.trans e;rw[if_pos e,if_pos e'];exact⟨h.1,rv⟩
   · have e':¬p.1=k:=fun z=>e (h.1.symm.trans z);rw[if_neg e,if_neg e'];exact h
theorem Ij.snoc(r:Ij K F us kvs)(k:Ih)(rv:Rep K F v d):Ij K F (us++[(k,v)]) (kvs++[(k,d)]):=by
 induction r with
 | nil=>exact .cons ⟨rfl,rv⟩ .nil
 | cons h t ih=>exact .cons h ih
theorem Ij.put(r:Ij K F us kvs)(k:Ih)(rv:Rep K F v d):Ij K F (cT us k v) (putF kvs k d):=by
 unfold cT putF;rw[r.any k];split
 · exact r.repl k rv
 · exact r.snoc k rv
theorem Ij.mono{F':Hp}(s:bm F F')(r:Ij K F us kvs):Ij K F' us kvs:=Kr.mapP r fun _ _ z=>⟨z.1,z.2.mono s⟩
end
def jh:W->Option Ih
 | .d (.int i)=>some (.inl i)
 | .d (.str x)=>some (.inr x)
 | _=>none
theorem keyW_i(i:Int):jh (.d (.int i))=some (.inl i):=rfl
theorem keyW_s(x:Str):jh (.d (.str x))=some (.inr x):=rfl
theorem eQ{K:W.Frag}{w:W}{k:Ih}(e:jh w=some k)(r:cu K rl F H v w):v=kV k:=by
 unfold jh at e;split at e
 · cases e;exact aB r
 · cases e;exact gX r
 · cases e
def tD(ρ0:En)(g:HG)(ft:TB)(fk fe:TV):List IQ->List (Ih×IQ)->(List (Ih×IQ)->Prop)->Prop
 | [],acc,Q=>Q acc
 | x::xs,acc,Q=>g x ρ0 fun ρ2=>Le ρ0 ρ2/\ft ρ2 fun b=>if b=true then fk ρ2 fun wk=>∃k,jh wk=some k/\fe ρ2 fun w=>∃d,w.fz = .d d/\acc.length<sizeLine/\tD ρ0 g ft fk fe xs (putF acc k d) Q else tD ρ0 g ft fk fe xs acc Q
section
variable{X:Cx}{rl:RlT}{kx vx tg iter:Expr}{ifs:List Expr}{scope:Scope}{pos:Pos}{fi:En->(List IQ->Prop)->Prop}{g:HG}{ft:TB}{fk fe:TV}
end
def GN(ρ0:En)(g:HG)(ft:TB)(fk fe:TV)(x:IQ):Mo (Option (Ih×IQ)):=Hj (g x ρ0) fun ρ2=>GW (Le ρ0 ρ2) (Hj (ft ρ2) fun b=>if b=true then Hj (fk ρ2) fun wk=>aD (jh wk) fun k=>Hj (fe ρ2) fun w=>aD (asD w.fz) fun d=>ret (some (k,d))else ret none)
def dO(b:IQ->Mo (Option (Ih×IQ))):List IQ->List (Ih×IQ)->Mo (List (Ih×IQ))
 | [],acc=>ret acc
 | x::xs,acc=>Hj (b x) fun o=>match o with
   | some d=>GW (acc.length<sizeLine) (dO b xs (putF acc d.1 d.2))
   | none=>dO b xs acc
theorem lw(ρ0:En)(g:HG)(ft:TB)(fk fe:TV):∀(xs:List IQ)(acc:List (Ih×IQ)),tD ρ0 g ft fk fe xs acc=dO (GN ρ0 g ft fk fe) xs acc
 | [],acc=>rfl
 | x::xs,acc=>by
   refine af fun Q=>?_;show(g x ρ0 fun ρ2=>Le ρ0 ρ2/\ft ρ2 fun b=>if b=true then fk ρ2 fun wk=>∃k,jh wk=some k/\fe ρ2 fun w=>∃d,w.fz = .d d/\acc.length<sizeLine/\tD ρ0 g ft fk fe xs (putF acc k d) Q else tD ρ0 g ft fk fe xs acc Q)↔(Hj (GN ρ0 g ft fk fe x) _) Q;simp only[lw ρ0 g ft fk fe xs]
   have:∀(ρ2:En)(b:Bool),(if b=true then fk ρ2 fun wk=>∃k,jh wk=some k/\fe ρ2 fun w=>∃d,w.fz = .d d/\acc.length<sizeLine/\dO (GN ρ0 g ft fk fe) xs (putF acc k d) Q else dO (GN ρ0 g ft fk fe) xs acc Q)=(Hj (if b=true then Hj (fk ρ2) fun wk=>aD (jh wk) fun k=>Hj (fe ρ2) fun w=>aD (asD w.fz) fun d=>ret (some (k,d))else ret none) fun o=>match o with
   | some d=>GW (acc.length<sizeLine) (dO (GN ρ0 g ft fk fe) xs (putF acc d.1 d.2))
   | none=>dO (GN ρ0 g ft fk fe) xs acc) Q:=by
     intro ρ2 b
     cases b with
     | false=>rfl
     | true =>
       rw[if_pos rfl,if_pos rfl];show _=fk ρ2 fun wk=>_;congr 1;funext wk;refine propext ?_;show _↔(Hj (aD (jh wk) fun k=>Hj (fe ρ2) fun w=>aD (asD w.fz) fun d=>ret (some (k,d))) _) Q;rw[bnd_opt,ai]
       have e2:∀(k:Ih),(fe ρ2 fun w=>∃d,w.fz = .d d/\acc.length<sizeLine/\dO (GN ρ0 g ft fk fe) xs (putF acc k d) Q)=(Hj (Hj (fe ρ2) fun w=>aD (asD w.fz) fun d=>ret (some (k,d))) fun o=>match o with
        | some d=>GW (acc.length<sizeLine) (dO (GN ρ0 g ft fk fe) xs (putF acc d.1 d.2))
        | none=>dO (GN ρ0 g ft fk fe) xs acc) Q:=fun k=>by
        show _=fe ρ2 fun w=>_;congr 1;funext w;refine propext ?_;show _↔(Hj (aD (asD w.fz) fun d=>ret (some (k,d))) _) Q;rw[bnd_opt,ai];simp only[cX];exact M3
       simp only[e2]
   simp only[this];exact M3
theorem qV(kvs:List (Ih×IQ))(k:Ih)(x:IQ):(putF kvs k x).length<=kvs.length+1:=by
 unfold putF;split<;>simp
section
variable{α:Type}{b:IQ->Mo (Option (Ih×IQ))}
theorem i5{enc:α->IQ}(f:α->Ih×IQ):∀(xs:List α)(acc:List (Ih×IQ)),(∀x∈xs,b (enc x)=ret (some (f x)))->acc.length+xs.length<=sizeLine->dO b (xs.map enc) acc=ret ((xs.map f).foldl (fun a p=>putF a p.1 p.2) acc)
 | [],acc,_,_=>rfl
 | x::xs,acc,h,hl=>by
   show Hj (b (enc x)) _=_;rw[h x IV,bnd_ret];show GW (acc.length<sizeLine) (dO b (xs.map enc) (putF acc (f x).1 (f x).2))=_;simp only[JG]at hl;have:=qV acc (f x).1 (f x).2;rw[ah (by omega),i5 f xs _ (fun y hy=>h y (IT _ hy)) (by omega)];rfl
theorem wO{Q:β->Prop}{k:List (Ih×IQ)->Mo β}{xs:List α}{enc:α->IQ}(f:α->Ih×IQ)(hx:xs'=xs.map enc)(h:∀x∈xs,b (enc x)=ret (some (f x)))(hl:xs.length<=sizeLine)
 (fin:k ((xs.map f).foldl (fun a p=>putF a p.1 p.2) []) Q):Hj (dO b xs' []) k Q:=by
 subst hx;rw[i5 f xs [] h (by simpa using hl)];exact fin
end
section
variable{X:Cx}{rl:RlT}{a c e o i:Expr}{es:List Expr}{fa fb:TV}{fs:HC}{pos p kpos:Pos}{ρ:En}
end
end L2.VL
namespace L2
end L2
namespace L2.VL
section
variable{X:Cx}{rl:RlT}{tg:Expr}{fa:TV}{ρ:En}
end
end L2.VL
namespace L2
variable{X:Cx}
end L2
namespace L2.VL
section
variable{X:Cx}{rl:RlT}{a e:Expr}{es:List Expr}{fs:HC}{pos:Pos}
end
theorem Dfn.never{w:Kh}{K:W.Frag}{mg:Str->Option I0}{x:Str}{st:Stmt}{ps:List Str}{k:Nat}{Pd:List W->(IQ->Prop)->Prop}(Fn:FnIn K mg x st ps)(no:∀ws Q,Pd ws Q->False:=by exact fun _ _ z=>z):Dfn P w K mg base rl x ps k Pd:=by
 obtain⟨f,fd,hm,F,hb⟩:=Fn.ex;exact⟨fun ws Q Q' _ z=>(no ws Q z).elim,f,fd,hm,F.kp,hb,⟨fun vs H Q E ⟨_,ws,_,_,_,_,z⟩=>(no ws _ z).elim,fun A outer s H args us vs Q E _ _ _ _ ⟨_,ws,_,_,_,_,z⟩=>(no ws _ z).elim⟩⟩
def sU(b:Nat):IQ->Prop
 | .none=>True
 | .bool _=>True
 | .int i=>i.natAbs<2^1000
 | .str x=>IQ.strOk x=true/\(IQ.str x).bulk<=b
 | _=>False
def Lv(b:Nat):List Nat->IQ->Prop
 | [],d=>sU b d
 | c::cs,d=>sU b d\/∃xs,(d = .tuple xs\/d = .list xs)/\xs.length<=c/\∀x∈xs,Lv b cs x
def GB(b:Nat):List Nat->Nat
 | []=>b
 | c::cs=>(GB b cs+1)*c
theorem sU.Sm{b:Nat}{d:IQ}(h:sU b d):VL.Sm 0 b d:=by
 cases d with
 | none=>exact Sm.none.mono (Jb _) (J1 _)
 | bool b=>exact Sm.bool.mono (Jb _) (J1 _)
 | int i=>exact(Sm.int h).mono (Jb _) (J1 _)
 | str x=>exact⟨h.1,by simp[Kt],h.2⟩
 | list xs=>cases h
 | tuple xs=>cases h
 | dict xs=>cases h
theorem Lv.leaf{b:Nat}{cs:List Nat}(h:sU b d):Lv b cs d:=by cases cs with
 | nil=>exact h
 | cons c cs=>exact .inl h
theorem Lv.tup{b c:Nat}{cs:List Nat}{xs:List IQ}(hl:xs.length<=c)(h:∀x∈xs,Lv b cs x):Lv b (c::cs) (.tuple xs):=.inr ⟨xs,.inl rfl,hl,h⟩
theorem Lv.lst{b c:Nat}{cs:List Nat}{xs:List IQ}(hl:xs.length<=c)(h:∀x∈xs,Lv b cs x):Lv b (c::cs) (.list xs):=.inr ⟨xs,.inr rfl,hl,h⟩
def GH:List Nat->List Nat->Bool
 | [],_=>true
 | _::_,[]=>false
 | a::as,b::bs=>decide (a<=b)&&GH as bs
theorem Lv.mono{b:Nat}:∀{as bs:List Nat}{d:IQ},GH as bs=true->Lv b as d->Lv b bs d
 | [],_,_,_,h=>.leaf h
 | _::_,[],_,z,_=>by cases z
 | a::as,c::bs,d,z,h=>by
   simp only[GH,Nu,decide_eq_true_iff]at z;rcases h with h|⟨xs,e,hl,h⟩
   · exact .inl h
   · exact .inr ⟨xs,e,JF hl z.1,fun x mx=>Lv.mono z.2 (h x mx)⟩
theorem tX(b:Nat):∀cs:List Nat,(∀c∈cs,1<=c)->b<=GB b cs
 | [],_=>Jb _
 | c::cs,h=>by
   have h1:=tX b cs fun x m=>h x (IT _ m);have h2:=h c IV;show b<=(GB b cs+1)*c;exact JF (JF h1 (Nat.le_succ _)) (OJ _ h2)
theorem Lv.Sm{b:Nat}:∀{cs:List Nat}{d:IQ},(∀c∈cs,1<=c)->Lv b cs d->VL.Sm (2*cs.length) (GB b cs) d
 | [],d,_,h=>sU.Sm h
 | c::cs,d,hc,h=>by
   rcases h with h|⟨xs,e,hl,h⟩
   · exact(sU.Sm h).mono (J1 _) (tX b _ hc)
   · have:=Sm.seq (n:=c) (fun x mx=>Lv.Sm (fun y m=>hc y (IT _ m)) (h x mx)) hl;rcases e with rfl|rfl
     · exact this.1
     · exact this.2
end L2.VL
namespace L2
section
variable{X:Cx}
theorem hU{ns:List Int}{its:List I0}(r:bP (ns.map V.int) its){i:Nat}{v:I0}(e:its[i]?=some v):∃t,v = .int (ns.getD i 0) t:=by
 have hl:=r.length;rw[I_]at hl;have hi:i<ns.length:=by have:=(Jn.mp e).1;omega
 have hb:(ns.map V.int)[i]?=some (.int ns[i]):=by simp[hi]
 obtain⟨u,hu,ru⟩:=r.get hb;rw[e]at hu;cases hu;have:ns.getD i 0=ns[i]:=by simp[List.getD,hi]
 rw[this];exact ru
theorem preSum_eq(ns:List Int):preSum (fun i=>ns.getD i 0) ns.length=ns.sum:=by
 have key:∀k,k<=ns.length->preSum (fun i=>ns.getD i 0) k=(ns.take k).sum:=by
  intro k
  induction k with
  | zero=>intro _;rfl
  | succ k ih =>
    intro hk;have hk':k<ns.length:=by omega
    show preSum _ k+ns.getD k 0=_;rw[ih (by omega),KQ hk',Pk];simp[List.getD,hk']
 rw[key _ (Jb _),JQ (Jb _)]
end
end L2
namespace L2.VL
section
variable{X:Cx}{rl:RlT}{a:Expr}{fs:HC}{pos p:Pos}
end
theorem Reps.put{K:W.Frag}{ds:List IQ}(k:Nat)(r:Reps K F vs ds)(h:Rep K F v d):Reps K F (vs.set k v) (ds.set k d):=by
 induction vs generalizing ds k with
 | nil=>cases r;exact .nil
 | cons x vs ih =>
   cases r with
   | cons r1 r2 =>
     cases k with
     | zero=>exact .cons h r2
     | succ k=>exact .cons r1 (ih k r2)
def qG(i:Nat)(fx fv:TV):HD:=fun D ρ=>fv ρ fun w=>∃d,w.fz = .d d/\∃xs,ρ[i]?=some (some (.ml xs))/\fx ρ fun wx=>∃k:Int,wx = .d (.int k)/\0<=k/\k<(xs.length:Int)/\D.nx (ρ.set i (some (.ml (xs.set k.toNat d))))
section
variable{X:Cx}{rl:RlT}{ei e:Expr}{fx fv:TV}{pos p1 pos':Pos}{ρ:En}
theorem uv(i:Nat){x:Str}(hx:PV X rl ei fx)(hv:PV X rl e fv)(hN:X.N[i]?=some x:=by rfl)(hvis:Hw X.env.scope x:=by first|exact KH rfl|exact J8 (KH rfl)|exact J8 (J8 rfl))
 (hd:(x==("__debug__" : Str))=false:=by decide)(hcd:(x==("__classdict__" : Str))=false:=by decide)
 (ha:∀v,L0 (.Subscript (.Name x p1) ei pos') X.env v=(do
  let ov <- NF [v] (eval (.Name x p1) X.env)
  let iv <- NF [v,ov] (eval ei X.env)
  OG pos'
  NF [v,ov,iv] (QG ov iv v)
  release [v,ov,iv] []):=by intro _;rfl)
 (hs:L8 [.Subscript (.Name x p1) ei pos'] e pos.line X.env=pure false:=by rfl)(hw:L9 [.Subscript (.Name x p1) ei pos'] e X.env=pure none:=by rfl)
 (h1:(KO [.Subscript (.Name x p1) ei pos'] X.env).map (·.2)=[L0 (.Subscript (.Name x p1) ei pos') X.env]:=by rfl) :
 HV X rl (.Assign [.Subscript (.Name x p1) ei pos'] e pos) (qG i fx fv):=by
 obtain⟨tv,pv,kv⟩:=hv;obtain⟨tx,px,kx⟩:=hx;refine⟨_,iJ pv (tQ (bI hN hvis hd hcd) px kF ha) hs hw h1,fun{F₀ H₀ F H σ ρ} R Dv D ok q=>kv R _ _ q fun v w F1 H1 g1 r1 n1 ⟨d,ed,xs,e1,q1⟩=>?_⟩;obtain⟨F2,g2,s2,r2⟩:=cu.fz g1 r1 n1;rw[ed]at r2;have R1:=R.grow g2;obtain⟨u,h1',h2,h3⟩:=R1.sl i _ e1;obtain⟨a,vs,rfl,f,hr,hh,rs⟩:=(show eE X.K rl F2 H1 u xs from h2);refine⟨.ref a,h1',kx R1 _ _ q1 fun y wy F3 H3 g3 r3 n3 ⟨k,ek,k0,k1,q3⟩=>?_⟩;subst ek;have ey:=aB r3;subst ey;have R3:=R1.grow g3;have vl:vs.length=xs.length:=rs.length;refine⟨a,vs,k,k.toNat,rfl,rfl,g3.same a _ hh hr,?_,ok.nx _ _ _ _ (g2.fs.trans g3.fs) (R3.own e1 h1' (Reps.put k.toNat (rs.mono g3.fs) (Rep.mono g3.fs r2))) q3⟩;obtain⟨n,rfl⟩:=JN k0;unfold ixN;simp;omega
theorem tL(i:Nat):mS (qG i fx fv) ρ=Hj (fv ρ) fun w=>aD (asD w.fz) fun d=>aD (FV ρ i) fun xs=>Hj (fx ρ) fun wx=>aD (asI wx) fun k=>GW (0<=k/\k<(xs.length:Int)) (ret (.nx (ρ.set i (some (.ml (xs.set k.toNat d)))))):=by
 refine af fun Q=>?_;simp only[mS,qG,Hj,ai,nU,cX,cN,GW,ret,and_assoc]
end
section
variable{X:Cx}{al:Option Addr}{c1 c2:Nat}{ei e:Expr}{fx fv:TV}{pos p1 pos':Pos}{ρ:En}
theorem wY(i:Nat){x:Str}(hx:CV X al c2 ei fx)(hv:CV X al c1 e fv)(hN:X.N[i]?=some x:=by rfl)(hvis:Hw X.env.scope x:=by first|exact KH rfl|exact J8 (KH rfl)|exact J8 (J8 rfl))
 (hd:(x==("__debug__" : Str))=false:=by decide)(hcd:(x==("__classdict__" : Str))=false:=by decide)
 (ha:∀v,L0 (.Subscript (.Name x p1) ei pos') X.env v=(do
  let ov <- NF [v] (eval (.Name x p1) X.env)
  let iv <- NF [v,ov] (eval ei X.env)
  OG pos'
  NF [v,ov,iv] (QG ov iv v)
  release [v,ov,iv] []):=by intro _;rfl)
 (hs:L8 [.Subscript (.Name x p1) ei pos'] e pos.line X.env=pure false:=by rfl)(hw:L9 [.Subscript (.Name x p1) ei pos'] e X.env=pure none:=by rfl)
 (h1:(KO [.Subscript (.Name x p1) ei pos'] X.env).map (·.2)=[L0 (.Subscript (.Name x p1) ei pos') X.env]:=by rfl) :
 CS X al (c1+c2) (.Assign [.Subscript (.Name x p1) ei pos'] e pos) (qG i fx fv):=by
 obtain⟨tv,pv,kv⟩:=hv;obtain⟨tx,px,kx⟩:=hx;refine⟨_,iJ pv (tQ (bI hN hvis hd hcd) px kF ha) hs hw h1,fun{b F₀ H₀ F H σ ρ} R Dv D ok q=>kv (b:=b+c2) (R.pay (by omega)) _ _ q fun v w F1 H1 g1 r1 n1 ⟨d,ed,xs,e1,q1⟩=>?_⟩;obtain⟨F2,g2,s2,r2⟩:=cu.fz g1 r1 n1;rw[ed]at r2;have R1:=R.gr g2;obtain⟨u,h1',h2,h3⟩:=R1.sl i _ e1;obtain⟨a,vs,rfl,f,hr,hh,rs⟩:=(show eE X.K ⟨al,b+c2⟩ F2 H1 u xs from h2);refine⟨.ref a,h1',kx (b:=b) R1 _ _ q1 fun y wy F3 H3 g3 r3 n3 ⟨k,ek,k0,k1,q3⟩=>?_⟩;subst ek;have ey:=aB r3;subst ey;have R3:=R1.gr g3;have vl:vs.length=xs.length:=rs.length;refine⟨a,vs,k,k.toNat,rfl,rfl,g3.same a _ hh hr,?_,ok.nx _ _ _ _ (g2.fs.trans g3.fs) (R3.own e1 h1' (Reps.put k.toNat (rs.mono g3.fs) (Rep.mono g3.fs r2))) q3⟩;obtain⟨n,rfl⟩:=JN k0;unfold ixN;simp;omega
end
theorem Grow.other{D:Addr}{o:HO}(g:Grow rl F₀ H₀ F H)(h0:H₀ D=none)(f:F D=none)(hr:rl.a≠some D):Grow rl F₀ H₀ F (upd H D o):=by
 have neF:∀b u,F b=some u->b≠D:=fun b u q z=>by subst z;rw[f]at q;cases q
 refine⟨fun b o q1 n=>by rw[ag (ay q1 h0)];exact g.same b o q1 n,g.fs,fun b o q1=>by rw[ag (neF b o q1)];exact g.sub b o q1,g.old,fun y z=>?_⟩;obtain⟨z1,⟨u,h1,h2⟩⟩:=g.reel y z;exact⟨z1,⟨u,by rw[ag (fun q=>hr (by rw[<- q];exact z))];exact h1,h2⟩⟩
section
variable{X:Cx}{rl:RlT}{iter:Expr}{scope:Scope}{fi:En->(List IQ->Prop)->Prop}{xk xl xh f:Str}{ps:List Str}{k:Nat}{Pd:List W->(IQ->Prop)->Prop}{pk p1 p2 p3 p4 p5 p6 p7 p8 p9 p10 ap pc rp:Pos}
end
def tq(n il ih:Nat)(fi:En->(List IQ->Prop)->Prop):HD:=fun Dv ρ=>fi ρ fun xs=>xs.length<=n/\∃ys:List IQ,ρ[il]?=some (some (.ml ys))/\ρ[ih]?=some (some .reel)/\xs.length<=ys.length/\ys.length<1000 /\
 ∀os:List IQ,os.length=xs.length->(∀o∈os,o∈ys)->Dv.rt (.d (.tuple os))
section
variable{X:Cx}{al:Option Addr}{c1 c2:Nat}{iter:Expr}{scope:Scope}{fi:En->(List IQ->Prop)->Prop}{xk xl xh f:Str}{ps:List Str}{k:Nat}{Pd:List W->(IQ->Prop)->Prop}{pk p1 p2 p3 p4 p5 p6 p7 p8 p9 p10 ap pc rp:Pos}
theorem mE(n il ih:Nat)(hc:X.calm=true)(Dd:DfnC X.prog X.w X.K X.mg X.base al c2 f ps k Pd)(hP:∀(m:Int)(Q:IQ->Prop),0<m->m<2^60->(∀j:Int,0<=j->j<m->Q (.int j))->Pd [.reel,.d (.int m)] Q)
 (hr:Room k X.A)(hml:X.mg "len" = none)(hmt:X.mg "tuple" = none)(hi:CI X al c1 (.Name xk pk) iter fi)(nd:([xk,xl,xh]:List Str).Nodup)
 (hgk:∀z,PG (blk X [xk,xl,xh] scope z) (.Name xk pk) (iQ 0))
 (he:∀z,(∀{t:TA},PA (blk X [xk,xl,xh] scope z) [.Name xh p4,.Call (.Name "len" p5) [.Name xl p6] [] p7] t->∀{sp:Sp}{fa:Addr}{fd:LD},FnOk X.prog X.w X.K X.mg X.base IE k fa fd ps sp->X.mg f=some (.ref fa)->W.keepIn X.K (.ref fa)=true->Binds X.K fd ps [] ->
  PE (blk X [xk,xl,xh] scope z) (.Call (.Attribute (.Name xl p2) "pop" ap) [.Call (.Name f p3) [.Name xh p4,.Call (.Name "len" p5) [.Name xl p6] [] p7] [] p8] [] p9) (FN X.K "list" tN (xB 1) (nO (yC sp [] E0 t) AN))))
 (hl:∀z,PA (blk X [xk,xl,xh] scope z) [.Name xh p4,.Call (.Name "len" p5) [.Name xl p6] [] p7] (nO (xB 2) (nO (FM (fun xs H Q=>∃p ys,xs=[.ref p]/\(HJ X.K H p ys\/HI X.K H p ys)/\Q (.int ys.length) H) (nO (xB 1) AN)) AN)))
 (hfr:mC [none,some il,some ih] [xk,xl,xh] X.N scope X.env.scope=true:=by rfl)(hsc:mK scope X.env.scope=true:=by rfl)
 (hs:∀x,JI iter X.env x=pure x:=by intro _;rfl)(hgt:Gl X "tuple" := by rfl)
 (hst:Jc [(.ListComp (.Call (.Attribute (.Name xl p2) "pop" ap) [.Call (.Name f p3) [.Name xh p4,.Call (.Name "len" p5) [.Name xl p6] [] p7] [] p8] [] p9) [⟨.Name xk pk,iter,[],0⟩] scope pc)] X.env=(false,eval (.ListComp (.Call (.Attribute (.Name xl p2) "pop" ap) [.Call (.Name f p3) [.Name xh p4,.Call (.Name "len" p5) [.Name xl p6] [] p7] [] p8] [] p9) [⟨.Name xk pk,iter,[],0⟩] scope pc) X.env)::Jc [] X.env:=by rfl) :
 CS X al (c1+n*c2) (.Return (some (.Call (.Name "tuple" p1) [.ListComp (.Call (.Attribute (.Name xl p2) "pop" ap) [.Call (.Name f p3) [.Name xh p4,.Call (.Name "len" p5) [.Name xl p6] [] p7] [] p8] [] p9) [⟨.Name xk pk,iter,[],0⟩] scope pc] [] p10)) rp) (tq n il ih fi):=by
 obtain⟨fa,fd,hm,hk,hb,Fo⟩:=Dd.ex;obtain⟨wi,p0,k0⟩:=hi;refine⟨_,kK (fC bW hgt hmt (by rfl) (dk (eP [xk,xl,xh] [none,some il,some ih] hc p0 hfr hsc hgk (fun z=>jA) (fun z=>he z (hl z) Fo hm hk hb) hs) iK hst) (by decide) (by decide) hst (by rfl)),fun{b F₀ H₀ F H σ ρ} R Dv D ok q=>?_⟩;refine k0 (b:=b+n*c2) (R.pay (by omega)) _ _ q fun J xs F1 H1 g1 vi ⟨hn,ys,e1,e2,hxy,hyl,fin⟩=>?_;intro DD hD;have R1:=R.gr g1;obtain⟨v,s1,⟨a,vs,ev,fa1,ra1,ha1,rs1⟩,nw1⟩:=R1.sl il _ e1;subst ev;obtain⟨v2,s2,⟨r,er,ev2⟩,_⟩:=R1.sl ih _ e2;subst ev2;have nD:DD≠a:=fun z=>by rw[z,ha1]at hD;cases hD
 have H0a:H₀ a=none:=nw1 a rfl;have H0D:H₀ DD=none:=R1.g.freeB hD;have rD:al≠some DD:=fun e=>by obtain⟨o,z⟩:=g1.reel.live e;rw[hD]at z;cases z
 have FD:F1 DD=none:=g1.sub.free hD;have sz:=Js;have g10:Grow ⟨al,b+n*c2⟩ F₀ H₀ F1 (upd H1 DD (.lst [])):=R1.g.other H0D FD rD
 refine⟨fun i m acc σc Hc=>m=xs.length-i/\i<=xs.length/\∃Fc us zs ds,Grow ⟨al,b+(n-i)*c2⟩ F₀ H₀ Fc Hc/\bm F1 Fc/\Hc DD=some (.lst acc)/\Fc DD=none/\Reps X.K Fc acc ds/\ds.length=i/\(∀o∈ds,o∈ys)/\Hc a=some (.lst us)/\Fc a=none/\Reps X.K Fc us zs/\zs.length+i=ys.length/\(∀o∈zs,o∈ys)/\σc.length=3/\σc[1]?=some (some (.ref a))/\σc[2]?=some (some (.ref r)),
  ⟨xs.length,by simp,J1 _,F1,vs,ys,[],g10,.refl _,ak,FD,.nil,rfl,(fun o m=>nomatch m),by rw[ag (Nf nD)];exact ha1,fa1,rs1,rfl,(fun o m=>m),rfl,?_,?_⟩,?_⟩
 · show some (((σ[il]?).join))=_;rw[s1];rfl
 · show some (((σ[ih]?).join))=_;rw[s2];rfl
 rintro z i m acc σc Hc ⟨rfl,hi,Fc,us,zs,ds,gc,smc,hDc,fDc,rds,hdl,hds,hac,fac,ruz,hzl,hzs,sl3,sa,sr⟩;have sH:bm F1 Hc:=smc.trans gc.sub;by_cases hlt:i<xs.length
 · have ei:xs[i]?=some xs[i]:=by simp[hlt]
   have el:=eY (n:=n) (i:=i) (c:=c2) (by omega);refine .inr ⟨(vi 0).go i Hc _ ei sH,fun v H' y=>?_⟩;obtain⟨Fy,gy,rv⟩:=(vi 0).yld i Hc v H' _ Fc ei smc gc.sub gc.reel y;have hay:H' a=some (.lst us):=gy.same a _ hac ra1;have hDy:H' DD=some (.lst acc):=gy.same DD _ hDc rD;have fay:Fy a=none:=by rw[gy.old a _ hac];exact fac
   have fDy:Fy DD=none:=by rw[gy.old DD _ hDc];exact fDc
   unfold iQ;dsimp only;rw[if_pos rfl];have t1:(σc.set 0 (some v))[1]?=some (some (.ref a)):=by rw[Jj (by decide)];exact sa
   have t2:(σc.set 0 (some v))[2]?=some (some (.ref r)):=by rw[Jj (by decide)];exact sr
   have ul:us.length=zs.length:=ruz.length;have upos:0<us.length:=by omega
   refine⟨.ref a,t1,.inl ⟨rfl,us,.inl (.inl hay)⟩,?_⟩;refine⟨.ref r,t2,.ref a,t1,a,us,rfl,.inl (.inl (.inl hay)),?_⟩;refine⟨b+(n-(i+1))*c2,Fy,[.reel,.d (.int us.length)],gy.sub,gy.reel.pay (by omega),.cons ⟨r,er,rfl⟩ (.cons (.int _) .nil),rfl,?_⟩;refine hP us.length _ (by omega) (by omega) fun j j0 j1 v5 F5 H5 g5 r5=>?_;have e5:=aB r5;subst e5;have ha5:H5 a=some (.lst us):=g5.same a _ hay ra1;have hD5:H5 DD=some (.lst acc):=g5.same DD _ hDy rD;have fa5:F5 a=none:=by rw[g5.old a _ hay];exact fay
   have fD5:F5 DD=none:=by rw[g5.old DD _ hDy];exact fDy
   have g05:=(gc.tr gy).tr g5;have jl:j.toNat<us.length:=by omega
   obtain⟨d,hd,rd⟩:=(ruz.mono (gy.fs.trans g5.fs)).getV (i:=j.toNat) (v:=us[j.toNat]) (by simp[jl]);refine⟨a,us,j,j.toNat,us[j.toNat],rfl,rfl,ha5,by omega,by omega,?_,by simp[jl],?_⟩
   · unfold Qv;have h1:(if j<0 then j+(us.length:Int)else j)=j:=if_neg (by omega);rw[h1]
     first|rw[if_pos (by omega)]|rw[if_neg (by omega)]|(simp;omega)
   · refine⟨by rw[ag nD];exact hD5,by rw[rds.length,hdl];omega,xs.length-(i+1),by omega,rfl,hlt,F5,us.eraseIdx j.toNat,zs.eraseIdx j.toNat,ds++[d],?_,smc.trans (gy.fs.trans g5.fs),ak,fD5,(rds.mono (gy.fs.trans g5.fs)).snoc rd,by simp[hdl],?_,by rw[ag (Nf nD),ak],fa5,(ruz.mono (gy.fs.trans g5.fs)).erase _,?_,?_,by simpa using sl3,t1,t2⟩
     · exact(g05.other H0a fa5 ra1).other H0D fD5 rD
     · intro o mo;rcases J3.mp mo with mo|mo
       · exact hds o mo
       · have:o=d:=by simpa using mo
         subst this;exact hzs o (NA hd)
     · rw[List.length_eraseIdx_of_lt (by omega)];omega
     · exact fun o mo=>hzs o (List.mem_of_mem_eraseIdx mo)
 · have ee:i=xs.length:=by omega
   refine .inl ⟨(vi 0).stop _ Hc (by omega) sH,?_⟩;refine⟨DD,acc,rfl,.inl ⟨.inl (.inl hDc),fun l hl=>?_⟩⟩;have g9:Grow ⟨al,b⟩ F₀ H₀ (upd Fc l (.tup acc)) (upd Hc l (.tup acc)):=(gc.tr (Grow.data gc.sub gc.reel hl)).pay (by omega);have sm9:bm Fc (upd Fc l (.tup acc)):=fun b o z=>by rw[ag (ay z (gc.sub.free hl))];exact z
   exact ok.rt (.ref l) (.d (.tuple ds)) _ _ g9 (Rep.tup (.inl (.inl ak)) (rds.mono sm9)) trivial (fin ds (by omega) hds)
end
section
variable{X:Cx}{rl:RlT}{e:Expr}{fa:TV}{pos dpos q1 q2 q3 q4 q5 q6 q7 q8:Pos}{ρ:En}{j1 j2 j3 j4 j5 j6 j7 j8:Nat}{a1 a2 a3 a4 x1 x2 x3 x4:Int}
def nc(ps:List (Int×Int))(fa:TV):TV:=fun ρ Q=>fa ρ fun w=>∃k,w = .d (.int k)/\∃v,ps.lookup k=some v/\Q (.d (.int v))
theorem mZ(ps:List (Int×Int))(k:Int):dq (ps.map fun p=>((J0 p.1:Ih),V.int p.2)) (J0 k)=(ps.lookup k).map V.int:=by
 induction ps with
 | nil=>rfl
 | cons p ps ih =>
   unfold dq at ih ⊢;rw[Ji,Ka,Kq];by_cases h:p.1=k
   · simp[h]
   · have h1:(k==p.1)=false:=by simpa using fun z=>h z.symm
     have h2:decide ((J0 p.1:Ih)=J0 k)=false:=by simpa using h
     rw[h1];simp only[h2,LM,if_false];exact ih
theorem uL(hr:Room 0 X.A)(hd:a1≠a2/\a1≠a3/\a1≠a4/\a2≠a3/\a2≠a4/\a3≠a4)(h:PV X rl e fa)(hs:ui e:=by exact fun _ _=>rfl) :
 PV X rl (.Subscript (.Dict [some (.Constant (.int a1) j1 q1),some (.Constant (.int a2) j2 q2),some (.Constant (.int a3) j3 q3),some (.Constant (.int a4) j4 q4)] [.Constant (.int x1) j5 q5,.Constant (.int x2) j6 q6,.Constant (.int x3) j7 q7,.Constant (.int x4) j8 q8] dpos) e pos) (nc [(a1,x1),(a2,x2),(a3,x3),(a4,x4)] fa):=by
 obtain⟨t,p,k⟩:=h;obtain⟨d12,d13,d14,d23,d24,d34⟩:=hd;refine⟨_,fB (mw hr) (oI (cD dB dB (cD dB dB (cD dB dB (cD dB dB oA)))) rfl rfl (by intro z;cases z) (by show 4<=15;decide)) p hs,fun{F₀ H₀ F H σ ρ} R Qd Q q h=>?_⟩;intro d hd;refine⟨ak,[(J0 a1,.int x1),(J0 a2,.int x2),(J0 a3,.int x3),(J0 a4,.int x4)],rfl,(by show 4<=15;decide),?_⟩
 have em:dD [] [((J0 a1:Ih),V.int x1),(J0 a2,.int x2),(J0 a3,.int x3),(J0 a4,.int x4)]=[(J0 a1,.int x1),(J0 a2,.int x2),(J0 a3,.int x3),(J0 a4,.int x4)]:=by
  unfold dD;simp only[LA,List.foldl_nil];have p0:cT ([]:List (Ih×V)) (J0 a1) (V.int x1)=[(J0 a1,V.int x1)]:=rfl;rw[p0];unfold cT;simp[d12,d13,d14,d23,d24,d34]
 rw[em,uU];have g0:Grow rl F H F (upd H d (.dK [(J0 a1,.int x1),(J0 a2,.int x2),(J0 a3,.int x3),(J0 a4,.int x4)])):=Grow.laid R.sub R.reel hd;refine k (R.grow g0) _ _ q fun v w F1 H1 g1 r1 n1 ⟨kk,ew,vv,lk,q1⟩=>?_;subst ew;have ev:=aB r1;subst ev;have rd:rl.a≠some d:=fun z=>by obtain⟨o,zz⟩:=R.reel.live z;rw[hd]at zz;cases zz
 have hD:H1 d=some (.dK [(J0 a1,.int x1),(J0 a2,.int x2),(J0 a3,.int x3),(J0 a4,.int x4)]):=g1.same d _ ak rd;have gd:=xy.k (k:=(J0 kk:Ih)) hD
 have:dq [((J0 a1:Ih),V.int x1),(J0 a2,.int x2),(J0 a3,.int x3),(J0 a4,.int x4)] (J0 kk)=some (.int vv):=by
  have z:=mZ [(a1,x1),(a2,x2),(a3,x3),(a4,x4)] kk;rw[lk]at z;exact z
 rw[this]at gd;exact⟨d,.int vv,rfl,gd,h _ (.d (.int vv)) _ _ (g0.trans g1) (.int vv) trivial q1⟩
theorem hR(ps:List (Int×Int)):nc ps fa ρ=Hj (fa ρ) fun w=>aD (asI w) fun k=>aD (ps.lookup k) fun v=>ret (.d (.int v)):=by
 refine af fun Q=>?_;simp only[nc,Hj,ai,cN,ret]
end
end L2.VL
namespace L2.TI
section
variable{prog:Ju}{w:Kh}{A:Ko}{E:I0->Ja->Prop}{s:Ja}{t:Addr}{vs:List I0}{ns:List Int}{k:Int}{tok:Tok}{j:Nat}
theorem hU:∀{vs:List I0}{ns:List Int}{i:Nat}{n:Int},PP vs ns->ns[i]?=some n->∃u,vs[i]?=some (.int n u)
 | _,_,_,_,.nil,e=>by simp at e
 | _,_,0,_,.cons n t r,e=>by simp at e;subst e;exact⟨t,rfl⟩
 | _,_,i+1,_,.cons n t r,e=>by
   obtain⟨u,h⟩:=hU (i:=i) r (by simpa using e);exact⟨u,by simpa using h⟩
theorem scan{Q:Option Fin×Unit->Ja->Prop}(hI:PP vs ns)(hj:ns[j]?=some k)(hno:∀m,m<j->ns[m]?≠some k)(q:Q (some (.done (.ret (.int j s.toks))),()) {s with toks:=s.toks+1}) :
 ∀ len start:Nat,start<=j->j<start+len->Jr (JE prog w) A (forIn (List.range' start len) ((none,()):Option Fin×Unit) fun(i:Nat)(_:Option Fin×Unit) =>
   match vs.toArray[i]? with
   | some y=>do
     let b <- eqBool y (PZ k tok)
     if b=true then do
      let r <- retInt (i:Int)
      pure (ForInStep.done (some r,()))
     else pure (Mr (none,()))
   | _=>pure (Mr (none,()))) Q E s
 | 0,start,h1,h2=>by omega
 | len+1,start,h1,h2=>by
   rw[List.range'_succ,MV];have hl:start<ns.length:=by have:=(Jn.mp hj).1;omega
   obtain⟨u,hu⟩:=hU (i:=start) (n:=ns[start]) hI (Jd hl);have hv:vs.toArray[start]?=some (.int ns[start] u):=by simpa using hu
   refine IR ?_;rw[hv];refine IR (wpAny_eqBool_int ?_);by_cases e:ns[start]=k
   · have es:start=j:=by
       rcases Nat.lt_or_eq_of_le h1 with z|z
       · exact absurd (by rw[Jd hl,e]) (hno start z)
       · exact z
     subst es;rw[if_pos (by simpa using e)];exact IR (IR (QB (IZ (IZ (IZ q)))))
   · rw[if_neg (by simpa using e)];refine IZ ?_;have ne:start≠j:=fun z=>by subst z;rw[Jd hl]at hj;exact e (JK hj)
     exact scan hI hj hno q len (start+1) (by omega) (by omega)
theorem body{R:Qt->Ja->Prop}(tp:P6 s.heap t vs.toArray)(hI:PP vs ns)(hj:ns[j]?=some k)(hno:∀m,m<j->ns[m]?≠some k)
 (q:R (.ok (.ret (.int j s.toks))) {s with toks:=s.toks+1}) :
 Jr (JE prog w) A.in1 (Builtin.«tuple.index» ⟨[.ref t,.int k tok],[]⟩) (fun fin s'=>match fin with | .done f=>R (.ok f) s' | .again c'=>c'.quiet=true/\LF (JE prog w) A c' R s') (fun e s'=>R (.error e) s') s:=by
 unfold Builtin.«tuple.index»;show Jr _ _ (do let z <- My (.ref t);_) _ _ s;refine IR (NC tp ?_);refine IR (IZ (IR (IZ ?_)));dsimp only;rw[Std.Legacy.Range.forIn_eq_forIn_range']
 have hl:j<vs.toArray.size:=by
  have h1:=(Jn.mp hj).1;have h2:=hI.length;simp only[Jl];omega
 refine IR (scan hI hj hno ?_ _ 0 (J1 _) ?_)
 · exact IZ q
 · show j<0+Std.Legacy.Range.size _;simp[Std.Legacy.Range.size];simpa using hl
end
end L2.TI
namespace L2
section
variable{X:Cx}
end
end L2
namespace L2.VL
section
variable{X:Cx}{rl:RlT}{a b c o e:Expr}{es:List Expr}{fa fb:TV}{fs:HC}{pos p apos cpos:Pos}{ρ:En}
end
end L2.VL
namespace L2.RT
def DU(h:Heap)(r a:Addr)(i:Int):Prop:=∃o,h.get? r=some o/\o.cls = .type "reversed" /\ o.data = .fields #[.ref a,Oq i]
section
variable{prog:Ju}{w:Kh}{A:Ko}{E:I0->Ja->Prop}{s:Ja}
theorem DU.at{r:Addr}{i:Int}(x:DU h r a i)(e:∀o,h.get? r=some o->h'.get? r=some o):DU h' r a i:=let ⟨o,ho,z⟩:=x;⟨o,e _ ho,z⟩
end
end L2.RT
namespace L2
section
variable{X:Cx}{tg e:Expr}{ta te:TE}{p p2 pos:Pos}
end
end L2
namespace L2.VL
section
variable{X:Cx}{rl:RlT}{a b c e tg:Expr}{es:List Expr}{fa fb fc:TV}{fs:HC}{pos pos2 p p2 q:Pos}
end
end L2.VL
namespace L2
open L2.ZP
section
variable{X:Cx}{e1 e2:Expr}{elts:List Expr}{kt:Nat}{pt p pos:Pos}{ta:TA}
end
end L2
namespace L2.VL
section
variable{X:Cx}{rl:RlT}{a b:Expr}{elts:List Expr}{kt:Nat}{pt p pos:Pos}{fs:HC}
end
end L2.VL
namespace L2
abbrev GJ(elt t1 i1:Expr)(f1:List Expr)(t2 i2:Expr)(f2:List Expr)(scope:Scope)(pos:Pos):Expr:=.ListComp elt [⟨t1,i1,f1,0⟩,⟨t2,i2,f2,0⟩] scope pos
theorem uY(elt t1 i1:Expr)(f1:List Expr)(t2 i2:Expr)(f2:List Expr)(scope:Scope)(pos:Pos)(it acc:I0)(env:Env) :
 P4 (GJ elt t1 i1 f1 t2 i2 f2 scope pos) 0 it acc env=(OG i1.pos >>= fun _=>NJ it >>= fun r=>match r with
  | none=>pure (.done .next)
  | some v=>Ll t1 it v >>= fun _=>L0 t1 env v >>= fun _=>dj f1 env >>= fun ok=>(if ok=true then
      (eval i2 env >>= fun x=>OG i2.pos >>= fun _=>JI i2 env x >>= fun x=>NF [x] (Qb x) >>= fun y=>runOwn (.compStart (GJ elt t1 i1 f1 t2 i2 f2 scope pos) 1 y acc env) env >>= fun _=>OW (.compLoop (GJ elt t1 i1 f1 t2 i2 f2 scope pos) 0 it acc env))
      else OW (.compLoop (GJ elt t1 i1 f1 t2 i2 f2 scope pos) 0 it acc env))):=by rfl
theorem uX(elt t1 i1:Expr)(f1:List Expr)(t2 i2:Expr)(f2:List Expr)(scope:Scope)(pos:Pos)(it acc:I0)(env:Env) :
 P4 (GJ elt t1 i1 f1 t2 i2 f2 scope pos) 1 it acc env=(OG i2.pos >>= fun _=>NJ it >>= fun r=>match r with
  | none=>pure (.done .next)
  | some v=>Ll t2 it v >>= fun _=>L0 t2 env v >>= fun _=>dj f2 env >>= fun ok=>(if ok=true then
      ((eval elt env >>= fun x=>call (.builtin "list.append") [acc,x] >>= fun _=>pure ()) >>= fun _=>OW (.compLoop (GJ elt t1 i1 f1 t2 i2 f2 scope pos) 1 it acc env))
      else OW (.compLoop (GJ elt t1 i1 f1 t2 i2 f2 scope pos) 1 it acc env))):=by rfl
section
variable{prog:Ju}{w:Kh}{A:Ko}{R:Qt->Ja->Prop}{s:Ja}{elt t1 i1 t2 i2:Expr}{f1 f2:List Expr}{scope:Scope}{pos:Pos}{it acc:I0}{env:Env}
theorem we(I:Nat->Ja->Prop)(hs:∀x,JI i2 env x=pure x)
 (turn:∀n s,I n s->Jr (JE prog w) A (NJ it) (fun r s₁=>(r=none/\R (.ok .next) s₁)\/∃v,r=some v /\
  Jr (JE prog w) A (Ll t1 it v) (fun _ s₂=>Jr (JE prog w) A (L0 t1 env v) (fun _ s₃=>Jr (JE prog w) A (dj f1 env) (fun ok s₄ =>
   if ok=true then Jr (JE prog w) A (eval i2 env) (fun x s₅=>Jr (JE prog w) A (Qb x) (fun y s₆=>LF (JE prog w) A (.compStart (GJ elt t1 i1 f1 t2 i2 f2 scope pos) 1 y acc env) (fun r s₇=>r = .ok .next/\∃m,m<n/\I m s₇) s₆) (fun _ _=>False) s₅) (fun _ _=>False) s₄
   else ∃m,m<n/\I m s₄) (fun _ _=>False) s₃) (fun _ _=>False) s₂) (fun _ _=>False) s₁) (fun _ _=>False) s)
 (n:Nat)(h:I n s):LF (JE prog w) A (.compLoop (GJ elt t1 i1 f1 t2 i2 f2 scope pos) 0 it acc env) R s:=by
 refine Pa rfl I (fun n s hI=>?_) n h;show Jr _ A ((P4 (GJ elt t1 i1 f1 t2 i2 f2 scope pos) 0 it acc env).onRaise (fun x=>do P5 x env;NM x)) _ _ s;refine PQ ?_;rw[uY];refine IR (K7 (IR (JO (turn n s hI) (fun r s₁ h₁=>?_) fun _ _ h'=>h'.elim)));rcases h₁ with⟨rfl,h₁⟩|⟨v,rfl,h₁⟩
 · exact IZ h₁
 · refine IR (JO h₁ (fun _ s₂ h₂=>IR (JO h₂ (fun _ s₃ h₃=>IR (JO h₃ (fun ok s₄ h₄=>?_) fun _ _ z=>z.elim)) fun _ _ z=>z.elim)) fun _ _ z=>z.elim)
   cases ok with
   | false=>exact IZ ⟨rfl,h₄⟩
   | true =>
     refine IR (JO h₄ (fun x s₅ h₅=>IR (K7 (IR (OI (hs x) (IR (Lr (JO h₅ (fun y s₆ h₆=>?_) fun _ _ z=>z.elim))))))) fun _ _ z=>z.elim);refine IR (wpAny_runOwn (N6 h₆ fun r s₇ ⟨hr,h₇⟩=>?_));subst hr;exact IZ ⟨rfl,h₇⟩
theorem wd(I:Nat->Ja->Prop)
 (turn:∀n s,I n s->Jr (JE prog w) A (NJ it) (fun r s₁=>(r=none/\R (.ok .next) s₁)\/∃v,r=some v /\
  Jr (JE prog w) A (Ll t2 it v) (fun _ s₂=>Jr (JE prog w) A (L0 t2 env v) (fun _ s₃=>Jr (JE prog w) A (dj f2 env) (fun ok s₄ =>
   if ok=true then Jr (JE prog w) A (eval elt env) (fun x s₅=>Jr (JE prog w) A (call (.builtin "list.append") [acc,x]) (fun _ s₆=>∃m,m<n/\I m s₆) (fun _ _=>False) s₅) (fun _ _=>False) s₄
   else ∃m,m<n/\I m s₄) (fun _ _=>False) s₃) (fun _ _=>False) s₂) (fun _ _=>False) s₁) (fun _ _=>False) s)
 (n:Nat)(h:I n s):LF (JE prog w) A (.compLoop (GJ elt t1 i1 f1 t2 i2 f2 scope pos) 1 it acc env) R s:=by
 refine Pa rfl I (fun n s hI=>?_) n h;show Jr _ A ((P4 (GJ elt t1 i1 f1 t2 i2 f2 scope pos) 1 it acc env).onRaise (fun x=>do P5 x env;NM x)) _ _ s;refine PQ ?_;rw[uX];refine IR (K7 (IR (JO (turn n s hI) (fun r s₁ h₁=>?_) fun _ _ h'=>h'.elim)));rcases h₁ with⟨rfl,h₁⟩|⟨v,rfl,h₁⟩
 · exact IZ h₁
 · refine IR (JO h₁ (fun _ s₂ h₂=>IR (JO h₂ (fun _ s₃ h₃=>IR (JO h₃ (fun ok s₄ h₄=>?_) fun _ _ z=>z.elim)) fun _ _ z=>z.elim)) fun _ _ z=>z.elim)
   cases ok with
   | false=>exact IZ ⟨rfl,h₄⟩
   | true=>exact IR (IR (JO h₄ (fun x s₅ h₅=>IR (JO h₅ (fun _ s₆ h₆=>IZ (IZ ⟨rfl,h₆⟩)) fun _ _ z=>z.elim)) fun _ _ z=>z.elim))
theorem qN
 (h0:LF (JE prog w) A (.compLoop (GJ elt t1 i1 f1 t2 i2 f2 scope pos) 1 it acc env) R s)
 (h:Jr (JE prog w) A (Qb it) (fun it' s'=>LF (JE prog w) A (.compLoop (GJ elt t1 i1 f1 t2 i2 f2 scope pos) 1 it' acc env) R s') (notedBy (JE prog w) A env fun x s'=>R (.error x) s') s) :
 LF (JE prog w) A (.compStart (GJ elt t1 i1 f1 t2 i2 f2 scope pos) 1 it acc env) R s:=by
 refine codeAny_of_tree ?_;show Jr _ _ ((compStart (GJ elt t1 i1 f1 t2 i2 f2 scope pos) 1 it acc env).onRaise (fun x=>do P5 x env;OG theWindowsPlace)) _ _ s;refine wpAny_notedAt ?_;unfold compStart;show Jr _ _ (ask >>= _) _ _ s;refine IR (wpAny_askSetting (wpAny_ite ?_));split
 · first
     | exact IR (IZ (IZ (IS rfl h0)))
     | exact IZ (IS rfl h0)
 · first
     | exact IR (MK (IR (K7 (IR (JO h (fun it' s' h'=>IZ (IS rfl h')) fun _ _ x=>x)))))
     | (refine IR (MK ?_);show Jr _ _ (OG i2.pos >>= _) _ _ s;exact IR (K7 (IR (JO h (fun it' s' h'=>IZ (IS rfl h')) fun _ _ x=>x))))
end
def FJ(wi:TI)(g:TG)(tt:TT)(te:TE)(D:Addr)(acc:List V)(σ:St)(H:Hp)(R:List V->St->Hp->Prop):Prop:=wi σ H fun J H1=>∃Wv:Nat->Nat->List V->St->Hp->Prop,(∃m,Wv 0 m acc σ H1) /\
 ∀ i m acc σc H,Wv i m acc σc H->(J.stop i H/\R acc σc H)\/(J.go i H/\∀x H',J.yld i H x H'->g x σc H' fun σ2 H2=>tt σ2 H2 fun b H3 =>
   if b=true then te σ2 H3 fun y H4=>H4 D=some (.lst acc)/\acc.length<sizeLine/\∃m',m'<m/\Wv (i+1) m' (acc++[y]) σ2 (upd H4 D (.lst (acc++[y])))else ∃m',m'<m/\Wv (i+1) m' acc σ2 H3)
section
variable{Y:Cx}{elt t1 i1 t2 i2:Expr}{f1 f2:List Expr}{scope:Scope}{pos:Pos}{wi:TI}{g:TG}{tt:TT}{te:TE}{D:Addr}
theorem zW(hc:Y.calm=true)(hx:Y.xe=fun _ _=>False)(hi:PI Y t2 i2 wi)(hg:PG Y t2 g)(ht:HS Y f2 tt)(he:PE Y elt te){acc:List V}{R:List V->St->Hp->Prop}{Rp:Ja->Prop}
 (I:Inv Y pins σ H s)(q:FJ wi g tt te D acc σ H R)(fin:∀acc σ5 H5 s5,Inv Y pins σ5 H5 s5->R acc σ5 H5->Rp s5) :
 Jr (JE Y.prog Y.w) Y.A (eval i2 Y.env) (fun x s₅=>Jr (JE Y.prog Y.w) Y.A (Qb x) (fun y s₆=>LF (JE Y.prog Y.w) Y.A (.compStart (GJ elt t1 i1 f1 t2 i2 f2 scope pos) 1 y (.ref D) Y.env) (fun r s₇=>r = .ok .next/\Rp s₇) s₆) (fun _ _=>False) s₅) (fun _ _=>False) s:=by
 have hi':=hi pins s σ H _ I q;rw[hx]at hi';refine FB hi' fun v s1 h1=>FB h1 fun itv s2 h2=>?_;obtain⟨it,fp,tn,J,H2,e,I2,T,st2,f2',Wv,⟨m0,w0⟩,turn⟩:=h2;subst e;have stat:∀{H':Hp},(∀b∈fp,H' b=none)->∀b∈fp,jf Y pins H' b:=fun hn b hb=>⟨hn b hb,(f2' b hb).2⟩
 have loop:LF (JE Y.prog Y.w) Y.A (.compLoop (GJ elt t1 i1 f1 t2 i2 f2 scope pos) 1 (.ref it) (.ref D) Y.env) (fun r s₇=>r = .ok .next/\Rp s₇) s2:=by
  refine wd (fun n s'=>∃i acc σ' H',Inv Y pins σ' H' s'/\tn i s'.heap/\(∀b∈fp,H' b=none)/\Wv i n acc σ' H') ?_ m0 ⟨0,acc,σ,H2,I2,st2,fun b hb=>(f2' b hb).1,w0⟩;rintro n s4 ⟨i,acc,σ4,H4,I4,st4,fr4,w4⟩;rcases turn i n acc σ4 H4 w4 with⟨stop,qn⟩|⟨go,step⟩
  · exact FB (T.done Y rfl rfl rfl hc i pins s4 σ4 H4 (fun _ _=>False) I4 (stat fr4) st4 stop) fun r s5 ⟨hr,I5⟩=>.inl ⟨hr,rfl,fin acc σ4 H4 s5 I5 qn⟩
  · refine FB (T.item Y rfl rfl rfl hc i pins s4 σ4 H4 (fun _ _=>False) I4 (stat fr4) st4 go) fun r s5 ⟨u,hr,h5⟩=>.inr ⟨u,hr,?_⟩;refine FB h5 fun _ s6 ⟨x,H6,I6,r6,y6,st6,fr6⟩=>?_;have I6':=I6.pinned (stat fr6) (T.obj _ _ st6)
    have OW:∀{σ7:St}{H7:Hp}{s7:Ja},Inv Y (pins++eB fp s6.heap) σ7 H7 s7->∀{acc':List V}{m':Nat},m'<n->Wv (i+1) m' acc' σ7 H7 ->
     ∃m,m<n/\∃i acc σ' H',Inv Y pins σ' H' s7/\tn i s7.heap/\(∀b∈fp,H' b=none)/\Wv i m acc σ' H':=fun{σ7 H7 s7} I7 {acc' m'} hm w7=>by
     refine⟨m',hm,i+1,acc',σ7,H7,I7.unpinned,T.keep _ _ _ st6 fun b hb o e=>(I7.pin (b,o) (Jq _ (Jq _ (bq hb e)))).1,fun b hb=>?_,w7⟩;obtain⟨o,e,d⟩:=T.obj _ _ st6 b hb;exact(I7.pin (b,o) (Jq _ (Jq _ (bq hb e)))).2.1
    have h7:=hg _ s6 σ4 H6 x u _ I6' r6 (step x H6 y6);rw[hx]at h7;refine FB h7 fun _ s7 ⟨σ7,H7,I7,q7⟩=>?_;have h8:=ht _ s7 σ7 H7 _ I7 q7;rw[hx]at h8;refine FB h8 fun ok s8 ⟨H8,I8,q8⟩=>?_
    cases ok with
    | false =>
      rw[if_neg J5]at q8 ⊢;obtain⟨m',hm,w8⟩:=q8
      exact OW I8 hm w8
    | true =>
      rw[if_pos rfl]at q8 ⊢;have h9:=he _ s8 σ7 H8 _ I8 q8;rw[hx]at h9;refine FB h9 fun y s9 ⟨yv,H9,I9,r9,eD,hl,m',hm,w9⟩=>?_;have h10:=dC (X:=Y) _ s9 σ7 H9 (.ref D) [yv] (.ref D) [y] (fun _ H'=>H'=upd H9 D (.lst (acc++[yv]))) I9 rfl (.cons r9 .nil) ⟨D,acc,yv,rfl,rfl,eD,hl,rfl⟩;rw[hx]at h10;exact FB h10 fun _ s10 ⟨_,H10,I10,_,e10⟩=>by subst e10;exact OW I10 hm w9
 exact qN loop (T.self Y.A 0 _ _ _ st2 loop)
end
def tG(wi:TI)(fr:List (Option Nat))(g:CompA->TG)(tt:CompA->TT)(wj:CompA->TI)(g2:CompA->TG)(tt2:CompA->TT)(te:CompA->TE):TE:=fun σ H Q=>wi σ H fun J H1=>∀D,H1 D=none->∃Wv:Nat->Nat->List V->St->Hp->Prop,(∃m,Wv 0 m [] (jO fr σ) (upd H1 D (.lst []))) /\
 ∀ (z:CompA) i m acc σc H,Wv i m acc σc H->(J.stop i H/\Q (.ref D) H)\/(J.go i H/\∀x H',J.yld i H x H'->g z x σc H' fun σ2 H2=>tt z σ2 H2 fun b H3 =>
   if b=true then FJ (wj z) (g2 z) (tt2 z) (te z) D acc σ2 H3 fun acc' σ5 H5=>∃m',m'<m/\Wv (i+1) m' acc' σ5 H5 else ∃m',m'<m/\Wv (i+1) m' acc σ2 H3)
section
variable{Y:Cx}{elt t1 i1 t2 i2:Expr}{f1 f2:List Expr}{scope:Scope}{pos:Pos}{wj:TI}{g g2:TG}{tt tt2:TT}{te:TE}{D:Addr}
theorem zi(hc:Y.calm=true)(hx:Y.xe=fun _ _=>False)(hg:PG Y t1 g)(ht:HS Y f1 tt)(hj:PI Y t2 i2 wj)(hg2:PG Y t2 g2)(ht2:HS Y f2 tt2)(he:PE Y elt te)(hs:∀x,JI i2 Y.env x=pure x)
 {J:It}{Q:VK}(T:Turn Y.prog Y.w Y.K t1 J fp it tn)(I:Inv Y [] σ H s)(st0:tn 0 s.heap)(fp0:∀b∈fp,H b=none)(stat:∀{H':Hp},(∀b∈fp,H' b=none)->∀b∈fp,jf Y [] H' b)
 {Wv:Nat->Nat->List V->St->Hp->Prop}{m0:Nat}(w0:Wv 0 m0 [] σ H)
 (turn:∀i m acc σc H,Wv i m acc σc H->(J.stop i H/\Q (.ref D) H)\/(J.go i H/\∀x H',J.yld i H x H'->g x σc H' fun σ2 H2=>tt σ2 H2 fun b H3 =>
  if b=true then FJ wj g2 tt2 te D acc σ2 H3 fun acc' σ5 H5=>∃m',m'<m/\Wv (i+1) m' acc' σ5 H5 else ∃m',m'<m/\Wv (i+1) m' acc σ2 H3)) :
 LF (JE Y.prog Y.w) Y.A (.compStart (GJ elt t1 i1 f1 t2 i2 f2 scope pos) 0 (.ref it) (.ref D) Y.env) (fun r s5=>r = .ok .next/\∃σ5 H4,Inv Y [] σ5 H4 s5/\Q (.ref D) H4) s:=by
 have loop:LF (JE Y.prog Y.w) Y.A (.compLoop (GJ elt t1 i1 f1 t2 i2 f2 scope pos) 0 (.ref it) (.ref D) Y.env) (fun r s5=>r = .ok .next/\∃σ5 H4,Inv Y [] σ5 H4 s5/\Q (.ref D) H4) s:=by
  refine we (fun n s'=>∃i acc σ' H',Inv Y [] σ' H' s'/\tn i s'.heap/\(∀b∈fp,H' b=none)/\Wv i n acc σ' H') hs ?_ m0 ⟨0,[],_,_,I,st0,fp0,w0⟩;rintro n s4 ⟨i,acc,σ4,H4,I4,st4,fr4,w4⟩;rcases turn i n acc σ4 H4 w4 with⟨stop,qn⟩|⟨go,step⟩
  · exact FB (T.done Y rfl rfl rfl hc i [] s4 σ4 H4 (fun _ _=>False) I4 (stat fr4) st4 stop) fun r s5 ⟨hr,I5⟩=>.inl ⟨hr,rfl,σ4,H4,I5,qn⟩
  · refine FB (T.item Y rfl rfl rfl hc i [] s4 σ4 H4 (fun _ _=>False) I4 (stat fr4) st4 go) fun r s5 ⟨u,hr,h5⟩=>.inr ⟨u,hr,?_⟩;refine FB h5 fun _ s6 ⟨x,H6,I6,r6,y6,st6,fr6⟩=>?_;have I6':=I6.pinned (stat fr6) (T.obj _ _ st6)
    have OW:∀{σ7:St}{H7:Hp}{s7:Ja},Inv Y ([]++eB fp s6.heap) σ7 H7 s7->∀{acc':List V}{m':Nat},m'<n->Wv (i+1) m' acc' σ7 H7 ->
     ∃m,m<n/\∃i acc σ' H',Inv Y [] σ' H' s7/\tn i s7.heap/\(∀b∈fp,H' b=none)/\Wv i m acc σ' H':=fun{σ7 H7 s7} I7 {acc' m'} hm w7=>by
     refine⟨m',hm,i+1,acc',σ7,H7,I7.unpinned,T.keep _ _ _ st6 fun b hb o e=>(I7.pin (b,o) (Jq _ (Jq _ (bq hb e)))).1,fun b hb=>?_,w7⟩;obtain⟨o,e,d⟩:=T.obj _ _ st6 b hb;exact(I7.pin (b,o) (Jq _ (Jq _ (bq hb e)))).2.1
    have h7:=hg _ s6 σ4 H6 x u _ I6' r6 (step x H6 y6);rw[hx]at h7;refine FB h7 fun _ s7 ⟨σ7,H7,I7,q7⟩=>?_;have h8:=ht _ s7 σ7 H7 _ I7 q7;rw[hx]at h8;refine FB h8 fun ok s8 ⟨H8,I8,q8⟩=>?_
    cases ok with
    | false =>
      rw[if_neg J5]at q8 ⊢;obtain⟨m',hm,w8⟩:=q8
      exact OW I8 hm w8
    | true =>
      rw[if_pos rfl]at q8 ⊢;exact zW hc hx hj hg2 ht2 he I8 q8 fun acc' σ9 H9 s9 I9 ⟨m',hm,w9⟩=>OW I9 hm w9
 exact OZ loop (T.self Y.A 0 _ _ _ st0 loop)
end
section
variable{X:Cx}{elt t1 i1 t2 i2:Expr}{f1 f2:List Expr}{scope:Scope}{pos:Pos}{wi:TI}{wj:CompA->TI}{g g2:CompA->TG}{tt tt2:CompA->TT}{te:CompA->TE}
theorem mK.get{scope scX:Scope}(hsc:mK scope scX=true):scope.kind = .function/\(∀y∈scope.names,y.2 = .cell->scope.names.lookup y.1=some .cell)/\(∀y∈scope.names,y.2 = .local->scope.names.lookup y.1=some .local) /\
 ∀y∈scope.names,y.2 = .free->scX.names.lookup y.1=some .cell\/scX.names.lookup y.1=some .free:=by
 obtain⟨sk,sn⟩:=Je.mp hsc;have hall:=Lo.mp sn;refine⟨of_decide_eq_true sk,fun y hy hl=>?_,fun y hy hl=>?_,fun y hy hl=>?_⟩
 · rcases Jx.mp (Je.mp (Je.mp (hall y hy)).1).1 with z|z
   · exact absurd hl (of_decide_eq_true z)
   · exact of_decide_eq_true z
 · rcases Jx.mp (Je.mp (Je.mp (hall y hy)).1).2 with z|z
   · exact absurd hl (of_decide_eq_true z)
   · exact of_decide_eq_true z
 · rcases Jx.mp (Je.mp (hall y hy)).2 with z|z
   · exact absurd hl (of_decide_eq_true z)
   · exact(Jx.mp z).imp of_decide_eq_true of_decide_eq_true
theorem oH(N':List Str)(fr:List (Option Nat))(hc:X.calm=true)(hi:PI X t1 i1 wi)(hfr:mC fr N' X.N scope X.env.scope=true)(hsc:mK scope X.env.scope=true)
 (hg:∀y,PG (blk X N' scope y) t1 (g y))(ht:∀y,HS (blk X N' scope y) f1 (tt y))(hj:∀y,PI (blk X N' scope y) t2 i2 (wj y))(hg2:∀y,PG (blk X N' scope y) t2 (g2 y))(ht2:∀y,HS (blk X N' scope y) f2 (tt2 y))(he:∀y,PE (blk X N' scope y) elt (te y))
 (hs:∀x,JI i1 X.env x=pure x:=by intro _;rfl)(hs2:∀y x,JI i2 (blk X N' scope y).env x=pure x:=by intro _ _;rfl):PE X (GJ elt t1 i1 f1 t2 i2 f2 scope pos) (tG wi fr g tt wj g2 tt2 te):=by
 intro pins s σ H Q I h;obtain⟨hkind,hcell,hnames,hfree⟩:=mK.get hsc;obtain⟨frl,frg⟩:=mC.get hfr;obtain⟨cl,hclos,cl1,cl2⟩:=b9 (env:=X.env) (scope:=scope) fun y hy hl=>I.ok.has y.1 (hfree y hy hl);rw[eval_ListComp];refine Lm (use:=none) rfl hs hclos hkind hnames (FB (hi pins s σ H _ I h) fun v s1 h1=>FB h1 fun itv s2 h2=>?_);obtain⟨it,fp,tn,J,H2,e,I2,T,st2,f2,q2⟩:=h2;subst e;refine JX ?_;have hD:H2 s2.heap.objs.size=none:=I2.hok.fresh (Jb _)
 have I3:Inv X pins σ (upd H2 s2.heap.objs.size (.lst [])) {s2 with heap:=s2.heap.push {cls:=.type "list", data:=.seq ([]:List I0).toArray}} :=
  I2.laid (t':=s2.toks) (fun b u e=>IW _ e) (Jb _) ⟨by show 0<=sizeLine;exact J1 _,[],0,.nil,Jk _ rfl⟩
 obtain⟨Wv,⟨m0,w0⟩,turn⟩:=q2 _ hD;have tn3:tn 0 (s2.heap.push {cls:=.type "list", data:=.seq ([]:List I0).toArray}):=T.keep _ _ _ st2 fun b _ o e=>IW _ e
 have fpD:∀b∈fp,(upd H2 s2.heap.objs.size (.lst [])) b=none:=fun b hb=>by
  obtain⟨o,e,_⟩:=T.obj _ _ st2 b hb;rw[ag (JS (Jg e))];exact(f2 b hb).1
 have fp3:∀b∈fp,b<(s2.heap.push {cls:=.type "list", data:=.seq ([]:List I0).toArray}).objs.size:=fun b hb=>by
  obtain⟨o,e,_⟩:=T.obj _ _ tn3 b hb;exact Jg e
 exact fP N' fr hc hkind hcell hfree frl frg cl1 cl2 I3 T tn3 fpD fp3 (fun b hb=>(f2 b hb).2)
  (fun s' IY tY stat=>zi (Y:=blk X N' scope ⟨cl,fp,X.pn++pins,_,_⟩) hc rfl (hg ⟨cl,fp,X.pn++pins,_,_⟩) (ht ⟨cl,fp,X.pn++pins,_,_⟩) (hj ⟨cl,fp,X.pn++pins,_,_⟩) (hg2 ⟨cl,fp,X.pn++pins,_,_⟩) (ht2 ⟨cl,fp,X.pn++pins,_,_⟩) (he ⟨cl,fp,X.pn++pins,_,_⟩) (hs2 ⟨cl,fp,X.pn++pins,_,_⟩) T IY tY fpD stat w0 (turn ⟨cl,fp,X.pn++pins,_,_⟩))
  (Rp:=Qp (JE X.prog X.w) X.A X.xe none (EP X pins σ Q) (.ref s2.heap.objs.size)) fun s5 H4 m hn k _ qn=>⟨m,hn,fun h' hs'=>⟨.ref _,H4,k h' hs',rfl,qn⟩⟩
end
end L2
namespace L2.VL
def qH(ρ0:En)(g:HG)(ft:TB)(fj:En->(List IQ->Prop)->Prop)(g2:HG)(ft2:TB)(fe:TV):List IQ->List IQ->(List IQ->Prop)->Prop
 | [],acc,Q=>Q acc
 | x::xs,acc,Q=>g x ρ0 fun ρ2=>Le ρ0 ρ2/\ft ρ2 fun b=>if b=true then fj ρ2 fun ys=>kr ρ2 g2 ft2 fe ys acc fun acc'=>qH ρ0 g ft fj g2 ft2 fe xs acc' Q else qH ρ0 g ft fj g2 ft2 fe xs acc Q
def nu(fi:En->(List IQ->Prop)->Prop)(fr:List (Option Nat))(g:HG)(ft:TB)(fj:En->(List IQ->Prop)->Prop)(g2:HG)(ft2:TB)(fe:TV):TV:=fun ρ Q=>fi ρ fun xs=>qH (dn fr ρ) g ft fj g2 ft2 fe xs [] fun ds=>Q (.ml ds)
section
variable{X:Cx}{rl:RlT}{elt t1 i1 t2 i2:Expr}{f1 f2:List Expr}{scope:Scope}{pos:Pos}{fi fj:En->(List IQ->Prop)->Prop}{g g2:HG}{ft ft2:TB}{fe:TV}
theorem rP{N':List Str}{wi:TI}(fr:List (Option Nat))(k0:∀{F₀ H₀ F H:Hp}{σ:St}{ρ:En},VR X.K rl F₀ H₀ F H σ ρ->∀(Qd:List IQ->Prop)(R:It->Hp->Prop),fi ρ Qd ->
 (∀J xs F' H',Grow rl F H F' H'->VIt X.K rl F' J xs->Qd xs->R J H')->wi σ H R)
 (hg:∀y,H_ (blk X N' scope y) rl t1 g)(ht:∀y,ql (blk X N' scope y) rl f1 ft)(hj:∀y,HY (blk X N' scope y) rl t2 i2 fj)(hg2:∀y,H_ (blk X N' scope y) rl t2 g2)(ht2:∀y,ql (blk X N' scope y) rl f2 ft2)(he:∀y,PV (blk X N' scope y) rl elt fe)
 (R:VR X.K rl F₀ H₀ F H σ ρ)(Qd:W->Prop)(Q:VK)(q:nu fi fr g ft fj g2 ft2 fe ρ Qd)
 (k:∀v w F' H',Grow rl F H F' H'->cu X.K rl F' H' v w->cO H v w->Qd w->Q v H') :
 tG wi fr (fun y=>Jw (hg y)) (fun y=>Jw (ht y)) (fun y=>Jw (hj y)) (fun y=>Jw (hg2 y)) (fun y=>Jw (ht2 y)) (fun y=>Jw (he y)) σ H Q:=by
 refine k0 R _ _ q fun J xs F1 H1 g1 vi q1=>?_;intro D hD;have rD:rl.a≠some D:=fun e=>by obtain⟨o,z⟩:=g1.reel.live e;rw[hD]at z;cases z
 have FD:F1 D=none:=g1.sub.free hD;have gD:Grow rl F1 H1 F1 (upd H1 D (.lst [])):=Grow.laid g1.sub g1.reel hD;have R1:=R.grow g1;have n0:mI (dn fr ρ):=db;have keepD:∀{acc:List V}{Fc Hc Fx Hx:Hp},Hc D=some (.lst acc)->Fc D=none->Grow rl Fc Hc Fx Hx->Hx D=some (.lst acc)/\Fx D=none:=fun hDc fDc gx=>⟨gx.same D _ hDc rD,by rw[gx.old D _ hDc];exact fDc⟩
 refine⟨fun i m acc σc Hc=>m=xs.length-i/\i<=xs.length/\∃Fc ds,VR X.K rl F1 H1 Fc Hc σc (dn fr ρ)/\Hc D=some (.lst acc)/\Fc D=none/\Reps X.K Fc acc ds/\qH (dn fr ρ) g ft fj g2 ft2 fe (xs.drop i) ds (fun ds=>Qd (.ml ds)),
  ⟨xs.length,by simp,J1 _,F1,[],eJ R1 gD,ak,FD,.nil,by simpa using q1⟩,?_⟩
 rintro z i m acc σc Hc ⟨rfl,hi,Fc,ds,Rc,hDc,fDc,rs,q2⟩;have sH:bm F1 Hc:=Rc.g.fs.trans Rc.sub;by_cases hlt:i<xs.length
 · have ei:xs[i]?=some xs[i]:=by simp[hlt]
   have ed:xs.drop i=xs[i]::xs.drop (i+1):=Kj hlt;rw[ed]at q2;refine .inr ⟨vi.go i Hc _ ei sH,fun v H' y=>?_⟩;obtain⟨Fy,gy,rv⟩:=vi.yld i Hc v H' _ Fc ei Rc.g.fs Rc.sub Rc.reel y;refine(IU (hg z)).2 (Rc.grow gy) v _ _ _ rv q2 fun F3 H3 σ3 ρ3 g3 n3 R3 ⟨le3,q3⟩=>?_;refine(IU (ht z)).2 R3 _ _ q3 fun b F4 H4 g4 q4=>?_;have R4:=R3.grow g4;have g34:=(gy.trans g3).trans g4;have nm3:mI ρ3:=n3 n0
   cases b with
   | false=>exact⟨xs.length-(i+1),by omega,rfl,hlt,F4,ds,R4.le le3,(keepD hDc fDc g34).1,(keepD hDc fDc g34).2,rs.mono g34.fs,q4⟩
   | true =>
     refine(IU (hj z)).2 R4 _ _ q4 fun J2 ys F5 H5 g5 vi2 q5=>?_;have g35:=g34.trans g5
     refine⟨fun j m acc σe He=>m=ys.length-j/\j<=ys.length/\∃Fe es,VR X.K rl F1 H1 Fe He σe ρ3/\bm F5 Fe/\He D=some (.lst acc)/\Fe D=none/\Reps X.K Fe acc es /\
      kr ρ3 g2 ft2 fe (ys.drop j) es (fun es=>qH (dn fr ρ) g ft fj g2 ft2 fe (xs.drop (i+1)) es (fun ds=>Qd (.ml ds))),
      ⟨ys.length,by simp,J1 _,F5,ds,R4.grow g5,.refl _,(keepD hDc fDc g35).1,(keepD hDc fDc g35).2,rs.mono g35.fs,by simpa using q5⟩,?_⟩
     rintro j m acc2 σe He ⟨rfl,hj',Fe,es,Re,s5,hDe,fDe,res,q6⟩;have sHe:bm F5 He:=s5.trans Re.sub;by_cases hlt2:j<ys.length
     · have ej:ys[j]?=some ys[j]:=by simp[hlt2]
       have edj:ys.drop j=ys[j]::ys.drop (j+1):=Kj hlt2;rw[edj]at q6;refine .inr ⟨vi2.go j He _ ej sHe,fun v2 H2' y2=>?_⟩;obtain⟨Fy2,gy2,rv2⟩:=vi2.yld j He v2 H2' _ Fe ej s5 Re.sub Re.reel y2;refine(IU (hg2 z)).2 (Re.grow gy2) v2 _ _ _ rv2 q6 fun F7 H7 σ7 ρ7 g7 n7 R7 ⟨le7,q7⟩=>?_;refine(IU (ht2 z)).2 R7 _ _ q7 fun b2 F8 H8 g8 q8=>?_;have R8:=R7.grow g8;have g78:=(gy2.trans g7).trans g8
       cases b2 with
       | false=>exact⟨ys.length-(j+1),by omega,rfl,hlt2,F8,es,R8.le le7,s5.trans g78.fs,(keepD hDe fDe g78).1,(keepD hDe fDe g78).2,res.mono g78.fs,q8⟩
       | true =>
         refine(IU (he z)).2 R8 _ _ q8 fun v9 w9 F9 H9 g9 r9 n9 ⟨d,ed9,hl,q9⟩=>?_;obtain⟨F10,g10,s10,r10⟩:=cu.fz g9 r9 n9;rw[ed9]at r10;have g710:=g78.trans g10;refine⟨(keepD hDe fDe g710).1,by rw[res.length];exact hl,ys.length-(j+1),by omega,rfl,hlt2,F10,es++[d],((R8.grow g10).le le7).other nm3 hD (keepD hDe fDe g710).2 rD,s5.trans g710.fs,ak,(keepD hDe fDe g710).2,(res.mono g710.fs).snoc r10,q9⟩
     · have e:j=ys.length:=by omega
       subst e;rw[Lp]at q6;exact .inl ⟨vi2.stop _ He (Jb _) sHe,xs.length-(i+1),by omega,rfl,hlt,Fe,es,Re.le le3,hDe,fDe,res,q6⟩
 · have e:i=xs.length:=by omega
   subst e;rw[Lp]at q2;refine .inl ⟨vi.stop _ Hc (Jb _) sH,k _ (.ml ds) Fc Hc (g1.trans Rc.g) ⟨D,acc,rfl,fDc,rD,hDc,rs⟩ (fun a ea=>by cases ea;exact g1.freeB hD) q2⟩
theorem qC(N':List Str)(fr:List (Option Nat))(hc:X.calm=true)(hi:HY X rl t1 i1 fi)
 (hg:∀y,H_ (blk X N' scope y) rl t1 g)(ht:∀y,ql (blk X N' scope y) rl f1 ft)(hj:∀y,HY (blk X N' scope y) rl t2 i2 fj)(hg2:∀y,H_ (blk X N' scope y) rl t2 g2)(ht2:∀y,ql (blk X N' scope y) rl f2 ft2)(he:∀y,PV (blk X N' scope y) rl elt fe)
 (hfr:mC fr N' X.N scope X.env.scope=true:=by rfl)(hsc:mK scope X.env.scope=true:=by rfl)
 (hs:∀x,JI i1 X.env x=pure x:=by intro _;rfl)(hs2:∀y x,JI i2 (blk X N' scope y).env x=pure x:=by intro _ _;rfl):PV X rl (.ListComp elt [⟨t1,i1,f1,0⟩,⟨t2,i2,f2,0⟩] scope pos) (nu fi fr g ft fj g2 ft2 fe):=by
 obtain⟨wi,p0,k0⟩:=hi
 exact⟨_,oH N' fr hc p0 hfr hsc (fun y=>(IU (hg y)).1) (fun y=>(IU (ht y)).1) (fun y=>(IU (hj y)).1) (fun y=>(IU (hg2 y)).1) (fun y=>(IU (ht2 y)).1) (fun y=>(IU (he y)).1) hs hs2,
  fun R Qd Q q k=>rP fr k0 hg ht hj hg2 ht2 he R Qd Q q k⟩
end
def t6(ρ0:En)(g:HG)(ft:TB)(fj:En->(List IQ->Prop)->Prop)(g2:HG)(ft2:TB)(fe:TV)(x:IQ)(acc:List IQ):Mo (List IQ) :=
 Hj (g x ρ0) fun ρ2=>GW (Le ρ0 ρ2) (Hj (ft ρ2) fun b=>if b=true then Hj (fj ρ2) fun ys=>bH (GM ρ2 g2 ft2 fe) ys acc else ret acc)
def dN(b:IQ->List IQ->Mo (List IQ)):List IQ->List IQ->Mo (List IQ)
 | [],acc=>ret acc
 | x::xs,acc=>Hj (b x acc) (dN b xs)
theorem lx(ρ0:En)(g:HG)(ft:TB)(fj:En->(List IQ->Prop)->Prop)(g2:HG)(ft2:TB)(fe:TV):∀(xs acc:List IQ),qH ρ0 g ft fj g2 ft2 fe xs acc=dN (t6 ρ0 g ft fj g2 ft2 fe) xs acc
 | [],acc=>rfl
 | x::xs,acc=>by
   refine af fun Q=>?_;show(g x ρ0 fun ρ2=>Le ρ0 ρ2/\ft ρ2 fun b=>if b=true then fj ρ2 fun ys=>kr ρ2 g2 ft2 fe ys acc fun acc'=>qH ρ0 g ft fj g2 ft2 fe xs acc' Q else qH ρ0 g ft fj g2 ft2 fe xs acc Q)↔(Hj (t6 ρ0 g ft fj g2 ft2 fe x acc) (dN (t6 ρ0 g ft fj g2 ft2 fe) xs)) Q;simp only[lx ρ0 g ft fj g2 ft2 fe xs,ib]
   have:∀(ρ2:En)(b:Bool),(if b=true then fj ρ2 fun ys=>bH (GM ρ2 g2 ft2 fe) ys acc fun acc'=>dN (t6 ρ0 g ft fj g2 ft2 fe) xs acc' Q else dN (t6 ρ0 g ft fj g2 ft2 fe) xs acc Q)
    = (Hj (if b=true then Hj (fj ρ2) fun ys=>bH (GM ρ2 g2 ft2 fe) ys acc else ret acc) (dN (t6 ρ0 g ft fj g2 ft2 fe) xs)) Q:=by
    intro ρ2 b;cases b<;>rfl
   simp only[this];exact M3
theorem m_comp2(fi:En->(List IQ->Prop)->Prop)(fr:List (Option Nat))(g:HG)(ft:TB)(fj:En->(List IQ->Prop)->Prop)(g2:HG)(ft2:TB)(fe:TV)(ρ:En) :
 nu fi fr g ft fj g2 ft2 fe ρ=Hj (fi ρ) fun xs=>Hj (dN (t6 (dn fr ρ) g ft fj g2 ft2 fe) xs []) fun ds=>ret (.ml ds):=by
 refine af fun Q=>?_;show(fi ρ fun xs=>qH (dn fr ρ) g ft fj g2 ft2 fe xs [] fun ds=>Q (.ml ds))↔_;simp only[lx];exact M3
section
variable{α β:Type}{b:IQ->Mo (Option IQ)}
theorem jS{c:IQ->List IQ->Mo (List IQ)}{xs:List α}{enc:α->IQ}(F:α->List IQ)(h:∀x∈xs,∀acc:List IQ,acc.length+(F x).length<=sizeLine->c (enc x) acc=ret (acc++F x)) :
 ∀acc:List IQ,acc.length+(xs.flatMap F).length<=sizeLine->dN c (xs.map enc) acc=ret (acc++xs.flatMap F):=by
 induction xs with
 | nil=>intro acc _;show ret acc=_;simp
 | cons x xs ih =>
   intro acc hl;rw[KW,JH]at hl;show Hj (c (enc x) acc) _=_;rw[h x IV acc (by omega),bnd_ret,ih (fun y my=>h y (IT _ my)) (acc++F x) (by rw[JH];omega),KW,Ov]
theorem CG{γ:Type}{c:IQ->List IQ->Mo (List IQ)}{k:List IQ->Mo γ}{Q:γ->Prop}{xs:List α}{enc:α->IQ}(F:α->List IQ)(hx:xs'=xs.map enc)
 (h:∀x∈xs,∀acc:List IQ,acc.length+(F x).length<=sizeLine->c (enc x) acc=ret (acc++F x))(hl:(xs.flatMap F).length<=sizeLine)(fin:k (xs.flatMap F) Q):Hj (dN c xs' []) k Q:=by
 subst hx;rw[jS F h [] (by simpa using hl),bnd_ret];simpa using fin
end
def IP:=IS @m_comp2 (@bnd_ret)
section
variable{X:Cx}{rl:RlT}{a b c o e:Expr}{es:List Expr}{fa fb:TV}{fs:HC}{pos p apos cpos:Pos}{ρ:En}
end
end L2.VL
namespace L2
theorem cF:P7 (.type "tuple") (dunderI "add")=pure none:=by
 have e:dunderI "add" = "__iadd__" := by decide
 rw[e,typeLookup_type,builtinLookup_eq_fast];kernel_rfl
section
variable{prog:Ju}{w:Kh}{A:Ko}{E:I0->Ja->Prop}{s:Ja}
theorem cI{T id:String}{B:Builtin}{a b:I0}{S:PySem.Spec}(ha:s.TypeIs a T)(hb:s.TypeIs b T)(hno:P7 (.type T) (dunderI "add")=pure none)
 (hfill:fillsNumberSlot (.type T) "add" = pure false)(hseq:seqSlot? (.type T) "__add__" = pure (some (.builtin id)))(slot:Slot T "__add__" id)
 (entry:entryFor table id=some B)(args:argsOk id ⟨[a,b],[]⟩)(g:Meets (B ⟨[a,b],[]⟩) S)(h:S A (wants Q E) s):Jr (JE prog w) A (Qr .Add a b) Q E s :=
 wpAny_inplaceOp_concat ha hb hno hfill hseq (Nj slot ha entry args g h)
theorem rW{t b:Addr}{vs ws:List I0}(ht:P6 s.heap t vs.toArray)(hb:P6 s.heap b ws.toArray)(hv:vs≠[])
 (h1:ws=[]->Q (.ref t) s)(h2:ws≠[]->Q (.ref s.heap.objs.size) {s with heap:=s.heap.push {cls:=.type "tuple", data:=.seq (vs++ws).toArray}})
 (hsz:vs.length+ws.length<=sizeLine):Jr (JE prog w) A (Qr .Add (.ref t) (.ref b)) Q E s:=by
 obtain⟨⟨cls,dd,data,sl⟩,ho,hc,n,hd⟩:=id ht;obtain⟨⟨cls2,dd2,data2,sl2⟩,ho2,hc2,n2,hd2⟩:=id hb;simp only at hc hd hc2 hd2;subst hc hd hc2 hd2;have e:vs.toArray++ws.toArray=(vs++ws).toArray:=by simp
 by_cases hw:ws=[]
 · exact cI ⟨_,ho,rfl⟩ ⟨_,ho2,rfl⟩ cF Me MS Lc K9 (K5 _ _)
     (tuple_addW1 t b vs.toArray ws.toArray n n2 dd dd2 sl sl2 (by simpa using hv) (by simp[hw])) ⟨ho,ho2,h1 hw⟩
 · refine cI ⟨_,ho,rfl⟩ ⟨_,ho2,rfl⟩ cF Me MS Lc K9 (K5 _ _)
     (tuple_addW2 t b vs.toArray ws.toArray n n2 dd dd2 sl sl2 (by simpa using hv) (by simpa using hw) (by rw[Jl,Jl];exact hsz)) ⟨ho,ho2,?_⟩
   rw[e];exact h2 hw
end
section
variable{X:Cx}
theorem wB:HX X .Add (vt X.K):=by
 intro pins s σ H x y v u Q I rx ry h;rcases h with h|h
 · obtain⟨a,b,xs,ys,rfl,rfl,ha,hb,hx,hz,q1,q2⟩:=h;cases rx;cases ry;obtain⟨its,r1,p1,_⟩:=I.tuple ha;obtain⟨its2,r2,p2,_⟩:=I.tuple hb;refine rW p1 p2 (fun z=>hx (r1.nil_iff.mp z)) (fun z=>⟨.ref a,H,I,rfl,q1 (r2.nil_iff.mp z)⟩) (fun z=>?_) (by rw[<- r1.length,<- r2.length];exact hz);refine⟨.ref s.heap.objs.size,_,I.laid (t':=s.toks) (o:=.tup (xs++ys)) (fun b ob q=>IW _ q) (Jb _) ?_,rfl,q2 (fun w=>z (r2.nil_iff.mpr w)) _ (I.hok.fresh (Jb _))⟩;exact⟨by rw[JH];exact hz,_,r1.append r2,qm.new _ _⟩
 · obtain⟨a,b,ys,rfl,rfl,ha,hb,q⟩:=h;cases rx;cases ry;obtain⟨its,r1,p1,_⟩:=I.tuple ha;obtain⟨its2,r2,p2,_⟩:=I.tuple hb;cases r1;obtain⟨⟨c1,d1,e1,sl1⟩,ho,hc,n,hd⟩:=p1;obtain⟨⟨c2,d2,e2,sl2⟩,ho2,hc2,n2,hd2⟩:=p2;cases hc;cases hd;cases hc2;cases hd2
   exact cI ⟨_,ho,rfl⟩ ⟨_,ho2,rfl⟩ cF Me MS Lc K9 (K5 _ _)
    (tuple_addW0 a b _ its2.toArray n n2 d1 d2 sl1 sl2 rfl) ⟨ho,ho2,⟨.ref b,H,I,rfl,q⟩⟩
end
end L2
namespace L2.VL
section
variable{X:Cx}{rl:RlT}{e:Expr}{fa:TV}{pos:Pos}{ρ:En}
def uT(i:Nat)(fa:TV):HD:=fun D ρ=>∃xs,ρ[i]?=some (some (.d (.tuple xs)))/\fa ρ fun w=>∃ys,w = .d (.tuple ys)/\xs.length+ys.length<=sizeLine/\D.nx (ρ.set i (some (.d (.tuple (xs++ys)))))
theorem ux(i:Nat){x:Str}(hN:X.N.Nodup)(he:PV X rl e fa)(hi:X.N[i]?=some x:=by rfl)(hx:Loc X.env.scope x:=by first|exact KH rfl|exact J8 rfl)
 (hf:X.fn x=true\/X.env.scope.names.lookup x=some .local:=by first|exact .inl rfl|exact .inr rfl):HV X rl (.AugAssign (.Name x pos') .Add e pos) (uT i fa):=by
 obtain⟨t,p,k⟩:=he;refine⟨_,y7 hN hi hx p wB hf,fun{F₀ H₀ F H σ ρ} R Dv D ok ⟨xs,e1,q⟩=>?_⟩;obtain⟨v,s1,r1,_⟩:=R.sl i _ e1;refine⟨_,s1,k R _ _ q fun v2 w2 F1 H1 g1 r2 n1 ⟨ys,ew,hz,q1⟩=>?_⟩;subst ew;have R1:=R.grow g1;refine mU (wx:=.d (.tuple xs)) (wy:=.d (.tuple ys)) (fun w=>w = .d (.tuple (xs++ys))) _ g1.sub R1.reel (r1.grow g1) r2 ⟨xs,ys,rfl,rfl,hz,rfl⟩ fun v' w' F2 H2 g2 r' n' ew=>?_;subst ew;exact ok.nx _ _ _ _ (g1.fs.trans g2.fs) (R1.set g2 r' n' (fun _ z=>by cases z) i) q1
def FU(ρ:En)(i:Nat):Option (List IQ):=((ρ[i]?).join).bind Ho
theorem yH{i:Nat}{n:List IQ}:FU ρ i=some n↔ρ[i]?=some (some (.d (.tuple n))):=by
 unfold FU
 cases h:ρ[i]? with
 | none=>simp
 | some o=>cases o with
   | none=>simp
   | some w=>simp[jc]
theorem tM(i:Nat):mS (uT i fa) ρ=aD (FU ρ i) fun n=>Hj (fa ρ) fun w=>aD (Ho w) fun m=>GW (n.length+m.length<=sizeLine) (ret (.nx (ρ.set i (some (.d (.tuple (n++m))))))):=by
 refine af fun Q=>?_;simp only[mS,uT,Hj,ai,yH,jc,GW,ret]
end
section
variable{X:Cx}{rl:RlT}{a b e:Expr}{fa fb:TV}{pos:Pos}{ρ:En}
end
end L2.VL
namespace L2
section
variable{X:Cx}
theorem pQ(hc:X.calm=true):dg X (.builtin "sum") (fun xs H Q=>∃(p:Addr)(ns:List Int),xs=[.ref p]/\HI X.K H p (ns.map V.int)/\Q (.int ns.sum) H):=by
 intro pins s σ H xs us Q I r ⟨p,ns,ex,hq,q⟩;subst ex;obtain⟨u,rfl,ru⟩:=vals1 r;cases ru;obtain⟨its,rv,pl,hz⟩:=I.tuple hq;have hl:=rv.length;rw[I_]at hl;have it:s.heap.IsTuple p its.toArray:=pl;refine call_sum_walkG (N4 it ?_);obtain⟨o,ho,ho2⟩:=pl;have ne:p≠s.heap.objs.size:=JS (Jg ho);refine⟨s.heap.objs.size,_,_,_,_,_,fun i=>ns.getD i 0,rfl,Walks.tuple (A:=X.A.in1) (I.ok.hd hc) s.heap.objs.size p ne its.toArray,⟨⟨_,Jk _ rfl,rfl,rfl⟩,⟨o,IW _ ho,ho2⟩⟩,?_,?_,?_⟩
 · intro b hb;have hb:b=s.heap.objs.size\/b=p:=by simpa using hb
   show b<(Heap.push _ _).objs.size;rw[KC];rcases hb with rfl|rfl
   · exact Nat.lt_succ_self _
   · exact Nat.lt_succ_of_lt (Jg ho)
 · intro i v hP;exact hU rv (by simpa using hP)
 · intro h' tk t' k;have e:preSum (fun i=>ns.getD i 0) its.toArray.size=ns.sum:=by rw[Jl,<- hl];exact preSum_eq ns
   rw[e];exact⟨.int _,H,I.kept (t':=tk) fun b o eb=>k b o (by simp;exact JS (Jg eb)) (IW _ eb),⟨t',rfl⟩,q⟩
end
end L2
namespace L2.VL
section
variable{X:Cx}{rl:RlT}{a e:Expr}{fs:HC}{pos p:Pos}
def wJ:List W->(W->Prop)->Prop:=fun ws Q=>∃(ns:List Int),ws=[.d (.tuple (ns.map .int))]/\Q (.d (.int ns.sum))
theorem uE:dP X rl (fun xs H Q=>∃(p:Addr)(ns:List Int),xs=[.ref p]/\HI X.K H p (ns.map V.int)/\Q (.int ns.sum) H) wJ:=fun{F H vs ws} Qd Q s ra r ⟨ns,ew,q⟩ k=>by
 subst ew;obtain⟨v,rfl,r1⟩:=mL r
 cases(show Rep X.K F v (.tuple (ns.map .int))from r1)with
 | @tup a us _ sq rs =>
   have e:=kH rs;subst e;exact⟨a,ns,rfl,cR s sq,k _ (.d _) _ _ (Grow.refl s ra) (.int _) trivial q⟩
theorem sZ(hm:X.mg "sum" = none)(ha:HQ X rl [a] fs)(hc:X.calm=true:=by rfl)(hg:Gl X "sum" := by rfl)(he:Jc [a] X.env=(false,eval a X.env)::Jc [] X.env:=by rfl)(hpl:(KB pos (Jc [] X.env)).any (·.1)=false:=by rfl) :
 PV X rl (.Call (.Name "sum" p) [a] [] pos) (cr wJ fs):=dS (pQ hc) uE hm (by rfl) ha hg (by decide) (by decide) he hpl
def mj:IQ->Option (List Int)
 | .tuple xs=>gb xs
 | _=>none
theorem ll{ns:List Int}:mj d=some ns↔d = .tuple (ns.map .int):=by
 constructor
 · intro h
   cases d with
   | tuple xs=>rw[hW h]
   | _=>cases h
 · rintro rfl;exact intsD_map _
theorem oU(w:W):wJ [w]=aD (asD w) fun d=>aD (mj d) fun ns=>ret (.d (.int ns.sum)):=by
 refine af fun Q=>?_;simp only[ai,cX,ll,ret];constructor
 · rintro⟨ns,e,q⟩;cases e;exact⟨_,rfl,ns,rfl,q⟩
 · rintro⟨d,e,ns,e2,q⟩;subst e e2;exact⟨ns,rfl,q⟩
theorem hV(ns:List Int):mj (.tuple (ns.map .int))=some ns:=intsD_map ns
end
end L2.VL
namespace L2.ZP
section
variable{prog:Ju}{w:Kh}{A:Ko}{E:I0->Ja->Prop}{s:Ja}{z it a:Addr}{k:Nat}{xs:Array I0}{x p:I0}{b:Bool}
abbrev e2(h:Heap)(b:Bool)(a:Addr):Heap:=(y1 h b a).push {cls:=.type "enumerate", data:=.fields #[.none,.bool false,.ref h.objs.size,Oq 0,.none,.none]}
theorem sE(b:Bool)(a:Addr)(o:Obj)(xs:Array I0)(hr:∀h:Heap,h.get? a=some o->HL b h a xs) :
 Meets (Builtin.«enumerate.__new__» ⟨[.type "enumerate", .ref a],[]⟩) (fun _ R s=>s.heap.get? a=some o/\R (.ok (.ret (.ref (y1 s.heap b a).objs.size))) {s with heap:=e2 s.heap b a}) :=
 .of_wp fun prog w A R s h=>by
  obtain⟨hp,g,d,tk,os⟩:=s;obtain⟨l0,h⟩:=h;have hsub:=sub_enumerate;have k1:HL b (QA ⟨hp,g,d,tk,os⟩) a xs:=hr _ l0
  wp_walk using MP l0
  refine wpAny_stack_any fun st=>IZ ?_;split
  · rename_i c _ _ _ _ _;cases(c==I0.type "enumerate")<;>(wp_walk using MP l0,rS k1;exact⟨_,rfl,h⟩)
  · wp_walk using MP l0,rS k1
    exact⟨_,rfl,h⟩
theorem HL.obj(q:HL b h a xs):∃o,h.get? a=some o/\∀h':Heap,h'.get? a=some o->HL b h' a xs:=by
 cases b with
 | true=>obtain⟨o,h1,r⟩:=(show h.IsTuple a xs from q);exact⟨o,h1,fun h' e=>⟨o,e,r⟩⟩
 | false=>obtain⟨o,h1,r⟩:=(show h.IsList a xs from q);exact⟨o,h1,fun h' e=>⟨o,e,r⟩⟩
theorem pV(q1:HL b s.heap a xs)
 (done:∀g,QC g (s.heap.objs.size+1) s.heap.objs.size 0 .none->Ix g s.heap.objs.size a xs 0->g.objs.size=s.heap.objs.size+2->(∀c o,s.heap.get? c=some o->g.get? c=some o)->Q (.ref (s.heap.objs.size+1)) {s with heap:=g}) :
 Jr (JE prog w) A (call (.type "enumerate") [.ref a]) Q E s:=by
 obtain⟨o,h1,hr⟩:=q1.obj;refine callType_new F.called_enumerate (by decide) (F.typeCall_enumerate_1 _) (F.newCall_enumerate_1 _) (fun u=>F.args_object_init_2 u _) F.entry_enumerate_new (sE b a o xs hr) ⟨h1,?_⟩;have n1:(y1 s.heap b a).objs.size=s.heap.objs.size+1:=KC ..;have n2:(e2 s.heap b a).objs.size=s.heap.objs.size+2:=by rw[KC,n1]
 have pu:∀{h:Heap}{o u:Obj}{c:Addr},h.get? c=some u->(h.push o).get? c=some u:=fun e=>IW _ e;have kp:∀c o,s.heap.get? c=some o->(e2 s.heap b a).get? c=some o:=fun c o e=>pu (pu e);have f2:(e2 s.heap b a).get? (y1 s.heap b a).objs.size=some _:=Jk _ rfl;have f1:(e2 s.heap b a).get? s.heap.objs.size=some _:=pu (Jk _ rfl);show _/\_;rw[n1]at f2;rw[n1]
 have mk:Ix (e2 s.heap b a) s.heap.objs.size a xs 0:=by
  have e:=hr _ (kp _ _ h1)
  cases b with
  | true=>exact .inr ⟨⟨_,f1,rfl,rfl⟩,e⟩
  | false=>exact .inl ⟨⟨_,f1,rfl,rfl⟩,e⟩
 exact⟨⟨_,f2,rfl⟩,done _ f2 mk n2 kp⟩
theorem wN(oz:QC s.heap z it k p)(s1:Ix s.heap it a xs k)(ex:xs[k]?=some x)(ne:z≠it)(nz:a≠z)(ni:a≠it)
 (done:∀g,IsEnumOut g z it ((k:Int)+1) x s.heap.objs.size->Ix g it a xs (k+1)->g.get? s.heap.objs.size=some {cls:=.type "tuple", data:=.seq #[.int k s.toks,x]}->g.objs.size=s.heap.objs.size+1 ->
  (∀b o,b≠z->b≠it->s.heap.get? b=some o->g.get? b=some o)->Q (.ref s.heap.objs.size) {s with heap:=g,toks:=s.toks+1}) :
 Jr (JE prog w) A (Builtin.«enumerate.__next__» ⟨[.ref z],[]⟩) (fun r s'=>∃u,r = .done (.ret u)/\Q u s') E s:=by
 show Jr _ _ (do let c <- Qy (.ref z) 2;_) _ _ _;refine IR (Kv oz rfl (x:=.ref it) rfl ?_);refine IR (s1.item ni ex fun g1 s1a b1=>?_);have z1:QC g1 z it k p:=b1.extBut _ _ ne oz;show Jr _ _ (do let c <- Qy (.ref z) 3;_) _ _ _;refine IR (Kv z1 rfl (x:=Oq k) rfl ?_);show Jr _ _ (do let c <- Qy (.ref z) 4;_) _ _ _;refine IR (Kv z1 rfl (x:=.none) rfl ?_);show Jr _ _ (do let c <- mkInt k;_) _ _ _;refine IR (QB ?_);show Jr _ _ (do setField (.ref z) 3 (Oq ((k:Int)+1));_) _ _ _;refine IR (KE z1 (by simp) fun g2 z2 b2=>?_);have z2:QC g2 z it ((k:Int)+1) p:=z2;show Jr _ _ (do setField (.ref z) 4 .none;_) _ _ _;refine IR (KE z2 (by simp) fun g3 z3 b3=>?_);have z3:QC g3 z it ((k:Int)+1) p:=z3;have size:g3.objs.size=s.heap.objs.size:=by rw[b3.1,b2.1,b1.1]
 have s3:Ix g3 it a xs (k+1):=(s1a.keep (SameBut.keep b2 ne.symm) (SameBut.keep b2 nz)).keep (SameBut.keep b3 ne.symm) (SameBut.keep b3 nz);have k3:∀b o,b≠z->b≠it->s.heap.get? b=some o->g3.get? b=some o:=fun b o n1 n2 e=>b3.extBut _ _ n1 (b2.extBut _ _ n1 (b1.extBut _ _ n2 e));have zl:z<g3.objs.size:=Jg z3;show Jr _ _ (do let c <- newTuple [.int k s.toks,x];_) _ _ _;refine IR (wpAny_newTuple ?_);have z4:QC (g3.push {cls:=.type "tuple", data:=.seq #[.int k s.toks,x]}) z it ((k:Int)+1) p:=IW _ z3;show Jr _ _ (do let c <- Kn (.ref z);_) _ _ _;refine IR ?_;unfold Kn;refine IR (Kv z4 rfl (x:=LI) rfl (IZ ?_));simp only[if_true];refine IR (MK (IR (Kv z4 rfl (x:=p) rfl (IR (KE z4 (by simp) fun g5 z5 b5=>?_)))));have z5:QC g5 z it ((k:Int)+1) x:=z5;show Jr _ _ (do K1 (.ref z) (.ref g3.objs.size);_) _ _ _;refine IR ?_;unfold K1;refine IR (KE z5 (by simp) fun g6 z6 b6=>?_);have z6:IsEnumOut g6 z it ((k:Int)+1) x g3.objs.size:=z6;refine KE z6 (by simp) fun g7 z7 b7=>?_;have z7:IsEnumOut g7 z it ((k:Int)+1) x g3.objs.size:=z7;have up:∀b o,b≠z->g3.get? b=some o->g7.get? b=some o:=fun b o n e=>b7.extBut _ _ n (b6.extBut _ _ n (b5.extBut _ _ n (IW _ e)))
 have t7:g7.get? g3.objs.size=some {cls:=.type "tuple", data:=.seq #[.int k s.toks,x]} :=
  b7.extBut _ _ (Mq zl) (b6.extBut _ _ (Mq zl) (b5.extBut _ _ (Mq zl) (Jk _ rfl)))
 have l7:g7.objs.size=g3.objs.size+1:=by rw[b7.1,b6.1,b5.1,KC]
 rw[size]at z7 t7 l7;refine IR (OL (IZ ⟨_,rfl,?_⟩));show Q (.ref g3.objs.size) _;rw[size];exact done g7 z7 (s3.keep (fun o e=>up _ o ne.symm e) fun o e=>up _ o nz e) t7 l7 fun b o n1 n2 e=>up b o n1 (k3 b o n1 n2 e)
end
end L2.ZP
namespace L2
open PySem PySem.Spec PyProof.Rows L2.ZP
def Iq(K:W.Frag)(b:Bool)(a:Addr):It :=
 ⟨fun i H=>∃xs x,HK b K H a xs/\xs[i]?=some x,
  fun i H v H'=>∃x p,(∀xs,HK b K H a xs->xs[i]?=some x)/\H p=none/\v = .ref p/\H'=upd H p (.tup [.int i,x]),
  fun i H=>∃xs,HK b K H a xs/\xs.length<=i⟩
def ES(b:Bool)(z it a:Addr)(i:Nat)(h:Heap):Prop:=(∃p,QC h z it i p)/\Iz b h it a i
theorem nH{w:Kh}{K:W.Frag}{elts:List Expr}{kt:Nat}{pt:Pos}(b:Bool)(z it a:Addr)(ne:z≠it)(nz:a≠z)(ni:a≠it) :
 Turn P w K (.Tuple elts kt pt) (Iq K b a) [z,it] z (ES b z it a) where
 mem:=by simp
 obj:=fun i h ⟨⟨p,h1⟩,h4⟩ c hb=>by
  simp at hb;rcases hb with rfl|rfl
  · exact⟨_,h1,fun v c=>by cases c⟩
  · exact h4.obj
 keep:=fun i h h' ⟨⟨p,h1⟩,h4⟩ k=>⟨⟨p,k z (by simp) _ h1⟩,h4.keep fun o e=>k it (by simp) o e⟩
 item:=by
  intro X hP hw hK hc i pins s σ H E I hf st hg;subst hP hw hK;obtain⟨⟨p,h1⟩,h4⟩:=st;obtain⟨xs,x,q1,ex⟩:=hg;obtain⟨its,r1,t1⟩:=I.sqB q1;obtain⟨u,hu,ru⟩:=r1.get ex;have ty:s.TypeIs (.ref z) "enumerate" := ⟨_,h1,rfl⟩;unfold NJ
  refine IR (MZ (JV (name:=Str.ofString "__next__") ty F.slot_enumerate_next (Kx F.slot_enumerate_next ty F.entry_enumerate_next
   (wN h1 (h4.it1 t1) (by simpa using hu) ne nz ni fun g e1 e3 e5 e6 e7=>IZ ?_) (F.args_enumerate_next_1 _))))
  have hz:s.heap.objs.size≠z:=Mq (Jg h1);refine⟨.ref s.heap.objs.size,rfl,wpAny_letOwnedTupleGo_enum e1 fun g' f1 fb=>?_⟩;have hp:H s.heap.objs.size=none:=I.hok.fresh (Jb _)
  have I1:Inv X pins σ (upd H s.heap.objs.size (.tup [.int i,x])) {s with heap:=s.heap.push {cls:=.type "tuple", data:=.seq [.int i s.toks,u].toArray},toks:=s.toks+1} :=
   I.laid (t':=s.toks+1) (o:=.tup [.int i,x]) (fun b ob e=>IW _ e) (Jb _) ⟨(by show 2<=sizeLine;decide),[.int i s.toks,u],.cons ⟨_,rfl⟩ (.cons ru .nil),qm.new _ _⟩
  have ne':∀b∈[z,it],b≠s.heap.objs.size:=fun b hb e=>by
   simp at hb;rcases hb with rfl|rfl
   · exact hz e.symm
   · obtain⟨o,ho,_⟩:=h4.obj;exact absurd (Jg ho) (by rw[e];exact Ki _)
  have kg:∀b o,b∉[z,it]->(s.heap.push {cls:=.type "tuple", data:=.seq [.int i s.toks,u].toArray}).get? b=some o->g'.get? b=some o:=fun b o hb e=>by
   simp at hb;obtain⟨n1,n2⟩:=hb;refine fb.extBut _ _ n1 ?_;by_cases hbn:b=s.heap.objs.size
   · subst hbn;rw[Jk _ rfl]at e;cases e;exact e5
   · exact e7 b o n1 n2 (by rw[Heap.get?_push_ne _ _ _ hbn]at e;exact e)
  have fp1:∀b∈[z,it],jf X pins (upd H s.heap.objs.size (.tup [.int i,x])) b:=fun b hb=>by
   obtain⟨f0,fr⟩:=hf b hb;exact⟨by rw[ag (ne' b hb)];exact f0,fr⟩
  have I2:Inv X pins σ (upd H s.heap.objs.size (.tup [.int i,x])) {s with heap:=g',toks:=s.toks+1}:=I1.turnedL (t':=s.toks+1) kg fp1;have k8:∀b o,b≠z->g.get? b=some o->g'.get? b=some o:=fun b o n e=>fb.extBut _ _ n e;have t1':HL b g a its.toArray:=HL.of t1 fun o e=>e7 _ o nz ni e;refine⟨.ref s.heap.objs.size,_,I2,rfl,⟨x,_,fun xs' q'=>by rw[I.sqB_inj q' q1];exact ex,hp,rfl,rfl⟩,⟨⟨_,by simpa using f1⟩,(Ix.ir e3 h4 t1').keep fun o e=>k8 _ o ne.symm e⟩,fun b hb=>(fp1 b hb).1⟩
 done:=by
  intro X hP hw hK hc i pins s σ H E I hf st hg;subst hP hw hK;obtain⟨⟨p,h1⟩,h4⟩:=st;obtain⟨xs,q1,ex⟩:=hg;obtain⟨its,r1,t1⟩:=I.sqB q1;have l1:=r1.length;have ty:s.TypeIs (.ref z) "enumerate" := ⟨_,h1,rfl⟩;unfold NJ;refine IR (MZ (JV (name:=Str.ofString "__next__") ty F.slot_enumerate_next (Kx F.slot_enumerate_next ty F.entry_enumerate_next ?_ (F.args_enumerate_next_1 _))));show Jr _ _ (do let c <- Qy (.ref z) 2;_) _ _ _;refine IR (Kv h1 rfl (x:=.ref it) rfl ?_);refine IR ((h4.it1 t1).fin (I.ok.hd hc) (by simp;omega) fun g e kg ⟨o,ho,hoc⟩=>?_);refine IR (OQ (T := "StopIteration") (b:=true) ⟨o,ho,hoc⟩ PH (IZ ⟨rfl,?_⟩));exact I.turnedL (t':=s.toks) (fun b o hb e=>by simp at hb;exact kg b o hb.2 e) hf
 self:=fun _ _ _ _ _ st h=>by
  obtain⟨⟨p,h1⟩,_⟩:=st;exact wpAny_pyIter_enum h1 h
section
variable{X:Cx}{e1:Expr}{ta:TA}{elts:List Expr}{kt:Nat}{pt p pos:Pos}
def Ew(K:W.Frag)(b:Bool)(t:TA):TI:=fun σ H R=>t σ H fun vs H1=>∃a xs,vs=[.ref a]/\HK b K H1 a xs/\R (Iq K b a) H1
theorem vN(b:Bool)(hg:Gl X "enumerate")(hm:X.mg "enumerate" = none)(ha:PA X [e1] ta)(hs:Jc [e1] X.env=(false,eval e1 X.env)::Jc [] X.env:=by rfl)(hpl:(KB pos (Jc [] X.env)).any (·.1)=false:=by rfl) :
 PI X (.Tuple elts kt pt) (.Call (.Name "enumerate" p) [e1] [] pos) (Ew X.K b ta):=by
 intro pins s σ H R I h;refine Call_ (fG I hg hm (by rfl) (KR (FB (ha pos pins s σ H _ I h) fun us s1 ⟨vs,H1,I1,r1,q1⟩=>?_) hs hpl) (by decide) (by decide));obtain⟨a,xs,ev,q1,q⟩:=q1;subst ev
 cases r1 with
 | cons r rr =>
   cases rr;cases r;obtain⟨its,v1,t1⟩:=I1.sqB q1;refine pV t1 fun g f1 f4 f6 kp=>wpAny_pyIter_enum f1 ?_
   have l1:a<s1.heap.objs.size:=by
    obtain⟨o,ho,_⟩:=t1.obj;exact Jg ho
   have I2:Inv X pins σ H1 {s1 with heap:=g}:=I1.kept (t':=s1.toks) kp
   have ir:Iz b g s1.heap.objs.size a 0:=by
    have r':=HL.of t1 fun o e=>kp _ o e
    cases b with
    | true =>
      rcases f4 with⟨_,⟨o,e,c,_⟩⟩|⟨q,_⟩
      · obtain⟨o',e',c',_⟩:=(show g.IsTuple a _ from r');rw[e]at e';cases e';rw[c]at c';injection c' with z;exact absurd z (by decide)
      · exact q
    | false =>
      rcases f4 with⟨q,_⟩|⟨_,⟨o,e,c,_⟩⟩
      · exact q
      · obtain⟨o',e',c',_⟩:=(show g.IsList a _ from r');rw[e]at e';cases e';rw[c]at c';injection c' with z;exact absurd z (by decide)
   refine⟨_,[s1.heap.objs.size+1,s1.heap.objs.size],_,_,H1,rfl,I2,nH b _ _ a (by simp) (JS (Nat.lt_succ_of_lt l1)) (JS l1),⟨⟨_,f1⟩,ir⟩,fun b hb=>?_,q⟩
   have hb':s1.heap.objs.size<=b:=by
    simp at hb;rcases hb with rfl|rfl
    · exact MF _ 1
    · exact Jb _
   exact I1.fpOk hb' (I1.hok.fresh hb')
end
end L2
namespace L2.VL
section
variable{X:Cx}{rl:RlT}{a:Expr}{elts:List Expr}{kt:Nat}{pt p pos:Pos}{fs:HC}
def fL(xs:List IQ):List IQ:=xs.zipIdx.map fun z=>.tuple [.int (z.2:Nat),z.1]
theorem iS{i:Nat}(h:(fL xs)[i]?=some d):∃x,xs[i]?=some x/\d = .tuple [.int (i:Nat),x]:=by
 unfold fL at h;rw[JY,List.getElem?_zipIdx]at h
 cases ex:xs[i]? with
 | none=>rw[ex]at h;cases h
 | some x=>rw[ex]at h;simp at h;exact⟨x,rfl,h.symm⟩
def GT(b:Bool)(fs:HC):En->(List IQ->Prop)->Prop:=fun ρ Q=>fs ρ fun ws=>∃dx xs,ws=[.d dx]/\eh dx=some xs/\dF dx=b/\Q (fL xs)
theorem uC(b:Bool)(hm:X.mg "enumerate" = none)(ha:HQ X rl [a] fs)(hg:Gl X "enumerate" := by rfl)(hs:Jc [a] X.env=(false,eval a X.env)::Jc [] X.env:=by rfl)(hpl:(KB pos (Jc [] X.env)).any (·.1)=false:=by rfl) :
 HY X rl (.Tuple elts kt pt) (.Call (.Name "enumerate" p) [a] [] pos) (GT b fs):=by
 obtain⟨t,p1,k⟩:=ha;refine⟨_,vN b hg hm p1 hs hpl,fun R Qd Q q h=>k R _ _ q fun vs ws F1 H1 g1 r1 ⟨dx,xs,ew,e1,kb1,q1⟩=>?_⟩;subst ew kb1;obtain⟨v,rfl,rv⟩:=mL r1;obtain⟨a1,vs,rfl,rs,sq1⟩:=oa rv e1;refine⟨a1,vs,rfl,sq1 _ g1.sub,h _ (fL xs) F1 H1 g1 ⟨fun i H x e s=>?_,fun i H hl s=>?_,fun i H v H' x F2 e s s2 ra y=>?_⟩ q1⟩
 · obtain⟨x1,ex,_⟩:=iS e;obtain⟨v1,ev1,_⟩:=rs.get ex;exact⟨vs,v1,sq1 _ s,ev1⟩
 · refine⟨vs,sq1 _ s,?_⟩;unfold fL at hl;rw[I_,Of]at hl;rw[rs.length];omega
 · obtain⟨x1,ex,ed⟩:=iS e;obtain⟨vx,pp,hx,hp,ev,eH⟩:=y;obtain⟨v1,ev1,rv1⟩:=rs.get ex;have h1:=hx vs (sq1 _ (s.trans s2));rw[ev1]at h1;cases h1;subst ev eH ed;have g:=Grow.data (a:=pp) (o:=.tup [.int (i:Nat),vx]) s2 ra hp;exact⟨_,g,.tup (.inl (.inl ak)) (.cons (.int _) (.cons ((rv1.mono s).mono g.fs) .nil))⟩
theorem dt(hm:X.mg "enumerate" = none)(ha:HQ X rl [a] fs)(hg:Gl X "enumerate" := by rfl)(hs:Jc [a] X.env=(false,eval a X.env)::Jc [] X.env:=by rfl)(hpl:(KB pos (Jc [] X.env)).any (·.1)=false:=by rfl) :
 HY X rl (.Tuple elts kt pt) (.Call (.Name "enumerate" p) [a] [] pos) (GT true fs):=uC true hm ha hg hs hpl
end
def AY(ws:List W):Option (List IQ):=match ws with
 | [.d (.tuple xs)]=>some (fL xs)
 | _=>none
theorem tW{fs:HC}:GT true fs ρ=Hj (fs ρ) fun ws=>aD (AY ws) ret:=by
 show(Hj (fs ρ) fun ws=>fun(Q:List IQ->Prop)=>∃dx xs,ws=[.d dx]/\eh dx=some xs/\dF dx=true/\Q (fL xs))=_;congr 1;funext ws;refine af fun Q=>?_;simp only[ai,ret];constructor
 · rintro⟨dx,xs,rfl,a,b,q⟩
   cases dx with
   | tuple ys=>cases a;exact⟨_,rfl,q⟩
   | _=>cases b
 · rintro⟨zs,e,q⟩;unfold AY at e;split at e
   · cases e;exact⟨_,_,rfl,rfl,rfl,q⟩
   · cases e
theorem iR(xs:List α)(enc:α->IQ):fL (xs.map enc)=xs.zipIdx.map fun z=>JM [.int (z.2:Nat),enc z.1]:=by
 unfold fL;rw[List.zipIdx_map,Kf];rfl
section
variable{α β:Type}{b:IQ->Mo (Option IQ)}
end
end L2.VL
namespace L2
theorem pF{w:Kh}{us:List (Ih×V)}(ok:IA P w H h)(e:H a=some (.frz o (.dK us))) :
 us.length<=sizeLine/\(a==Lg)=false/\∃vs es ep,KV us vs/\o.data = .dict es ep/\h.DictAt (bj P w) a vs ep:=by
 obtain⟨e1,z,hd,vs,rel,o',es,ep,ho,hx,hdat,r⟩:=ok a _ e;rw[e1]at ho;cases ho;exact⟨z,hd,vs,es,ep,rel,hdat,o,es,e1,hx,hdat,r⟩
theorem zQ{w:Kh}{k:Ih}{v:I0}(h:(bj P w).is k v=true):RelV (kV k) v:=by
 have h:jI k v=true:=h;rcases aW h with⟨i,t,e1,e2⟩|⟨y,t,e1,e2⟩<;>subst e1 e2<;>exact⟨_,rfl⟩
def Iw(a:Addr)(o:Obj)(us:List (Ih×V)):It :=
 ⟨fun i H=>i<us.length/\H a=some (.frz o (.dK us)),fun i H x H'=>H'=H/\∃p,us[i]?=some p/\x=kV p.1,fun i H=>us.length<=i/\H a=some (.frz o (.dK us))⟩
theorem B2{us:List (Ih×V)}{vs:List (Ih×I0)}(r:KV us vs):∀{i:Nat}{p:Ih×V},us[i]?=some p->∃q,vs[i]?=some q/\p.1=q.1:=by
 unfold KV at r
 induction r with
 | nil=>intro i p e;simp at e
 | @cons p q ps qs h t ih =>
   intro i p' e
   cases i with
   | zero=>simp at e;subst e;exact⟨q,rfl,h.1⟩
   | succ j=>obtain⟨q',e1,e2⟩:=ih (i:=j) (p:=p') (by simpa using e);exact⟨q',by simpa using e1,e2⟩
theorem nK{w:Kh}{K:W.Frag}(a it:Addr){us:List (Ih×V)}{es:Array O4}{ep:Nat}(hep:o.data = .dict es ep) :
 Turn P w K tg (Iw a o us) [it] it (fun i h=>h.IsKeyIter it a i us.length ep) where
 mem:=by simp
 obj:=fun i h st b hb=>by
  have e:b=it:=by simpa using hb
  subst e;obtain⟨o,e,c,d⟩:=st;exact⟨o,e,fun v z=>by rw[d]at z;cases z⟩
 keep:=fun i h h' st k=>by
  obtain⟨o,e,r⟩:=st;exact⟨o,k it (by simp) o e,r⟩
 item:=by
  intro X hP hw hK hc i pins s σ H E I hf st hg;subst hP hw hK;obtain⟨hi,ha⟩:=hg;obtain⟨z,hd,vs,es',ep',rel,hdat,dd⟩:=pF I.hok ha;rw[hep]at hdat;cases hdat;have hl:us.length=vs.length:=JU rel;have eu:us[i]?=some us[i]:=by simp[hi]
  obtain⟨⟨k,v⟩,ev,ek⟩:=B2 rel eu;obtain⟨f0,f1,f2,f3,f4,f5⟩:=hf it (by simp);rw[hl]at st;refine wpAny_pyNext_dict_item st dd ev fun key h' hkey st' sb=>?_;have I1:Inv X pins σ H {s with heap:=h' }:=I.turned (t':=s.toks) (fun b o hb e=>(sb.2 b hb).trans e) f0 f1 f3 f4 f5;obtain⟨oi,e,c,d⟩:=id st';rw[<- hl]at st';exact⟨key,rfl,mB (s:={s with heap:=h' }) e c d (by decide) ⟨kV us[i].1,H,I1,by rw[ek];exact zQ hkey,⟨rfl,_,eu,rfl⟩,st',fun b hb=>(hf b hb).1⟩⟩
 done:=by
  intro X hP hw hK hc i pins s σ H E I hf st hg;subst hP hw hK;obtain⟨hi,ha⟩:=hg;obtain⟨z,hd,vs,es',ep',rel,hdat,dd⟩:=pF I.hok ha;rw[hep]at hdat;cases hdat;have hl:us.length=vs.length:=JU rel;obtain⟨f0,f1,f2,f3,f4,f5⟩:=hf it (by simp);rw[hl]at st;refine wpAny_pyNext_dict_end (I.ok.hd hc) st dd (by rw[Nq];omega) fun h' sb=>⟨rfl,?_⟩;exact I.turned (t':=s.toks) (fun b o hb e=>sb b o hb e) f0 f1 f3 f4 f5
 self:=fun A i s Q E st h=>by
  refine OC st.typeIs F.slot_dict_keyiterator_iter (Kx F.slot_dict_keyiterator_iter st.typeIs F.entry_dict_keyiterator_iter ?_ (F.args_dict_keyiterator_iter_1 _));show Jr _ _ (ret (.ref it)) _ _ s;exact IZ ⟨_,rfl, "dict_keyiterator", _,st.typeIs,F.slot_dict_keyiterator_next.lookup,h⟩
section
variable{X:Cx}{e:Expr}{tg:Expr}{te:TE}
def zX(t:TE):TI:=fun σ H R=>t σ H fun v H1=>∃a o us,v = .ref a/\H1 a=some (.frz o (.dK us))/\R (Iw a o us) H1
theorem vO(he:PE X e te):PI X tg e (zX te):=by
 intro pins s σ H R I h;refine FB (he pins s σ H _ I h) fun v s1 ⟨x,H1,I1,r1,q1⟩=>?_;obtain⟨a,o,us,ev,ha,q⟩:=q1;subst ev;cases r1;obtain⟨z,hd,vs,es,ep,rel,hdat,dd⟩:=pF I1.hok ha;have hl:us.length=vs.length:=JU rel;refine wpAny_pyIter_dict hd dd ?_;refine⟨s1.heap.objs.size,[s1.heap.objs.size],_,_,H1,rfl,I1.kept (t':=s1.toks) fun b o e=>IW _ e,nK a _ hdat,⟨_,Jk _ rfl,rfl,by rw[hl];rfl⟩,fun b hb=>?_,q⟩;have e:b=s1.heap.objs.size:=by simpa using hb
 subst e;exact I1.fpOk (Jb _) (I1.hok.fresh (Jb _))
def BC(i:Nat)(T:TS):TS:=fun D σ H=>T {D with nx:=fun σ' H'=>∃a us,σ'[i]?=some (some (.ref a))/\H' a=some (.dK us)/\∀o,D.nx σ' (upd H' a (.frz o (.dK us)))} σ H
theorem vH{st:Stmt}{T:TS}(i:Nat)(h:PS X st T):PS X st (BC i T):=fun pins s σ H D I q=>FB (h pins s σ H _ I q) fun f s' z=>by
 cases f with
 | next =>
   obtain⟨σ',H',I',a,us,e1,e2,k⟩:=z;obtain⟨z,hd,vs,rel,o,es,ep,ho,r⟩:=I'.hok a _ e2;refine⟨σ',_,?_,k o⟩
   exact dY (t':=s'.toks) I' (by rw[e2];trivial) (Nk _ _) ⟨o,ho⟩ ⟨ho,z,hd,vs,rel,o,es,ep,ho,r⟩
 | brk=>exact z
 | cont=>exact z
 | ret u=>exact z
end
end L2
namespace L2.VL
section
variable{X:Cx}{rl:RlT}{a b e o i':Expr}{es:List Expr}{fa fb:TV}{fs:HC}{pos p px apos cpos:Pos}{ρ:En}{st:Stmt}{t:HD}
def asFw:W->Option (List (Ih×IQ))
 | .fw kvs=>some kvs
 | _=>none
theorem asFw_f(kvs:List (Ih×IQ)):asFw (.fw kvs)=some kvs:=rfl
theorem jV{w:W}{kvs:List (Ih×IQ)}:asFw w=some kvs↔w = .fw kvs:=by
 constructor
 · intro h;unfold asFw at h;split at h<;>simp_all
 · rintro rfl;rfl
def asDp:W->Option (List (Ih×IQ)×IQ)
 | .dp kvs x=>some (kvs,x)
 | _=>none
theorem asDp_f(kvs:List (Ih×IQ))(x:IQ):asDp (.dp kvs x)=some (kvs,x):=rfl
theorem qg{w:W}{z:List (Ih×IQ)×IQ}:asDp w=some z↔w = .dp z.1 z.2:=by
 constructor
 · intro h;unfold asDp at h;split at h
   · cases h;rfl
   · cases h
 · rintro rfl;rfl
theorem vg{K:W.Frag}(k:Ih):Rep K F (kV k) (mM k):=by cases k<;>constructor
def wC(fa:TV):En->(List IQ->Prop)->Prop:=fun ρ Q=>fa ρ fun w=>∃kvs,w = .fw kvs/\Q (kvs.map fun p=>mM p.1)
theorem ww{K:W.Frag}{us:List (Ih×V)}{kvs:List (Ih×IQ)}(r:Ij K F us kvs){i:Nat}{x:IQ}(h:(kvs.map fun p=>mM p.1)[i]?=some x):∃p,us[i]?=some p/\x=mM p.1:=by
 have e:=congrArg (fun l=>(l.map mM)[i]?) r.keys;simp only[Kf]at e;rw[show(kvs.map (mM ∘ fun x=>x.1))=kvs.map fun p=>mM p.1 from rfl,h,JY]at e
 cases q:us[i]? with
 | none=>rw[q]at e;cases e
 | some p=>rw[q]at e;exact⟨p,rfl,(JK e).symm⟩
theorem mW(ha:PV X rl a fa):HY X rl tg a (wC fa):=by
 obtain⟨t,p1,k⟩:=ha;refine⟨_,vO p1,fun R Qd Q q h=>k R _ _ q fun v w F1 H1 g1 r1 n1 ⟨kvs,ew,q1⟩=>?_⟩;subst ew;obtain⟨x,us,ob,rfl,hx,rk⟩:=r1;have hl:us.length=kvs.length:=JU rk;refine⟨x,ob,us,rfl,g1.sub _ _ hx,h _ (kvs.map fun p=>mM p.1) F1 H1 g1 (VIt.of (fun i H y e s=>⟨?_,s _ _ hx⟩) (fun i H hl' s=>⟨by rw[I_]at hl';omega,s _ _ hx⟩) fun i H v H' y e s z=>?_) q1⟩
 · have:=(Jn.mp e).1;rw[I_]at this;omega
 · obtain⟨e1,pp,e2,e3⟩:=z;obtain⟨p',e4,e5⟩:=ww rk e;rw[e2]at e4;cases e4;subst e3 e5;exact⟨e1,vg _⟩
theorem m_iWalk:wC fa ρ=Hj (fa ρ) fun w=>aD (asFw w) fun kvs=>ret (kvs.map fun p=>mM p.1):=by
 refine af fun Q=>?_;simp only[wC,Hj,ai,jV,ret]
def nl(fa fb:TV):TV:=fun ρ Q=>fa ρ fun x=>fb ρ fun y=>∃kvs k d,x = .fw kvs/\jh y=some k/\mJ kvs k=some d/\Q (.d d)
theorem jt(hu:X.A.units+1<N1)(ho:PV X rl o fa)(hi:PV X rl i' fb)(hs:ui i':=by intro _ _;rfl):PV X rl (.Subscript o i' pos) (nl fa fb):=by
 obtain⟨t1,p1,k1⟩:=ho;obtain⟨t2,p2,k2⟩:=hi;refine⟨_,fB hu p1 p2 hs,fun R Qd Q q h=>k1 R _ _ q fun v w F1 H1 g1 r1 n1 q1=>k2 (R.grow g1) _ _ q1 fun v2 w2 F2 H2 g2 r2 n2 ⟨kvs,k,d,ex,ek,ed,q2⟩=>?_⟩;subst ex;obtain⟨x,us,ob,rfl,hx,rk⟩:=r1.grow g2;have ev:=eQ ek r2;subst ev;rcases rk.val k with⟨_,z⟩|⟨v3,d3,e1,e2,r3⟩
 · rw[ed]at z;cases z
 · rw[ed]at e2;cases e2;refine⟨x,v3,rfl,?_,h v3 (.d d) F2 H2 (g1.trans g2) r3 trivial q2⟩;rw[<- e1];exact .inl ⟨us,k,.inr ⟨ob,g2.sub _ _ hx⟩,rfl,rfl⟩
theorem m_vDGetW:nl fa fb ρ=Hj (fa ρ) fun x=>Hj (fb ρ) fun y=>aD (asFw x) fun kvs=>aD (jh y) fun k=>aD (mJ kvs k) fun d=>ret (.d d):=by
 refine af fun Q=>?_;simp only[nl,Hj,ai,jV,ret];constructor
 · intro h;refine cast ?_ h;congr 1;funext x;congr 1;funext y;exact propext ⟨fun⟨a,b,c,d,e,f,g⟩=>⟨a,d,b,e,c,f,g⟩,fun⟨a,d,b,e,c,f,g⟩=>⟨a,b,c,d,e,f,g⟩⟩
 · intro h;refine cast ?_ h;congr 1;funext x;congr 1;funext y;exact propext ⟨fun⟨a,d,b,e,c,f,g⟩=>⟨a,b,c,d,e,f,g⟩,fun⟨a,b,c,d,e,f,g⟩=>⟨a,d,b,e,c,f,g⟩⟩
def uS(fb fa:TV):TV:=fun ρ Q=>fb ρ fun y=>fa ρ fun x=>∃kvs k,x = .fw kvs/\jh y=some k/\Q (.d (.bool (mJ kvs k).isSome))
theorem uG(hu:X.A.units+1<N1)(hi:PV X rl i' fb)(ho:PV X rl o fa)(hm:Lh .In o=false:=by rfl):PB X rl (.Compare i' [.In] [o] pos) (na (uS fb fa)):=by
 obtain⟨t1,p1,k1⟩:=hi;obtain⟨t2,p2,k2⟩:=ho;refine⟨_,yX (zf hu p1 p2) hm,fun R Qd Q q h=>k1 R _ _ q fun v w F1 H1 g1 r1 n1 q1=>k2 (R.grow g1) _ _ q1 fun v2 w2 F2 H2 g2 r2 n2 ⟨kvs,k,ex,ek,c,ec,q2⟩=>?_⟩;subst ex;cases ec;obtain⟨x,us,ob,rfl,hx,rk⟩:=r2;have ev:=eQ ek (r1.grow g2);subst ev;refine⟨x,dq us k,rfl,.inl ⟨us,k,.inr ⟨ob,g2.sub _ _ hx⟩,rfl,rfl⟩,(mJ kvs k).isSome,?_,h _ F2 H2 (g1.trans g2) q2⟩;rcases rk.val k with⟨e1,z⟩|⟨v3,d3,e1,e2,r3⟩
 · rw[e1,z];rfl
 · rw[e1,e2];rfl
theorem m_vDInW:uS fb fa ρ=Hj (fb ρ) fun y=>Hj (fa ρ) fun x=>aD (asFw x) fun kvs=>aD (jh y) fun k=>ret (.d (.bool (mJ kvs k).isSome)):=by
 refine af fun Q=>?_;simp only[uS,Hj,ai,jV,ret];constructor
 · intro h;refine cast ?_ h;congr 1;funext y;congr 1;funext x;exact propext ⟨fun⟨a,b,c,d,e⟩=>⟨a,c,b,d,e⟩,fun⟨a,c,b,d,e⟩=>⟨a,b,c,d,e⟩⟩
 · intro h;refine cast ?_ h;congr 1;funext y;congr 1;funext x;exact propext ⟨fun⟨a,c,b,d,e⟩=>⟨a,b,c,d,e⟩,fun⟨a,b,c,d,e⟩=>⟨a,c,b,d,e⟩⟩
def ng:TV:=fun _ Q=>Q (.mk [])
theorem qE:PV X rl (.Dict [] [] pos) ng:=by
 refine⟨_,rh,fun R Qd Q q h p hp=>?_⟩;refine h _ (.mk []) _ _ (Grow.laid R.sub R.reel hp) ⟨p,[],rfl,R.sub.free hp,fun e=>?_,ak,.nil⟩ (fun a ea=>by cases ea;exact hp) q;obtain⟨o,z⟩:=R.reel.live e;rw[hp]at z;cases z
theorem m_vDict0K:ng ρ=ret (.mk []):=nr rfl
theorem VR.ownK{K:W.Frag}{ρ:En}(r:VR K rl F₀ H₀ F H σ ρ){i:Nat}{xs ys:List (Ih×IQ)}{a:Addr}{us:List (Ih×V)}(e:ρ[i]?=some (some (.mk xs)))(es:σ[i]?=some (some (.ref a)))(rs:Ij K F us ys) :
 VR K rl F₀ H₀ F (upd H a (.dK us)) σ (ρ.set i (some (.mk ys))):=by
 obtain⟨v,h1,h2,h3⟩:=r.sl i _ e;rw[es]at h1;cases h1;obtain⟨a',vs,ev,f,hr,hh,q⟩:=(show lH K rl F H (.ref a) xs from h2);cases ev;have n0:H₀ a=none:=h3 a rfl;have hi:i<ρ.length:=(Jn.mp e).1;have neF:∀b u,F b=some u->b≠a:=fun b u q z=>by subst z;rw[f]at q;cases q
 have g:Grow rl F₀ H₀ F (upd H a (.dK us)):=by
  refine⟨fun b o q1 n=>by rw[ag (ay q1 n0)];exact r.g.same b o q1 n,r.g.fs,fun b o q1=>by rw[ag (neF b o q1)];exact r.sub b o q1,r.g.old,fun y z=>?_⟩;obtain⟨z1,⟨u,h1,h2⟩⟩:=r.reel y z;exact⟨z1,⟨u,by rw[ag (fun q=>hr (by rw[<- q];exact z))];exact h1,h2⟩⟩
 refine⟨g,fun j w e1=>?_,fun j k ys' zs u hjk e1 e2 w1 w2 s1 s2=>?_,fun j ys' z=>?_,by simp[r.len]⟩
 · by_cases hj:i=j
   · subst hj;rw[Jo hi]at e1;cases e1;exact⟨_,es,⟨a,us,rfl,f,hr,ak,rs⟩,h3⟩
   · rw[Jj hj]at e1;obtain⟨u,g1,g2,g3⟩:=r.sl j w e1;refine⟨u,g1,?_,g3⟩;have ap:w.own=true->∀b,u = .ref b->b≠a:=fun ow b eb z=>r.ap i j _ _ (.ref a) hj e e1 rfl ow es (by rw[g1,eb,z])
     cases w with
     | ml zs=>obtain⟨b,us',eb,f1,f2,f3,f4⟩:=(show eE K rl F H u zs from g2);exact⟨b,us',eb,f1,f2,by rw[ag (ap rfl b eb)];exact f3,f4⟩
     | md zs=>obtain⟨b,us',eb,f1,f2,f3,f4⟩:=(show jY K rl F H u zs from g2);exact⟨b,us',eb,f1,f2,by rw[ag (ap rfl b eb)];exact f3,f4⟩
     | mk zs=>obtain⟨b,us',eb,f1,f2,f3,f4⟩:=(show lH K rl F H u zs from g2);exact⟨b,us',eb,f1,f2,by rw[ag (ap rfl b eb)];exact f3,f4⟩
     | pk zs=>exact absurd e1 (r.np j zs)
     | _=>exact g2
 · have nd:∀(j:Nat)(z:W),(ρ.set i (some (W.mk ys)))[j]?=some (some z)->z.own=true->∃z',ρ[j]?=some (some z')/\z'.own=true:=fun j zs z o=>by
     by_cases hj:i=j
     · subst hj;exact⟨_,e,rfl⟩
     · rw[Jj hj]at z;exact⟨zs,z,o⟩
   obtain⟨_,d1,o1⟩:=nd j _ e1 w1;obtain⟨_,d2,o2⟩:=nd k _ e2 w2;exact r.ap j k _ _ u hjk d1 d2 o1 o2 s1 s2
 · rw[Kb]at z;split at z
   · first|cases z|(split at z<;>cases z)
   · exact r.np j ys' z
theorem VR.frzK{K:W.Frag}{ρ:En}(r:VR K rl F₀ H₀ F H σ ρ){i:Nat}{xs:List (Ih×IQ)}{a:Addr}{us:List (Ih×V)}{ob:Obj}(e:ρ[i]?=some (some (.mk xs)))(es:σ[i]?=some (some (.ref a)))(hH:H a=some (.dK us))(rs:Ij K F us xs) :
 bm F (upd F a (.frz ob (.dK us)))/\VR K rl F₀ H₀ (upd F a (.frz ob (.dK us))) (upd H a (.frz ob (.dK us))) σ (ρ.set i (some (.fw xs))):=by
 obtain⟨v,h1,h2,h3⟩:=r.sl i _ e;rw[es]at h1;cases h1;obtain⟨a',vs,ev,f,hr,hh,q⟩:=(show lH K rl F H (.ref a) xs from h2);cases ev;have n0:H₀ a=none:=h3 a rfl;have hi:i<ρ.length:=(Jn.mp e).1;have neF:∀b u,F b=some u->b≠a:=fun b u q z=>by subst z;rw[f]at q;cases q
 have fsm:bm F (upd F a (.frz ob (.dK us))):=fun b u z=>by rw[ag (neF b u z)];exact z
 have g:Grow rl F₀ H₀ (upd F a (.frz ob (.dK us))) (upd H a (.frz ob (.dK us))):=by
  refine⟨fun b o q1 n=>by rw[ag (ay q1 n0)];exact r.g.same b o q1 n,r.g.fs.trans fsm,fun b o q1=>?_,fun b o q1=>by rw[ag (ay q1 n0)];exact r.g.old b o q1,fun y z=>?_⟩
  · by_cases hb:b=a
    · subst hb;rw[ak]at q1 ⊢;exact q1
    · rw[ag hb]at q1 ⊢;exact r.sub b o q1
  · obtain⟨z1,⟨u,h1,h2⟩⟩:=r.reel y z;have ny:y≠a:=fun q=>hr (by rw[<- q];exact z);exact⟨by rw[ag ny];exact z1,⟨u,by rw[ag ny];exact h1,RO.mono fsm h2⟩⟩
 refine⟨fsm,g,fun j w e1=>?_,fun j k ys' zs u hjk e1 e2 w1 w2 s1 s2=>?_,fun j ys' z=>?_,by simp[r.len]⟩
 · by_cases hj:i=j
   · subst hj;rw[Jo hi]at e1;cases e1;exact⟨_,es,⟨a,us,ob,rfl,ak,rs.mono fsm⟩,trivial⟩
   · rw[Jj hj]at e1;obtain⟨u,g1,g2,g3⟩:=r.sl j w e1;refine⟨u,g1,?_,g3⟩;have ap:w.own=true->∀b,u = .ref b->b≠a:=fun ow b eb z=>r.ap i j _ _ (.ref a) hj e e1 rfl ow es (by rw[g1,eb,z])
     cases w with
     | d x=>exact Rep.mono fsm g2
     | ml zs=>obtain⟨b,us',eb,f1,f2,f3,f4⟩:=(show eE K rl F H u zs from g2);exact⟨b,us',eb,by rw[ag (ap rfl b eb)];exact f1,f2,by rw[ag (ap rfl b eb)];exact f3,f4.mono fsm⟩
     | md zs=>obtain⟨b,us',eb,f1,f2,f3,f4⟩:=(show jY K rl F H u zs from g2);exact⟨b,us',eb,by rw[ag (ap rfl b eb)];exact f1,f2,by rw[ag (ap rfl b eb)];exact f3,Kr.mapP f4 fun _ _ z=>⟨z.1,z.2.mono fsm⟩⟩
     | mk zs=>obtain⟨b,us',eb,f1,f2,f3,f4⟩:=(show lH K rl F H u zs from g2);exact⟨b,us',eb,by rw[ag (ap rfl b eb)];exact f1,f2,by rw[ag (ap rfl b eb)];exact f3,Kr.mapP f4 fun _ _ z=>⟨z.1,z.2.mono fsm⟩⟩
     | pk zs=>exact absurd e1 (r.np j zs)
     | reel=>exact g2
     | vv u=>exact g2
     | lk=>trivial
     | nt ds=>obtain⟨b,us,eb,f1,f2⟩:=g2;exact⟨b,us,eb,fsm _ _ f1,f2.mono fsm⟩
     | sc ns=>obtain⟨b,eb,f1⟩:=g2;exact⟨b,eb,iF fsm f1⟩
     | fd kvs=>obtain⟨b,us,eb,f1,f2⟩:=g2;exact⟨b,us,eb,fsm _ _ f1,Kr.mapP f2 fun _ _ z=>⟨z.1,z.2.mono fsm⟩⟩
     | fw kvs=>obtain⟨b,us,o,eb,f1,f2⟩:=g2;exact⟨b,us,o,eb,fsm _ _ f1,Kr.mapP f2 fun _ _ z=>⟨z.1,z.2.mono fsm⟩⟩
     | ft kvs=>obtain⟨b,us,o,eb,f1,f2⟩:=g2;exact⟨b,us,o,eb,fsm _ _ f1,Kr.mapP f2 fun _ _ z=>⟨z.1,z.2.mono fsm⟩⟩
     | xc _ _=>obtain⟨b,dx,us,C,eb,n,f1,f3,f2⟩:=g2;exact⟨b,dx,us,C,eb,n,fsm _ _ f1,fsm _ _ f3,Kr.mapP f2 fun _ _ z=>⟨z.1,z.2.mono fsm⟩⟩
     | dp _ _=>obtain⟨c,b,us,u,o,eb,f1,f3,f2,z⟩:=g2;exact⟨c,b,us,u,o,eb,fsm _ _ f1,fsm _ _ f3,Kr.mapP f2 fun _ _ z=>⟨z.1,z.2.mono fsm⟩,z.mono fsm⟩
 · have nd:∀(j:Nat)(y:W),(ρ.set i (some (W.fw xs)))[j]?=some (some y)->y.own=true->ρ[j]?=some (some y):=fun j y z o=>by
     by_cases hj:i=j
     · subst hj;rw[Jo hi]at z;cases z;cases o
     · rw[Jj hj]at z;exact z
   exact r.ap j k _ _ u hjk (nd j _ e1 w1) (nd k _ e2 w2) w1 w2 s1 s2
 · rw[Kb]at z;split at z
   · first|cases z|(split at z<;>cases z)
   · exact r.np j ys' z
def A0:W->Option (List (Ih×IQ))
 | .mk kvs=>some kvs
 | _=>none
theorem asMk_m(kvs:List (Ih×IQ)):A0 (.mk kvs)=some kvs:=rfl
def FW(ρ:En)(i:Nat):Option (List (Ih×IQ)):=((ρ[i]?).join).bind A0
theorem tK{i:Nat}{kvs:List (Ih×IQ)}:FW ρ i=some kvs↔ρ[i]?=some (some (.mk kvs)):=by
 unfold FW;constructor
 · intro h
   cases q:ρ[i]? with
   | none=>rw[q]at h;cases h
   | some o=>rw[q]at h;cases o with
     | none=>cases h
     | some w =>
       have h:A0 w=some kvs:=h;unfold A0 at h;split at h
       · cases h;rfl
       · cases h
 · intro h;rw[h];rfl
def AL(i:Nat):HD:=fun D ρ=>∃kvs,ρ[i]?=some (some (.mk kvs))/\D.nx (ρ.set i (some (.fw kvs)))
theorem mR(i:Nat)(h:HV X rl st t):HV X rl st (uP t (AL i)):=by
 obtain⟨T,p,k⟩:=h;refine⟨_,vH i p,fun{F₀ H₀ F H σ ρ} R Dv D ok q=>k R {Dv with nx:=AL i Dv} _ ⟨fun F' H' σ' ρ' s' R' z=>?_,ok.rt,ok.bk,ok.ct⟩ q⟩;obtain⟨kvs,e,q'⟩:=z;obtain⟨v,h1,h2,h3⟩:=R'.sl i _ e;obtain⟨a,us,rfl,f,hr,hh,rs⟩:=(show lH X.K rl F' H' v kvs from h2);refine⟨a,us,h1,hh,fun o=>?_⟩;obtain⟨fsm,R2⟩:=R'.frzK (ob:=o) e h1 hh rs;exact ok.nx _ _ _ _ (s'.trans fsm) R2 q'
theorem s_fzS(i:Nat):mS (AL i) ρ=aD (FW ρ i) fun kvs=>ret (.nx (ρ.set i (some (.fw kvs)))):=by
 refine af fun Q=>?_;simp only[mS,AL,ai,tK,ret]
def nh(i:Nat)(fk fx:TV):HD:=fun D ρ=>∃kvs,ρ[i]?=some (some (.mk kvs))/\fx ρ fun wx=>fk ρ fun wk=>∃k x,jh wk=some k/\wx = .d x/\kvs.length<sizeLine/\D.nx (ρ.set i (some (.mk (putF kvs k x))))
theorem qw(i:Nat){x:Str}{f:Expr}{fk fx:TV}(hu:X.A.units+1<N1)(hk:PV X rl e fk)(hx:PV X rl f fx)(hN:X.N[i]?=some x:=by rfl)(hv:Hw X.env.scope x:=by first|exact KH rfl|exact J8 (KH rfl)|exact J8 (J8 rfl))
 (hd:(x==("__debug__" : Str))=false:=by decide)(hcd:(x==("__classdict__" : Str))=false:=by decide)(hs:K4 f (some (.Subscript (.Name x px) e pos')) pos.line X.env=pure false:=by rfl) :
 HV X rl (.Assign [.Subscript (.Name x px) e pos'] f pos) (nh i fk fx):=by
 obtain⟨t,p1,k1⟩:=hk;obtain⟨t2,p2,k2⟩:=hx;refine⟨_,gZ hu (bI hN hv hd hcd) p1 p2 hs,fun{F₀ H₀ F H σ ρ} R Dv D ok ⟨kvs,e1,q⟩=>?_⟩;obtain⟨v,h1,h2,h3⟩:=R.sl i _ e1;obtain⟨a,us,rfl,f0,hr,hh,rs⟩:=(show lH X.K rl F H v kvs from h2);refine k2 R _ _ q fun v2 w2 F2 H2 g2 r2 n2 q2=>⟨.ref a,h1,k1 (R.grow g2) _ _ q2 fun v1 w1 F1 H1 g1 r1 n1 q3=>?_⟩;obtain⟨k,d,ek,rfl,hz,q3⟩:=q3;have ev:=eQ ek r1;subst ev;have g:=g2.trans g1;have hl:us.length=kvs.length:=JU rs;refine⟨a,_,rfl,.inl ⟨us,k,g.same a _ hh hr,rfl,by omega,rfl⟩,?_⟩;have rs1:Ij X.K F1 us kvs:=rs.mono g.fs;exact ok.nx _ _ _ _ g.fs ((R.grow g).ownK e1 h1 (rs1.put k (Rep.mono g1.fs r2))) q3
theorem s_dputK(i:Nat){fk fx:TV}:mS (nh i fk fx) ρ=aD (FW ρ i) fun kvs=>Hj (fx ρ) fun wx=>Hj (fk ρ) fun wk=>aD (jh wk) fun k=>aD (asD wx) fun x=>GW (kvs.length<sizeLine) (ret (.nx (ρ.set i (some (.mk (putF kvs k x)))))):=by
 refine af fun Q=>?_;simp only[mS,nh,ai,tK,Hj,GW,ret,cX];refine exists_congr fun kvs=>and_congr_right fun _=>?_;constructor
 · intro h;refine cast ?_ h;congr 1;funext x;congr 1;funext y;exact propext ⟨fun⟨a,b,c,d,e⟩=>⟨a,c,b,d,e⟩,fun⟨a,c,b,d,e⟩=>⟨a,b,c,d,e⟩⟩
 · intro h;refine cast ?_ h;congr 1;funext x;congr 1;funext y;exact propext ⟨fun⟨a,c,b,d,e⟩=>⟨a,b,c,d,e⟩,fun⟨a,b,c,d,e⟩=>⟨a,c,b,d,e⟩⟩
def asFwD:List W->Option (List (Ih×IQ)×IQ)
 | [.fw kvs,.d x]=>some (kvs,x)
 | _=>none
theorem asFwD_f(kvs:List (Ih×IQ))(x:IQ):asFwD [.fw kvs,.d x]=some (kvs,x):=rfl
theorem sS{ws:List W}{z:List (Ih×IQ)×IQ}:asFwD ws=some z↔ws=[.fw z.1,.d z.2]:=by
 constructor
 · intro h;unfold asFwD at h;split at h
   · cases h;rfl
   · cases h
 · rintro rfl;rfl
def uO(fs:HC):TV:=fun ρ Q=>fs ρ fun ws=>∃z:List (Ih×IQ)×IQ,ws=[.fw z.1,.d z.2]/\Q (.dp z.1 z.2)
theorem sY{x1}(h:HQ X rl es fs):PV X rl (.Tuple es x1 pos) (uO fs):=by
 obtain⟨t,p,k⟩:=h;refine⟨_,oG p,fun R Qd Q q h=>k R _ _ q fun vs ws F1 H1 g1 r1 ⟨z,ew,q1⟩=>?_⟩;subst ew
 cases r1 with
 | cons ra rb =>
   cases rb with
   | @cons u2 _ _ _ rb rc =>
     cases rc;obtain⟨b,us,o,rfl,hb,rk⟩:=ra;refine⟨by rw[Js];show 2<=16777216;decide,fun p hp=>?_⟩;have gd:=Grow.data (a:=p) (o:=.tup [.ref b,u2]) g1.sub g1.reel hp;exact h _ (.dp z.1 z.2) _ _ (g1.trans gd) ⟨p,b,us,_,o,rfl,ak,gd.fs _ _ hb,rk.mono gd.fs,Rep.mono gd.fs rb⟩ trivial q1
theorem m_vTupP:uO fs ρ=Hj (fs ρ) fun ws=>aD (asFwD ws) fun z=>ret (.dp z.1 z.2):=by
 refine af fun Q=>?_;simp only[uO,Hj,ai,sS,ret]
def AV:W->W->(W->Prop)->Prop:=fun x y Q=>∃z:List (Ih×IQ)×IQ,x = .dp z.1 z.2/\y = .d (.int 1)/\Q (.d z.2)
theorem xP:Hy X rl (Gb X.K) AV:=fun{F H x y wx wy} Qd Q s ra r1 r2 q k=>by
 obtain⟨z,rfl,rfl,q⟩:=q;have ey:=aB r2;subst ey;obtain⟨a,b,us,u,o,rfl,h1,h2,rk,ru⟩:=r1;exact .inr (.inl ⟨a,_,1,u,rfl,rfl,.inl (.inl (s _ _ h1)),rfl,k _ (.d _) _ _ (Grow.refl s ra) ru trivial q⟩)
theorem Bb(ha:PV X rl a fa)(hb:PV X rl b fb)(hs:fV b:=by exact fun _ _=>rfl):PV X rl (.Subscript a b pos) (Fm AV fa fb):=ii xP ha hb fun _ _ p1 p2=>qZ lh p1 p2 hs
def isOne:W->Option Unit
 | .d (.int 1)=>some ()
 | _=>none
theorem isOne_1:isOne (.d (.int 1))=some ():=rfl
theorem m_gIxP(x y:W):AV x y=aD (asDp x) fun z=>aD (isOne y) fun _=>ret (.d z.2):=by
 have key:∀u,isOne y=some u↔y = .d (.int 1):=fun u=>by
  constructor
  · intro h;unfold isOne at h;split at h
    · rfl
    · cases h
  · rintro rfl;rfl
 refine af fun Q=>?_;simp only[AV,ai,qg,key,ret];exact exists_congr fun z=>and_congr_right fun _=>⟨fun h=>⟨(),h⟩,fun⟨_,h⟩=>h⟩
def Bd(i j:Nat)(fa:TV):HD:=fun D ρ=>fa ρ fun w=>∃z:List (Ih×IQ)×IQ,w = .dp z.1 z.2/\D.nx ((ρ.set i (some (.fw z.1))).set j (some (.d z.2)))
theorem xL(i j:Nat){x y:Str}{px py pt:Pos}{kt:Nat}(hc:X.calm=true)(hN:X.N.Nodup)(he:PV X rl e fa)(hi:X.N[i]?=some x:=by rfl)(hj:X.N[j]?=some y:=by rfl)
 (hx:Loc X.env.scope x:=by first|exact KH rfl|exact J8 rfl)(hf:X.fn x=true\/X.env.scope.names.lookup x=some .local:=by first|exact .inl rfl|exact .inr rfl)
 (hy:Loc X.env.scope y:=by first|exact KH rfl|exact J8 rfl)(hg:X.fn y=true\/X.env.scope.names.lookup y=some .local:=by first|exact .inl rfl|exact .inr rfl)
 (hs:L8 [.Tuple [.Name x px,.Name y py] kt pt] e pos.line X.env=pure false:=by rfl)(hw:L9 [.Tuple [.Name x px,.Name y py] kt pt] e X.env=pure none:=by rfl)
 (h1:(KO [.Tuple [.Name x px,.Name y py] kt pt] X.env).map (·.2)=[L0 (.Tuple [.Name x px,.Name y py] kt pt) X.env]:=by rfl)
 (hn:(KO [.Name x px,.Name y py] X.env).length=2:=by rfl)(hst:(KO [.Name x px,.Name y py] X.env).findIdx? (·.1)=none:=by rfl)
 (hs1:(KO [.Name x px,.Name y py] X.env).map (·.2)=L0 (.Name x px) X.env::(KO [.Name y py] X.env).map (·.2):=by rfl)
 (hs2:(KO [.Name y py] X.env).map (·.2)=L0 (.Name y py) X.env::(KO [] X.env).map (·.2):=by rfl) :
 HV X rl (.Assign [.Tuple [.Name x px,.Name y py] kt pt] e pos) (Bd i j fa):=by
 obtain⟨t,p,k⟩:=he;refine⟨_,iJ p (tP hc (hE (hG hN hi hx hf) (hE (hG hN hj hy hg) oF hs2) hs1) hn hst) hs hw h1,fun R Dv D ok q=>k R _ _ q fun v w F1 H1 g1 r1 n1 ⟨z,ew,q1⟩=>?_⟩;subst ew;obtain⟨a,b,us,u,o,rfl,h1,h2,rk,ru⟩:=r1;have R1:=(R.grow g1).set (w:=.fw z.1) (Grow.refl g1.sub g1.reel) (v:=.ref b) ⟨b,us,o,rfl,h2,rk⟩ trivial (fun _ z=>by cases z) i;have R2:=R1.set (w:=.d z.2) (Grow.refl g1.sub g1.reel) ru trivial (fun _ z=>by cases z) j;exact⟨a,_,rfl,.inl (.inl (g1.sub _ _ h1)),rfl,_,_,rfl,_,_,rfl,rfl,ok.nx _ _ _ _ g1.fs R2 q1⟩
theorem s_unP(i j:Nat):mS (Bd i j fa) ρ=Hj (fa ρ) fun w=>aD (asDp w) fun z=>ret (.nx ((ρ.set i (some (.fw z.1))).set j (some (.d z.2)))):=by
 refine af fun Q=>?_;simp only[mS,Bd,Hj,ai,qg,ret]
end
def ju(fi:En->(List IQ->Prop)->Prop)(fr:List (Option Nat))(g:HG)(ft:TB)(fk fe:TV):TV:=fun ρ Q=>fi ρ fun xs=>tD (dn fr ρ) g ft fk fe xs [] fun kvs=>Q (.mk kvs)
section
variable{X:Cx}{rl:RlT}{kx vx tg iter:Expr}{ifs:List Expr}{scope:Scope}{pos:Pos}{fi:En->(List IQ->Prop)->Prop}{g:HG}{ft:TB}{fk fe:TV}
theorem sL{N':List Str}{wi:TI}(fr:List (Option Nat))(k0:∀{F₀ H₀ F H:Hp}{σ:St}{ρ:En},VR X.K rl F₀ H₀ F H σ ρ->∀(Qd:List IQ->Prop)(R:It->Hp->Prop),fi ρ Qd ->
 (∀J xs F' H',Grow rl F H F' H'->VIt X.K rl F' J xs->Qd xs->R J H')->wi σ H R)
 (hg:∀y,H_ (blk X N' scope y) rl tg g)(ht:∀y,ql (blk X N' scope y) rl ifs ft)(hk:∀y,PV (blk X N' scope y) rl kx fk)(he:∀y,PV (blk X N' scope y) rl vx fe)
 (R:VR X.K rl F₀ H₀ F H σ ρ)(Qd:W->Prop)(Q:VK)(q:ju fi fr g ft fk fe ρ Qd)
 (k:∀v w F' H',Grow rl F H F' H'->cu X.K rl F' H' v w->cO H v w->Qd w->Q v H'):nP wi fr (fun y=>Jw (hg y)) (fun y=>Jw (ht y)) (fun y=>Jw (hk y)) (fun y=>Jw (he y)) σ H Q:=by
 refine k0 R _ _ q fun J xs F1 H1 g1 vi q1=>?_;intro D hD;have rD:rl.a≠some D:=fun e=>by obtain⟨o,z⟩:=g1.reel.live e;rw[hD]at z;cases z
 have FD:F1 D=none:=g1.sub.free hD;have gD:Grow rl F1 H1 F1 (upd H1 D (.dK [])):=Grow.laid g1.sub g1.reel hD;have R1:=R.grow g1;have n0:mI (dn fr ρ):=db
 refine⟨fun i m acc σc Hc=>m=xs.length-i/\i<=xs.length/\∃Fc ds,VR X.K rl F1 H1 Fc Hc σc (dn fr ρ)/\Hc D=some (.dK acc)/\Fc D=none/\Ij X.K Fc acc ds/\tD (dn fr ρ) g ft fk fe (xs.drop i) ds (fun ds=>Qd (.mk ds)),
  ⟨xs.length,by simp,J1 _,F1,[],eJ R1 gD,ak,FD,.nil,by simpa using q1⟩,?_⟩
 rintro z i m acc σc Hc ⟨rfl,hi,Fc,ds,Rc,hDc,fDc,rs,q2⟩;have sH:bm F1 Hc:=Rc.g.fs.trans Rc.sub;by_cases hlt:i<xs.length
 · have ei:xs[i]?=some xs[i]:=by simp[hlt]
   have ed:xs.drop i=xs[i]::xs.drop (i+1):=Kj hlt;rw[ed]at q2;refine .inr ⟨vi.go i Hc _ ei sH,fun v H' y=>?_⟩;obtain⟨Fy,gy,rv⟩:=vi.yld i Hc v H' _ Fc ei Rc.g.fs Rc.sub Rc.reel y;refine(IU (hg z)).2 (Rc.grow gy) v _ _ _ rv q2 fun F3 H3 σ3 ρ3 g3 n3 R3 ⟨le3,q3⟩=>?_;refine(IU (ht z)).2 R3 _ _ q3 fun b F4 H4 g4 q4=>?_;have R4:=R3.grow g4;have g34:=(gy.trans g3).trans g4;have keepD:∀{Fx Hx:Hp},Grow rl Fc Hc Fx Hx->Hx D=some (.dK acc)/\Fx D=none:=fun gx=>⟨gx.same D _ hDc rD,by rw[gx.old D _ hDc];exact fDc⟩
   cases b with
   | false=>exact⟨xs.length-(i+1),by omega,rfl,hlt,F4,ds,R4.le le3,(keepD g34).1,(keepD g34).2,rs.mono g34.fs,q4⟩
   | true =>
     refine(IU (hk z)).2 R4 _ _ q4 fun vk wk Fk Hk gk rk nk ⟨kk,ekk,qk⟩=>?_;have evk:=eQ ekk rk;have R5:=R4.grow gk;refine(IU (he z)).2 R5 _ _ qk fun v5 w5 F5 H5 g5 r5 n5 ⟨d,ed5,hl,q5⟩=>?_;obtain⟨F6,g6,s6,r6⟩:=cu.fz g5 r5 n5;rw[ed5]at r6;have g36:=(g34.trans gk).trans g6;have lds:acc.length=ds.length:=JU rs;refine⟨kk,evk,(keepD g36).1,by rw[lds];exact hl,xs.length-(i+1),by omega,rfl,hlt,F6,putF ds kk d,((R5.grow g6).le le3).other n0 hD (keepD g36).2 rD,ak,(keepD g36).2,(rs.mono g36.fs).put kk r6,q5⟩
 · have e:i=xs.length:=by omega
   subst e;rw[Lp]at q2;refine .inl ⟨vi.stop _ Hc (Jb _) sH,k _ (.mk ds) Fc Hc (g1.trans Rc.g) ⟨D,acc,rfl,fDc,rD,hDc,rs⟩ (fun a ea=>by cases ea;exact g1.freeB hD) q2⟩
theorem ig(i:Nat){b:Bool}{x:Str}{spos:Pos}(hN:X.N.Nodup)(N':List Str)(fr:List (Option Nat))(hc:X.calm=true)(hi:HY X rl tg iter fi)
 (hg:∀y,H_ (blk X N' scope y) rl tg g)(ht:∀y,ql (blk X N' scope y) rl ifs ft)(hk:∀y,PV (blk X N' scope y) rl kx fk)(he:∀y,PV (blk X N' scope y) rl vx fe)
 (hsw:K4 (.DictComp kx vx [⟨tg,iter,ifs,0⟩] scope pos) (some (.Name x px)) spos.line X.env=pure b:=by rfl)
 (hix:X.N[i]?=some x:=by rfl)(hx:Loc X.env.scope x:=by first|exact KH rfl|exact J8 rfl)(hf:X.fn x=true\/X.env.scope.names.lookup x=some .local:=by first|exact .inl rfl|exact .inr rfl)
 (hfr:mC fr N' X.N scope X.env.scope=true:=by rfl)(hsc:mK scope X.env.scope=true:=by rfl)
 (hs:∀x,JI iter X.env x=pure x:=by intro _;rfl):HV X rl (.Assign [.Name x px] (.DictComp kx vx [⟨tg,iter,ifs,0⟩] scope pos) spos) (AI i (ju fi fr g ft fk fe)):=by
 obtain⟨wi,p0,k0⟩:=hi;refine⟨_,jC N' fr hc p0 hfr hsc (fun y=>(IU (hg y)).1) (fun y=>(IU (ht y)).1) (fun y=>(IU (hk y)).1) (fun y=>(IU (he y)).1) hN hix hx hf hsw hs,fun R Dv D ok q=>sL fr k0 hg ht hk he R _ _ q fun v w F1 H1 g1 r1 n1 ⟨hp,q1⟩=>?_⟩;exact ok.nx _ _ _ _ g1.fs (R.set g1 r1 n1 (fun xs z=>by subst z;cases hp) i) q1
end
theorem m_compDK(fi:En->(List IQ->Prop)->Prop)(fr:List (Option Nat))(g:HG)(ft:TB)(fk fe:TV)(ρ:En):ju fi fr g ft fk fe ρ=Hj (fi ρ) fun xs=>Hj (dO (GN (dn fr ρ) g ft fk fe) xs []) fun kvs=>ret (.mk kvs):=by
 refine af fun Q=>?_;show(fi ρ fun xs=>tD (dn fr ρ) g ft fk fe xs [] fun ds=>Q (.mk ds))↔_;simp only[lw];exact M3
abbrev IC:=List (Ih×IQ)×IQ
def D4(K:W.Frag)(rl:RlT)(P:List W->(IC->Prop)->Prop):Sp:=fun vs H Q _=>∃F ws,bm F H/\HP rl F H/\cZ K rl F H vs ws/\ws.all cY=true/\P ws fun z=>∀v F' H',Grow rl F H F' H'->cu K rl F' H' v (.dp z.1 z.2)->Q v H'
def vP(Q:IC->Prop):VEnds:=⟨fun _=>False,fun w=>∃z:IC,w = .dp z.1 z.2/\Q z,fun _=>False,fun _=>False⟩
structure DfnP (P:Ju) (w:Kh) (K:W.Frag) (mg:Str->Option I0) (base:Heap) (rl:RlT) (x:Str) (ps:List Str) (k:Nat) (Pd:List W->(IC->Prop)->Prop):Prop where
 mono:∀ws Q Q',(∀d,Q d->Q' d)->Pd ws Q->Pd ws Q'
 ex:∃f fd,mg x=some (.ref f)/\W.keepIn K (.ref f)=true/\Binds K fd ps []/\FnOk P w K mg base IE k f fd ps (D4 K rl Pd)
section
variable{P:Ju}{w:Kh}{K:W.Frag}{mg:Str->Option I0}{base:Heap}{rl:RlT}{x:Str}{st:Stmt}{N ps:List Str}{k:Nat}{Pd:List W->(IC->Prop)->Prop}{t:HD}
theorem DfnP.of(Fn:FnIn K mg x st ps)(S:FnScope N ps (defScope st))(mono:∀ws Q Q',(∀d,Q d->Q' d)->Pd ws Q->Pd ws Q')(len:∀ws Q,Pd ws Q->ws.length=ps.length)
 (hbody:∀{f:Addr}(cdv:I0)(A:Ko)(outer:List Env)(s:Ja)(H:Hp)(E:XK),Room k (A.deeper (NL x (defScope st) s.heap.objs.size f cdv)) ->
  jk (lu IE P w K mg base N x (defScope st) f cdv A outer s H E).nox rl (defBody st) t)
 (hread:∀ws Q,Pd ws Q->t (vP Q) (ck N ws)):DfnP P w K mg base rl x ps (k+1) Pd:=by
 obtain⟨f,fd,hm,F,hb⟩:=Fn.ex;refine⟨mono,f,fd,hm,F.kp,hb,?_⟩;refine F.ok S (fun vs H Q E ⟨F,ws,_,_,r,_,q⟩=>(JU r).trans (len ws _ q)) fun cdv A outer s H vs Q E hr h=>?_;obtain⟨F,ws,sm,ra,r,ok,q⟩:=h;obtain⟨T,p,kk⟩:=hbody cdv A outer s H E hr;refine⟨T,p,kk (cx sm ra r ok) (vP _) _ ⟨fun _ _ _ _ _ _ z=>JR z,?_,fun _ _ _ _ _ _ z=>JR z,fun _ _ _ _ _ _ z=>JR z⟩ (hread ws _ q)⟩;rintro v w1 F1 H1 g1 r1 n1 ⟨z,rfl,q1⟩;exact q1 v F1 H1 g1 r1
def DQ(Q:IC->Prop):Fl->Prop
 | .rt w=>∃z:IC,w = .dp z.1 z.2/\Q z
 | _=>False
theorem qQ{Q:IC->Prop}(h:mS t ρ (DQ Q)):t (vP Q) ρ:=h
theorem n8{Q:IC->Prop}{kvs:List (Ih×IQ)}(h:Q (kvs,d)):ret (Fl.rt (.dp kvs d)) (DQ Q):=⟨(kvs,d),rfl,h⟩
end
section
variable{X:Cx}{rl:RlT}{e:Expr}{es:List Expr}{fs:HC}{pos p:Pos}{ρ:En}
def ye(Pd:List W->(IC->Prop)->Prop)(fs:HC):TV:=fun ρ Q=>fs ρ fun ws=>ws.all cY=true/\Pd ws fun z=>Q (.dp z.1 z.2)
theorem m9{x:Str}{ps:List Str}{k:Nat}{Pd:List W->(IC->Prop)->Prop}(D:DfnP X.prog X.w X.K X.mg X.base rl x ps k Pd)(hr:Room k X.A)(ha:HQ X rl (e::es) fs)(hg:Gl X x:=by rfl)
 (hdb:(x==("__debug__" : Str))=false:=by decide)(he:Jc (e::es) X.env=(false,eval e X.env)::Jc es X.env:=by rfl)(hpl:(KB pos (Jc es X.env)).any (·.1)=false:=by rfl) :
 PV X rl (.Call (.Name x p) (e::es) [] pos) (ye Pd fs):=by
 obtain⟨f,fd,hm,hk,hb,F⟩:=D.ex;obtain⟨t,p1,kk⟩:=ha;refine⟨_,fD F hr hg hm hk hb .nil oK p1 hdb he hpl,fun R Qd Q q h=>kk R _ _ q fun vs ws F1 H1 g1 r1 ⟨ok,q1⟩=>?_⟩;refine⟨F1,ws,g1.sub,g1.reel,by rw[Kl];exact r1,ok,?_⟩;exact D.mono ws _ _ (fun z qd v F2 H2 g2 r2=>h v (.dp z.1 z.2) F2 H2 (g1.trans g2) r2 trivial qd) q1
theorem m_vUseP(Pd:List W->(IC->Prop)->Prop):ye Pd fs ρ=Hj (fs ρ) fun ws=>GW (ws.all cY=true) (Hj (Pd ws) fun z=>ret (.dp z.1 z.2)):=nr rfl
end
theorem fz_fw(kvs:List (Ih×IQ)):(W.fw kvs).fz = .fw kvs:=rfl
theorem pk_fw(kvs:List (Ih×IQ)):(W.fw kvs).peek = .fw kvs:=rfl
theorem isPk_fw(kvs:List (Ih×IQ)):(W.fw kvs).isPk=false:=rfl
theorem isPk_mk(kvs:List (Ih×IQ)):(W.mk kvs).isPk=false:=rfl
theorem isPk_dp(kvs:List (Ih×IQ))(x:IQ):(W.dp kvs x).isPk=false:=rfl
def IM:=IS @m_compDK (IS @m_iWalk (IS @m_vDGetW (IS @m_vDInW (IS @m_vDict0K (IS @s_fzS (IS @s_dputK (IS @m_vTupP (IS @m_gIxP (IS @s_unP (IS @m_vUseP (IS @fz_fw (IS @pk_fw (IS @isPk_fw (IS @isPk_mk (IS @isPk_dp (IS @asFw_f (IS @asDp_f (IS @asMk_m (IS @asFwD_f (IS @isOne_1 (IS @keyW_i (@keyW_s))))))))))))))))))))))
end L2.VL
namespace L2.GA
def Cg(p a b:Int):Prop:=∃t,a=b+p*t
theorem Cg.refl{p:Int}(a:Int):Cg p a a:=⟨0,by omega⟩
theorem Cg.of{p a:Int}(h:a=b):Cg p a b:=h ▸ .refl a
theorem Cg.symm{p a:Int}(h:Cg p a b):Cg p b a:=let ⟨t,e⟩:=h;⟨-t,by grind⟩
theorem Cg.trans{p a:Int}(h:Cg p a b)(k:Cg p b c):Cg p a c:=let ⟨t,e⟩:=h;let ⟨u,f⟩:=k;⟨t+u,by grind⟩
theorem Cg.add{p a d:Int}(h:Cg p a b)(k:Cg p c d):Cg p (a+c) (b+d):=let ⟨t,e⟩:=h;let ⟨u,f⟩:=k;⟨t+u,by grind⟩
theorem Cg.sub{p a d:Int}(h:Cg p a b)(k:Cg p c d):Cg p (a-c) (b-d):=let ⟨t,e⟩:=h;let ⟨u,f⟩:=k;⟨t-u,by grind⟩
theorem Cg.mul{p a d:Int}(h:Cg p a b)(k:Cg p c d):Cg p (a*c) (b*d):=let ⟨t,e⟩:=h;let ⟨u,f⟩:=k;⟨t*d+b*u+p*t*u,by grind⟩
theorem Cg.mod{p:Int}(a:Int):Cg p (a.fmod p) a:=⟨-(a.fdiv p),by have:=Int.fmod_add_fdiv_mul a p;grind⟩
theorem Cg.eq{p a:Int}(h:Cg p a b)(a0:0<=a)(a1:a<p)(b0:0<=b)(b1:b<p):a=b:=by
 obtain⟨t,e⟩:=h;have:a%p=b%p:=by rw[e,LH]
 rwa [Ly a0 a1,Ly b0 b1]at this
theorem Cg.iff{p a:Int}:Cg p a b↔a%p=b%p:=by
 constructor
 · rintro⟨t,e⟩;rw[e,LH]
 · intro h;refine⟨a / p-b / p,?_⟩;have h1:=Nt a p;have h2:=Nt b p
   grind
theorem z_{p:Int}(hp:0<p)(a:Int):a.fmod p=a%p:=MA _ (by omega)
theorem fm_in{p:Int}(hp:0<p)(a:Int):0<=a.fmod p/\a.fmod p<p:=by rw[z_ hp];exact⟨NV _ (by omega),M4 _ hp⟩
theorem jQ{p a:Int}(h0:0<=a)(h1:a<p):a.fmod p=a:=by rw[z_ (by omega)];exact Ly h0 h1
def Sg(n:Nat)(f:Nat->Int):Int:=((Jm n).map f).sum
theorem b_(n:Nat)(f:Nat->Int):Sg (n+1) f=Sg n f+f n:=by unfold Sg;rw[M6,JW,Pk];simp
theorem lG(n:Nat)(f g:Nat->Int):Sg n (fun k=>f k+g k)=Sg n f+Sg n g:=by
 induction n with
 | zero=>rfl
 | succ n ih=>rw[b_,b_,b_,ih];omega
theorem dQ(n:Nat)(f:Nat->Int)(c:Int):Sg n (fun k=>c*f k)=c*Sg n f:=by
 induction n with
 | zero=>simp[Sg]
 | succ n ih=>rw[b_,b_,ih,Int.mul_add]
theorem fU(n:Nat):Sg n (fun _=>0)=0:=by
 induction n with
 | zero=>rfl
 | succ n ih=>rw[b_,ih];rfl
theorem jX(n m:Nat)(f:Nat->Nat->Int):Sg n (fun i=>Sg m fun k=>f i k)=Sg m fun k=>Sg n fun i=>f i k:=by
 induction n with
 | zero =>
   have e:(fun k=>Sg 0 fun i=>f i k)=fun _=>(0:Int):=by funext k;rfl
   rw[e,fU];rfl
 | succ n ih =>
   rw[b_,ih,<- lG];congr 1;funext k;rw[b_]
theorem dR(n:Nat){f g:Nat->Int}(h:∀k,k<n->f k=g k):Sg n f=Sg n g:=by
 unfold Sg;congr 1;exact J7 fun k mk=>h k (Kd.mp mk)
theorem je{p:Int}(n:Nat){f g:Nat->Int}(h:∀k,k<n->Cg p (f k) (g k)):Cg p (Sg n f) (Sg n g):=by
 induction n with
 | zero=>exact .refl _
 | succ n ih=>rw[b_,b_];exact(ih fun k hk=>h k (by omega)).add (h n (by omega))
theorem jd(n:Nat){a:Nat}(ha:a<n)(v:Int):Sg n (fun k=>if k=a then v else 0)=v:=by
 induction n with
 | zero=>omega
 | succ n ih =>
   rw[b_];by_cases e:a=n
   · subst e;rw[dR (g:=fun _=>0) a fun k hk=>by rw[if_neg (by omega)],fU,if_pos rfl];omega
   · rw[ih (by omega),if_neg (by omega)];omega
def clr(p:Int)(r o:List Int)(c:Nat):List Int:=(r.zip o).map fun z=>(z.1-r.getD c 0*z.2).fmod p
def scl(p:Int)(r:List Int)(k:Int):List Int:=r.map fun x=>(k*x).fmod p
def uni(n a:Nat):List Int:=(Jm n).map fun k=>if k=a then 1 else 0
def Fg(p:Int)(n:Nat)(r:List Int):Prop:=r.length=n/\∀k,k<n->0<=r.getD k 0/\r.getD k 0<p
theorem gD{xs:List Int}{k:Nat}(h:k<xs.length):xs.getD k 0=xs[k]:=by rw[Jf,Jd h];rfl
theorem clr_len{p:Int}{r o:List Int}{c:Nat}(hr:r.length=n)(ho:o.length=n):(clr p r o c).length=n:=by unfold clr;simp[hr,ho]
theorem i6{p:Int}{r o:List Int}{c k:Nat}(hr:r.length=n)(ho:o.length=n)(hk:k<n):(clr p r o c).getD k 0=(r.getD k 0-r.getD c 0*o.getD k 0).fmod p:=by
 rw[gD (by rw[clr_len hr ho];exact hk)];unfold clr;rw[K3,OS,gD (xs:=r) (k:=k) (by omega),gD (xs:=o) (k:=k) (by omega)]
theorem ue{p:Int}(hp:0<p){r o:List Int}{c:Nat}(hr:r.length=n)(ho:o.length=n):Fg p n (clr p r o c):=⟨clr_len hr ho,fun k hk=>by rw[i6 hr ho hk];exact fm_in hp _⟩
theorem lA{p:Int}{r o:List Int}{c k:Nat}(hr:r.length=n)(ho:o.length=n)(hk:k<n):Cg p ((clr p r o c).getD k 0) (r.getD k 0-r.getD c 0*o.getD k 0):=by rw[i6 hr ho hk];exact .mod _
theorem scl_len{p:Int}{r:List Int}{a:Int}:(scl p r a).length=r.length:=by unfold scl;simp
theorem nY{p:Int}{r:List Int}{a:Int}{k:Nat}(hk:k<r.length):(scl p r a).getD k 0=(a*r.getD k 0).fmod p:=by
 rw[gD (by rw[scl_len];exact hk)];unfold scl;rw[K3,gD hk]
theorem uni_len(n a:Nat):(uni n a).length=n:=by unfold uni;simp
theorem gi{a k:Nat}(hk:k<n):(uni n a).getD k 0=if k=a then 1 else 0:=by
 rw[gD (by rw[uni_len];exact hk)];unfold uni;simp
theorem mG{xs:List Int}{k:Nat}(h:k<xs.length):(xs++ys).getD k 0=xs.getD k 0:=by
 rw[Jf,Jf,LU h]
theorem qh{xs:List Int}{k:Nat}:(xs++ys).getD (xs.length+k) 0=ys.getD k 0:=by
 rw[Jf,Jf,Mx (by omega)];congr 2;omega
theorem fM{xs:List Int}{c k:Nat}:(xs.drop c).getD k 0=xs.getD (c+k) 0:=by
 rw[Jf,Jf,List.getElem?_drop]
abbrev Kp:=List (Nat×List Int)
def KS(ks:Kp)(f:Nat×List Int->Int):Int:=(ks.map f).sum
theorem ca(z:Nat×List Int)(ks:Kp)(f:Nat×List Int->Int):KS (z::ks) f=f z+KS ks f:=by unfold KS;simp
theorem xw(z:Nat×List Int)(ks:Kp)(f:Nat×List Int->Int):KS (ks++[z]) f=KS ks f+f z:=by unfold KS;simp
theorem AB(ks:Kp)(g:Nat×List Int->Nat×List Int)(f:Nat×List Int->Int):KS (ks.map g) f=KS ks fun z=>f (g z):=by unfold KS;rw[Kf];rfl
theorem CQ{p:Int}{ks:Kp}{f g:Nat×List Int->Int}(h:∀z∈ks,Cg p (f z) (g z)):Cg p (KS ks f) (KS ks g):=by
 induction ks with
 | nil=>exact .refl _
 | cons z ks ih=>rw[ca,ca];exact(h z IV).add (ih fun y hy=>h y (IT _ hy))
theorem AC(ks:Kp)(f g:Nat×List Int->Int):KS ks (fun z=>f z+g z)=KS ks f+KS ks g:=by
 induction ks with
 | nil=>rfl
 | cons z ks ih=>rw[ca,ca,ca,ih];omega
theorem uj(ks:Kp)(f:Nat×List Int->Int)(c:Int):KS ks (fun z=>f z*c)=KS ks f*c:=by
 induction ks with
 | nil=>simp[KS]
 | cons z ks ih=>rw[ca,ca,ih,Int.add_mul]
theorem xv{ks:Kp}{f:Nat×List Int->Int}(h:∀z∈ks,f z=0):KS ks f=0:=by
 induction ks with
 | nil=>rfl
 | cons z ks ih=>rw[ca,h z IV,ih fun y hy=>h y (IT _ hy)];rfl
theorem xx{ks:Kp}{f:Nat×List Int->Int}(nd:(ks.map (·.1)).Nodup){y:Nat×List Int}(hy:y∈ks)(h:∀z∈ks,z.1≠y.1->f z=0):KS ks f=f y:=by
 induction ks with
 | nil=>cases hy
 | cons z ks ih =>
   rw[ca];rw[Ji,KI]at nd;rcases JA.mp hy with rfl|hy'
   · rw[xv fun x hx=>h x (IT _ hx) fun e=>nd.1 (by rw[<- e];exact LB hx)];omega
   · rw[h z IV fun e=>nd.1 (by rw[e];exact LB hy'),ih nd.2 hy' fun x hx=>h x (IT _ hx)];omega
def clrs(p:Int)(r:List Int)(ks:Kp):List Int:=ks.foldl (fun r z=>clr p r z.2 z.1) r
def Gd(p:Int)(C R:Nat)(T:List (List Int))(r:List Int):Prop:=∀c,c<C->Cg p (r.getD c 0) (Sg R fun k=>r.getD (C+k) 0*(T.getD k []).getD c 0)
structure GI (p:Int) (C R:Nat) (T:List (List Int)) (n:Nat) (ks:Kp):Prop where
 len:ks.length=n
 nd:(ks.map (·.1)).Nodup
 lt:∀z∈ks,z.1<C
 fg:∀z∈ks,Fg p (C+R) z.2
 pv:∀z∈ks,∀y∈ks,y.2.getD z.1 0=if y.1=z.1 then 1 else 0
 gd:∀z∈ks,Gd p C R T z.2
 su:∀z∈ks,∀k,n<=k->k<R->z.2.getD (C+k) 0=0
 jj:∀i,i<n->∀c,c<C+R->Cg p ((T.getD i []++uni R i).getD c 0) (KS ks fun z=>(T.getD i []).getD z.1 0*z.2.getD c 0)
theorem GI.nil(p:Int)(C R:Nat)(T:List (List Int)):GI p C R T 0 []:=⟨rfl,.nil,fun _ h=>(nomatch h),fun _ h=>(nomatch h),fun _ h=>(nomatch h),fun _ h=>(nomatch h),fun _ h=>(nomatch h),fun _ h=>by omega⟩
theorem Gd.clr{p:Int}{C R:Nat}{r o:List Int}{c:Nat}(hr:r.length=C+R)(ho:o.length=C+R)(g:Gd p C R T r)(g':Gd p C R T o):Gd p C R T (clr p r o c):=fun k hk=>by
 refine(lA hr ho (by omega)).trans ?_;refine((g k hk).sub ((Cg.refl (r.getD c 0)).mul (g' k hk))).trans ?_;rw[<- dQ,Int.sub_eq_add_neg,<- Int.neg_one_mul,<- dQ,<- lG];refine je R fun j hj=>?_;refine Cg.symm ?_;refine((lA hr ho (k:=C+j) (by omega)).mul (.refl _)).trans (.of ?_)
 grind
theorem Gd.scl{p:Int}{C R:Nat}{r:List Int}{a:Int}(hr:r.length=C+R)(g:Gd p C R T r):Gd p C R T (scl p r a):=fun k hk=>by
 rw[nY (by omega)];refine(Cg.mod _).trans (((Cg.refl a).mul (g k hk)).trans ?_);rw[<- dQ];refine je R fun j hj=>?_;rw[nY (by omega)];exact(((Cg.mod _).mul (.refl _)).trans (.of (by grind))).symm
theorem pO{p:Int}(hp:0<p){C R n:Nat}{T:List (List Int)}:∀{ks:Kp}{r:List Int},(ks.map (·.1)).Nodup->(∀z∈ks,z.1<C)->(∀z∈ks,Fg p (C+R) z.2)->(∀z∈ks,∀y∈ks,y.2.getD z.1 0=if y.1=z.1 then 1 else 0) ->
 (∀z∈ks,Gd p C R T z.2)->(∀z∈ks,∀k,n<=k->k<R->z.2.getD (C+k) 0=0)->Fg p (C+R) r->Gd p C R T r ->
 Fg p (C+R) (clrs p r ks)/\Gd p C R T (clrs p r ks)/\(∀c,c<C+R->Cg p ((clrs p r ks).getD c 0) (r.getD c 0-KS ks fun z=>r.getD z.1 0*z.2.getD c 0))/\∀k,n<=k->k<R->(clrs p r ks).getD (C+k) 0=r.getD (C+k) 0
 | [],r,_,_,_,_,_,_,fr,gr=>⟨fr,gr,fun c _=>.of (by simp[clrs,KS]),fun _ _ _=>rfl⟩
 | z::ks,r,nd,lt,fg,pv,gd,su,fr,gr=>by
   rw[Ji,KI]at nd;have fz:=fg z IV;have mm:∀{y},y∈ks->y∈z::ks:=fun h=>IT _ h
   obtain⟨a1,a2,a3,a4⟩:=pO hp (C:=C) (R:=R) (n:=n) (T:=T) (ks:=ks) (r:=clr p r z.2 z.1) nd.2 (fun y hy=>lt y (mm hy)) (fun y hy=>fg y (mm hy)) (fun y hy x hx=>pv y (mm hy) x (mm hx)) (fun y hy=>gd y (mm hy)) (fun y hy=>su y (mm hy))
    (ue hp fr.1 fz.1) (Gd.clr fr.1 fz.1 gr (gd z IV))
   refine⟨a1,a2,fun c hc=>(a3 c hc).trans ?_,fun k h1 h2=>(a4 k h1 h2).trans ?_⟩
   · rw[ca]
     have e:∀y∈ks,(clr p r z.2 z.1).getD y.1 0=r.getD y.1 0:=fun y hy=>by
      have hl:=lt y (mm hy);rw[i6 fr.1 fz.1 (by omega),pv y (mm hy) z IV,if_neg fun e=>nd.1 (by rw[e];exact LB hy),LP,Pl];exact jQ (fr.2 _ (by omega)).1 (fr.2 _ (by omega)).2
     have e2:(KS ks fun y=>(clr p r z.2 z.1).getD y.1 0*y.2.getD c 0)=KS ks fun y=>r.getD y.1 0*y.2.getD c 0:=by
      unfold KS;congr 1;exact J7 fun y hy=>by rw[e y hy]
     rw[e2];exact((lA fr.1 fz.1 hc).sub (.refl _)).trans (.of (by grind))
   · rw[i6 fr.1 fz.1 (by omega),su z IV k h1 h2,LP,Pl];exact jQ (fr.2 _ (by omega)).1 (fr.2 _ (by omega)).2
structure Hg (p:Int) (C:Nat) (T:List (List Int)) (h:List Int):Prop where
 fg:Fg p T.length h
 ne:∃k,k<T.length/\h.getD k 0≠0
 no:∀c,c<C->Cg p (Sg T.length fun k=>h.getD k 0*(T.getD k []).getD c 0) 0
def row0(R n:Nat)(fs:List Int):List Int:=fs++uni R n
section
variable{p:Int}{C:Nat}{T:List (List Int)}{n:Nat}{ks:Kp}
theorem vd(p2:2<=p)(ht:∀t∈T,Fg p C t)(hn:n<T.length):Fg p (C+T.length) (row0 T.length n (T.getD n [])):=by
 have hT:Fg p C (T.getD n []):=by rw[Jf,Jd hn];exact ht _ (JP hn)
 refine⟨by unfold row0;rw[JH,uni_len,hT.1],fun k hk=>?_⟩;unfold row0;by_cases h:k<C
 · rw[mG (by rw[hT.1];exact h)];exact hT.2 k h
 · obtain⟨j,rfl⟩:∃j,k=(T.getD n []).length+j:=⟨k-C,by rw[hT.1];omega⟩;rw[qh,gi (by have:=hT.1;omega)];split<;>omega
theorem vb(ht:∀t∈T,Fg p C t)(hn:n<T.length):Gd p C T.length T (row0 T.length n (T.getD n [])):=fun c hc=>by
 have hT:(T.getD n []).length=C:=by rw[Jf,Jd hn];exact(ht _ (JP hn)).1
 unfold row0;rw[mG (by rw[hT];exact hc)];refine .of ?_
 have e:∀k,k<T.length->(T.getD n []++uni T.length n).getD (C+k) 0*(T.getD k []).getD c 0=if k=n then(T.getD n []).getD c 0 else 0:=fun k hk=>by
  rw[<- hT,qh,gi hk];by_cases e:k=n
  · subst e;simp
  · rw[if_neg e,if_neg e,Qh]
 rw[dR _ e,jd _ hn]
theorem GI.row(p2:2<=p)(ht:∀t∈T,Fg p C t)(g:GI p C T.length T n ks)(hn:n<T.length) :
 Fg p (C+T.length) (clrs p (row0 T.length n (T.getD n [])) ks)/\Gd p C T.length T (clrs p (row0 T.length n (T.getD n [])) ks) /\
 (∀c,c<C+T.length->Cg p ((clrs p (row0 T.length n (T.getD n [])) ks).getD c 0) ((row0 T.length n (T.getD n [])).getD c 0-KS ks fun z=>(T.getD n []).getD z.1 0*z.2.getD c 0)) /\
 (∀z∈ks,(clrs p (row0 T.length n (T.getD n [])) ks).getD z.1 0=0)/\(clrs p (row0 T.length n (T.getD n [])) ks).getD (C+n) 0=1/\∀k,n<k->k<T.length->(clrs p (row0 T.length n (T.getD n [])) ks).getD (C+k) 0=0:=by
 have hT:(T.getD n []).length=C:=by rw[Jf,Jd hn];exact(ht _ (JP hn)).1
 obtain⟨a1,a2,a3,a4⟩:=pO (by omega) (n:=n) g.nd g.lt g.fg g.pv g.gd g.su (vd p2 ht hn) (vb ht hn);have e0:∀z∈ks,(row0 T.length n (T.getD n [])).getD z.1 0=(T.getD n []).getD z.1 0:=fun z hz=>by unfold row0;exact mG (by rw[hT];exact g.lt z hz)
 have ek:∀c,(KS ks fun z=>(row0 T.length n (T.getD n [])).getD z.1 0*z.2.getD c 0)=KS ks fun z=>(T.getD n []).getD z.1 0*z.2.getD c 0:=fun c=>by
  unfold KS;congr 1;exact J7 fun z hz=>by rw[e0 z hz]
 have er:∀k,k<T.length->(row0 T.length n (T.getD n [])).getD (C+k) 0=if k=n then 1 else 0:=fun k hk=>by unfold row0;rw[<- hT,qh,gi hk]
 refine⟨a1,a2,fun c hc=>by have:=a3 c hc;rwa [ek c]at this,fun z hz=>?_,?_,fun k h1 h2=>?_⟩
 · have hl:=g.lt z hz;have q:=a3 z.1 (by omega);rw[ek,e0 z hz,xx g.nd hz fun y hy ne=>by rw[g.pv z hz y hy,if_neg ne,LP],g.pv z hz z hz,if_pos rfl,NK,Int.sub_self]at q;exact q.eq (a1.2 _ (by omega)).1 (a1.2 _ (by omega)).2 (by omega) (by omega)
 · rw[a4 n (Jb _) hn,er n hn,if_pos rfl]
 · rw[a4 k (by omega) h2,er k h2,if_neg (by omega)]
theorem GI.hang(p2:2<=p)(ht:∀t∈T,Fg p C t)(g:GI p C T.length T n ks)(hn:n<T.length)(h0:∀c,c<C->(clrs p (row0 T.length n (T.getD n [])) ks).getD c 0=0) :
 Hg p C T ((clrs p (row0 T.length n (T.getD n [])) ks).drop C):=by
 obtain⟨a1,a2,a3,a4,a5,a6⟩:=g.row p2 ht hn;refine⟨⟨by rw[KJ,a1.1];omega,fun k hk=>by rw[fM];exact a1.2 _ (by omega)⟩,⟨n,hn,by rw[fM,a5];decide⟩,fun c hc=>?_⟩;have q:=a2 c hc;rw[h0 c hc]at q;refine Cg.symm (q.trans (.of (dR _ fun k hk=>by rw[fM])))
theorem GI.step(p2:2<=p)(ht:∀t∈T,Fg p C t)(g:GI p C T.length T n ks)(hn:n<T.length){v:Nat}(hv:v<C){a:Int}
 (ha:Cg p (a*(clrs p (row0 T.length n (T.getD n [])) ks).getD v 0) 1) :
 (∀z∈ks,z.1≠v)/\GI p C T.length T (n+1) (ks.map (fun z=>(z.1,clr p z.2 (scl p (clrs p (row0 T.length n (T.getD n [])) ks) a) v))++[(v,scl p (clrs p (row0 T.length n (T.getD n [])) ks) a)]):=by
 obtain⟨a1,a2,a3,a4,a5,a6⟩:=g.row p2 ht hn;have hTl:∀i,i<T.length->(T.getD i []).length=C:=fun i hi=>by rw[Jf,Jd hi];exact(ht _ (JP hi)).1
 have a3':∀c,c<C+T.length->Cg p ((T.getD n []++uni T.length n).getD c 0) ((clrs p (row0 T.length n (T.getD n [])) ks).getD c 0+KS ks fun z=>(T.getD n []).getD z.1 0*z.2.getD c 0):=fun c hc =>
  Cg.symm (((a3 c hc).add (.refl _)).trans (.of (by unfold row0;grind)))
 generalize hw:clrs p (row0 T.length n (T.getD n [])) ks=w at *;have sl:(scl p w a).length=C+T.length:=by rw[scl_len,a1.1]
 have sa:∀k,k<C+T.length->(scl p w a).getD k 0=(a*w.getD k 0).fmod p:=fun k hk=>nY (by rw[a1.1];exact hk)
 have sv:(scl p w a).getD v 0=1:=by
  rw[sa v (by omega)];exact((Cg.mod _).trans ha).eq (fm_in (by omega) _).1 (fm_in (by omega) _).2 (by omega) (by omega)
 have sz:∀z∈ks,(scl p w a).getD z.1 0=0:=fun z hz=>by
  have:=g.lt z hz;rw[sa z.1 (by omega),a4 z hz,LP];exact jQ (by omega) (by omega)
 have ne:∀z∈ks,z.1≠v:=fun z hz e=>by
  have:=a4 z hz;rw[e]at this;rw[this,LP]at ha;have:=ha.eq (by omega) (by omega) (by omega) (by omega);omega
 have cl:∀z∈ks,∀k,k<C+T.length->(clr p z.2 (scl p w a) v).getD k 0=(z.2.getD k 0-z.2.getD v 0*(scl p w a).getD k 0).fmod p:=fun z hz k hk=>i6 (g.fg z hz).1 sl hk
 have mem:∀y,y∈ks.map (fun z=>(z.1,clr p z.2 (scl p w a) v))++[(v,scl p w a)]->(∃z∈ks,y=(z.1,clr p z.2 (scl p w a) v))\/y=(v,scl p w a):=fun y hy=>by
  rcases J3.mp hy with h|h
  · obtain⟨z,hz,e⟩:=Jv.mp h;exact .inl ⟨z,hz,e.symm⟩
  · exact .inr (La.mp h)
 refine⟨ne,by simp[g.len],?_,fun y hy=>?_,fun y hy=>?_,fun y hy x hx=>?_,fun y hy=>?_,fun y hy k h1 h2=>?_,fun i hi c hc=>?_⟩
 · rw[JW,Kf];refine List.nodup_append.mpr ⟨g.nd,by simp,fun x hx y hy=>?_⟩;obtain⟨z,hz,rfl⟩:=Jv.mp hx;simp at hy;subst hy;exact ne z hz
 · rcases mem y hy with⟨z,hz,rfl⟩|rfl
   · exact g.lt z hz
   · exact hv
 · rcases mem y hy with⟨z,hz,rfl⟩|rfl
   · exact ue (by omega) (g.fg z hz).1 sl
   · exact⟨sl,fun k hk=>by rw[sa k hk];exact fm_in (by omega) _⟩
 · rcases mem y hy with⟨z,hz,rfl⟩|rfl
   · have zl:=g.lt z hz;rcases mem x hx with⟨u,hu,rfl⟩|rfl
     · show(clr p u.2 (scl p w a) v).getD z.1 0=_;rw[cl u hu z.1 (by omega),sz z hz,LP,Pl,g.pv z hz u hu];show _=if u.1=z.1 then(1:Int)else 0
       split<;>exact jQ (by omega) (by omega)
     · show(scl p w a).getD z.1 0=if v=z.1 then(1:Int)else 0
       rw[sz z hz,if_neg (Nf (ne z hz))]
   · rcases mem x hx with⟨u,hu,rfl⟩|rfl
     · show(clr p u.2 (scl p w a) v).getD v 0=if u.1=v then(1:Int)else 0
       rw[cl u hu v (by omega),sv,NK,Int.sub_self,if_neg (ne u hu)];exact jQ (by omega) (by omega)
     · show(scl p w a).getD v 0=if v=v then(1:Int)else 0
       rw[sv,if_pos rfl]
 · rcases mem y hy with⟨z,hz,rfl⟩|rfl
   · exact Gd.clr (g.fg z hz).1 sl (g.gd z hz) (Gd.scl a1.1 a2)
   · exact Gd.scl a1.1 a2
 · have s0:(scl p w a).getD (C+k) 0=0:=by rw[sa (C+k) (by omega),a6 k (by omega) h2,LP];exact jQ (by omega) (by omega)
   rcases mem y hy with⟨z,hz,rfl⟩|rfl
   · show(clr p z.2 (scl p w a) v).getD (C+k) 0=0;rw[cl z hz (C+k) (by omega),s0,g.su z hz k (by omega) h2,LP,Pl];exact jQ (by omega) (by omega)
   · exact s0
 · -- every row is told by the kept ones
   have hil:i<T.length:=by omega
   obtain⟨q,hq⟩:∃q:Int,∀c,c<C+T.length->Cg p ((T.getD i []++uni T.length i).getD c 0) (KS ks (fun z=>(T.getD i []).getD z.1 0*z.2.getD c 0)+q*(scl p w a).getD c 0):=by
    by_cases e:i<n
    · exact⟨0,fun c hc=>(g.jj i e c hc).trans (.of (by omega))⟩
    · have e:i=n:=by omega
      subst e;refine⟨w.getD v 0,fun c hc=>(a3' c hc).trans ?_⟩;rw[Pn];refine(Cg.refl _).add ?_;rw[sa c hc];refine Cg.symm (((Cg.refl _).mul (Cg.mod _)).trans ?_);refine Cg.trans (.of (show w.getD v 0*(a*w.getD c 0)=a*w.getD v 0*w.getD c 0 by grind)) ((ha.mul (.refl _)).trans (.of (by omega)))
   have qv:=hq v (by omega);rw[mG (by rw[hTl i hil];exact hv),sv,NK]at qv;refine(hq c hc).trans ?_;rw[xw,AB];show Cg p _ ((KS ks fun z=>(T.getD i []).getD z.1 0*(clr p z.2 (scl p w a) v).getD c 0)+(T.getD i []).getD v 0*(scl p w a).getD c 0);refine Cg.symm (((CQ (g:=fun z=>(T.getD i []).getD z.1 0*z.2.getD c 0 + -((T.getD i []).getD z.1 0*z.2.getD v 0)*(scl p w a).getD c 0) fun z hz=>?_).add (qv.mul (.refl _))).trans ?_)
   · exact((Cg.refl _).mul (lA (g.fg z hz).1 sl hc)).trans (.of (by grind))
   · rw[AC,uj];refine .of ?_
     have:(KS ks fun z=>-((T.getD i []).getD z.1 0*z.2.getD v 0)) = -(KS ks fun z=>(T.getD i []).getD z.1 0*z.2.getD v 0):=by
      have:=uj ks (fun z=>(T.getD i []).getD z.1 0*z.2.getD v 0) (-1);simp only[Qx,NK]at this;exact this
     rw[this]
     grind
def xrow(C R:Nat)(ks:Kp)(c:Nat):List Int:=match ks.find? (fun z=>decide (z.1=c))with
 | some z=>z.2.drop C
 | none=>Jp R 0
theorem oh(R k:Nat):(Jp R (0:Int)).getD k 0=0:=by
 rw[Jf,MR];split<;>rfl
theorem j_{C R k:Nat}(f:Nat->Int):∀{ks:Kp},(ks.map (·.1)).Nodup->(∀z∈ks,z.1<C)->Sg C (fun c=>f c*(xrow C R ks c).getD k 0)=KS ks fun z=>f z.1*z.2.getD (C+k) 0
 | [],_,_=>by
   rw[dR (g:=fun _=>0) C fun c hc=>by show f c*(Jp R 0).getD k 0=0;rw[oh,LP],fU];rfl
 | z::ks,nd,lt=>by
   rw[Ji,KI]at nd;have lz:=lt z IV;rw[ca,<- j_ f nd.2 fun y hy=>lt y (IT _ hy)];rw[<- jd C lz (f z.1*z.2.getD (C+k) 0),<- lG];refine dR C fun c hc=>?_;by_cases e:c=z.1
   · subst e;rw[if_pos rfl];have e1:xrow C R (z::ks) z.1=z.2.drop C:=by unfold xrow;rw[Ka];simp
     have e2:xrow C R ks z.1=Jp R 0:=by
      unfold xrow
      have:ks.find? (fun y=>decide (y.1=z.1))=none:=by
       rw[List.find?_eq_none];intro y hy h;exact nd.1 (by rw[<- of_decide_eq_true h];exact LB hy)
      rw[this]
     rw[e1,e2,oh,fM];omega
   · rw[if_neg e];have e1:xrow C R (z::ks) c=xrow C R ks c:=by unfold xrow;rw[Ka];simp[Nf e]
     rw[e1];omega
def IsRi(p:Int)(C:Nat)(T X:List (List Int)):Prop:=X.length=C/\(∀r∈X,Fg p T.length r)/\∀i,i<T.length->∀k,k<T.length->Cg p (Sg C fun c=>(T.getD i []).getD c 0*(X.getD c []).getD k 0) (if k=i then 1 else 0)
theorem GI.ri(p2:2<=p)(ht:∀t∈T,Fg p C t)(g:GI p C T.length T T.length ks):IsRi p C T ((Jm C).map fun c=>xrow C T.length ks c):=by
 refine⟨by simp,fun r hr=>?_,fun i hi k hk=>?_⟩
 · obtain⟨c,_,rfl⟩:=Jv.mp hr;unfold xrow;split
   · rename_i z e;have fz:=g.fg z (Oj e);exact⟨by rw[KJ,fz.1];omega,fun k hk=>by rw[fM];exact fz.2 _ (by omega)⟩
   · exact⟨by simp,fun k hk=>by rw[oh];omega⟩
 · have hT:(T.getD i []).length=C:=by rw[Jf,Jd hi];exact(ht _ (JP hi)).1
   have e:∀c,c<C->(T.getD i []).getD c 0*(((Jm C).map fun c=>xrow C T.length ks c).getD c []).getD k 0=(T.getD i []).getD c 0*(xrow C T.length ks c).getD k 0:=fun c hc=>by
    congr 2;rw[Jf,Jd (by simpa using hc)];simp
   rw[dR C e,j_ _ g.nd g.lt];have j:=g.jj i hi (C+k) (by omega);rw[<- hT,qh,gi hk,hT]at j;exact j.symm
def Ind(p:Int)(C:Nat)(T:List (List Int)):Prop:=∀f:Nat->Int,(∀c,c<C->Cg p (Sg T.length fun k=>f k*(T.getD k []).getD c 0) 0)->∀k,k<T.length->Cg p (f k) 0
theorem IsRi.ind{X:List (List Int)}(h:IsRi p C T X):Ind p C T:=fun f hf k hk=>by
 have e1:Cg p (Sg C fun c=>(Sg T.length fun i=>f i*(T.getD i []).getD c 0)*(X.getD c []).getD k 0) 0:=by
  refine(je (g:=fun _=>0) C fun c hc=>((hf c hc).mul (.refl _)).trans (.of (by omega))).trans (.of (fU C))
 have e2:(Sg C fun c=>(Sg T.length fun i=>f i*(T.getD i []).getD c 0)*(X.getD c []).getD k 0)=Sg T.length fun i=>f i*Sg C fun c=>(T.getD i []).getD c 0*(X.getD c []).getD k 0:=by
  have a1:(fun c=>(Sg T.length fun i=>f i*(T.getD i []).getD c 0)*(X.getD c []).getD k 0)=fun c=>Sg T.length fun i=>f i*((T.getD i []).getD c 0*(X.getD c []).getD k 0):=by
   funext c;rw[Oe,<- dQ];congr 1;funext i
   grind
  rw[a1,jX];congr 1;funext i;rw[dQ]
 rw[e2]at e1
 have e3:Cg p (Sg T.length fun i=>f i*Sg C fun c=>(T.getD i []).getD c 0*(X.getD c []).getD k 0) (f k):=by
  refine(je (g:=fun i=>if i=k then f k else 0) T.length fun i hi=>((Cg.refl (f i)).mul (h.2.2 i hi k hk)).trans (.of ?_)).trans (.of (jd T.length hk (f k)));by_cases e:i=k
  · subst e;simp
  · rw[if_neg (Nf e),if_neg e];simp
 exact e3.symm.trans e1
theorem Hg.not{h:List Int}(a:Hg p C T h):¬Ind p C T:=fun i=>by
 obtain⟨k,hk,ne⟩:=a.ne;have:=i (fun k=>h.getD k 0) a.no k hk;exact ne (this.eq (a.fg.2 k hk).1 (a.fg.2 k hk).2 (by omega) (by have:=a.fg.2 k hk;omega))
theorem v7:∀(C:Nat)(l:List Nat),l.Nodup->(∀x∈l,x<C)->l.length<=C
 | 0,l,_,h=>by
   cases l with
   | nil=>exact Jb _
   | cons x l=>exact absurd (h x IV) (by omega)
 | C+1,l,nd,h=>by
   by_cases m:C∈l
   · have:=v7 C (l.erase C) (nd.erase C) fun x hx=>by
       rw[nd.mem_erase_iff]at hx;have:=h x hx.2;omega
     rw[Ln m]at this;omega
   · have:=v7 C l nd fun x hx=>by
       have h1:=h x hx;have:x≠C:=fun e=>m (e▸hx);omega
     omega
theorem GI.le(g:GI p C T.length T n ks):n<=C:=by
 have:=v7 C (ks.map (·.1)) g.nd fun x hx=>by
  obtain⟨z,hz,rfl⟩:=Jv.mp hx;exact g.lt z hz
 rw[I_,g.len]at this;exact this
end
def EK(p:Int)(C:Nat)(T:List (List Int)):Prop:=∀cs:List (Int×List Int),cs.map (·.2)=T->(∀c,c<C->Cg p (cs.map fun z=>z.1*z.2.getD c 0).sum 0)->∀z∈cs,Cg p z.1 0
theorem xr(cs:List α)(d:α)(g:α->Int):Sg cs.length (fun k=>g (cs.getD k d))=(cs.map g).sum:=by
 unfold Sg;congr 1;refine Ny (by simp) fun k a b=>?_;have hk:k<cs.length:=by simpa using b
 rw[K3,K3,LN,Jf,Jd hk];rfl
theorem Ca{p:Int}{C:Nat}:Ind p C T↔EK p C T:=by
 constructor
 · intro h cs e hs z mz;obtain⟨k,hk,rfl⟩:=Md mz;have hl:T.length=cs.length:=by rw[<- e,I_]
   have eT:∀k,T.getD k []=(cs.getD k (0,[])).2:=fun k=>by
    rw[<- e,Jf,Jf,JY];cases cs[k]?<;>rfl
   have q:=h (fun k=>(cs.getD k (0,[])).1) (fun c hc=>by
    have:=hs c hc;rw[<- xr cs (0,[]) fun z=>z.1*z.2.getD c 0]at this;rw[hl];refine(Cg.of (dR _ fun k _=>?_)).trans this
    rw[eT]) k (by omega)
   have e1:cs.getD k (0,[])=cs[k]:=by rw[Jf,Jd hk];rfl
   have q:Cg p (cs.getD k (0,[])).1 0:=q
   rwa [e1]at q
 · intro h f hf k hk;refine h ((Jm T.length).map fun k=>(f k,T.getD k [])) ?_ (fun c hc=>?_) (f k,T.getD k []) (Jv.mpr ⟨k,Kd.mpr hk,rfl⟩)
   · rw[Kf];refine Ny (by simp) fun i a b=>?_;have hi:i<T.length:=by simpa using a
     simp[Jf,Jd hi]
   · rw[Kf];exact hf c hc
theorem rN{T':List (List Int)}(h:T'.Sublist T):∀cs:List (Int×List Int),cs.map (·.2)=T'->∃cs':List (Int×List Int),cs'.map (·.2)=T/\(∀z∈cs,z∈cs')/\∀c,(cs'.map fun z=>z.1*z.2.getD c 0).sum=(cs.map fun z=>z.1*z.2.getD c 0).sum:=by
 induction h with
 | slnil=>intro cs e;exact⟨cs,e,fun z h=>h,fun _=>rfl⟩
 | cons a h ih =>
   intro cs e;obtain⟨cs',h1,h2,h3⟩:=ih cs e
   exact⟨(0,a)::cs',by rw[Ji,h1],fun z hz=>IT _ (h2 z hz),fun c=>by rw[Ji,Kc,h3];omega⟩
 | cons_cons a h ih =>
   intro cs e
   cases cs with
   | nil=>cases e
   | cons z cs =>
     rw[Ji,Ku]at e;obtain⟨cs',h1,h2,h3⟩:=ih cs e.2;refine⟨z::cs',by rw[Ji,h1,e.1],fun y hy=>?_,fun c=>by rw[Ji,Ji,Kc,Kc,h3]⟩;rcases JA.mp hy with rfl|hy
     · exact IV
     · exact IT _ (h2 y hy)
theorem Ind.sub{p:Int}{C:Nat}{T':List (List Int)}(h:T'.Sublist T)(i:Ind p C T):Ind p C T':=Ca.mpr fun cs e hs z mz=>by
 obtain⟨cs',h1,h2,h3⟩:=rN h cs e;exact Ca.mp i cs' h1 (fun c hc=>by rw[h3];exact hs c hc) z (h2 z mz)
def rowsG(ts:List (List (List Int)))(ks:List Int):List (List Int):=(ts.zip ks).flatMap fun z=>z.1.take z.2.toNat
def Net(p:Int)(m:Nat)(ts:List (List (List Int)))(w:Int):Prop:=∀ks:List Int,ks.length=ts.length->(∀k∈ks,0<=k)->ks.sum=w->Ind p m (rowsG ts ks)
theorem Net.down{p:Int}{w:Int}(t1:1<=ts.length)(h:Net p m ts (w+1)):Net p m ts w:=fun ks kl k0 ksum=>by
 cases ts with
 | nil=>simp at t1
 | cons t ts =>
   cases ks with
   | nil=>simp at kl
   | cons k ks =>
     have k0':=k0 k IV;refine(h ((k+1)::ks) (by simpa using kl) (fun y hy=>?_) (by rw[Kc]at ksum ⊢;omega)).sub ?_
     · rcases JA.mp hy with rfl|hy
       · omega
       · exact k0 y (IT _ hy)
     · unfold rowsG;rw[LQ,KW,LQ,KW];refine List.Sublist.append ?_ (List.Sublist.refl _);show(t.take k.toNat).Sublist (t.take (k+1).toNat);have:t.take k.toNat=(t.take (k+1).toNat).take k.toNat:=by rw[List.take_take];congr 1;omega
       rw[this];exact List.take_sublist _ _
theorem Net.le{p:Int}{m:Nat}{ts:List (List (List Int))}(t1:1<=ts.length):∀(n:Nat){w:Int},Net p m ts (w+n)->Net p m ts w
 | 0,w,h=>by simpa using h
 | n+1,w,h=>Net.le t1 n (Net.down t1 (by rwa [show w+(n:Int)+1=w+((n+1:Nat):Int) by omega]))
structure Str (p:Int) (m:Nat) (ts:List (List (List Int))) (o:Int):Prop where
 o0:0<=o
 om:o<=m
 net:o≠0->Net p m ts o
 top:∀w,o<w->w<=m->¬Net p m ts w
theorem Str.all{p:Int}{o w:Int}(h:Str p m ts o)(t1:1<=ts.length)(w1:1<=w)(wo:w<=o):Net p m ts w:=by
 have q:=h.net (by omega);exact Net.le t1 (o-w).toNat (by rwa [show w+((o-w).toNat:Int)=o by omega])
theorem Str.le{p:Int}{ts':List (List (List Int))}{o o':Int}(h:Str p m ts o)(h':Str p m ts' o')(i:∀w,Net p m ts w->Net p m ts' w):o<=o':=by
 have:=h.o0;have:=h'.o0;have:=h.om;rcases Int.lt_or_le o' o with z|z
 · exact absurd (i o (h.net (by omega))) (h'.top o z (by omega))
 · exact z
theorem Str.same{p:Int}{ts':List (List (List Int))}{o o':Int}(h:Str p m ts o)(h':Str p m ts' o')(i:∀w,Net p m ts w↔Net p m ts' w):o=o' :=
 Int.le_antisymm (h.le h' fun w=>(i w).mp) (h'.le h fun w=>(i w).mpr)
end L2.GA
namespace L2
section
variable{X:Cx}
end
end L2
namespace L2.VL
section
variable{X:Cx}{rl:RlT}{a e:Expr}{fs:HC}{pos p:Pos}
end
end L2.VL
namespace L2.TM
end L2.TM
namespace L2
section
variable{X:Cx}
end
end L2
namespace L2.VL
section
variable{X:Cx}{rl:RlT}{a b:Expr}{fa fb:TV}{pos:Pos}
end
section
variable{X:Cx}{al:Option Addr}{c:Nat}{a:Expr}{lo hi:Option Expr}{fa:TV}{fl fh:HE}{pos p2:Pos}{tg:Expr}
def IG(X:Cx)(al:Option Addr)(o:Option Expr)(f:HE):Prop:=∃t,PO X o t/\∀{b:Nat}{F₀ H₀ F H:Hp}{σ:St}{ρ:En},VR X.K ⟨al,b⟩ F₀ H₀ F H σ ρ->∀(Qd:Option Int->Prop)(Q:Option Int->Hp->Prop),f ρ Qd ->
 (∀o F' H',Grow ⟨al,b⟩ F H F' H'->Qd o->Q o H')->t σ H Q
theorem Hd{o:Option Expr}{f:HE}(h:∀n,HR X ⟨al,n⟩ o f):IG X al o f :=
 ⟨fun σ H Q=>∃n,Jw (h n) σ H Q,fun pins s σ H Q I ⟨n,z⟩=>(IU (h n)).1 pins s σ H Q I z,fun{b F₀ H₀ F H σ ρ} R Qd Q q k=>⟨b,(IU (h b)).2 R Qd Q q k⟩⟩
theorem CA(ha:CV X al c a fa)(hl:∀n,HR X ⟨al,n⟩ lo fl)(hh:∀n,HR X ⟨al,n⟩ hi fh):CV X al c (.Subscript a (.Slice lo hi none p2) pos) (AH fa fl fh):=by
 obtain⟨t,p,k⟩:=ha;obtain⟨tl,pl,kl⟩:=Hd hl;obtain⟨th,ph,kh⟩:=Hd hh;refine⟨_,eO nS p pl ph,fun{b F₀ H₀ F H σ ρ} R Qd Q q h=>k R _ _ q fun v w F1 H1 g1 r1 n1 q1=>?_⟩;have R1:=R.gr g1;refine kl R1 _ _ q1 fun l F2 H2 g2 q2=>kh (R1.grow g2) _ _ q2 fun u F3 H3 g3 q3=>?_;obtain⟨xs,rfl,q3⟩:=q3;have r3:=(r1.grow g2).grow g3;have g:=(g1.trans g2).trans g3
 cases(show Rep X.K F3 v (.tuple xs)from r3)with
 | @tup a vs _ sq rs =>
   by_cases hw:HT.sIx xs.length 0 l=0/\HT.sIx xs.length xs.length u=xs.length
   · rw[iZ hw]at q3;exact .inr ⟨a,vs,rfl,cR g3.sub sq,by rw[rs.length];exact hw,h _ (.d _) _ _ g (.tup sq rs) trivial q3⟩
   · refine .inl ⟨a,vs,rfl,cR g3.sub sq,by rw[rs.length];exact hw,fun p hp=>?_⟩;have g':=Grow.data (a:=p) (o:=.tup (qp vs l u)) g3.sub g3.reel hp;exact h _ (.d _) _ _ (g.trans g') (.tup (.inl (.inl ak)) ((rs.cut l u).mono g'.fs)) trivial q3
end
section
variable{X:Cx}{rl:RlT}{iter:Expr}{scope:Scope}{fi:En->(List IQ->Prop)->Prop}{xk xl xh f:Str}{ps:List Str}{k:Nat}{Pd:List W->(IQ->Prop)->Prop}{pk p1 p2 p3 p4 p5 p6 p7 p8 p9 p10 ap pc rp:Pos}
end
section
variable{X:Cx}{al:Option Addr}{c1 c2:Nat}{iter:Expr}{scope:Scope}{fi:En->(List IQ->Prop)->Prop}{xk xl xh f:Str}{ps:List Str}{k:Nat}{Pd:List W->(IQ->Prop)->Prop}{pk p1 p2 p3 p4 p5 p6 p7 p8 p9 p10 ap pc rp:Pos}
end
end L2.VL
namespace L2
def Ir(hi:Int)(n:Nat):It:=⟨fun i _=>i<n,fun i H x H'=>H'=H/\x = .int (hi-i),fun i _=>n<=i⟩
theorem nJ{w:Kh}{K:W.Frag}(it:Addr)(hi:Int)(n:Nat):Turn P w K tg (Ir hi n) [it] it (fun i h=>PM h it (hi+(i:Nat)*(-1)) ((n:Int)-(i:Nat)) (-1)) where
 mem:=by simp
 obj:=fun i h st b hb=>by
  have e:b=it:=by simpa using hb
  subst e
  exact⟨_,st,fun v z=>by
   have z':Data.fields _=Data.cell v:=z
   cases z'⟩
 keep:=fun i h h' st k=>k it (by simp) _ st
 item:=by
  intro X hP hw hK hc i pins s σ H E I hf st hg;subst hP hw hK;obtain⟨f0,f1,f2,f3,f4,f5⟩:=hf it (by simp);have W:=Walks.range (prog:=X.prog) (w:=X.w) (I.ok.hd hc) it hi (-1) n;refine W.item i s _ _ hg st fun v h' tk hv st' kk=>?_;obtain⟨t,rfl⟩:=hv;have I1:Inv X pins σ H {s with heap:=h',toks:=tk}:=I.turned (fun b o hb e=>kk b o (by simpa using hb) e) f0 f1 f3 f4 f5;refine⟨_,rfl,mB (s:={s with heap:=h',toks:=tk}) (n := "range_iterator") st' rfl rfl (by decide) ⟨.int (hi-i),H,I1,⟨t,?_⟩,⟨rfl,rfl⟩,st',fun b hb=>(hf b hb).1⟩⟩;congr 1;omega
 done:=by
  intro X hP hw hK hc i pins s σ H E I hf st hg;subst hP hw hK;obtain⟨f0,f1,f2,f3,f4,f5⟩:=hf it (by simp);exact OU (I.ok.hd hc) st (by have:n<=i:=hg;omega) fun h' eb=>⟨rfl,I.turned (t':=s.toks) (fun b o hb e=>eb b o hb e) f0 f1 f3 f4 f5⟩
 self:=fun _ _ _ _ _ st h=>OV st h
theorem rangeSize_down(a b:Int):L_ a b (-1)=if b<a then a-b else 0:=by
 unfold L_;rw[if_neg (by decide)];simp only[show(-(-1):Int)=1 by decide,Int.ediv_one];by_cases h:b<a
 · rw[if_pos h,if_pos h];omega
 · rw[if_neg h,if_neg h]
theorem small_down{a:Int}(ha : -(2^61)<=a)(ha':a<2^61)(hb : -(2^61)<=b)(hb':b<2^61):PU a b (-1)=true:=by
 unfold PU;rw[rangeSize_down];simp only[Builtin.Range.rangeFitsLong,Nu,Bool.or_eq_true,decide_eq_true_eq,beq_iff_eq,show ¬((-1:Int)>0) by decide,if_false];split<;>omega
section
variable{X:Cx}{tg:Expr}
def Cb(ta:TA):TI:=fun σ H R=>ta σ H fun vs H1=>∃i j:Int,vs=[.int i,.int j,.int (-1)]/\(-(2^61)<=i/\i<2^61 /\ -(2^61)<=j/\j<2^61)/\R (Ir i (i-j).toNat) H1
theorem oC{a b c:Expr}{ta:TA}{p:Pos}(hg:Gl X "range")(hm:X.mg "range" = none)(ha:PA X [a,b,c] ta)(hs:Jc [a,b,c] X.env=(false,eval a X.env)::Jc [b,c] X.env:=by rfl)(hpl:(KB pos (Jc [b,c] X.env)).any (·.1)=false:=by rfl) :
 PI X tg (.Call (.Name "range" p) [a,b,c] [] pos) (Cb ta):=by
 intro pins s σ H R I h;refine Call_ (fG I hg hm boot_range (KR (FB (ha pos pins s σ H _ I h) fun us s1 ⟨vs,H1,I1,r1,q1⟩=>?_) hs hpl));obtain⟨i,j,e,⟨h1,h2,h3,h4⟩,q⟩:=q1;subst e
 cases r1 with
 | cons r rr =>
   cases rr with
   | cons r' rr =>
     cases rr with
     | cons r'' rr =>
       cases rr;obtain⟨t,rfl⟩:=r;obtain⟨u,rfl⟩:=r';obtain⟨v,rfl⟩:=r'';refine call_range_3 (by decide) ?_;refine wpAny_pyIter_range (IsRange.new ..) (small_down h1 h2 h3 h4) ?_;have I2:Inv X pins σ H1 {s1 with heap:=s1.heap.push {cls:=.type "range", data:=.fields #[.int i t,.int j u,.int (-1) v]}}:=I1.kept (t':=s1.toks) fun b o e=>IW _ e
       refine⟨(s1.heap.push {cls:=.type "range", data:=.fields #[.int i t,.int j u,.int (-1) v]}).objs.size,[(s1.heap.push {cls:=.type "range", data:=.fields #[.int i t,.int j u,.int (-1) v]}).objs.size],_,_,H1,rfl,
        I2.kept (t':=s1.toks) fun b o e=>IW _ e,nJ _ i (i-j).toNat,?_,fun b hb=>?_,q⟩
       · have e1:i+((0:Nat):Int)*(-1)=i:=by simp
         have e2:(((i-j).toNat:Nat):Int)-((0:Nat):Int)=L_ i j (-1):=by rw[rangeSize_down];split<;>omega
         show PM _ _ (i+((0:Nat):Int)*(-1)) ((((i-j).toNat:Nat):Int)-((0:Nat):Int)) (-1);rw[e1,e2];exact Jk _ rfl
       · have e:b=(s1.heap.push {cls:=.type "range", data:=.fields #[.int i t,.int j u,.int (-1) v]}).objs.size:=by simpa using hb
         subst e;exact I2.fpOk (Jb _) (I2.hok.fresh (Jb _))
end
end L2
namespace L2.VL
section
variable{X:Cx}{rl:RlT}{a b c tg:Expr}{fs:HC}{pos p:Pos}{ρ:En}
def iX(hi:Int)(n:Nat):List IQ:=(Jm n).map fun(i:Nat)=>.int (hi-i)
theorem iW{hi:Int}{i:Nat}{x:IQ}(h:(iX hi n)[i]?=some x):i<n/\x = .int (hi-i):=by
 unfold iX at h;rw[JY]at h;by_cases q:i<n
 · rw[List.getElem?_range q]at h;cases h;exact⟨q,rfl⟩
 · rw[Nq (by simpa using q)]at h;cases h
theorem iV(hi:Int)(n:Nat):(iX hi n).length=n:=by unfold iX;simp
theorem qy{K:W.Frag}(hi:Int)(n:Nat):VIt K rl F (Ir hi n) (iX hi n) :=
 .of (fun i H x e s=>(iW e).1) (fun i H hl s=>by rw[iV]at hl;exact hl) (fun i H v H' x e s y=>by
  obtain⟨e1,e2⟩:=y;subst e2;rw[(iW e).2]
  exact⟨e1,.int _⟩)
def GQ(fs:HC):En->(List IQ->Prop)->Prop:=fun ρ Q=>fs ρ fun ws=>∃i j:Int,ws=[.d (.int i),.d (.int j),.d (.int (-1))]/\(-(2^61)<=i/\i<2^61 /\ -(2^61)<=j/\j<2^61)/\Q (iX i (i-j).toNat)
theorem mX(hm:X.mg "range" = none)(ha:HQ X rl [a,b,c] fs)(hg:Gl X "range" := by rfl)(hs:Jc [a,b,c] X.env=(false,eval a X.env)::Jc [b,c] X.env:=by rfl)(hpl:(KB pos (Jc [b,c] X.env)).any (·.1)=false:=by rfl) :
 HY X rl tg (.Call (.Name "range" p) [a,b,c] [] pos) (GQ fs):=by
 obtain⟨t,p1,k⟩:=ha;refine⟨_,oC hg hm p1 hs hpl,fun R Qd Q q h=>k R _ _ q fun vs ws F1 H1 g1 r1 ⟨i,j,ew,b,q1⟩=>?_⟩;subst ew
 cases r1 with
 | cons ra r1 =>
   obtain⟨v,u,rfl,rv,ru⟩:=AR r1;have e:=aB ra;have e':=aB rv;have e'':=aB ru;subst e e' e'';exact⟨i,j,rfl,b,h _ _ F1 H1 g1 (qy i _) q1⟩
def B9(ws:List W):Option (Int×Int):=match ws with
 | [.d (.int i),.d (.int j),.d (.int (-1))]=>some (i,j)
 | _=>none
theorem zS(i j:Int):B9 [.d (.int i),.d (.int j),.d (.int (-1))]=some (i,j):=rfl
theorem BZ:GQ fs ρ=Hj (fs ρ) fun ws=>aD (B9 ws) fun z=>GW (-(2^61)<=z.1/\z.1<2^61 /\ -(2^61)<=z.2/\z.2<2^61) (ret (iX z.1 (z.1-z.2).toNat)):=by
 show(Hj (fs ρ) fun ws=>fun(Q:List IQ->Prop)=>∃i j:Int,ws=[.d (.int i),.d (.int j),.d (.int (-1))]/\(-(2^61)<=i/\i<2^61 /\ -(2^61)<=j/\j<2^61)/\Q (iX i (i-j).toNat))=_;congr 1;funext ws;refine af fun Q=>?_;simp only[ai,GW,ret];constructor
 · rintro⟨i,j,rfl,h,q⟩;exact⟨(i,j),rfl,h,q⟩
 · rintro⟨⟨i,j⟩,e,h,q⟩;unfold B9 at e;split at e
   · cases e;exact⟨i,j,rfl,h,q⟩
   · cases e
end
section
variable{X:Cx}{rl:RlT}{a b c o e:Expr}{es:List Expr}{fa fb:TV}{fs:HC}{pos p px apos cpos:Pos}{ρ:En}
def sj:List W->(W->Prop)->Prop:=fun ws Q=>∃w xs,ws=[w]/\w.dat=some (.list xs)/\Q (.nt xs)
theorem uD:dP X rl (fun xs H Q=>∃p ys,xs=[.ref p]/\((HJ X.K H p ys/\∀l,H l=none->Q (.ref l) (upd H l (.tup ys)))\/(HI X.K H p ys/\Q (.ref p) H))) sj:=fun{F H vs ws} Qd Q s ra r ⟨w,xs,ew,ed,q⟩ k=>by
 subst ew;obtain⟨v,rfl,r1⟩:=mL r;obtain⟨a,us,rfl,sq,rs⟩:=r1.items s ed;refine⟨a,us,rfl,.inl ⟨sq,fun l hl=>?_⟩⟩;have g:=Grow.data (a:=l) (o:=.tup us) s ra hl;exact k _ (.nt xs) _ _ g ⟨l,us,rfl,ak,rs.mono g.fs⟩ trivial q
theorem qB(hm:X.mg "tuple" = none)(ha:HQ X rl [a] fs)(hg:Gl X "tuple" := by rfl)(he:Jc [a] X.env=(false,eval a X.env)::Jc [] X.env:=by rfl)(hpl:(KB pos (Jc [] X.env)).any (·.1)=false:=by rfl) :
 PV X rl (.Call (.Name "tuple" p) [a] [] pos) (cr sj fs):=eL bW uD hm (by rfl) ha hg (by decide) (by decide) he hpl
end
end L2.VL
namespace L2
section
variable{X:Cx}{o e f:Expr}{apos cpos:Pos}{td ty tx:TE}
theorem zO{b:Addr}{ks:List Ih}(I:Inv X pins σ H s)(h:HI X.K H b (ks.map kV)):(Oo (bj X.prog X.w)).is s.heap ks b:=by
 obtain⟨its,r,⟨o,h1,h2,n,h3⟩,_⟩:=I.tuple h;exact⟨o,its.toArray,n,h1,h2,h3,by simpa using fH r⟩
def yA(K:W.Frag)(td ty tx:TE):TE:=fun σ H Q=>td σ H fun x H1=>∃a,x = .ref a/\Iy H1 a/\ty σ H1 fun y H2=>tx σ H2 fun z H3=>∃b kvs k,y = .ref b/\H3 a=some (.dT kvs)/\HI K H3 b (k.map kV)/\Q ((dq kvs k).getD z) H3
theorem rj(hu:X.A.units+1<N1)(ho:PE X o td)(he:PE X e ty)(hf:PE X f tx)(m:M2 X o "get" apos e f cpos):PE X (.Call (.Attribute o "get" apos) [e,f] [] cpos) (yA X.K td ty tx):=by
 intro pins s σ H Q I h;refine wpAny_Call_method m.base m.few m.line OO Po PySem.F.type_dict_get (FB (ho pins s σ H _ I h) fun u s1 ⟨x,H1,I1,rx,a,ex,d,q1⟩=>?_);subst ex;obtain rfl:u=K0 a:=rx;obtain⟨t1,t2,_⟩:=zT I1 d;refine⟨t1,t2,?_⟩;rw[m.trees]
 refine Nb rfl (Pw (N5 (FB (he pins s1 σ H1 _ I1 q1) fun iv s2 ⟨y,H2,I2,ry,q2⟩ =>
  N5 (FB (hf pins s2 σ H2 _ I2 q2) fun fv s3 ⟨z,H3,I3,rz,b,kvs,k,ey,ea,eb,q3⟩=>Calls.spliced_nil ?_))))
 subst ey;cases(show iv=K0 b from ry);obtain⟨z,hd,xs,rel,dd⟩:=mD I3.hok (.inl ea);refine Qi Po dd.typeIs PySem.F.entry_dict_get (PySem.F.args_dict_get_3 _ _ _) (meetsH_dict_get_default (Oo (bj X.prog X.w)) a b hd fv) ⟨MU hu,k,xs,zO I3 eb,dd,⟨_,H3,I3.tok _,?_,q3⟩⟩;exact(rel.val k).getD rz
end
end L2
namespace L2.VL
section
variable{X:Cx}{rl:RlT}{a b c o e:Expr}{es:List Expr}{fa fb:TV}{fs:HC}{pos p px apos cpos:Pos}{ρ:En}
def xH(w:W):Option (List Int):=w.dat.bind mj
theorem xi{w:W}:xH w=some g↔w.dat=some (.tuple (g.map .int)):=by
 unfold xH
 cases w.dat with
 | none=>simp
 | some d=>simp[ll]
theorem asTI_nt(g:List Int):xH (.nt (g.map .int))=some g:=hV g
theorem asTI_d(g:List Int):xH (.d (.tuple (g.map .int)))=some g:=hV g
theorem lf(g:List Int):(g.map J0:List Ih).map mM=g.map .int:=by rw[Kf];rfl
def nn(i:Nat)(fk fx:TV):TV:=fun ρ Q=>∃kvs,ρ[i]?=some (some (.md kvs))/\fk ρ fun wk=>fx ρ fun wx=>∃(g:List Int)(x:IQ),xH wk=some g/\wx = .d x/\Q (.d ((qA kvs (g.map .inl)).getD x))
theorem uN(i:Nat){x:Str}{f:Expr}{fk fx:TV}(hu:X.A.units+64<N1)(hk:PV X rl e fk)(hx:PV X rl f fx)(hN:X.N[i]?=some x:=by rfl)(hv:Hw X.env.scope x:=by first|exact KH rfl|exact J8 (KH rfl)|exact J8 (J8 rfl))
 (hd:(x==("__debug__" : Str))=false:=by decide)(hcd:(x==("__classdict__" : Str))=false:=by decide)(m:M2 X (.Name x px) "get" apos e f cpos:=by exact⟨rfl,rfl,rfl,rfl⟩) :
 PV X rl (.Call (.Attribute (.Name x px) "get" apos) [e,f] [] cpos) (nn i fk fx):=by
 obtain⟨t,p1,k1⟩:=hk;obtain⟨t2,p2,k2⟩:=hx;refine⟨_,rj (by omega) (bI hN hv hd hcd) p1 p2 m,fun{F₀ H₀ F H σ ρ} R Qd Q ⟨kvs,e1,q⟩ h=>?_⟩;obtain⟨v,h1,h2,h3⟩:=R.sl i _ e1;obtain⟨a,us,rfl,f0,hr,hh,rs⟩:=(show jY X.K rl F H v kvs from h2);refine⟨.ref a,h1,a,rfl,.inr ⟨us,.inl hh⟩,k1 R _ _ q fun v1 w1 F1 H1 g1 r1 n1 q1=>?_⟩;refine k2 (R.grow g1) _ _ q1 fun v2 w2 F2 H2 g2 r2 n2 q2=>?_;obtain⟨gs,d,e2,rfl,q2⟩:=q2;rw[xi,<- lf]at e2;generalize (gs.map J0:List Ih)=ks at e2 q2;obtain⟨b,vs,rfl,hb,rb⟩:=r1.itemsT g1.sub e2;have ev:=dz rb;subst ev;have g:=g1.trans g2;refine⟨b,us,ks,rfl,g.same a _ hh hr,?_,?_⟩
 · obtain⟨b',vs',eb,hb',rb'⟩:=(cu.grow g2 r1).itemsT g2.sub e2;cases eb;have ev':=dz rb';subst ev';exact hb'
 have rs2:KD X.K F2 us kvs:=Kr.mapP rs fun _ _ z=>⟨z.1,z.2.mono g.fs⟩;rcases rs2.val ks with⟨z1,z2⟩|⟨v3,d3,z1,z2,z3⟩
 · rw[z1];rw[z2]at q2;exact h _ (.d d) _ _ g r2 trivial q2
 · rw[z1];rw[z2]at q2;exact h _ (.d d3) _ _ g z3 trivial q2
def Ax(w:W):Option (List IQ):=match w.dat with|some (.list xs)=>some xs|_=>none
theorem xn{w:W}:Ax w=some xs↔w.dat=some (.list xs):=by
 unfold Ax;constructor
 · intro h;split at h
   · rename_i e;cases h;exact e
   · cases h
 · intro h;rw[h]
theorem asLs_ml(xs:List IQ):Ax (.ml xs)=some xs:=rfl
theorem asLs_d(xs:List IQ):Ax (.d (.list xs))=some xs:=rfl
theorem m_gTupN(w:W):sj [w]=aD (Ax w) fun xs=>ret (.nt xs):=by
 refine af fun Q=>?_;simp only[sj,ai,xn,ret];constructor
 · rintro⟨w',xs,e,h,q⟩;cases e;exact⟨xs,h,q⟩
 · rintro⟨xs,h,q⟩;exact⟨w,xs,rfl,h,q⟩
def AZ:W->Option (List IQ)
 | .nt ds=>some ds
 | _=>none
theorem xj{w:W}{ds:List IQ}:AZ w=some ds↔w = .nt ds:=by cases w<;>simp[AZ]
theorem asNt_nt(ds:List IQ):AZ (.nt ds)=some ds:=rfl
def A1:W->Option (List (List Ih×IQ))
 | .md kvs=>some kvs
 | _=>none
theorem xm{w:W}:A1 w=some kvs↔w = .md kvs:=by cases w<;>simp[A1]
def FY(ρ:En)(i:Nat):Option (List (List Ih×IQ)):=((ρ[i]?).join).bind A1
theorem nV{i:Nat}:FY ρ i=some kvs↔ρ[i]?=some (some (.md kvs)):=by
 unfold FY;rcases ρ[i]? with _|_|w<;>simp[xm]
theorem m_vDict0:tE ρ=ret (.md []):=nr rfl
theorem m_vDGetS(i:Nat){fk fx:TV}:nn i fk fx ρ=aD (FY ρ i) fun kvs=>Hj (fk ρ) fun wk=>Hj (fx ρ) fun wx=>aD (xH wk) fun g=>aD (asD wx) fun x=>ret (.d ((qA kvs (g.map .inl)).getD x)):=by
 refine af fun Q=>?_;simp only[nn,ai,nV,Hj,ret,cX];refine exists_congr fun kvs=>and_congr_right fun _=>?_;constructor
 · intro h;refine cast ?_ h;congr 1;funext x;congr 1;funext y;exact propext ⟨fun⟨a,b,c,d,e⟩=>⟨a,c,b,d,e⟩,fun⟨a,c,b,d,e⟩=>⟨a,b,c,d,e⟩⟩
 · intro h;refine cast ?_ h;congr 1;funext x;congr 1;funext y;exact propext ⟨fun⟨a,c,b,d,e⟩=>⟨a,b,c,d,e⟩,fun⟨a,b,c,d,e⟩=>⟨a,c,b,d,e⟩⟩
def nj(i:Nat)(fk fx:TV):HD:=fun D ρ=>∃kvs,ρ[i]?=some (some (.md kvs))/\fx ρ fun wx=>fk ρ fun wk=>∃(ds:List IQ)(g:List Int)(x:IQ),wk = .nt ds/\gb ds=some g/\wx = .d x/\kvs.length<sizeLine/\D.nx (ρ.set i (some (.md (xC kvs (g.map .inl) x))))
theorem qx(i:Nat){x:Str}{f:Expr}{fk fx:TV}(hu:X.A.units+64<N1)(hk:PV X rl e fk)(hx:PV X rl f fx)(hN:X.N[i]?=some x:=by rfl)(hv:Hw X.env.scope x:=by first|exact KH rfl|exact J8 (KH rfl)|exact J8 (J8 rfl))
 (hd:(x==("__debug__" : Str))=false:=by decide)(hcd:(x==("__classdict__" : Str))=false:=by decide)(hs:K4 f (some (.Subscript (.Name x px) e pos')) pos.line X.env=pure false:=by rfl) :
 HV X rl (.Assign [.Subscript (.Name x px) e pos'] f pos) (nj i fk fx):=by
 obtain⟨t,p1,k1⟩:=hk;obtain⟨t2,p2,k2⟩:=hx;refine⟨_,gZ (by omega) (bI hN hv hd hcd) p1 p2 hs,fun{F₀ H₀ F H σ ρ} R Dv D ok ⟨kvs,e1,q⟩=>?_⟩;obtain⟨v,h1,h2,h3⟩:=R.sl i _ e1;obtain⟨a,us,rfl,f0,hr,hh,rs⟩:=(show jY X.K rl F H v kvs from h2);refine k2 R _ _ q fun v2 w2 F2 H2 g2 r2 n2 q2=>⟨.ref a,h1,k1 (R.grow g2) _ _ q2 fun v1 w1 F1 H1 g1 r1 n1 q3=>?_⟩;obtain⟨ds,gs,d,rfl,eg,rfl,hz,q3⟩:=q3;have eg:=hW eg;subst eg;obtain⟨b,vs,rfl,hb,rb⟩:=(show ∃a vs,v1 = .ref a/\F1 a=some (.tup vs)/\Reps X.K F1 vs (gs.map .int)from r1);rw[<- lf]at rb;generalize (gs.map J0:List Ih)=ks at rb q3;have ev:=dz rb;subst ev;have g:=g2.trans g1;have hl:us.length=kvs.length:=JU rs;refine⟨a,_,rfl,A5.t (g.same a _ hh hr) (g1.sub _ _ hb) (by omega),?_⟩;have rs1:KD X.K F1 us kvs:=Kr.mapP rs fun _ _ z=>⟨z.1,z.2.mono g.fs⟩;exact ok.nx _ _ _ _ g.fs ((R.grow g).ownD e1 h1 (rs1.put ks (Rep.mono g1.fs r2))) q3
theorem s_dputI(i:Nat){fk fx:TV}:mS (nj i fk fx) ρ=aD (FY ρ i) fun kvs=>Hj (fx ρ) fun wx=>Hj (fk ρ) fun wk=>aD (AZ wk) fun ds=>aD (gb ds) fun g=>aD (asD wx) fun x=>GW (kvs.length<sizeLine) (ret (.nx (ρ.set i (some (.md (xC kvs (g.map .inl) x)))))):=by
 refine af fun Q=>?_;simp only[mS,nj,ai,nV,Hj,GW,ret,cX,xj];refine exists_congr fun kvs=>and_congr_right fun _=>?_;constructor
 · intro h;refine cast ?_ h;congr 1;funext x;congr 1;funext y;exact propext ⟨fun⟨a,g,b,c,d,e,f⟩=>⟨a,c,g,d,b,e,f⟩,fun⟨a,c,g,d,b,e,f⟩=>⟨a,g,b,c,d,e,f⟩⟩
 · intro h;refine cast ?_ h;congr 1;funext x;congr 1;funext y;exact propext ⟨fun⟨a,c,g,d,b,e,f⟩=>⟨a,g,b,c,d,e,f⟩,fun⟨a,g,b,c,d,e,f⟩=>⟨a,c,g,d,b,e,f⟩⟩
theorem B_{a b:List Int}:(a.map J0:List Ih)=b.map J0↔a=b:=⟨fun h=>by
 induction a generalizing b with
 | nil=>cases b with
   | nil=>rfl
   | cons _ _=>cases h
 | cons x xs ih=>cases b with
   | nil=>cases h
   | cons y ys=>rw[Ji,Ji,Ku]at h;rw[ih h.2];cases h.1;rfl,fun h=>by rw[h]⟩
def IN:=IS @m_gTupN (IS @m_vDict0 (IS @m_vDGetS (IS @s_dputI (IS @asLs_ml (IS @asLs_d (IS @asNt_nt (IS @asTI_nt (IS @asTI_d (IS @intsD_map (IS @isPk_nt (IS @isPk_md (IS @pk_nt (IS @fz_nt (@dat_nt))))))))))))))
end
end L2.VL
namespace L2.GA
def AF(p:Nat):Nat->List (List Int)
 | 0=>[[]]
 | n+1=>(AF p n).flatMap fun x=>(Jm p).map fun(f:Nat)=>x++[(f:Int)]
def ex(p:Nat)(xs:List (List Int)):List (List Int):=xs.flatMap fun x=>(Jm p).map fun(f:Nat)=>x++[(f:Int)]
def ap(p:Int)(C:Nat)(T:List (List Int))(x:List Int):List Int:=T.map fun row=>(Sg C fun c=>row.getD c 0*x.getD c 0).fmod p
theorem Fg.ext{p:Int}{y:List Int}(hx:Fg p n x)(hy:Fg p n y)(h:∀k,k<n->x.getD k 0=y.getD k 0):x=y:=by
 refine Ny (hx.1.trans hy.1.symm) fun k a b=>?_;have:=h k (by rw[<- hx.1];exact a)
 rwa [gD a,gD b]at this
theorem Fg.snoc{p:Int}{f:Int}(hx:Fg p n x)(h0:0<=f)(h1:f<p):Fg p (n+1) (x++[f]):=by
 refine⟨by simp[hx.1],fun k hk=>?_⟩;by_cases e:k<n
 · rw[mG (by rw[hx.1];exact e)];exact hx.2 k e
 · have:k=x.length+0:=by rw[hx.1];omega
   rw[this,qh];exact⟨h0,h1⟩
theorem Fg.unsnoc{p:Int}{y:List Int}(hy:Fg p (n+1) y):∃x f,y=x++[f]/\Fg p n x/\0<=f/\f<p:=by
 have l:n<y.length:=by rw[hy.1];omega
 have e:y=y.take n++[y[n]]:=by
  conv=>lhs;rw[<- LR n y,Kj l,List.drop_eq_nil_of_le (by rw[hy.1];omega)]
 refine⟨y.take n,y[n],e,⟨by rw[JB];omega,fun k hk=>?_⟩,?_⟩
 · have q:=hy.2 k (by omega);rw[e,mG (by rw[JB];omega)]at q;exact q
 · have q:=hy.2 n (by omega)
   rwa [gD l]at q
theorem mem_AF{p:Nat}:∀{n:Nat}{x:List Int},x∈AF p n↔Fg p n x
 | 0,x=>by
   show x∈[[]]↔_;rw[La]
   exact⟨fun h=>by subst h;exact⟨rfl,fun k hk=>absurd hk (by omega)⟩,fun h=>M7.mp h.1⟩
 | n+1,y=>by
   show y∈(AF p n).flatMap _↔_;rw[Mg];constructor
   · rintro⟨x,mx,h⟩;obtain⟨f,mf,rfl⟩:=Jv.mp h;have:=Kd.mp mf;exact(mem_AF.mp mx).snoc (by omega) (by omega)
   · intro h;obtain⟨x,f,rfl,hx,f0,f1⟩:=h.unsnoc;exact⟨x,mem_AF.mpr hx,Jv.mpr ⟨f.toNat,Kd.mpr (by omega),by rw[KG f0]⟩⟩
theorem AF_len(p:Nat):∀n,(AF p n).length=p^n
 | 0=>rfl
 | n+1=>by
   show((AF p n).flatMap _).length=_;rw[LC,J7 (g:=fun _=>p) fun x _=>by rw[I_,KA],NX,Mk,AF_len p n,Oc]
theorem AF_nd(p:Nat):∀n,(AF p n).Nodup
 | 0=>by show [[]].Nodup;simp
 | n+1=>by
   show((AF p n).flatMap _).Nodup;rw[Kg,List.pairwise_flatMap];refine⟨fun x _=>?_,(Kg.mp (AF_nd p n)).imp fun ne a ha b hb e=>?_⟩
   · rw[Nl];refine QI.imp (fun{a b} ne e=>ne ?_) (Kg.mp List.nodup_range);have:=List.append_cancel_left e;have:(a:Int)=b:=by simpa using this
     omega
   · obtain⟨f,_,rfl⟩:=Jv.mp ha;obtain⟨g,_,rfl⟩:=Jv.mp hb;exact ne (List.append_inj_left' e rfl)
theorem nd_sub{α:Type}[DecidableEq α]:∀{A B:List α},A.Nodup->(∀a∈A,a∈B)->A.length<=B.length
 | [],_,_,_=>J1 _
 | a::A,B,h,s=>by
   have h':=KI.mp h;have hb:=s a (IV ..);have:=nd_sub (B:=B.erase a) h'.2 fun x mx=>(MC (fun e=>h'.1 (by rw[e]at mx;exact mx))).mpr (s x (IT _ mx));rw[Ln hb]at this;have:=O1 hb;simp only[JG];omega
theorem nQ{β:Type}[DecidableEq β](y:β):∀{gs:List β},gs.Nodup->y∈gs->(gs.map fun g=>if y=g then 1 else 0).sum=1
 | [],_,h=>(nomatch h)
 | g::gs,nd,h=>by
   have nd':=KI.mp nd;rw[Ji,Kc];by_cases e:y=g
   · subst e;rw[if_pos rfl,J7 (g:=fun _=>0) fun g mg=>if_neg fun z=>nd'.1 (by rw[z];exact mg),NX,Mk];simp
   · rw[if_neg e,nQ y nd'.2 ((JA.mp h).resolve_left e)]
theorem kE{β:Type}(f g:β->Nat):∀gs:List β,(gs.map fun x=>f x+g x).sum=(gs.map f).sum+(gs.map g).sum
 | []=>rfl
 | x::xs=>by simp only[Ji,Kc,kE f g xs];omega
theorem iu{α β:Type}[DecidableEq β](f:α->β){gs:List β}(nd:gs.Nodup):∀{xs:List α},(∀x∈xs,f x∈gs)->(gs.map fun g=>xs.countP fun x=>decide (f x=g)).sum=xs.length
 | [],_=>by
   have e:(fun g=>([]:List α).countP fun x=>decide (f x=g))=fun _=>0:=rfl
   rw[e,NX,Mk];simp
 | x::xs,h=>by
   have ih:=iu f nd (xs:=xs) fun y my=>h y (IT _ my)
   have e:(fun g=>(x::xs).countP fun x=>decide (f x=g))=fun g=>(xs.countP fun x=>decide (f x=g))+if f x=g then 1 else 0:=by
    funext g;rw[List.countP_cons];simp
   rw[e,kE,ih,nQ (f x) nd (h x (IV ..))];rfl
section
variable{p C:Nat}{T X:List (List Int)}
theorem jW(hp:0<p)(x:List Int):Fg p T.length (ap p C T x):=by
 refine⟨by unfold ap;rw[I_],fun k hk=>?_⟩;unfold ap;rw[gD (by rw[I_];exact hk),K3];exact fm_in (by omega) _
theorem xo{k:Nat}(hk:k<T.length):Cg p ((ap p C T x).getD k 0) (Sg C fun c=>(T.getD k []).getD c 0*x.getD c 0):=by
 unfold ap;rw[gD (by rw[I_];exact hk),K3,show T.getD k []=T[k] by rw[Jf,Jd hk];rfl];exact .mod _
theorem yM(h:IsRi p C T X)(d:Nat->Int){i:Nat}(hi:i<T.length):Cg p (Sg C fun c=>(T.getD i []).getD c 0*Sg T.length fun k=>(X.getD c []).getD k 0*d k) (d i):=by
 have e:(Sg C fun c=>(T.getD i []).getD c 0*Sg T.length fun k=>(X.getD c []).getD k 0*d k)=Sg T.length fun k=>d k*Sg C fun c=>(T.getD i []).getD c 0*(X.getD c []).getD k 0:=by
  rw[dR (g:=fun c=>Sg T.length fun k=>(T.getD i []).getD c 0*((X.getD c []).getD k 0*d k)) _ fun c _=>(dQ _ _ _).symm,jX];refine dR _ fun k _=>?_;rw[<- dQ];exact dR _ fun c _=>by grind
 rw[e];refine(je (g:=fun k=>if k=i then d i else 0) _ fun k hk=>?_).trans (.of (jd _ hi _));refine(Cg.mul (.refl _) (h.2.2 i hi k hk)).trans (.of ?_);by_cases z:k=i
 · subst z;simp
 · have z':¬i=k:=fun q=>z q.symm;simp[z,z']
def mv(p C:Nat)(X:List (List Int))(R:Nat)(g g' x:List Int):List Int:=(Jm C).map fun c=>(x.getD c 0+Sg R fun k=>(X.getD c []).getD k 0*(g'.getD k 0-g.getD k 0)).fmod p
theorem rG{R:Nat}{c:Nat}(hc:c<C):(mv p C X R g g' x).getD c 0=(x.getD c 0+Sg R fun k=>(X.getD c []).getD k 0*(g'.getD k 0-g.getD k 0)).fmod p:=by
 unfold mv;rw[gD (by simpa using hc),K3,LN]
theorem BX(hp:0<p){R:Nat}:Fg p C (mv p C X R g g' x):=⟨by unfold mv;simp,fun c hc=>by rw[rG hc];exact fm_in (by omega) _⟩
theorem BY(hp:0<p)(h:IsRi p C T X)(hg':Fg p T.length g')(e:ap p C T x=g):ap p C T (mv p C X T.length g g' x)=g':=by
 refine(jW hp _).ext hg' fun i hi=>?_;refine Cg.eq ((xo hi).trans ?_) ((jW (C:=C) hp _).2 i hi).1 ((jW (C:=C) hp _).2 i hi).2 (hg'.2 i hi).1 (hg'.2 i hi).2;have q1:Cg p (Sg C fun c=>(T.getD i []).getD c 0*x.getD c 0) (g.getD i 0):=by rw[<- e];exact(xo hi).symm
 have q2:=yM h (fun k=>g'.getD k 0-g.getD k 0) hi;refine(je (g:=fun c=>(T.getD i []).getD c 0*x.getD c 0+(T.getD i []).getD c 0*Sg T.length fun k=>(X.getD c []).getD k 0*(g'.getD k 0-g.getD k 0)) _ fun c hc=>?_).trans ?_
 · rw[rG hc];exact(Cg.mul (.refl _) (.mod _)).trans (.of (by rw[Int.mul_add]))
 · rw[lG];exact(q1.add q2).trans (.of (by omega))
theorem zD{R:Nat}{y:List Int}(hx:Fg p C x)(hy:Fg p C y)(e:mv p C X R g g' x=mv p C X R g g' y):x=y:=by
 refine hx.ext hy fun c hc=>?_;have q:(mv p C X R g g' x).getD c 0=(mv p C X R g g' y).getD c 0:=by rw[e]
 rw[rG hc,rG hc]at q;have:Cg p (x.getD c 0+Sg R fun k=>(X.getD c []).getD k 0*(g'.getD k 0-g.getD k 0)) (y.getD c 0+Sg R fun k=>(X.getD c []).getD k 0*(g'.getD k 0-g.getD k 0)):=(Cg.mod _).symm.trans (by rw[q];exact .mod _);obtain⟨t,et⟩:=this;exact Cg.eq ⟨t,by omega⟩ (hx.2 c hc).1 (hx.2 c hc).2 (hy.2 c hc).1 (hy.2 c hc).2
def cnt(p C:Nat)(T:List (List Int))(g:List Int):Nat:=(AF p C).countP fun x=>decide (ap p C T x=g)
theorem ud(hp:0<p)(h:IsRi p C T X)(hg':Fg p T.length g'):cnt p C T g<=cnt p C T g':=by
 unfold cnt;rw[ND,ND]
 have nd:(((AF p C).filter fun x=>decide (ap p C T x=g)).map (mv p C X T.length g g')).Nodup:=by
  rw[Kg,Nl];refine OD (fun{a b} ma mb ne e=>ne ?_) (Kg.mp ((AF_nd p C).filter _));exact zD (mem_AF.mp (Mn.mp ma).1) (mem_AF.mp (Mn.mp mb).1) e
 have:=nd_sub nd (B:=(AF p C).filter fun x=>decide (ap p C T x=g')) fun y my=>by
  obtain⟨x,mx,rfl⟩:=Jv.mp my;have:=Mn.mp mx;exact Mn.mpr ⟨mem_AF.mpr (BX hp),by simpa using BY hp h hg' (by simpa using this.2)⟩
 simpa using this
theorem pN(hp:0<p)(h:IsRi p C T X)(hg:Fg p T.length g):cnt p C T g*p^T.length=p^C:=by
 have s:=iu (ap p C T) (AF_nd p T.length) (xs:=AF p C) fun x _=>mem_AF.mpr (jW hp x);have s:((AF p T.length).map fun g=>cnt p C T g).sum=(AF p C).length:=s;rw[AF_len,J7 (g:=fun _=>cnt p C T g) fun g' m=>Nat.le_antisymm (ud hp h hg) (ud hp h (mem_AF.mp m)),NX,Mk,AF_len]at s;rw[N_];exact s
theorem wE(hx:Hg p C T X0)(e:ap p C T x=g):Cg p (Sg T.length fun k=>X0.getD k 0*g.getD k 0) 0:=by
 subst e;refine(je _ fun k hk=>Cg.mul (.refl _) (xo hk)).trans ?_
 have e:(Sg T.length fun k=>X0.getD k 0*Sg C fun c=>(T.getD k []).getD c 0*x.getD c 0)=Sg C fun c=>x.getD c 0*Sg T.length fun k=>X0.getD k 0*(T.getD k []).getD c 0:=by
  rw[dR (g:=fun k=>Sg C fun c=>X0.getD k 0*((T.getD k []).getD c 0*x.getD c 0)) _ fun c _=>(dQ _ _ _).symm,jX];refine dR _ fun k _=>?_;rw[<- dQ];exact dR _ fun c _=>by grind
 rw[e];refine(je (g:=fun _=>0) _ fun c hc=>(Cg.mul (.refl _) (hx.no c hc)).trans (.of (LP _))).trans (.of (fU _))
theorem rZ(hx:Hg p C T X0)(hn:¬Cg p (Sg T.length fun k=>X0.getD k 0*g.getD k 0) 0):cnt p C T g=0:=by
 unfold cnt;rw[List.countP_eq_zero];intro x _ e;exact hn (wE hx (by simpa using e))
end
theorem zU{p:Int}(hp:p=2\/p=3\/p=5\/p=7){x:Int}(h0:0<x)(h1:x<p):∃a,Cg p (a*x) 1:=by
 have:∃a:Int,(a*x)%p=1%p:=by
  rcases hp with rfl|rfl|rfl|rfl
  · obtain rfl:x=1:=by omega
    exact⟨1,by decide⟩
  · rcases(by omega:x=1\/x=2)with rfl|rfl
    · exact⟨1,by decide⟩
    · exact⟨2,by decide⟩
  · rcases(by omega:x=1\/x=2\/x=3\/x=4)with rfl|rfl|rfl|rfl
    · exact⟨1,by decide⟩
    · exact⟨3,by decide⟩
    · exact⟨2,by decide⟩
    · exact⟨4,by decide⟩
  · rcases(by omega:x=1\/x=2\/x=3\/x=4\/x=5\/x=6)with rfl|rfl|rfl|rfl|rfl|rfl
    · exact⟨1,by decide⟩
    · exact⟨4,by decide⟩
    · exact⟨5,by decide⟩
    · exact⟨2,by decide⟩
    · exact⟨3,by decide⟩
    · exact⟨6,by decide⟩
 obtain⟨a,h⟩:=this;exact⟨a,Cg.iff.mpr h⟩
theorem zZ{p:Int}(hp:p=2\/p=3\/p=5\/p=7){C:Nat}{T:List (List Int)}(ht:∀t∈T,Fg p C t):∀n,n<=T.length->(∃h,Hg p C T h)\/∃ks,GI p C T.length T n ks
 | 0,_=>.inr ⟨[],GI.nil p C T.length T⟩
 | n+1,hn=>by
   have p2:2<=p:=by omega
   rcases zZ hp ht n (by omega)with h|⟨ks,g⟩
   · exact .inl h
   · by_cases z:∀c,c<C->(clrs p (row0 T.length n (T.getD n [])) ks).getD c 0=0
     · exact .inl ⟨_,g.hang p2 ht (by omega) z⟩
     · obtain⟨v,hv⟩:=Classical.not_forall.mp z;obtain⟨hv,nz⟩:=Classical.not_imp.mp hv;obtain⟨a1,_⟩:=g.row p2 ht (show n<T.length by omega);have b:=a1.2 v (by omega);obtain⟨a,ha⟩:=zU hp (x:=(clrs p (row0 T.length n (T.getD n [])) ks).getD v 0) (by omega) b.2;exact .inr ⟨_,(g.step p2 ht (by omega) hv ha).2⟩
theorem ri_or{p:Int}(hp:p=2\/p=3\/p=5\/p=7){C:Nat}(ht:∀t∈T,Fg p C t):(∃h,Hg p C T h)\/∃X,IsRi p C T X:=by
 rcases zZ hp ht T.length (Jb _)with h|⟨ks,g⟩
 · exact .inl h
 · exact .inr ⟨_,g.ri (by omega) ht⟩
def tvN(p:Int)(fs:List Int):Int:=fs.foldl (fun s d=>s*p+d) 0
def Eg(p:Int):List Nat->List Int->List Int
 | [],_=>[]
 | k::ks,g=>tvN p (g.take k)::Eg p ks (g.drop k)
theorem gj(p:Int):∀(fs:List Int)(s:Int),fs.foldl (fun s d=>s*p+d) s=s*p^fs.length+tvN p fs
 | [],s=>by simp[tvN]
 | d::fs,s=>by
   unfold tvN;rw[LA,LA,gj p fs,gj p fs (0*p+d),JG,Lw]
   grind
theorem qI{p:Int}(hp:0<p):∀{fs:List Int},(∀d∈fs,0<=d/\d<p)->0<=tvN p fs/\tvN p fs<p^fs.length
 | [],_=>by simp[tvN]
 | d::fs,h=>by
   have hd:=h d (IV ..);have ih:=qI hp (fs:=fs) fun x mx=>h x (IT _ mx)
   have e:tvN p (d::fs)=d*p^fs.length+tvN p fs:=by
    show ML _ (0*p+d) fs=_;rw[gj];grind
   have q:0<p^fs.length:=KY hp;rw[e,JG,Lw];constructor
   · have:=LY hd.1 (Ob q);omega
   · have:(d+1)*p^fs.length<=p*p^fs.length:=L5 (by omega) (Ob q)
     grind
theorem nA{p:Int}(hp:0<p):∀{fs gs:List Int},fs.length=gs.length->(∀d∈fs,0<=d/\d<p)->(∀d∈gs,0<=d/\d<p)->tvN p fs=tvN p gs->fs=gs
 | [],[],_,_,_,_=>rfl
 | d::fs,e::gs,hl,h1,h2,q=>by
   have l:fs.length=gs.length:=by simpa using hl
   have i1:=qI hp (fs:=fs) fun x mx=>h1 x (IT _ mx);have i2:=qI hp (fs:=gs) fun x mx=>h2 x (IT _ mx)
   have e1:tvN p (d::fs)=d*p^fs.length+tvN p fs:=by
    show ML _ (0*p+d) fs=_;rw[gj];grind
   have e2:tvN p (e::gs)=e*p^fs.length+tvN p gs:=by
    show ML _ (0*p+e) gs=_;rw[gj,<- l];grind
   rw[<- l]at i2;rw[e1,e2]at q;have pp:0<p^fs.length:=KY hp;generalize p^fs.length=B at *
   have de:d=e:=by
    have a1:(d*B+tvN p fs) / B=d:=by rw[Pn,Mi _ _ (by omega),Mj i1.1 i1.2];omega
    have a2:(e*B+tvN p gs) / B=e:=by rw[Pn,Mi _ _ (by omega),Mj i2.1 i2.2];omega
    rw[<- a1,<- a2,q]
   subst de;rw[nA hp l (fun x mx=>h1 x (IT _ mx)) (fun x mx=>h2 x (IT _ mx)) (by omega)]
theorem qo{p:Int}(hp:0<p):∀{ks:List Nat}{g g':List Int},g.length=ks.sum->g'.length=ks.sum->(∀d∈g,0<=d/\d<p)->(∀d∈g',0<=d/\d<p)->Eg p ks g=Eg p ks g'->g=g'
 | [],g,g',h1,h2,_,_,_=>by
   have a1:g=[]:=M7.mp (by simpa using h1);have a2:g'=[]:=M7.mp (by simpa using h2)
   rw[a1,a2]
 | k::ks,g,g',h1,h2,b1,b2,e=>by
   rw[Kc]at h1 h2;unfold Eg at e;rw[Ku]at e;have t1:g.take k=g'.take k:=nA hp (by rw[JB,JB];omega) (fun d m=>b1 d (Lb m)) (fun d m=>b2 d (Lb m)) e.1;have t2:=qo hp (ks:=ks) (g:=g.drop k) (g':=g'.drop k) (by rw[KJ];omega) (by rw[KJ];omega) (fun d m=>b1 d (MD m)) (fun d m=>b2 d (MD m)) e.2;rw[<- LR k g,<- LR k g',t1,t2]
theorem tv_cut{p:Int}(hp:0<p){fs:List Int}{k:Nat}(hk:k<=fs.length)(h:∀d∈fs,0<=d/\d<p):(tvN p fs).fdiv (p^(fs.length-k))=tvN p (fs.take k):=by
 have e:tvN p fs=tvN p (fs.take k)*p^(fs.length-k)+tvN p (fs.drop k):=by
  have:tvN p fs=(fs.take k++fs.drop k).foldl (fun s d=>s*p+d) 0:=by rw[LR];rfl
  rw[this,List.foldl_append,gj,KJ];rfl
 have i:=qI hp (fs:=fs.drop k) fun d m=>h d (MD m);rw[KJ]at i;have pp:0<p^(fs.length-k):=KY hp;rw[e,KF _ (Ob pp),Pn,Mi _ _ (by omega),Mj i.1 i.2,L4]
end L2.GA
namespace L2.VL
def dL(ps:List (List Int))(g:List Int):List Ih×IQ:=(g.map J0,.int (ps.count g:Nat))
def DI(ps:List (List Int))(kvs:List (List Ih×IQ)):Prop:=∃D:List (List Int),D.Nodup/\(∀g,g∈D↔g∈ps)/\kvs=D.map (dL ps)
theorem DI.nil:DI [] []:=⟨[],.nil,fun g=>by simp,rfl⟩
theorem tV(nd:D.Nodup)(h:∀g,g∈D↔g∈ps):D.length<=ps.length:=GA.nd_sub nd fun a m=>(h a).mp m
theorem DI.le(h:DI ps kvs):kvs.length<=ps.length:=by
 obtain⟨D,nd,hm,rfl⟩:=h;rw[I_];exact tV nd hm
theorem x9(ps:List (List Int))(g:List Int):∀D:List (List Int),qA (D.map (dL ps)) (g.map .inl)=if g∈D then some (.int (ps.count g:Nat))else none
 | []=>by simp[qA]
 | x::D=>by
   have ih:=x9 ps g D;unfold qA at ih ⊢;rw[Ji,Ka];by_cases e:x=g
   · subst e;simp[dL]
   · have e1:¬(dL ps x).1=g.map J0:=fun z=>e (B_.mp z);have e2:¬g=x:=fun z=>e z.symm;simp only[e1,decide_false,JA,e2,false_or];exact ih
theorem DI.val(h:DI ps kvs)(g:List Int):(qA kvs (g.map .inl)).getD (.int 0) = .int (ps.count g:Nat):=by
 obtain⟨D,nd,hm,rfl⟩:=h;rw[x9];by_cases e:g∈D
 · rw[if_pos e];rfl
 · rw[if_neg e,List.count_eq_zero_of_not_mem (fun z=>e ((hm g).mpr z))];rfl
theorem DI.put(h:DI ps kvs)(g:List Int):DI (ps++[g]) (xC kvs (g.map .inl) (.int ((ps.count g:Nat)+1))):=by
 obtain⟨D,nd,hm,rfl⟩:=h
 have an:((D.map (dL ps)).any fun kv=>decide (kv.1=g.map J0))=decide (g∈D):=by
  rw[Lz,List.any_eq_true];constructor
  · rintro⟨kv,m,e⟩;obtain⟨x,mx,rfl⟩:=Jv.mp m;have:x=g:=B_.mp (of_decide_eq_true e);subst this;simpa using mx
  · intro e;exact⟨dL ps g,Jv.mpr ⟨g,by simpa using e,rfl⟩,by simp[dL]⟩
 have cn:∀x,x≠g->(ps++[g]).count x=ps.count x:=fun x ne=>by
  rw[List.count_append,List.count_cons,List.count_nil];have:(g==x)=false:=by simpa using fun z=>ne z.symm
  simp[this]
 have cg:(ps++[g]).count g=ps.count g+1:=by rw[List.count_append];simp
 unfold xC;rw[an];by_cases e:g∈D
 · rw[if_pos (by simpa using e)];refine⟨D,nd,fun x=>?_,?_⟩
   · rw[hm,J3,La];exact⟨.inl,fun h=>h.elim id fun z=>by rw[z];exact(hm g).mp e⟩
   · rw[Kf];refine J7 fun x mx=>?_;by_cases z:x=g
     · subst z;simp[dL,cg]
     · have nz:¬(dL ps x).1=g.map J0:=fun q=>z (B_.mp q);simp only[Function.comp];rw[if_neg nz];unfold dL;rw[cn x z]
 · rw[if_neg (by simpa using e)];refine⟨D++[g],?_,fun x=>?_,?_⟩
   · rw[List.nodup_append];exact⟨nd,by simp,fun a ma b mb z=>e (by rw[La.mp mb]at z;rw[<- z];exact ma)⟩
   · rw[J3,J3,hm]
   · rw[JW];congr 1
     · refine J7 fun x mx=>?_;unfold dL;rw[cn x fun z=>e (z▸mx)]
     · show [_]=[dL (ps++[g]) g];unfold dL;rw[cg];rfl
end L2.VL
namespace L2.GA
section
variable{p C:Nat}{T X:List (List Int)}{ks:List Nat}
theorem Fg.bd{p:Int}(h:Fg p n x):∀d∈x,0<=d/\d<p:=fun d m=>by
 obtain⟨k,hk,rfl⟩:=Md m;have:=h.2 k (by rw[<- h.1];exact hk)
 rwa [gD hk]at this
theorem g_(hp:0<p)(hk:ks.sum=T.length)(hg:Fg p T.length g):((AF p C).map fun x=>Eg p ks (ap p C T x)).count (Eg p ks g)=cnt p C T g:=by
 unfold cnt;rw[List.count,List.countP_map];refine List.countP_congr fun x mx=>?_;show(Eg p ks (ap p C T x)==Eg p ks g)=true↔_;rw[beq_iff_eq,decide_eq_true_iff];have f:=jW (C:=C) (T:=T) hp x;exact⟨fun e=>qo (by omega) (by rw[f.1,hk]) (by rw[hg.1,hk]) f.bd hg.bd e,fun e=>by rw[e]⟩
theorem Cu(hp:0<p):((AF p ks.sum).map (Eg p ks)).Nodup:=by
 rw[Kg,Nl];refine OD (fun{a b} ma mb ne e=>ne ?_) (Kg.mp (AF_nd p ks.sum));have fa:=mem_AF.mp ma;have fb:=mem_AF.mp mb;exact qo (by omega) fa.1 fb.1 fa.bd fb.bd e
theorem many_ri(hp:0<p)(h:IsRi p C T X)(hk:ks.sum=T.length)(nd:D.Nodup)(hm:∀g,g∈D↔g∈(AF p C).map fun x=>Eg p ks (ap p C T x)) :
 D.length=p^T.length/\∀g∈D,((AF p C).map fun x=>Eg p ks (ap p C T x)).count g*p^T.length=p^C:=by
 have pp:0<p^C:=QD hp
 have sub:∀g∈D,g∈(AF p ks.sum).map (Eg p ks):=fun g mg=>by
  obtain⟨x,mx,rfl⟩:=Jv.mp ((hm g).mp mg);exact Jv.mpr ⟨_,mem_AF.mpr (by rw[hk];exact jW hp x),rfl⟩
 have sup:∀g∈(AF p ks.sum).map (Eg p ks),g∈D:=fun g mg=>by
  obtain⟨y,my,rfl⟩:=Jv.mp mg;have fy:Fg p T.length y:=by rw[<- hk];exact mem_AF.mp my
  refine(hm _).mpr (List.count_pos_iff.mp ?_);rw[g_ hp hk fy];have:=pN hp h fy;rcases Nat.eq_zero_or_pos (cnt p C T y)with z|z
  · rw[z,Nat.zero_mul]at this;omega
  · exact z
 constructor
 · have a:=nd_sub nd sub;have b:=nd_sub (Cu (p:=p) (ks:=ks) hp) sup;rw[I_,AF_len,hk]at a b;omega
 · intro g mg;obtain⟨y,my,rfl⟩:=Jv.mp (sub g mg);have fy:Fg p T.length y:=by rw[<- hk];exact mem_AF.mp my
   rw[g_ hp hk fy];exact pN hp h fy
theorem many_hg(hp:0<p){h0:List Int}(h:Hg p C T h0)(p2:2<=p)(hk:ks.sum=T.length)(nd:D.Nodup)(hm:∀g,g∈D↔g∈(AF p C).map fun x=>Eg p ks (ap p C T x)) :
 D.length<p^T.length:=by
 obtain⟨k,hk0,ne⟩:=h.ne;have fu:Fg p T.length (uni T.length k):=⟨uni_len _ _,fun c hc=>by rw[gi hc];split<;>omega⟩
 have no:cnt p C T (uni T.length k)=0:=by
  refine rZ h fun z=>?_
  have e:(Sg T.length fun c=>h0.getD c 0*(uni T.length k).getD c 0)=h0.getD k 0:=by
   rw[dR (g:=fun c=>if c=k then h0.getD k 0 else 0) _ fun c hc=>by
    rw[gi hc];by_cases q:c=k
    · subst q;simp
    · simp[q]]
   exact jd _ hk0 _
  rw[e]at z;have b:=h.fg.2 k hk0;exact ne (z.eq b.1 b.2 (NQ 0) (by omega))
 have nin:Eg p ks (uni T.length k)∉D:=fun m=>by
  have:=List.count_pos_iff.mpr ((hm _).mp m);rw[g_ hp hk fu,no]at this;omega
 have inA:Eg p ks (uni T.length k)∈(AF p ks.sum).map (Eg p ks):=Jv.mpr ⟨_,mem_AF.mpr (by rw[hk];exact fu),rfl⟩
 have:=nd_sub nd (B:=((AF p ks.sum).map (Eg p ks)).erase (Eg p ks (uni T.length k))) fun g mg=>by
  refine(MC fun e=>nin (by rw[<- e];exact mg)).mpr ?_;obtain⟨x,mx,rfl⟩:=Jv.mp ((hm g).mp mg);exact Jv.mpr ⟨_,mem_AF.mpr (by rw[hk];exact jW hp x),rfl⟩
 rw[Ln inA,I_,AF_len,hk]at this;have pp:0<p^T.length:=QD hp;omega
end
end L2.GA
namespace L2
def um(h:Heap)(a:Addr)(es:Array O4)(ep:Nat):Prop:=∃ob,h.get? a=some ob/\ob.ExactDict/\ob.data = .dict es ep
section
variable{P:Ju}{w:Kh}{A:Ko}{E:I0->Ja->Prop}{s:Ja}{d v it:Addr}{es:Array O4}{ep i:Nat}
theorem um.ty(r:um s.heap d es ep):s.TypeIs (.ref d) "dict" := let ⟨ob,q,x,_⟩:=r;⟨ob,q,x.1⟩
theorem vj(nd:(d==Lg)=false):MeetsIn P w (Builtin.«dict.__len__» ⟨[.ref d],[]⟩) (fun _ R s=>∃es ep,um s.heap d es ep/\R (.ok (.ret (.int (es.size:Nat) s.toks))) {s with toks:=s.toks+1}) :=
 .of_wp fun A R s ⟨es,ep,⟨ob,q,x,t⟩,z⟩=>by
  show Jr _ _ (dictSize d >>= _) _ _ s;unfold dictSize;refine IR (IR (Nm q t (IZ ?_)));show Jr _ _ (Builtin.Dict.pendingCount d >>= _) _ _ s;refine IR (wpAny_pendingCount_other nd ?_);refine wpAny_ret_mkInt ?_;exact z
theorem qR(nd:(d==Lg)=false)(r:um s.heap d es ep)(sz:(es.size:Int)<2^63)(z:Q (.int (es.size:Nat) (s.toks+1)) {s with toks:=s.toks+1+1}) :
 Jr (JE P w) A (call (.builtin "len") [.ref d]) Q E s:=by
 refine Calls.call_function_entry kind_len plain_len entry_len (args_len1 _) ?_;unfold Builtin.«len»;refine IR (m:=oneArg "len" _) (IZ (IR (m:=callSpecial? (.ref d) (Str.ofString "__len__")) (JV (name:=Str.ofString "__len__") r.ty F.slot_dict_len (Qi F.slot_dict_len r.ty F.entry_dict_len (F.args_dict_len_1 _) (vj nd) ⟨es,ep,r,?_⟩))));show Jr _ _ _ _ _ {s with toks:=s.toks+1};refine IR (Lr (IZ (IR (OL ?_))));show Jr _ _ (if((es.size:Nat):Int)<0 then _ else _) _ _ _;rw[if_neg (by omega)];show Jr _ _ (if((es.size:Nat):Int) ≥ 2^63 then _ else _) _ _ _;rw[if_neg (by omega)];exact IR (QB (IZ ⟨_,rfl,z⟩))
theorem lS(nd:(d==Lg)=false):MeetsIn P w (Builtin.«dict.values» ⟨[.ref d],[]⟩) (fun _ R s=>(∃es ep,um s.heap d es ep)/\R (.ok (.ret (.ref s.heap.objs.size))) {s with heap:=s.heap.push {cls:=.type "dict_values", data:=.fields #[.ref d]}}) :=
 .of_wp fun A R s ⟨⟨es,ep,r⟩,z⟩=>by
  refine IR ?_;unfold Builtin.Dict.noArgs;refine IR (wpAny_notOrdered_dict r.ty ?_);show Jr _ _ (pure d) _ _ s;refine IZ ?_;show Jr _ _ (Pp d >>= _) _ _ s;unfold Pp;rw[if_neg (by rw[nd];exact J5)];exact IR (IZ (IR (JX (IZ ⟨_,rfl,z⟩))))
theorem qS(hv:s.heap.IsValuesView v d)(r:um s.heap d es ep)
 (z:Q (.ref s.heap.objs.size) {s with heap:=s.heap.push {cls:=.type "dict_valueiterator", data:=.fields #[.ref d,.int 0 0,.int es.size 0,.int ep 0]}}):Jr (JE P w) A (Qb (.ref v)) Q E s:=by
 obtain⟨ov,v1,v2,v3⟩:=id hv;obtain⟨ob,q,x,t⟩:=id r;refine OC hv.typeIs F.slot_dict_values_iter (Kx F.slot_dict_values_iter hv.typeIs F.entry_dict_values_iter ?_ (F.args_dict_values_iter_1 _));unfold Builtin.«dict_values.__iter__»;refine IR (IZ (IR ?_));unfold Builtin.Dict_items.dictOf;refine IR (Kv v1 v3 (x:=.ref d) rfl (IZ (IR ?_)));unfold Builtin.Dict_items.newIterator;refine IR (Nm q t (IR (Pq q t ?_)));simp only[show Mm "dict_valueiterator" = false by decide,LM,if_false];refine JX (IZ ⟨_,rfl, "dict_valueiterator", _,⟨_,Jk _ rfl,rfl⟩,F.slot_dict_valueiterator_next.lookup,?_⟩);simpa[Oq]using z
theorem qT{x:I0}{Q:Option I0->Ja->Prop}(hit:s.heap.IsValIter it d i es.size ep)(r:um s.heap d es ep)(hx:(es[i]?).map (·.val)=some x)
 (z:∀h',h'.IsValIter it d (i+1) es.size ep->Lu it s.heap h'->Q (some x) {s with heap:=h' }):Jr (JE P w) A (NJ (.ref it)) Q E s:=by
 obtain⟨ob,o1,o2,o3⟩:=id hit;obtain⟨od,q,x0,t⟩:=id r
 have li:i<es.size:=by
  rcases Nat.lt_or_ge i es.size with y|y
  · exact y
  · rw[O2 y]at hx;cases hx
 have ex:es[i].val=x:=by rw[Ol li]at hx;exact JK hx
 unfold NJ;refine IR (MZ (JV (name:=Str.ofString "__next__") hit.typeIs F.slot_dict_valueiterator_next (Kx F.slot_dict_valueiterator_next hit.typeIs F.entry_dict_valueiterator_next ?_ (F.args_dict_valueiterator_next_1 _))));refine IR (IZ (IR (IR ?_)))
 first|refine IR (Lq hit.typeIs (IZ (IR (Om o1 o3 ?_))))|refine IR (L3 hit.typeIs (IZ (IR (Om o1 o3 ?_))))
 simp only[show Mm "dict_valueiterator" = false by decide,LM,if_false];show Jr _ _ (if(K0 d==LI)=true then _ else _) _ _ s;rw[if_neg (show ¬((K0 d==LI)=true)from J5)];refine IR (IZ (IR (Nm q t ?_)));rw[if_neg (by simp)];refine IR (IZ (IR (Pq q t ?_)));rw[if_neg (by simp)];refine IZ ?_;simp only[show ¬((i:Int)<0)from by omega,if_false,JJ,Ol li];refine IR ?_
 first|refine IR (Lq hit.typeIs (IZ (IR (Mv hit.typeIs ?_))))|refine IR (L3 hit.typeIs (IZ (IR (Mv hit.typeIs ?_))))
 show Jr _ _ (setField (.ref it) 1 (Oq ((i:Int)+1)) >>= _) _ _ s;refine IR (Oh o1 o3 (by simp) ?_);have h2:(s.heap.update it (Obj.mapFields (·.setIfInBounds 1 (Oq ((i:Int)+1))))).IsValIter it d (i+1) es.size ep:=⟨_,Np _ o1 (Ph (MY o3 _)),(Obj.cls_mapFields ..).trans o2,by rw[MY o3];simp[Oq]⟩;generalize he:s.heap.update it (Obj.mapFields (·.setIfInBounds 1 (Oq ((i:Int)+1))))=h' at h2 ⊢;refine IR (Lr (IR (Mv (s:={s with heap:=h' }) h2.typeIs (IR (Mv (s:={s with heap:=h' }) h2.typeIs ?_)))));show Jr _ _ (pure es[i].val) _ _ _;rw[ex];exact IZ (IZ ⟨_,rfl,IZ (z _ h2 (he▸MH ..))⟩)
theorem vp{Q:Option I0->Ja->Prop}(hh:A.handled=none)(hit:s.heap.IsValIter it d i es.size ep)(r:um s.heap d es ep)(hx:es.size<=i)
 (z:∀h',Qz it s.heap h'->Q none {s with heap:=h' }):Jr (JE P w) A (NJ (.ref it)) Q E s:=by
 obtain⟨ob,o1,o2,o3⟩:=id hit;obtain⟨od,q,x0,t⟩:=id r;unfold NJ;refine IR (MZ (JV (name:=Str.ofString "__next__") hit.typeIs F.slot_dict_valueiterator_next (Kx F.slot_dict_valueiterator_next hit.typeIs F.entry_dict_valueiterator_next ?_ (F.args_dict_valueiterator_next_1 _))));refine IR (IZ (IR (IR ?_)))
 first|refine IR (Lq hit.typeIs (IZ (IR (Om o1 o3 ?_))))|refine IR (L3 hit.typeIs (IZ (IR (Om o1 o3 ?_))))
 simp only[show Mm "dict_valueiterator" = false by decide,LM,if_false];show Jr _ _ (if(K0 d==LI)=true then _ else _) _ _ s;rw[if_neg (show ¬((K0 d==LI)=true)from J5)];refine IR (IZ (IR (Nm q t ?_)));rw[if_neg (by simp)];refine IR (IZ (IR (Pq q t ?_)));rw[if_neg (by simp)];refine IZ ?_;simp only[show ¬((i:Int)<0)from by omega,if_false,JJ,O2 hx];refine IR ?_
 first|refine IR (Lq hit.typeIs (IZ ?_))|refine IR (L3 hit.typeIs (IZ ?_))
 show Jr _ _ (setField (.ref it) 0 .none >>= _) _ _ s;refine IR (Oh o1 o3 (by simp) ?_);show Jr _ _ (newExc (.type "StopIteration") [] >>= _) _ _ _;refine IR ?_;simp only[newExc,newTuple];refine IR (JX (IR (m:=Oi _ _) (OI (a:=LI) (by first|rfl|(simp only[Oi];rfl)) (JX ?_ (by size_fits)))) (by size_fits));simp only[raiseNew];refine IR (wpAny_handled ?_);rw[show A.in1.handled=none from hh];refine IR (IZ (wpAny_throw ?_));refine IR (OQ (T := "StopIteration") (b:=true) ⟨_,Jk _ rfl,rfl⟩ PH ?_);exact IZ (z _ (((MH ..).extBut.push _).push _))
end
theorem iU{w:Kh}(ok:IA P w H h)(e:H a=some (.frz o (.dT us))) :
 us.length<=sizeLine/\(a==Lg)=false/\∃xs es ep,KT H us xs/\o.data = .dict es ep/\es.toList.map (·.val)=xs.map (·.2.2)/\um h a es ep:=by
 obtain⟨e1,z,y,xs,r,o',es,ep,h1,h2,h3,h4,h5⟩:=ok a _ e;rw[e1]at h1;cases h1;refine⟨z,y,xs,es,ep,r,h3,?_,o,e1,h2,h3⟩;rw[h4,Kf];rfl
def Iu(a:Addr)(o:Obj)(us:List (List Ih×V)):It :=
 ⟨fun i H=>i<us.length/\H a=some (.frz o (.dT us)),fun i H x H'=>H'=H/\∃p,us[i]?=some p/\x=p.2,fun i H=>us.length<=i/\H a=some (.frz o (.dT us))⟩
theorem B3{xs:List (List Ih×Addr×I0)}(r:KT H us xs):∀{i:Nat}{p:List Ih×V},us[i]?=some p->∃q,xs[i]?=some q/\RelV p.2 q.2.2:=by
 unfold KT at r
 induction r with
 | nil=>intro i p e;simp at e
 | @cons p q ps qs h t ih =>
   intro i p' e
   cases i with
   | zero=>simp at e;subst e;exact⟨q,rfl,h.2.2⟩
   | succ j=>obtain⟨q',e1,e2⟩:=ih (i:=j) (p:=p') (by simpa using e);exact⟨q',by simpa using e1,e2⟩
theorem sF:entryFor table "dict_valueiterator.__iter__" = some Builtin.«dict_keyiterator.__iter__»:=entryFor_alias (id' := "dict_keyiterator.__iter__") (by rw[fastTable_eq_tree];kernel_rfl) (by decide +kernel) (by decide +kernel) (by rw[fastTable_eq_tree];kernel_rfl)
theorem nF{w:Kh}{K:W.Frag}(a it:Addr){es:Array O4}{ep:Nat}(hep:o.data = .dict es ep) :
 Turn P w K tg (Iu a o us) [it] it (fun i h=>h.IsValIter it a i us.length ep) where
 mem:=by simp
 obj:=fun i h st b hb=>by
  have e:b=it:=by simpa using hb
  subst e;obtain⟨o,e,c,d⟩:=st;exact⟨o,e,fun v z=>by rw[d]at z;cases z⟩
 keep:=fun i h h' st k=>by
  obtain⟨o,e,r⟩:=st;exact⟨o,k it (by simp) o e,r⟩
 item:=by
  intro X hP hw hK hc i pins s σ H E I hf st hg;subst hP hw hK;obtain⟨hi,ha⟩:=hg;obtain⟨z,hd,xs,es',ep',rel,hdat,hv,dd⟩:=iU I.hok ha;rw[hep]at hdat;cases hdat;have hl:us.length=xs.length:=JU rel;have hs:es.size=us.length:=by have:=congrArg Nh hv;simpa[hl]using this
  have eu:us[i]?=some us[i]:=by simp[hi]
  obtain⟨q,eq,rq⟩:=B3 rel eu;obtain⟨f0,f1,f2,f3,f4,f5⟩:=hf it (by simp)
  have ex:(es[i]?).map (·.val)=some q.2.2:=by
   have:=congrArg (fun l=>l[i]?) hv;simp only[JY,eq,O8]at this;simpa using this
  rw[<- hs]at st;refine qT st dd ex fun h' st' sb=>?_;have I1:Inv X pins σ H {s with heap:=h' }:=I.turned (t':=s.toks) (fun b o hb e=>(sb.2 b hb).trans e) f0 f1 f3 f4 f5;obtain⟨oi,e,c,d⟩:=id st';rw[hs]at st';exact⟨_,rfl,mB (s:={s with heap:=h' }) e c d (by decide) ⟨us[i].2,H,I1,rq,⟨rfl,_,eu,rfl⟩,st',fun b hb=>(hf b hb).1⟩⟩
 done:=by
  intro X hP hw hK hc i pins s σ H E I hf st hg;subst hP hw hK;obtain⟨hi,ha⟩:=hg;obtain⟨z,hd,xs,es',ep',rel,hdat,hv,dd⟩:=iU I.hok ha;rw[hep]at hdat;cases hdat;have hl:us.length=xs.length:=JU rel;have hs:es.size=us.length:=by have:=congrArg Nh hv;simpa[hl]using this
  obtain⟨f0,f1,f2,f3,f4,f5⟩:=hf it (by simp);rw[<- hs]at st;refine vp (I.ok.hd hc) st dd (by omega) fun h' sb=>⟨rfl,?_⟩;exact I.turned (t':=s.toks) (fun b o hb e=>sb b o hb e) f0 f1 f3 f4 f5
 self:=fun A i s Q E st h=>by
  refine OC st.typeIs F.slot_dict_valueiterator_iter (Kx F.slot_dict_valueiterator_iter st.typeIs sF ?_ (F.args_dict_valueiterator_iter_1 _));show Jr _ _ (ret (.ref it)) _ _ s;exact IZ ⟨_,rfl, "dict_valueiterator", _,st.typeIs,F.slot_dict_valueiterator_next.lookup,h⟩
section
variable{X:Cx}{o:Expr}{tg:Expr}{te:TE}{apos cpos:Pos}
structure M0 (X:Cx) (o:Expr) (m:Str) (apos:Pos) (cpos:Pos):Prop where
 base:Li o m X.env (eval o X.env)=eval o X.env
 few:((KB cpos (Jc [] X.env)).all (fun x=>!x.1)&&(Nn cpos (LW [] X.env)).all (fun x=>x.1.isSome)
  && decide (([]:List Expr).length+([]:List LG).length+(if([]:List LG).isEmpty then 0 else 1)<30))=true
 line:(apos.endLine==cpos.line)=true
 trees:KB cpos (Jc [] X.env)=[]
def zY(t:TE):TI:=fun σ H R=>t σ H fun v H1=>∃a o us,v = .ref a/\H1 a=some (.frz o (.dT us))/\R (Iu a o us) H1
theorem vL(ho:PE X o te)(m:M0 X o "values" apos cpos):PI X tg (.Call (.Attribute o "values" apos) [] [] cpos) (zY te):=by
 intro pins s σ H R I h;refine wpAny_Call_method m.base m.few m.line OO OE PySem.F.type_dict_values (FB (ho pins s σ H _ I h) fun u s1 ⟨x,H1,I1,rx,a,ob,us,ex,ha,q1⟩=>?_);subst ex;obtain rfl:u=K0 a:=rx;obtain⟨z,hd,xs,es,ep,rel,hdat,hv,dd⟩:=iU I1.hok ha;have hl:us.length=xs.length:=JU rel;have hs:es.size=us.length:=by have:=congrArg Nh hv;simpa[hl]using this
 refine⟨dd.ty,fun b q=>?_,?_⟩
 · cases q;obtain⟨ob',h1,h2,_⟩:=dd;exact⟨ob',h1,h2.2.1⟩
 rw[m.trees];refine Nb rfl (PySem.evalArgs_none ?_);refine Qi OE dd.ty PySem.F.entry_dict_values (PySem.F.args_dict_values_1 _) (lS hd) ⟨⟨es,ep,dd⟩,?_⟩;have I2:Inv X pins σ H1 {s1 with heap:=s1.heap.push {cls:=.type "dict_values", data:=.fields #[.ref a]}}:=I1.kept (t':=s1.toks) fun b o e=>IW _ e;obtain⟨z,hd,xs,es',ep',rel,hdat',hv,dd2⟩:=iU I2.hok ha;rw[hdat]at hdat';cases hdat';refine qS ⟨_,Jk _ rfl,rfl,rfl⟩ dd2 ?_;refine⟨_,[_],_,_,H1,rfl,I2.kept (t':=s1.toks) fun b o e=>IW _ e,nF a _ hdat,⟨_,Jk _ rfl,rfl,by rw[hs];rfl⟩,fun b hb=>?_,q1⟩;have e:b=(s1.heap.push {cls:=.type "dict_values", data:=.fields #[.ref a]}).objs.size:=by simpa using hb
 subst e;exact I2.fpOk (Jb _) (I2.hok.fresh (Jb _))
theorem pU:dg X (.builtin "len") (fun xs H Q=>∃a ob kvs,xs=[V.ref a]/\H a=some (.frz ob (.dT kvs))/\Q (.int kvs.length) H):=by
 intro pins s σ H xs us Q I r h;obtain⟨a,ob,kvs,rfl,ha,q⟩:=h;obtain⟨u,rfl,ru⟩:=vals1 r;cases ru;obtain⟨z,hd,xs,es,ep,rel,hdat,hv,dd⟩:=iU I.hok ha;have hl:kvs.length=xs.length:=JU rel;have hs:es.size=kvs.length:=by have:=congrArg Nh hv;simpa[hl]using this
 rw[Qs]at z;refine qR hd dd (by omega) ⟨.int kvs.length,H,(I.tok _).tok _,⟨_,by rw[hs]⟩,q⟩
def BB(i:Nat)(T:TS):TS:=fun D σ H=>T {D with nx:=fun σ' H'=>∃a us,σ'[i]?=some (some (.ref a))/\H' a=some (.dT us)/\∀o,D.nx σ' (upd H' a (.frz o (.dT us)))} σ H
theorem vG{st:Stmt}{T:TS}(i:Nat)(h:PS X st T):PS X st (BB i T):=fun pins s σ H D I q=>FB (h pins s σ H _ I q) fun f s' z=>by
 cases f with
 | next =>
   obtain⟨σ',H',I',a,us,e1,e2,k⟩:=z;obtain⟨z,hd,xs,rel,o,es,ep,ho,r⟩:=I'.hok a _ e2;refine⟨σ',_,?_,k o⟩;refine dY (t':=s'.toks) I' (by rw[e2];trivial) (Nk _ _) ⟨o,ho⟩ ⟨ho,z,hd,xs,?_,o,es,ep,ho,r⟩
   exact Kr.mapP rel fun p q z=>⟨z.1,by rw[ag (fun y=>by rw[y,e2]at z;cases z.2.1)];exact z.2.1,z.2.2⟩
 | brk=>exact z
 | cont=>exact z
 | ret u=>exact z
end
end L2
namespace L2.VL
section
variable{X:Cx}{rl:RlT}{a b e o i':Expr}{es:List Expr}{fa fb:TV}{fs:HC}{pos p px apos cpos:Pos}{ρ:En}{st:Stmt}{t:HD}
theorem VR.frzT{K:W.Frag}{ρ:En}(r:VR K rl F₀ H₀ F H σ ρ){i:Nat}{xs:List (List Ih×IQ)}{a:Addr}{ob:Obj}(e:ρ[i]?=some (some (.md xs)))(es:σ[i]?=some (some (.ref a)))(hH:H a=some (.dT us))(rs:KD K F us xs) :
 bm F (upd F a (.frz ob (.dT us)))/\VR K rl F₀ H₀ (upd F a (.frz ob (.dT us))) (upd H a (.frz ob (.dT us))) σ (ρ.set i (some (.ft xs))):=by
 obtain⟨v,h1,h2,h3⟩:=r.sl i _ e;rw[es]at h1;cases h1;obtain⟨a',vs,ev,f,hr,hh,q⟩:=(show jY K rl F H (.ref a) xs from h2);cases ev;have n0:H₀ a=none:=h3 a rfl;have hi:i<ρ.length:=(Jn.mp e).1;have neF:∀b u,F b=some u->b≠a:=fun b u q z=>by subst z;rw[f]at q;cases q
 have fsm:bm F (upd F a (.frz ob (.dT us))):=fun b u z=>by rw[ag (neF b u z)];exact z
 have g:Grow rl F₀ H₀ (upd F a (.frz ob (.dT us))) (upd H a (.frz ob (.dT us))):=by
  refine⟨fun b o q1 n=>by rw[ag (ay q1 n0)];exact r.g.same b o q1 n,r.g.fs.trans fsm,fun b o q1=>?_,fun b o q1=>by rw[ag (ay q1 n0)];exact r.g.old b o q1,fun y z=>?_⟩
  · by_cases hb:b=a
    · subst hb;rw[ak]at q1 ⊢;exact q1
    · rw[ag hb]at q1 ⊢;exact r.sub b o q1
  · obtain⟨z1,⟨u,h1,h2⟩⟩:=r.reel y z;have ny:y≠a:=fun q=>hr (by rw[<- q];exact z);exact⟨by rw[ag ny];exact z1,⟨u,by rw[ag ny];exact h1,RO.mono fsm h2⟩⟩
 refine⟨fsm,g,fun j w e1=>?_,fun j k ys' zs u hjk e1 e2 w1 w2 s1 s2=>?_,fun j ys' z=>?_,by simp[r.len]⟩
 · by_cases hj:i=j
   · subst hj;rw[Jo hi]at e1;cases e1;exact⟨_,es,⟨a,us,ob,rfl,ak,Kr.mapP rs fun _ _ z=>⟨z.1,z.2.mono fsm⟩⟩,trivial⟩
   · rw[Jj hj]at e1;obtain⟨u,g1,g2,g3⟩:=r.sl j w e1;refine⟨u,g1,?_,g3⟩;have ap:w.own=true->∀b,u = .ref b->b≠a:=fun ow b eb z=>r.ap i j _ _ (.ref a) hj e e1 rfl ow es (by rw[g1,eb,z])
     cases w with
     | d x=>exact Rep.mono fsm g2
     | ml zs=>obtain⟨b,us',eb,f1,f2,f3,f4⟩:=(show eE K rl F H u zs from g2);exact⟨b,us',eb,by rw[ag (ap rfl b eb)];exact f1,f2,by rw[ag (ap rfl b eb)];exact f3,f4.mono fsm⟩
     | md zs=>obtain⟨b,us',eb,f1,f2,f3,f4⟩:=(show jY K rl F H u zs from g2);exact⟨b,us',eb,by rw[ag (ap rfl b eb)];exact f1,f2,by rw[ag (ap rfl b eb)];exact f3,Kr.mapP f4 fun _ _ z=>⟨z.1,z.2.mono fsm⟩⟩
     | mk zs=>obtain⟨b,us',eb,f1,f2,f3,f4⟩:=(show lH K rl F H u zs from g2);exact⟨b,us',eb,by rw[ag (ap rfl b eb)];exact f1,f2,by rw[ag (ap rfl b eb)];exact f3,Kr.mapP f4 fun _ _ z=>⟨z.1,z.2.mono fsm⟩⟩
     | pk zs=>exact absurd e1 (r.np j zs)
     | reel=>exact g2
     | vv u=>exact g2
     | lk=>trivial
     | nt ds=>obtain⟨b,us,eb,f1,f2⟩:=g2;exact⟨b,us,eb,fsm _ _ f1,f2.mono fsm⟩
     | sc ns=>obtain⟨b,eb,f1⟩:=g2;exact⟨b,eb,iF fsm f1⟩
     | fd kvs=>obtain⟨b,us,eb,f1,f2⟩:=g2;exact⟨b,us,eb,fsm _ _ f1,Kr.mapP f2 fun _ _ z=>⟨z.1,z.2.mono fsm⟩⟩
     | fw kvs=>obtain⟨b,us,o,eb,f1,f2⟩:=g2;exact⟨b,us,o,eb,fsm _ _ f1,Kr.mapP f2 fun _ _ z=>⟨z.1,z.2.mono fsm⟩⟩
     | ft kvs=>obtain⟨b,us,o,eb,f1,f2⟩:=g2;exact⟨b,us,o,eb,fsm _ _ f1,Kr.mapP f2 fun _ _ z=>⟨z.1,z.2.mono fsm⟩⟩
     | xc _ _=>obtain⟨b,dx,us,C,eb,n,f1,f3,f2⟩:=g2;exact⟨b,dx,us,C,eb,n,fsm _ _ f1,fsm _ _ f3,Kr.mapP f2 fun _ _ z=>⟨z.1,z.2.mono fsm⟩⟩
     | dp _ _=>obtain⟨c,b,us,u,o,eb,f1,f3,f2,z⟩:=g2;exact⟨c,b,us,u,o,eb,fsm _ _ f1,fsm _ _ f3,Kr.mapP f2 fun _ _ z=>⟨z.1,z.2.mono fsm⟩,z.mono fsm⟩
 · have nd:∀(j:Nat)(y:W),(ρ.set i (some (W.ft xs)))[j]?=some (some y)->y.own=true->ρ[j]?=some (some y):=fun j y z o=>by
     by_cases hj:i=j
     · subst hj;rw[Jo hi]at z;cases z;cases o
     · rw[Jj hj]at z;exact z
   exact r.ap j k _ _ u hjk (nd j _ e1 w1) (nd k _ e2 w2) w1 w2 s1 s2
 · rw[Kb]at z;split at z
   · first|cases z|(split at z<;>cases z)
   · exact r.np j ys' z
def Ay:W->Option (List (List Ih×IQ))
 | .ft kvs=>some kvs
 | _=>none
theorem asFt_f(kvs:List (List Ih×IQ)):Ay (.ft kvs)=some kvs:=rfl
theorem qf{w:W}:Ay w=some kvs↔w = .ft kvs:=by cases w<;>simp[Ay]
def AK(i:Nat):HD:=fun D ρ=>∃kvs,ρ[i]?=some (some (.md kvs))/\D.nx (ρ.set i (some (.ft kvs)))
theorem uw(i:Nat)(h:HV X rl st t):HV X rl st (uP t (AK i)):=by
 obtain⟨T,p,k⟩:=h;refine⟨_,vG i p,fun{F₀ H₀ F H σ ρ} R Dv D ok q=>k R {Dv with nx:=AK i Dv} _ ⟨fun F' H' σ' ρ' s' R' z=>?_,ok.rt,ok.bk,ok.ct⟩ q⟩;obtain⟨kvs,e,q'⟩:=z;obtain⟨v,h1,h2,h3⟩:=R'.sl i _ e;obtain⟨a,us,rfl,f,hr,hh,rs⟩:=(show jY X.K rl F' H' v kvs from h2);refine⟨a,us,h1,hh,fun o=>?_⟩;obtain⟨fsm,R2⟩:=R'.frzT (ob:=o) e h1 hh rs;exact ok.nx _ _ _ _ (s'.trans fsm) R2 q'
theorem s_fzT(i:Nat):mS (AK i) ρ=aD (FY ρ i) fun kvs=>ret (.nx (ρ.set i (some (.ft kvs)))):=by
 refine af fun Q=>?_;simp only[mS,AK,ai,nV,ret]
def wD(fa:TV):En->(List IQ->Prop)->Prop:=fun ρ Q=>fa ρ fun w=>∃kvs,w = .ft kvs/\Q (kvs.map (·.2))
theorem zP{K:W.Frag}(r:KD K F us kvs){i:Nat}{x:IQ}(h:(kvs.map (·.2))[i]?=some x):∃p,us[i]?=some p/\Rep K F p.2 x:=by
 induction r generalizing i with
 | nil=>simp at h
 | @cons p q ps qs hh t ih =>
   cases i with
   | zero=>simp at h;subst h;exact⟨p,rfl,hh.2⟩
   | succ j=>exact ih (i:=j) (by simpa using h)
theorem uB(ha:PV X rl o fa)(m:M0 X o "values" apos cpos:=by exact⟨rfl,rfl,rfl,rfl⟩):HY X rl tg (.Call (.Attribute o "values" apos) [] [] cpos) (wD fa):=by
 obtain⟨t,p1,k⟩:=ha;refine⟨_,vL p1 m,fun R Qd Q q h=>k R _ _ q fun v w F1 H1 g1 r1 n1 ⟨kvs,ew,q1⟩=>?_⟩;subst ew;obtain⟨x,us,ob,rfl,hx,rk⟩:=r1;have hl:us.length=kvs.length:=JU rk;refine⟨x,ob,us,rfl,g1.sub _ _ hx,h _ (kvs.map (·.2)) F1 H1 g1 (VIt.of (fun i H y e s=>⟨?_,s _ _ hx⟩) (fun i H hl' s=>⟨by rw[I_]at hl';omega,s _ _ hx⟩) fun i H v H' y e s z=>?_) q1⟩
 · have:=(Jn.mp e).1;rw[I_]at this;omega
 · obtain⟨e1,pp,e2,e3⟩:=z;obtain⟨p',e4,e5⟩:=zP rk e;rw[e2]at e4;cases e4;subst e3;exact⟨e1,e5⟩
theorem m_iVals:wD fa ρ=Hj (fa ρ) fun w=>aD (Ay w) fun kvs=>ret (kvs.map (·.2)):=by
 refine af fun Q=>?_;simp only[wD,Hj,ai,qf,ret]
def lp:List W->(W->Prop)->Prop:=fun ws Q=>∃kvs,ws=[.ft kvs]/\Q (.d (.int (kvs.length:Nat)))
theorem qz:dP X rl (fun xs H Q=>∃a ob kvs,xs=[V.ref a]/\H a=some (.frz ob (.dT kvs))/\Q (.int kvs.length) H) lp:=fun{F H vs ws} Qd Q s ra r ⟨kvs,ew,q⟩ k=>by
 subst ew;obtain⟨v,rfl,r1⟩:=mL r;obtain⟨x,us,ob,rfl,hx,rk⟩:=(show ∃a us o,v = .ref a/\F a=some (.frz o (.dT us))/\KD X.K F us kvs from r1);have hl:us.length=kvs.length:=JU rk;exact⟨x,ob,us,rfl,s _ _ hx,by rw[hl];exact k _ (.d (.int (kvs.length:Nat))) _ _ (Grow.refl s ra) (.int _) trivial q⟩
theorem uK(hm:X.mg "len" = none)(ha:HQ X rl [a] fs)(hg:Gl X "len" := by rfl)(he:Jc [a] X.env=(false,eval a X.env)::Jc [] X.env:=by rfl)(hpl:(KB pos (Jc [] X.env)).any (·.1)=false:=by rfl) :
 PV X rl (.Call (.Name "len" p) [a] [] pos) (cr lp fs):=dS pU qz hm (by rfl) ha hg (by decide) (by decide) he hpl
theorem m_gLenFt(w:W):lp [w]=aD (Ay w) fun kvs=>ret (.d (.int (kvs.length:Nat))):=by
 refine af fun Q=>?_;simp only[lp,ai,qf,ret,Ku,and_true]
theorem fz_ft(kvs:List (List Ih×IQ)):(W.ft kvs).fz = .ft kvs:=rfl
theorem pk_ft(kvs:List (List Ih×IQ)):(W.ft kvs).peek = .ft kvs:=rfl
theorem isPk_ft(kvs:List (List Ih×IQ)):(W.ft kvs).isPk=false:=rfl
def IL:=IS @s_fzT (IS @m_iVals (IS @m_gLenFt (IS @asFt_f (IS @fz_ft (IS @pk_ft (@isPk_ft))))))
end
section
variable{X:Cx}{rl:RlT}{a b c o e:Expr}{es:List Expr}{fa fb:TV}{fs:HC}{pos p apos cpos:Pos}{ρ:En}
def ol(K:W.Frag):V->List V->Hp->VK->Prop:=fun x vs H Q=>∃(ys:List IQ)(d:IQ)(v:V)(j:Nat),Rep K H x (.list ys)/\vs=[v]/\Rep K H v d/\JT d=true/\JZ ys=true/\ys.length<=sizeLine/\ys.findIdx? (fun z=>Ky z d)=some j/\Q (.int j) H
theorem oR(hu:X.A.units+65<N1):Ie X "list.index" (ol X.K):=by
 intro pins s σ H x xs v us Q I rx rs ⟨ys,d,u0,j,rp,ev,rd,sd,hc,hz,hj,q⟩;subst ev;obtain⟨u,rfl,ru⟩:=rs.one;obtain⟨as,a2⟩:=Rep.reads I (.refl H) rp v rx;obtain⟨bs,a1⟩:=Rep.reads I (.refl H) rd u ru
 cases a2 with
 | @list a o vs n xs as h1 h2 h3 ra =>
   obtain⟨cls,dd,data,sl⟩:=o;simp only at h2 h3;subst h2 h3;have em:=SeqAt.readsAll_map ys _ _ hc ra;have el:vs.toList.length=ys.length:=by have:=congrArg Nh em;simpa using this
   have at_:∀m (hm:m<vs.size) (hm':m<ys.length),SeqAt.readOf s.heap vs[m]=ys[m]:=fun m hm hm'=>by
    have:=congrArg (fun l=>l[m]?) em;simpa[hm,hm']using this
   obtain⟨k1,k2,k3⟩:=M8.mp hj;have sz:=Js
   have js : j < vs.size := by have:vs.size=ys.length:=by simpa using el
                               omega
   refine Nj OP ⟨_,h1,rfl⟩ PySem.F.entry_list_index (PySem.F.args_list_index_2 _ _) (PySem.SeqAt.list_indexAt a vs n dd sl u (fun y=>Ky (SeqAt.readOf s.heap y) d) j js (by omega) ?_ ?_) ⟨h1,SeqAt.items_eqAt ra a1 hc (Nc sd) (jL (ys:=ys) hu sd),?_⟩
   · rw[at_ j js k1];exact k2
   · intro m hm lt;rw[at_ m hm (by omega)];simpa using k3 m lt
   · exact⟨.int _,H,I.tok _,⟨_,rfl⟩,q⟩
def hZ:List IQ->List W->(W->Prop)->Prop:=fun ys ws Q=>∃d j,ws=[.d d]/\JT d=true/\JZ ys=true/\ys.length<=sizeLine/\ys.findIdx? (fun z=>Ky z d)=some j/\Q (.d (.int (j:Nat)))
theorem mV:Hz X rl (ol X.K) hZ:=fun{F H v args xs ws} Qd Q s ra rp rw' ⟨d,j,ew,sd,hc,hz,hj,q⟩ h=>by
 subst ew;obtain⟨u,rfl,r1⟩:=mL rw';exact⟨xs,d,u,j,rp,rfl,Rep.mono s r1,sd,hc,hz,hj,h _ (.d _) _ _ (Grow.refl s ra) (.int _) trivial q⟩
theorem qD(hu:X.A.units+65<N1)(ho:PV X rl o fa)(ha:HQ X rl [e] fs) 
 (hbase:Li o "index" X.env (eval o X.env)=eval o X.env:=by rfl)
 (hfew:((KB cpos (Jc [e] X.env)).all (fun x=>!x.1)&&(Nn cpos (LW [] X.env)).all (fun x=>x.1.isSome)
  && decide (([e]).length+([]:List LG).length+(if([]:List LG).isEmpty then 0 else 1)<30))=true:=by rfl)
 (hline:(apos.endLine==cpos.line)=true:=by rfl)(hs:Jc [e] X.env=(false,eval e X.env)::Jc [] X.env:=by rfl)(hplain:(KB cpos (Jc [] X.env)).any (·.1)=false:=by rfl) :
 PV X rl (.Call (.Attribute o "index" apos) [e] [] cpos) (Fp hZ fa fs) :=
 D6 OP PySem.F.type_list_index (oR hu) mV ho ha hbase hfew hline hs hplain
theorem oV(ys:List IQ)(w:W):hZ ys [w]=aD (asD w) fun d=>GW (JT d=true) (GW (JZ ys=true) (GW (ys.length<=sizeLine) (aD (ys.findIdx? fun z=>Ky z d) fun j=>ret (.d (.int (j:Nat)))))):=by
 refine af fun Q=>?_;simp only[hZ,ai,cX,GW,ret,Ku,and_true];constructor
 · rintro⟨d,j,e,a,b,c,f,q⟩;exact⟨d,e,a,b,c,j,f,q⟩
 · rintro⟨d,e,a,b,c,j,f,q⟩;exact⟨d,j,e,a,b,c,f,q⟩
end
end L2.VL
namespace K65
open PySem PySem.Spec PyProof.Rows L2 L2.VL
local macro_rules | `(tactic| simp_arith only [$xs,*])=>`(tactic| simp (maxSteps:=2000000) (disch:=(first | assumption | omega | decide)) only [C4,C7,C_,C9,C8,C0,CZ,C3,C2,C1,C6,C5,A7,FX,FV,dF,ck,dn,W.cap,GD,List.replicate,id,↓reduceIte,if_true,Nat.reduceAdd,Nat.reduceSub,Nat.reduceLeDiff,Int.cast_ofNat_Int,Int.reduceBEq,Int.reduceSub,Int.reduceAdd,Int.reduceLT,Int.reduceLE,Int.reduceMul,Int.reduceNeg,reduceCtorEq,gG,$xs,*])
local macro_rules | `(tactic| simp_arith only [$xs,*] at $h:ident)=>`(tactic| simp only [List.cons.injEq,W.d.injEq,PyData.int.injEq,PyData.bool.injEq,PyData.str.injEq,PyData.list.injEq,PyData.tuple.injEq,kA,rK,qK,dm,and_true,true_and,reduceCtorEq,$xs,*] at $h:ident)
section
variable{P:Ju}{w:Kh}{K:L6}{mg:Str->Option I0}{base:Heap}{rl:RlT}{al:Option Addr}
def AS(ws:List W):Prop:=∃(ns:List Int)(k:Int),ws=[.sc ns,.d (.int k)]/\ns.length<=63/\0<=k/\k<1000
theorem iC:FnScope ["_law_script", "_law_at", "_law_cell"] ["_law_script", "_law_at"] (defScope (top 18)):=⟨rfl,rfl,rfl,by decide +kernel,rfl,by decide +kernel,by decide +kernel⟩
theorem d__law_tape(Fn:FnIn K mg "_law_tape" (top 18) ["_law_script", "_law_at"])(Z:Bz mg):DfnR P w K mg base "_law_tape" ["_law_script", "_law_at"] 2 AS:=by
 have sc:=iC;obtain⟨f,fd,hm,F,hb⟩:=Fn.ex;refine⟨f,fd,hm,F.kp,hb,?_⟩;refine F.ok (k:=1) sc (fun vs H Q E h=>?_) (fun cdv A outer s H vs Q E hr h=>?_)
 · obtain⟨F,ws,_,r,_,⟨ns,k,rfl,_⟩,_⟩:=h;have:=JU r;simpa using this
 · obtain⟨F,ws,sm,r,ao,⟨ns,k,rfl,hn,k0,k1⟩,fin⟩:=h;obtain⟨T,p,kk⟩:=nM (X:=(lu IE P w K mg base ["_law_script", "_law_at", "_law_cell"] "_law_tape" (defScope (top 18)) f cdv A outer s H E).nox) (az 2 sc.nd (vn 1)) (eW (bF lW lJ (bp _) (jq Z.len_ (aa (vn 0) ab)) aq) (aw (az 2 sc.nd (v_add (yd (vn 0) (v_mod (vn 1) (jq Z.len_ (aa (vn 0) ab)))) (v_div (vn 1) (jq Z.len_ (aa (vn 0) ab)))))) cL) (vn 2) (yc Z.max_ (aa aq (aa (v_sub (vn 2) (v_pow aq aq)) ab))) aq;refine⟨T,p,kk (cx sm (fun _ z=>by cases z) r ao) _ ?_ fin⟩;simp_arith only[ac];by_cases h:(0:Int)<(ns.length:Int)
   · have hz:(ns.length:Int)≠0:=by omega
     obtain⟨z,hz'⟩:∃z,L2.atI ns (k.fmod (ns.length:Int))=some z:=by
      obtain⟨z,e,_⟩:=At (xs:=ns) (Ml k h) (M9 k h);exact⟨z,e⟩
     have cd:ic k (ns.length:Int):=ic.of hz (by omega);rw[if_pos (by simpa using h)];simp_arith only[ah,ac,hz'];refine⟨_,rfl,?_⟩;simp_arith only[ac];refine⟨⟨by decide,by decide,by decide⟩,?_⟩;exact⟨_,_,_,rfl,by omega,rfl⟩
   · rw[if_neg (by simpa using h)];refine⟨_,rfl,?_⟩;simp_arith only[ac];refine⟨⟨by decide,by decide,by decide⟩,?_⟩;exact⟨_,_,_,rfl,by omega,rfl⟩
def bh:List W->(IQ->Prop)->Prop:=fun ws Q=>∃(m:Int),ws=[.reel,.d (.int m)]/\((0<m)/\(m<2^60))/\∀k:Int,(0<=k/\k<m)->Q (.int k)
theorem bh.mono:∀ws (Q Q':IQ->Prop),(∀d,Q d->Q' d)->bh ws Q->bh ws Q':=fun _ _ _ h_ ⟨m,e_,p_,q_⟩=>⟨m,e_,p_,fun o_ ho_=>h_ _ (q_ o_ ho_)⟩
theorem bh.len:∀ws (Q:IQ->Prop),bh ws Q->ws.length=2:=fun _ _ ⟨_,e_,_⟩=>by subst e_;rfl
theorem bh.eq(m:Int)(hm:0<m)(hb:m<2^60):bh [.reel,.d (.int m)]=Hj (anyM fun k:Int=>0<=k/\k<m) fun k=>VL.ret (.int k:IQ):=by
 refine af fun Q=>⟨?_,fun q_=>⟨m,rfl,⟨hm,hb⟩,q_⟩⟩;rintro⟨m',e_,_,q_⟩;simp_arith only[and_true]at e_;obtain rfl:=e_;exact q_
theorem iE:FnScope ["_law_tape_here", "_law_many", "_law_turn", "_law_found", "_law_stirred"] ["_law_tape_here", "_law_many"] (defScope (top 19)):=⟨rfl,rfl,rfl,by decide +kernel,rfl,by decide +kernel,by decide +kernel⟩
theorem d__law_pick(Fn:FnIn K mg "_law_pick" (top 19) ["_law_tape_here", "_law_many"])(Z:Bz mg)    : DfnC P w K mg base al 1 "_law_pick" ["_law_tape_here", "_law_many"] 1 bh:=by
 have sc:=iE
 refine DfnC.of Fn sc (bh.mono) (bh.len) (fun cdv A outer s H E hr=>(wZ 2 0 (hr.mono (J1 _)) sc.nd (by decide) (aF (cs fun _=>(eW (bF lW lJ (bp _) (m6 (i:=0) (hr.mono (J1 _)) (.inl rfl)) aq) (aj (az 3 sc.nd (v_mod (m6 (i:=0) (hr.mono (J1 _)) (.inl rfl)) (vn 1)))
  (aj (uu (i:=0) (hr.mono (J1 _)) (.inl rfl) (v_div (m6 (i:=0) (hr.mono (J1 _)) (.inl rfl)) (vn 1)))
  (aw (aK (vn 3))))) cL))
  (aF (cs fun _=>(az 4 sc.nd (v_mul (v_add (v_add (v_mod (uJ (i:=0) (hr.mono (J1 _))) aq) (v_mul (v_mul aq (vn 2)) (vn 2))) aq) aq)))
  (aF (cs fun _=>(az 4 sc.nd (v_mul (v_add (v_mod (vn 4) aq) (v_mul aq (vn 2))) aq)))
  (dJ (cs fun _=>(aK (v_mod (v_div (v_mod (vn 4) aq) aq) (vn 1)))))))))) (by decide) ?_
 rintro ws Q ⟨m,rfl,⟨hm,hb⟩,hQ⟩;have hm0:m≠0:=by omega
 have hmd:∀i:Int,ic i m:=fun i=>ic.of hm0 (by omega);refine aL ?_;simp_arith only[ah,ac,bw,bx,aM,aO,bA,aN,aA,ae];refine ax fun n hn=>?_
 have h59:n.natAbs<2^59990:=by
  have h1:=hn.2;rw[<- Py hn.1]at h1
  exact_mod_cast h1
 have bn:IK n:=Jh h59 (Jz (by decide) (by decide));have c1:bR 31 n:=.lt (by decide)
 have bn2:IK (31*n):=by
  unfold IK at bn ⊢;rw[Int.natAbs_mul];have h2:n.natAbs<2^59990:=h59;have:(31:Int).natAbs*n.natAbs<2^5*2^59990:=Nat.mul_lt_mul'' (by decide) h2;rw[<- Nat.pow_add]at this;exact Jh this (Jz (by decide) (by decide))
 have c2:bR (31*n) n:=.bb bn2 bn;have c3:bR 7 n:=.lt (by decide);have c4:∀z:Int,bR z 48271:=fun z=>.rt (by decide);have c5:∀z:Int,bR z 69621:=fun z=>.rt (by decide);have d7:∀z:Int,ic z 7:=fun z=>ic.of (by decide) (by decide)
 (with_reducible (first|refine ax fun l hl=>?_|refine aI fun l hl=>?_))
 rw[sq_ite];refine dG (fun _=>?_) fun _=>?_
 · simp_arith only[ah,ac,bw,bx,aM,aO,bA,aN,aA,ae]
   (with_reducible (first|refine ax fun l2 hl2=>?_|refine aI fun l2 hl2=>?_))
   try simp_arith only[ah,ac,bw,bx,aM,aO,bA,aN,aA,ae]
   (with_reducible (first|refine ax fun l3 hl3=>?_|refine aI fun l3 hl3=>?_))
   have h0:=Int.fdiv_nonneg hl3 (show 0<=m by omega)
   try simp_arith only[ah,ac,bw,bx,aM,aO,bA,aN,aA,ae]
   exact bB (hmd _) (aQ (hQ _ ⟨Ml _ hm,M9 _ hm⟩))
 · simp_arith only[ah,ac,bw,bx,aM,aO,bA,aN,aA,ae]
   (with_reducible (first|refine ax fun z hz=>?_|refine aI fun z hz=>?_))
   try simp_arith only[ah,ac,bw,bx,aM,aO,bA,aN,aA,ae]
   exact bB (c4 _) (bB (c5 _) (bB (d7 _) (aQ (hQ _ ⟨Ml _ hm,M9 _ hm⟩))))
def tbD(t:List (List Int)):IQ:=.tuple (t.map av)
def lI(p:Int)(r c:Nat)(t:List (List Int)):Prop:=t.length=r/\∀row∈t,row.length=c/\∀x∈row,0<=x/\x<p
theorem cM(xs:List Int):JM (xs.map Jt)=av xs:=rfl
def bL:List W->(IQ->Prop)->Prop:=fun ws Q=>∃(p r c:Int),ws=[.reel,.d (.int p),.d (.int r),.d (.int c)]/\((2<=p)/\(p<=7)/\(1<=r)/\(r<=8)/\(1<=c)/\(c<=8))/\∀t:List (List Int),(lI p r.toNat c.toNat t)->Q (tbD t)
theorem bL.mono:∀ws (Q Q':IQ->Prop),(∀d,Q d->Q' d)->bL ws Q->bL ws Q':=fun _ _ _ h_ ⟨p,r,c,e_,p_,q_⟩=>⟨p,r,c,e_,p_,fun o_ ho_=>h_ _ (q_ o_ ho_)⟩
theorem bL.len:∀ws (Q:IQ->Prop),bL ws Q->ws.length=4:=fun _ _ ⟨_,_,_,e_,_⟩=>by subst e_;rfl
theorem bL.eq(p r c:Int)(p2:2<=p)(p7:p<=7)(r1:1<=r)(r8:r<=8)(c1:1<=c)(c8:c<=8):bL [.reel,.d (.int p),.d (.int r),.d (.int c)]=Hj (anyM fun t:List (List Int)=>lI p r.toNat c.toNat t) fun t=>VL.ret (tbD t:IQ):=by
 refine af fun Q=>⟨?_,fun q_=>⟨p,r,c,rfl,⟨p2,p7,r1,r8,c1,c8⟩,q_⟩⟩;rintro⟨p',r',c',e_,_,q_⟩;simp_arith only[and_true]at e_;obtain⟨rfl,rfl,rfl⟩:=e_;exact q_
theorem jz:FnScope ["_law_tape_here", "_law_p", "_law_rows", "_law_columns", "_law_few", "_law_found", "_law_i", "_law_row", "_law_k"] ["_law_tape_here", "_law_p", "_law_rows", "_law_columns"] (defScope (top 22)):=⟨rfl,rfl,rfl,by decide +kernel,rfl,by decide +kernel,by decide +kernel⟩
theorem d__law_any(Fn:FnIn K mg "_law_any" (top 22) ["_law_tape_here", "_law_p", "_law_rows", "_law_columns"])(Z:Bz mg)(d__law_pick:∀al,DfnC P w K mg base al 1 "_law_pick" ["_law_tape_here", "_law_many"] 1 bh)   : DfnC P w K mg base al 8193 "_law_any" ["_law_tape_here", "_law_p", "_law_rows", "_law_columns"] 2 bL:=by
 have sc:=jz
 refine DfnC.of Fn sc (bL.mono) (bL.len) (fun cdv A outer s H E hr=>(aF (cV 4 sc.nd (cp (d__law_pick _) (hr.mono (by decide)) (au (cv fun _=>(vn 0)) (au (cv fun _=>aq) br))))
  (aF (cs fun _=>(bS 5 sc.nd (cQ ab)))
  (aF (uc 64 [6,7,8] JL rfl (ci fun _=>(aH Z.range_ (aa (vn 2) ab))) (fun _=>(ar 6 sc.nd)) (aF (cs fun _=>(bS 7 sc.nd (cQ ab)))
  (aF (uc 64 [8] JL rfl (ci fun _=>(aH Z.range_ (aa (vn 3) ab))) (fun _=>(ar 8 sc.nd)) (dJ (Al 7 (au (CD (cp (d__law_pick _) (hr.mono (by decide)) (au (cv fun _=>(vn 0)) (au (cv fun _=>(vn 1)) br))) (An Z.int_ (au (EE (cv fun _=>(m7 lW lJ (bp _) (vn 4) aq)) (CC (CF (dh hr.units) (fun _=>cj) (bp _) (cp (d__law_pick _) (hr.mono (by decide)) (au (cv fun _=>(vn 0)) (au (cv fun _=>aq) br))) (cv fun _=>aq)))) br))) br))))
  (dJ (cs fun _=>(d9 5 (aa (bC Z.tuple_ (aa (vn 7) ab)) ab)))))))
  (dJ (cs fun _=>(aK (bC Z.tuple_ (aa (vn 5) ab))))))))) (by decide) ?_
 rintro ws Q ⟨p,r,c,rfl,⟨p2,p7,r1,r8,c1,c8⟩,hQ⟩;refine aL ?_;have sz:=Js;have gr : -(2^62)<=r/\r<2^62:=by omega
 have gc : -(2^62)<=c/\c<2^62:=by omega
 simp_arith only[ah,ac,bw,bx,aM,aO,bA,aN,aA,ae,bh.eq]
 (with_reducible (first|refine ax fun f hf=>?_|refine aI fun f hf=>?_))
 try simp_arith only[ah,ac,bw,bx,aM,aO,bA,aN,aA,ae]
 refine cH (fun i ρ=>∃t:List (List Int),lI p i c.toNat t/\ρ=[some .reel,some (.d (.int p)),some (.d (.int r)),some (.d (.int c)),some (.d (.int f)),some (.ml (t.map av)),none,none,none]) ⟨[],⟨rfl,by simp⟩,rfl⟩ ?_ ?_
 · rintro i hi ρ ⟨t,ht,rfl⟩ K hK;simp_arith only[ah,ac,bw,bx,aM,aO,bA,aN,aA,ae];refine cH (fun j ρ=>∃row:List Int,(row.length=j/\∀x∈row,0<=x/\x<p)/\ρ=[some .reel,some (.d (.int p)),some (.d (.int r)),some (.d (.int c)),some (.d (.int f)),some (.ml (t.map av)),some (.d (.int (0+i))),some (.ml (row.map .int)),none]) ⟨[],⟨rfl,by simp⟩,rfl⟩ ?_ ?_
   · rintro j hj ρ ⟨row,⟨hl,hx⟩,rfl⟩ K2 hK2;simp_arith only[ah,ac,bw,bx,aM,aO,bA,aN,aA,ae,bh.eq];refine ax fun a ha=>?_
     have fin:∀x:Int,0<=x/\x<p->∀y:Int,K2 (Fl.nx [some W.reel,some (W.d (.int p)),some (W.d (.int r)),some (W.d (.int c)),some (W.d (.int f)),some (W.ml (t.map av)),some (W.d (.int (0+(i:Int)))),some (W.ml (row.map Jt++[Jt x])),some (W.d (.int y))]):=fun x hxx y =>
      hK2 _ (bT ⟨row++[x],⟨by simp[hl],fun z hz=>by rcases J3.mp hz with h|h;exact hx z h;simp at h;rw[h];exact hxx⟩,by simp[fo,JW]⟩)
     refine dG (fun _=>?_) fun _=>ax fun b hb=>?_
     · exact bB (.rt (by decide)) (fin _ (by omega) _)
     · refine bB (.rt (by split<;>decide)) (fin _ ?_ _);split<;>omega
   · rintro ρ ⟨row,⟨hl,hx⟩,rfl⟩;have tl:t.length<sizeLine:=by have:=ht.1;omega
     simp_arith only[ah,ac,bw,bx,aM,aO,bA,aN,aA,ae,cM];refine hK _ (bT ⟨t++[row],⟨by simp[ht.1],fun z hz=>?_⟩,by simp[fo,JW,av]⟩);rcases J3.mp hz with h|h
     · exact ht.2 z h
     · simp at h;subst h;exact⟨hl,hx⟩
 · rintro ρ ⟨t,ht,rfl⟩;simp_arith only[ah,ac,bw,bx,aM,aO,bA,aN,aA,ae];exact aQ (hQ t ht)
def G_(xs ys:List Int):Int:=((xs.zip ys).map fun z=>z.1*z.2).sum
def Ht(p:Int)(t:List (List Int))(fs:List Int):List Int:=t.map fun row=>(G_ row fs).fmod p
theorem gM(xs ys:List Int):ie (xs.map Jt) (ys.map Jt)=(xs.zip ys).map fun z=>JM [.int z.1,.int z.2]:=by
 induction xs generalizing ys with
 | nil=>rfl
 | cons x xs ih=>cases ys with
   | nil=>rfl
   | cons y ys=>rw[Ji,Ji,LQ,Ji];show _::ie _ _=_;rw[ih]
def sT(xs:List Int):Prop:=xs.length<=8/\∀x∈xs,0<=x/\x<10
theorem gS(xs:List Int):eh (av xs)=some (xs.map .int):=rfl
theorem cq(xs:List Int):tupD (av xs)=some (xs.map .int):=rfl
def FE(k:Bool)(t:List (List Int)):IQ:=bif k then .tuple (t.map av)else .list (t.map av)
def HB(p:Int)(t:List (List Int)):Prop:=t.length<=8/\∀row∈t,sT row
theorem Bt{k k':Bool}{a b:List (List Int)}:FE k a=FE k' b↔k=k'/\a=b:=by
 have h:a.map av=b.map av↔a=b:=List.map_inj_right fun x y h=>kA.mp h;cases k<;>cases k'
 · show MJ _=MJ _↔_;rw[OA,h];simp
 · show MJ _=JM _↔_;simp
 · show JM _=MJ _↔_;simp
 · show JM _=JM _↔_;rw[LO,h];simp
theorem qL{a b:List (List Int)}:tbD a=tbD b↔a=b:=by
 have:=Bt (k:=true) (k':=true) (a:=a) (b:=b);show FE true a=FE true b↔_;simpa using this
theorem oN{c:Prop}[Decidable c]{x:α}{k:α->Mo β}{Q:β->Prop}(h:c)(q:k x Q):aD (if c then some x else none) k Q:=by rw[if_pos h];exact q
theorem jv(t:List (List Int)):tupD (tbD t)=some (t.map av):=rfl
theorem sC(xs ys:List Int):∀s:Int,(xs.zip ys).foldl (fun s z=>s+z.1*z.2) s=s+G_ xs ys:=by
 unfold G_;generalize xs.zip ys=l
 induction l with
 | nil=>intro s;simp
 | cons z l ih=>intro s;rw[LA,ih,Ji,Kc];omega
theorem df(l:List α)(f:α->Int):l.map (fun z=>Jt (f z))=(l.map f).map .int:=by rw[Kf];rfl
theorem kX(l:List α)(f:α->List Int):l.map (fun z=>av (f z))=(l.map f).map av:=by rw[Kf];rfl
theorem pe(xs:List Int)(i:Int):VL.itemAt (av xs) i=(atI xs i).map .int:=d6 _ _ _
theorem jJ(t:List (List Int))(i:Int):VL.itemAt (tbD t) i=(atI t i).map av:=d6 _ _ _
theorem o7(xs:List Int):tZ (av xs)=some xs.length:=by show some (xs.map Jt).length=_;rw[I_]
theorem jH(t:List (List Int)):tZ (tbD t)=some t.length:=by show some (t.map av).length=_;rw[I_]
def bK:List W->(IQ->Prop)->Prop:=fun ws Q=>∃(p:Int)(xs ys:List Int),ws=[.d (.int p),.d (av xs),.d (av ys)]/\((2<=p)/\(sT xs)/\(sT ys))/\Q (.int ((G_ xs ys).fmod p))
theorem bK.mono:∀ws (Q Q':IQ->Prop),(∀d,Q d->Q' d)->bK ws Q->bK ws Q':=fun _ _ _ h_ ⟨p,xs,ys,e_,p_,q_⟩=>⟨p,xs,ys,e_,p_,h_ _ q_⟩
theorem bK.len:∀ws (Q:IQ->Prop),bK ws Q->ws.length=3:=fun _ _ ⟨_,_,_,e_,_⟩=>by subst e_;rfl
theorem bK.eq(p:Int)(xs ys:List Int)(p2:2<=p)(hx:sT xs)(hy:sT ys):bK [.d (.int p),.d (av xs),.d (av ys)]=VL.ret (.int ((G_ xs ys).fmod p):IQ):=by
 refine af fun Q=>⟨?_,fun q_=>⟨p,xs,ys,rfl,⟨p2,hx,hy⟩,q_⟩⟩;rintro⟨p',xs',ys',e_,_,q_⟩;simp_arith only[and_true]at e_;obtain⟨rfl,rfl,rfl⟩:=e_;exact q_
theorem jy:FnScope ["_law_p", "_law_one", "_law_other", "_law_found", "_law_a", "_law_b"] ["_law_p", "_law_one", "_law_other"] (defScope (top 26)):=⟨rfl,rfl,rfl,by decide +kernel,rfl,by decide +kernel,by decide +kernel⟩
theorem d__law_sum(Fn:FnIn K mg "_law_sum" (top 26) ["_law_p", "_law_one", "_law_other"])(Z:Bz mg)    : Dfn P w K mg base rl "_law_sum" ["_law_p", "_law_one", "_law_other"] 1 bK:=by
 have sc:=jy
 refine Dfn.of Fn sc (bK.mono) (bK.len) (fun cdv A outer s H E hr=>(aj (az 3 sc.nd aq)
  (aj (ba [4,5] JL rfl (eK Z.zip_ (aa (vn 1) (aa (vn 2) ab))) (d_ (n:=2) rfl (aX (ar 4 sc.nd) (aX (ar 5 sc.nd) cP))) (aw (az 3 sc.nd (v_add (vn 3) (v_mul (vn 4) (vn 5))))))
  (aw (aK (v_mod (vn 3) (vn 0))))))) ?_
 rintro ws Q ⟨p,xs,ys,rfl,⟨p2,hx,hy⟩,hQ⟩;refine aL ?_;have sz:=Js;have p0:p≠0:=by omega
 simp_arith only[ah,ac,gS,cq];refine FR (oN (by exact⟨rfl,rfl⟩) ?_);rw[gM];refine jP (xs:=xs.zip ys) (enc:=fun z=>JM [.int z.1,.int z.2]) (fun s=>[some (.d (.int p)),some (.d (av xs)),some (.d (av ys)),some (.d (.int s)),none,none]) (fun s z=>s+z.1*z.2) 0 (fun _=>True) rfl rfl trivial ?_ ?_
 · rintro⟨a,b⟩ mz s _;have ha:=hx.2 a (K8 mz).1;have cm:bR a b:=.lt (by omega);refine⟨trivial,[some (.d (.int p)),some (.d (av xs)),some (.d (av ys)),some (.d (.int (s+a*b))),some (.d (.int a)),some (.d (.int b))],?_,rfl⟩;simp_arith only[ah,ac]
 · simp_arith only[ah,ac,sC,L4];exact aQ hQ
theorem lI.t8{p:Int}{r c:Nat}{t:List (List Int)}(h:lI p r c t)(p7:p<=7)(r8:r<=8)(c8:c<=8):HB p t:=⟨by rw[h.1];exact r8,fun row mr=>⟨by rw[(h.2 row mr).1];exact c8,fun x mx=>by have:=(h.2 row mr).2 x mx;omega⟩⟩
theorem pJ(xs:List IQ)(l u:Option Int):(VL.cutD xs l u).length<=xs.length:=by unfold VL.cutD;rw[JB,KJ];omega
def S(n:Nat)(f:Nat->Int):Int:=((Jm n).map f).sum
theorem Cw{xs:List Int}(h1:xs.length=n)(h2:ys.length=n):G_ xs ys=S n fun k=>xs.getD k 0*ys.getD k 0:=by
 unfold G_ S;congr 1;refine Ny (by simp[h1,h2]) fun k a b=>?_;have k1:k<xs.length:=by simp at a;omega
 have k2:k<ys.length:=by simp at a;omega
 simp[Jf,Jd k1,Jd k2]
theorem Bn(ρ:En):Ft (.nx ρ)=VL.ret (.nx (nR ρ)):=rfl
theorem Bm(x:IQ):Ft (.rt (.d x))=VL.ret (.rt (.d x)):=af fun Q=>⟨fun⟨_,h⟩=>h,fun h=>⟨rfl,h⟩⟩
theorem AS.eq{ns:List Int}{k:Int}(h:ns.length<=63)(k0:0<=k)(k1:k<1000):AS [.sc ns,.d (.int k)]=True:=eq_true ⟨ns,k,rfl,h,k0,k1⟩
def aZ:List W->(IQ->Prop)->Prop:=fun ws Q=>∃(b k:Int),ws=[.d (.int b),.d (.int k)]/\((2<=b)/\(b<=16)/\(0<=k)/\(k<=4000))/\Q (.int (b^k.toNat))
theorem aZ.mono:∀ws (Q Q':IQ->Prop),(∀d,Q d->Q' d)->aZ ws Q->aZ ws Q':=fun _ _ _ h_ ⟨b,k,e_,p_,q_⟩=>⟨b,k,e_,p_,h_ _ q_⟩
theorem aZ.len:∀ws (Q:IQ->Prop),aZ ws Q->ws.length=2:=fun _ _ ⟨_,_,e_,_⟩=>by subst e_;rfl
theorem aZ.eq(b k:Int)(h2:2<=b)(h16:b<=16)(h0:0<=k)(hk:k<=4000):aZ [.d (.int b),.d (.int k)]=VL.ret (.int (b^k.toNat):IQ):=by
 refine af fun Q=>⟨?_,fun q_=>⟨b,k,rfl,⟨h2,h16,h0,hk⟩,q_⟩⟩;rintro⟨b',k',e_,_,q_⟩;simp_arith only[and_true]at e_;obtain⟨rfl,rfl⟩:=e_;exact q_
theorem gU:FnScope ["_law_p", "_law_many", "_law_found", "_law_k"] ["_law_p", "_law_many"] (defScope (top 21)):=⟨rfl,rfl,rfl,by decide +kernel,rfl,by decide +kernel,by decide +kernel⟩
theorem d__law_power(Fn:FnIn K mg "_law_power" (top 21) ["_law_p", "_law_many"])(Z:Bz mg)    : Dfn P w K mg base rl "_law_power" ["_law_p", "_law_many"] 1 aZ:=by
 have sc:=gU
 refine Dfn.of Fn sc (aZ.mono) (aZ.len) (fun cdv A outer s H E hr=>(aj (az 2 sc.nd aq)
  (aj (ba [3] JL rfl (aH Z.range_ (aa (vn 1) ab)) (ar 3 sc.nd) (aw (az 2 sc.nd (v_mul (vn 2) (vn 0)))))
  (aw (aK (vn 2)))))) ?_
 rintro ws Q ⟨b,k,rfl,⟨h2,h16,h0,hk⟩,hQ⟩;refine aL ?_;simp_arith only[ah,ac];refine sD (fun i=>[some (.d (.int b)),some (.d (.int k)),some (.d (.int (b^i))),none]) (by rw[Pi]) ?_ ?_
 · intro i hi;have c:bR (b^i) b:=.rt (by omega);refine⟨_,by(simp_arith only[ah,ac])<;>rfl,?_⟩;simp_arith only[ac,Lw]
 · simp_arith only[ac];exact aQ hQ
def FP(p:Int):Int:=if p=2 then 5 else if p=3 then 3 else if p=5 then 2 else 1
theorem yE{p:Int}(h:p=2\/p=3\/p=5\/p=7):1<=FP p/\FP p<=5:=by rcases h with rfl|rfl|rfl|rfl<;>decide
def Pm(p m:Int):Prop:=(p=2\/p=3\/p=5\/p=7)/\1<=m/\m<=FP p
theorem u9(xs:List Int):eh (l_ xs)=some (xs.map .int):=rfl
theorem Au(xs:List Int):Ho (.d (av xs))=some (xs.map .int):=rfl
def aV:List W->(IQ->Prop)->Prop:=fun ws Q=>∃(p:Int)(t:List (List Int))(fs:List Int),ws=[.d (.int p),.d (tbD t),.d (av fs)]/\((2<=p)/\(HB p t)/\(sT fs))/\Q (av (Ht p t fs))
theorem aV.mono:∀ws (Q Q':IQ->Prop),(∀d,Q d->Q' d)->aV ws Q->aV ws Q':=fun _ _ _ h_ ⟨p,t,fs,e_,p_,q_⟩=>⟨p,t,fs,e_,p_,h_ _ q_⟩
theorem aV.len:∀ws (Q:IQ->Prop),aV ws Q->ws.length=3:=fun _ _ ⟨_,_,_,e_,_⟩=>by subst e_;rfl
theorem aV.eq(p:Int)(t:List (List Int))(fs:List Int)(p2:2<=p)(ht:HB p t)(hf:sT fs):aV [.d (.int p),.d (tbD t),.d (av fs)]=VL.ret (av (Ht p t fs):IQ):=by
 refine af fun Q=>⟨?_,fun q_=>⟨p,t,fs,rfl,⟨p2,ht,hf⟩,q_⟩⟩;rintro⟨p',t',fs',e_,_,q_⟩;simp_arith only[qL]at e_;obtain⟨rfl,rfl,rfl⟩:=e_;exact q_
theorem fq:FnScope ["_law_p", "_law_table", "_law_figures"] ["_law_p", "_law_table", "_law_figures"] (defScope (top 27)):=⟨rfl,rfl,rfl,by decide +kernel,rfl,by decide +kernel,by decide +kernel⟩
theorem d__law_applied(Fn:FnIn K mg "_law_applied" (top 27) ["_law_p", "_law_table", "_law_figures"])(Z:Bz mg)(d__law_sum:∀rl,Dfn P w K mg base rl "_law_sum" ["_law_p", "_law_one", "_law_other"] 1 bK)   : Dfn P w K mg base rl "_law_applied" ["_law_p", "_law_table", "_law_figures"] 2 aV:=by
 have sc:=fq;refine Dfn.of Fn sc (aV.mono) (aV.len) (fun cdv A outer s H E hr=>(aw (aK (bC Z.tuple_ (aa (bv ["_law_row", "_law_p", "_law_figures"] [none,some 0,some 2] rfl (kd (vn 1)) (fun _=>(ar 0 (show KN (["_law_row", "_law_p", "_law_figures"]:List Str) by decide +kernel))) (fun _=>cf) (fun _=>(bo (d__law_sum _) (hr.mono (by decide)) (aa (vn 1) (aa (vn 0) (aa (vn 2) ab)))))) ab))))) ?_;rintro ws Q ⟨p,t,fs,rfl,⟨p2,ht,hf⟩,hQ⟩;refine aL ?_;have sz:=Js;have t8:=ht.1;simp_arith only[ah,ac,jv];refine fR (xs:=t) (enc:=av) (fun row=>.int ((G_ row fs).fmod p)) rfl ?_ (by omega) ?_
 · intro row mr;have hr:=ht.2 row mr;simp_arith only[ah,ac,GM,bK.eq]
 · rw[df];simp_arith only[ah,ac,cM];exact aQ hQ
theorem wA(xs:List Int)(i:Int):VL.itemAt (l_ xs) i=(atI xs i).map .int:=d6 _ _ _
def bi:List W->(IQ->Prop)->Prop:=fun ws Q=>∃(m:Int),ws=[.d (.int m)]/\((1<=m)/\(m<=5))/\Q (tbD ((Jm m.toNat).map fun i:Nat=>(Jm m.toNat).map fun k:Nat=>if(i:Int)+k=m-1 then(1:Int)else 0))
theorem bi.mono:∀ws (Q Q':IQ->Prop),(∀d,Q d->Q' d)->bi ws Q->bi ws Q':=fun _ _ _ h_ ⟨m,e_,p_,q_⟩=>⟨m,e_,p_,h_ _ q_⟩
theorem bi.len:∀ws (Q:IQ->Prop),bi ws Q->ws.length=1:=fun _ _ ⟨_,e_,_⟩=>by subst e_;rfl
theorem bi.eq(m:Int)(m1:1<=m)(m5:m<=5):bi [.d (.int m)]=VL.ret (tbD ((Jm m.toNat).map fun i:Nat=>(Jm m.toNat).map fun k:Nat=>if(i:Int)+k=m-1 then(1:Int)else 0):IQ):=by
 refine af fun Q=>⟨?_,fun q_=>⟨m,rfl,⟨m1,m5⟩,q_⟩⟩;rintro⟨m',e_,_,q_⟩;simp_arith only[and_true]at e_;obtain rfl:=e_;exact q_
theorem ga:FnScope ["_law_m"] ["_law_m"] (defScope (top 24)):=⟨rfl,rfl,rfl,by decide +kernel,rfl,by decide +kernel,by decide +kernel⟩
theorem d__law_mirror(Fn:FnIn K mg "_law_mirror" (top 24) ["_law_m"])(Z:Bz mg)    : Dfn P w K mg base rl "_law_mirror" ["_law_m"] 1 bi:=by
 have sc:=ga;refine Dfn.of Fn sc (bi.mono) (bi.len) (fun cdv A outer s H E hr=>(aw (aK (bC Z.tuple_ (aa (bv ["_law_i", "_law_m"] [none,some 0] rfl (aH Z.range_ (aa (vn 0) ab)) (fun _=>(ar 0 (show KN (["_law_i", "_law_m"]:List Str) by decide +kernel))) (fun _=>cf) (fun _=>(bC Z.tuple_ (aa (bv ["_law_k", "_law_i", "_law_m"] [none,some 0,some 1] rfl (aH Z.range_ (aa (vn 1) ab)) (fun _=>(ar 0 (show KN (["_law_k", "_law_i", "_law_m"]:List Str) by decide +kernel))) (fun _=>cf) (fun _=>(s_ Z.int_ (aa (m7 (dh hr.units) cj (bp _) (v_add (vn 1) (vn 0)) (v_sub (vn 2) aq)) ab)))) ab)))) ab))))) ?_;rintro ws Q ⟨m,rfl,⟨m1,m5⟩,hQ⟩;refine aL ?_;have sz:=Js;have g1 : -(2^62)<=m/\m<2^62:=by omega
 simp_arith only[ah,ac];refine eV (fun i=>av ((Jm m.toNat).map fun k:Nat=>if(i:Int)+k=m-1 then(1:Int)else 0)) ?_ (by omega) ?_
 · intro i hi;simp_arith only[ah,ac,GM];rw[i4 (fun k=>.int (if(i:Int)+k=m-1 then(1:Int)else 0)) ?_ (by omega),bnd_ret,df]
   · try simp_arith only[ah,ac,cM]
   · intro k hk;simp_arith only[ah,ac,GM];have e:(0+(i:Int)+(0+(k:Int))==m-1)=decide ((i:Int)+k=m-1):=by rw[Lz,beq_iff_eq,decide_eq_true_iff];omega
     rw[e];simp only[decide_eq_true_eq]
 · rw[kX]
   try simp_arith only[ah,ac]
   exact aQ hQ
def aJ:List W->(IQ->Prop)->Prop:=fun ws Q=>∃(p m j:Int),ws=[.d (.int p),.d (.int m),.d (.int j)]/\((2<=p)/\(p<=7)/\(1<=m)/\(m<=5)/\(0<=j)/\(j<=7))/\∀t:List (List Int),(lI p m.toNat m.toNat t)->Q (tbD t)
theorem aJ.mono:∀ws (Q Q':IQ->Prop),(∀d,Q d->Q' d)->aJ ws Q->aJ ws Q':=fun _ _ _ h_ ⟨p,m,j,e_,p_,q_⟩=>⟨p,m,j,e_,p_,fun o_ ho_=>h_ _ (q_ o_ ho_)⟩
theorem aJ.len:∀ws (Q:IQ->Prop),aJ ws Q->ws.length=3:=fun _ _ ⟨_,_,_,e_,_⟩=>by subst e_;rfl
theorem aJ.eq(p m j:Int)(p2:2<=p)(p7:p<=7)(m1:1<=m)(m5:m<=5)(j0:0<=j)(j7:j<=7):aJ [.d (.int p),.d (.int m),.d (.int j)]=Hj (anyM fun t:List (List Int)=>lI p m.toNat m.toNat t) fun t=>VL.ret (tbD t:IQ):=by
 refine af fun Q=>⟨?_,fun q_=>⟨p,m,j,rfl,⟨p2,p7,m1,m5,j0,j7⟩,q_⟩⟩;rintro⟨p',m',j',e_,_,q_⟩;simp_arith only[and_true]at e_;obtain⟨rfl,rfl,rfl⟩:=e_;exact q_
theorem dU:FnScope ["_law_p", "_law_m", "_law_j", "_law_found", "_law_i", "_law_row", "_law_k", "_law_above"] ["_law_p", "_law_m", "_law_j"] (defScope (top 23)):=⟨rfl,rfl,rfl,by decide +kernel,rfl,by decide +kernel,by decide +kernel⟩
theorem d__law_sum_table(Fn:FnIn K mg "_law_sum_table" (top 23) ["_law_p", "_law_m", "_law_j"])(Z:Bz mg)    : Dfn P w K mg base rl "_law_sum_table" ["_law_p", "_law_m", "_law_j"] 1 aJ:=by
 have sc:=dU
 refine Dfn.of Fn sc (aJ.mono) (aJ.len) (fun cdv A outer s H E hr=>(aj (bS 3 sc.nd (cQ ab))
  (aj (ba [4,5,6,7] JL rfl (aH Z.range_ (aa (vn 1) ab)) (ar 4 sc.nd) (aj (bS 5 sc.nd (cQ (aa (s_ Z.int_ (aa (m7 (dh hr.units) cj (bp _) (vn 4) aq) ab)) ab)))
  (aj (ba [6,7] JL rfl (ik Z.range_ (aa aq (aa (vn 1) ab))) (ar 6 sc.nd) (aj (az 7 sc.nd (jr (bF lW lJ (bp _) (vn 4) aq) (lL (lL (vn 3) (v_sub (vn 4) aq)) (v_sub (vn 6) aq)) aq))
  (aw (d9 5 (aa (v_mod (v_add (vn 7) (v_mul (vn 2) (lL (vn 5) (v_sub (vn 6) aq)))) (vn 0)) ab)))))
  (aw (ka 5 (d9 3 (aa (vn 5) ab)))))))
  (aw (ka 3 (aK (bC Z.tuple_ (aa (bv ["_law_row"] [none] rfl (di (vn 3)) (fun _=>(ar 0 (show KN (["_law_row"]:List Str) by decide +kernel))) (fun _=>cf) (fun _=>(bC Z.tuple_ (aa (vn 0) ab)))) ab)))))))) ?_
 rintro ws Q ⟨p,m,j,rfl,⟨p2,p7,m1,m5,j0,j7⟩,hQ⟩;refine aL ?_;have sz:=Js;have g1 : -(2^62)<=m/\m<2^62:=by omega
 simp_arith only[ah,ac];refine cH (fun i ρ=>∃t:List (List Int),lI p i m.toNat t/\ρ=[some (.d (.int p)),some (.d (.int m)),some (.d (.int j)),some (.ml (t.map l_)),none,none,none,none]) ⟨[],⟨rfl,by simp⟩,rfl⟩ ?_ ?_
 · rintro i hi ρ ⟨t,ht,rfl⟩ K hK;simp_arith only[ah,ac];have cm:∀x,bR j x:=fun x=>.lt (by omega);have p0:p≠0:=by omega
   have tl:=ht.1;have b0:0<=(if(0+(i:Int)==0)=true then(1:Int)else 0)/\(if(0+(i:Int)==0)=true then(1:Int)else 0)<p:=by split<;>omega
   generalize (if(0+(i:Int)==0)=true then(1:Int)else 0)=x0 at b0 ⊢;refine cH (fun n ρ=>∃row:List Int,(row.length=n+1/\∀x∈row,0<=x/\x<p)/\ρ=[some (.d (.int p)),some (.d (.int m)),some (.d (.int j)),some (.ml (t.map l_)),some (.d (.int (0+(i:Int)))),some (.ml (row.map .int)),none,none]) ⟨[x0],⟨rfl,by intro x mx;cases La.mp mx;exact b0⟩,rfl⟩ ?_ ?_
   · rintro n hn ρ ⟨row,⟨hl,hx⟩,rfl⟩ K2 hK2
     have a2:atI (row.map Jt) (1+(n:Int)-1)=some (.int (row[n]'(by omega))):=by
      rw[show 1+(n:Int)-1=(n:Int) by omega];exact cK (by rw[JY,Jd (by omega)];rfl)
     have rl:row.length<sizeLine:=by omega
     have fin:∀u y z:Int,0<=z/\z<p->K2 (Fl.nx [some (.d (.int p)),some (.d (.int m)),some (.d (.int j)),some (.ml (t.map l_)),some (.d (.int (0+(i:Int)))),some (.ml (row.map Jt++[Jt z])),some (.d (.int u)),some (.d (.int y))]):=fun u y z hz =>
      hK2 _ (bT ⟨row++[z],⟨by simp[hl],fun w hw=>by rcases J3.mp hw with h|h;exact hx w h;simp at h;rw[h];exact hz⟩,by simp[fo,JW]⟩)
     have fz:∀w:Int,0<=w.fmod p/\w.fmod p<p:=fun w=>⟨Ml _ (by omega),M9 _ (by omega)⟩;by_cases i0:i=0
     · have d0:decide ((0:Int)<0+(i:Int))=false:=by simp;omega
       simp_arith only[ah,ac,d0,a2];exact bB (cm _) (fin _ _ _ (fz _))
     · have d0:decide ((0:Int)<0+(i:Int))=true:=by simp;omega
       have it:i-1<t.length:=by omega
       have t0:=ht.2 _ (JP it)
       have a1:atI (t.map l_) (0+(i:Int)-1)=some (l_ (t[i-1]'it)):=by
        rw[show 0+(i:Int)-1=((i-1:Nat):Int) by omega];exact cK (by rw[JY,Jd it];rfl)
       have a3:VL.itemAt (l_ (t[i-1]'it)) (1+(n:Int)-1)=some (.int ((t[i-1]'it)[n]'(by have:=t0.1;omega))):=by
        rw[wA,show 1+(n:Int)-1=(n:Int) by omega,cK (Jd (by have:=t0.1;omega))];rfl
       simp_arith only[ah,ac,d0,a1,a2,a3];exact bB (cm _) (fin _ _ _ (fz _))
   · rintro ρ ⟨row,⟨hl,hx⟩,rfl⟩;have tz:t.length<sizeLine:=by omega
     simp_arith only[ah,ac];refine hK _ (bT ⟨t++[row],⟨by simp[tl],fun z hz=>?_⟩,by simp[fo,JW,l_]⟩);rcases J3.mp hz with h|h
     · exact ht.2 z h
     · simp at h;subst h;exact⟨by omega,hx⟩
 · rintro ρ ⟨t,ht,rfl⟩;have tl:=ht.1;simp_arith only[ah,ac];refine fR (xs:=t) (enc:=l_) av rfl ?_ (by omega) ?_
   · intro row mr;have:=(ht.2 row mr).1;simp_arith only[ah,ac,GM,u9,cM]
   · try simp_arith only[ah,ac]
     exact aQ (hQ t ht)
theorem pI(xs:List α)(f:α->IQ){k:Int}(h:0<=k):VL.cutD (xs.map f) none (some k)=(xs.take k.toNat).map f:=by
 unfold VL.cutD;rw[HT.sIx_none,fA h,Og,I_,Oa,<- M_];congr 1;by_cases z:k.toNat<=xs.length
 · rw[Mt z]
 · rw[Mf (by omega),JQ (by omega),JQ (by omega)]
theorem lv(xs:List α)(f:α->IQ){k:Int}(h:0<=k):VL.cutD (xs.map f) (some k) none=(xs.drop k.toNat).map f:=by
 unfold VL.cutD;rw[HT.sIx_none,fA h,I_,<- List.map_drop,<- M_];congr 1;by_cases z:k.toNat<=xs.length
 · rw[Mt z,JQ (by rw[KJ];omega)]
 · rw[Mf (by omega),Ld (by omega),Ld (by omega)];simp
theorem n6{il ih:Nat}{Q:Fl->Prop}:mS (tq n il ih fi) ρ Q=(fi ρ fun xs=>xs.length<=n/\∃ys:List IQ,ρ[il]?=some (some (.ml ys))/\ρ[ih]?=some (some .reel)/\xs.length<=ys.length/\ys.length<1000/\∀os:List IQ,os.length=xs.length->(∀o∈os,o∈ys)->Q (.rt (.d (.tuple os)))):=rfl
def tbsD(ts:List (List (List Int))):IQ:=.tuple (ts.map tbD)
def jn(p:Int)(m:Nat)(ts:List (List (List Int))):Prop:=1<=ts.length/\ts.length<=4/\∀t∈ts,lI p m m t
def be:List W->(IQ->Prop)->Prop:=fun ws Q=>∃(p m:Int),ws=[.reel,.d (.int p),.d (.int m)]/\((Pm p m))/\∀ts:List (List (List Int)),(jn p m.toNat ts)->Q (tbsD ts)
theorem be.mono:∀ws (Q Q':IQ->Prop),(∀d,Q d->Q' d)->be ws Q->be ws Q':=fun _ _ _ h_ ⟨p,m,e_,p_,q_⟩=>⟨p,m,e_,p_,fun o_ ho_=>h_ _ (q_ o_ ho_)⟩
theorem be.len:∀ws (Q:IQ->Prop),be ws Q->ws.length=3:=fun _ _ ⟨_,_,e_,_⟩=>by subst e_;rfl
theorem be.eq(p m:Int)(pm:Pm p m):be [.reel,.d (.int p),.d (.int m)]=Hj (anyM fun ts:List (List (List Int))=>jn p m.toNat ts) fun ts=>VL.ret (tbsD ts:IQ):=by
 refine af fun Q=>⟨?_,fun q_=>⟨p,m,rfl,pm,q_⟩⟩;rintro⟨p',m',e_,_,q_⟩;simp_arith only[and_true]at e_;obtain⟨rfl,rfl⟩:=e_;exact q_
theorem fY:FnScope ["_law_tape_here", "_law_p", "_law_m", "_law_way", "_law_s", "_law_found", "_law_j", "_law_i", "_law_k", "_law_row", "_law_left"] ["_law_tape_here", "_law_p", "_law_m"] (defScope (top 25)):=⟨rfl,rfl,rfl,by decide +kernel,rfl,by decide +kernel,by decide +kernel⟩
theorem d__law_tables(Fn:FnIn K mg "_law_tables" (top 25) ["_law_tape_here", "_law_p", "_law_m"])(Z:Bz mg)(d__law_pick:∀al,DfnC P w K mg base al 1 "_law_pick" ["_law_tape_here", "_law_many"] 1 bh)(d__law_sum_table:∀rl,Dfn P w K mg base rl "_law_sum_table" ["_law_p", "_law_m", "_law_j"] 1 aJ)(d__law_any:∀al,DfnC P w K mg base al 8193 "_law_any" ["_law_tape_here", "_law_p", "_law_rows", "_law_columns"] 2 bL)(d__law_mirror:∀rl,Dfn P w K mg base rl "_law_mirror" ["_law_m"] 1 bi)   : DfnC P w K mg base al 524422 "_law_tables" ["_law_tape_here", "_law_p", "_law_m"] 3 be:=by
 have sc:=fY
 refine DfnC.of Fn sc (be.mono) (be.len) (fun cdv A outer s H E hr=>(aF (cV 3 sc.nd (cp (d__law_pick _) (hr.mono (by decide)) (au (cv fun _=>(vn 0)) (au (cv fun _=>aq) br))))
  (aF (cV 4 sc.nd (Ap (cv fun _=>aq) (cp (d__law_pick _) (hr.mono (by decide)) (au (cv fun _=>(vn 0)) (au (cv fun _=>aq) br)))))
  (aF (Aj (cb fun _=>(bF (dh hr.units) cj (bp _) (vn 3) aq)) (dJ (ua (w_ Z.tuple_ (au (xa 64 ["_law_j", "_law_tape_here", "_law_p", "_law_m"] [none,some 0,some 1,some 2] rfl (ci fun _=>(aH Z.range_ (aa (vn 4) ab))) (fun _ _=>(ar 0 (show KN (["_law_j", "_law_tape_here", "_law_p", "_law_m"]:List Str) by decide +kernel))) (fun _=>Ah) (fun _=>(cp (d__law_any _) (hr.mono (by decide)) (au (cv fun _=>(vn 1)) (au (cv fun _=>(vn 2)) (au (cv fun _=>(vn 3)) (au (cv fun _=>(vn 3)) br))))))) br)))) ub)
  (aF (cs fun _=>(jo 5 sc.nd ["_law_j", "_law_p", "_law_m"] [none,some 1,some 2] rfl (aH Z.range_ (aa (yb Z.min_ (aa (vn 4) (aa (vn 1) ab))) ab)) (fun _=>(ar 0 (show KN (["_law_j", "_law_p", "_law_m"]:List Str) by decide +kernel))) (fun _=>cf) (fun _=>(bo (d__law_sum_table _) (hr.mono (by decide)) (aa (vn 1) (aa (vn 2) (aa (vn 0) ab)))))))
  (aF (cs fun _=>(eW (Ia.pb (x8 (bF lW lJ (bp _) (vn 3) aq) (uH (bF BS A8 (bp _) (eG Z.len_ (aa (vn 5) ab)) aq)))) (aw (bS 5 sc.nd (tj (cQ (aa (bo (d__law_mirror _) (hr.mono (by decide)) (aa (vn 2) ab)) ab)) (vn 5)))) cL))
  (aF (Aj (cb fun _=>(bF (dh hr.units) cj (bp _) (v_mod (vn 3) aq) aq)) (aF (cV 6 sc.nd (cp (d__law_pick _) (hr.mono (by decide)) (au (cv fun _=>(vn 0)) (au (cv fun _=>(eG Z.len_ (aa (vn 5) ab))) br))))
  (aF (cV 7 sc.nd (cp (d__law_pick _) (hr.mono (by decide)) (au (cv fun _=>(vn 0)) (au (cv fun _=>(vn 2)) br))))
  (aF (cV 8 sc.nd (cp (d__law_pick _) (hr.mono (by decide)) (au (cv fun _=>(vn 0)) (au (cv fun _=>(vn 2)) br))))
  (aF (cs fun _=>(bS 9 sc.nd (kj Z.list_ (aa (lL (lL (vn 5) (vn 6)) (vn 7)) ab))))
  (aF (wY 9 (cv fun _=>(vn 8)) (cp (d__law_pick _) (hr.mono (by decide)) (au (cv fun _=>(vn 0)) (au (cv fun _=>(vn 1)) br))))
  (dJ (cs fun _=>(uv 5 (vn 6) (io (io (lK (lL (vn 5) (vn 6)) cA (cz (vn 7))) (fW (aa (bC Z.tuple_ (aa (vn 9) ab)) ab))) (lK (lL (vn 5) (vn 6)) (cz (v_add (vn 7) aq)) cA)))))))))) ub)
  (aF (cs fun _=>(bS 10 sc.nd (kj Z.list_ (aa (vn 5) ab))))
  (dJ (mE 64 10 0 rfl (d__law_pick _) (fun m Q h1 h2 h3=>⟨m,rfl,⟨h1,h2⟩,fun j hj=>h3 j hj.1 hj.2⟩) (hr.mono (by decide)) Z.len_ Z.tuple_ (ci fun _=>(aH Z.range_ (aa (eG Z.len_ (aa (vn 5) ab)) ab))) (show KN (["_law_j", "_law_left", "_law_tape_here"]:List Str) by decide +kernel) (fun z=>hG (show KN (["_law_j", "_law_left", "_law_tape_here"]:List Str) by decide +kernel) rfl (.inl rfl))
  (fun z _ pa _ _ _ F hm hk hb=>rA Mc PySem.F.slot_list_pop PySem.F.type_list_pop rH (bI (i:=1) rfl (by first|exact KH rfl|exact J8 (KH rfl)|exact J8 (J8 rfl))) (dk (fD F (hr.mono (by decide)) rfl hm hk hb .nil oK pa) iK))
  (fun z=>dk (bI (i:=2) rfl (by first|exact KH rfl|exact J8 (KH rfl)|exact J8 (J8 rfl))) (dk (kO cW rfl Z.len_ rfl (dk (bI (i:=1) rfl (by first|exact KH rfl|exact J8 (KH rfl)|exact J8 (J8 rfl))) iK)) iK)))))))))))) (by decide) ?_
 rintro ws Q ⟨p,m,rfl,pm,hQ⟩;refine aL ?_;have sz:=Js;obtain⟨hp,m1,ms⟩:=pm;have s5:=(yE hp).2;have p2:2<=p:=by omega
 have p7:p<=7:=by omega
 have m5:m<=5:=by omega
 have m8:m<=8:=by omega
 simp_arith only[ah,ac,bw,bx,aM,aO,bA,aN,aA,ae,bh.eq]
 (with_reducible (first|refine ax fun w hw=>?_|refine aI fun w hw=>?_))
 try simp_arith only[ah,ac,bw,bx,aM,aO,bA,aN,aA,ae,bh.eq]
 (with_reducible (first|refine ax fun s0 hs0=>?_|refine aI fun s0 hs0=>?_))
 try simp_arith only[ah,ac,bw,bx,aM,aO,bA,aN,aA,ae,bh.eq]
 refine dG (fun _=>?_) fun _=>?_
 · refine FS (lD (fun d=>∃t,lI p m.toNat m.toNat t/\d=tbD t) ?_ (by omega) ?_)
   · intro j hj K2 hK2;simp_arith only[ah,ac,GM,bL.eq]
     (with_reducible (first|refine ax fun t ht=>?_|refine aI fun t ht=>?_))
     exact hK2 _ ⟨t,ht,rfl⟩
   · intro ds hl hds;obtain⟨ts,rfl,tl,ht⟩:=dI hds;simp_arith only[ah,ac];exact aQ (hQ ts ⟨by omega,by omega,ht⟩)
 · refine FS (lD (fun d=>∃t,lI p m.toNat m.toNat t/\d=tbD t) ?_ (by omega) ?_)
   · intro j hj K2 hK2;simp_arith only[ah,ac,GM,aJ.eq]
     (with_reducible (first|refine ax fun t ht=>?_|refine aI fun t ht=>?_))
     exact hK2 _ ⟨t,ht,rfl⟩
   · intro ds hl hds;obtain⟨ts,rfl,tl,ht⟩:=dI hds;have tn:1<=ts.length/\ts.length<=4:=by omega
     clear tl hl hds;simp_arith only[ah,ac,bw,bx,aM,aO,bA,aN,aA,ae,bi.eq]
     obtain⟨us,eu,hu⟩:∃us:List (List (List Int)),(if(decide (2<w)&&decide ((ts.length:Int)<4))=true then W.ml (tbD ((Jm m.toNat).map fun i:Nat=>(Jm m.toNat).map fun k:Nat=>if(i:Int)+k=m-1 then(1:Int)else 0)::ts.map tbD)else W.ml (ts.map tbD))=W.ml (us.map tbD)/\jn p m.toNat us:=by
      split
      · rename_i h;refine⟨_::ts,rfl,by simp,by simp at h ⊢;omega,fun t mt=>?_⟩;rcases JA.mp mt with rfl|mt
        · refine⟨by simp,fun row mr=>?_⟩;obtain⟨i,_,rfl⟩:=Jv.mp mr;refine⟨by simp,fun x mx=>?_⟩;obtain⟨k,_,rfl⟩:=Jv.mp mx;split<;>omega
        · exact ht t mt
      · exact⟨ts,rfl,tn.1,tn.2,ht⟩
     simp only[eu];clear eu ht tn;have u4:=hu.2.1;have u1:=hu.1;refine dG (fun _=>?_) fun _=>?_
     · simp_arith only[ah,ac,bw,bx,aM,aO,bA,aN,aA,ae,bh.eq];have mb:m<2^60:=by omega
       have pb:p<2^60:=by omega
       have m0:0<m:=by omega
       have pp:0<p:=by omega
       (with_reducible (first|refine ax fun j hj=>?_|refine aI fun j hj=>?_))
       try simp_arith only[ah,ac,bw,bx,aM,aO,bA,aN,aA,ae,bh.eq]
       (with_reducible (first|refine ax fun i hi=>?_|refine aI fun i hi=>?_))
       try simp_arith only[ah,ac,bw,bx,aM,aO,bA,aN,aA,ae,bh.eq]
       (with_reducible (first|refine ax fun k hk=>?_|refine aI fun k hk=>?_))
       have hj':j.toNat<us.length:=by omega
       have ej:atI (us.map tbD) j=some (tbD (us[j.toNat]'hj')):=by rw[d6,pX hj.1 hj.2];rfl
       have ht:=hu.2.2 _ (JP hj');generalize us[j.toNat]'hj'=t at ej ht;have tl:=ht.1;have hi':i.toNat<t.length:=by omega
       have ei':VL.itemAt (tbD t) i=some (av (t[i.toNat]'hi')):=by rw[jJ,pX hi.1 (by omega)];rfl
       have hr:=ht.2 _ (JP hi');generalize t[i.toNat]'hi'=row at ei' hr;have kg:0<=k/\k<((row.map Jt).length:Int):=by rw[I_];omega
       try simp_arith only[ah,ac,bw,bx,aM,aO,bA,aN,aA,ae,bh.eq,tL,ej,ei',gS,jv]
       (with_reducible (first|refine ax fun x hx=>?_|refine aI fun x hx=>?_))
       have c1:=pI t av hi.1;have c2:=lv t av (show 0<=i+1 by omega);have rs:(row.map Jt).set k.toNat (.int x)=(row.set k.toNat x).map .int:=by rw[List.map_set]
       have jg:0<=j/\j<((us.map tbD).length:Int):=by rw[I_];exact hj
       have q1:(t.take i.toNat).length+1<=sizeLine:=by rw[JB];omega
       have q2:((t.take i.toNat).map av++[av (row.set k.toNat x)]).length+(t.drop (i+1).toNat).length<=sizeLine:=by simp;omega
       simp only[rs];simp_arith only[ah,ac,bw,bx,aM,aO,bA,aN,aA,ae,tL,ej,c1,c2,jv,cM]
       obtain⟨vs,ev,hu'⟩:∃vs:List (List (List Int)),(us.map tbD).set j.toNat (JM ((t.take i.toNat).map av++[av (row.set k.toNat x)]++(t.drop (i+1).toNat).map av))=vs.map tbD/\jn p m.toNat vs:=by
        refine⟨us.set j.toNat (t.take i.toNat++[row.set k.toNat x]++t.drop (i+1).toNat),by rw[List.map_set];simp[tbD,JW],by simp;exact u1,by simp;exact u4,fun z mz=>?_⟩;rcases On mz with h|h
        · exact hu.2.2 z h
        · subst h;refine⟨by simp;omega,fun y my=>?_⟩;rcases J3.mp my with h|h
          · rcases J3.mp h with h|h
            · exact ht.2 y (Lb h)
            · cases La.mp h;refine⟨by rw[List.length_set];exact hr.1,fun v mv=>?_⟩;rcases On mv with h|h
              · exact hr.2 v h
              · subst h;exact hx
          · exact ht.2 y (MD h)
       simp only[ev];have v4:=hu'.2.1;have v1:=hu'.1;rw[n6];have gu : -(2^62)<=(vs.length:Int)/\(vs.length:Int)<2^62:=by omega
       have ei:GS (ip (cr xF (ip (xA 5) tw)) tw) [some W.reel,some (W.d (.int p)),some (W.d (.int m)),some (W.d (.int w)),some (W.d (.int (1+s0))),some (W.ml (vs.map tbD)),some (W.d (.int j)),some (W.d (.int i)),some (W.d (.int k)),some (W.ml ((row.set k.toNat x).map Jt)),some (W.ml (vs.map tbD))]=VL.ret (aY 0 vs.length):=by
        simp_arith only[ah,ac]
       rw[ei];refine⟨by rw[ae];omega,vs.map tbD,rfl,rfl,by rw[ae,I_];omega,by rw[I_];omega,fun os hl hm=>?_⟩;obtain⟨ws,rfl,wl,hv⟩:=dI (enc:=tbD) (P:=fun t=>lI p m.toNat m.toNat t) (fun d md=>by obtain⟨t,mt,rfl⟩:=Jv.mp (hm d md);exact⟨t,hu'.2.2 t mt,rfl⟩);rw[ae,I_]at hl;exact aQ (hQ ws ⟨by omega,by omega,hv⟩)
     · simp_arith only[ah,ac,bw,bx,aM,aO,bA,aN,aA,ae];rw[n6];have gu : -(2^62)<=(us.length:Int)/\(us.length:Int)<2^62:=by omega
       have ei:GS (ip (cr xF (ip (xA 5) tw)) tw) [some W.reel,some (W.d (.int p)),some (W.d (.int m)),some (W.d (.int w)),some (W.d (.int (1+s0))),some (W.ml (us.map tbD)),none,none,none,none,some (W.ml (us.map tbD))]=VL.ret (aY 0 us.length):=by
        simp_arith only[ah,ac]
       rw[ei];refine⟨by rw[ae];omega,us.map tbD,rfl,rfl,by rw[ae,I_];omega,by rw[I_];omega,fun os hl hm=>?_⟩;obtain⟨ws,rfl,wl,hv⟩:=dI (enc:=tbD) (P:=fun t=>lI p m.toNat m.toNat t) (fun d md=>by obtain⟨t,mt,rfl⟩:=Jv.mp (hm d md);exact⟨t,hu.2.2 t mt,rfl⟩);rw[ae,I_]at hl;exact aQ (hQ ws ⟨by omega,by omega,hv⟩)
def rL(p:Int):Nat->Int->List Int
 | 0,_=>[]
 | m+1,n=>n.fmod p::rL p m (n.fdiv p)
theorem oX{p:Int}(p2:2<=p):∀(m:Nat)(n:Int),0<=n->n<p^m->rL p m n=Go p n m
 | 0,n,h0,h1=>by
   have:n=0:=by rw[Pi]at h1;omega
   subst this
   simp[rL,Go,wT]
 | m+1,n,h0,h1=>by
   have hd:0<=n / p:=Pj h0 (by omega);have hl:n / p<p^m:=Int.ediv_lt_of_lt_mul (by omega) (by rw[<- Lw];exact h1);have ih:=oX p2 m (n / p) hd hl;rw[rL,MA _ (by omega),KF _ (by omega),ih];by_cases z:n=0
   · subst z;simp[Go,wT,Km]
   · unfold Go;rw[wS (n:=n) p2 (by omega),JG,Nat.add_sub_add_right,Nx]
theorem qX{p m:Int}(h:Pm p m):p^m.toNat<=40/\2<=p/\p<=7/\1<=m/\m<=5:=by
 obtain⟨hp,m1,ms⟩:=h;rcases hp with rfl|rfl|rfl|rfl<;>simp[FP]at ms
 · obtain rfl|rfl|rfl|rfl|rfl:m=1\/m=2\/m=3\/m=4\/m=5:=by omega
   all_goals decide
 · obtain rfl|rfl|rfl:m=1\/m=2\/m=3:=by omega
   all_goals decide
 · obtain rfl|rfl:m=1\/m=2:=by omega
   all_goals decide
 · obtain rfl:m=1:=by omega
   decide
theorem rT(ts:List (List (List Int)))(i:Int):VL.itemAt (tbsD ts) i=(atI ts i).map tbD:=d6 _ _ _
theorem kB(ts:List (List (List Int))):tupD (tbsD ts)=some (ts.map tbD):=rfl
theorem la(ts:List (List (List Int))):tZ (tbsD ts)=some ts.length:=by show some (ts.map tbD).length=_;rw[I_]
theorem kD{a b:List (List (List Int))}:tbsD a=tbsD b↔a=b:=by
 unfold tbsD;rw[LO];exact List.map_inj_right fun x y h=>qL.mp h
theorem zh{p:Int}{n:Int}(p2:2<=p)(p7:p<=7)(m8:m<=8)(h0:0<=n)(h1:n<p^m):sT (Go p n m) :=
 ⟨by rw[dW p2 h0 h1];exact m8,fun x mx=>by have:=hJ (k:=m) (c:=n) p2 x mx;omega⟩
def aE:List W->(IQ->Prop)->Prop:=fun ws Q=>∃(p m n:Int),ws=[.d (.int p),.d (.int m),.d (.int n)]/\((2<=p)/\(p<=7)/\(1<=m)/\(m<=5)/\(0<=n)/\(n<p^m.toNat))/\Q (av (Go p n m.toNat))
theorem aE.mono:∀ws (Q Q':IQ->Prop),(∀d,Q d->Q' d)->aE ws Q->aE ws Q':=fun _ _ _ h_ ⟨p,m,n,e_,p_,q_⟩=>⟨p,m,n,e_,p_,h_ _ q_⟩
theorem aE.len:∀ws (Q:IQ->Prop),aE ws Q->ws.length=3:=fun _ _ ⟨_,_,_,e_,_⟩=>by subst e_;rfl
theorem aE.eq(p m n:Int)(p2:2<=p)(p7:p<=7)(m1:1<=m)(m5:m<=5)(n0:0<=n)(nw:n<p^m.toNat):aE [.d (.int p),.d (.int m),.d (.int n)]=VL.ret (av (Go p n m.toNat):IQ):=by
 refine af fun Q=>⟨?_,fun q_=>⟨p,m,n,rfl,⟨p2,p7,m1,m5,n0,nw⟩,q_⟩⟩;rintro⟨p',m',n',e_,_,q_⟩;simp_arith only[and_true]at e_;obtain⟨rfl,rfl,rfl⟩:=e_;exact q_
theorem dv:FnScope ["_law_p", "_law_m", "_law_n", "_law_found", "_law_k"] ["_law_p", "_law_m", "_law_n"] (defScope (top 28)):=⟨rfl,rfl,rfl,by decide +kernel,rfl,by decide +kernel,by decide +kernel⟩
theorem d__law_figures_of(Fn:FnIn K mg "_law_figures_of" (top 28) ["_law_p", "_law_m", "_law_n"])(Z:Bz mg)    : Dfn P w K mg base rl "_law_figures_of" ["_law_p", "_law_m", "_law_n"] 1 aE:=by
 have sc:=dv
 refine Dfn.of Fn sc (aE.mono) (aE.len) (fun cdv A outer s H E hr=>(aj (bS 3 sc.nd (cQ ab))
  (aj (ba [4] JL rfl (aH Z.range_ (aa (vn 1) ab)) (ar 4 sc.nd) (aj (d9 3 (aa (v_mod (vn 2) (vn 0)) ab))
  (aw (az 2 sc.nd (v_div (vn 2) (vn 0))))))
  (aw (aK (bC Z.tuple_ (aa (vn 3) ab))))))) ?_
 rintro ws Q ⟨p,m,n,rfl,⟨p2,p7,m1,m5,n0,nw⟩,hQ⟩;refine aL ?_;have sz:=Js;rw[<- oX p2 _ _ n0 nw]at hQ;have g1 : -(2^62)<=m/\m<2^62:=by omega
 have p0:p≠0:=by omega
 have cd:∀i,ic i p:=fun i=>ic.of p0 (by omega);simp_arith only[ah,ac];refine cH (fun i ρ=>∃(f:List Int)(k:Int),f.length=i/\f++rL p (m.toNat-i) k=rL p m.toNat n/\ρ=[some (.d (.int p)),some (.d (.int m)),some (.d (.int k)),some (.ml (f.map .int)),none]) ⟨[],n,rfl,rfl,rfl⟩ ?_ ?_
 · rintro i hi ρ ⟨f,k,hl,he,rfl⟩ K hK;have fl:f.length<sizeLine:=by omega
   have hi':i<m.toNat:=by omega
   simp_arith only[ah,ac,cd];refine hK _ (bT ⟨f++[k.fmod p],k.fdiv p,by simp[hl],?_,by simp[fo,JW]⟩);rw[<- he,show m.toNat-i=(m.toNat-(i+1))+1 by omega,rL];simp
 · rintro ρ ⟨f,k,hl,he,rfl⟩;rw[Nat.sub_self,rL,Kl]at he;subst he;have fl:(rL p m.toNat n).length<=sizeLine:=by omega
   simp_arith only[ah,ac,cM];exact aQ hQ
def gP(p:Int)(m:Nat)(ts:List (List (List Int)))(n:Int):List Int:=ts.map fun t=>tv p (Ht p t (Go p n m))
def bg:List W->(IQ->Prop)->Prop:=fun ws Q=>∃(p m:Int)(ts:List (List (List Int))),ws=[.d (.int p),.d (.int m),.d (tbsD ts)]/\((Pm p m)/\(jn p m.toNat ts))/\Q (.list ((Jm (p^m.toNat).toNat).map fun n=>av (gP p m.toNat ts (n:Nat))))
theorem bg.mono:∀ws (Q Q':IQ->Prop),(∀d,Q d->Q' d)->bg ws Q->bg ws Q':=fun _ _ _ h_ ⟨p,m,ts,e_,p_,q_⟩=>⟨p,m,ts,e_,p_,h_ _ q_⟩
theorem bg.len:∀ws (Q:IQ->Prop),bg ws Q->ws.length=3:=fun _ _ ⟨_,_,_,e_,_⟩=>by subst e_;rfl
theorem bg.eq(p m:Int)(ts:List (List (List Int)))(pm:Pm p m)(ht:jn p m.toNat ts):bg [.d (.int p),.d (.int m),.d (tbsD ts)]=VL.ret (.list ((Jm (p^m.toNat).toNat).map fun n=>av (gP p m.toNat ts (n:Nat))):IQ):=by
 refine af fun Q=>⟨?_,fun q_=>⟨p,m,ts,rfl,⟨pm,ht⟩,q_⟩⟩;rintro⟨p',m',ts',e_,_,q_⟩;simp_arith only[kD]at e_;obtain⟨rfl,rfl,rfl⟩:=e_;exact q_
theorem f_:FnScope ["_law_p", "_law_m", "_law_tables_here", "_law_whole", "_law_found", "_law_n", "_law_figures", "_law_point", "_law_table", "_law_top", "_law_figure"] ["_law_p", "_law_m", "_law_tables_here"] (defScope (top 29)):=⟨rfl,rfl,rfl,by decide +kernel,rfl,by decide +kernel,by decide +kernel⟩
theorem d__law_points(Fn:FnIn K mg "_law_points" (top 29) ["_law_p", "_law_m", "_law_tables_here"])(Z:Bz mg)(d__law_power:∀rl,Dfn P w K mg base rl "_law_power" ["_law_p", "_law_many"] 1 aZ)(d__law_figures_of:∀rl,Dfn P w K mg base rl "_law_figures_of" ["_law_p", "_law_m", "_law_n"] 1 aE)(d__law_applied:∀rl,Dfn P w K mg base rl "_law_applied" ["_law_p", "_law_table", "_law_figures"] 2 aV)   : Dfn P w K mg base rl "_law_points" ["_law_p", "_law_m", "_law_tables_here"] 3 bg:=by
 have sc:=f_
 refine Dfn.of Fn sc (bg.mono) (bg.len) (fun cdv A outer s H E hr=>(aj (az 3 sc.nd (bo (d__law_power _) (hr.mono (by decide)) (aa (vn 0) (aa (vn 1) ab))))
  (aj (bS 4 sc.nd (cQ ab))
  (aj (ba [5,6,7,8,9,10] JL rfl (aH Z.range_ (aa (vn 3) ab)) (ar 5 sc.nd) (aj (az 6 sc.nd (bo (d__law_figures_of _) (hr.mono (by decide)) (aa (vn 0) (aa (vn 1) (aa (vn 5) ab)))))
  (aj (bS 7 sc.nd (cQ ab))
  (aj (ba [8,9,10] JL rfl (kd (vn 2)) (ar 8 sc.nd) (aj (az 9 sc.nd aq)
  (aj (ba [10] JL rfl (kd (bo (d__law_applied _) (hr.mono (by decide)) (aa (vn 0) (aa (vn 8) (aa (vn 6) ab))))) (ar 10 sc.nd) (aw (az 9 sc.nd (v_add (v_mul (vn 9) (vn 0)) (vn 10)))))
  (aw (d9 7 (aa (vn 9) ab))))))
  (aw (d9 4 (aa (bC Z.tuple_ (aa (vn 7) ab)) ab)))))))
  (aw (ka 4 (aK (vn 4)))))))) ?_
 rintro ws Q ⟨p,m,ts,rfl,⟨pm,ht⟩,hQ⟩;refine aL ?_;have sz:=Js;obtain⟨w40,p2,p7,m1,m5⟩:=qX pm;obtain⟨t1,t4,ht⟩:=ht;have h16:p<=16:=by omega
 have m0:0<=m:=by omega
 have m4:m<=4000:=by omega
 have hp:0<p^m.toNat:=KY (by omega);have g1 : -(2^62)<=p^m.toNat/\p^m.toNat<2^62:=by omega
 have cm:∀i,bR i p:=fun i=>.rt (by omega);simp_arith only[ah,ac,aZ.eq];refine cH (fun i ρ=>ρ=[some (.d (.int p)),some (.d (.int m)),some (.d (tbsD ts)),some (.d (.int (p^m.toNat))),some (.ml ((Jm i).map fun n=>av (gP p m.toNat ts (n:Nat)))),none,none,none,none,none,none]) rfl ?_ ?_
 · rintro i hi ρ rfl K hK;have n0:0<=0+(i:Int):=by omega
   have nw:0+(i:Int)<p^m.toNat:=by omega
   have hf:sT (Go p (0+(i:Int)) m.toNat):=zh p2 p7 (by omega) n0 nw;simp_arith only[ah,ac,aE.eq,kB];refine fI (xs:=ts) (enc:=tbD) (fun j ρ=>ρ=[some (.d (.int p)),some (.d (.int m)),some (.d (tbsD ts)),some (.d (.int (p^m.toNat))),some (.ml ((Jm i).map fun n=>av (gP p m.toNat ts (n:Nat)))),some (.d (.int (0+(i:Int)))),some (.d (av (Go p (0+(i:Int)) m.toNat))),some (.ml ((ts.take j).map fun t=>.int (tv p (Ht p t (Go p (0+(i:Int)) m.toNat))))),none,none,none]) rfl rfl ?_ ?_
   · rintro j hj ρ rfl K2 hK2;have tb:=ht _ (JP hj);have t8:HB p ts[j]:=tb.t8 p7 (by omega) (by omega);simp_arith only[ah,ac,aV.eq,cq];refine jP (xs:=Ht p ts[j] (Go p (0+(i:Int)) m.toNat)) (enc:=Jt) (fun s:Int=>[some (.d (.int p)),some (.d (.int m)),some (.d (tbsD ts)),some (.d (.int (p^m.toNat))),some (.ml ((Jm i).map fun n=>av (gP p m.toNat ts (n:Nat)))),some (.d (.int (0+(i:Int)))),some (.d (av (Go p (0+(i:Int)) m.toNat))),some (.ml ((ts.take j).map fun t=>.int (tv p (Ht p t (Go p (0+(i:Int)) m.toNat))))),some (.d (tbD ts[j])),some (.d (.int s)),none]) (fun s d=>s*p+d) 0 (fun _=>True) rfl rfl trivial ?_ ?_
     · intro x mx s _;refine⟨trivial,_,by(simp_arith only[ah,ac,cm])<;>rfl,rfl⟩
     · have jl:(ts.take j).length<sizeLine:=by rw[JB];omega
       simp_arith only[ah,ac];refine hK2 _ (bT ?_);simp only[fo];rw[KQ hj,JW];rfl
   · rintro ρ rfl;rw[JQ (Jb _)];have l1:ts.length<=sizeLine:=by omega
     have l2:(Jm i).length<sizeLine:=by rw[KA];omega
     simp_arith only[ah,ac];refine hK _ (bT ?_)
     have e1:JM (ts.map fun t=>Jt (tv p (Ht p t (Go p (0+(i:Int)) m.toNat))))=av (gP p m.toNat ts (i:Nat)):=by
      rw[df,L4];rfl
     simp only[fo];rw[e1,M6,JW];rfl
 · rintro ρ rfl;simp_arith only[ah,ac];exact gW hQ
def FO(p:Int):Int:=if p=2 then 4 else if p=3 then 3 else if p=5 then 2 else 1
theorem zH{p:Int}(h:p=2\/p=3\/p=5\/p=7):List.lookup p [((2:Int),(4:Int)),(3,3),(5,2),(7,1)]=some (FO p):=by rcases h with rfl|rfl|rfl|rfl<;>rfl
theorem yD{p:Int}(h:p=2\/p=3\/p=5\/p=7):1<=FO p/\FO p<=4/\FO p<=FP p:=by rcases h with rfl|rfl|rfl|rfl<;>decide
def bE:List W->(IQ->Prop)->Prop:=fun ws Q=>ws=[.reel]/\(True)/\∀z:Int×Int,(Pm z.1 z.2)->Q (.tuple [.int z.1,.int z.2])
theorem bE.mono:∀ws (Q Q':IQ->Prop),(∀d,Q d->Q' d)->bE ws Q->bE ws Q':=fun _ _ _ h_ ⟨e_,p_,q_⟩=>⟨e_,p_,fun o_ ho_=>h_ _ (q_ o_ ho_)⟩
theorem bE.len:∀ws (Q:IQ->Prop),bE ws Q->ws.length=1:=fun _ _ ⟨e_,_⟩=>by subst e_;rfl
theorem bE.eq   : bE [.reel]=Hj (anyM fun z:Int×Int=>Pm z.1 z.2) fun z=>VL.ret (.tuple [.int z.1,.int z.2]:IQ):=by
 refine af fun Q=>⟨?_,fun q_=>⟨rfl,trivial,q_⟩⟩;rintro⟨e_,_,q_⟩;simp_arith only[and_true]at e_;exact q_
theorem iD:FnScope ["_law_tape_here", "_law_p"] ["_law_tape_here"] (defScope (top 20)):=⟨rfl,rfl,rfl,by decide +kernel,rfl,by decide +kernel,by decide +kernel⟩
theorem d__law_size(Fn:FnIn K mg "_law_size" (top 20) ["_law_tape_here"])(Z:Bz mg)(d__law_pick:∀al,DfnC P w K mg base al 1 "_law_pick" ["_law_tape_here", "_law_many"] 1 bh)   : DfnC P w K mg base al 2 "_law_size" ["_law_tape_here"] 2 bE:=by
 have sc:=iD
 refine DfnC.of Fn sc (bE.mono) (bE.len) (fun cdv A outer s H E hr=>(aF (cV 1 sc.nd (EF (cv fun _=>(cQ (aa aq (aa aq (aa aq (aa aq (aa aq (aa aq (aa aq ab))))))))) (cp (d__law_pick _) (hr.mono (by decide)) (au (cv fun _=>(vn 0)) (au (cv fun _=>aq) br)))))
  (dJ (ua (Cz (au (cv fun _=>(vn 1)) (au (Ap (cv fun _=>aq) (cp (d__law_pick _) (hr.mono (by decide)) (au (cv fun _=>(vn 0)) (au (cv fun _=>(uL (hr.mono (J1 _)) (by decide) (vn 1))) br)))) br))))))) (by decide) ?_
 rintro ws Q ⟨rfl,_,hQ⟩;refine aL ?_;have sz:=Js;simp_arith only[ah,ac,bw,bx,aM,aO,bA,aN,aA,ae,bh.eq,hR]
 (with_reducible (first|refine ax fun a ha=>?_|refine aI fun a ha=>?_))
 try simp_arith only[ah,ac,bw,bx,aM,aO,bA,aN,aA,ae,bh.eq,hR]
 refine FR (lY (xs:=[2,2,2,3,3,5,7]) (enc:=Jt) (fun p=>p=2\/p=3\/p=5\/p=7) rfl ha.1 (by show a<7;omega) (by intro z hz;simp at hz;omega) fun p hp=>?_);have e1:=zH hp;obtain⟨s1,s5,s6⟩:=yD hp;have g1:0<FO p:=by omega
 have g2:FO p<2^60:=by omega
 simp_arith only[ah,ac,bw,bx,aM,aO,bA,aN,aA,ae,bh.eq,hR,e1]
 (with_reducible (first|refine ax fun m hm=>?_|refine aI fun m hm=>?_))
 exact aQ (hQ (p,1+m) ⟨hp,by show 1<=1+m;omega,by show 1+m<=FP p;omega⟩)
theorem i3{a p:Int}(hp:p=2\/p=3\/p=5\/p=7)(a1:1<=a)(ap:a<p):∃u v:Int,u*a+v*p=1:=by
 rcases hp with rfl|rfl|rfl|rfl
 · obtain rfl:a=1:=by omega
   exact⟨1,0,by decide⟩
 · rcases(show a=1\/a=2 by omega)with rfl|rfl
   · exact⟨1,0,by decide⟩
   · exact⟨2,-1,by decide⟩
 · rcases(show a=1\/a=2\/a=3\/a=4 by omega)with rfl|rfl|rfl|rfl
   · exact⟨1,0,by decide⟩
   · exact⟨3,-1,by decide⟩
   · exact⟨2,-1,by decide⟩
   · exact⟨4,-3,by decide⟩
 · rcases(show a=1\/a=2\/a=3\/a=4\/a=5\/a=6 by omega)with rfl|rfl|rfl|rfl|rfl|rfl
   · exact⟨1,0,by decide⟩
   · exact⟨4,-1,by decide⟩
   · exact⟨5,-2,by decide⟩
   · exact⟨2,-1,by decide⟩
   · exact⟨3,-2,by decide⟩
   · exact⟨6,-5,by decide⟩
def optN:Option Nat->IQ
 | none=>.none
 | some v=>.int (v:Int)
def optT:Option (List Int)->IQ
 | none=>.none
 | some v=>av v
def optTb:Option (List (List Int))->IQ
 | none=>.none
 | some v=>tbD v
theorem wM(xs:List Int):AY [.d (av xs)]=some (xs.zipIdx.map fun z=>JM [.int (z.2:Nat),.int z.1]):=by
 show some (fL (xs.map Jt))=_;rw[iR]
theorem wL(t:List (List Int)):AY [.d (tbD t)]=some (t.zipIdx.map fun z=>JM [.int (z.2:Nat),av z.1]):=by
 show some (fL (t.map av))=_;rw[iR]
def eS(ks:GA.Kp):List (Ih×IQ):=ks.map fun z=>(J0 (z.1:Int),av z.2)
theorem ki{ks:GA.Kp}(nd:(ks.map (·.1)).Nodup){z:Nat×List Int}(hz:z∈ks):mJ (eS ks) (J0 (z.1:Int))=some (av z.2):=by
 unfold mJ eS
 induction ks with
 | nil=>cases hz
 | cons y ks ih =>
   rw[Ji,KI]at nd;rw[Ji,Ka];by_cases e:y.1=z.1
   · have:y=z:=by
       rcases JA.mp hz with h|h
       · exact h.symm
       · exact absurd (by rw[e];exact LB h) nd.1
     subst this;simp
   · have:decide ((J0 (y.1:Int):Ih)=J0 (z.1:Int))=false:=decide_eq_false fun h=>e (by have:=OF h;omega);rw[this];rcases JA.mp hz with h|h
     · exact absurd (by rw[h]) e
     · exact ih nd.2 h
theorem kJ{kvs:List (Ih×IQ)}{k:Ih}{x:IQ}(h:∀kv∈kvs,kv.1≠k):VL.putF kvs k x=kvs++[(k,x)]:=by
 unfold VL.putF
 have:(kvs.any fun kv=>decide (kv.1=k))=false:=by
  rw[List.any_eq_false];intro kv hk;simp[h kv hk]
 rw[this,if_neg (by decide)]
theorem lq:∀(ks:GA.Kp)(acc:List (Ih×IQ)),(ks.map (·.1)).Nodup->(∀z∈ks,∀kv∈acc,kv.1≠(J0 (z.1:Int):Ih))->(eS ks).foldl (fun a p=>VL.putF a p.1 p.2) acc=acc++eS ks
 | [],acc,_,_=>by simp[eS]
 | z::ks,acc,nd,h=>by
   rw[Ji,KI]at nd;show(eS ks).foldl _ (VL.putF acc _ _)=_;rw[kJ (h z IV),lq ks _ nd.2 fun y hy kv hk=>?_]
   · simp[eS]
   · rcases J3.mp hk with hk|hk
     · exact h y (IT _ hy) kv hk
     · rw[La.mp hk];intro e;have:z.1=y.1:=by have:=OF e;omega
       exact nd.1 (by rw[this];exact LB hy)
theorem uk{p:Int}{r:List Int}(h:GA.Fg p n r):∀x∈r,0<=x/\x<p:=fun x mx=>by
 obtain⟨k,hk,rfl⟩:=Md mx;have:=h.2 k (by have:=h.1;omega)
 rwa [GA.gD hk]at this
theorem AG{p:Int}{r:List Int}(hl:r.length=n)(h:∀x∈r,0<=x/\x<p):GA.Fg p n r:=⟨hl,fun k hk=>by rw[GA.gD (by omega)];exact h _ (JP _)⟩
def bu:List W->(IQ->Prop)->Prop:=fun ws Q=>∃(a m:Int),ws=[.d (.int a),.d (.int m)]/\((1<=a)/\(a<m)/\(m<2^60)/\(∃u v:Int,u*a+v*m=1))/\∀o:Int,(GA.Cg m (o*a) 1)->Q (.int o)
theorem bu.mono:∀ws (Q Q':IQ->Prop),(∀d,Q d->Q' d)->bu ws Q->bu ws Q':=fun _ _ _ h_ ⟨a,m,e_,p_,q_⟩=>⟨a,m,e_,p_,fun o_ ho_=>h_ _ (q_ o_ ho_)⟩
theorem bu.len:∀ws (Q:IQ->Prop),bu ws Q->ws.length=2:=fun _ _ ⟨_,_,e_,_⟩=>by subst e_;rfl
theorem bu.eq(a m:Int)(a1:1<=a)(am:a<m)(m60:m<2^60)(cop:∃u v:Int,u*a+v*m=1):bu [.d (.int a),.d (.int m)]=Hj (anyM fun o:Int=>GA.Cg m (o*a) 1) fun o=>VL.ret (.int o:IQ):=by
 refine af fun Q=>⟨?_,fun q_=>⟨a,m,rfl,⟨a1,am,m60,cop⟩,q_⟩⟩;rintro⟨a',m',e_,_,q_⟩;simp_arith only[and_true]at e_;obtain⟨rfl,rfl⟩:=e_;exact q_
theorem gT:FnScope ["one", "modulus", "former", "here", "rest", "divisor", "quotient"] ["one", "modulus"] (defScope (top 1)):=⟨rfl,rfl,rfl,by decide +kernel,rfl,by decide +kernel,by decide +kernel⟩
theorem d_inverse_of(Fn:FnIn K mg "inverse_of" (top 1) ["one", "modulus"])(Z:Bz mg)    : Dfn P w K mg base rl "inverse_of" ["one", "modulus"] 1 bu:=by
 have sc:=gT
 refine Dfn.of Fn sc (bu.mono) (bu.len) (fun cdv A outer s H E hr=>(aj (xN (fW (aa aq (aa aq ab))) (d_ (n:=2) rfl (aX (ar 2 sc.nd) (aX (ar 3 sc.nd) cP))))
  (aj (mQ 4 5 rfl sc.nd (aa (vn 0) (aa (vn 1) ab)))
  (aj (mP [6] JL (bF lW lJ (bp _) (vn 4) aq) (aj (az 6 sc.nd (v_div (vn 5) (vn 4)))
  (aj (mQ 2 3 rfl sc.nd (aa (vn 3) (aa (v_sub (vn 2) (v_mul (vn 6) (vn 3))) ab)))
  (aw (mQ 5 4 rfl sc.nd (aa (vn 4) (aa (v_sub (vn 5) (v_mul (vn 6) (vn 4))) ab)))))))
  (aw (aK (vn 3))))))) ?_
 rintro ws Q ⟨a,m,rfl,⟨a1,am,m60,cop⟩,hQ⟩;refine aL ?_;simp_arith only[ah,ac]
 refine qt (σ:=Int×Int×Int×Int) (fun s=>[some (.d (.int a)),some (.d (.int m)),some (.d (.int s.1)),some (.d (.int s.2.1)),some (.d (.int s.2.2.1)),some (.d (.int s.2.2.2)),none]) (fun s=>decide (1<s.2.2.1)) (fun s=>(s.2.1,s.1-s.2.2.2.fdiv s.2.2.1*s.2.1,s.2.2.2-s.2.2.2.fdiv s.2.2.1*s.2.2.1,s.2.2.1)) (fun s=>s.2.2.1.toNat)
  (fun s=>1<=s.2.2.1/\s.2.2.1<s.2.2.2/\s.2.2.2<2^60/\(∃u v:Int,u*s.2.2.1+v*s.2.2.2=1)/\GA.Cg m (s.2.1*a) s.2.2.1/\GA.Cg m (s.1*a) s.2.2.2) (0,1,a,m) rfl ⟨a1,am,m60,cop,.of (by show 1*a=a;omega),⟨-1,by show 0*a=m+m * -1;omega⟩⟩ ?_ ?_ ?_
 · intro s _;simp_arith only[ac]
 · rintro⟨f,h,r,d⟩ ⟨r1,rd,d60,⟨u,v,bz⟩,c1,c2⟩ c;dsimp only at *;have r2:1<r:=by simpa using c
   have q0:0<=d.fdiv r:=by rw[KF _ (by omega)];exact Pj (by omega) (by omega)
   have q1:d.fdiv r<=d:=by rw[KF _ (by omega)];exact Int.ediv_le_self _ (by omega)
   have em:d-d.fdiv r*r=d%r:=by rw[KF _ (by omega)];have:=Nt d r;grind
   have m0:=NV d (show r≠0 by omega);have m1:=M4 d (show 0<r by omega);have cd:ic d r:=ic.of (by omega) (by omega);have cm1:bR (d.fdiv r) h:=.lt (by omega);have cm2:bR (d.fdiv r) r:=.lt (by omega)
   have mp:1<=d%r:=by
    rcases Int.lt_or_eq_of_le m0 with z|z
    · omega
    · exfalso;have h1:(u*r+v*d)%r=0:=by rw[Int.add_emod,Int.mul_emod_left,Int.mul_emod,<- z];simp
      rw[bz,Ly (by omega) (by omega)]at h1;omega
   refine⟨⟨by rw[em];exact mp,by rw[em];exact m1,by omega,⟨v,u+v*d.fdiv r,by grind⟩,?_,c1⟩,by rw[em];omega,[some (.d (.int a)),some (.d (.int m)),some (.d (.int h)),some (.d (.int (f-d.fdiv r*h))),some (.d (.int (d-d.fdiv r*r))),some (.d (.int r)),some (.d (.int (d.fdiv r)))],?_,rfl⟩
   · exact GA.Cg.trans (.of (by grind)) (c2.sub ((GA.Cg.refl (d.fdiv r)).mul c1))
   · simp_arith only[ah,ac]
 · rintro⟨f,h,r,d⟩ ⟨r1,rd,d60,⟨u,v,bz⟩,c1,c2⟩ c;dsimp only at *;have r2:¬1<r:=by simpa using c
   have:r=1:=by omega
   subst this;simp_arith only[ac];exact aQ (hQ h c1)
def aS:List W->(IQ->Prop)->Prop:=fun ws Q=>∃(n a:Int),ws=[.d (.int n),.d (.int a)]/\((0<=n)/\(n<=16)/\(0<=a))/\Q (av (GA.uni n.toNat a.toNat))
theorem aS.mono:∀ws (Q Q':IQ->Prop),(∀d,Q d->Q' d)->aS ws Q->aS ws Q':=fun _ _ _ h_ ⟨n,a,e_,p_,q_⟩=>⟨n,a,e_,p_,h_ _ q_⟩
theorem aS.len:∀ws (Q:IQ->Prop),aS ws Q->ws.length=2:=fun _ _ ⟨_,_,e_,_⟩=>by subst e_;rfl
theorem aS.eq(n a:Int)(n0:0<=n)(n16:n<=16)(a0:0<=a):aS [.d (.int n),.d (.int a)]=VL.ret (av (GA.uni n.toNat a.toNat):IQ):=by
 refine af fun Q=>⟨?_,fun q_=>⟨n,a,rfl,⟨n0,n16,a0⟩,q_⟩⟩;rintro⟨n',a',e_,_,q_⟩;simp_arith only[and_true]at e_;obtain⟨rfl,rfl⟩:=e_;exact q_
theorem e9:FnScope ["many", "place"] ["many", "place"] (defScope (top 3)):=⟨rfl,rfl,rfl,by decide +kernel,rfl,by decide +kernel,by decide +kernel⟩
theorem d_unit_figures(Fn:FnIn K mg "unit_figures" (top 3) ["many", "place"])(Z:Bz mg)    : Dfn P w K mg base rl "unit_figures" ["many", "place"] 1 aS:=by
 have sc:=e9;refine Dfn.of Fn sc (aS.mono) (aS.len) (fun cdv A outer s H E hr=>(aw (aK (bC Z.tuple_ (aa (bv ["k", "place"] [none,some 1] rfl (aH Z.range_ (aa (vn 0) ab)) (fun _=>(ar 0 (show KN (["k", "place"]:List Str) by decide +kernel))) (fun _=>cf) (fun _=>(jr (bF (dh hr.units) cj (bp _) (vn 0) (vn 1)) aq aq))) ab))))) ?_;rintro ws Q ⟨n,a,rfl,⟨n0,n16,a0⟩,hQ⟩;refine aL ?_;have sz:=Js;have g1 : -(2^62)<=n/\n<2^62:=by omega
 simp_arith only[ah,ac];refine eV (fun k=>.int (if k=a.toNat then 1 else 0)) ?_ (by omega) ?_
 · intro k hk;have e:((0+(k:Int))==a)=decide (k=a.toNat):=by rw[Lz];simp;omega
   simp_arith only[ah,ac,GM,e];by_cases h:k=a.toNat
   · simp[h];try rfl
   · simp[h];try rfl
 · rw[df];simp_arith only[ah,ac,cM];exact aQ hQ
def aT:List W->(IQ->Prop)->Prop:=fun ws Q=>∃(xs:List Int),ws=[.d (av xs)]/\((xs.length<=16))/\∀o:Option Nat,(match o with|none=>∀k,k<xs.length->xs.getD k 0=0|some v=>v<xs.length/\xs.getD v 0≠0)->Q (optN o)
theorem aT.mono:∀ws (Q Q':IQ->Prop),(∀d,Q d->Q' d)->aT ws Q->aT ws Q':=fun _ _ _ h_ ⟨xs,e_,p_,q_⟩=>⟨xs,e_,p_,fun o_ ho_=>h_ _ (q_ o_ ho_)⟩
theorem aT.len:∀ws (Q:IQ->Prop),aT ws Q->ws.length=1:=fun _ _ ⟨_,e_,_⟩=>by subst e_;rfl
theorem aT.eq(xs:List Int)(hl:xs.length<=16):aT [.d (av xs)]=Hj (anyM fun o:Option Nat=>match o with|none=>∀k,k<xs.length->xs.getD k 0=0|some v=>v<xs.length/\xs.getD v 0≠0) fun o=>VL.ret (optN o:IQ):=by
 refine af fun Q=>⟨?_,fun q_=>⟨xs,rfl,hl,q_⟩⟩;rintro⟨xs',e_,_,q_⟩;simp_arith only[and_true]at e_;obtain rfl:=e_;exact q_
theorem ff:FnScope ["figures", "place", "figure"] ["figures"] (defScope (top 4)):=⟨rfl,rfl,rfl,by decide +kernel,rfl,by decide +kernel,by decide +kernel⟩
theorem d_first_filled(Fn:FnIn K mg "first_filled" (top 4) ["figures"])(Z:Bz mg)    : Dfn P w K mg base rl "first_filled" ["figures"] 1 aT:=by
 have sc:=ff
 refine Dfn.of Fn sc (aT.mono) (aT.len) (fun cdv A outer s H E hr=>(aj (ba [1,2] JL rfl (dt Z.enumerate_ (aa (vn 0) ab)) (d_ (n:=2) rfl (aX (ar 1 sc.nd) (aX (ar 2 sc.nd) cP))) (aw (eW (bF (kP hr.units) cj (bp _) (vn 2) aq) (aw (aK (vn 1))) cL)))
  (aw (aK gw)))) ?_
 rintro ws Q ⟨xs,rfl,hl,hQ⟩;refine aL ?_;have sz:=Js;simp_arith only[ah,ac,tW,wM];refine wK (xs:=xs.zipIdx) (enc:=fun z=>JM [.int (z.2:Nat),.int z.1]) (fun z=>z.1 != 0) (fun z=>.d (.int (z.2:Nat))) rfl ?_ ?_ ?_
 · rintro⟨x,k⟩ mz;refine⟨fun h=>?_,fun h=>?_⟩
   · have e:(x==0)=false:=by simpa using h
     simp_arith only[ah,ac,e]
   · have e:(x==0)=true:=by simpa using h
     refine⟨[some (.d (av xs)),some (.d (.int (k:Nat))),some (.d (.int x))],?_,rfl⟩;simp_arith only[ah,ac,e]
 · rintro⟨x,k⟩ mz h;have hk:=List.mem_zipIdx mz;refine aQ (hQ (some k) ⟨by omega,?_⟩);rw[GA.gD (by omega)];have:x=xs[k]:=by have:=hk.2.2;simpa using this
   rw[<- this];simpa using h
 · intro h;simp_arith only[ac];refine aQ (hQ none fun k hk=>?_);have:=h (xs[k],k) (by rw[List.mem_zipIdx_iff_getElem?];simp[hk]);rw[GA.gD hk];simpa using this
def cE:List W->(IQ->Prop)->Prop:=fun ws Q=>∃(p:Int)(xs:List Int)(k:Int),ws=[.d (.int p),.d (av xs),.d (.int k)]/\((2<=p)/\(xs.length<=16)/\(∀x∈xs,0<=x/\x<10))/\Q (av (GA.scl p xs k))
theorem cE.mono:∀ws (Q Q':IQ->Prop),(∀d,Q d->Q' d)->cE ws Q->cE ws Q':=fun _ _ _ h_ ⟨p,xs,k,e_,p_,q_⟩=>⟨p,xs,k,e_,p_,h_ _ q_⟩
theorem cE.len:∀ws (Q:IQ->Prop),cE ws Q->ws.length=3:=fun _ _ ⟨_,_,_,e_,_⟩=>by subst e_;rfl
theorem cE.eq(p:Int)(xs:List Int)(k:Int)(p2:2<=p)(hl:xs.length<=16)(hx:∀x∈xs,0<=x/\x<10):cE [.d (.int p),.d (av xs),.d (.int k)]=VL.ret (av (GA.scl p xs k):IQ):=by
 refine af fun Q=>⟨?_,fun q_=>⟨p,xs,k,rfl,⟨p2,hl,hx⟩,q_⟩⟩;rintro⟨p',xs',k',e_,_,q_⟩;simp_arith only[and_true]at e_;obtain⟨rfl,rfl,rfl⟩:=e_;exact q_
theorem nZ:FnScope ["p", "row", "often"] ["p", "row", "often"] (defScope (top 5)):=⟨rfl,rfl,rfl,by decide +kernel,rfl,by decide +kernel,by decide +kernel⟩
theorem d_scaled(Fn:FnIn K mg "scaled" (top 5) ["p", "row", "often"])(Z:Bz mg)    : Dfn P w K mg base rl "scaled" ["p", "row", "often"] 1 cE:=by
 have sc:=nZ;refine Dfn.of Fn sc (cE.mono) (cE.len) (fun cdv A outer s H E hr=>(aw (aK (bC Z.tuple_ (aa (bv ["x", "often", "p"] [none,some 2,some 0] rfl (kd (vn 1)) (fun _=>(ar 0 (show KN (["x", "often", "p"]:List Str) by decide +kernel))) (fun _=>cf) (fun _=>(v_mod (v_mul (vn 1) (vn 0)) (vn 2)))) ab))))) ?_;rintro ws Q ⟨p,xs,k,rfl,⟨p2,hl,hx⟩,hQ⟩;refine aL ?_;have sz:=Js;have p0:p≠0:=by omega
 simp_arith only[ah,ac,cq];refine fR (xs:=xs) (enc:=Jt) (fun x=>.int ((k*x).fmod p)) rfl ?_ (by omega) ?_
 · intro x mx;have:=hx x mx;have cm:bR k x:=.rt (by omega);simp_arith only[ah,ac,GM]
 · rw[df];simp_arith only[ah,ac,cM];exact aQ hQ
def bZ:List W->(IQ->Prop)->Prop:=fun ws Q=>∃(p:Int)(xs ys:List Int)(c:Int),ws=[.d (.int p),.d (av xs),.d (av ys),.d (.int c)]/\((2<=p)/\(xs.length<=16)/\(ys.length<=16)/\(0<=c)/\(c<xs.length)/\(∀y∈ys,0<=y/\y<10))/\Q (av (GA.clr p xs ys c.toNat))
theorem bZ.mono:∀ws (Q Q':IQ->Prop),(∀d,Q d->Q' d)->bZ ws Q->bZ ws Q':=fun _ _ _ h_ ⟨p,xs,ys,c,e_,p_,q_⟩=>⟨p,xs,ys,c,e_,p_,h_ _ q_⟩
theorem bZ.len:∀ws (Q:IQ->Prop),bZ ws Q->ws.length=4:=fun _ _ ⟨_,_,_,_,e_,_⟩=>by subst e_;rfl
theorem bZ.eq(p:Int)(xs ys:List Int)(c:Int)(p2:2<=p)(xl:xs.length<=16)(yl:ys.length<=16)(c0:0<=c)(cl:c<xs.length)(hy:∀y∈ys,0<=y/\y<10):bZ [.d (.int p),.d (av xs),.d (av ys),.d (.int c)]=VL.ret (av (GA.clr p xs ys c.toNat):IQ):=by
 refine af fun Q=>⟨?_,fun q_=>⟨p,xs,ys,c,rfl,⟨p2,xl,yl,c0,cl,hy⟩,q_⟩⟩;rintro⟨p',xs',ys',c',e_,_,q_⟩;simp_arith only[and_true]at e_;obtain⟨rfl,rfl,rfl,rfl⟩:=e_;exact q_
theorem lR:FnScope ["p", "row", "other", "column", "often"] ["p", "row", "other", "column"] (defScope (top 6)):=⟨rfl,rfl,rfl,by decide +kernel,rfl,by decide +kernel,by decide +kernel⟩
theorem d_cleared(Fn:FnIn K mg "cleared" (top 6) ["p", "row", "other", "column"])(Z:Bz mg)    : Dfn P w K mg base rl "cleared" ["p", "row", "other", "column"] 1 bZ:=by
 have sc:=lR
 refine Dfn.of Fn sc (bZ.mono) (bZ.len) (fun cdv A outer s H E hr=>(aj (az 4 sc.nd (lL (vn 1) (vn 3)))
  (aw (aK (bC Z.tuple_ (aa (bv ["x", "y", "often", "p"] [none,none,some 4,some 0] rfl (eK Z.zip_ (aa (vn 1) (aa (vn 2) ab))) (fun _=>(d_ (n:=2) rfl (aX (ar 0 (show KN (["x", "y", "often", "p"]:List Str) by decide +kernel)) (aX (ar 1 (show KN (["x", "y", "often", "p"]:List Str) by decide +kernel)) cP)))) (fun _=>cf) (fun _=>(v_mod (v_sub (vn 0) (v_mul (vn 2) (vn 1))) (vn 3)))) ab)))))) ?_
 rintro ws Q ⟨p,xs,ys,c,rfl,⟨p2,xl,yl,c0,cl,hy⟩,hQ⟩;refine aL ?_;have sz:=Js;have p0:p≠0:=by omega
 have e:VL.itemAt (av xs) c=some (.int (xs.getD c.toNat 0)):=by rw[pe,pX c0 cl,GA.gD (by omega)];rfl
 simp_arith only[ah,ac,e,gS];refine oN (by exact⟨rfl,rfl⟩) ?_;rw[gM];refine fR (xs:=xs.zip ys) (enc:=fun z=>JM [.int z.1,.int z.2]) (fun z=>.int ((z.1-xs.getD c.toNat 0*z.2).fmod p)) rfl ?_ (by rw[NW];omega) ?_
 · rintro⟨x,y⟩ mz;have:=hy y (K8 mz).2;have cm:bR (xs.getD c.toNat 0) y:=.rt (by omega);simp_arith only[ah,ac,GM]
 · rw[df];simp_arith only[ah,ac,cM];exact aQ hQ
theorem zm:optN none = .none:=rfl
theorem zk(v:Nat):optN (some v) = .int (v:Int):=rfl
theorem tS:optT none = .none:=rfl
theorem tR(v:List Int):optT (some v)=av v:=rfl
theorem Am(xs ys:List Int):JM (xs.map Jt++ys.map Jt)=av (xs++ys):=by unfold av;rw[JW]
theorem EC(xs:List α)(f:α->IQ)(k:Nat):VL.cutD (xs.map f) none (some (k:Int))=(xs.take k).map f:=by
 unfold VL.cutD;rw[HT.sIx_none,HT.sIx_nat,Og,I_,Oa,<- M_];congr 1;by_cases z:k<=xs.length
 · rw[Mt z]
 · rw[Mf (by omega),JQ (by omega),JQ (by omega)]
theorem Cy(xs:List α)(f:α->IQ)(k:Nat):VL.cutD (xs.map f) (some (k:Int)) none=(xs.drop k).map f:=by
 unfold VL.cutD;rw[HT.sIx_none,HT.sIx_nat,I_,<- List.map_drop,<- M_];congr 1;by_cases z:k<=xs.length
 · rw[Mt z,JQ (by rw[KJ];omega)]
 · rw[Mf (by omega),Ld (by omega),Ld (by omega)];simp
def uh(p:Int)(t:List (List Int)):Prop:=1<=t.length/\t.length<=8/\(t.getD 0 []).length<=8/\∀r∈t,GA.Fg p (t.getD 0 []).length r
def CO(p:Int)(t:List (List Int))(z:GA.Kp×Option (List Int)):Prop:=match z.2 with
 | none=>GA.GI p (t.getD 0 []).length t.length t t.length z.1
 | some h=>GA.Hg p (t.getD 0 []).length t h
def bN:List W->(IC->Prop)->Prop:=fun ws Q=>∃(p:Int)(t:List (List Int)),ws=[.d (.int p),.d (tbD t)]/\((p=2\/p=3\/p=5\/p=7)/\(uh p t))/\∀z:GA.Kp×Option (List Int),(CO p t z)->Q ((eS z.1,optT z.2))
theorem bN.mono:∀ws (Q Q':IC->Prop),(∀d,Q d->Q' d)->bN ws Q->bN ws Q':=fun _ _ _ h_ ⟨p,t,e_,p_,q_⟩=>⟨p,t,e_,p_,fun o_ ho_=>h_ _ (q_ o_ ho_)⟩
theorem bN.len:∀ws (Q:IC->Prop),bN ws Q->ws.length=2:=fun _ _ ⟨_,_,e_,_⟩=>by subst e_;rfl
theorem bN.eq(p:Int)(t:List (List Int))(hp:p=2\/p=3\/p=5\/p=7)(ht:uh p t):bN [.d (.int p),.d (tbD t)]=Hj (anyM fun z:GA.Kp×Option (List Int)=>CO p t z) fun z=>VL.ret ((eS z.1,optT z.2):IC):=by
 refine af fun Q=>⟨?_,fun q_=>⟨p,t,rfl,⟨hp,ht⟩,q_⟩⟩;rintro⟨p',t',e_,_,q_⟩;simp_arith only[qL]at e_;obtain⟨rfl,rfl⟩:=e_;exact q_
theorem lQ:FnScope ["p", "table", "columns", "kept", "number", "figures", "row", "column", "pivot"] ["p", "table"] (defScope (top 7)):=⟨rfl,rfl,rfl,by decide +kernel,rfl,by decide +kernel,by decide +kernel⟩
theorem d_reduced(Fn:FnIn K mg "reduced" (top 7) ["p", "table"])(Z:Bz mg)(d_first_filled:∀rl,Dfn P w K mg base rl "first_filled" ["figures"] 1 aT)(d_scaled:∀rl,Dfn P w K mg base rl "scaled" ["p", "row", "often"] 1 cE)(d_unit_figures:∀rl,Dfn P w K mg base rl "unit_figures" ["many", "place"] 1 aS)(d_cleared:∀rl,Dfn P w K mg base rl "cleared" ["p", "row", "other", "column"] 1 bZ)(d_inverse_of:∀rl,Dfn P w K mg base rl "inverse_of" ["one", "modulus"] 1 bu)   : DfnP P w K mg base rl "reduced" ["p", "table"] 2 bN:=by
 have sc:=lQ
 refine DfnP.of Fn sc (bN.mono) (bN.len) (fun cdv A outer s H E hr=>(aj (az 2 sc.nd (eG Z.len_ (aa (lL (vn 1) aq) ab)))
  (aj (mR 3 (bS 3 sc.nd qE))
  (aj (ba [4,5,6,7,8] JL rfl (dt Z.enumerate_ (aa (vn 1) ab)) (d_ (n:=2) rfl (aX (ar 4 sc.nd) (aX (ar 5 sc.nd) cP))) (aj (az 6 sc.nd (io (vn 5) (bo (d_unit_figures _) (hr.mono (by decide)) (aa (eG Z.len_ (aa (vn 1) ab)) (aa (vn 4) ab)))))
  (aj (ba [7] JL rfl (mW (vn 3)) (ar 7 sc.nd) (aw (az 6 sc.nd (bo (d_cleared _) (hr.mono (by decide)) (aa (vn 0) (aa (vn 6) (aa (jt hr.un1 (vn 3) (vn 7)) (aa (vn 7) ab))))))))
  (aj (az 8 sc.nd (bo (d_first_filled _) (hr.mono (by decide)) (aa (lK (vn 6) cA (cz (vn 2))) ab)))
  (aj (eW (bF zq xR (bp _) (vn 8) gw) (aw (aK (sY (aa (vn 3) (aa (lK (vn 6) (cz (vn 2)) cA) ab))))) cL)
  (aj (az 6 sc.nd (bo (d_scaled _) (hr.mono (by decide)) (aa (vn 0) (aa (vn 6) (aa (bo (d_inverse_of _) (hr.mono (by decide)) (aa (lL (vn 6) (vn 8)) (aa (vn 0) ab))) ab)))))
  (aj (ig 3 sc.nd ["column", "p", "kept", "row", "pivot"] [none,some 0,some 3,some 6,some 8] rfl (mW (vn 3)) (fun _=>(ar 0 (show KN (["column", "p", "kept", "row", "pivot"]:List Str) by decide +kernel))) (fun _=>cf) (fun _=>(vn 0)) (fun _=>(bo (d_cleared _) (hr.mono (by decide)) (aa (vn 1) (aa (jt hr.un1 (vn 2) (vn 0)) (aa (vn 3) (aa (vn 4) ab)))))))
  (aw (mR 3 (qw 3 hr.un1 (vn 8) (vn 6)))))))))))
  (aw (aK (sY (aa (vn 3) (aa gw ab))))))))) ?_
 rintro ws Q ⟨p,t,rfl,⟨hp,ht⟩,hQ⟩;refine qQ ?_;have sz:=Js;have p2:2<=p:=by omega
 have p7:p<=7:=by omega
 obtain⟨t1,t8,c8,hf⟩:=ht;generalize hC:(t.getD 0 []).length=C at *;have e0:atI t 0=some (t.getD 0 []):=by rw[show(0:Int)=((0:Nat):Int)from rfl,cK (Jd t1),Jf,Jd t1];rfl
 simp_arith only[ah,ac,IM,FW,jJ,e0,o7,hC,tW,wL];refine fI (xs:=t.zipIdx) (enc:=fun z=>JM [.int (z.2:Nat),av z.1]) (fun i ρ=>∃ks,ρ=[some (.d (.int p)),some (.d (tbD t)),some (.d (.int (C:Int))),some (.fw (eS ks)),none,none,none,none,none]/\GA.GI p C t.length t i ks) rfl ⟨[],rfl,GA.GI.nil p C t.length t⟩ ?_ ?_
 · rintro i hi ρ ⟨ks,rfl,g⟩ K hK;have it:i<t.length:=by rw[Of]at hi;exact hi
   have ez:t.zipIdx[i]=(t[i],i):=by simp
   rw[ez];have hti:=hf _ (JP it);have eti:t.getD i []=t[i]:=by rw[Jf,Jd it];rfl
   have gl:t[i].length+(GA.uni t.length i).length<=sizeLine:=by rw[GA.uni_len,hti.1];omega
   simp_arith only[ah,ac,IM,FW,jH,aS.eq,cq,Am,JJ];have hk:(eS ks).map (fun p=>mM p.1)=ks.map fun z=>Jt (z.1:Int):=by unfold eS;rw[Kf];rfl
   refine jP (xs:=ks) (enc:=fun z=>Jt (z.1:Int)) (fun r:List Int=>[some (.d (.int p)),some (.d (tbD t)),some (.d (.int (C:Int))),some (.fw (eS ks)),some (.d (.int (i:Int))),some (.d (av t[i])),some (.d (av r)),none,none]) (fun r z=>GA.clr p r z.2 z.1) (t[i]++GA.uni t.length i) (fun r=>r.length=C+t.length) rfl hk (by rw[JH,GA.uni_len,hti.1]) ?_ ?_
   · intro z hz r hr;have fz:=g.fg z hz;have lz:=g.lt z hz;have vz:=ki g.nd hz;have q1:r.length<=16:=by omega
     have q2:z.2.length<=16:=by have:=fz.1;omega
     have q3:(z.1:Int)<(r.length:Int):=by omega
     have q4:∀y∈z.2,0<=y/\y<10:=fun y my=>by have:=uk fz y my;omega
     refine⟨GA.clr_len hr fz.1,[some (.d (.int p)),some (.d (tbD t)),some (.d (.int (C:Int))),some (.fw (eS ks)),some (.d (.int (i:Int))),some (.d (av t[i])),some (.d (av (GA.clr p r z.2 z.1))),some (.d (.int (z.1:Int))),none],?_,rfl⟩;simp_arith only[ah,ac,IM,FW,vz,bZ.eq,JJ]
   have er:ks.foldl (fun r z=>GA.clr p r z.2 z.1) (t[i]++GA.uni t.length i)=GA.clrs p (GA.row0 t.length i (t.getD i [])) ks:=by rw[eti];rfl
   rw[er];obtain⟨a1,a2,a3,a4,a5,a6⟩:=g.row p2 hf it;have gh:=g.hang p2 hf it;have gs:=fun(v:Nat)(hv:v<C)(a:Int)=>g.step p2 hf it (v:=v) hv (a:=a);generalize GA.clrs p (GA.row0 t.length i (t.getD i [])) ks=w at *;have wt:(w.take C).length<=16:=by rw[JB];omega
   have tl:(w.take C).length=C:=by rw[JB,a1.1];omega
   have tk:∀k,k<C->(w.take C).getD k 0=w.getD k 0:=fun k hk=>by rw[Jf,Jf,Os hk]
   simp_arith only[ah,ac,IM,FW,aT.eq,cq,EC,cM]
   (with_reducible (first|refine ax fun o ho=>?_|refine aI fun o ho=>?_))
   cases o with
   | none =>
     simp_arith only[ah,ac,IM,FW,zm,cq,Cy,cM];refine hK _ (oW (n8 (hQ (ks,some (w.drop C)) ?_)));show GA.Hg p (t.getD 0 []).length t _;rw[hC]
     exact gh fun c hc=>by rw[<- tk c hc];exact ho c (by omega)
   | some v =>
     have hv:v<C:=by have:=ho.1;omega
     have hw:w.getD v 0≠0:=by have:=ho.2;rwa [tk v hv]at this
     have wv:=a1.2 v (by omega);have ev:VL.itemAt (av w) (v:Int)=some (.int (w.getD v 0)):=by rw[pe,cK (Jd (by have:=a1.1;omega)),GA.gD (by have:=a1.1;omega)];rfl
     have b1:1<=w.getD v 0:=by omega
     have b2:w.getD v 0<p:=wv.2;have b3:p<2^60:=by omega
     have b4:=i3 hp b1 b2;have wl:w.length<=16:=by have:=a1.1;omega
     have wx:∀x∈w,0<=x/\x<10:=fun x mx=>by have:=uk a1 x mx;omega
     simp_arith only[ah,ac,IM,FW,zk,ev,bu.eq]
     (with_reducible (first|refine ax fun a ha=>?_|refine aI fun a ha=>?_))
     obtain⟨ne,g2⟩:=gs v hv a ha;have sl:(GA.scl p w a).length=C+t.length:=by rw[GA.scl_len,a1.1]
     have s16:(GA.scl p w a).length<=16:=by omega
     have sx:∀x∈GA.scl p w a,0<=x/\x<10:=fun x mx=>by
      obtain⟨y,_,rfl⟩:=Jv.mp mx;have:=GA.fm_in (show 0<p by omega) (a*y);omega
     simp_arith only[ah,ac,IM,FW,cE.eq];refine FS (wO (xs:=ks) (enc:=fun z=>Jt (z.1:Int)) (fun z=>(J0 (z.1:Int),av (GA.clr p z.2 (GA.scl p w a) v))) hk ?_ (by have:=g.len;omega) ?_)
     · intro z hz;have fz:=g.fg z hz;have vz:=ki g.nd hz;have q2:z.2.length<=16:=by have:=fz.1;omega
       have q3:(v:Int)<(z.2.length:Int):=by have:=fz.1;omega
       simp_arith only[ah,ac,IM,FW,GN,vz,bZ.eq,JJ]
     have ec:(ks.map fun z=>((J0 (z.1:Int):Ih),av (GA.clr p z.2 (GA.scl p w a) v)))=eS (ks.map fun z=>(z.1,GA.clr p z.2 (GA.scl p w a) v)):=by unfold eS;rw[Kf];rfl
     have nd2:((ks.map fun z=>(z.1,GA.clr p z.2 (GA.scl p w a) v)).map (·.1)).Nodup:=by rw[Kf];exact g.nd
     rw[ec,lq _ [] nd2 (fun _ _ _ h=>nomatch h),Pg];have el:(eS (ks.map fun z=>(z.1,GA.clr p z.2 (GA.scl p w a) v))).length<sizeLine:=by unfold eS;rw[I_,I_,g.len];omega
     have ep:VL.putF (eS (ks.map fun z=>(z.1,GA.clr p z.2 (GA.scl p w a) v))) (J0 (v:Int)) (av (GA.scl p w a))=eS (ks.map (fun z=>(z.1,GA.clr p z.2 (GA.scl p w a) v))++[(v,GA.scl p w a)]):=by
      rw[kJ]
      · unfold eS;rw[JW];rfl
      · intro kv hk;unfold eS at hk;obtain⟨y,my,rfl⟩:=Jv.mp hk;obtain⟨z,mz,rfl⟩:=Jv.mp my;intro e;exact ne z mz (by have:=OF e;omega)
     simp_arith only[ah,ac,IM,FW,ep];exact hK _ (bT ⟨_,rfl,g2⟩)
 · rintro ρ ⟨ks,rfl,g⟩;rw[Of]at g;simp_arith only[ah,ac,IM,FW];exact n8 (hQ (ks,none) (by show GA.GI p (t.getD 0 []).length _ _ _ _;rw[hC];exact g))
theorem m3(ks:GA.Kp)(c:Nat):mJ (eS ks) (J0 (c:Int))=(ks.find? fun z=>decide (z.1=c)).map fun z=>av z.2:=by
 unfold mJ eS
 induction ks with
 | nil=>rfl
 | cons y ks ih =>
   rw[Ji,Ka,Ka]
   have:decide ((J0 (y.1:Int):Ih)=J0 (c:Int))=decide (y.1=c):=by
    by_cases e:y.1=c
    · rw[decide_eq_true e,decide_eq_true (by rw[e])]
    · rw[decide_eq_false e,decide_eq_false fun h=>e (by have:=OF h;omega)]
   dsimp only;rw[this]
   cases decide (y.1=c)with
   | true=>rfl
   | false=>exact ih
def CU(p:Int)(t:List (List Int))(o:Option (List (List Int))):Prop:=match o with
 | none=>∃h,GA.Hg p (t.getD 0 []).length t h
 | some x=>GA.IsRi p (t.getD 0 []).length t x/\t.length<=(t.getD 0 []).length
def CY(p:Int)(t:List (List Int))(o:Option (List Int)):Prop:=match o with
 | none=>∃x,GA.IsRi p (t.getD 0 []).length t x
 | some h=>GA.Hg p (t.getD 0 []).length t h
theorem vh{p:Int}{t:List (List Int)}{z:GA.Kp×Option (List Int)}(p2:2<=p)(ht:uh p t)(h:CO p t z):CY p t z.2:=by
 obtain⟨ks,o⟩:=z
 cases o with
 | none=>exact⟨_,GA.GI.ri p2 ht.2.2.2 (show GA.GI p _ t.length t t.length ks from h)⟩
 | some x=>exact h
theorem yN(n:Nat):JM (Jp n (Jt 0))=av (Jp n 0):=by unfold av;rw[List.map_replicate]
def bc:List W->(IQ->Prop)->Prop:=fun ws Q=>∃(p:Int)(t:List (List Int)),ws=[.d (.int p),.d (tbD t)]/\((p=2\/p=3\/p=5\/p=7)/\(uh p t))/\∀o:Option (List Int),(CY p t o)->Q (optT o)
theorem bc.mono:∀ws (Q Q':IQ->Prop),(∀d,Q d->Q' d)->bc ws Q->bc ws Q':=fun _ _ _ h_ ⟨p,t,e_,p_,q_⟩=>⟨p,t,e_,p_,fun o_ ho_=>h_ _ (q_ o_ ho_)⟩
theorem bc.len:∀ws (Q:IQ->Prop),bc ws Q->ws.length=2:=fun _ _ ⟨_,_,e_,_⟩=>by subst e_;rfl
theorem bc.eq(p:Int)(t:List (List Int))(hp:p=2\/p=3\/p=5\/p=7)(ht:uh p t):bc [.d (.int p),.d (tbD t)]=Hj (anyM fun o:Option (List Int)=>CY p t o) fun o=>VL.ret (optT o:IQ):=by
 refine af fun Q=>⟨?_,fun q_=>⟨p,t,rfl,⟨hp,ht⟩,q_⟩⟩;rintro⟨p',t',e_,_,q_⟩;simp_arith only[qL]at e_;obtain⟨rfl,rfl⟩:=e_;exact q_
theorem fX:FnScope ["p", "table"] ["p", "table"] (defScope (top 9)):=⟨rfl,rfl,rfl,by decide +kernel,rfl,by decide +kernel,by decide +kernel⟩
theorem d_combination(Fn:FnIn K mg "combination" (top 9) ["p", "table"])(Z:Bz mg)(d_reduced:∀rl,DfnP P w K mg base rl "reduced" ["p", "table"] 2 bN)   : Dfn P w K mg base rl "combination" ["p", "table"] 3 bc:=by
 have sc:=fX;refine Dfn.of Fn sc (bc.mono) (bc.len) (fun cdv A outer s H E hr=>(aw (aK (Bb (m9 (d_reduced _) (hr.mono (by decide)) (aa (vn 0) (aa (vn 1) ab))) aq)))) ?_;rintro ws Q ⟨p,t,rfl,⟨hp,ht⟩,hQ⟩;refine aL ?_;simp_arith only[ah,ac,IM,FW,bN.eq]
 (with_reducible (first|refine ax fun z hz=>?_|refine aI fun z hz=>?_))
 try simp_arith only[ah,ac,IM,FW]
 exact aQ (hQ z.2 (vh (by omega) ht hz))
def aP:List W->(IQ->Prop)->Prop:=fun ws Q=>∃(p:Int)(t:List (List Int)),ws=[.d (.int p),.d (tbD t)]/\((p=2\/p=3\/p=5\/p=7)/\(uh p t))/\∀o:Option (List (List Int)),(CU p t o)->Q (optTb o)
theorem aP.mono:∀ws (Q Q':IQ->Prop),(∀d,Q d->Q' d)->aP ws Q->aP ws Q':=fun _ _ _ h_ ⟨p,t,e_,p_,q_⟩=>⟨p,t,e_,p_,fun o_ ho_=>h_ _ (q_ o_ ho_)⟩
theorem aP.len:∀ws (Q:IQ->Prop),aP ws Q->ws.length=2:=fun _ _ ⟨_,_,e_,_⟩=>by subst e_;rfl
theorem aP.eq(p:Int)(t:List (List Int))(hp:p=2\/p=3\/p=5\/p=7)(ht:uh p t):aP [.d (.int p),.d (tbD t)]=Hj (anyM fun o:Option (List (List Int))=>CU p t o) fun o=>VL.ret (optTb o:IQ):=by
 refine af fun Q=>⟨?_,fun q_=>⟨p,t,rfl,⟨hp,ht⟩,q_⟩⟩;rintro⟨p',t',e_,_,q_⟩;simp_arith only[qL]at e_;obtain⟨rfl,rfl⟩:=e_;exact q_
theorem eI:FnScope ["p", "table", "kept", "hanging", "columns", "noughts"] ["p", "table"] (defScope (top 8)):=⟨rfl,rfl,rfl,by decide +kernel,rfl,by decide +kernel,by decide +kernel⟩
theorem d_right_inverse(Fn:FnIn K mg "right_inverse" (top 8) ["p", "table"])(Z:Bz mg)(d_reduced:∀rl,DfnP P w K mg base rl "reduced" ["p", "table"] 2 bN)   : Dfn P w K mg base rl "right_inverse" ["p", "table"] 3 aP:=by
 have sc:=eI
 refine Dfn.of Fn sc (aP.mono) (aP.len) (fun cdv A outer s H E hr=>(aj (xL 2 3 rfl sc.nd (m9 (d_reduced _) (hr.mono (by decide)) (aa (vn 0) (aa (vn 1) ab))))
  (aj (eW (bF oO mT (bp _) (vn 3) gw) (aw (aK gw)) cL)
  (aj (az 4 sc.nd (eG Z.len_ (aa (lL (vn 1) aq) ab)))
  (aj (az 5 sc.nd (ya (fW (aa aq ab)) (eG Z.len_ (aa (vn 1) ab))))
  (aw (aK (bC Z.tuple_ (aa (bv ["column", "kept", "columns", "noughts"] [none,some 2,some 4,some 5] rfl (aH Z.range_ (aa (vn 4) ab)) (fun _=>(ar 0 (show KN (["column", "kept", "columns", "noughts"]:List Str) by decide +kernel))) (fun _=>cf) (fun _=>(jr (uG hr.un1 (vn 0) (vn 1)) (lK (jt hr.un1 (vn 1) (vn 0)) (cz (vn 2)) cA) (vn 3)))) ab))))))))) ?_
 rintro ws Q ⟨p,t,rfl,⟨hp,ht⟩,hQ⟩;refine aL ?_;have sz:=Js;have p2:2<=p:=by omega
 simp_arith only[ah,ac,IM,FW,bN.eq]
 (with_reducible (first|refine ax fun z hz=>?_|refine aI fun z hz=>?_))
 obtain⟨ks,o⟩:=z
 cases o with
 | some h =>
   simp_arith only[ah,ac,IM,FW,tR]
   exact aQ (hQ none ⟨h,hz⟩)
 | none =>
   obtain⟨t1,t8,c8,hf⟩:=ht;have g:GA.GI p (t.getD 0 []).length t.length t t.length ks:=hz;have ri:CU p t (some ((Jm (t.getD 0 []).length).map fun c=>GA.xrow (t.getD 0 []).length t.length ks c)):=⟨GA.GI.ri p2 hf g,g.le⟩;generalize hC:(t.getD 0 []).length=C at *;have e0:atI t 0=some (t.getD 0 []):=by rw[show(0:Int)=((0:Nat):Int)from rfl,cK (Jd t1),Jf,Jd t1];rfl
   have g1 : -(2^62)<=(C:Int)/\(C:Int)<2^62:=by omega
   simp_arith only[ah,ac,IM,FW,tS,jJ,e0,o7,jH,hC]
   have rf:JM (Jp t.length [Jt 0]).flatten=av (Jp t.length 0):=by
    rw[<- yN];congr 1;generalize t.length=n
    induction n with
    | zero=>rfl
    | succ n ih=>rw[Km,Km,Lx,ih];rfl
   rw[rf];refine bB ⟨by simp,by omega,by omega⟩ ?_;refine eV (fun c=>av (GA.xrow C t.length ks c)) ?_ (by omega) ?_
   · intro c hc;have ek:(0+(c:Int))=(c:Int):=L4 _;have vf:=m3 ks c
     cases hf:ks.find? (fun z=>decide (z.1=c))with
     | none =>
       rw[hf]at vf;have ex:GA.xrow C t.length ks c=Jp t.length 0:=by unfold GA.xrow;rw[hf]
       simp_arith only[ah,ac,IM,FW,GM,ek,vf,Option.map_none,Option.isSome_none,ex]
     | some z =>
       rw[hf]at vf;have ex:GA.xrow C t.length ks c=z.2.drop C:=by unfold GA.xrow;rw[hf]
       simp_arith only[ah,ac,IM,FW,GM,ek,vf,Option.map_some,N8,ex,cq,Cy,cM]
   · rw[kX];exact aQ (hQ _ ri)
def shp:Nat->Nat->List (List Int)
 | 0,_=>[]
 | 1,w=>[[(w:Int)]]
 | m+2,w=>(Jm (w+1)).flatMap fun f=>(shp (m+1) (w-f)).map fun r=>(f:Int)::r
theorem tI{c:Nat}{f:Nat->Nat}(h:∀i,i<n->f i<=c):((Jm n).map f).sum<=n*c:=by
 induction n with
 | zero=>simp
 | succ n ih =>
   rw[M6,JW,Pk];have h1:=ih fun i hi=>h i (by omega);have h2:=h n (by omega);simp[Qg];omega
theorem gR:∀(m w:Nat),w<=5->(shp (m+1) w).length<=6^m
 | 0,w,_=>by simp[shp]
 | m+1,w,h=>by
   rw[shp,LC];refine JF (tI (c:=6^m) fun f _=>?_) ?_
   · rw[I_];exact gR m (w-f) (by omega)
   · rw[Oc,N_];exact NO _ (by omega)
theorem e8:∀(m w:Nat)(r:List Int),r∈shp (m+1) w->r.length=m+1/\(∀k∈r,0<=k)/\r.sum=w
 | 0,w,r,h=>by
   simp[shp]at h;subst h
   simp
 | m+1,w,r,h=>by
   rw[shp,Mg]at h;obtain⟨f,hf,h⟩:=h;rw[Kd]at hf;obtain⟨q,mq,rfl⟩:=Jv.mp h;obtain⟨a,b,c⟩:=e8 m (w-f) q mq;refine⟨by rw[JG,a],fun k mk=>?_,?_⟩
   · rcases JA.mp mk with rfl|mk
     · omega
     · exact b k mk
   · rw[Kc,c];omega
def aC:Nat->List W->(IQ->Prop)->Prop
 | 0,_,_=>False
 | n+1,ws,Q=>∃m w:Int,ws=[.d (.int m),.d (.int w)]/\(1<=m/\m<=n+1/\n<=3/\0<=w/\w<=5)/\Q (.list ((shp m.toNat w.toNat).map av))
theorem aC.mono:∀n ws (Q Q':IQ->Prop),(∀d,Q d->Q' d)->aC n ws Q->aC n ws Q'
 | 0,_,_,_,_,z=>z
 | _+1,_,_,_,h,⟨m,w,e,p,q⟩=>⟨m,w,e,p,h _ q⟩
theorem aC.len:∀n ws (Q:IQ->Prop),aC n ws Q->ws.length=2
 | 0,_,_,z=>z.elim
 | _+1,_,_,⟨_,_,e,_⟩=>by subst e;rfl
theorem aC.eqn(n:Nat)(m w:Int)(h:1<=m/\m<=n+1/\n<=3/\0<=w/\w<=5):aC (n+1) [.d (.int m),.d (.int w)]=VL.ret (MJ ((shp m.toNat w.toNat).map av)):=by
 refine af fun Q=>⟨?_,fun q=>⟨m,w,rfl,h,q⟩⟩;rintro⟨m',w',e,_,q⟩;simp only[Ku,W.d.injEq,OR,and_true]at e;obtain⟨rfl,rfl⟩:=e;exact q
theorem iA:FnScope ["many", "w"] ["many", "w"] (defScope (top 11)):=⟨rfl,rfl,rfl,by decide +kernel,rfl,by decide +kernel,by decide +kernel⟩
theorem bU(n:Nat)(Fn:FnIn K mg "shapes_of" (top 11) ["many", "w"])(Z:Bz mg)(d_shapes_of:∀rl,Dfn P w K mg base rl "shapes_of" ["many", "w"] (0+n) (aC n)):Dfn P w K mg base rl "shapes_of" ["many", "w"] (0+n+1) (aC (n+1)):=by
 have sc:=iA
 refine Dfn.of Fn sc (aC.mono _) (aC.len _) (fun cdv A outer s H E hr=>(aj (eW (bF (dh hr.units) cj (bp _) (vn 0) aq) (aw (aK (cQ (aa (fW (aa (vn 1) ab)) ab)))) cL)
  (aw (aK (qC ["first", "rest", "many", "w"] [none,none,some 0,some 1] rfl (aH Z.range_ (aa (v_add (vn 1) aq) ab)) (fun _=>(ar 0 (show KN (["first", "rest", "many", "w"]:List Str) by decide +kernel))) (fun _=>cf) (fun _=>(di (bo (d_shapes_of _) (hr.mono (by omega)) (aa (v_sub (vn 2) aq) (aa (v_sub (vn 3) (vn 0)) ab))))) (fun _=>(ar 1 (show KN (["first", "rest", "many", "w"]:List Str) by decide +kernel))) (fun _=>cf) (fun _=>(io (fW (aa (vn 0) ab)) (vn 1)))))))) ?_
 rintro ws Q ⟨m,w,rfl,⟨m1,mn,n3,w0,w5⟩,hQ⟩;refine aL ?_;have sz:=Js;by_cases h1:m=1
 · subst h1
   have e:(shp (MX 1) w.toNat).map av=[JM [.int w]]:=by
    show [av [((w.toNat:Nat):Int)]]=_;rw[KG w0];rfl
   rw[e]at hQ;simp_arith only[ah,ac];exact gW hQ
 · have t1:(m==1)=false:=by simpa using h1
   obtain⟨n',rfl⟩:∃n',n=n'+1:=⟨n-1,by omega⟩;obtain⟨j,ej⟩:∃j:Nat,m.toNat=j+2:=⟨m.toNat-2,by omega⟩;have g1 : -(2^62)<=w+1/\w+1<2^62:=by omega
   have lb:=gR (j+1) w.toNat (by omega);have j2:j<=2:=by omega
   have l216:(shp (j+1+1) w.toNat).length<=216:=JF lb (JF (Jz (by decide) (show j+1<=3 by omega)) (by decide))
   have eF:(Jm (w+1).toNat).flatMap (fun k:Nat=>(shp (j+1) (w.toNat-k)).map fun r=>av ((k:Int)::r))=(shp m.toNat w.toNat).map av:=by
    rw[ej,shp,Nz,show(w+1).toNat=w.toNat+1 by omega];congr 1;funext f;rw[Kf];rfl
   simp_arith only[ah,ac,IP,t1];refine CG (xs:=Jm (w+1).toNat) (enc:=fun k:Nat=>Jt (0+(k:Int))) (fun k=>(shp (j+1) (w.toNat-k)).map fun r=>av ((k:Int)::r)) rfl ?_ ?_ ?_
   · intro k mk acc hl;have hk:k<(w+1).toNat:=Kd.mp mk;have en:=aC.eqn n' (m-1) (w-(0+(k:Int))) (by omega);rw[show(m-1).toNat=j+1 by omega,show(w-(0+(k:Int))).toNat=w.toNat-k by omega]at en;have ml:=e8 j (w.toNat-k);simp_arith only[ah,ac,t6,en];rw[I_]at hl;have hc:=dM (b:=GM [some (W.d (Jt (0+(k:Int)))),none,some (W.d (Jt m)),some (W.d (Jt w))] (wF 1) (fun x Q=>Q true) (Fm pB (yf (ip (xA 0) tw)) (xA 1))) (enc:=av) (fun r=>some (av ((k:Int)::r))) (shp (j+1) (w.toNat-k)) acc ?_ hl
     · rw[hc,O0]
     · intro r mr;obtain⟨r1,_⟩:=ml r mr;have ek:(0+(k:Int))=(k:Int):=L4 _;have rz:1+r.length<=sizeLine:=by omega
       simp_arith only[ah,ac,GM,cq];rw[ek];rfl
   · rw[eF,I_,ej];show(shp (j+1+1) w.toNat).length<=_;omega
   · rw[eF];exact gW hQ
theorem d_shapes_of(Fn:FnIn K mg "shapes_of" (top 11) ["many", "w"])(Z:Bz mg)    : Dfn P w K mg base rl "shapes_of" ["many", "w"] 4 (aC 4):=by
 have d0:∀rl,Dfn P w K mg base rl "shapes_of" ["many", "w"] 0 (aC 0):=fun rl=>Dfn.never Fn;have d1:∀rl,Dfn P w K mg base rl "shapes_of" ["many", "w"] 1 (aC 1):=fun rl=>bU 0 Fn Z    d0;have d2:∀rl,Dfn P w K mg base rl "shapes_of" ["many", "w"] 2 (aC 2):=fun rl=>bU 1 Fn Z    d1;have d3:∀rl,Dfn P w K mg base rl "shapes_of" ["many", "w"] 3 (aC 3):=fun rl=>bU 2 Fn Z    d2;have d4:∀rl,Dfn P w K mg base rl "shapes_of" ["many", "w"] 4 (aC 4):=fun rl=>bU 3 Fn Z    d3;exact d4 rl
def rowsT(ts:List (List (List Int)))(ks:List Int):List (List Int):=(ts.zip ks).flatMap fun z=>z.1.take z.2.toNat
theorem xJ(ts:List (List (List Int)))(ks:List Int):ie (ts.map tbD) (ks.map Jt)=(ts.zip ks).map fun z=>JM [tbD z.1,.int z.2]:=jZ tbD Jt ts ks
theorem tH(h:∀x∈ks,0<=x):0<=ks.sum:=by
 induction ks with
 | nil=>simp
 | cons a l ihl=>rw[Kc];have:=ihl fun y my=>h y (IT _ my);have:=h a IV;omega
theorem Ag(f:α->IQ)(xs:List α){k:Int}(h:0<=k):VL.cutD (xs.map f) none (some k)=(xs.take k.toNat).map f:=by
 unfold VL.cutD;rw[fA h,I_];show(((xs.map f).drop 0).take (min k.toNat xs.length-0))=_;rw[Og,Oa,<- M_];congr 1;rw[List.take_eq_take_iff];omega
theorem zj{o:Option α}{a:α}{k:α->Mo β}{Q:β->Prop}(e:o=some a)(h:k a Q):aD o k Q:=by rw[e,opt_some];exact h
def bY:List W->(IQ->Prop)->Prop:=fun ws Q=>∃(ts:List (List (List Int)))(ks:List Int),ws=[.d (tbsD ts),.d (av ks)]/\((ts.length<=4)/\(∀t∈ts,t.length<=8)/\(∀k∈ks,0<=k))/\Q (tbD (rowsT ts ks))
theorem bY.mono:∀ws (Q Q':IQ->Prop),(∀d,Q d->Q' d)->bY ws Q->bY ws Q':=fun _ _ _ h_ ⟨ts,ks,e_,p_,q_⟩=>⟨ts,ks,e_,p_,h_ _ q_⟩
theorem bY.len:∀ws (Q:IQ->Prop),bY ws Q->ws.length=2:=fun _ _ ⟨_,_,e_,_⟩=>by subst e_;rfl
theorem bY.eq(ts:List (List (List Int)))(ks:List Int)(t4:ts.length<=4)(t8:∀t∈ts,t.length<=8)(hk:∀k∈ks,0<=k):bY [.d (tbsD ts),.d (av ks)]=VL.ret (tbD (rowsT ts ks):IQ):=by
 refine af fun Q=>⟨?_,fun q_=>⟨ts,ks,rfl,⟨t4,t8,hk⟩,q_⟩⟩;rintro⟨ts',ks',e_,_,q_⟩;simp_arith only[kD]at e_;obtain⟨rfl,rfl⟩:=e_;exact q_
theorem lP:FnScope ["tables", "shape", "rows", "table", "k"] ["tables", "shape"] (defScope (top 12)):=⟨rfl,rfl,rfl,by decide +kernel,rfl,by decide +kernel,by decide +kernel⟩
theorem d_rows_of(Fn:FnIn K mg "rows_of" (top 12) ["tables", "shape"])(Z:Bz mg)    : Dfn P w K mg base rl "rows_of" ["tables", "shape"] 1 bY:=by
 have sc:=lP
 refine Dfn.of Fn sc (bY.mono) (bY.len) (fun cdv A outer s H E hr=>(aj (az 2 sc.nd (fW ab))
  (aj (ba [3,4] JL rfl (eK Z.zip_ (aa (vn 0) (aa (vn 1) ab))) (d_ (n:=2) rfl (aX (ar 3 sc.nd) (aX (ar 4 sc.nd) cP))) (aw (ux 2 sc.nd (lK (vn 3) cA (cz (vn 4))))))
  (aw (aK (vn 2)))))) ?_
 rintro ws Q ⟨ts,ks,rfl,⟨t4,t8,hk⟩,hQ⟩;refine aL ?_;have sz:=Js
 have zo:(if(match tbsD ts with|JM xs=>true|x=>false)=true/\(match av ks with|JM xs=>true|x=>false)=true then(eh (tbsD ts)).bind fun xs=>Option.map (fun ys=>ie xs ys) (eh (av ks))else none)=some ((ts.zip ks).map fun z=>JM [tbD z.1,.int z.2]):=by
  show some (ie (ts.map tbD) (ks.map Jt))=_;rw[xJ]
 simp_arith only[ah,ac,tM,FU];refine FR (zj zo ?_);have zl:(ts.zip ks).length<=4:=by rw[NW];omega
 refine fI (xs:=ts.zip ks) (enc:=fun z=>JM [tbD z.1,.int z.2]) (fun i ρ=>ρ=[some (.d (tbsD ts)),some (.d (av ks)),some (.d (.tuple (((ts.zip ks).take i).flatMap fun z=>(z.1.take z.2.toNat).map av))),none,none]) rfl rfl ?_ ?_
 · rintro i hi ρ rfl K hK;obtain⟨m1,m2⟩:((ts.zip ks)[i]).1∈ts/\((ts.zip ks)[i]).2∈ks:=K8 (JP hi);have k0:=hk _ m2;have l8:=t8 _ m1;have ec:VL.cutD (((ts.zip ks)[i]).1.map av) none (some ((ts.zip ks)[i]).2)=(((ts.zip ks)[i]).1.take ((ts.zip ks)[i]).2.toNat).map av:=Ag av _ k0
   have lb:(((ts.zip ks).take i).flatMap fun z=>(z.1.take z.2.toNat).map av).length<=32:=by
    rw[LC]
    have hs:∀n (l:List (List (List Int)×Int)),(∀z∈l,z.1.length<=8)->l.length<=n->(l.map fun z=>((z.1.take z.2.toNat).map av).length).sum<=8*n:=by
     intro n l
     induction l generalizing n with
     | nil=>intro _ _;simp
     | cons a l ih =>
       intro h1 h2;rw[JG]at h2;obtain⟨n',rfl⟩:∃n',n=n'+1:=⟨n-1,by omega⟩;have q1:=ih n' (fun z mz=>h1 z (IT _ mz)) (by omega);have q2:=h1 a IV;rw[Ji,Kc,I_,JB];omega
    exact hs 4 _ (fun z mz=>t8 _ (K8 (Lb mz)).1) (by rw[JB];omega)
   have eT:tbD ((ts.zip ks)[i]).1 = .tuple (((ts.zip ks)[i]).1.map av):=rfl
   have es:(((ts.zip ks).take i).flatMap fun z=>(z.1.take z.2.toNat).map av)++(((ts.zip ks)[i]).1.take ((ts.zip ks)[i]).2.toNat).map av=((ts.zip ks).take (i+1)).flatMap fun z=>(z.1.take z.2.toNat).map av:=by
    rw[KQ hi,NY];simp
   have l2:((((ts.zip ks)[i]).1.take ((ts.zip ks)[i]).2.toNat).map av).length<=8:=by rw[I_,JB];omega
   have lz:(((ts.zip ks).take i).flatMap fun z=>(z.1.take z.2.toNat).map av).length+(((ts.zip ks)[i]).1.take ((ts.zip ks)[i]).2.toNat).length<=sizeLine:=by rw[JB];omega
   simp_arith only[ah,ac,tM,FU,eT,ec,es];exact hK _ (bT rfl)
 · rintro ρ rfl;rw[JQ (Jb _)]
   have er:JM ((ts.zip ks).flatMap fun z=>(z.1.take z.2.toNat).map av)=tbD (rowsT ts ks):=by
    unfold tbD rowsT;rw[Nz]
   simp_arith only[ah,ac,er];exact aQ hQ
theorem t3:∀{ks:List Int},(∀x∈ks,0<=x)->∀k∈ks,k<=ks.sum
 | [],_,k,mk=>by simp at mk
 | a::l,h,k,mk=>by
   rw[Kc];have s0:0<=l.sum:=tH fun x mx=>h x (IT _ mx);have a0:=h a IV;rcases JA.mp mk with rfl|mk
   · omega
   · have:=t3 (fun x mx=>h x (IT _ mx)) k mk;omega
theorem kG:∀(ts:List (List (List Int)))(ks:List Int)(m:Nat),(∀t∈ts,t.length=m)->ks.length=ts.length->(∀k∈ks,0<=k/\k<=m)->((rowsT ts ks).length:Int)=ks.sum
 | [],[],m,_,_,_=>rfl
 | [],_::_,_,_,h,_=>by simp at h
 | _::_,[],_,_,h,_=>by simp at h
 | t::ts,k::ks,m,ht,hl,hk=>by
   have ih:=kG ts ks m (fun u mu=>ht u (IT _ mu)) (by simpa using hl) (fun x mx=>hk x (IT _ mx));obtain⟨k0,km⟩:=hk k IV;have tl:=ht t IV;show((t.take k.toNat++rowsT ts ks).length:Int)=_;rw[JH,JB,Kc];omega
theorem qP{row:List Int}(h:row∈rowsT ts ks):∃t∈ts,row∈t:=by
 obtain⟨z,mz,hr⟩:=Mg.mp h;exact⟨z.1,(K8 mz).1,Lb hr⟩
def fE:Nat->List W->(List IQ->Prop)->Prop
 | 0,_,_=>False
 | n+1,ws,Q=>∃m w:Int,ws=[.d (.int m),.d (.int w)]/\(1<=m/\m<=n+1/\n<=3/\0<=w/\w<=5)/\Q ((shp m.toNat w.toNat).map av)
theorem fE.mono:∀n ws (Q Q':List IQ->Prop),(∀d,Q d->Q' d)->fE n ws Q->fE n ws Q'
 | 0,_,_,_,_,z=>z
 | _+1,_,_,_,h,⟨m,w,e,p,q⟩=>⟨m,w,e,p,h _ q⟩
theorem fE.len:∀n ws (Q:List IQ->Prop),fE n ws Q->ws.length=2
 | 0,_,_,z=>z.elim
 | _+1,_,_,⟨_,_,e,_⟩=>by subst e;rfl
def GV:Nat->Nat->List (List Int)
 | 0,_=>[[]]
 | i+1,w=>(Jm (w+1)).flatMap fun f=>(GV i (w-f)).map fun r=>(f:Int)::r
theorem pj:∀(i w:Nat)(r:List Int),r∈GV i w->r.length=i/\(∀k∈r,0<=k)/\r.sum<=w
 | 0,w,r,h=>by simp[GV]at h;subst h;simp
 | i+1,w,r,h=>by
   rw[GV,Mg]at h;obtain⟨f,hf,h⟩:=h;rw[Kd]at hf;obtain⟨q,mq,rfl⟩:=Jv.mp h;obtain⟨a,b,c⟩:=pj i (w-f) q mq;refine⟨by rw[JG,a],fun k mk=>?_,?_⟩
   · rcases JA.mp mk with rfl|mk
     · omega
     · exact b k mk
   · rw[Kc];omega
theorem hX:∀(i w:Nat),GV (i+1) w=(GV i w).flatMap fun r=>(Jm ((w:Int)-r.sum+1).toNat).map fun k:Nat=>r++[(k:Int)]
 | 0,w=>by
   show(Jm (w+1)).flatMap (fun f:Nat=>([[]]:List (List Int)).map fun r=>(f:Int)::r)=([[]]:List (List Int)).flatMap _;rw[KW,OT,Kl,List.sum_nil,show((w:Int)-0+1).toNat=w+1 by omega]
   induction Jm (w+1)with
   | nil=>rfl
   | cons a l ih=>rw[KW,ih];rfl
 | i+1,w=>by
   rw[GV]
   conv=>rhs;rw[GV,List.flatMap_assoc]
   rw[Mh,Mh];congr 1;refine J7 fun f hf=>?_;rw[Kd]at hf;rw[hX i (w-f),Nz,List.flatMap_map];rw[Mh,Mh];congr 1;refine J7 fun r mr=>?_;rw[Kf,Kc,show((((w-f:Nat):Nat):Int)-r.sum+1)=(w:Int)-((f:Int)+r.sum)+1 by omega];rfl
theorem lm:∀(i w:Nat),(GV (i+1) w).filter (fun r=>decide (r.sum=(w:Int)))=shp (i+1) w
 | 0,w=>by
   have e:GV 1 w=(Jm (w+1)).map fun f:Nat=>[(f:Int)]:=by
    rw[hX];show([[]]:List (List Int)).flatMap _=_;rw[KW,OT,Kl,List.sum_nil,show((w:Int)-0+1).toNat=w+1 by omega];rfl
   rw[e,M6,JW,List.filter_append]
   have e1:((Jm w).map fun f:Nat=>[(f:Int)]).filter (fun r=>decide (r.sum=(w:Int)))=[]:=by
    rw[Nd];intro r mr;obtain⟨f,hf,rfl⟩:=Jv.mp mr;rw[Kd]at hf;simp;omega
   rw[e1]
   simp[shp]
 | i+1,w=>by
   rw[GV,List.filter_flatMap,shp,Mh,Mh];congr 1;refine J7 fun f hf=>?_;rw[Kd]at hf;rw[List.filter_map,<- lm i (w-f)];congr 1;refine List.filter_congr fun r _=>?_;show decide (((f:Int)::r).sum=(w:Int))=decide (r.sum=((w-f:Nat):Int));rw[Kc];congr 1;exact propext ⟨fun h=>by omega,fun h=>by omega⟩
theorem jM:∀(i w:Nat),w<=5->(GV i w).length<=6^i
 | 0,w,_=>by simp[GV]
 | i+1,w,h=>by
   rw[GV,LC];refine JF (tI (c:=6^i) fun f _=>?_) ?_
   · rw[I_];exact jM i (w-f) (by omega)
   · rw[Oc,N_];exact NO _ (by omega)
def bf:List W->(IQ->Prop)->Prop:=fun ws Q=>∃(s w:Int),ws=[.d (.int s),.d (.int w)]/\((1<=s)/\(s<=4)/\(0<=w)/\(w<=5))/\Q (.list ((shp s.toNat w.toNat).map av))
theorem bf.mono:∀ws (Q Q':IQ->Prop),(∀d,Q d->Q' d)->bf ws Q->bf ws Q':=fun _ _ _ h_ ⟨s,w,e_,p_,q_⟩=>⟨s,w,e_,p_,h_ _ q_⟩
theorem bf.len:∀ws (Q:IQ->Prop),bf ws Q->ws.length=2:=fun _ _ ⟨_,_,e_,_⟩=>by subst e_;rfl
theorem bf.eq(s w:Int)(s1:1<=s)(s4:s<=4)(w0:0<=w)(w5:w<=5):bf [.d (.int s),.d (.int w)]=VL.ret (.list ((shp s.toNat w.toNat).map av):IQ):=by
 refine af fun Q=>⟨?_,fun q_=>⟨s,w,rfl,⟨s1,s4,w0,w5⟩,q_⟩⟩;rintro⟨s',w',e_,_,q_⟩;simp_arith only[and_true]at e_;obtain⟨rfl,rfl⟩:=e_;exact q_
theorem fZ:FnScope ["_law_many", "_law_w", "_law_found", "_law_side", "_law_longer", "_law_one"] ["_law_many", "_law_w"] (defScope (top 30)):=⟨rfl,rfl,rfl,by decide +kernel,rfl,by decide +kernel,by decide +kernel⟩
theorem d__law_shapes(Fn:FnIn K mg "_law_shapes" (top 30) ["_law_many", "_law_w"])(Z:Bz mg)    : Dfn P w K mg base rl "_law_shapes" ["_law_many", "_law_w"] 1 bf:=by
 have sc:=fZ
 refine Dfn.of Fn sc (bf.mono) (bf.len) (fun cdv A outer s H E hr=>(aj (az 2 sc.nd (cQ (aa (fW ab) ab)))
  (aj (ba [3,4,5] JL rfl (aH Z.range_ (aa (vn 0) ab)) (ar 3 sc.nd) (aj (bS 4 sc.nd (cQ ab))
  (aj (ba [5] JL rfl (di (vn 2)) (ar 5 sc.nd) (aw (xM 4 (aa (bv ["_law_k", "_law_one"] [none,some 5] rfl (aH Z.range_ (aa (v_add (v_sub (vn 1) (sZ Z.sum_ (aa (vn 5) ab))) aq) ab)) (fun _=>(ar 0 (show KN (["_law_k", "_law_one"]:List Str) by decide +kernel))) (fun _=>cf) (fun _=>(io (vn 1) (fW (aa (vn 0) ab))))) ab))))
  (aw (ka 4 (az 2 sc.nd (vn 4)))))))
  (aw (aK (bv ["_law_one", "_law_w"] [none,some 1] rfl (di (vn 2)) (fun _=>(ar 0 (show KN (["_law_one", "_law_w"]:List Str) by decide +kernel))) (fun _=>mO (bF (dh hr.units) cj (bp _) (sZ Z.sum_ (aa (vn 0) ab)) (vn 1))) (fun _=>(vn 0)))))))) ?_
 rintro ws Q ⟨s,w,rfl,⟨s1,s4,w0,w5⟩,hQ⟩;refine aL ?_;have sz:=Js;have g1 : -(2^62)<=s/\s<2^62:=by omega
 have wn:((w.toNat:Nat):Int)=w:=KG w0;simp_arith only[ah,ac];refine cH (fun i ρ=>ρ=[some (.d (.int s)),some (.d (.int w)),some (.d (.list ((GV i w.toNat).map av))),none,none,none]) rfl ?_ ?_
 · rintro i hi ρ rfl K hK;have gm:=pj i w.toNat;have gs:=hX i w.toNat;have gl:=jM (i+1) w.toNat (by omega);have gl4:(GV (i+1) w.toNat).length<=1296:=JF gl (JF (Jz (by decide) (show i+1<=4 by omega)) (by decide));simp_arith only[ah,ac];refine fI (xs:=GV i w.toNat) (enc:=av) (fun j ρ=>ρ=[some (.d (.int s)),some (.d (.int w)),some (.d (.list ((GV i w.toNat).map av))),some (.d (.int (0+(i:Int)))),some (.ml (((GV i w.toNat).take j).flatMap fun r=>(Jm ((w.toNat:Int)-r.sum+1).toNat).map fun k:Nat=>av (r++[(k:Int)]))),none]) rfl rfl ?_ ?_
   · rintro j hj ρ rfl K2 hK2;obtain⟨rl',rn,rs⟩:=gm _ (JP hj);generalize hr:(GV i w.toNat)[j]=r at *;have s0:=tH rn;have g2 : -(2^62)<=w-r.sum+1/\w-r.sum+1<2^62:=by omega
     have ti:mj (av r)=some r:=hV r
     have fl1:(((GV i w.toNat).take j).flatMap fun r=>(Jm ((w.toNat:Int)-r.sum+1).toNat).map fun k:Nat=>av (r++[(k:Int)])).length<=1296:=by
      have e1:(GV i w.toNat).flatMap (fun r=>(Jm ((w.toNat:Int)-r.sum+1).toNat).map fun k:Nat=>av (r++[(k:Int)]))=((GV i w.toNat).take j).flatMap (fun r=>(Jm ((w.toNat:Int)-r.sum+1).toNat).map fun k:Nat=>av (r++[(k:Int)]))++((GV i w.toNat).drop j).flatMap fun r=>(Jm ((w.toNat:Int)-r.sum+1).toNat).map fun k:Nat=>av (r++[(k:Int)]):=by
       rw[<- NY,LR]
      have e2:((GV i w.toNat).flatMap (fun r=>(Jm ((w.toNat:Int)-r.sum+1).toNat).map fun k:Nat=>av (r++[(k:Int)]))).length=(GV (i+1) w.toNat).length:=by
       rw[gs,LC,LC];simp only[I_]
      have e3:=congrArg Nh e1;rw[JH,e2]at e3;omega
     simp_arith only[ah,ac,oU,ti];refine eV (fun k:Nat=>av (r++[(k:Int)])) ?_ (by omega) ?_
     · intro k hk;have rz:r.length+1<=sizeLine:=by omega
       have et:JM (r.map Jt++[Jt (0+(k:Int))])=av (r++[(k:Int)]):=by unfold av;rw[JW,L4];rfl
       simp_arith only[ah,ac,GM,Au,cq,et]
     have l2:((Jm (w-r.sum+1).toNat).map fun k:Nat=>av (r++[(k:Int)])).length<=6:=by rw[I_,KA];omega
     refine bB (by omega) ?_;refine hK2 _ (bT ?_);rw[KQ hj,NY,hr,wn];simp only[KW,OT,Kl];rfl
   · rintro ρ rfl;rw[JQ (Jb _)]
     have e1:((GV i w.toNat).flatMap fun r=>(Jm ((w.toNat:Int)-r.sum+1).toNat).map fun k:Nat=>av (r++[(k:Int)]))=(GV (i+1) w.toNat).map av:=by
      rw[gs,Nz];congr 1;funext r;rw[Kf];rfl
     rw[e1];simp_arith only[ah,ac];exact hK _ (bT rfl)
 · rintro ρ rfl;have gl:=jM s.toNat w.toNat (by omega);have gl4:(GV s.toNat w.toNat).length<=1296:=JF gl (JF (Jz (by decide) (show s.toNat<=4 by omega)) (by decide));have gf:=lm (s.toNat-1) w.toNat;rw[show s.toNat-1+1=s.toNat by omega,wn]at gf;simp_arith only[ah,ac];refine uf (xs:=GV s.toNat w.toNat) (enc:=av) (fun r=>if decide (r.sum=w)=true then some (av r)else none) rfl ?_ (by omega) ?_
   · intro r mr;have ti:mj (av r)=some r:=hV r;have eb:(r.sum==w)=decide (r.sum=w):=by rw[Lz];simp
     simp_arith only[ah,ac,GM,oU,ti,eqv_ii,eb]
     try (split<;>rfl)
   · have ef:(GV s.toNat w.toNat).filterMap (fun r=>if decide (r.sum=w)=true then some (av r)else none)=(shp s.toNat w.toNat).map av:=by
       rw[<- gf]
       induction GV s.toNat w.toNat with
       | nil=>rfl
       | cons a l ih =>
         by_cases z:a.sum=w
         · rw[L7,Nv];simp[z];simpa using ih
         · rw[L7,Nv];simp[z];simpa using ih
     rw[ef];exact gW hQ
theorem jw:∀(n w:Nat)(r:List Int),r.length=n+1->(∀k∈r,0<=k)->r.sum=w->r∈shp (n+1) w
 | 0,w,r,hl,h0,hs=>by
   obtain⟨a,rfl⟩:∃a,r=[a]:=by cases r with|nil=>simp at hl|cons a r=>cases r with|nil=>exact⟨a,rfl⟩|cons b r=>simp at hl
   simp at hs;subst hs
   simp[shp]
 | n+1,w,r,hl,h0,hs=>by
   cases r with
   | nil=>simp at hl
   | cons a r =>
     rw[Kc]at hs;have a0:=h0 a IV;have r0:∀k∈r,0<=k:=fun k hk=>h0 k (IT _ hk)
     have s0:0<=r.sum:=by
      clear hl hs h0
      induction r with
      | nil=>exact NQ _
      | cons x r ih=>rw[Kc];have:=r0 x IV;have:=ih (fun k hk=>r0 k (IT _ hk));omega
     rw[shp,Mg];refine⟨a.toNat,Kd.mpr (by omega),Jv.mpr ⟨r,jw n (w-a.toNat) r (by simpa using hl) r0 (by omega),?_⟩⟩;rw[KG a0]
abbrev hdM(ts:List (List (List Int))):Nat:=(ts.headD []).length
theorem u_{p:Int}(ht:jn p m ts)(m5:m<=5)(kl:ks.length=ts.length)(k0:∀k∈ks,0<=k)(w1:1<=ks.sum)(wm:ks.sum<=m):uh p (rowsT ts ks)/\((rowsT ts ks).getD 0 []).length=m:=by
 have km:∀k∈ks,0<=k/\k<=(m:Int):=fun k mk=>⟨k0 k mk,by have:=t3 k0 k mk;omega⟩;have rl:=kG ts ks m (fun t mt=>(ht.2.2 t mt).1) kl km
 have al:∀r∈rowsT ts ks,GA.Fg p m r:=fun r mr=>by
  obtain⟨t,mt,hr⟩:=qP mr;exact AG ((ht.2.2 t mt).2 r hr).1 ((ht.2.2 t mt).2 r hr).2
 have l0:0<(rowsT ts ks).length:=by omega
 have e0:((rowsT ts ks).getD 0 []).length=m:=by rw[Jf,Jd l0];exact(al _ (JP l0)).1
 exact⟨⟨l0,by omega,by omega,by rw[e0];exact al⟩,e0⟩
def DT(p:Int)(ts:List (List (List Int)))(w:Int)(d:IQ):Prop:=(GA.Net p (hdM ts) ts w/\∃x,d = .tuple [.str "net", x])\/(¬GA.Net p (hdM ts) ts w/\∃x y,d = .tuple [.str "none", x,y])
theorem Pm.pr{p m:Int}(h:Pm p m):p=2\/p=3\/p=5\/p=7:=h.1
def bD:List W->(IQ->Prop)->Prop:=fun ws Q=>∃(p:Int)(ts:List (List (List Int)))(w:Int),ws=[.d (.int p),.d (tbsD ts),.d (.int w)]/\((∃m:Int,Pm p m/\jn p m.toNat ts/\m.toNat=hdM ts/\1<=w/\w<=m))/\∀d:IQ,(DT p ts w d)->Q (d)
theorem bD.mono:∀ws (Q Q':IQ->Prop),(∀d,Q d->Q' d)->bD ws Q->bD ws Q':=fun _ _ _ h_ ⟨p,ts,w,e_,p_,q_⟩=>⟨p,ts,w,e_,p_,fun o_ ho_=>h_ _ (q_ o_ ho_)⟩
theorem bD.len:∀ws (Q:IQ->Prop),bD ws Q->ws.length=3:=fun _ _ ⟨_,_,_,e_,_⟩=>by subst e_;rfl
theorem bD.eq(p:Int)(ts:List (List (List Int)))(w:Int)(hm:∃m:Int,Pm p m/\jn p m.toNat ts/\m.toNat=hdM ts/\1<=w/\w<=m):bD [.d (.int p),.d (tbsD ts),.d (.int w)]=Hj (anyM fun d:IQ=>DT p ts w d) fun d=>VL.ret (d:IQ):=by
 refine af fun Q=>⟨?_,fun q_=>⟨p,ts,w,rfl,hm,q_⟩⟩;rintro⟨p',ts',w',e_,_,q_⟩;simp_arith only[kD]at e_;obtain⟨rfl,rfl,rfl⟩:=e_;exact q_
theorem iB:FnScope ["p", "tables", "w", "inverses", "shape", "rows", "hanging"] ["p", "tables", "w"] (defScope (top 14)):=⟨rfl,rfl,rfl,by decide +kernel,rfl,by decide +kernel,by decide +kernel⟩
theorem d_net_paper(Fn:FnIn K mg "net_paper" (top 14) ["p", "tables", "w"])(Z:Bz mg)(d_shapes_of:∀rl,Dfn P w K mg base rl "shapes_of" ["many", "w"] 4 (aC 4))(d_rows_of:∀rl,Dfn P w K mg base rl "rows_of" ["tables", "shape"] 1 bY)(d_combination:∀rl,Dfn P w K mg base rl "combination" ["p", "table"] 3 bc)(d_right_inverse:∀rl,Dfn P w K mg base rl "right_inverse" ["p", "table"] 3 aP)   : Dfn P w K mg base rl "net_paper" ["p", "tables", "w"] 5 bD:=by
 have sc:=iB
 refine Dfn.of Fn sc (bD.mono) (bD.len) (fun cdv A outer s H E hr=>(aj (bS 3 sc.nd (cQ ab))
  (aj (ba [4,5,6] JL rfl (di (bo (d_shapes_of _) (hr.mono (by decide)) (aa (eG Z.len_ (aa (vn 1) ab)) (aa (vn 2) ab)))) (ar 4 sc.nd) (aj (az 5 sc.nd (bo (d_rows_of _) (hr.mono (by decide)) (aa (vn 1) (aa (vn 4) ab))))
  (aj (az 6 sc.nd (bo (d_combination _) (hr.mono (by decide)) (aa (vn 0) (aa (vn 5) ab))))
  (aj (eW (bF oO mT (bp _) (vn 6) gw) (aw (aK (fW (aa ox (aa (vn 4) (aa (vn 6) ab)))))) cL)
  (aw (d9 3 (aa (bo (d_right_inverse _) (hr.mono (by decide)) (aa (vn 0) (aa (vn 5) ab))) ab)))))))
  (aw (aK (fW (aa ox (aa (bC Z.tuple_ (aa (vn 3) ab)) ab)))))))) ?_
 rintro ws Q ⟨p,ts,w,rfl,hm,hQ⟩;refine aL ?_;have sz:=Js;obtain⟨m,pm,ht,hh,w1,wm⟩:=hm;obtain⟨w40,p2,p7,m1,m5⟩:=qX pm;have hp:=pm.pr;obtain⟨t1,t4,htt⟩:=id ht;have t8:∀t∈ts,t.length<=8:=fun t mt=>by have:=(htt t mt).1;omega
 have en:aC 4 [.d (.int (ts.length:Int)),.d (.int w)]=_:=aC.eqn 3 (ts.length:Int) w (by omega);rw[JJ]at en;have en0:ts.length=(ts.length-1)+1:=by omega
 have sm:∀ks∈shp ts.length w.toNat,ks.length=ts.length/\(∀k∈ks,0<=k)/\ks.sum=w:=fun ks mk=>by
  rw[en0]at mk;obtain⟨a,b,c⟩:=e8 _ _ ks mk;exact⟨by omega,b,by omega⟩
 have l216:(shp ts.length w.toNat).length<=216:=by
  rw[en0];exact JF (gR (ts.length-1) w.toNat (by omega)) (JF (Jz (by decide) (show ts.length-1<=3 by omega)) (by decide))
 simp_arith only[ah,ac,la,en];refine fI (xs:=shp ts.length w.toNat) (enc:=av) (fun i ρ=>∃xs:List IQ,(xs.length<=i/\∀j (h:j<(shp ts.length w.toNat).length),j<i->GA.Ind p m.toNat (rowsT ts (shp ts.length w.toNat)[j]))/\ρ=[some (.d (.int p)),some (.d (tbsD ts)),some (.d (.int w)),some (.ml xs),none,none,none]) rfl ⟨[],⟨J1 _,fun j _ h=>by omega⟩,rfl⟩ ?_ ?_
 · rintro i hi ρ ⟨xs,⟨xl,hx⟩,rfl⟩ K hK;have mks:=JP hi;obtain⟨kl,k0,ksum⟩:=sm _ mks;generalize hks:(shp ts.length w.toNat)[i]=ks at *;obtain⟨ok,c0⟩:=u_ ht (by omega) kl k0 (by omega) (by omega);have xz:xs.length<sizeLine:=by omega
   simp_arith only[ah,ac,bY.eq,bc.eq]
   (with_reducible (first|refine ax fun o ho=>?_|refine aI fun o ho=>?_))
   cases o with
   | some h =>
     have ho:GA.Hg p _ (rowsT ts ks) h:=ho;simp_arith only[ah,ac,tR];refine dG (fun _=>?_) fun z=>absurd (show(!false)=true from rfl) z;refine hK _ (oW (aQ (hQ _ (.inr ⟨fun n=>?_,_,_,rfl⟩))));rw[<- hh]at n;rw[c0]at ho
     exact ho.not (n ks kl k0 ksum)
   | none =>
     obtain⟨x,hx'⟩:=ho;simp_arith only[ah,ac,tS,aP.eq]
     (with_reducible (first|refine ax fun q hq=>?_|refine aI fun q hq=>?_))
     refine hK _ (bT ⟨xs++[optTb q],⟨by simp;omega,fun j hj hji=>?_⟩,by simp[fo]⟩);by_cases e:j=i
     · subst e;rw[hks];have:=hx'.ind
       rwa [c0]at this
     · exact hx j hj (by omega)
 · rintro ρ ⟨xs,⟨xl,hx⟩,rfl⟩;simp_arith only[ah,ac];refine aQ (hQ _ (.inl ⟨fun ks kl k0 ksum=>?_,_,rfl⟩));have mk:ks∈shp ts.length w.toNat:=by rw[en0];exact jw _ _ ks (by omega) k0 (by omega)
   obtain⟨j,hj,rfl⟩:=Md mk;rw[<- hh];exact hx j hj hj
def bJ:List W->(IQ->Prop)->Prop:=fun ws Q=>∃(p:Int)(ts:List (List (List Int))),ws=[.d (.int p),.d (tbsD ts)]/\((∃m:Int,Pm p m/\jn p m.toNat ts/\m.toNat=hdM ts))/\∀o:Int,(GA.Str p (hdM ts) ts o)->Q (.int o)
theorem bJ.mono:∀ws (Q Q':IQ->Prop),(∀d,Q d->Q' d)->bJ ws Q->bJ ws Q':=fun _ _ _ h_ ⟨p,ts,e_,p_,q_⟩=>⟨p,ts,e_,p_,fun o_ ho_=>h_ _ (q_ o_ ho_)⟩
theorem bJ.len:∀ws (Q:IQ->Prop),bJ ws Q->ws.length=2:=fun _ _ ⟨_,_,e_,_⟩=>by subst e_;rfl
theorem bJ.eq(p:Int)(ts:List (List (List Int)))(hm:∃m:Int,Pm p m/\jn p m.toNat ts/\m.toNat=hdM ts):bJ [.d (.int p),.d (tbsD ts)]=Hj (anyM fun o:Int=>GA.Str p (hdM ts) ts o) fun o=>VL.ret (.int o:IQ):=by
 refine af fun Q=>⟨?_,fun q_=>⟨p,ts,rfl,hm,q_⟩⟩;rintro⟨p',ts',e_,_,q_⟩;simp_arith only[kD]at e_;obtain⟨rfl,rfl⟩:=e_;exact q_
theorem jx:FnScope ["p", "tables", "w"] ["p", "tables"] (defScope (top 16)):=⟨rfl,rfl,rfl,by decide +kernel,rfl,by decide +kernel,by decide +kernel⟩
theorem d_strength(Fn:FnIn K mg "strength" (top 16) ["p", "tables"])(Z:Bz mg)(d_net_paper:∀rl,Dfn P w K mg base rl "net_paper" ["p", "tables", "w"] 5 bD)   : Dfn P w K mg base rl "strength" ["p", "tables"] 6 bJ:=by
 have sc:=jx
 refine Dfn.of Fn sc (bJ.mono) (bJ.len) (fun cdv A outer s H E hr=>(aj (ba [2] JL rfl (mX Z.range_ (aa (eG Z.len_ (aa (lL (vn 1) aq) ab)) (aa aq (aa (Ba aq) ab)))) (ar 2 sc.nd) (aw (eW (bF BU xT (bp _) (lL (bo (d_net_paper _) (hr.mono (by decide)) (aa (vn 0) (aa (vn 1) (aa (vn 2) ab)))) aq) ox) (aw (aK (vn 2))) cL)))
  (aw (aK aq)))) ?_
 rintro ws Q ⟨p,ts,rfl,hm,hQ⟩;refine aL ?_;have sz:=Js;obtain⟨m,pm,ht,hh⟩:=hm;obtain⟨w40,p2,p7,m1,m5⟩:=qX pm;obtain⟨t1,t4,htt⟩:=id ht
 have e0:atI ts 0=some (ts.headD []):=by
  cases ts with
  | nil=>simp at t1
  | cons a l=>exact cK (j:=0) rfl
 have g1 : -(2^61)<=((hdM ts:Nat):Int)/\((hdM ts:Nat):Int)<2^61 /\ -(2^61)<=(0:Int)/\(0:Int)<2^61:=by omega
 simp_arith only[ah,ac,BZ,zS,rT,e0,jH];have hM:(m.toNat:Nat)=hdM ts:=hh;refine fI (xs:=Jm (((hdM ts:Nat):Int)-0).toNat) (enc:=fun i:Nat=>Jt (((hdM ts:Nat):Int)-(i:Int))) (fun i ρ=>(∀j:Nat,j<i->¬GA.Net p (hdM ts) ts (((hdM ts:Nat):Int)-(j:Int)))/\ρ=[some (.d (.int p)),some (.d (tbsD ts)),none]) rfl ⟨fun j h=>by omega,rfl⟩ ?_ ?_
 · rintro i hi ρ ⟨hn,rfl⟩ K hK;rw[KA]at hi;rw[LN];have hm':∃m:Int,Pm p m/\jn p m.toNat ts/\m.toNat=hdM ts/\1<=((hdM ts:Nat):Int)-(i:Int)/\((hdM ts:Nat):Int)-(i:Int)<=m:=⟨m,pm,ht,hh,by omega,by omega⟩;simp_arith only[ah,ac,bD.eq]
   (with_reducible (first|refine ax fun d hd=>?_|refine aI fun d hd=>?_))
   rcases hd with⟨hnet,x,rfl⟩|⟨hnet,x,y,rfl⟩
   · simp_arith only[ah,ac]
     try rw[if_pos (by decide)]
     refine hK _ (oW (aQ (hQ _ ⟨by omega,by omega,fun _=>hnet,fun w h1 h2=>?_⟩)));have:=hn ((hdM ts:Int)-w).toNat (by omega)
     rwa [show((hdM ts:Nat):Int)-((((hdM ts:Nat):Int)-w).toNat:Int)=w by omega]at this
   · simp_arith only[ah,ac]
     try rw[if_neg (by decide)]
     refine hK _ (bT ⟨fun j hj=>?_,rfl⟩);by_cases e:j=i
     · subst e;exact hnet
     · exact hn j (by omega)
 · rintro ρ ⟨hn,rfl⟩;rw[KA]at hn;simp_arith only[ah,ac];refine aQ (hQ 0 ⟨NQ _,by omega,fun h=>absurd rfl h,fun w h1 h2=>?_⟩);have:=hn ((hdM ts:Int)-w).toNat (by omega)
   rwa [show((hdM ts:Nat):Int)-((((hdM ts:Nat):Int)-w).toNat:Int)=w by omega]at this
def Hv(xs:List (List Int)):IQ:=.list (xs.map av)
theorem wq(xs:List (List Int)):tZ (Hv xs)=some xs.length:=by show some (xs.map av).length=_;rw[I_]
theorem wb(xs:List (List Int)):lstD (Hv xs)=some (xs.map av):=rfl
theorem CM{a b:List (List Int)}:Hv a=Hv b↔a=b:=⟨fun h=>by
 unfold Hv at h;have h:=MJ.inj h
 exact qL.mp (by unfold tbD;rw[h]),fun h=>by rw[h]⟩
theorem pY(kvs:List (List Ih×IQ)):A1 (.md kvs)=some kvs:=rfl
def cB(p:Int)(m:Nat)(ts:List (List (List Int))):List (List Int):=(Jm (p^m).toNat).map fun n=>gP p m ts (n:Nat)
def Gk(p:Int)(m:Nat)(ks:List Int)(pt:List Int):List Int:=(pt.zip ks).map fun z=>z.1.fdiv (p^(m-z.2.toNat))
theorem DJ{p:Int}{n:Int}(p2:2<=p)(h0:0<=n)(h1:n<p^m):GA.Fg p m (Go p n m):=by
 refine⟨dW p2 h0 h1,fun k hk=>?_⟩;have hl:k<(Go p n m).length:=by rw[dW p2 h0 h1];exact hk
 rw[GA.gD hl];exact hJ p2 _ (JP hl)
theorem rB{p:Nat}(p2:2<=p):((Jm (((p:Int)^m).toNat)).map fun n:Nat=>Go p (n:Int) m).Perm (GA.AF p m):=by
 have pw:((p:Int)^m).toNat=p^m:=by rw[<- K_];exact JJ _
 rw[pw];have q2:(2:Int)<=p:=by omega
 have lt:∀n:Nat,n<p^m->(n:Int)<(p:Int)^m:=fun n h=>by rw[<- K_];omega
 have nd:((Jm (p^m)).map fun n:Nat=>Go p (n:Int) m).Nodup:=by
  rw[Kg,Nl];refine QI.imp (fun{a b} ne e=>ne ?_) (Kg.mp List.nodup_range);have h1:=oM (k:=m) q2 (show(0:Int)<=(a:Int) by omega);have h2:=oM (k:=m) q2 (show(0:Int)<=(b:Int) by omega);rw[e]at h1;have:(a:Int)=b:=h1.symm.trans h2;omega
 have sub:∀x∈(Jm (p^m)).map fun n:Nat=>Go p (n:Int) m,x∈GA.AF p m:=fun x mx=>by
  obtain⟨n,mn,rfl⟩:=Jv.mp mx;exact GA.mem_AF.mpr (DJ q2 (by omega) (lt n (Kd.mp mn)))
 refine(List.perm_ext_iff_of_nodup nd (GA.AF_nd p m)).mpr fun x=>⟨sub x,fun mx=>LZ fun nx=>?_⟩;have:=GA.nd_sub nd (B:=(GA.AF p m).erase x) fun y my=>(MC (fun e=>nx (by rw[<- e];exact my))).mpr (sub y my);rw[Ln mx,GA.AF_len,I_,KA]at this;have:0<p^m:=QD (by omega);omega
theorem Ad{xs:List Int}(h1:xs.length=n)(h2:ys.length=n):G_ xs ys=GA.Sg n fun k=>xs.getD k 0*ys.getD k 0:=Cw h1 h2
theorem wI(p:Int)(C:Nat)(A B:List (List Int))(x:List Int):GA.ap p C (A++B) x=GA.ap p C A x++GA.ap p C B x:=by unfold GA.ap;rw[JW]
theorem jN(p:Int)(C:Nat)(A:List (List Int))(x:List Int):(GA.ap p C A x).length=A.length:=by unfold GA.ap;rw[I_]
theorem si(p:Int)(C:Nat)(A:List (List Int))(x:List Int)(k:Nat):(GA.ap p C A x).take k=GA.ap p C (A.take k) x:=by unfold GA.ap;rw[M_]
theorem kN{p:Int}{m:Nat}{x:List Int}(p2:2<=p)(hx:x.length=m):∀(ts:List (List (List Int)))(ks:List Int),(∀t∈ts,lI p m m t)->(∀k∈ks,0<=k/\k<=m)->ts.length=ks.length ->
 ((ts.map fun t=>tv p (Ht p t x)).zip ks).map (fun z=>z.1.fdiv (p^(m-z.2.toNat)))=GA.Eg p (ks.map MX) (GA.ap p m (GA.rowsG ts ks) x)
 | [],[],_,_,_=>rfl
 | t::ts,k::ks,ht,hk,hl=>by
   have h1:=ht t (IV ..);have k1:=hk k (IV ..);have ih:=kN p2 hx ts ks (fun t mt=>ht t (IT _ mt)) (fun k mk=>hk k (IT _ mk)) (by simpa using hl)
   have ea:Ht p t x=GA.ap p m t x:=by
    unfold Ht GA.ap;exact J7 fun row mr=>by rw[Ad (h1.2 row mr).1 hx]
   have er:GA.rowsG (t::ts) (k::ks)=t.take k.toNat++GA.rowsG ts ks:=by unfold GA.rowsG;rw[LQ,KW]
   have lt:(t.take k.toNat).length=k.toNat:=by rw[JB,h1.1];omega
   rw[Ji,LQ,Ji,ih,Ji,er,wI];show _=GA.tvN p _::GA.Eg p _ _;rw[List.take_left' (by rw[jN,lt]),List.drop_left' (by rw[jN,lt]),<- si];congr 1;have fl:(GA.ap p m t x).length=m:=by rw[jN,h1.1]
   have:=GA.tv_cut (p:=p) (fs:=GA.ap p m t x) (k:=k.toNat) (by omega) (by omega) fun d md=>by
    unfold GA.ap at md;obtain⟨row,_,rfl⟩:=Jv.mp md;exact GA.fm_in (by omega) _
   rw[fl]at this;rw[ea]
   exact this
 | [],_::_,_,_,hl=>by simp at hl
 | _::_,[],_,_,hl=>by simp at hl
theorem iM:∀{ks:List Int},(∀k∈ks,0<=k)->0<=ks.sum/\(∀k∈ks,k<=ks.sum)/\((ks.map MX).sum:Nat)=ks.sum.toNat
 | [],_=>by simp
 | k::ks,h=>by
   obtain⟨h1,h2,h3⟩:=iM (ks:=ks) fun x mx=>h x (IT _ mx);have h0:=h k (IV ..);rw[Ji,Kc,Kc,h3];refine⟨by omega,fun x mx=>?_,by omega⟩;rcases JA.mp mx with rfl|mx
   · omega
   · have:=h2 x mx;omega
theorem iG{p:Int}{m:Nat}:∀(ts:List (List (List Int)))(ks:List Int),(∀t∈ts,lI p m m t)->(∀k∈ks,0<=k/\k<=m)->ts.length=ks.length->(ks.map MX).sum=(GA.rowsG ts ks).length
 | [],[],_,_,_=>rfl
 | t::ts,k::ks,ht,hk,hl=>by
   have ih:=iG ts ks (fun t mt=>ht t (IT _ mt)) (fun k mk=>hk k (IT _ mk)) (by simpa using hl);have k1:=hk k (IV ..);have er:GA.rowsG (t::ts) (k::ks)=t.take k.toNat++GA.rowsG ts ks:=by unfold GA.rowsG;rw[LQ,KW]
   rw[er,JH,JB,(ht t (IV ..)).1,Ji,Kc,ih]
   omega
 | [],_::_,_,_,hl=>by simp at hl
 | _::_,[],_,_,hl=>by simp at hl
structure AmP (p m:Nat) (ts:List (List (List Int))) (ks:List Int) (w:Int):Prop where
 hp:(p:Int)=2\/(p:Int)=3\/(p:Int)=5\/(p:Int)=7
 ht:jn p m ts
 kl:ts.length=ks.length
 k0:∀k∈ks,0<=k
 ks:ks.sum=w
 wm:w<=m
theorem AmP.perm{p:Nat}{w:Int}(a:AmP p m ts ks w):((cB p m ts).map (Gk p m ks)).Perm ((GA.AF p m).map fun x=>GA.Eg p (ks.map MX) (GA.ap p m (GA.rowsG ts ks) x)):=by
 have p2:2<=p:=by have:=a.hp;omega
 have q2:(2:Int)<=p:=by omega
 have hk:∀k∈ks,0<=k/\k<=m:=fun k mk=>⟨a.k0 k mk,by have:=(iM a.k0).2.1 k mk;rw[a.ks]at this;have:=a.wm;omega⟩
 have e:(cB p m ts).map (Gk p m ks)=((Jm (((p:Int)^m).toNat)).map fun n:Nat=>Go p (n:Int) m).map fun x=>GA.Eg p (ks.map MX) (GA.ap p m (GA.rowsG ts ks) x):=by
  unfold cB;rw[Kf,Kf];refine J7 fun n mn=>?_;have pw:((p:Int)^m).toNat=p^m:=by rw[<- K_];exact JJ _
  have hn:=Kd.mp mn;rw[pw]at hn;have lt:(n:Int)<(p:Int)^m:=by rw[<- K_];omega
  exact kN q2 (DJ q2 (by omega) lt).1 ts ks a.ht.2.2 hk a.kl
 rw[e];exact(rB p2).map _
theorem AmP.sum{p:Nat}{w:Int}(a:AmP p m ts ks w):(ks.map MX).sum=(GA.rowsG ts ks).length/\(GA.rowsG ts ks).length=w.toNat:=by
 have hk:∀k∈ks,0<=k/\k<=m:=fun k mk=>⟨a.k0 k mk,by have:=(iM a.k0).2.1 k mk;rw[a.ks]at this;have:=a.wm;omega⟩;have e:=iG ts ks a.ht.2.2 hk a.kl;exact⟨e,by rw[<- e,(iM a.k0).2.2,a.ks]⟩
theorem AmP.rows{p:Nat}{w:Int}(a:AmP p m ts ks w):∀r∈GA.rowsG ts ks,GA.Fg p m r:=fun r mr=>by
 unfold GA.rowsG at mr;obtain⟨z,mz,mr⟩:=Mg.mp mr;have h:=a.ht.2.2 z.1 (K8 mz).1;have h:=h.2 r (Lb mr);exact AG h.1 h.2
theorem EG{p:Nat}{w:Int}(a:AmP p m ts ks w)(hi:GA.Ind p m (GA.rowsG ts ks))(nd:D.Nodup)(hm:∀g,g∈D↔g∈(cB p m ts).map (Gk p m ks)) :
 D.length=p^w.toNat/\∀g∈D,((cB p m ts).map (Gk p m ks)).count g*p^w.toNat=p^m:=by
 have p2:2<=p:=by have:=a.hp;omega
 rcases GA.ri_or a.hp a.rows with⟨h,hh⟩|⟨X,hx⟩
 · exact absurd hi hh.not
 · have q:=GA.many_ri (ks:=ks.map MX) (by omega) hx a.sum.1 nd fun g=>(hm g).trans a.perm.mem_iff;rw[a.sum.2]at q;refine⟨q.1,fun g mg=>?_⟩;rw[a.perm.count_eq];exact q.2 g mg
theorem EH{p:Nat}{w:Int}(a:AmP p m ts ks w)(hi:¬GA.Ind p m (GA.rowsG ts ks))(nd:D.Nodup)(hm:∀g,g∈D↔g∈(cB p m ts).map (Gk p m ks)):D.length<p^w.toNat:=by
 have p2:2<=p:=by have:=a.hp;omega
 rcases GA.ri_or a.hp a.rows with⟨h,hh⟩|⟨X,hx⟩
 · have q:=GA.many_hg (ks:=ks.map MX) (by omega) hh p2 a.sum.1 nd fun g=>(hm g).trans a.perm.mem_iff
   rwa [a.sum.2]at q
 · exact absurd hx.ind hi
def aU:List W->(IQ->Prop)->Prop:=fun ws Q=>∃(p m w:Int)(told:List (List Int))(ks:List Int),ws=[.d (.int p),.d (.int m),.d (Hv told),.d (av ks),.d (.int w)]/\((∃(P M:Nat)(ts:List (List (List Int))),p=P/\m=M/\AmP P M ts ks w/\1<=w/\M<=5/\((P:Int)^M).toNat<=40/\told=cB P M ts))/\∀b:Bool,(∀(P M:Nat)(ts:List (List (List Int))),p=P->m=M->AmP P M ts ks w->told=cB P M ts->(b=true↔GA.Ind P M (GA.rowsG ts ks)))->Q (.bool b)
theorem aU.mono:∀ws (Q Q':IQ->Prop),(∀d,Q d->Q' d)->aU ws Q->aU ws Q':=fun _ _ _ h_ ⟨p,m,w,told,ks,e_,p_,q_⟩=>⟨p,m,w,told,ks,e_,p_,fun o_ ho_=>h_ _ (q_ o_ ho_)⟩
theorem aU.len:∀ws (Q:IQ->Prop),aU ws Q->ws.length=5:=fun _ _ ⟨_,_,_,_,_,e_,_⟩=>by subst e_;rfl
theorem aU.eq(p m w:Int)(told:List (List Int))(ks:List Int)(hx:∃(P M:Nat)(ts:List (List (List Int))),p=P/\m=M/\AmP P M ts ks w/\1<=w/\M<=5/\((P:Int)^M).toNat<=40/\told=cB P M ts):aU [.d (.int p),.d (.int m),.d (Hv told),.d (av ks),.d (.int w)]=Hj (anyM fun b:Bool=>∀(P M:Nat)(ts:List (List (List Int))),p=P->m=M->AmP P M ts ks w->told=cB P M ts->(b=true↔GA.Ind P M (GA.rowsG ts ks))) fun b=>VL.ret (.bool b:IQ):=by
 refine af fun Q=>⟨?_,fun q_=>⟨p,m,w,told,ks,rfl,hx,q_⟩⟩;rintro⟨p',m',w',told',ks',e_,_,q_⟩;simp_arith only[CM]at e_;obtain⟨rfl,rfl,rfl,rfl,rfl⟩:=e_;exact q_
theorem fm:FnScope ["_law_p", "_law_m", "_law_told", "_law_shape", "_law_w", "_law_counts", "_law_point", "_law_place"] ["_law_p", "_law_m", "_law_told", "_law_shape", "_law_w"] (defScope (top 31)):=⟨rfl,rfl,rfl,by decide +kernel,rfl,by decide +kernel,by decide +kernel⟩
theorem d__law_as_many(Fn:FnIn K mg "_law_as_many" (top 31) ["_law_p", "_law_m", "_law_told", "_law_shape", "_law_w"])(Z:Bz mg)(d__law_power:∀rl,Dfn P w K mg base rl "_law_power" ["_law_p", "_law_many"] 1 aZ)   : Dfn P w K mg base rl "_law_as_many" ["_law_p", "_law_m", "_law_told", "_law_shape", "_law_w"] 2 aU:=by
 have sc:=fm
 refine Dfn.of Fn sc (aU.mono) (aU.len) (fun cdv A outer s H E hr=>(aj (bS 5 sc.nd uM)
  (aj (uw 5 (ba [6,7] JL rfl (di (vn 2)) (ar 6 sc.nd) (aj (bS 7 sc.nd (qB Z.tuple_ (aa (bv ["_law_top", "_law_k", "_law_p", "_law_m"] [none,none,some 0,some 1] rfl (eK Z.zip_ (aa (vn 6) (aa (vn 3) ab))) (fun _=>(d_ (n:=2) rfl (aX (ar 0 (show KN (["_law_top", "_law_k", "_law_p", "_law_m"]:List Str) by decide +kernel)) (aX (ar 1 (show KN (["_law_top", "_law_k", "_law_p", "_law_m"]:List Str) by decide +kernel)) cP)))) (fun _=>cf) (fun _=>(v_div (vn 0) (bo (d__law_power _) (hr.mono (by decide)) (aa (vn 2) (aa (v_sub (vn 3) (vn 1)) ab)))))) ab)))
  (aw (qx 5 hr.units (vn 7) (v_add (uN 5 hr.units (vn 7) aq) aq))))))
  (aj (eW (bF (kP hr.units) cj (bp _) (uK Z.len_ (aa (vn 5) ab)) (bo (d__law_power _) (hr.mono (by decide)) (aa (vn 0) (aa (vn 4) ab)))) (aw (aK lT)) cL)
  (aw (aK (m7 (dh hr.units) cj (bp _) (bv ["_law_many", "_law_p", "_law_w", "_law_told"] [none,some 0,some 4,some 2] rfl (uB (vn 5)) (fun _=>(ar 0 (show KN (["_law_many", "_law_p", "_law_w", "_law_told"]:List Str) by decide +kernel))) (fun _=>mO (bF (kP hr.units) cj (bp _) (v_mul (vn 0) (bo (d__law_power _) (hr.mono (by decide)) (aa (vn 1) (aa (vn 2) ab)))) (eG Z.len_ (aa (vn 3) ab)))) (fun _=>(vn 0))) (cQ ab)))))))) ?_
 rintro ws Q ⟨p,m,w,told,ks,rfl,hx,hQ⟩;refine aL ?_;have sz:=Js;obtain⟨P,M,ts,rfl,rfl,am,w1,M5,hw,et⟩:=hx;have p2:(2:Int)<=P:=by have:=am.hp;omega
 have p7:(P:Int)<=7:=by have:=am.hp;omega
 have w40:((P:Int)^M).toNat<=40:=hw;simp_arith only[ah,ac,IN,wb,IL,FY,pY]
 have tl:told.length<=40:=by
  rw[et];unfold cB;rw[I_,KA];omega
 have sh:∀pt∈told,pt.length<=4:=fun pt mp=>by
  rw[et]at mp;unfold cB at mp;obtain⟨n,_,rfl⟩:=Jv.mp mp;unfold gP;rw[I_];exact am.ht.2.1
 refine fI (xs:=told) (enc:=av) (fun j ρ=>∃kvs,DI ((told.take j).map (Gk P M ks)) kvs/\ρ=[some (.d (.int P)),some (.d (.int M)),some (.d (Hv told)),some (.d (av ks)),some (.d (.int w)),some (.md kvs),none,none]) rfl ⟨[],DI.nil,rfl⟩ ?_ ?_
 · rintro j hj ρ ⟨kvs,hd,rfl⟩ K hK;have s4:=sh _ (JP hj);have hv:=hd.val (Gk P M ks told[j]);have lj:kvs.length<sizeLine:=by have:=hd.le;rw[I_,JB]at this;omega
   simp_arith only[ah,ac,IN,gS,cq];refine FR (oN (by exact⟨rfl,rfl⟩) ?_);rw[gM];refine FS (fR (xs:=told[j].zip ks) (enc:=fun z=>JM [.int z.1,.int z.2]) (fun z=>.int (z.1.fdiv ((P:Int)^(M-z.2.toNat)))) rfl ?_ (by rw[NW];omega) ?_)
   · rintro⟨a,k⟩ mz;have mk:=(K8 mz).2;have k0:=am.k0 k mk;have kw:k<=M:=by have:=(iM am.k0).2.1 k mk;rw[am.ks]at this;have:=am.wm;omega
     have h0:0<=(M:Int)-k:=by omega
     have hk4:(M:Int)-k<=4000:=by omega
     have e2:((M:Int)-k).toNat=M-k.toNat:=by omega
     have h16:(P:Int)<=16:=by omega
     have cd:ic a ((P:Int)^(M-k.toNat)):=by
      refine ic.of (by have:(0:Int)<(P:Int)^(M-k.toNat):=KY (by omega);omega) ?_
      rw[PJ,Od];exact LL (JF (PX (show P<=7 by omega) _) (Jz (by decide) (show M-k.toNat<=5 by omega))) (by decide)
     simp_arith only[ah,ac,GM,aZ.eq,e2]
   · have em:((told[j].zip ks).map fun z=>Jt (z.1.fdiv ((P:Int)^(M-z.2.toNat))))=(Gk P M ks told[j]).map .int:=by unfold Gk;rw[Kf];rfl
     rw[em];simp_arith only[ah,ac,IN,FY,pY,hv];refine hK _ (bT ⟨_,?_,rfl⟩);rw[KQ hj,JW];exact hd.put _
 · rintro ρ ⟨kvs,⟨D,nd,hm,rfl⟩,rfl⟩;rw[List.take_length]at hm ⊢;unfold kc;have w0:0<=w:=by omega
   have w4:w<=4000:=by have:=am.wm;omega
   have h16:(P:Int)<=16:=by omega
   simp_arith only[ah,ac,IN,IL,FY,pY,aZ.eq]
   have key:∀ts',AmP P M ts' ks w->told=cB P M ts'->(GA.Ind P M (GA.rowsG ts' ks)->D.length=P^w.toNat/\∀g∈D,(told.map (Gk P M ks)).count g*P^w.toNat=P^M)/\(¬GA.Ind P M (GA.rowsG ts' ks)->D.length<P^w.toNat):=fun ts' am' e'=>by
    subst e';exact⟨fun hi=>EG am' hi nd hm,fun hi=>EH am' hi nd hm⟩
   have tl2:told.length=P^M:=by
    rw[et];unfold cB;rw[I_,KA,<- K_];exact JJ _
   by_cases dl:D.length=P^w.toNat
   · have hi:GA.Ind P M (GA.rowsG ts ks):=LZ fun n=>by have:=(key ts am et).2 n;omega
     have hc:=((key ts am et).1 hi).2;have d1:(((D.length:Nat):Int)==(P:Int)^w.toNat)=true:=by rw[dl,K_];simp
     have ev:(D.map (dL (told.map (Gk P M ks)))).map (·.2)=D.map fun g=>Jt ((told.map (Gk P M ks)).count g:Nat):=by rw[Kf];rfl
     simp_arith only[ah,ac,d1,IL,ev];have Dl:D.length<=40:=by have:=tV nd hm;rw[I_]at this;omega
     refine uf (xs:=D) (enc:=fun g=>Jt ((told.map (Gk P M ks)).count g:Nat)) (fun _=>none) rfl ?_ (by omega) ?_
     · intro g mg;have cg:=hc g mg
       have cm:bR (((told.map (Gk P M ks)).count g:Nat):Int) ((P:Int)^w.toNat):=.rt (by
        rw[PJ,Od]
        exact LL (JF (PX (show P<=7 by omega) _) (Jz (by decide) (show w.toNat<=5 by have:=am.wm;omega))) (by decide))
       have ce:((((told.map (Gk P M ks)).count g:Nat):Int)*(P:Int)^w.toNat==(told.length:Int))=true:=by
        rw[tl2,beq_iff_eq,<- K_,<- NP,cg]
       simp_arith only[ah,ac,GM,aZ.eq,wq,cm,ce]
     · have ef:D.filterMap (fun _=>(none:Option IQ))=[]:=by rw[List.filterMap_eq_nil_iff];exact fun _ _=>rfl
       rw[ef];have e0:Ky (.list []) (.list [])=true:=rfl;have s0:JT (.list [])=true:=rfl;simp_arith only[ah,ac,e0,s0];refine aQ (hQ true fun P' M' ts' e1 e2 am' e3=>⟨fun _=>?_,fun _=>rfl⟩);have e1:P'=P:=by omega
       have e2:M'=M:=by omega
       subst e1 e2;exact LZ fun n=>by have:=(key ts' am' e3).2 n;omega
   · have d1:(((D.length:Nat):Int)==(P:Int)^w.toNat)=false:=by
       rw[<- K_];simpa using fun h=>dl (by exact_mod_cast h)
     simp_arith only[ah,ac,d1];refine aQ (hQ false fun P' M' ts' e1 e2 am' e3=>⟨fun z=>Nw z,fun z=>absurd ?_ dl⟩);have e1:P'=P:=by omega
     have e2:M'=M:=by omega
     subst e1 e2;exact((key ts' am' e3).1 z).1
def Hm(M o:Nat):List Bool:=(Jm M).map fun x=>decide (x<o)
theorem fT:∀bs:List Bool,JZ (bs.map Kz)=true
 | []=>rfl
 | b::bs=>by rw[Ji];simp[JZ,KM,fT bs]
theorem As{M o:Nat}(h:o<=M):((Hm M o++[false]).map Kz).findIdx? (fun z=>Ky z (.bool false))=some o:=by
 rw[M8];have l:(Hm M o).length=M:=by unfold Hm;rw[I_,KA]
 have at_:∀k (hk:k<((Hm M o++[false]).map Kz).length),((Hm M o++[false]).map Kz)[k]=Kz (decide (k<o)):=fun k hk=>by
  have hk':k<M+1:=by simpa[l]using hk
  rw[K3];congr 1;by_cases e:k<M
  · rw[List.getElem_append_left (by rw[l];exact e)];unfold Hm;rw[K3,LN]
  · have:k=M:=by omega
    subst this;rw[List.getElem_append_right (by rw[l];exact Jb _)];rw[decide_eq_false (by omega)];simp[l]
 refine⟨by simp[l];omega,?_,fun j hj=>?_⟩
 · rw[at_,decide_eq_false (by omega)];rfl
 · rw[at_,decide_eq_true hj];decide
theorem Ar(M o:Nat):(((Hm M o).drop o).map Kz).any (fun z=>Ky z (.bool true))=false:=by
 rw[List.any_eq_false];intro z mz;obtain⟨b,mb,rfl⟩:=Jv.mp mz;obtain⟨k,hk,rfl⟩:=Md mb;rw[List.getElem_drop];unfold Hm;rw[K3,LN,decide_eq_false (by omega)];decide
noncomputable def nB(P M:Nat)(ts:List (List (List Int)))(w:Int):Bool:=@decide (GA.Net P M ts w) (J_ _)
noncomputable def nI(P M:Nat)(ts:List (List (List Int)))(ks:List Int):Bool:=@decide (GA.Ind P M (GA.rowsG ts ks)) (J_ _)
theorem fK(q:List Int->Bool):∀xs:List (List Int),xs.filterMap (fun ks=>if q ks=true then none else some (av ks))=(xs.filter fun ks=>!q ks).map av
 | []=>rfl
 | x::xs=>by
   cases e:q x with
   | true=>rw[MN (by rw[e];rfl),List.filter_cons_of_neg (by rw[e];decide),fK q xs]
   | false=>rw[MO (b:=av x) (by rw[e];rfl),List.filter_cons_of_pos (by rw[e];rfl),Ji,fK q xs]
theorem nW(t:List (List Int)):JT (Hv t)=true:=by
 have h1:JZ (t.map av)=true/\J4 (t.map av)<=1:=by
  induction t with
  | nil=>exact⟨rfl,J1 _⟩
  | cons x xs ih =>
    have a:=fS x;have b:=gH x;refine⟨?_,?_⟩
    · simp[JZ,av,KM,a];exact ih.1
    · have:=ih.2;simp[J4,av,Kt,b];exact Nat.max_le.mpr ⟨Jb _,this⟩
 have h2:=h1.2;unfold Hv;simp[JT,KM,Kt,h1.1];omega
theorem zB{P M:Nat}{s':Nat}{w:Int}(es:ts.length=s'+1)(w0:0<=w):Ky (Hv ((shp ts.length w.toNat).filter fun ks=>!nI P M ts ks)) (.list [])=nB P M ts w:=by
 by_cases h:GA.Net P M ts w
 · have ef:((shp ts.length w.toNat).filter fun ks=>!nI P M ts ks)=[]:=by
     rw[Nd];intro ks mk;rw[es]at mk;obtain⟨kl,k0,ksum⟩:=e8 _ _ _ mk;have:nI P M ts ks=true:=@decide_eq_true _ (J_ _) (h ks (by rw[kl,es]) k0 (by rw[ksum];omega));rw[this];decide
   rw[ef];have:nB P M ts w=true:=@decide_eq_true _ (J_ _) h;rw[this];rfl
 · have:nB P M ts w=false:=@decide_eq_false _ (J_ _) h;rw[this]
   have ne:((shp ts.length w.toNat).filter fun ks=>!nI P M ts ks)≠[]:=fun e=>h fun ks kl k0 ksum=>LZ fun n=>by
    have mk:ks∈shp ts.length w.toNat:=by rw[es];exact jw _ _ ks (by omega) k0 (by omega)
    have:=Nd.mp e ks mk;have z:nI P M ts ks=false:=@decide_eq_false _ (J_ _) n;rw[z]at this;exact this rfl
   cases q:((shp ts.length w.toNat).filter fun ks=>!nI P M ts ks)with
   | nil=>exact absurd q ne
   | cons a l=>rfl
theorem sN{b:IQ->Mo (Option IQ)}{enc:α->IQ}{Q:List IQ->Prop}(f:α->Option IQ):∀(xs:List α)(acc:List IQ),(∀x∈xs,∀k:Option IQ->Prop,k (f x)->b (enc x) k)->acc.length+xs.length<=sizeLine->Q (acc++xs.filterMap f)->bH b (xs.map enc) acc Q:=by
 intro xs
 induction xs with
 | nil=>intro acc _ _ fin;rw[List.filterMap_nil,Kl]at fin;exact fin
 | cons x xs ih =>
   intro acc h hl fin;rw[JG]at hl;refine h x IV _ ?_
   cases e:f x with
   | none =>
     rw[MN e]at fin
     exact ih acc (fun y hy=>h y (IT _ hy)) (by omega) fin
   | some d =>
     rw[MO e]at fin;exact⟨by omega,ih (acc++[d]) (fun y hy=>h y (IT _ hy)) (by simp;omega) (by simpa using fin)⟩
theorem w6{b:IQ->Mo (Option IQ)}{enc:α->IQ}{k:List IQ->Mo β}{Q:β->Prop}{xs:List α}(f:α->Option IQ)(hx:xs'=xs.map enc)(h:∀x∈xs,∀k:Option IQ->Prop,k (f x)->b (enc x) k)(hl:xs.length<=sizeLine)(fin:k (xs.filterMap f) Q):Hj (bH b xs' []) k Q:=by
 subst hx;exact sN f xs [] h (by simpa using hl) fin
theorem tJ{p:Int}{m:Nat}{ts:List (List (List Int))}:∀n:Nat,∃o:Nat,o<=n/\(o≠0->GA.Net p m ts o)/\∀w:Int,(o:Int)<w->w<=n->¬GA.Net p m ts w
 | 0=>⟨0,Jb _,fun h=>absurd rfl h,fun w h1 h2=>by omega⟩
 | n+1=>by
   by_cases h:GA.Net p m ts ((n+1:Nat):Int)
   · exact⟨n+1,Jb _,fun _=>h,fun w h1 h2=>by omega⟩
   · obtain⟨o,h1,h2,h3⟩:=tJ (p:=p) (m:=m) (ts:=ts) n;refine⟨o,by omega,h2,fun w a b=>?_⟩;by_cases e:w=((n+1:Nat):Int)
     · rw[e];exact h
     · exact h3 w a (by omega)
theorem zA{p:Int}{o:Nat}(t1:1<=ts.length)(h1:o<=m)(h2:o≠0->GA.Net p m ts o)(h3:∀w:Int,(o:Int)<w->w<=m->¬GA.Net p m ts w){i:Nat}(hi:i<m):GA.Net p m ts (1+(i:Int))↔i<o:=by
 constructor
 · intro h;rcases Nat.lt_or_ge i o with z|z
   · exact z
   · exact absurd h (h3 _ (by omega) (by omega))
 · intro h;refine GA.Net.le t1 (o-(i+1)) ?_;have:=h2 (by omega)
   rwa [show 1+(i:Int)+((o-(i+1):Nat):Int)=(o:Int) by omega]
theorem yJ:FnScope ["_law_script", "_law_k", "_law_tape_here", "_law_p", "_law_m", "_law_tables_here", "_law_told", "_law_nets", "_law_w", "_law_shapes_here", "_law_greatest"] ["_law_script"] (defScope (top 32)):=⟨rfl,rfl,rfl,by decide +kernel,rfl,by decide +kernel,by decide +kernel⟩
theorem rR(Z:Bz mg)(d__law_tape:DfnR P w K mg base "_law_tape" ["_law_script", "_law_at"] 2 AS)(d__law_size:∀al,DfnC P w K mg base al 2 "_law_size" ["_law_tape_here"] 2 bE)(d__law_points:∀rl,Dfn P w K mg base rl "_law_points" ["_law_p", "_law_m", "_law_tables_here"] 3 bg)(d__law_tables:∀al,DfnC P w K mg base al 524422 "_law_tables" ["_law_tape_here", "_law_p", "_law_m"] 3 be)(d__law_shapes:∀rl,Dfn P w K mg base rl "_law_shapes" ["_law_many", "_law_w"] 1 bf)(d_strength:∀rl,Dfn P w K mg base rl "strength" ["p", "tables"] 6 bJ)(d__law_as_many:∀rl,Dfn P w K mg base rl "_law_as_many" ["_law_p", "_law_m", "_law_told", "_law_shape", "_law_w"] 2 aU){f:Addr}(F:Fun K "law" "law" (top 32) f fd):FnOk P w K mg base IE 8 f fd ["_law_script"] (gn K):=by
 have sc:=yJ
 refine vV F sc (fun cdv A outer s H E hr=>(aj (ba [1,2,3,4,5,6,7,8,9,10] JL rfl (aH Z.range_ (aa (v_add aq (eG Z.len_ (aa (x_ (vn 0) cA (cz aq)) ab))) ab)) (ar 1 sc.nd) (wX 2 d__law_tape (hr.mono (by decide)) sc.nd (aa (vn 0) (aa (vn 1) ab)) (fun r=>(aF (Ak (cp (d__law_size _) (hr.mono (by decide)) (au (cv fun _=>(vn 2)) br)) (fun _=>(d_ (n:=2) rfl (aX (ar 3 sc.nd) (aX (ar 4 sc.nd) cP)))))
  (aF (cV 5 sc.nd (CA (cp (d__law_tables _) (hr.mono (by decide)) (au (cv fun _=>(vn 2)) (au (cv fun _=>(vn 3)) (au (cv fun _=>(vn 4)) br)))) (fun _=>cA) (fun _=>(cz aq))))
  (aF (cs fun _=>(az 6 sc.nd (bo (d__law_points _) (hr.mono (by decide)) (aa (vn 3) (aa (vn 4) (aa (vn 5) ab))))))
  (aF (cs fun _=>(bS 7 sc.nd (cQ ab)))
  (aF (cs fun _=>(ba [8,9] JL rfl (ik Z.range_ (aa aq (aa (v_add (vn 4) aq) ab))) (ar 8 sc.nd) (aj (az 9 sc.nd (bo (d__law_shapes _) (hr.mono (by decide)) (aa (eG Z.len_ (aa (vn 5) ab)) (aa (vn 8) ab))))
  (aw (d9 7 (aa (m7 (dh hr.units) cj (bp _) (bv ["_law_shape", "_law_p", "_law_m", "_law_told", "_law_w"] [none,some 3,some 4,some 6,some 8] rfl (di (vn 9)) (fun _=>(ar 0 (show KN (["_law_shape", "_law_p", "_law_m", "_law_told", "_law_w"]:List Str) by decide +kernel))) (fun _=>mO (x6 (xZ (bo (d__law_as_many _) (hr.mono (by decide)) (aa (vn 1) (aa (vn 2) (aa (vn 3) (aa (vn 0) (aa (vn 4) ab))))))))) (fun _=>(vn 0))) (cQ ab)) ab))))))
  (aF (cs fun _=>(az 10 sc.nd (qD hr.u65 (tj (vn 7) (cQ (aa lT ab))) (aa lT ab))))
  (dJ (cs fun _=>(eW (Ia.pb (A9 (bF (zr hr.u65) xS (by with_unfolding_all rfl) lT (A_ (vn 7) (cz (vn 10)) cA)) (x5 (bF (kP hr.units) cj (bp _) (bo (d_strength _) (hr.mono (by decide)) (aa (vn 3) (aa (vn 5) ab))) (vn 10))))) (aw (aK lT)) cL)))))))))) (by decide +kernel)))
  (aw (aK lT)))) ?_
 intro ns hn;have sz:=Js;have cl:(VL.cutD (ns.map Jt) none (some 3)).length<=63:=JF (pJ _ _ _) (by rw[I_];exact hn);have g0 : -(2^62)<=1+((VL.cutD (ns.map Jt) none (some 3)).length:Int)/\1+((VL.cutD (ns.map Jt) none (some 3)).length:Int)<2^62:=by omega
 simp_arith only[ah,ac,bw,bx,aM,aO,bA,aN,aA,ae];refine sI ?_ ?_
 · intro i hi K hK;have pt:=AS.eq hn (show 0<=0+(i:Int) by omega) (show 0+(i:Int)<1000 by omega);simp_arith only[ah,ac,bw,bx,aM,aO,bA,aN,aA,ae,pt,bE.eq,Bn,Bm];refine(show sq _ _ (fun fl=>Ft fl K)from ?_);have hend:∀ρ,fo [1,2,3,4,5,6,7,8,9,10] (nR ρ)=[some (.sc ns),none,none,none,none,none,none,none,none,none,none]->(fun fl=>Ft fl K) (.nx ρ):=fun ρ e=>hK _ (bT e);generalize (fun fl=>Ft fl K)=K' at hend ⊢
   (with_reducible (first|refine ax fun z pm=>?_|refine aI fun z pm=>?_))
   obtain⟨p,m⟩:=z;have pm:Pm p m:=pm;obtain⟨w40,p2,p7,m1,m5⟩:=qX pm;obtain⟨P,rfl⟩:=JN (show 0<=p by omega);obtain⟨M,rfl⟩:=JN (show 0<=m by omega)
   try simp_arith only[ah,ac,bw,bx,aM,aO,bA,aN,aA,ae,be.eq]
   (with_reducible (first|refine ax fun ts0 ht0=>?_|refine aI fun ts0 ht0=>?_))
   have ec:VL.cutD (ts0.map tbD) none (some 3)=(ts0.take 3).map tbD:=pI ts0 tbD (by decide)
   have ht:jn P M (ts0.take 3):=by
    obtain⟨a1,a2,a3⟩:=ht0;refine⟨by rw[JB];omega,by rw[JB];omega,fun t mt=>?_⟩;exact a3 t (Lb mt)
   have te:∀us:List (List (List Int)),JM (us.map tbD)=tbsD us:=fun _=>rfl;generalize ts0.take 3=ts at *;have hts:jn P ((M:Int).toNat) ts:=by rw[JJ];exact ht
   obtain⟨t1,t4,htt⟩:=id ht;have ep:MJ ((Jm (((P:Int)^M).toNat)).map fun n:Nat=>av (gP P M ts (n:Nat)))=Hv (cB P M ts):=by unfold Hv cB;rw[Kf];rfl
   simp_arith only[ah,ac,bw,bx,aM,aO,bA,aN,aA,ae,kB,ec,te,bg.eq,JJ,ep];obtain⟨s',es⟩:∃s',ts.length=s'+1:=⟨ts.length-1,by omega⟩;have w40':((P:Int)^M).toNat<=40:=by rw[JJ]at w40;omega
   refine cH (fun j ρ=>ρ=[some (.sc ns),some (.d (.int (0+(i:Int)))),some .reel,some (.d (.int P)),some (.d (.int M)),some (.d (tbsD ts)),some (.d (Hv (cB P M ts))),some (.ml ((Jm j).map fun x:Nat=>Kz (nB P M ts (1+(x:Int))))),none,none,none]) rfl ?_ ?_
   · rintro j hj ρ rfl K2 hK2;have jm:j<M:=by omega
     have s1:1<=((ts.length:Nat):Int):=by omega
     have s4:((ts.length:Nat):Int)<=4:=by omega
     have w0:0<=1+(j:Int):=by omega
     have w5:1+(j:Int)<=5:=by omega
     have lr:((Jm j).map fun x:Nat=>Kz (nB P M ts (1+(x:Int)))).length<sizeLine:=by rw[I_,KA];omega
     have ls:(shp ts.length (1+(j:Int)).toNat).length<=sizeLine:=by
      rw[es];have:=gR s' (1+(j:Int)).toNat (by omega);have h6:6^s'<=6^4:=Jz (by decide) (by omega);have:(6:Nat)^4=1296:=by decide
      omega
     simp_arith only[ah,ac,bw,bx,aM,aO,bA,aN,aA,ae,la,bf.eq,JJ];refine w6 (xs:=shp ts.length (1+(j:Int)).toNat) (enc:=av) (fun ks=>if nI P M ts ks=true then none else some (av ks)) rfl ?_ ls ?_
     · intro ks mks k hk;rw[es]at mks;obtain⟨kl,k0,ksum⟩:=e8 _ _ _ mks;have am:AmP P M ts ks (1+(j:Int)):=⟨pm.1,ht,by rw[kl,es],k0,by rw[ksum];omega,by omega⟩;have hx:∃(P' M':Nat)(ts':List (List (List Int))),(P:Int)=P'/\(M:Int)=M'/\AmP P' M' ts' ks (1+(j:Int))/\1<=1+(j:Int)/\M'<=5/\((P':Int)^M').toNat<=40/\cB P M ts=cB P' M' ts':=⟨P,M,ts,rfl,rfl,am,by omega,by omega,w40',rfl⟩;simp_arith only[ah,ac,GM,aU.eq]
       (with_reducible (first|refine ax fun b hb=>?_|refine aI fun b hb=>?_))
       have hb:=hb P M ts rfl rfl am rfl
       have eb:nI P M ts ks=b:=by
        unfold nI
        cases b with
        | true=>exact @decide_eq_true _ (J_ _) (hb.mp rfl)
        | false=>exact @decide_eq_false _ (J_ _) fun z=>Nw (hb.mpr z)
       rw[eb]at hk
       cases b with
       | true =>
         try simp_arith only[ah,ac]
         exact hk
       | false =>
         try simp_arith only[ah,ac]
         exact hk
     · have sh:=nW ((shp ts.length (1+(j:Int)).toNat).filter fun ks=>!nI P M ts ks);have s0:JT (.list [])=true:=rfl;have ex:Ky (Hv ((shp ts.length (1+(j:Int)).toNat).filter fun ks=>!nI P M ts ks)) (.list [])=nB P M ts (1+(j:Int)):=zB es (by omega);rw[fK,show ∀us:List (List Int),MJ (us.map av)=Hv us from fun _=>rfl];simp_arith only[ah,ac,sh,s0,ex];refine bB (by rw[KA];omega) (hK2 _ (bT ?_));rw[M6,JW];rfl
   · rintro ρ rfl;have eM:((M:Int)+1-1).toNat=M:=by omega
     obtain⟨o,o1,o2,o3⟩:=tJ (p:=P) (m:=M) (ts:=ts) M
     have eb:((Jm M).map fun x:Nat=>Kz (nB P M ts (1+(x:Int))))=(Hm M o).map Kz:=by
      unfold Hm;rw[Kf];refine J7 fun x mx=>?_;have hx:=zA t1 o1 o2 o3 (Kd.mp mx);show Kz _=Kz (decide (x<o));congr 1;unfold nB;by_cases z:x<o
      · rw[decide_eq_true z];exact @decide_eq_true _ (J_ _) (hx.mpr z)
      · rw[decide_eq_false z];exact @decide_eq_false _ (J_ _) fun y=>z (hx.mp y)
     rw[eM,eb]
     have hm:∃m:Int,Pm P m/\jn P m.toNat ts/\m.toNat=hdM ts:=⟨M,pm,hts,by
      cases ts with
      | nil=>simp at t1
      | cons a l=>rw[JJ];exact(htt a IV).1.symm⟩
     have hd:hdM ts=M:=by obtain⟨m',_,h2,h3⟩:=hm;cases ts with
      | nil=>simp at t1
      | cons a l=>exact(htt a IV).1
     have cy:(Hm M o).map Kz++[Kz false]=(Hm M o++[false]).map Kz:=by rw[JW];rfl
     have c1:=fT (Hm M o++[false]);have c2:=fT ((Hm M o).drop o);have fi:=As o1;have sf:JT (.bool false)=true:=rfl;have st:JT (.bool true)=true:=rfl;have lb:(Hm M o).length=M:=by unfold Hm;rw[I_,KA]
     have ly:((Hm M o++[false]).map Kz).length<=sizeLine:=by rw[I_,JH,lb];show M+1<=_;omega
     have cd:=Cy (Hm M o) Kz o;have an:=Ar M o;simp_arith only[ah,ac,bw,bx,aM,aO,bA,aN,aA,ae,oV,cy,c1,c2,fi,sf,st,ly,cd,an,bJ.eq];refine bB (by rw[JH,lb];show M+1<=_;omega) ?_
     (with_reducible (first|refine ax fun v hv=>?_|refine aI fun v hv=>?_))
     rw[hd]at hv
     have ve:v=(o:Int):=by
      have a1:=hv.o0;have a2:=hv.om;rcases Int.lt_trichotomy v (o:Int)with z|z|z
      · exact absurd (o2 (by omega)) (hv.top _ z (by omega))
      · exact z
      · exact absurd (hv.net (by omega)) (o3 _ z a2)
     subst ve;rw[if_neg (by simp)];exact hend _ rfl
 · simp_arith only[ac,bw,bx,aM,aO,bA,aN,aA,ae];exact wu
structure Txt (K:L6) (mg:Str->Option I0):Prop where
 bz:Bz mg
 f__law_tape:FnIn K mg "_law_tape" (top 18) ["_law_script", "_law_at"]
 f__law_pick:FnIn K mg "_law_pick" (top 19) ["_law_tape_here", "_law_many"]
 f__law_any:FnIn K mg "_law_any" (top 22) ["_law_tape_here", "_law_p", "_law_rows", "_law_columns"]
 f__law_sum:FnIn K mg "_law_sum" (top 26) ["_law_p", "_law_one", "_law_other"]
 f__law_power:FnIn K mg "_law_power" (top 21) ["_law_p", "_law_many"]
 f__law_applied:FnIn K mg "_law_applied" (top 27) ["_law_p", "_law_table", "_law_figures"]
 f__law_mirror:FnIn K mg "_law_mirror" (top 24) ["_law_m"]
 f__law_sum_table:FnIn K mg "_law_sum_table" (top 23) ["_law_p", "_law_m", "_law_j"]
 f__law_tables:FnIn K mg "_law_tables" (top 25) ["_law_tape_here", "_law_p", "_law_m"]
 f__law_figures_of:FnIn K mg "_law_figures_of" (top 28) ["_law_p", "_law_m", "_law_n"]
 f__law_points:FnIn K mg "_law_points" (top 29) ["_law_p", "_law_m", "_law_tables_here"]
 f__law_size:FnIn K mg "_law_size" (top 20) ["_law_tape_here"]
 f_inverse_of:FnIn K mg "inverse_of" (top 1) ["one", "modulus"]
 f_unit_figures:FnIn K mg "unit_figures" (top 3) ["many", "place"]
 f_first_filled:FnIn K mg "first_filled" (top 4) ["figures"]
 f_scaled:FnIn K mg "scaled" (top 5) ["p", "row", "often"]
 f_cleared:FnIn K mg "cleared" (top 6) ["p", "row", "other", "column"]
 f_reduced:FnIn K mg "reduced" (top 7) ["p", "table"]
 f_combination:FnIn K mg "combination" (top 9) ["p", "table"]
 f_right_inverse:FnIn K mg "right_inverse" (top 8) ["p", "table"]
 f_shapes_of:FnIn K mg "shapes_of" (top 11) ["many", "w"]
 f_rows_of:FnIn K mg "rows_of" (top 12) ["tables", "shape"]
 f__law_shapes:FnIn K mg "_law_shapes" (top 30) ["_law_many", "_law_w"]
 f_net_paper:FnIn K mg "net_paper" (top 14) ["p", "tables", "w"]
 f_strength:FnIn K mg "strength" (top 16) ["p", "tables"]
 f__law_as_many:FnIn K mg "_law_as_many" (top 31) ["_law_p", "_law_m", "_law_told", "_law_shape", "_law_w"]
theorem zu{f:Addr}(F:Fun K "law" "law" (top 32) f fd)(T:Txt K mg)  : FnOk P w K mg base IE 8 f fd ["_law_script"] (gn K):=by
 have d__law_tape:DfnR P w K mg base "_law_tape" ["_law_script", "_law_at"] 2 AS:=K65.d__law_tape T.f__law_tape T.bz   ;have d__law_pick:∀al,DfnC P w K mg base al 1 "_law_pick" ["_law_tape_here", "_law_many"] 1 bh:=fun rl=>K65.d__law_pick T.f__law_pick T.bz   ;have d__law_any:∀al,DfnC P w K mg base al 8193 "_law_any" ["_law_tape_here", "_law_p", "_law_rows", "_law_columns"] 2 bL:=fun rl=>K65.d__law_any T.f__law_any T.bz d__law_pick  ;have d__law_sum:∀rl,Dfn P w K mg base rl "_law_sum" ["_law_p", "_law_one", "_law_other"] 1 bK:=fun rl=>K65.d__law_sum T.f__law_sum T.bz   ;have d__law_power:∀rl,Dfn P w K mg base rl "_law_power" ["_law_p", "_law_many"] 1 aZ:=fun rl=>K65.d__law_power T.f__law_power T.bz   ;have d__law_applied:∀rl,Dfn P w K mg base rl "_law_applied" ["_law_p", "_law_table", "_law_figures"] 2 aV:=fun rl=>K65.d__law_applied T.f__law_applied T.bz d__law_sum  ;have d__law_mirror:∀rl,Dfn P w K mg base rl "_law_mirror" ["_law_m"] 1 bi:=fun rl=>K65.d__law_mirror T.f__law_mirror T.bz   ;have d__law_sum_table:∀rl,Dfn P w K mg base rl "_law_sum_table" ["_law_p", "_law_m", "_law_j"] 1 aJ:=fun rl=>K65.d__law_sum_table T.f__law_sum_table T.bz   ;have d__law_tables:∀al,DfnC P w K mg base al 524422 "_law_tables" ["_law_tape_here", "_law_p", "_law_m"] 3 be:=fun rl=>K65.d__law_tables T.f__law_tables T.bz d__law_pick d__law_sum_table d__law_any d__law_mirror  ;have d__law_figures_of:∀rl,Dfn P w K mg base rl "_law_figures_of" ["_law_p", "_law_m", "_law_n"] 1 aE:=fun rl=>K65.d__law_figures_of T.f__law_figures_of T.bz   ;have d__law_points:∀rl,Dfn P w K mg base rl "_law_points" ["_law_p", "_law_m", "_law_tables_here"] 3 bg:=fun rl=>K65.d__law_points T.f__law_points T.bz d__law_power d__law_figures_of d__law_applied  ;have d__law_size:∀al,DfnC P w K mg base al 2 "_law_size" ["_law_tape_here"] 2 bE:=fun rl=>K65.d__law_size T.f__law_size T.bz d__law_pick  ;have d_inverse_of:∀rl,Dfn P w K mg base rl "inverse_of" ["one", "modulus"] 1 bu:=fun rl=>K65.d_inverse_of T.f_inverse_of T.bz   ;have d_unit_figures:∀rl,Dfn P w K mg base rl "unit_figures" ["many", "place"] 1 aS:=fun rl=>K65.d_unit_figures T.f_unit_figures T.bz   ;have d_first_filled:∀rl,Dfn P w K mg base rl "first_filled" ["figures"] 1 aT:=fun rl=>K65.d_first_filled T.f_first_filled T.bz   ;have d_scaled:∀rl,Dfn P w K mg base rl "scaled" ["p", "row", "often"] 1 cE:=fun rl=>K65.d_scaled T.f_scaled T.bz   ;have d_cleared:∀rl,Dfn P w K mg base rl "cleared" ["p", "row", "other", "column"] 1 bZ:=fun rl=>K65.d_cleared T.f_cleared T.bz   ;have d_reduced:∀rl,DfnP P w K mg base rl "reduced" ["p", "table"] 2 bN:=fun rl=>K65.d_reduced T.f_reduced T.bz d_first_filled d_scaled d_unit_figures d_cleared d_inverse_of  ;have d_combination:∀rl,Dfn P w K mg base rl "combination" ["p", "table"] 3 bc:=fun rl=>K65.d_combination T.f_combination T.bz d_reduced  ;have d_right_inverse:∀rl,Dfn P w K mg base rl "right_inverse" ["p", "table"] 3 aP:=fun rl=>K65.d_right_inverse T.f_right_inverse T.bz d_reduced  ;have d_shapes_of:∀rl,Dfn P w K mg base rl "shapes_of" ["many", "w"] 4 (aC 4):=fun rl=>K65.d_shapes_of T.f_shapes_of T.bz   
 have d_rows_of:∀rl,Dfn P w K mg base rl "rows_of" ["tables", "shape"] 1 bY:=fun rl=>K65.d_rows_of T.f_rows_of T.bz   ;have d__law_shapes:∀rl,Dfn P w K mg base rl "_law_shapes" ["_law_many", "_law_w"] 1 bf:=fun rl=>K65.d__law_shapes T.f__law_shapes T.bz   ;have d_net_paper:∀rl,Dfn P w K mg base rl "net_paper" ["p", "tables", "w"] 5 bD:=fun rl=>K65.d_net_paper T.f_net_paper T.bz d_shapes_of d_rows_of d_combination d_right_inverse  ;have d_strength:∀rl,Dfn P w K mg base rl "strength" ["p", "tables"] 6 bJ:=fun rl=>K65.d_strength T.f_strength T.bz d_net_paper  ;have d__law_as_many:∀rl,Dfn P w K mg base rl "_law_as_many" ["_law_p", "_law_m", "_law_told", "_law_shape", "_law_w"] 2 aU:=fun rl=>K65.d__law_as_many T.f__law_as_many T.bz d__law_power  ;exact rR T.bz d__law_tape d__law_size d__law_points d__law_tables d__law_shapes d_strength d__law_as_many   F
end
theorem a_{K:L6}{mg:Str->Option I0}(X:K.In h)(G:h.Ns Ke mg){x:Str}{st:Stmt}{ps:List Str}{f:Addr}{oc kV dc pm cd ct:I0}{od an:Option Addr}{sl:Array (Option I0)}(a:Qj K Ke x=some (some (.ref f)))(l:K.lookup f=some ⟨oc,od,.func (Qk x x (defArgs st) (defBody st) (defScope st) .none kV dc pm an cd ct),sl⟩)(c:JC K cd x=true)(k:JD K (.ref f)=true)(hb:∀(kV doc pm:I0)(an:Option Addr)(cdv ct:I0)(us:List I0),us.length=ps.length->bindArgs (Qk x x (defArgs st) (defBody st) (defScope st) .none kV doc pm an cdv ct) ⟨us,[]⟩=pure (ps.zip us)):FnIn K mg x st ps:=⟨⟨f,_,PySem.W.mg_of X G a,pC l c k,(pC l c k).binds hb⟩⟩
abbrev NI(K:L6)(x:Str)(f:Addr):Prop:=Qj K Ke x=some (some (.ref f))
abbrev NZ(K:L6)(x:Str):Prop:=Qj K Ke x=some none
abbrev LK(K:L6)(x:Str)(st:Stmt)(f:Addr)(oc:I0)(od:Option Addr)(kV dc pm:I0)(an:Option Addr)(cd ct:I0)(sl:Array (Option I0)):Prop:=K.lookup f=some ⟨oc,od,.func (Qk x x (defArgs st) (defBody st) (defScope st) .none kV dc pm an cd ct),sl⟩
theorem all_mk{l:Pr}{w:Kh}{K:L6}{mg:Str->Option I0}{fa:Addr}(X:K.In h)(G:h.Ns Ke mg)(hfa:mg "law" = some (.ref fa))
 {f1 f2 f3 f4 f5 f6 f7 f8 f9 f10 f11 f12 f13 f14 f15 f16 f17 f18 f19 f20 f21 f22 f23 f24 f25 f26 f27:Addr}{od1 an1 od2 an2 od3 an3 od4 an4 od5 an5 od6 an6 od7 an7 od8 an8 od9 an9 od10 an10 od11 an11 od12 an12 od13 an13 od14 an14 od15 an15 od16 an16 od17 an17 od18 an18 od19 an19 od20 an20 od21 an21 od22 an22 od23 an23 od24 an24 od25 an25 od26 an26 od27 an27:Option Addr}{sl1 sl2 sl3 sl4 sl5 sl6 sl7 sl8 sl9 sl10 sl11 sl12 sl13 sl14 sl15 sl16 sl17 sl18 sl19 sl20 sl21 sl22 sl23 sl24 sl25 sl26 sl27:Array (Option I0)}{oc1 kV1 dc1 pm1 cd1 ct1 oc2 kV2 dc2 pm2 cd2 ct2 oc3 kV3 dc3 pm3 cd3 ct3 oc4 kV4 dc4 pm4 cd4 ct4 oc5 kV5 dc5 pm5 cd5 ct5 oc6 kV6 dc6 pm6 cd6 ct6 oc7 kV7 dc7 pm7 cd7 ct7 oc8 kV8 dc8 pm8 cd8 ct8 oc9 kV9 dc9 pm9 cd9 ct9 oc10 kV10 dc10 pm10 cd10 ct10 oc11 kV11 dc11 pm11 cd11 ct11 oc12 kV12 dc12 pm12 cd12 ct12 oc13 kV13 dc13 pm13 cd13 ct13 oc14 kV14 dc14 pm14 cd14 ct14 oc15 kV15 dc15 pm15 cd15 ct15 oc16 kV16 dc16 pm16 cd16 ct16 oc17 kV17 dc17 pm17 cd17 ct17 oc18 kV18 dc18 pm18 cd18 ct18 oc19 kV19 dc19 pm19 cd19 ct19 oc20 kV20 dc20 pm20 cd20 ct20 oc21 kV21 dc21 pm21 cd21 ct21 oc22 kV22 dc22 pm22 cd22 ct22 oc23 kV23 dc23 pm23 cd23 ct23 oc24 kV24 dc24 pm24 cd24 ct24 oc25 kV25 dc25 pm25 cd25 ct25 oc26 kV26 dc26 pm26 cd26 ct26 oc27 kV27 dc27 pm27 cd27 ct27:I0}
 (a1:NI K "_law_tape" f1)(l1:LK K "_law_tape" (top 18) f1 oc1 od1 kV1 dc1 pm1 an1 cd1 ct1 sl1)(c1:JC K cd1 "_law_tape" = true)(k1:JD K (.ref f1)=true)(a2:NI K "_law_pick" f2)(l2:LK K "_law_pick" (top 19) f2 oc2 od2 kV2 dc2 pm2 an2 cd2 ct2 sl2)(c2:JC K cd2 "_law_pick" = true)(k2:JD K (.ref f2)=true)(a3:NI K "_law_any" f3)(l3:LK K "_law_any" (top 22) f3 oc3 od3 kV3 dc3 pm3 an3 cd3 ct3 sl3)(c3:JC K cd3 "_law_any" = true)(k3:JD K (.ref f3)=true)(a4:NI K "_law_sum" f4)(l4:LK K "_law_sum" (top 26) f4 oc4 od4 kV4 dc4 pm4 an4 cd4 ct4 sl4)(c4:JC K cd4 "_law_sum" = true)(k4:JD K (.ref f4)=true)(a5:NI K "_law_power" f5)(l5:LK K "_law_power" (top 21) f5 oc5 od5 kV5 dc5 pm5 an5 cd5 ct5 sl5)(c5:JC K cd5 "_law_power" = true)(k5:JD K (.ref f5)=true)(a6:NI K "_law_applied" f6)(l6:LK K "_law_applied" (top 27) f6 oc6 od6 kV6 dc6 pm6 an6 cd6 ct6 sl6)(c6:JC K cd6 "_law_applied" = true)(k6:JD K (.ref f6)=true)(a7:NI K "_law_mirror" f7)(l7:LK K "_law_mirror" (top 24) f7 oc7 od7 kV7 dc7 pm7 an7 cd7 ct7 sl7)(c7:JC K cd7 "_law_mirror" = true)(k7:JD K (.ref f7)=true)(a8:NI K "_law_sum_table" f8)(l8:LK K "_law_sum_table" (top 23) f8 oc8 od8 kV8 dc8 pm8 an8 cd8 ct8 sl8)(c8:JC K cd8 "_law_sum_table" = true)(k8:JD K (.ref f8)=true)(a9:NI K "_law_tables" f9)(l9:LK K "_law_tables" (top 25) f9 oc9 od9 kV9 dc9 pm9 an9 cd9 ct9 sl9)(c9:JC K cd9 "_law_tables" = true)(k9:JD K (.ref f9)=true)(a10:NI K "_law_figures_of" f10)(l10:LK K "_law_figures_of" (top 28) f10 oc10 od10 kV10 dc10 pm10 an10 cd10 ct10 sl10)(c10:JC K cd10 "_law_figures_of" = true)(k10:JD K (.ref f10)=true)(a11:NI K "_law_points" f11)(l11:LK K "_law_points" (top 29) f11 oc11 od11 kV11 dc11 pm11 an11 cd11 ct11 sl11)(c11:JC K cd11 "_law_points" = true)(k11:JD K (.ref f11)=true)(a12:NI K "_law_size" f12)(l12:LK K "_law_size" (top 20) f12 oc12 od12 kV12 dc12 pm12 an12 cd12 ct12 sl12)(c12:JC K cd12 "_law_size" = true)(k12:JD K (.ref f12)=true)(a13:NI K "inverse_of" f13)(l13:LK K "inverse_of" (top 1) f13 oc13 od13 kV13 dc13 pm13 an13 cd13 ct13 sl13)(c13:JC K cd13 "inverse_of" = true)(k13:JD K (.ref f13)=true)(a14:NI K "unit_figures" f14)(l14:LK K "unit_figures" (top 3) f14 oc14 od14 kV14 dc14 pm14 an14 cd14 ct14 sl14)(c14:JC K cd14 "unit_figures" = true)(k14:JD K (.ref f14)=true)(a15:NI K "first_filled" f15)(l15:LK K "first_filled" (top 4) f15 oc15 od15 kV15 dc15 pm15 an15 cd15 ct15 sl15)(c15:JC K cd15 "first_filled" = true)(k15:JD K (.ref f15)=true)(a16:NI K "scaled" f16)(l16:LK K "scaled" (top 5) f16 oc16 od16 kV16 dc16 pm16 an16 cd16 ct16 sl16)(c16:JC K cd16 "scaled" = true)(k16:JD K (.ref f16)=true)(a17:NI K "cleared" f17)(l17:LK K "cleared" (top 6) f17 oc17 od17 kV17 dc17 pm17 an17 cd17 ct17 sl17)(c17:JC K cd17 "cleared" = true)(k17:JD K (.ref f17)=true)(a18:NI K "reduced" f18)(l18:LK K "reduced" (top 7) f18 oc18 od18 kV18 dc18 pm18 an18 cd18 ct18 sl18)(c18:JC K cd18 "reduced" = true)(k18:JD K (.ref f18)=true)(a19:NI K "combination" f19)(l19:LK K "combination" (top 9) f19 oc19 od19 kV19 dc19 pm19 an19 cd19 ct19 sl19)(c19:JC K cd19 "combination" = true)(k19:JD K (.ref f19)=true)(a20:NI K "right_inverse" f20)(l20:LK K "right_inverse" (top 8) f20 oc20 od20 kV20 dc20 pm20 an20 cd20 ct20 sl20)(c20:JC K cd20 "right_inverse" = true)(k20:JD K (.ref f20)=true)(a21:NI K "shapes_of" f21)(l21:LK K "shapes_of" (top 11) f21 oc21 od21 kV21 dc21 pm21 an21 cd21 ct21 sl21)(c21:JC K cd21 "shapes_of" = true)(k21:JD K (.ref f21)=true)(a22:NI K "rows_of" f22)(l22:LK K "rows_of" (top 12) f22 oc22 od22 kV22 dc22 pm22 an22 cd22 ct22 sl22)(c22:JC K cd22 "rows_of" = true)(k22:JD K (.ref f22)=true)(a23:NI K "_law_shapes" f23)(l23:LK K "_law_shapes" (top 30) f23 oc23 od23 kV23 dc23 pm23 an23 cd23 ct23 sl23)(c23:JC K cd23 "_law_shapes" = true)(k23:JD K (.ref f23)=true)(a24:NI K "net_paper" f24)(l24:LK K "net_paper" (top 14) f24 oc24 od24 kV24 dc24 pm24 an24 cd24 ct24 sl24)(c24:JC K cd24 "net_paper" = true)(k24:JD K (.ref f24)=true)(a25:NI K "strength" f25)(l25:LK K "strength" (top 16) f25 oc25 od25 kV25 dc25 pm25 an25 cd25 ct25 sl25)(c25:JC K cd25 "strength" = true)(k25:JD K (.ref f25)=true)(a26:NI K "_law_as_many" f26)(l26:LK K "_law_as_many" (top 31) f26 oc26 od26 kV26 dc26 pm26 an26 cd26 ct26 sl26)(c26:JC K cd26 "_law_as_many" = true)(k26:JD K (.ref f26)=true)(a27:NI K "law" f27)(l27:LK K "law" (top 32) f27 oc27 od27 kV27 dc27 pm27 an27 cd27 ct27 sl27)(c27:JC K cd27 "law" = true)(k27:JD K (.ref f27)=true)
 (z_int:NZ K "int")(z_bool:NZ K "bool")(z_str:NZ K "str")(z_list:NZ K "list")(z_tuple:NZ K "tuple")(z_dict:NZ K "dict")(z_isinstance:NZ K "isinstance")(z_len:NZ K "len")(z_abs:NZ K "abs")(z_repr:NZ K "repr")(z_range:NZ K "range")(z_all:NZ K "all")(z_any:NZ K "any")(z_sum:NZ K "sum")(z_min:NZ K "min")(z_max:NZ K "max")(z_sorted:NZ K "sorted")(z_zip:NZ K "zip")(z_enumerate:NZ K "enumerate")(z_reversed:NZ K "reversed")(z_divmod:NZ K "divmod")(z_set:NZ K "set")   :
 ∃fd:LD,(∀(s:Ja)(v:I0),Qu s fd ⟨[v],[]⟩ [("_law_script", v)])/\∀base:Heap,K.In base->base.Ns Ke mg->FnOk l.prog w K mg base IE 8 fa fd ["_law_script"] (gn K):=by
 have e:=hfa.symm.trans (PySem.W.mg_of X G a27);cases e;have B:Bz mg:=⟨Jy X G z_int,Jy X G z_bool,Jy X G z_str,Jy X G z_list,Jy X G z_tuple,Jy X G z_dict,Jy X G z_isinstance,Jy X G z_len,Jy X G z_abs,Jy X G z_repr,Jy X G z_range,Jy X G z_all,Jy X G z_any,Jy X G z_sum,Jy X G z_min,Jy X G z_max,Jy X G z_sorted,Jy X G z_zip,Jy X G z_enumerate,Jy X G z_reversed,Jy X G z_divmod,Jy X G z_set⟩;have T:Txt K mg:=⟨B,(a_ X G a1 l1 c1 k1 fun _ _ _ _ _ _ us hl=>match us,hl with | [_,_],_=>rfl),(a_ X G a2 l2 c2 k2 fun _ _ _ _ _ _ us hl=>match us,hl with | [_,_],_=>rfl),(a_ X G a3 l3 c3 k3 fun _ _ _ _ _ _ us hl=>match us,hl with | [_,_,_,_],_=>rfl),(a_ X G a4 l4 c4 k4 fun _ _ _ _ _ _ us hl=>match us,hl with | [_,_,_],_=>rfl),(a_ X G a5 l5 c5 k5 fun _ _ _ _ _ _ us hl=>match us,hl with | [_,_],_=>rfl),(a_ X G a6 l6 c6 k6 fun _ _ _ _ _ _ us hl=>match us,hl with | [_,_,_],_=>rfl),(a_ X G a7 l7 c7 k7 fun _ _ _ _ _ _ us hl=>match us,hl with | [_],_=>rfl),(a_ X G a8 l8 c8 k8 fun _ _ _ _ _ _ us hl=>match us,hl with | [_,_,_],_=>rfl),(a_ X G a9 l9 c9 k9 fun _ _ _ _ _ _ us hl=>match us,hl with | [_,_,_],_=>rfl),(a_ X G a10 l10 c10 k10 fun _ _ _ _ _ _ us hl=>match us,hl with | [_,_,_],_=>rfl),(a_ X G a11 l11 c11 k11 fun _ _ _ _ _ _ us hl=>match us,hl with | [_,_,_],_=>rfl),(a_ X G a12 l12 c12 k12 fun _ _ _ _ _ _ us hl=>match us,hl with | [_],_=>rfl),(a_ X G a13 l13 c13 k13 fun _ _ _ _ _ _ us hl=>match us,hl with | [_,_],_=>rfl),(a_ X G a14 l14 c14 k14 fun _ _ _ _ _ _ us hl=>match us,hl with | [_,_],_=>rfl),(a_ X G a15 l15 c15 k15 fun _ _ _ _ _ _ us hl=>match us,hl with | [_],_=>rfl),(a_ X G a16 l16 c16 k16 fun _ _ _ _ _ _ us hl=>match us,hl with | [_,_,_],_=>rfl),(a_ X G a17 l17 c17 k17 fun _ _ _ _ _ _ us hl=>match us,hl with | [_,_,_,_],_=>rfl),(a_ X G a18 l18 c18 k18 fun _ _ _ _ _ _ us hl=>match us,hl with | [_,_],_=>rfl),(a_ X G a19 l19 c19 k19 fun _ _ _ _ _ _ us hl=>match us,hl with | [_,_],_=>rfl),(a_ X G a20 l20 c20 k20 fun _ _ _ _ _ _ us hl=>match us,hl with | [_,_],_=>rfl),(a_ X G a21 l21 c21 k21 fun _ _ _ _ _ _ us hl=>match us,hl with | [_,_],_=>rfl),(a_ X G a22 l22 c22 k22 fun _ _ _ _ _ _ us hl=>match us,hl with | [_,_],_=>rfl),(a_ X G a23 l23 c23 k23 fun _ _ _ _ _ _ us hl=>match us,hl with | [_,_],_=>rfl),(a_ X G a24 l24 c24 k24 fun _ _ _ _ _ _ us hl=>match us,hl with | [_,_,_],_=>rfl),(a_ X G a25 l25 c25 k25 fun _ _ _ _ _ _ us hl=>match us,hl with | [_,_],_=>rfl),(a_ X G a26 l26 c26 k26 fun _ _ _ _ _ _ us hl=>match us,hl with | [_,_,_,_,_],_=>rfl)⟩;have FL:=pC (st:=top 32) l27 c27 k27;exact⟨_,fun s v=>.of_eq rfl,fun base _ _=>zu FL T ⟩
theorem walk{l:Pr}{q:Ju}{loose:List Str}{XP:(Str->Option I0)->Heap->Prop}{YP:Kh->Heap->Prop}{d:DefRec}{K:QE->L6}(hn:l.most=some 63)(hdf:d.params.defaults=[])
 (hY:∀(w:Kh)(h:Heap),YP w h->(K w.params).In h)
 (F:∀(w:Kh)(mg:Str->Option I0)(fa:Addr)(h:Heap),(K w.params).In h->h.Ns Ke mg->mg d.name=some (.ref fa) ->
  ∃fd:LD,(∀(s:Ja)(u:I0),Qu s fd ⟨[u],[]⟩ [("_law_script", u)])/\∀base:Heap,(K w.params).In base->base.Ns Ke mg->FnOk l.prog w (K w.params) mg base IE 8 fa fd ["_law_script"] (gn (K w.params))) :
 PySem.W.WalkO q loose XP YP l.row.toRowW d [] (fun f vs=>PySem.call f vs) :=
 L2.walk_of (n:=63) (k:=8) (x := "_law_script") (CX:=fun _=>IE) (sp:=fun w=>gn (K w.params)) hn (by decide) hdf ⟨rfl,by decide,by decide,rfl⟩ hY F (fun _ _ a ns hl _ hS=>⟨a,ns,rfl,hS,hl,fun _=>rfl⟩) fun _ _ _ _ _ z=>z
end K65
def PySem.W.Fast.tw6996301148509584087:PySem.Params->L6:=K65.heapK
theorem PySem.W.Fast.te6996301148509584087:K65.heapK=PySem.W.Fast.tw6996301148509584087:=rfl
open PySem PySem.W PyProof.Rows
set_option maxRecDepth 100000 in
set_option maxHeartbeats 0 in
theorem PySem.Challenge.cw_evenpoints_k65_strength_by_boxes_holds : PySem.Challenge.rw_evenpoints_k65_strength_by_boxes.Holds := by
 refine(congrArg Pr.Holds K65.rw_eq).mpr ?_
 w_on;o_law
 refine holds_open (loose:=[]) (XP:=XL K65.zview []) (YP:=Hook.says (kHook K65.heapK K65.heapA K65.heapE)) K65.zleft
  (Hook.of _) (Hook.keeps _) (fun s e=>xl_of s (Je.mp e).1)
  XL.keeps (by rfl) (by rfl) (by rfl) (fun s e=>recFacts_of (Je.mp e).2) (by rfl)
  (by first|assumption|decide +kernel) (by decide +kernel) ⟨rfl,rfl,rfl,rfl,rfl,by decide +kernel⟩ ?hw ?hc
 (case hw=>w_witness2)
 k_fill
 refine K65.walk (l:=K65.rwN) rfl rfl (fun w h Y=>PySem.W.kIn_of (as:=K65.heapA) (e:=K65.heapE) Y) ?F
 case F =>
  intro w mg fa h KX G hmg
  refine' K65.all_mk KX G hmg ?a1 ?l1 ?c1 ?k1 ?a2 ?l2 ?c2 ?k2 ?a3 ?l3 ?c3 ?k3 ?a4 ?l4 ?c4 ?k4 ?a5 ?l5 ?c5 ?k5 ?a6 ?l6 ?c6 ?k6 ?a7 ?l7 ?c7 ?k7 ?a8 ?l8 ?c8 ?k8 ?a9 ?l9 ?c9 ?k9 ?a10 ?l10 ?c10 ?k10 ?a11 ?l11 ?c11 ?k11 ?a12 ?l12 ?c12 ?k12 ?a13 ?l13 ?c13 ?k13 ?a14 ?l14 ?c14 ?k14 ?a15 ?l15 ?c15 ?k15 ?a16 ?l16 ?c16 ?k16 ?a17 ?l17 ?c17 ?k17 ?a18 ?l18 ?c18 ?k18 ?a19 ?l19 ?c19 ?k19 ?a20 ?l20 ?c20 ?k20 ?a21 ?l21 ?c21 ?k21 ?a22 ?l22 ?c22 ?k22 ?a23 ?l23 ?c23 ?k23 ?a24 ?l24 ?c24 ?k24 ?a25 ?l25 ?c25 ?k25 ?a26 ?l26 ?c26 ?k26 ?a27 ?l27 ?c27 ?k27 ?zint ?zbool ?zstr ?zlist ?ztuple ?zdict ?zisinstance ?zlen ?zabs ?zrepr ?zrange ?zall ?zany ?zsum ?zmin ?zmax ?zsorted ?zzip ?zenumerate ?zreversed ?zdivmod ?zset  
  all_goals (try change _=_)
  (case a1=>k_is);(case l1=>k_is);(case c1=>k_is);(case k1=>k_is)
  (case a2=>k_is);(case l2=>k_is);(case c2=>k_is);(case k2=>k_is)
  (case a3=>k_is);(case l3=>k_is);(case c3=>k_is);(case k3=>k_is)
  (case a4=>k_is);(case l4=>k_is);(case c4=>k_is);(case k4=>k_is)
  (case a5=>k_is);(case l5=>k_is);(case c5=>k_is);(case k5=>k_is)
  (case a6=>k_is);(case l6=>k_is);(case c6=>k_is);(case k6=>k_is)
  (case a7=>k_is);(case l7=>k_is);(case c7=>k_is);(case k7=>k_is)
  (case a8=>k_is);(case l8=>k_is);(case c8=>k_is);(case k8=>k_is)
  (case a9=>k_is);(case l9=>k_is);(case c9=>k_is);(case k9=>k_is)
  (case a10=>k_is);(case l10=>k_is);(case c10=>k_is);(case k10=>k_is)
  (case a11=>k_is);(case l11=>k_is);(case c11=>k_is);(case k11=>k_is)
  (case a12=>k_is);(case l12=>k_is);(case c12=>k_is);(case k12=>k_is)
  (case a13=>k_is);(case l13=>k_is);(case c13=>k_is);(case k13=>k_is)
  (case a14=>k_is);(case l14=>k_is);(case c14=>k_is);(case k14=>k_is)
  (case a15=>k_is);(case l15=>k_is);(case c15=>k_is);(case k15=>k_is)
  (case a16=>k_is);(case l16=>k_is);(case c16=>k_is);(case k16=>k_is)
  (case a17=>k_is);(case l17=>k_is);(case c17=>k_is);(case k17=>k_is)
  (case a18=>k_is);(case l18=>k_is);(case c18=>k_is);(case k18=>k_is)
  (case a19=>k_is);(case l19=>k_is);(case c19=>k_is);(case k19=>k_is)
  (case a20=>k_is);(case l20=>k_is);(case c20=>k_is);(case k20=>k_is)
  (case a21=>k_is);(case l21=>k_is);(case c21=>k_is);(case k21=>k_is)
  (case a22=>k_is);(case l22=>k_is);(case c22=>k_is);(case k22=>k_is)
  (case a23=>k_is);(case l23=>k_is);(case c23=>k_is);(case k23=>k_is)
  (case a24=>k_is);(case l24=>k_is);(case c24=>k_is);(case k24=>k_is)
  (case a25=>k_is);(case l25=>k_is);(case c25=>k_is);(case k25=>k_is)
  (case a26=>k_is);(case l26=>k_is);(case c26=>k_is);(case k26=>k_is)
  (case a27=>k_is);(case l27=>k_is);(case c27=>k_is);(case k27=>k_is)
  (case zint=>k_is)
  (case zbool=>k_is)
  (case zstr=>k_is)
  (case zlist=>k_is)
  (case ztuple=>k_is)
  (case zdict=>k_is)
  (case zisinstance=>k_is)
  (case zlen=>k_is)
  (case zabs=>k_is)
  (case zrepr=>k_is)
  (case zrange=>k_is)
  (case zall=>k_is)
  (case zany=>k_is)
  (case zsum=>k_is)
  (case zmin=>k_is)
  (case zmax=>k_is)
  (case zsorted=>k_is)
  (case zzip=>k_is)
  (case zenumerate=>k_is)
  (case zreversed=>k_is)
  (case zdivmod=>k_is)
  (case zset=>k_is)
