import PyProof.Rows.All
import Wide.All
import OpenK.AllK
import Wide.FinOn
import Lean
import PyProof.EqAt
import PyProof.EqKinds
import PyProof.TupleCall
import KE.KDictSum
import KE.KMinKey
import PyProof.Rows.CallKwBuiltin
import PyProof.SumWalkG
import PyProof.WalksMore
import PyProof.AutoSeq1
import PyProof.Rows.Range3
import PySem.Challenge.RW_evenpoints_k71_whole_fewer_sides
set_option Elab.async false
set_option linter.all false
set_option maxRecDepth 100000
set_option maxHeartbeats 4000000
open And renaming intro->Ip
open Array renaming length_toList->L4, mk->Pn
open Bool renaming and_eq_true_iff->IF, or_eq_true_iff->I0, false_ne_true->Je, eq_iff_iff->LD, and_eq_true->MD, false_eq_true->Nj
open Classical renaming choose_spec->Iq, choose->Ja
open False renaming elim->Jq
open ForInStep renaming yield->LI
open Iff renaming rfl->Mv
open Int renaming eq_ofNat_of_zero_le->JC, toNat_natCast->JO, mul_le_mul_of_nonneg_left->JV, toNat_of_nonneg->J3, gcd->Kg, fdiv_eq_ediv_of_nonneg->Ko, pow_pos->Kq, fmod_nonneg_of_pos->KC, fmod_lt_of_pos->K6, pow_succ->K7, emod_eq_of_lt->Ll, mul_le_mul_of_nonneg_right->Lm, mul_zero->Ln, mul_nonneg->LA, zero_add->LM, mul_lt_mul_of_pos_right->LN, fmod_eq_emod_of_nonneg->LW, add_mul_emod_self_left->LY, emod_lt_of_pos->Mk, le_refl->Mu, natAbs_dvd_natAbs->MA, emod_add_mul_ediv->MB, natAbs_of_nonneg->MI, mul_one->MQ, emod_nonneg->M3, ediv_nonneg->M4, gcd_comm->Nk, mul_comm->Nm, lt_of_lt_of_le->Nn, dvd_mul_right->NF, pow_add->NN, fmod_add_mul_fdiv->Od, natCast_mul->Oe, sub_zero->Og, pow_nonneg->Ow, ediv_one->O_, le_of_lt->Pe, le_trans->Pf, pow_zero->Pi, zero_mul->Pj, mul_neg->Pv
open List renaming mem_cons_of_mem->Ir, getD_eq_getElem?_getD->Ix, getElem?_eq_getElem->Iy, mem_cons_self->Iz, length_map->IE, replicate->IH, size_toArray->IK, getElem?_set_ne->IM, range->IN, map_cons->IP, getElem?_eq_some_iff->IR, mem_append_right->IS, getElem?_set_self->IW, mem_cons->Jf, getElem?_map->Jj, mem_map->Jo, map_map->Jp, length_cons->Ju, length_append->Jx, getElem_mem->JA, mem_range->JB, take_of_length_le->JH, replicate_succ->JJ, getElem?_set->JP, length_take->JQ, mem_append->JR, append_nil->JS, lookup_cons->JU, Nodup->JW, nodup_cons->JX, find?_cons->JY, sum_cons->J0, drop_eq_getElem_cons->J1, map_append->Kc, map_congr_left->Kl, length_reverse->Kt, flatten_cons->Kw, all_eq_true->KA, drop_of_length_le->KE, getElem?_append_left->KF, length_drop->KM, drop_length->KN, flatMap_cons->KQ, of_mem_zip->KW, mem_map_of_mem->KY, getElem?_append_right->K0, mem_singleton->K9, zip_cons_cons->La, length_range->Lk, getElem_map->Ly, length_nil->LF, getElem?_eq_none->LH, reverse_cons->LR, append_assoc->LS, any_cons->LU, mem_of_getElem?->LZ, getElem?_take_of_lt->L5, length_erase_of_mem->L7, getElem?_replicate->Ma, foldl_cons->Mf, nil_append->Mg, forIn_cons->Mh, getElem_range->Mj, take_succ_eq_append_getElem->Mn, foldl->Ms, ext_getElem->MF, nodup_range->MG, mem_of_mem_take->MJ, map_take->ML, filterMap_cons->MN, length_zip->M5, range_succ->M6, getElem_of_mem->M7, flatMap_append->M8, length_eraseIdx_of_lt->Na, map_nil->Nh, length_zipIdx->No, drop_zero->Nr, mem_of_find?_eq_some->Nu, mem_or_eq_of_mem_set->Nv, getElem?_cons_succ->NL, cons_append->NO, mem_reverse->NQ, getElem_zip->NR, mem_flatMap->NS, filterMap_eq_map'->N0, length_replicate->N4, length_set->N6, length_singleton->N7, sum_append->Of, mem_append_left->Oq, mem_erase_of_ne->Ou, length_flatMap->OM, Perm->Py
open List.Pairwise renaming nil->Nz
open List.Perm renaming append_left->Oh
open List.cons renaming injEq->J9
open Nat renaming le_refl->ID, lt_of_lt_of_le->IG, pow_le_pow_right->Jm, le_trans->Jr, ne_of_lt->Jt, zero_le->Jz, lt_irrefl->JL, le_of_succ_le->Km, lt_of_le_of_lt->K5, pow_lt_pow_right->Lh, min_eq_right->Lx, ne_of_gt->LC, min_eq_left->LL, le_add_right->L1, div_lt_self->MX, strongRecOn->MY, sub_zero->Nl, le_mul_of_pos_right->NJ, mul_comm->N8, lt_trans->N9, mul_le_mul_right->Ot, mul_le_mul_left->OG, Coprime->OK, le_of_lt->O6, succ_mul->Pb, pow_succ->Pg
open Ne renaming symm->L3
open Option renaming isSome_iff_exists->Kj, map_eq_some_iff->Mp, isSome_some->Ng, some->PM
open Option.some renaming inj->Jh
open Or renaming inr->Jw, inl->J8
open PyProof.Rows renaming slot_tuple_getitem->Jc, callWith_type1->JE, tupleItemsOf_->Md, envOfC->MR, assignInOrder_cons->Nb, args_tuple_getitem->Nd, subscriptTail_builtinR->NW, IsTup->N2, AllBare->Oy, IntsAre->OE, subscriptTail->OU, boot_range->O0, Subscript_->O2
open PySem renaming PyData->Im, wpAny_bind->Io, Value->Iw, wpAny_pure->IA, Shared->IB, starEach->IC, sizeLine_eq->IQ, wpAny->IT, Program->IZ, model->Jb, foldedSetIterable->Jd, wpAny_newObj_type->Jg, wpAny_callSpecial?_slot->Jk, wpAny_mono->Jl, wpAny_field->Jv, mem_of_lookup->Jy, mainGlobals->JI, World->JN, Around->J4, cellsFrom->J5, wpAny_call_entry->J7, wpAny_setField_rec->Kb, backTo->Kh, assignEach->Ki, Paired->Kn, swapsWith->Ku, behindInMarks->Kx, wpAny_standAt->Ky, letOwnedTupleGo->KI, wpAny_comprehension_free->KL, FuncData->KO, compareOp->KU, codeAny->KZ, wpAny_holding->K4, builtinLookup_eq_fast->K_, wpAny_of_eq->Lc, wpAny_seqItems->Ld, binaryOp->Lg, assign->Li, wpAny_passesOwn->Lj, swapsWithSole->Lp, swappedStores->Lq, noFill_tuple_add->Lw, bootBuiltins->LB, sysModules->LO, wpAny_rule->LP, wpAny_sequenceKey->LQ, wpAny_attempt->LV, wpAny_Call_Name_kw->L9, NameKind->L_, seq_tuple_add->Mc, attributeBase->Me, typeLookup_type->Ml, rawInt->Mq, sliceBounds->Mr, call_meets->Mt, newFunctionEnv->Mw, wpAny_setField->Mx, isSubtype_type->My, Keyword->MC, wpAny_isInstance->ME, wpAny_updateSeq_pair->MH, wpAny_execs_nil->MO, pyNext->MP, getItem->MS, keywordEach->MT, wpAny_specialOf->MU, theTreesLotGoes->MV, pushCells_keeps->MW, IsPair->MZ, codeAny_mono->Nc, wpAny_typeOf->Nf, tupleKind_room_in1->Ni, wpAny_binaryOp_repeat_ref->Nq, firstArgMember->Nt, wpAny_truthy_bool->Nw, wpAny_assign_Name->Nx, wpAny_pyIter_list->Ny, pushCells->NC, holding->NH, wpAny_onRaise->NK, wpAny_pyNext_range_end->NT, wpAny_pyIter_rangeiter->NU, again->NV, codeAny_compStart_list->NY, importedModules->N1, wpAny_isTrue_Compare1->N3, IsPart->N5, codeAny_loop->N_, exec_Assign_Name_used->Oa, typeLookup->On, typeIs_int->Op, wpAny_loadName_local->Os, intBits_le_iff->Ov, isSubtype_stop->Ox, wpAny_loadName_cell->Oz, standAt->OA, IsRangeIter->OB, seqIndex_of->OC, subscripted->OD, wpAny_noted->OF, wpAny_letGo->OI, tupleKind->OP, assignInOrder->OQ, Operator->OR, PassesOwn->OS, evalPart_none->OT, seqIndex?->OV, backToKw->OW, compTurn->OX, noteFrame->OY, CmpOp->OZ, cLine->O1, valueAt->O3, callerA->O4, IsZip->O5, pyIter->O7, name_of_addr->O8, concat_meets->O9, seqIndex_neg->Pa, callType_new->Ph, compPost->Po, inplaceOp->Pq, sizeLine_eq->Ps, Result->Pt, BindsTo->Pu, field->Pw, wpAny_mkInt->Pz, IsEnum->PD, Params->PF, setItem->PJ, relabel->PK, atKey->PL
open PySem.AutoSeq1 renaming wpAny_loadPart'->L8
open PySem.Builtin.List renaming listTooLong->L6
open PySem.Builtin.Range renaming rangeSize->Lr, small->OL
open PySem.Builtin.Slice renaming slicePlaces->Kd, sliceApplied->K1, sliceAdjust->L0, sliceFields->Np
open PySem.Builtin.SmallTypes renaming nextOf->JD, ownedTupleIsFree->JT, ownedTupleHandOut->Ks
open PySem.Builtin.Tuple renaming tupleExact->JG, tupleItemsOf->K3, tupleIsExact->LX
open PySem.Calls renaming Name_function_global->M_
open PySem.F renaming args_tuple_add_2->Kv, entry_tuple_add->Kz, slot_tuple_add->KB, plainAttrs_list->Ls, slot_list_append->NA, type_list_append->NB, slot_list_pop->Oi, type_list_pop->Oj
open PySem.Heap renaming get?_push_of_some->Iu, lt_size->II, get?_push_size->IL, size_push->J_, SameBut->KP, get?_update_self->LG, get?_update_other->NX, ExtBut->OH
open PySem.Heap.SameBut renaming update->Lu, refl->ND
open PySem.IsRange renaming new->Pr
open PySem.NameKind renaming free->JZ, cell->KG
open PySem.Obj renaming data_mapFields->K8, mapFields->Mm, isFreed_of_fields->Mz, mapSeq->Oo
open PySem.Paired renaming length->J6
open PySem.PassesOwn renaming never->JF
open PySem.PyData renaming int->IJ, tuple->Ji, depthAll->Jn, depth->JM, canLay0->Ka, canLayAll0->Ke, eqv->Kk, bulkAll->KH, bulk->LJ, leavesShort->Mi, eqvAll->MK, list->M9, showable->Ob, leavesShortAll->Oc, bool->OJ
open PySem.PyData.int renaming injEq->NP
open PySem.PyData.list renaming injEq->NE
open PySem.PyData.tuple renaming injEq->Kf
open PySem.SeqAt renaming shaped->KJ
open PySem.Shared renaming heap->Px
open PySem.Value renaming ref->KR, none->Lz, int->OO, str->Pp
open PySem.W renaming codeIn->IU, keepIn->IV, mg_none_of->I_, boot_heap->Kr, Frag->Lo, OpenLaw->Ol, boot_drawn->Om, boot_toks->ON, nsIn->Pk, fnOf->Pl, OpenLaw->PH
open Rat renaming intCast_mul->M2, normalize->NM
open Sum renaming inl->JK, inr->Lb
open Sum.inl renaming inj->NG
open True renaming intro->MM
open PySem PySem.Spec PyProof.Rows
variable{α β:Type}{N m t' j n:Nat}{xs xs':List Im}{a it:Addr}{b c:Int}{P:IZ}{h base h':Heap}{o ds:List Int}{A:J4}{E Q:Iw->IB->Prop}{u:Iw}{e tg iter:Expr}{s:IB}{pos pos' px:Pos}{pins:List (Addr×Obj)}{op:OZ}{fp:List Addr}{f:Iw->Iw->Sem Iw}{fd:KO}{scope:Scope}{d:Im}{ifs:List Expr}{tn:Nat->Heap->Prop}{Rp:Addr->Pt->IB->Prop}{q:Rat}{T:List (List Int)}{ts:List (List (List Int))}
namespace L2
open PySem
def wC(s:Stmt)(j:Nat):Stmt:=match s with
 | .ClassDef _ _ _ body _ _ _ _ _ _ _=>body.getD j (.Pass ⟨0,0,0,0⟩)
 | _=>.Pass ⟨0,0,0,0⟩
def defArgs(s:Stmt):Arguments:=match s with
 | .FunctionDef _ a _ _ _ _ _ _ _ _=>a
 | _=>{posonlyargs:=[],args:=[],vararg:=none,kwonlyargs:=[],kw_defaults:=[],kwarg:=none,defaults:=[]}
def defBody(s:Stmt):List Stmt:=match s with
 | .FunctionDef _ _ b _ _ _ _ _ _ _=>b
 | _=>[]
def defScope(s:Stmt):Scope:=match s with
 | .FunctionDef _ _ _ _ _ _ sc _ _ _=>sc
 | _=>{kind:=.function,names:=[],isGenerator:=false,isCoroutine:=false}
end L2
namespace L2.TT
open PySem PySem.W
def GD(tb:String->Option Builtin)(p:IZ)(w:JN)(m:Nat)(ann:Option Iw):Nat->SharedT->Thread->Option SharedT
 | 0,_,_=>none
 | n+1,s,t=>match through t with
   | true=>some s
   | false=>match stepOk m ann t with
     | false=>none
     | true=>match stepT (denote tb) p w s t with
       | some r=>GD tb p w m ann n r.1 r.2
       | none=>none
theorem tU{tb:String->Option Builtin}{p:IZ}{w:JN}{m:Nat}{ann:Option Iw}:∀{n:Nat}{s s':SharedT}{t:Thread},GD tb p w m ann n s t=some s'->topRun tb p w m ann n s.abs t=some s'.abs
 | 0,_,_,_,h=>by cases h
 | n+1,s,s',t,h=>by
   unfold GD at h
   unfold topRun
   cases he:through t with
   | true=>rw[he]at h;cases h;rfl
   | false =>
     rw[he]at h
     cases hk:stepOk m ann t with
     | false=>rw[hk]at h;cases h
     | true =>
       rw[hk]at h
       cases hs:stepT (denote tb) p w s t with
       | none=>rw[hs]at h;cases h
       | some r=>rw[hs]at h;rw[stepT_spec hs];exact tU h
def bt(os:List Obj):Nat->Nat->Nat->BT
 | 0,_,_=>.nil
 | f+1,a,b=>match os[b]? with
   | some o=>.node o (bt os f (2*a) (a+b)) (bt os f (2*a) (2*a+b))
   | none=>.nil
theorem boot_abs(P:PF):absHeap (bt (Kr P).objs.toList 12 1 0) (Kr P).objs.size (Kr P).life=Kr P:=by kernel_rfl
abbrev zw(p q:IZ)(loose:List Str)(Xt:IB->Bool){α:Type}(Yf:IB->α)(h₀:Heap)(s:IB) :=
 (staticsOk (N1 p.main.body) h₀ s.heap&&namesBound p s.heap&&gensDone s&&laidKept h₀ s.heap,openSeen q loose (N1 p.main.body) Xt true s,Yf s)
theorem left_of{p q:IZ}{loose:List Str}{Xt:IB->Bool}{Yf:IB->α}{Ya:JN->α}{M:Nat}{ann:Option Iw}
 (e:opening p=plainProg p.main.scope.names)(hN:Nat.ble 600 N=true)(f:∀s,fenceModules? p s=some s)(le:Nat.ble M N=true)
 (size:∀w:JN,((Kr w.params).isNs JI,(Kr w.params).objs.size,(Kr w.params).nsMap JI "__annotations__")=(true,m,ann))
 (run:∀(w:JN)(os:OsState),(GD treeTable p w m ann M ⟨bt (Kr w.params).objs.toList 12 1 0,(Kr w.params).objs.size,(Kr w.params).life,Pn [],Om,ON,os⟩ (topStub p)).map (fun s=>zw p q loose Xt Yf (Kr w.params) s.abs)=some (true,openGood q loose,Ya w)) :
 LeftO p q loose Xt Yf Ya N:=fun w=>by
 obtain⟨⟨h,gs,d,k,os⟩,eo,e'⟩:=Mp.mp (boot_open e hN f w)
 obtain⟨rfl,rfl,rfl,rfl⟩:h=Kr w.params/\gs=Pn []/\d=Om/\k=ON:=by simpa using e'
 obtain⟨z1,z2,z3⟩:_/\_/\_:=by simpa only[Prod.mk.injEq]using size w
 obtain⟨s',r,l⟩:=Mp.mp (run w os)
 obtain⟨l1,l2,l3⟩:_/\_/\_:=by simpa only[zw,Prod.mk.injEq]using l
 have r:=tU r
 have hb:SharedT.abs ⟨bt (Kr w.params).objs.toList 12 1 0,(Kr w.params).objs.size,(Kr w.params).life,Pn [],Om,ON,os⟩=⟨Kr w.params,Pn [],Om,ON,os⟩:=by
  show IB.mk (absHeap _ _ _) _ _ _ _=_
  rw[boot_abs]
 rw[hb]at r
 have r:=topRun_mono (N-M) _ _ _ _ r
 rw[show M+(N-M)=N by have:=Nat.le_of_ble_eq_true le;omega]at r
 have t:topFrom treeTable p w N ⟨Kr w.params,Pn [],Om,ON,os⟩=some s'.abs:=by
  unfold topFrom
  dsimp only
  rw[z1,z2,z3,r]
  show(match staticsOk (N1 p.main.body) (Kr w.params) s'.abs.heap&&namesBound p s'.abs.heap&&gensDone s'.abs&&laidKept (Kr w.params) s'.abs.heap with|true=>_|false=>_)=_
  rw[l1]
 unfold openEnds
 rw[eo]
 show(topFrom treeTable p w N _).map _=_
 rw[t]
 exact congrArg some (Prod.ext l2 l3)
end L2.TT
namespace K71
open PySem
def top(i:Nat):Stmt:=PySem.Challenge.pw_evenpoints_k71_whole_fewer_sides.main.body.getD i (.Pass ⟨0,0,0,0⟩)
end K71
def PySem.W.Fast.tw798581671559115966:PySem.Program:=PySem.Challenge.pw_evenpoints_k71_whole_fewer_sides
theorem PySem.W.Fast.te798581671559115966:PySem.Challenge.pw_evenpoints_k71_whole_fewer_sides=PySem.W.Fast.tw798581671559115966:=rfl
namespace K71
open PySem PySem.W L2
def Ey:Stmt:=top 0
def Ex:Stmt:=top 1
def Ew:Stmt:=top 2
def Ev:Stmt:=top 3
def Eu:Stmt:=top 4
def Et:Stmt:=top 5
def Es:Stmt:=top 6
def Er:Stmt:=top 7
def Ep:Stmt:=top 8
def Eo:Stmt:=top 9
def C8:Stmt:=top 10
def DJ:Stmt:=top 11
def C7:Stmt:=top 12
def DI:Stmt:=top 13
def C6:Stmt:=top 14
def C5:Stmt:=top 15
def C4:Stmt:=top 16
def C3:Stmt:=top 17
def C2:Stmt:=top 18
def C1:Stmt:=top 19
def C0:Stmt:=top 20
def CZ:Stmt:=top 21
def CY:Stmt:=top 22
def DH:Stmt:=top 23
def CW:Stmt:=top 24
def CU:Stmt:=top 25
def CT:Stmt:=top 26
def CQ:Stmt:=top 27
def DG:Stmt:=top 28
def CP:Stmt:=top 29
def DF:Stmt:=top 30
def CO:Stmt:=top 31
def DE:Stmt:=top 32
def CN:Stmt:=top 33
def CM:Stmt:=top 34
def CL:Stmt:=top 35
def DC:Stmt:=top 36
def CK:Stmt:=top 37
def CJ:Stmt:=top 38
def CH:Stmt:=top 39
def CG:Stmt:=top 40
def CF:Stmt:=top 41
def CD:Stmt:=top 42
def CC:Stmt:=top 43
def CA:Stmt:=top 44
def FO:IZ:={PySem.Challenge.pw_evenpoints_k71_whole_fewer_sides with main:={PySem.Challenge.pw_evenpoints_k71_whole_fewer_sides.main with body:=[Ey,Ex,Ew,Ev,Eu,Et,Es,Er,Ep,Eo,C8,DJ,C7,DI,C6,C5,C4,C3,C2,C1,C0,CZ,CY,DH,CW,CU,CT,CQ,DG,CP,DF,CO,DE,CN,CM,CL,DC,CK,CJ,CH,CG,CF,CD,CC,CA]}}
def rwN:PH:={PySem.Challenge.rw_evenpoints_k71_whole_fewer_sides with prog:=FO}
def zview:IZ:={PySem.Challenge.pw_evenpoints_k71_whole_fewer_sides with main:={PySem.Challenge.pw_evenpoints_k71_whole_fewer_sides.main with body:=[Ex,Ew,Eu,Et,Er,Ep,Eo,C8,C7,C6,C5,C4,C3,C2,C1,C0,CZ,CY,CW,CU,CT,CQ,CP,CO,CN,CM,CL,CK,CJ,CH,CG,CF,CD,CC,CA]}}
theorem rw_eq:PySem.Challenge.rw_evenpoints_k71_whole_fewer_sides=rwN:=rfl
def EL(P:PF)(x:Str)(t:Nat)(v:Iw):DictEntry:=⟨Im.keyHash P x,.str x t,v⟩
def EK(n q:Str)(s:Stmt)(pm cd:Iw):Obj:=⟨.type "function", none,.func (fnOf n q (defArgs s) (defBody s) (defScope s) .none .none .none pm none cd .none),#[]⟩
def EN(n q:Str)(a b c:Nat)(l x y:Int)(r:Nat)(z:Int)(r2:Nat)(v1 v2 v3:Iw)(r3:Nat)(u:Int)(c2:Nat):Obj:=⟨.type "code", none,.fields #[.str n a,.str q b,.str "/claim/cut.py" c,.int l 0,.int x 0,.int 0 0,.int 0 0,.int y 0,.ref r,.bool true,.int z 0,.ref r2,v1,v2,v3,.ref r3,.int u 0,.int l 0,.str "/claim/cut.py" c2],#[]⟩
def EI:Iw:=.str "evenpoints.errors" 187
def EH:Iw:=.str "evenpoints.fractions" 232
def EG:Iw:=.str "evenpoints.figures" 251
def EF:Iw:=.str "evenpoints.rows" 293
def EE:Iw:=.str "evenpoints.tables" 308
def ED:Iw:=.str "evenpoints.nets" 369
def EC:Iw:=.str "evenpoints.netpapers" 404
def EB:Iw:=.str "evenpoints.strength" 419
def EA:Iw:=.str "evenpoints.moves" 430
def Ez:Iw:=.str "law_evenpoints_k71_whole_fewer_sides" 454
abbrev EJ(n:Str):=EK n n
abbrev EM(n:Str):=EN n n
def heapK(P:PF):Frag :=
 (nat_lit 2,(.mk .none none (.dict #[] 0) #[])) ::
 (nat_lit 3,(.mk (.type "dict") none (.dict #[EL P "__name__" 165 (.str "law_evenpoints_k71_whole_fewer_sides" 454),EL P "__doc__" 166 .none,EL P "__package__" 167 .none,EL P "__loader__" 168 (.builtin "__main__.__loader__#opaque"),EL P "__spec__" 169 .none,EL P "__annotations__" 170 (.ref 6),EL P "__builtins__" 171 (.ref 4),EL P "__file__" 173 (.str "/claim/cut.py" 172),EL P "__cached__" 174 .none,EL P "EvenError" 206 (.ref 24),EL P "Nought" 231 (.ref 44),EL P "common_divisor" 241 (.ref 53),EL P "fraction" 250 (.ref 60),EL P "power" 262 (.ref 67),EL P "figures_of" 272 (.ref 74),EL P "figures_in" 282 (.ref 81),EL P "number_of" 292 (.ref 88),EL P "inverse_of" 307 (.ref 95),EL P "product_sum" 315 (.ref 100),EL P "applied" 321 (.ref 105),EL P "unit_figures" 327 (.ref 110),EL P "first_filled" 336 (.ref 117),EL P "scaled" 342 (.ref 122),EL P "cleared" 348 (.ref 127),EL P "reduced" 354 (.ref 132),EL P "right_inverse" 360 (.ref 137),EL P "combination" 368 (.ref 144),EL P "table_number" 380 (.ref 151),EL P "points_of_tables" 386 (.ref 156),EL P "shapes_of" 392 (.ref 161),EL P "rows_of" 403 (.ref 168),EL P "net_paper" 418 (.ref 175),EL P "strength" 429 (.ref 182),EL P "picked" 437 (.ref 187),EL P "exchanged" 445 (.ref 194),EL P "shadow" 453 (.ref 201),EL P "_law_tape" 464 (.ref 208),EL P "_law_pick" 475 (.ref 215),EL P "_law_size" 483 (.ref 222),EL P "_law_any" 498 (.ref 229),EL P "_law_sum_table" 504 (.ref 234),EL P "_law_mirror" 510 (.ref 239),EL P "_law_tables" 516 (.ref 244),EL P "law" 522 (.ref 249)] 44) #[])) ::
 (nat_lit 6,(.mk (.type "dict") none (.dict #[] 0) #[])) ::
 (nat_lit 15,(.mk (.type "tuple") none (.seq #[(.type "ValueError")] 0) #[])) ::
 (nat_lit 22,(.mk (.type "tuple") none (.seq #[] 0) #[])) ::
 (nat_lit 23,(.mk (.type "dict") none (.dict #[EL P "__module__" 196 (.str "evenpoints.errors" 187),EL P "__firstlineno__" 200 (.int 2 199),EL P "__static_attributes__" 201 (.ref 22),EL P "__weakref__" 203 (.ref 25),EL P "__doc__" 204 .none] 3) #[])) ::
 (nat_lit 24,(.mk (.type "type") none (.cls (.mk "EvenError" [(.type "ValueError")] [(.ref 24),(.type "ValueError"),(.type "Exception"),(.type "BaseException"),(.type "object")] 23 "EvenError" true [] [(.ref 44)] false none false)) #[(some (.ref 15)),none,(some (.str "EvenError" 189)),(some (.str "EvenError" 197)),(some (.builtin "ValueError.__new__")),(some (.bool true))])) ::
 (nat_lit 25,(.mk (.type "getset_descriptor") none (.fields #[(.str "__weakref__" 202),(.ref 24),(.builtin "ExceptionGroup.__weakref__"),.none]) #[])) ::
 (nat_lit 28,(.mk (.type "tuple") none (.seq #[(.ref 24)] 0) #[])) ::
 (nat_lit 40,EN "__init__" "Nought.__init__" 219 220 221 6 2 3 35 181 36 .none (.ref 37) (.ref 38) 39 224 225) ::
 (nat_lit 41,EK "__init__" "Nought.__init__" (wC (top 2) 0) EI (.ref 40)) ::
 (nat_lit 42,(.mk (.type "tuple") none (.seq #[(.str "word" 227)] 0) #[])) ::
 (nat_lit 43,(.mk (.type "dict") none (.dict #[EL P "__module__" 214 (.str "evenpoints.errors" 187),EL P "__firstlineno__" 218 (.int 4 217),EL P "__init__" 226 (.ref 41),EL P "__static_attributes__" 228 (.ref 42),EL P "__doc__" 229 .none] 2) #[])) ::
 (nat_lit 44,(.mk (.type "type") none (.cls (.mk "Nought" [(.ref 24)] [(.ref 44),(.ref 24),(.type "ValueError"),(.type "Exception"),(.type "BaseException"),(.type "object")] 43 "Nought" true [] [] false none false)) #[(some (.ref 28)),none,(some (.str "Nought" 207)),(some (.str "Nought" 215)),(some (.builtin "ValueError.__new__")),(some (.bool true))])) ::
 (nat_lit 52,EM "common_divisor" 234 235 236 9 2 3 47 181 48 .none (.ref 49) (.ref 50) 51 239 240) ::
 (nat_lit 53,EJ "common_divisor" (top 4) EH (.ref 52)) ::
 (nat_lit 59,EM "fraction" 242 243 244 13 2 3 54 181 55 .none (.ref 56) (.ref 57) 58 248 249) ::
 (nat_lit 60,EJ "fraction" (top 5) EH (.ref 59)) ::
 (nat_lit 66,EM "power" 253 254 255 21 2 3 61 181 62 .none (.ref 63) (.ref 64) 65 260 261) ::
 (nat_lit 67,EJ "power" (top 7) EG (.ref 66)) ::
 (nat_lit 73,EM "figures_of" 263 264 265 26 2 3 68 181 69 .none (.ref 70) (.ref 71) 72 270 271) ::
 (nat_lit 74,EJ "figures_of" (top 8) EG (.ref 73)) ::
 (nat_lit 80,EM "figures_in" 273 274 275 32 3 3 75 181 76 .none (.ref 77) (.ref 78) 79 280 281) ::
 (nat_lit 81,EJ "figures_in" (top 9) EG (.ref 80)) ::
 (nat_lit 87,EM "number_of" 283 284 285 35 2 3 82 181 83 .none (.ref 84) (.ref 85) 86 290 291) ::
 (nat_lit 88,EJ "number_of" (top 10) EG (.ref 87)) ::
 (nat_lit 94,EM "inverse_of" 295 296 297 41 2 3 89 181 90 .none (.ref 91) (.ref 92) 93 305 306) ::
 (nat_lit 95,EJ "inverse_of" (top 12) EF (.ref 94)) ::
 (nat_lit 99,EM "product_sum" 310 311 312 50 3 3 96 181 97 .none .none .none 98 313 314) ::
 (nat_lit 100,EJ "product_sum" (top 14) EE (.ref 99)) ::
 (nat_lit 104,EM "applied" 316 317 318 52 3 3 101 181 102 .none .none .none 103 319 320) ::
 (nat_lit 105,EJ "applied" (top 15) EE (.ref 104)) ::
 (nat_lit 109,EM "unit_figures" 322 323 324 54 2 3 106 181 107 .none .none .none 108 325 326) ::
 (nat_lit 110,EJ "unit_figures" (top 16) EE (.ref 109)) ::
 (nat_lit 116,EM "first_filled" 328 329 330 56 1 3 111 181 112 .none (.ref 113) (.ref 114) 115 334 335) ::
 (nat_lit 117,EJ "first_filled" (top 17) EE (.ref 116)) ::
 (nat_lit 121,EM "scaled" 337 338 339 61 3 3 118 181 119 .none .none .none 120 340 341) ::
 (nat_lit 122,EJ "scaled" (top 18) EE (.ref 121)) ::
 (nat_lit 126,EM "cleared" 343 344 345 63 4 3 123 181 124 .none .none .none 125 346 347) ::
 (nat_lit 127,EJ "cleared" (top 19) EE (.ref 126)) ::
 (nat_lit 131,EM "reduced" 349 350 351 66 2 3 128 181 129 .none .none .none 130 352 353) ::
 (nat_lit 132,EJ "reduced" (top 20) EE (.ref 131)) ::
 (nat_lit 136,EM "right_inverse" 355 356 357 80 2 3 133 181 134 .none .none .none 135 358 359) ::
 (nat_lit 137,EJ "right_inverse" (top 21) EE (.ref 136)) ::
 (nat_lit 143,EM "combination" 361 362 363 87 2 3 138 181 139 .none (.ref 140) (.ref 141) 142 366 367) ::
 (nat_lit 144,EJ "combination" (top 22) EE (.ref 143)) ::
 (nat_lit 150,EM "table_number" 371 372 373 90 3 3 145 181 146 .none (.ref 147) (.ref 148) 149 378 379) ::
 (nat_lit 151,EJ "table_number" (top 24) ED (.ref 150)) ::
 (nat_lit 155,EM "points_of_tables" 381 382 383 93 2 3 152 181 153 .none .none .none 154 384 385) ::
 (nat_lit 156,EJ "points_of_tables" (top 25) ED (.ref 155)) ::
 (nat_lit 160,EM "shapes_of" 387 388 389 100 2 3 157 181 158 .none .none .none 159 390 391) ::
 (nat_lit 161,EJ "shapes_of" (top 26) ED (.ref 160)) ::
 (nat_lit 167,EM "rows_of" 393 394 395 104 2 3 162 181 163 .none (.ref 164) (.ref 165) 166 401 402) ::
 (nat_lit 168,EJ "rows_of" (top 27) ED (.ref 167)) ::
 (nat_lit 174,EM "net_paper" 406 407 408 110 3 3 169 181 170 .none (.ref 171) (.ref 172) 173 416 417) ::
 (nat_lit 175,EJ "net_paper" (top 29) EC (.ref 174)) ::
 (nat_lit 181,EM "strength" 421 422 423 120 2 3 176 181 177 .none (.ref 178) (.ref 179) 180 427 428) ::
 (nat_lit 182,EJ "strength" (top 31) EB (.ref 181)) ::
 (nat_lit 186,EM "picked" 432 433 434 126 2 3 183 181 184 .none .none .none 185 435 436) ::
 (nat_lit 187,EJ "picked" (top 33) EA (.ref 186)) ::
 (nat_lit 193,EM "exchanged" 438 439 440 128 2 3 188 181 189 .none (.ref 190) (.ref 191) 192 443 444) ::
 (nat_lit 194,EJ "exchanged" (top 34) EA (.ref 193)) ::
 (nat_lit 200,EM "shadow" 446 447 448 130 2 3 195 181 196 .none (.ref 197) (.ref 198) 199 451 452) ::
 (nat_lit 201,EJ "shadow" (top 35) EA (.ref 200)) ::
 (nat_lit 207,EM "_law_tape" 456 457 458 133 2 3 202 181 203 .none (.ref 204) (.ref 205) 206 462 463) ::
 (nat_lit 208,EJ "_law_tape" (top 37) Ez (.ref 207)) ::
 (nat_lit 214,EM "_law_pick" 465 466 467 138 2 3 209 181 210 .none (.ref 211) (.ref 212) 213 473 474) ::
 (nat_lit 215,EJ "_law_pick" (top 38) Ez (.ref 214)) ::
 (nat_lit 221,EM "_law_size" 476 477 478 148 1 3 216 181 217 .none (.ref 218) (.ref 219) 220 481 482) ::
 (nat_lit 222,EJ "_law_size" (top 39) Ez (.ref 221)) ::
 (nat_lit 228,EM "_law_any" 484 485 486 151 4 3 223 181 224 .none (.ref 225) (.ref 226) 227 496 497) ::
 (nat_lit 229,EJ "_law_any" (top 40) Ez (.ref 228)) ::
 (nat_lit 233,EM "_law_sum_table" 499 500 501 160 3 3 230 181 231 .none .none .none 232 502 503) ::
 (nat_lit 234,EJ "_law_sum_table" (top 41) Ez (.ref 233)) ::
 (nat_lit 238,EM "_law_mirror" 505 506 507 169 1 3 235 181 236 .none .none .none 237 508 509) ::
 (nat_lit 239,EJ "_law_mirror" (top 42) Ez (.ref 238)) ::
 (nat_lit 243,EM "_law_tables" 511 512 513 171 3 3 240 181 241 .none .none .none 242 514 515) ::
 (nat_lit 244,EJ "_law_tables" (top 43) Ez (.ref 243)) ::
 (nat_lit 248,EM "law" 517 518 519 188 1 3 245 181 246 .none .none .none 247 520 521) ::
 (nat_lit 249,EJ "law" (top 44) Ez (.ref 248))::[]
def heapA:List Addr:=nat_lit 2::nat_lit 3::nat_lit 6::nat_lit 15::nat_lit 22::nat_lit 23::nat_lit 24::nat_lit 25::nat_lit 28::nat_lit 40::nat_lit 41::nat_lit 42::nat_lit 43::nat_lit 44::nat_lit 52::nat_lit 53::nat_lit 59::nat_lit 60::nat_lit 66::nat_lit 67::nat_lit 73::nat_lit 74::nat_lit 80::nat_lit 81::nat_lit 87::nat_lit 88::nat_lit 94::nat_lit 95::nat_lit 99::nat_lit 100::nat_lit 104::nat_lit 105::nat_lit 109::nat_lit 110::nat_lit 116::nat_lit 117::nat_lit 121::nat_lit 122::nat_lit 126::nat_lit 127::nat_lit 131::nat_lit 132::nat_lit 136::nat_lit 137::nat_lit 143::nat_lit 144::nat_lit 150::nat_lit 151::nat_lit 155::nat_lit 156::nat_lit 160::nat_lit 161::nat_lit 167::nat_lit 168::nat_lit 174::nat_lit 175::nat_lit 181::nat_lit 182::nat_lit 186::nat_lit 187::nat_lit 193::nat_lit 194::nat_lit 200::nat_lit 201::nat_lit 207::nat_lit 208::nat_lit 214::nat_lit 215::nat_lit 221::nat_lit 222::nat_lit 228::nat_lit 229::nat_lit 233::nat_lit 234::nat_lit 238::nat_lit 239::nat_lit 243::nat_lit 244::nat_lit 248::nat_lit 249::[]
theorem heapE:∀P,heapA=(heapK P).map (·.1):=fun _=>rfl
theorem AL:∀w:JN,((Kr w.params).isNs JI,(Kr w.params).objs.size,(Kr w.params).nsMap JI "__annotations__")=(true,11,some (.ref 6)):=fun w=>by kernel_rfl
set_option maxHeartbeats 0 in
theorem zleft:LeftO FO zview [] (fun s=>xlAt zview [] s&&recOk (RowW.records rwN.row.toRowW) s) (Hook.obs (kHook heapK heapA heapE)) (Hook.val (kHook heapK heapA heapE)) 3710 :=
 L2.TT.left_of (M:=3710) (by kernel_rfl) rfl (fun s=>by kernel_rfl) rfl AL fun w os=>by kernel_rfl
end K71
namespace L2
abbrev HJ:=Sum Int Str
def jO:HJ->Iw->Bool
 | .inl k,v=>Iw.isInt k v
 | .inr x,v=>Iw.isStrOf x v
def D6(w:JN):HJ->Int
 | .inl k=>hashInt k
 | .inr x=>hashStr w x
theorem bf:∀{k:HJ}{v:Iw},jO k v=true->(∃i t,k=JK i/\v=OO i t)\/(∃x t,k=Lb x/\v=Pp x t)
 | .inl i,v,h=>by
   obtain⟨t,e⟩:=Iw.isInt_shape (k:=i) (v:=v) h
   exact .inl ⟨i,t,rfl,e⟩
 | .inr x,v,h=>by
   obtain⟨t,e⟩:=Iw.isStrOf_shape (x:=x) (v:=v) h
   exact .inr ⟨x,t,rfl,e⟩
theorem pf(i:Int)(t:Tok):jO (.inl i) (.int i t)=true:=by simp[jO,Iw.isInt]
theorem pe(x:Str)(t:Tok):jO (.inr x) (.str x t)=true:=by simp[jO,Iw.isStrOf]
theorem zD(a b:Int):decide ((JK a:HJ)=JK b)=(a==b):=by
 by_cases e:a=b
 · subst e;simp
 · have h:¬(JK a:HJ)=JK b:=fun q=>e (NG q)
   rw[decide_eq_false h]
   exact(beq_eq_false_iff_ne.mpr e).symm
theorem zA(a b:Str):decide ((Lb a:HJ)=Lb b)=decide (a=b):=by
 by_cases e:a=b
 · subst e;simp
 · have h:¬(Lb a:HJ)=Lb b:=fun q=>e (Lb.inj q)
   rw[decide_eq_false h,decide_eq_false e]
theorem zC(a:Int)(b:Str):decide ((JK a:HJ)=Lb b)=false:=decide_eq_false (fun q=>nomatch q)
theorem zB(a:Str)(b:Int):decide ((Lb a:HJ)=JK b)=false:=decide_eq_false (fun q=>nomatch q)
def bC(prog:IZ)(w:JN):PySem.KeyKind prog w HJ where
 is:=jO
 hash:=D6 w
 inj:=fun v a b ha hb=>by
  rcases bf ha with⟨i,t,rfl,rfl⟩|⟨x,t,rfl,rfl⟩
  · rcases bf hb with⟨j,u,rfl,e⟩|⟨y,u,rfl,e⟩
    · injection e with e1 _;rw[e1]
    · exact nomatch e
  · rcases bf hb with⟨j,u,rfl,e⟩|⟨y,u,rfl,e⟩
    · exact nomatch e
    · injection e with e1 _;rw[e1]
 byValue:=fun k v h=>by
   rcases bf h with⟨i,t,rfl,rfl⟩|⟨x,t,rfl,rfl⟩<;>rfl
 pyHash:=fun hv h=>by
  rcases bf hv with⟨i,t,rfl,rfl⟩|⟨x,t,rfl,rfl⟩
  · exact wpAny_pyHash_int h
  · exact wpAny_pyHash_str h
 eqBool:=fun hu hv h=>by
  rcases bf hu with⟨i,t,rfl,rfl⟩|⟨x,t,rfl,rfl⟩
  · rcases bf hv with⟨j,u,rfl,rfl⟩|⟨y,u,rfl,rfl⟩
    · rw[zD]at h;exact wpAny_eqBool_int h
    · rw[zC]at h;exact SeqAt.EqAt.int_str i t y u _ _ _ _ h
  · rcases bf hv with⟨j,u,rfl,rfl⟩|⟨y,u,rfl,rfl⟩
    · rw[zB]at h;exact SeqAt.EqAt.str_int x t j u _ _ _ _ h
    · rw[zA]at h;exact wpAny_eqBool_str h
 «strs»:=fun k x t v h=>by
  rcases bf h with⟨i,u,rfl,e⟩|⟨y,u,rfl,e⟩
  · exact nomatch e
  · injection e with e1 _
    subst e1
    cases v<;>rfl
theorem jK(prog:IZ)(w:JN)(i:Int)(t:Tok):(bC prog w).is (.inl i) (.int i t)=true:=pf i t
theorem jJ(prog:IZ)(w:JN)(x:Str)(t:Tok):(bC prog w).is (.inr x) (.str x t)=true:=pe x t
inductive V where
 | non|bl (b:Bool)|int (i:Int)|str (x:Str)|byt (b:Array UInt8)|flt (b:UInt64)|ref (a:Addr)|ty (n:String)
 deriving DecidableEq
def RelV:V->Iw->Prop
 | .non,u=>u=Lz
 | .bl b,u=>u=Iw.bool b
 | .int i,u=>∃t,u=OO i t
 | .str x,u=>∃t,u=Pp x t
 | .byt b,u=>∃t,u=Iw.bytes b t
 | .flt b,u=>∃t,u=Iw.float b t
 | .ref a,u=>u=KR a
 | .ty n,u=>u=Iw.type n
abbrev bQ:List V->List Iw->Prop:=Kn RelV
theorem bQ.length{xs:List V}{us:List Iw}(r:bQ xs us):xs.length=us.length:=J6 r
theorem bQ.get:∀{xs:List V}{us:List Iw}{i:Nat}{x:V},bQ xs us->xs[i]?=some x->∃u,us[i]?=some u/\RelV x u
 | _,_,_,_,.nil,e=>by simp at e
 | _,_,0,_,.cons r _,e=>by simp at e;subst e;exact⟨_,rfl,r⟩
 | _,_,i+1,x,.cons _ t,e=>by
   obtain⟨u,h1,h2⟩:=bQ.get (i:=i) (x:=x) t (by simpa using e)
   exact⟨u,by simpa using h1,h2⟩
theorem bQ.set{x:V}{u:Iw}(r:RelV x u):∀{xs:List V}{us:List Iw}(i:Nat),bQ xs us->bQ (xs.set i x) (us.set i u)
 | _,_,_,.nil=>.nil
 | _,_,0,.cons _ t=>.cons r t
 | _,_,i+1,.cons q t=>.cons q (bQ.set r i t)
theorem bQ.append:∀{xs ys:List V}{us ws:List Iw},bQ xs us->bQ ys ws->bQ (xs++ys) (us++ws)
 | _,_,_,_,.nil,s=>s
 | _,_,_,_,.cons r t,s=>.cons r (bQ.append t s)
theorem bQ.take:∀{xs:List V}{us:List Iw}(n:Nat),bQ xs us->bQ (xs.take n) (us.take n)
 | _,_,0,_=>.nil
 | _,_,_+1,.nil=>.nil
 | _,_,n+1,.cons r t=>.cons r (bQ.take n t)
theorem bQ.drop:∀{xs:List V}{us:List Iw}(n:Nat),bQ xs us->bQ (xs.drop n) (us.drop n)
 | _,_,0,r=>r
 | _,_,_+1,.nil=>.nil
 | _,_,n+1,.cons _ t=>bQ.drop n t
def ug:Option V->Option Iw->Prop
 | some v,some u=>RelV v u
 | none,none=>True
 | _,_=>False
def KV{κ:Type}:List (κ×V)->List (κ×Iw)->Prop:=Kn fun(p:κ×V)(q:κ×Iw)=>p.1=q.1/\RelV p.2 q.2
def kV:HJ->V
 | .inl i=>.int i
 | .inr x=>.str x
inductive HO where
 | lst (xs:List V)
 | tup (xs:List V)
 | dK (kvs:List (HJ×V))|dT (kvs:List (List HJ×V))
 | set (S:Int->Bool) (n:Nat)
 | ins (C dx:Addr) (fs:List (Str×V))
 | own (x:Addr)
 | xd (fs:List (Str×V))
 | met (f x:Addr)
 | rng (lo hi:Int)
 | frz (o:Obj) (u:HO)
 | tbl (ps:Array Iw)
 | ext (φ:Heap->Prop)
abbrev Hp:=Addr->Option HO
def upd(H:Hp)(a:Addr)(o:HO):Hp:=fun b=>if b=a then some o else H b
theorem ak{H:Hp}{o:HO}:upd H a o a=some o:=by unfold upd;rw[if_pos rfl]
theorem ah{H:Hp}{b:Addr}{o:HO}(h:b≠a):upd H a o b=H b:=by unfold upd;rw[if_neg h]
theorem uO{H:Hp}{o u:HO}:upd (upd H a o) a u=upd H a u:=by
 funext b;unfold upd;split<;>rfl
theorem Bu{H:Hp}{b:Addr}{o u:HO}(h:H a=some o)(h':H b=some u)(d:o≠u):a≠b:=by
 intro e;subst e;rw[h]at h';exact d (Jh h')
theorem aH{H:Hp}{b:Addr}{o:HO}(h:H a=some o)(h':H b=none):a≠b:=by
 intro e;subst e;rw[h]at h';cases h'
section
variable(P:IZ)(w:JN)
def qt(h:Heap)(a:Addr)(items:Array Iw):Prop:=∃o,h.get? a=some o/\o.cls = .type "tuple" /\ (∃n,o.data = .seq items n)/\o.dict=none
theorem qt.tup{h:Heap}{a:Addr}{items:Array Iw}(x:qt h a items):N2 h a items:=let ⟨o,e1,e2,e3,_⟩:=x;⟨o,e1,e2,e3⟩
theorem qt.new(h:Heap)(items:Array Iw):qt (h.push {cls:=.type "tuple", data:=.seq items}) h.objs.size items:=⟨_,IL _ rfl,rfl,⟨_,rfl⟩,rfl⟩
def cz(H:Hp)(h:Heap)(a:Addr):HO->Prop
 | .lst xs=>xs.length<=sizeLine/\∃(its:List Iw)(n:Nat),bQ xs its/\h.get? a=some {cls:=.type "list", data:=.seq its.toArray n}
 | .tup xs=>xs.length<=sizeLine/\∃its:List Iw,bQ xs its/\qt h a its.toArray
 | .dK kvs=>kvs.length<=sizeLine/\(a==LO)=false/\∃vs,KV kvs vs/\h.DictOf (bC P w) a vs
 | .dT kvs=>kvs.length<=sizeLine/\(a==LO)=false/\∃xs:List (List HJ×Addr×Iw),
     Kn (fun(p:List HJ×V)(q:List HJ×Addr×Iw)=>p.1=q.1/\H q.2.1=some (.tup (p.1.map kV))/\RelV p.2 q.2.2) kvs xs /\
     ∃o es ep,h.get? a=some o/\o.ExactDict/\o.data = .dict es ep/\es.toList=xs.map (entryOfKey (OP (bC P w)))/\(xs.map (·.1)).Nodup
 | .set S n=>h.SetOf (intKind P w) a S n
 | .ins C dx fs=>H dx=some (.own a)/\fs.length<=1000/\dx≠a/\h.get? a=some (W.instObj C dx) /\
     ∃mA,h.Ns1 dx mA/\(∀f,ug (fs.lookup f) (mA f))/\PySem.Within mA (fs.map (·.1))
 | .own _=>∃o,h.get? a=some o
 | .xd fs=>∃mA,h.Ns1 a mA/\∀f,ug (fs.lookup f) (mA f)
 | .rng lo hi=>∃t u v,h.get? a=some {cls:=.type "range", data:=.fields #[.int lo t,.int hi u,.int 1 v]}
 | .frz o u=>h.get? a=some o/\cz H h a u
 | .tbl ps=>h.get? a=some {cls:=.none,data:=.fields ps}
 | .met f x=>h.get? a=some (W.methodObj (.ref f) (.ref x))
 | .ext φ=>φ h/\(∃o,h.get? a=some o)/\∀h1 h2:Heap,φ h1->(∀o,h1.get? a=some o->h2.get? a=some o)->φ h2
def HZ(H:Hp)(h:Heap):Prop:=∀a o,H a=some o->cz P w H h a o
end
section
variable{P:IZ}{w:JN}{H H':Hp}{h h':Heap}{a:Addr}{o:HO}
theorem cz.lt(x:cz P w H h a o):a<h.objs.size:=by
 cases o with
 | lst xs=>obtain⟨_,_,_,_,e⟩:=x;exact II e
 | tup xs=>obtain⟨_,_,_,p⟩:=x;exact p.tup.lt
 | dK kvs=>obtain⟨_,_,_,_,o,_,_,e,_⟩:=x;exact II e
 | dT kvs=>obtain⟨_,_,_,_,o,_,_,e,_⟩:=x;exact II e
 | set S n=>obtain⟨o,_,_,_,e,_⟩:=x;exact II e
 | ins C dx fs=>obtain⟨_,_,_,e,_⟩:=x;exact II e
 | own y=>obtain⟨_,e⟩:=x;exact II e
 | xd fs=>obtain⟨_,⟨_,_,_,e,_⟩,_⟩:=x;exact II e
 | rng lo hi=>obtain⟨_,_,_,e⟩:=x;exact II e
 | frz ob u=>obtain⟨e,_⟩:=x;exact II e
 | tbl ps=>exact II (show h.get? a=some _ from x)
 | met f y=>exact II (show h.get? a=some _ from x)
 | ext φ=>obtain⟨_,⟨_,e⟩,_⟩:=x;exact II e
theorem Kn.mapP{α β:Type}{F G:α->β->Prop}:∀{l₁:List α}{l₂:List β},Kn F l₁ l₂->(∀a b,F a b->G a b)->Kn G l₁ l₂
 | _,_,.nil,_=>.nil
 | _,_,.cons r t,f=>.cons (f _ _ r) (Kn.mapP t f)
theorem cz.stay(x:cz P w H h a o)(k:∀b u,(b=a\/H b=some (.own a))->h.get? b=some u->h'.get? b=some u)
 (ho:∀b,H b=some (.own a)->H' b=some (.own a))(ht:∀b xs,H b=some (.tup xs)->H' b=some (.tup xs)):cz P w H' h' a o:=by
 induction o with
 | lst xs=>obtain⟨z,its,n,r,e⟩:=x;exact⟨z,its,n,r,k _ _ (.inl rfl) e⟩
 | tup xs=>obtain⟨z,its,r,ob,e,c⟩:=x;exact⟨z,its,r,ob,k _ _ (.inl rfl) e,c⟩
 | dK kvs=>obtain⟨z,y,vs,r,ob,es,ep,e,c⟩:=x;exact⟨z,y,vs,r,ob,es,ep,k _ _ (.inl rfl) e,c⟩
 | dT kvs =>
   obtain⟨z,y,xs,r,ob,es,ep,e,c⟩:=x
   exact⟨z,y,xs,Kn.mapP r fun p q z=>⟨z.1,ht _ _ z.2.1,z.2.2⟩,ob,es,ep,k _ _ (.inl rfl) e,c⟩
 | set S n=>obtain⟨ob,es,ep,t,e,c⟩:=x;exact⟨ob,es,ep,t,k _ _ (.inl rfl) e,c⟩
 | ins C dx fs =>
   obtain⟨d,z,ne,e,mA,⟨od,es,ep,e2,c⟩,r⟩:=x
   exact⟨ho _ d,z,ne,k _ _ (.inl rfl) e,mA,⟨od,es,ep,k _ _ (.inr d) e2,c⟩,r⟩
 | own y=>obtain⟨ob,e⟩:=x;exact⟨ob,k _ _ (.inl rfl) e⟩
 | xd fs=>obtain⟨mA,⟨od,es,ep,e,c⟩,r⟩:=x;exact⟨mA,⟨od,es,ep,k _ _ (.inl rfl) e,c⟩,r⟩
 | rng lo hi=>obtain⟨t,u,v,e⟩:=x;exact⟨t,u,v,k _ _ (.inl rfl) e⟩
 | frz ob u ih=>obtain⟨e,q⟩:=x;exact⟨k _ _ (.inl rfl) e,ih q⟩
 | tbl ps =>
   have e:h.get? a=some {cls:=.none,data:=.fields ps}:=x
   show h'.get? a=some {cls:=.none,data:=.fields ps}
   exact k a _ (.inl rfl) e
 | met f y =>
   have e:h.get? a=some (W.methodObj (.ref f) (.ref y)):=x
   show h'.get? a=some (W.methodObj (.ref f) (.ref y))
   exact k a _ (.inl rfl) e
 | ext φ=>obtain⟨p,⟨o,e⟩,st⟩:=x;exact⟨st _ _ p fun o q=>k _ _ (.inl rfl) q,⟨o,k _ _ (.inl rfl) e⟩,st⟩
theorem HZ.lt(x:HZ P w H h)(e:H a=some o):a<h.objs.size:=(x a o e).lt
theorem HZ.fresh(x:HZ P w H h)(e:h.objs.size<=a):H a=none:=by
 cases q:H a with
 | none=>rfl
 | some u=>exact absurd (IG (x.lt q) e) (JL _)
theorem HZ.kept(x:HZ P w H h)(k:∀b u,h.get? b=some u->h'.get? b=some u):HZ P w H h':=fun a o e =>
 (x a o e).stay (fun b u _ q=>k b u q) (fun _ q=>q) fun _ _ q=>q
theorem HZ.laid(x:HZ P w H h)(k:∀b u,h.get? b=some u->h'.get? b=some u)(hp:h.objs.size<=a)(new:cz P w (upd H a o) h' a o):HZ P w (upd H a o) h':=fun b u e=>by
 have hn:=x.fresh hp
 by_cases hb:b=a
 · subst hb;rw[ak]at e;cases e;exact new
 · rw[ah hb]at e
   exact(x b u e).stay (fun c v _ q=>k c v q) (fun c q=>by rw[ah (aH q hn)];exact q) fun c xs q=>by rw[ah (aH q hn)];exact q
end
def Rd(H:Hp)(a:Addr)(u:HO):Prop:=H a=some u\/∃o,H a=some (.frz o u)
theorem Rd.of{H:Hp}{u:HO}(h:H a=some u):Rd H a u:=.inl h
theorem Rd.ok{w:JN}{H:Hp}{u:HO}(r:Rd H a u)(x:HZ P w H h):cz P w H h a u:=by
 rcases r with r|⟨o,r⟩
 · exact x a u r
 · obtain⟨_,q⟩:=x a _ r
   exact q
def HG:Option HO->Prop
 | some (.lst _)=>True
 | some (.dK _)=>True
 | some (.dT _)=>True
 | some (.set _ _)=>True
 | some (.ins _ _ _)=>True
 | some (.ext _)=>True
 | _=>False
section
variable{P:IZ}{w:JN}{H:Hp}{h h':Heap}{x e:Addr}{o':HO}
theorem HZ.write(ok:HZ P w H h)(mu:HG (H x))(he:e=x\/H e=some (.own x))(k:∀b u,b≠e->h.get? b=some u->h'.get? b=some u)(heo:∃u,h'.get? e=some u)
 (new:cz P w (upd H x o') h' x o'):HZ P w (upd H x o') h':=fun b u q=>by
 have nown:∀c y,H c=some (.own y)->c≠x:=fun c y r z=>by subst z;rw[r]at mu;exact mu
 have ntup:∀c xs,H c=some (.tup xs)->c≠x:=fun c xs r z=>by subst z;rw[r]at mu;exact mu
 by_cases hb:b=x
 · subst hb;rw[ak]at q;cases q;exact new
 · rw[ah hb]at q
   by_cases hbe:b=e
   · have q':H b=some (.own x):=by
       rcases he with z|z
       · exact absurd (hbe.trans z) hb
       · rw[hbe];exact z
     rw[q]at q';cases q'
     obtain⟨v,hv⟩:=heo
     exact⟨v,by rw[hbe];exact hv⟩
   · refine(ok b u q).stay (fun c v hc r=>k c v ?_ r) (fun c r=>by rw[ah (nown c b r)];exact r) fun c xs r=>by rw[ah (ntup c xs r)];exact r
     rcases hc with rfl|hc
     · exact hbe
     · rintro rfl
       rcases he with z|z
       · exact nown c b hc z
       · rw[hc]at z;cases z;exact hb rfl
end
structure Un (fs ex:List Addr) (H H':Hp) (h h':Heap):Prop where
 keep:∀b o,h.get? b=some o->H b=none->b∉fs->b∉ex->h'.get? b=some o
 slot:∀b o,h.get? b=some o->H b=none->b∈fs->b∉ex->∃sl,h'.get? b=some {o with slots:=sl}
 free:∀b o,h.get? b=some o->H b=none->b∉ex->H' b=none
 there:∀b o,h.get? b=some o->b∉ex->∃o',h'.get? b=some o'
 tups:∀b xs,H b=some (.tup xs)->H' b=some (.tup xs)
 frzs:∀b o u,H b=some (.frz o u)->H' b=some (.frz o u)
 tbls:∀b ps,H b=some (.tbl ps)->∃more,H' b=some (.tbl (ps++more))
section
variable{fs fs' ex ex':List Addr}{H H1 H2:Hp}{h h1 h2 h':Heap}{a x e:Addr}{o:HO}
theorem Un.any(u:Un fs ex H H1 h h1){b:Addr}{ob:Obj}(q:h.get? b=some ob)(n:H b=none)(hx:b∉ex):∃sl,h1.get? b=some {ob with slots:=sl}:=by
 by_cases hb:b∈fs
 · exact u.slot b ob q n hb hx
 · exact⟨ob.slots,u.keep b ob q n hb hx⟩
theorem Un.trans(a:Un fs ex H H1 h h1)(b:Un fs ex H1 H2 h1 h2):Un fs ex H H2 h h2 where
 keep:=fun c ob q n hc hx=>b.keep c ob (a.keep c ob q n hc hx) (a.free c ob q n hx) hc hx
 slot:=fun c ob q n hc hx=>by
  obtain⟨sl,e1⟩:=a.slot c ob q n hc hx
  obtain⟨sl',e2⟩:=b.slot c _ e1 (a.free c ob q n hx) hc hx
  exact⟨sl',e2⟩
 free:=fun c ob q n hx=>by
  obtain⟨o',e1⟩:=a.there c ob q hx
  exact b.free c o' e1 (a.free c ob q n hx) hx
 there:=fun c ob q hx=>by
  obtain⟨o',e1⟩:=a.there c ob q hx
  exact b.there c o' e1 hx
 tups:=fun c xs q=>b.tups c xs (a.tups c xs q)
 frzs:=fun c ob xs q=>b.frzs c ob xs (a.frzs c ob xs q)
 tbls:=fun c ps q=>by
  obtain⟨m1,e1⟩:=a.tbls c ps q
  obtain⟨m2,e2⟩:=b.tbls c _ e1
  exact⟨m1++m2,by rw[e2,Array.append_assoc]⟩
theorem Un.kept(k:∀b u,h.get? b=some u->h'.get? b=some u):Un fs ex H H h h' :=
 ⟨fun b ob q _ _ _=>k b ob q,fun b ob q _ _ _=>⟨ob.slots,k b ob q⟩,fun _ _ _ n _=>n,fun b ob q _=>⟨ob,k b ob q⟩,fun _ _ q=>q,fun _ _ _ q=>q,fun _ ps q=>⟨#[],by rw[q];simp⟩⟩
theorem Un.refl:Un fs ex H H h h:=Un.kept fun _ _ q=>q
theorem Un.laid(k:∀b u,h.get? b=some u->h'.get? b=some u)(hp:h.objs.size<=a)(hn:H a=none):Un fs ex H (upd H a o) h h' where
 keep:=fun b u q _ _ _=>k b u q
 slot:=fun b u q _ _ _=>⟨u.slots,k b u q⟩
 free:=fun b u q n _=>by rw[ah (Jt (IG (II q) hp))];exact n
 there:=fun b u q _=>⟨u,k b u q⟩
 tups:=fun b xs q=>by rw[ah (aH q hn)];exact q
 frzs:=fun b u xs q=>by rw[ah (aH q hn)];exact q
 tbls:=fun b ps q=>⟨#[],by rw[ah (aH q hn),q];simp⟩
theorem Un.write(mu:HG (H x))(he:e=x\/H e=some (.own x))(k:∀b u,b≠e->h.get? b=some u->h'.get? b=some u)(heo:∃u,h'.get? e=some u):Un fs ex H (upd H x o) h h':=by
 have hx:∀b,H b=none->b≠x:=fun b n z=>by subst z;rw[n]at mu;exact mu
 have hb:∀b,H b=none->b≠e:=fun b n z=>by
  subst z
  rcases he with r|r
  · exact hx b n r
  · rw[n]at r;cases r
 have hm:∀b u,H b=some u->¬HG (some u)->b≠x:=fun b u q nm z=>by subst z;rw[q]at mu;exact nm mu
 refine⟨fun b u q n _ _=>k b u (hb b n) q,fun b u q n _ _=>⟨u.slots,k b u (hb b n) q⟩,fun b u q n _=>by rw[ah (hx b n)];exact n,fun b u q _=>?_,
  fun b xs q=>by rw[ah (hm b _ q fun z=>z)];exact q,fun b u xs q=>by rw[ah (hm b _ q fun z=>z)];exact q,fun b ps q=>⟨#[],by rw[ah (hm b _ q fun z=>z),q];simp⟩⟩
 by_cases hbe:b=e
 · subst hbe;exact heo
 · exact⟨u,k b u hbe q⟩
theorem Un.mono(u:Un fs ex H H1 h h1)(hs:∀b∈fs,b∈fs')(hx:∀b∈ex,b∈ex'):Un fs' ex' H H1 h h1 :=
 ⟨fun b ob q n hb he=>u.keep b ob q n (fun z=>hb (hs b z)) fun z=>he (hx b z),fun _ _ q n _ he=>u.any q n fun z=>he (hx _ z),fun b ob q n he=>u.free b ob q n fun z=>he (hx b z),fun b ob q he=>u.there b ob q fun z=>he (hx b z),u.tups,u.frzs,u.tbls⟩
end
def E5(h:Heap)(H:Hp):List Addr:=(IN h.objs.size).filter fun a=>(H a).isSome
def rP(h:Heap)(H:Hp):Heap:=W.hideAll h (E5 h H)
theorem pz(h:Heap)(H:Hp):(rP h H).objs.size=h.objs.size:=W.hideAll_size _ _
theorem rO{H:Hp}{b:Addr}{o:Obj}(e:h.get? b=some o)(n:H b=none):(rP h H).get? b=some o :=
 W.hideAll_get _ e fun hm=>by
  have q:(H b).isSome=true:=(List.mem_filter.mp hm).2
  rw[n]at q;simp at q
theorem vX{H:Hp}{b:Addr}{o:Obj}(e:(rP h H).get? b=some o):h.get? b=some o/\H b=none:=by
 have e':h.get? b=some o:=W.of_hideAll (E5 h H) e
 refine⟨e',?_⟩
 cases q:H b with
 | none=>rfl
 | some x =>
   have hm:b∈E5 h H:=List.mem_filter.mpr ⟨JB.mpr (II e'),by simp[q]⟩
   have z:(rP h H).get? b=none:=W.hideAll_none (E5 h H) hm
   rw[z]at e;cases e
def xa(g h:Heap)(L:Addr):List (Addr×Obj):=(IN h.objs.size).filterMap fun a=>if a=L\/(g.get? a).isSome=true then none else(h.get? a).map fun o=>(a,o)
def rest(g h:Heap)(L d:Addr):List (Addr×Obj):=(xa g h L).filter fun p=>decide (p.1≠d)
structure Mod (K:W.Frag) (mg:Str->Option Iw) (base:Heap):Prop where
 kin:K.In base
 glob:base.Ns JI mg
 blt:∃mb,base.Ns builtinsNs mb/\∀x:Str,x ≠ "__name__" -> mb x=LB x
 nolimit:base.NoLimit
structure Cx where
 prog:IZ
 w:JN
 K:W.Frag
 mg:Str->Option Iw
 base:Heap
 A:J4
 N:List Str
 s₀:IB
 H₀:Hp
 env:Env
 outer:List Env
 stack:List Env
 ex:List Addr
 fn:Str->Bool
 calm:Bool
 pn:List (Addr×Obj)
 xe:Iw->IB->Prop
def frs(l:List Env):List Addr:=l.filterMap (·.frame)
abbrev Cx.fs(X:Cx):List Addr:=frs X.outer
def G6(sc:Scope)(x:Str):Prop:=sc.names.lookup x=some .local\/sc.names.lookup x=some .cell\/sc.names.lookup x=some .free
def Loc(sc:Scope)(x:Str):Prop:=sc.names.lookup x=some .local\/sc.names.lookup x=some .cell
def Look(env:Env)(h:Heap)(m:Str->Option Iw)(x:Str)(u:Iw):Prop :=
 (env.kindOf x=some .local/\m x=some u)\/((env.kindOf x=some .cell\/env.kindOf x=some .free)/\∃c,env.cells.lookup x=some c/\h.IsCell c (some u))
structure Cx.Ok (X:Cx):Prop where
 mod:Mod X.K X.mg X.base
 kind:X.env.scope.kind = .function
 glob:X.env.globals=JI
 blt:X.env.builtins=builtinsNs
 above:X.s₀.heap.objs.size<=X.env.locals
 inj:∀x y c,X.env.cells.lookup x=some c->X.env.cells.lookup y=some c->x=y
 has:∀x,(X.env.kindOf x=some .cell\/X.env.kindOf x=some .free)->∃c,X.env.cells.lookup x=some c
 cab:∀x c,X.fn x=true->X.env.cells.lookup x=some c->X.s₀.heap.objs.size<=c
 hd:X.calm=true->X.A.handled=none
 frames:X.A.frames=some X.stack
 stk:X.stack=X.outer\/(X.stack=X.env::X.outer/\X.env.frame=some X.env.locals)
 exf:∀b∈X.ex,b≠X.env.locals/\∀x c,X.env.cells.lookup x=some c->c≠b
 bs:∀b o,X.base.get? b=some o->X.s₀.heap.get? b=some o/\X.H₀ b=none
 bsz:X.base.objs.size<=X.s₀.heap.objs.size
 noex:∀b o,X.base.get? b=some o->b∉X.ex
 exfs:∀b∈X.ex,b∉X.fs
 funs:X.s₀.heap.FunFrames X.base X.outer
 frf:∀b∈X.fs,X.H₀ b=none
structure Inv (X:Cx) (pins:List (Addr×Obj)) (σ:List (Option V)) (H:Hp) (s:IB):Prop where
 ok:X.Ok
 os:s.os=X.s₀.os
 bare:Oy s.gens
 base:Un X.fs X.ex X.H₀ H X.s₀.heap s.heap
 loc:∃m,s.heap.Ns X.env.locals m/\∀(i:Nat)(x:Str)(v:V),X.N[i]?=some x->σ[i]?=some (some v)->G6 X.env.scope x->∃u,RelV v u/\Look X.env s.heap m x u
 cell:∀x c,X.env.cells.lookup x=some c->∃v,s.heap.IsCell c v
 free:H X.env.locals=none
 freeC:∀x c,X.env.cells.lookup x=some c->H c=none
 pin:∀p∈X.pn++pins,s.heap.get? p.1=some p.2/\H p.1=none/\p.1≠X.env.locals/\p.1∉X.fs/\∀v,p.2.data ≠ .cell v
 hok:HZ X.prog X.w H s.heap
 len:σ.length=X.N.length
section
variable{X:Cx}{pins:List (Addr×Obj)}{σ:List (Option V)}{H H':Hp}{s:IB}{h':Heap}
theorem Cx.Ok.nofr(ok:X.Ok){b:Addr}{o:Obj}(e:X.base.get? b=some o):b∉X.fs:=fun hb=>by
 have:=(ok.funs.mem hb).1
 rw[e]at this;cases this
theorem Inv.bs(I:Inv X pins σ H s):∀b o,X.base.get? b=some o->s.heap.get? b=some o/\H b=none:=fun b o e =>
 ⟨I.base.keep b o (I.ok.bs b o e).1 (I.ok.bs b o e).2 (I.ok.nofr e) (I.ok.noex b o e),I.base.free b o (I.ok.bs b o e).1 (I.ok.bs b o e).2 (I.ok.noex b o e)⟩
theorem Inv.bk(I:Inv X pins σ H s):∀b o,X.base.get? b=some o->s.heap.get? b=some o:=fun b o e=>(I.bs b o e).1
theorem Inv.mod(I:Inv X pins σ H s):Mod X.K X.mg X.base:=I.ok.mod
theorem Inv.kIn(I:Inv X pins σ H s):X.K.In s.heap:=I.ok.mod.kin.keeps I.bk
theorem Inv.nolimit(I:Inv X pins σ H s):s.heap.NoLimit:=I.ok.mod.nolimit.keeps I.bk
theorem Inv.fr(I:Inv X pins σ H s):∃m,Fr X.base X.env.locals s.heap m :=
 let ⟨m,hn,_⟩:=I.loc
 ⟨m,hn,I.bk,Jr I.ok.bsz I.ok.above⟩
theorem Inv.lt(I:Inv X pins σ H s):X.env.locals<s.heap.objs.size:=let ⟨_,hn,_⟩:=I.loc;hn.lt
theorem Inv.sz(I:Inv X pins σ H s):X.s₀.heap.objs.size<=s.heap.objs.size:=Jr I.ok.above (O6 I.lt)
theorem Inv.nofs(I:Inv X pins σ H s)(h:s.heap.objs.size<=a):a∉X.fs:=fun hb=>by
 obtain⟨_,o,ho,_⟩:=I.ok.funs.mem hb
 exact absurd (IG (II ho) (Jr I.sz h)) (JL _)
theorem Inv.cne(I:Inv X pins σ H s):∀x c,X.env.cells.lookup x=some c->c≠X.env.locals:=fun x c e z=>by
 obtain⟨v,o,ho,hd⟩:=I.cell x c e
 obtain⟨m,⟨o',es,ep,ho',hd',_⟩,_⟩:=I.loc
 rw[z,ho']at ho;cases ho;rw[hd']at hd;cases hd
theorem Inv.funs(I:Inv X pins σ H s):s.heap.FunFrames X.base X.outer:=by
 have all:∀(l:List Env),(∀b∈frs l,b∈X.fs)->X.s₀.heap.FunFrames X.base l->s.heap.FunFrames X.base l:=by
  intro l
  induction l with
  | nil=>intro _ _;trivial
  | cons env r ih =>
    intro hs hl
    obtain⟨hk,⟨L,o,hf,hn,ho,hd⟩,hr⟩:=hl
    have hL:L∈X.fs:=hs L (by unfold frs;rw[MN,hf];exact Iz)
    obtain⟨sl,e⟩:=I.base.slot L o ho (I.ok.frf L hL) hL fun z=>I.ok.exfs L z hL
    exact⟨hk,⟨L,_,hf,hn,e,hd⟩,ih (fun b hb=>hs b (by unfold frs;rw[MN,hf];exact Ir _ hb)) hr⟩
 exact all X.outer (fun _ hb=>hb) I.ok.funs
theorem Inv.stack(I:Inv X pins σ H s):s.heap.FunFrames X.base X.stack:=by
 rcases I.ok.stk with e|⟨e,hf⟩
 · rw[e];exact I.funs
 · rw[e]
   obtain⟨m,hn,_⟩:=I.loc
   refine .cons (by rw[I.ok.kind];decide) hf hn ?_ I.funs
   exact Heap.get?_none_of_le (Jr I.ok.bsz I.ok.above)
theorem Inv.stkSub(I:Inv X pins σ H s):∀b∈frs X.stack,b∈X.env.locals::X.fs:=fun b hb=>by
 rcases I.ok.stk with e|⟨e,hf⟩
 · rw[e]at hb;exact Ir _ hb
 · rw[e]at hb
   unfold frs at hb
   rw[MN,hf]at hb
   exact hb
theorem Inv.stkFree(I:Inv X pins σ H s):∀b∈frs X.stack,H b=none:=fun b hb=>by
 rcases Jf.mp (I.stkSub b hb)with e|hb
 · rw[e];exact I.free
 · obtain⟨_,o,ho,_⟩:=I.ok.funs.mem hb
   exact I.base.free b o ho (I.ok.frf b hb) fun z=>I.ok.exfs b z hb
theorem Inv.step{g':Array GenState}{d':Drawn}{ch:List Addr}(I:Inv X pins σ H s)
 (hch:∀b∈ch,(b∈X.ex\/X.s₀.heap.objs.size<=b)/\b≠X.env.locals/\(∀x c,X.env.cells.lookup x=some c->c≠b)/\∀p∈X.pn++pins,p.1≠b)
 (keep:∀b o,b≠X.env.locals->b∉X.fs->b∉ch->s.heap.get? b=some o->H b=none->h'.get? b=some o)
 (slot:∀b o,b≠X.env.locals->b∈X.fs->b∉ch->s.heap.get? b=some o->H b=none->∃sl,h'.get? b=some {o with slots:=sl})(free:∀b o,b∉ch->s.heap.get? b=some o->H b=none->H' b=none)
 (there:∀b o,b∉ch->s.heap.get? b=some o->∃o',h'.get? b=some o')
 (tups:∀b xs,H b=some (.tup xs)->H' b=some (.tup xs))(frzs:∀b o u,H b=some (.frz o u)->H' b=some (.frz o u))(tbls:∀b ps,H b=some (.tbl ps)->∃more,H' b=some (.tbl (ps++more)))
 (ns:∀m,s.heap.Ns X.env.locals m->h'.Ns X.env.locals m)(hok:HZ X.prog X.w H' h')(hg:Oy g') :
 Inv X pins σ H' {s with heap:=h',gens:=g',drawn:=d',toks:=t' }:=by
 have neL:∀b o,X.s₀.heap.get? b=some o->b≠X.env.locals:=fun b o e=>Jt (IG (II e) I.ok.above)
 have neC:∀b o,X.s₀.heap.get? b=some o->b∉X.ex->b∉ch:=fun b o e hx hb=>by
  rcases(hch b hb).1 with z|z
  · exact hx z
  · exact absurd (IG (II e) z) (JL _)
 have cellK:∀x c,X.env.cells.lookup x=some c->∀v,s.heap.IsCell c v->h'.IsCell c v:=fun x c e v ⟨o,ho,hd⟩=>by
  have nch:c∉ch:=fun z=>(hch c z).2.2.1 x c e rfl
  by_cases hc:c∈X.fs
  · obtain⟨sl,q⟩:=slot c o (I.cne x c e) hc nch ho (I.freeC x c e)
    exact⟨_,q,hd⟩
  · exact⟨o,keep c o (I.cne x c e) hc nch ho (I.freeC x c e),hd⟩
 refine⟨I.ok,I.os,hg,⟨fun b o e n hb hx=>?_,fun b o e n hb hx=>?_,fun b o e n hx=>?_,fun b o e hx=>?_,fun b xs e=>tups b xs (I.base.tups b xs e),fun b o xs e=>frzs b o xs (I.base.frzs b o xs e),fun b ps e=>?_⟩,?_,fun x c e=>?_,?_,fun x c e=>?_,fun p hp=>?_,hok,I.len⟩
 · exact keep b o (neL b o e) hb (neC b o e hx) (I.base.keep b o e n hb hx) (I.base.free b o e n hx)
 · obtain⟨sl,e1⟩:=I.base.slot b o e n hb hx
   obtain⟨sl',e2⟩:=slot b _ (neL b o e) hb (neC b o e hx) e1 (I.base.free b o e n hx)
   exact⟨sl',e2⟩
 · obtain⟨o',e1⟩:=I.base.there b o e hx
   exact free b o' (neC b o e hx) e1 (I.base.free b o e n hx)
 · obtain⟨o',e1⟩:=I.base.there b o e hx
   exact there b o' (neC b o e hx) e1
 · obtain⟨m1,e1⟩:=I.base.tbls b ps e
   obtain⟨m2,e2⟩:=tbls b _ e1
   exact⟨m1++m2,by rw[e2,Array.append_assoc]⟩
 · obtain⟨m,hn,hl⟩:=I.loc
   refine⟨m,ns m hn,fun i x v e1 e2 e3=>?_⟩
   obtain⟨u,r,l⟩:=hl i x v e1 e2 e3
   refine⟨u,r,?_⟩
   rcases l with l|⟨k,c,e,z⟩
   · exact .inl l
   · exact .inr ⟨k,c,e,cellK x c e _ z⟩
 · obtain⟨v,z⟩:=I.cell x c e
   exact⟨v,cellK x c e v z⟩
 · obtain⟨m,⟨o,_,_,ho,_⟩,_⟩:=I.loc
   exact free _ o (fun z=>(hch _ z).2.1 rfl) ho I.free
 · obtain⟨v,o,ho,hd⟩:=I.cell x c e
   exact free c o (fun z=>(hch c z).2.2.1 x c e rfl) ho (I.freeC x c e)
 · obtain⟨e,n,ne,nf,d⟩:=I.pin p hp
   have nch:p.1∉ch:=fun z=>(hch p.1 z).2.2.2 p hp rfl
   exact⟨keep p.1 p.2 ne nf nch e n,free p.1 p.2 nch e n,ne,nf,d⟩
theorem Inv.un(I:Inv X pins σ H s)(u:Un X.fs [] H H' s.heap h')(hok:HZ X.prog X.w H' h'):Inv X pins σ H' {s with heap:=h',toks:=t' }:=by
 obtain⟨m,⟨o,es,ep,ho,r⟩,_⟩:=id I.loc
 obtain⟨sl,hL⟩:=u.any ho I.free (by simp)
 exact I.step (g':=s.gens) (d':=s.drawn) (ch:=[]) (fun _ z=>nomatch z) (fun b o _ hb _ e n=>u.keep b o e n hb (by simp)) (fun b o _ hb _ e n=>u.slot b o e n hb (by simp)) (fun b o _ e n=>u.free b o e n (by simp)) (fun b o _ e=>u.there b o e (by simp)) u.tups u.frzs u.tbls (fun m' hm=>by
  obtain⟨o',es',ep',ho',r'⟩:=hm
  rw[ho]at ho';cases ho'
  exact⟨_,es',ep',hL,r'⟩) hok I.bare
theorem Inv.call{g':Array GenState}{d':Drawn}{ch:List Addr}(I:Inv X pins σ H s)(u:Un (frs X.stack) ch H H' s.heap h')(hok:HZ X.prog X.w H' h')(hg:Oy g')
 (hch:∀b∈ch,(b∈X.ex\/X.s₀.heap.objs.size<=b)/\b≠X.env.locals/\(∀x c,X.env.cells.lookup x=some c->c≠b)/\∀p∈X.pn++pins,p.1≠b) :
 Inv X pins σ H' {s with heap:=h',gens:=g',drawn:=d',toks:=t' }:=by
 obtain⟨m,⟨o,es,ep,ho,r⟩,_⟩:=id I.loc
 obtain⟨sl,hL⟩:=u.any ho I.free fun z=>(hch _ z).2.1 rfl
 exact I.step (ch:=ch) hch (fun b o hL hb hc e n=>u.keep b o e n (fun z=>(Jf.mp (I.stkSub b z)).elim hL hb) hc) (fun b o _ _ hc e n=>u.any e n hc) (fun b o hc e n=>u.free b o e n hc) (fun b o hc e=>u.there b o e hc) u.tups u.frzs u.tbls (fun m' hm=>by
  obtain⟨o',es',ep',ho',r'⟩:=hm
  rw[ho]at ho';cases ho'
  exact⟨_,es',ep',hL,r'⟩) hok hg
theorem Inv.turned(I:Inv X pins σ H s)(k:∀b o,b≠it->s.heap.get? b=some o->h'.get? b=some o)(hn:H it=none)(hL:it≠X.env.locals)
 (h1:it∈X.ex\/X.s₀.heap.objs.size<=it)(h2:∀x c,X.env.cells.lookup x=some c->c≠it)(h3:∀p∈X.pn++pins,p.1≠it):Inv X pins σ H {s with heap:=h',toks:=t' }:=by
 have nit:∀b u,H b=some u->b≠it:=fun b u e z=>by rw[z,hn]at e;cases e
 refine I.step (g':=s.gens) (d':=s.drawn) (ch:=[it]) (fun b hb=>?_) (fun b o _ _ hc e _=>k b o (fun z=>hc (by simp[z])) e) (fun b o _ _ hc e _=>⟨o.slots,k b o (fun z=>hc (by simp[z])) e⟩) (fun _ _ _ _ n=>n)
  (fun b o hc e=>⟨o,k b o (fun z=>hc (by simp[z])) e⟩) (fun _ _ e=>e) (fun _ _ _ e=>e) (fun b ps e=>⟨#[],by rw[e];simp⟩) (fun m hm=>?_) (fun b u e=>?_) I.bare
 · have e:b=it:=by simpa using hb
   subst e
   exact⟨h1,hL,h2,h3⟩
 · obtain⟨o,es,ep,ho,r⟩:=hm
   exact⟨o,es,ep,k _ o (L3 hL) ho,r⟩
 · refine(I.hok b u e).stay (fun c v hc q=>k c v ?_ q) (fun _ q=>q) fun _ _ q=>q
   rcases hc with z|z
   · rw[z];exact nit b u e
   · exact nit c _ z
theorem Inv.tok(I:Inv X pins σ H s)(t:Nat):Inv X pins σ H {s with toks:=t}:=I.un (h':=s.heap) (t':=t) Un.refl I.hok
theorem Inv.kept{t':Nat}(I:Inv X pins σ H s)(k:∀b u,s.heap.get? b=some u->h'.get? b=some u):Inv X pins σ H {s with heap:=h',toks:=t' }:=I.un (Un.kept k) (I.hok.kept k)
theorem Inv.laid{a:Addr}{o:HO}{t':Nat}(I:Inv X pins σ H s)(k:∀b u,s.heap.get? b=some u->h'.get? b=some u)(hp:s.heap.objs.size<=a)(new:cz X.prog X.w (upd H a o) h' a o) :
 Inv X pins σ (upd H a o) {s with heap:=h',toks:=t' }:=I.un (Un.laid k hp (I.hok.fresh hp)) (I.hok.laid k hp new)
theorem Inv.write{x e:Addr}{o:HO}{t':Nat}(I:Inv X pins σ H s)(mu:HG (H x))(he:e=x\/H e=some (.own x))(k:∀b u,b≠e->s.heap.get? b=some u->h'.get? b=some u)(heo:∃u,h'.get? e=some u)
 (new:cz X.prog X.w (upd H x o) h' x o):Inv X pins σ (upd H x o) {s with heap:=h',toks:=t' }:=I.un (Un.write mu he k heo) (I.hok.write mu he k heo new)
theorem Inv.pins_of{pins':List (Addr×Obj)}(I:Inv X pins σ H s)(h:∀p∈pins',s.heap.get? p.1=some p.2/\H p.1=none/\p.1≠X.env.locals/\p.1∉X.fs/\∀v,p.2.data ≠ .cell v):Inv X pins' σ H s :=
 ⟨I.ok,I.os,I.bare,I.base,I.loc,I.cell,I.free,I.freeC,fun p hp=>(JR.mp hp).elim (fun z=>I.pin p (Oq _ z)) (h p),I.hok,I.len⟩
theorem kX{N:List Str}(hN:N.Nodup){i:Nat}{x:Str}(a:N[i]?=some x)(b:N[j]?=some x):i=j:=by
 obtain⟨h1,e1⟩:=IR.mp a
 obtain⟨h2,e2⟩:=IR.mp b
 exact(List.getElem_inj hN).mp (e1.trans e2.symm)
theorem eY{M:Model}{i:Nat}{x:Str}{v:V}{Q:Unit->IB->Prop}(I:Inv X pins σ H s)(hN:X.N.Nodup)(hi:X.N[i]?=some x)(hx:Loc X.env.scope x)(r:RelV v u)
 (h:∀s',Inv X pins (σ.set i (some v)) H s'->(∃a,KP a s.heap s'.heap/\(a=X.env.locals\/X.env.cells.lookup x=some a))->Q () s')(hf:X.fn x=true\/X.env.scope.names.lookup x=some .local:=by first|exact .inl rfl|exact .inr rfl|assumption):IT M A (storeName X.env x u) Q E s:=by
 obtain⟨m,hn,hl⟩:=id I.loc
 have hcls:(X.env.scope.kind == .class||(X.env.scope.kind == .module&&X.env.locals != X.env.globals))=false:=by rw[I.ok.kind];rfl
 have hiσ:i<σ.length:=by rw[I.len];exact(IR.mp hi).1
 have cne:=I.cne
 have tracked:∀{a:Addr}{h':Heap},(∃o,s.heap.get? a=some o/\H a=none)->KP a s.heap h'->HZ X.prog X.w H h':=fun{a h'} ha hs b ob e=>by
  obtain⟨_,_,hfree⟩:=ha
  refine(I.hok b ob e).stay (fun c w' hc q=>(hs.2 c ?_).trans q) (fun _ q=>q) fun _ _ q=>q
  rintro rfl
  rcases hc with rfl|hc
  · rw[hfree]at e;cases e
  · rw[hfree]at hc;cases hc
 rcases hx with hk|hk
 · refine wpAny_storeName_local hk hn (fun h' hn' hs=>?_) hcls
   obtain⟨oL,_,_,hoL,_⟩:=id hn
   refine h _ ⟨I.ok,I.os,I.bare,⟨fun b o e n hb hx=>?_,fun b o e n hb hx=>?_,I.base.free,fun b o e hx=>?_,I.base.tups,I.base.frzs,I.base.tbls⟩,⟨_,hn',fun j y v' e1 e2 e3=>?_⟩,fun y c e=>?_,I.free,I.freeC,fun p hp=>?_,tracked ⟨oL,hoL,I.free⟩ hs,by simpa using I.len⟩ ⟨_,hs,.inl rfl⟩
   · exact(hs.2 b (Jt (IG (II e) I.ok.above))).trans (I.base.keep b o e n hb hx)
   · obtain⟨sl,e1⟩:=I.base.slot b o e n hb hx
     exact⟨sl,(hs.2 b (Jt (IG (II e) I.ok.above))).trans e1⟩
   · obtain⟨o',e1⟩:=I.base.there b o e hx
     exact⟨o',(hs.2 b (Jt (IG (II e) I.ok.above))).trans e1⟩
   · by_cases hj:j=i
     · subst hj
       rw[hi]at e1;cases e1
       rw[IW hiσ]at e2
       cases e2
       exact⟨u,r,.inl ⟨hk,by simp⟩⟩
     · rw[IM (L3 hj)]at e2
       obtain⟨u',r',q⟩:=hl j y v' e1 e2 e3
       refine⟨u',r',?_⟩
       rcases q with⟨k,e⟩|⟨k,c,e,z⟩
       · refine .inl ⟨k,?_⟩
         have:y≠x:=fun e=>hj (kX hN e1 (e▸hi))
         simp[this,e]
       · exact .inr ⟨k,c,e,z.sameBut hs (cne y c e)⟩
   · obtain⟨w',z⟩:=I.cell y c e
     exact⟨w',z.sameBut hs (cne y c e)⟩
   · obtain⟨e,n,ne,nf,d⟩:=I.pin p hp
     exact⟨(hs.2 p.1 ne).trans e,n,ne,nf,d⟩
 · have hfn:X.fn x=true:=by
     rcases hf with z|z
     · exact z
     · rw[z]at hk;cases hk
   obtain⟨c,hc⟩:=I.ok.has x (.inl hk)
   obtain⟨w',z⟩:=I.cell x c hc
   refine wpAny_storeName_cell I.ok.kind hk hc z (fun h' hc' hs=>?_)
   obtain⟨oc,hoc,hocd⟩:=id z
   refine h {s with heap:=h' } ⟨I.ok,I.os,I.bare,⟨fun b o e n hb hx=>?_,fun b o e n hb hx=>?_,I.base.free,fun b o e hx=>?_,I.base.tups,I.base.frzs,I.base.tbls⟩,⟨m,hn.sameBut hs (L3 (cne x c hc)),fun j y v' e1 e2 e3=>?_⟩,fun y c' e=>?_,I.free,I.freeC,fun p hp=>?_,tracked ⟨oc,hoc,I.freeC x c hc⟩ hs,by simpa using I.len⟩ ⟨c,hs,.inr hc⟩
   · exact(hs.2 b (Jt (IG (II e) (I.ok.cab x c hfn hc)))).trans (I.base.keep b o e n hb hx)
   · obtain⟨sl,e1⟩:=I.base.slot b o e n hb hx
     exact⟨sl,(hs.2 b (Jt (IG (II e) (I.ok.cab x c hfn hc)))).trans e1⟩
   · obtain⟨o',e1⟩:=I.base.there b o e hx
     exact⟨o',(hs.2 b (Jt (IG (II e) (I.ok.cab x c hfn hc)))).trans e1⟩
   · by_cases hj:j=i
     · subst hj
       rw[hi]at e1;cases e1
       rw[IW hiσ]at e2
       cases e2
       exact⟨u,r,.inr ⟨.inl hk,c,hc,hc'⟩⟩
     · rw[IM (L3 hj)]at e2
       obtain⟨u',r',q⟩:=hl j y v' e1 e2 e3
       refine⟨u',r',?_⟩
       rcases q with q|⟨k,c',e,z'⟩
       · exact .inl q
       · refine .inr ⟨k,c',e,z'.sameBut hs ?_⟩
         rintro rfl
         exact hj (kX hN e1 (I.ok.inj _ _ _ e hc▸hi))
   · by_cases hcc:c'=c
     · subst hcc;exact⟨_,hc'⟩
     · obtain⟨w2,z2⟩:=I.cell y c' e
       exact⟨w2,z2.sameBut hs hcc⟩
   · obtain⟨e,n,ne,nf,d⟩:=I.pin p hp
     refine⟨(hs.2 p.1 ?_).trans e,n,ne,nf,d⟩
     intro q
     rw[q,hoc]at e
     have q':oc=p.2:=Jh e
     exact d w' (by rw[<- q'];exact hocd)
theorem dG{M:Model}{i:Nat}{x:Str}{v:V}{Q:Unit->IB->Prop}(I:Inv X pins σ H s)(hN:X.N.Nodup)(hi:X.N[i]?=some x)(hx:Loc X.env.scope x)(r:RelV v u)
 (h:∀s',Inv X pins (σ.set i (some v)) H s'->Q () s')(hf:X.fn x=true\/X.env.scope.names.lookup x=some .local:=by first|exact .inl rfl|exact .inr rfl|assumption):IT M A (storeName X.env x u) Q E s :=
 eY I hN hi hx r (fun s' I' _=>h s' I') hf
end
abbrev XK:=Iw->Option Addr->Hp->Prop
abbrev St:=List (Option V)
abbrev VK:=V->Hp->Prop
abbrev TE:=St->Hp->VK->Prop
abbrev TT:=St->Hp->(Bool->Hp->Prop)->Prop
abbrev TA:=St->Hp->(List V->Hp->Prop)->Prop
structure Ends where
 nx:St->Hp->Prop
 rt:VK
 bk:St->Hp->Prop:=fun _ _=>False
 ct:St->Hp->Prop:=fun _ _=>False
abbrev TS:=Ends->St->Hp->Prop
def EP(X:Cx)(pins:List (Addr×Obj))(σ:St)(Q:VK)(u:Iw)(s':IB):Prop:=∃v H',Inv X pins σ H' s'/\RelV v u/\Q v H'
def TP(X:Cx)(pins:List (Addr×Obj))(σ:St)(Q:Bool->Hp->Prop)(b:Bool)(s':IB):Prop:=∃H',Inv X pins σ H' s'/\Q b H'
def AP(X:Cx)(pins:List (Addr×Obj))(σ:St)(Q:List V->Hp->Prop)(us:List Iw)(s':IB):Prop:=∃vs H',Inv X pins σ H' s'/\bQ vs us/\Q vs H'
def SP(X:Cx)(pins:List (Addr×Obj))(D:Ends)(f:Flow)(s':IB):Prop :=
 match f with
 | .next=>∃σ' H',Inv X pins σ' H' s'/\D.nx σ' H'
 | .brk=>∃σ' H',Inv X pins σ' H' s'/\D.bk σ' H'
 | .cont=>∃σ' H',Inv X pins σ' H' s'/\D.ct σ' H'
 | .ret u=>∃v σ' H',Inv X pins σ' H' s'/\RelV v u/\D.rt v H'
def PE(X:Cx)(e:Expr)(t:TE):Prop :=
 ∀(pins:List (Addr×Obj))(s:IB)(σ:St)(H:Hp)(Q:VK),Inv X pins σ H s->t σ H Q->IT (Jb X.prog X.w) X.A (eval e X.env) (EP X pins σ Q) X.xe s
def PT(X:Cx)(e:Expr)(t:TT):Prop :=
 ∀(pins:List (Addr×Obj))(s:IB)(σ:St)(H:Hp)(Q:Bool->Hp->Prop),Inv X pins σ H s->t σ H Q->IT (Jb X.prog X.w) X.A (isTrue e X.env (eval e X.env)) (TP X pins σ Q) X.xe s
def PW(X:Cx)(e:Expr)(t:TT):Prop :=
 ∀(whole:Sem Iw)(pins:List (Addr×Obj))(s:IB)(σ:St)(H:Hp)(Q:Bool->Hp->Prop),Inv X pins σ H s->t σ H Q->IT (Jb X.prog X.w) X.A (isTrue e X.env whole) (TP X pins σ Q) X.xe s
theorem PW.pt{X:Cx}{t:TT}(h:PW X e t):PT X e t:=h _
def PA(X:Cx)(es:List Expr)(t:TA):Prop :=
 ∀(pos:Pos)(pins:List (Addr×Obj))(s:IB)(σ:St)(H:Hp)(Q:List V->Hp->Prop),Inv X pins σ H s->t σ H Q->IT (Jb X.prog X.w) X.A (spliced (Kh pos (IC es X.env))) (AP X pins σ Q) X.xe s
def PS(X:Cx)(st:Stmt)(t:TS):Prop :=
 ∀(pins:List (Addr×Obj))(s:IB)(σ:St)(H:Hp)(D:Ends),Inv X pins σ H s->t D σ H->IT (Jb X.prog X.w) X.A (exec st X.env) (SP X pins D) X.xe s
def Hv(X:Cx)(st:List Stmt)(t:TS):Prop :=
 ∀(pins:List (Addr×Obj))(s:IB)(σ:St)(H:Hp)(D:Ends),Inv X pins σ H s->t D σ H->IT (Jb X.prog X.w) X.A (execs st X.env) (SP X pins D) X.xe s
theorem E7{t:Sem α}{Q Q':α->IB->Prop}{M:Model}(h:IT M A t Q E s)(hQ:∀a s,Q a s->Q' a s):IT M A t Q' E s:=Jl h hQ fun _ _ x=>x
section
variable{X:Cx}
def qL(i:Nat):TE:=fun σ H Q=>∃v,σ[i]?=some (some v)/\Q v H
def tC(v:V):TE:=fun _ H Q=>Q v H
theorem bH{i:Nat}{x:Str}(hN:X.N[i]?=some x)(hv:G6 X.env.scope x)(hd:(x==("__debug__" : Str))=false:=by decide)(hcd:(x==("__classdict__" : Str))=false:=by decide):PE X (.Name x pos) (qL i):=by
 intro pins s σ H Q I h
 obtain⟨v,e,h⟩:=h
 obtain⟨m,hn,hl⟩:=I.loc
 obtain⟨u,r,l⟩:=hl i x v hN e hv
 have fin:EP X pins σ Q u s:=⟨v,H,I,r,h⟩
 rcases l with⟨hk,hm⟩|⟨hk,c,hc,hcell⟩
 · exact wpAny_Name (Os I.ok.kind hk hn hm fin) hd
 · rcases hk with hk|hk
   · exact wpAny_Name (Oz I.ok.kind hk hc hcell fin) hd
   · exact wpAny_Name (wpAny_loadName_free I.ok.kind hk hc hcell fin hcd) hd
theorem di{i j pos}:PE X (.Constant (.int i) j pos) (tC (.int i)):=fun _ _ _ H _ I h=>wpAny_Constant_int ⟨.int i,H,I.tok _,⟨_,rfl⟩,h⟩
theorem Br{b j pos}:PE X (.Constant (.bool b) j pos) (tC (.bl b)):=fun _ _ _ H _ I h=>Constant_bool ⟨.bl b,H,I,rfl,h⟩
theorem yW{j pos}:PE X (.Constant .none j pos) (tC .non):=fun _ _ _ H _ I h=>Constant_none ⟨.non,H,I,rfl,h⟩
theorem dI{x j pos}:PE X (.Constant (.str x) j pos) (tC (.str x)):=fun _ _ _ H _ I h=>Calls.Constant_str ⟨.str x,H,I.tok _,⟨_,rfl⟩,h⟩
def Gl(X:Cx)(x:Str):Prop:=X.env.kindOf x=some .globalImplicit
theorem wp{σ:St}{H:Hp}{x:Str}(I:Inv X pins σ H s)(hg:Gl X x)(hm:X.mg x=some u)(h:Q u s)
 (hd:(x==("__debug__" : Str))=false:=by decide):IT (Jb X.prog X.w) X.A (eval (.Name x pos) X.env) Q E s :=
 M_ I.ok.kind hg (Calls.loadGlobal_global (by rw[I.ok.glob];exact I.mod.glob.keeps I.bk) hm h) hd
theorem dn{σ:St}{H:Hp}{x:Str}(I:Inv X pins σ H s)(hg:Gl X x)(hm:X.mg x=none)(hv:LB x=some u)(h:Q u s)
 (hn:x ≠ "__name__" := by decide)(hd:(x==("__debug__" : Str))=false:=by decide):IT (Jb X.prog X.w) X.A (eval (.Name x pos) X.env) Q E s:=by
 obtain⟨mb,h1,h2⟩:=I.mod.blt
 exact M_ I.ok.kind hg (Calls.loadGlobal_builtin (by rw[I.ok.glob];exact I.mod.glob.keeps I.bk) hm (by rw[I.ok.blt];exact h1.keeps I.bk) ((h2 x hn).trans hv) h) hd
variable{a b:Expr}{ta tb:TE}{pos:Pos}
def PC(X:Cx)(op:OZ)(a b:Expr)(t:TE):Prop :=
 ∀ (pins:List (Addr×Obj))(s:IB)(σ:St)(H:Hp)(Q:VK),Inv X pins σ H s->t σ H Q ->
   IT (Jb X.prog X.w) X.A (eval a X.env) (fun v s₁=>IT (Jb X.prog X.w) X.A (eval b X.env) (fun u s₂=>IT (Jb X.prog X.w) X.A (KU op v u) (EP X pins σ Q) X.xe s₂) X.xe s₁) X.xe s
theorem rB(b:Expr)(h:op ≠ .In)(h2:op ≠ .NotIn):Kx op b=false:=by
 have e1:(op==OZ.In)=false:=by cases op<;>first|rfl|exact absurd rfl h
 have e2:(op==OZ.NotIn)=false:=by cases op<;>first|rfl|exact absurd rfl h2
 cases b<;>simp[Kx,e1,e2]
def tB(t:TE):TT:=fun σ H Q=>t σ H fun x H1=>∃c,x = .bl c/\Q c H1
theorem yL{t:TE}(h:PC X op a b t)(h1:Kx op b=false:=by first|exact rB _ (by decide) (by decide)|rfl):PT X (.Compare a [op] [b] pos) (tB t):=by
 intro pins s σ H Q I hw
 refine N3 (E7 (h pins s σ H _ I hw) fun v s1 h1=>E7 h1 fun u s2 h2=>E7 h2 fun c s3 ⟨x,H1,I1,r1,q1⟩=>?_) h1
 obtain⟨d,rfl,q⟩:=q1
 cases r1
 exact Nw ⟨H1,I1,q⟩
variable{tA tB':TT}{rest:List Expr}
def DZ(t u:TT):TT:=fun σ H Q=>t σ H fun c H1=>if c=true then u σ H1 Q else Q false H1
def Fb(t u:TT):TT:=fun σ H Q=>t σ H fun c H1=>if c=true then Q true H1 else u σ H1 Q
theorem vp(ha:PT X a tA):PW X (.BoolOp .And [a] pos) tA:=by
 intro wh pins s σ H Q I h
 refine isTrue_and (E7 (ha pins s σ H Q I h) fun c s1 e=>?_)
 cases c with
 | true=>exact isTrue_and_nil e
 | false=>exact e
theorem yJ(ha:PT X a tA):PW X (.BoolOp .Or [a] pos) tA:=by
 intro wh pins s σ H Q I h
 refine isTrue_or (E7 (ha pins s σ H Q I h) fun c s1 e=>?_)
 cases c with
 | false=>exact isTrue_or_nil e
 | true=>exact e
theorem yK(ha:PT X a tA)(hb:PW X (.BoolOp .And (b::rest) pos) tB'):PW X (.BoolOp .And (a::b::rest) pos) (DZ tA tB'):=by
 intro wh pins s σ H Q I h
 refine isTrue_and (E7 (ha pins s σ H _ I h) fun c s1 ⟨H1,I1,q1⟩=>?_)
 cases c with
 | true=>exact hb wh pins s1 σ H1 Q I1 q1
 | false=>exact⟨H1,I1,q1⟩
theorem Bl(ha:PT X a tA)(hb:PW X (.BoolOp .Or (b::rest) pos) tB'):PW X (.BoolOp .Or (a::b::rest) pos) (Fb tA tB'):=by
 intro wh pins s σ H Q I h
 refine isTrue_or (E7 (ha pins s σ H _ I h) fun c s1 ⟨H1,I1,q1⟩=>?_)
 cases c with
 | true=>exact⟨H1,I1,q1⟩
 | false=>exact hb wh pins s1 σ H1 Q I1 q1
def DS(ta tb:TE):TE:=fun σ H Q=>ta σ H fun x H1=>∃c,x = .bl c/\if c=true then Q (.bl true) H1 else tb σ H1 Q
theorem yV{op}{t:TE}(h:PE X a t):PE X (.BoolOp op [a] pos) t:=fun pins s σ H Q I hw=>BoolOp_one (h pins s σ H Q I hw)
theorem Bq(ha:PE X a ta)(hb:PE X (.BoolOp .Or (b::rest) pos) tb):PE X (.BoolOp .Or (a::b::rest) pos) (DS ta tb):=by
 intro pins s σ H Q I h
 refine BoolOp_or (E7 (ha pins s σ H _ I h) fun v s1 ⟨x,H1,I1,r1,q1⟩=>?_)
 obtain⟨c,rfl,q1⟩:=q1
 cases r1
 refine Nw ?_
 cases c with
 | false=>exact hb pins s1 σ H1 Q I1 q1
 | true=>exact⟨.bl true,H1,I1,rfl,q1⟩
def Fh(t:TT)(ta tb:TE):TE:=fun σ H Q=>t σ H fun c H1=>if c=true then ta σ H1 Q else tb σ H1 Q
theorem rh{c:Expr}(hc:PT X c tA)(ha:PE X a ta)(hb:PE X b tb):PE X (.IfExp c a b pos) (Fh tA ta tb):=by
 intro pins s σ H Q I h
 refine wpAny_IfExp (E7 (hc pins s σ H _ I h) fun d s1 ⟨H1,I1,q1⟩=>?_)
 cases d with
 | true=>exact ha pins s1 σ H1 Q I1 q1
 | false=>exact hb pins s1 σ H1 Q I1 q1
end
def Hj(K:W.Frag)(H:Hp)(a:Addr)(xs:List V):Prop :=
 Rd H a (.lst xs) \/
  ∃(o:Obj)(its:Array Iw)(n:Nat),K.lookup a=some o/\o.cls = .type "list" /\ o.dict=none/\o.data = .seq its n/\its.size<=sizeLine/\bQ xs its.toList
def Hi(K:W.Frag)(H:Hp)(a:Addr)(xs:List V):Prop :=
 Rd H a (.tup xs) \/
  ∃(o:Obj)(its:Array Iw)(n:Nat),K.lookup a=some o/\o.cls = .type "tuple" /\ o.data = .seq its n/\its.size<=sizeLine/\bQ xs its.toList/\o.dict=none
def Ek:Iw->Option V
 | .none=>some .non
 | .bool b=>some (.bl b)
 | .int i _=>some (.int i)
 | .str x _=>some (.str x)
 | .bytes b _=>some (.byt b)
 | .float b _=>some (.flt b)
 | .ref a=>some (.ref a)
 | .type n=>some (.ty n)
 | _=>none
theorem RelV.abs{x:V}(r:RelV x u):Ek u=some x:=by
 cases x with
 | non=>cases r;rfl
 | bl _=>cases r;rfl
 | int _=>obtain⟨t,rfl⟩:=r;rfl
 | str _=>obtain⟨t,rfl⟩:=r;rfl
 | byt _=>obtain⟨t,rfl⟩:=r;rfl
 | flt _=>obtain⟨t,rfl⟩:=r;rfl
 | ref _=>cases r;rfl
 | ty _=>cases r;rfl
theorem RelV.inj{x y:V}(r:RelV x u)(q:RelV y u):x=y:=Jh (r.abs.symm.trans q.abs)
theorem bQ.inj:∀{xs ys:List V}{us:List Iw},bQ xs us->bQ ys us->xs=ys
 | _,_,_,.nil,.nil=>rfl
 | _,_,_,.cons r t,.cons r' t'=>by rw[r.inj r',bQ.inj t t']
section
variable{X:Cx}{pins:List (Addr×Obj)}{σ:St}{H:Hp}{s:IB}{a:Addr}{xs ys:List V}
theorem Hj.of{K:W.Frag}(h:H a=some (.lst xs)):Hj K H a xs:=.inl (.inl h)
theorem Hi.of{K:W.Frag}(h:H a=some (.tup xs)):Hi K H a xs:=.inl (.inl h)
theorem Inv.list(I:Inv X pins σ H s)(h:Hj X.K H a xs):∃its:List Iw,bQ xs its/\PlainL s.heap a its.toArray/\xs.length<=sizeLine:=by
 rcases h with h|⟨o,its,n,hk,hc,hd,hs,hz,r⟩
 · obtain⟨z,its,n,r,e⟩:=h.ok I.hok
   exact⟨its,r,⟨_,n,e,rfl,rfl,rfl⟩,z⟩
 · refine⟨its.toList,r,⟨o,n,I.kIn a o hk,hc,hd,by simpa using hs⟩,?_⟩
   have e:=r.length
   simp only[L4]at e
   omega
theorem Inv.tuple(I:Inv X pins σ H s)(h:Hi X.K H a xs):∃its:List Iw,bQ xs its/\N2 s.heap a its.toArray/\xs.length<=sizeLine:=by
 rcases h with h|⟨o,its,n,hk,hc,hs,hz,r,hd⟩
 · obtain⟨z,its,r,p⟩:=h.ok I.hok
   exact⟨its,r,p.tup,z⟩
 · refine⟨its.toList,r,⟨o,I.kIn a o hk,hc,n,by simpa using hs⟩,?_⟩
   have e:=r.length
   simp only[L4]at e
   omega
theorem Inv.list_inj(I:Inv X pins σ H s)(h:Hj X.K H a xs)(h':Hj X.K H a ys):xs=ys:=by
 obtain⟨its,r,⟨o,n,e,_,_,d⟩,_⟩:=I.list h
 obtain⟨its',r',⟨o',n',e',_,_,d'⟩,_⟩:=I.list h'
 rw[e]at e';cases e'
 rw[d]at d'
 injection d' with d1 _
 have:its=its':=by simpa using congrArg Array.toList d1
 subst this
 exact r.inj r'
theorem Inv.tupleD(I:Inv X pins σ H s)(h:Hi X.K H a xs):∃ob,s.heap.get? a=some ob/\ob.cls = .type "tuple" /\ ob.dict=none:=by
 rcases h with h|⟨o,its,n,hk,hc,hs,hz,r,hd⟩
 · obtain⟨z,its,r,⟨o,e1,e2,_,e3⟩⟩:=h.ok I.hok
   exact⟨o,e1,e2,e3⟩
 · exact⟨o,I.kIn a o hk,hc,hd⟩
theorem Inv.tuple_inj(I:Inv X pins σ H s)(h:Hi X.K H a xs)(h':Hi X.K H a ys):xs=ys:=by
 obtain⟨its,r,⟨o,e,_,n,d⟩,_⟩:=I.tuple h
 obtain⟨its',r',⟨o',e',_,n',d'⟩,_⟩:=I.tuple h'
 rw[e]at e';cases e'
 rw[d]at d'
 injection d' with d1 _
 have:its=its':=by simpa using congrArg Array.toList d1
 subst this
 exact r.inj r'
end
abbrev Cx.wish(X:Cx)(E:Iw->IB->Prop):Cx:={X with xe:=E}
abbrev Cx.nox(X:Cx):Cx:=X.wish fun _ _=>False
theorem Cx.Ok.wish{X:Cx}(ok:X.Ok)(E:Iw->IB->Prop):(X.wish E).Ok :=
 ⟨ok.mod,ok.kind,ok.glob,ok.blt,ok.above,ok.inj,ok.has,ok.cab,ok.hd,ok.frames,ok.stk,ok.exf,ok.bs,ok.bsz,ok.noex,ok.exfs,ok.funs,ok.frf⟩
theorem Cx.Ok.unwish{X:Cx}(ok:(X.wish E).Ok):X.Ok :=
 ⟨ok.mod,ok.kind,ok.glob,ok.blt,ok.above,ok.inj,ok.has,ok.cab,ok.hd,ok.frames,ok.stk,ok.exf,ok.bs,ok.bsz,ok.noex,ok.exfs,ok.funs,ok.frf⟩
section
variable{X:Cx}{pins:List (Addr×Obj)}{σ:St}{H:Hp}{s:IB}{E:Iw->IB->Prop}
theorem Inv.wish(I:Inv X pins σ H s)(E:Iw->IB->Prop):Inv (X.wish E) pins σ H s:=⟨I.ok.wish E,I.os,I.bare,I.base,I.loc,I.cell,I.free,I.freeC,I.pin,I.hok,I.len⟩
theorem Inv.unwish(I:Inv (X.wish E) pins σ H s):Inv X pins σ H s:=⟨I.ok.unwish,I.os,I.bare,I.base,I.loc,I.cell,I.free,I.freeC,I.pin,I.hok,I.len⟩
theorem SP.unwish{D:Ends}{f:Flow}{s':IB}(h:SP (X.wish E) pins D f s'):SP X pins D f s':=by
 cases f with
 | next=>obtain⟨σ',H',I,q⟩:=h;exact⟨σ',H',I.unwish,q⟩
 | brk=>obtain⟨σ',H',I,q⟩:=h;exact⟨σ',H',I.unwish,q⟩
 | cont=>obtain⟨σ',H',I,q⟩:=h;exact⟨σ',H',I.unwish,q⟩
 | ret u=>obtain⟨v,σ',H',I,r,q⟩:=h;exact⟨v,σ',H',I.unwish,r,q⟩
theorem PE.nox{t:TE}(h:PE X.nox e t):PE X e t:=fun pins s σ H Q I hw =>
 Jl (h pins s σ H Q (I.wish _) hw) (fun _ _ ⟨v,H',I',r,q⟩=>⟨v,H',I'.unwish,r,q⟩) fun _ _ z=>Jq z
theorem PT.nox{t:TT}(h:PT X.nox e t):PT X e t:=fun pins s σ H Q I hw =>
 Jl (h pins s σ H Q (I.wish _) hw) (fun _ _ ⟨H',I',q⟩=>⟨H',I'.unwish,q⟩) fun _ _ z=>Jq z
theorem Hv.nox{st:List Stmt}{t:TS}(h:Hv X.nox st t):Hv X st t:=fun pins s σ H D I hw =>
 Jl (h pins s σ H D (I.wish _) hw) (fun _ _ q=>q.unwish) fun _ _ z=>Jq z
end
section
variable{X:Cx}{st:Stmt}{rest:List Stmt}{t u:TS}{e:Expr}{te:TE}{pos:Pos}
def A_:TS:=fun D σ H=>D.nx σ H
def DP(t u:TS):TS:=fun D σ H=>t {D with nx:=u D} σ H
theorem vA:Hv X [] A_:=fun _ _ σ H _ I h=>MO ⟨σ,H,I,h⟩
theorem cF(h1:PS X st t)(h2:Hv X rest u):Hv X (st::rest) (DP t u):=by
 intro pins s σ H D I h
 refine wpAny_execs_cons (E7 (h1 pins s σ H {D with nx:=u D} I h) fun f s1 q=>?_)
 cases f with
 | next =>
   obtain⟨σ',H',I',q⟩:=q
   exact h2 pins s1 σ' H' D I' q
 | ret v=>exact q
 | brk=>exact q
 | cont=>exact q
theorem jE(h1:PS X st t):Hv X [st] t:=by
 intro pins s σ H D I h
 refine wpAny_execs_cons (E7 (h1 pins s σ H D I h) fun f s1 q=>?_)
 cases f with
 | next=>exact MO q
 | ret v=>exact q
 | brk=>exact q
 | cont=>exact q
theorem Inv.quiet{σ:St}{H:Hp}(I:Inv X pins σ H s):interactive X.env=false:=by simp[interactive,I.ok.kind]
def Ba(te:TE):TS:=fun D σ H=>te σ H fun _ H1=>D.nx σ H1
theorem oD(he:PE X e te)(hs:Ku e none pos.line X.env=pure false:=by rfl):PS X (.Expr e pos) (Ba te):=by
 intro pins s σ H D I h
 exact wpAny_Expr_any (E7 (he pins s σ H _ I h) fun v s1 ⟨x,H1,I1,r1,q1⟩=>⟨σ,H1,I1,q1⟩) I.quiet hs
def DQ(te:TE):TS:=fun D σ H=>te σ H D.rt
theorem kS(he:PE X e te):PS X (.Return (some e) pos) (DQ te):=by
 intro pins s σ H D I h
 exact wpAny_Return_some (E7 (he pins s σ H _ I h) fun v s1 ⟨x,H1,I1,r1,q1⟩=>⟨x,σ,H1,I1,r1,q1⟩)
def DV(c:TT)(t u:TS):TS:=fun D σ H=>c σ H fun b H1=>if b=true then t D σ H1 else u D σ H1
theorem yN{c:Expr}{a b:List Stmt}{tc:TT}(hc:PT X c tc)(ha:Hv X a t)(hb:Hv X b u):PS X (.If c a b pos) (DV tc t u):=by
 intro pins s σ H D I h
 refine wpAny_If (E7 (hc pins s σ H _ I h) fun d s1 ⟨H1,I1,q1⟩=>?_)
 cases d with
 | true=>exact ha pins s1 σ H1 D I1 q1
 | false=>exact hb pins s1 σ H1 D I1 q1
def yj:TS:=fun _ _ _=>False
theorem qV:PS X st yj:=fun _ _ _ _ _ _ h=>h.elim
end
abbrev TG:=V->St->Hp->(St->Hp->Prop)->Prop
abbrev Hh:=List V->St->Hp->(St->Hp->Prop)->Prop
def PG(X:Cx)(target:Expr)(t:TG):Prop :=
 ∀ (pins:List (Addr×Obj))(s:IB)(σ:St)(H:Hp)(v:V)(u:Iw)(Q:St->Hp->Prop),Inv X pins σ H s->RelV v u->t v σ H Q ->
   IT (Jb X.prog X.w) X.A (Li target X.env u) (fun _ s'=>∃σ' H',Inv X pins σ' H' s'/\Q σ' H') X.xe s
def HC(X:Cx)(ts:List Expr)(t:Hh):Prop :=
 ∀ (pins:List (Addr×Obj))(s:IB)(σ:St)(H:Hp)(vs:List V)(us:List Iw)(Q:St->Hp->Prop),Inv X pins σ H s->bQ vs us->t vs σ H Q ->
   IT (Jb X.prog X.w) X.A (OQ ((Ki ts X.env).map (·.2)) us) (fun _ s'=>∃σ' H',Inv X pins σ' H' s'/\Q σ' H') X.xe s
abbrev Cb:=V->V->V->Hp->(Hp->Prop)->Prop
def Du(X:Cx)(t:Cb):Prop :=
 ∀ (pins:List (Addr×Obj))(s:IB)(σ:St)(H:Hp)(o i v:V)(ov iv u:Iw)(Q:Hp->Prop),Inv X pins σ H s->RelV o ov->RelV i iv->RelV v u->t o i v H Q ->
   IT (Jb X.prog X.w) X.A (PJ ov iv u) (fun _ s'=>∃H',Inv X pins σ H' s'/\Q H') X.xe s
abbrev Hd:=V->V->Hp->VK->Prop
def Hz(X:Cx)(op:OR)(t:Hd):Prop :=
 ∀ (pins:List (Addr×Obj))(s:IB)(σ:St)(H:Hp)(x y:V)(v u:Iw)(Q:VK),Inv X pins σ H s->RelV x v->RelV y u->t x y H Q ->
   IT (Jb X.prog X.w) X.A (Pq op v u) (EP X pins σ Q) X.xe s
section
variable{X:Cx}{pos:Pos}
def fZ(i:Nat):TG:=fun v σ H Q=>Q (σ.set i (some v)) H
theorem fu{i:Nat}{x:Str}(hN:X.N.Nodup)(hi:X.N[i]?=some x)(hx:Loc X.env.scope x)(hf:X.fn x=true\/X.env.scope.names.lookup x=some .local:=by first|exact .inl rfl|exact .inr rfl|assumption):PG X (.Name x pos) (fZ i):=by
 intro pins s σ H v u Q I r h
 exact Nx (dG I hN hi hx r (fun s' I'=>⟨_,H,I',h⟩) hf)
def Ed:Hh:=fun vs σ H Q=>vs=[]/\Q σ H
def BV(t:TG)(u:Hh):Hh:=fun vs σ H Q=>∃v r,vs=v::r/\t v σ H fun σ' H'=>u r σ' H' Q
theorem oK:HC X [] Ed:=by
 intro pins s σ H vs us Q I r h
 obtain⟨e,h⟩:=h
 subst e
 cases r
 exact assignInOrder_nil ⟨σ,H,I,h⟩
theorem gZ{es:List Expr}{t:TG}{u:Hh}(h1:PG X e t)(h2:HC X es u)
 (hs:(Ki (e::es) X.env).map (·.2)=Li e X.env::(Ki es X.env).map (·.2):=by rfl):HC X (e::es) (BV t u):=by
 intro pins s σ H vs us Q I r h
 obtain⟨v,vr,e1,h⟩:=h
 subst e1
 cases r with
 | cons r rr =>
   rw[hs]
   refine Nb (E7 (h1 pins s σ H _ _ _ I r h) fun _ s1 ⟨σ1,H1,I1,q1⟩=>?_)
   exact h2 pins s1 σ1 H1 _ _ Q I1 rr q1
def Eb(K:W.Frag)(n:Nat)(t:Hh):TG:=fun v σ H Q=>∃a xs,v = .ref a/\Hi K H a xs/\xs.length=n/\t xs σ H Q
theorem tG{es:List Expr}{k:Nat}{t:Hh}(hc:X.calm=true)(h:HC X es t)
 (hn:(Ki es X.env).length=n:=by rfl)(hst:(Ki es X.env).findIdx? (·.1)=none:=by rfl):PG X (.Tuple es k pos) (Eb X.K n t):=by
 intro pins s σ H v u Q I r hw
 obtain⟨a,xs,e1,hq,hl,hw⟩:=hw
 subst e1
 cases r
 obtain⟨its,rv,ht,hz⟩:=I.tuple hq
 refine assign_Tuple_tuple (I.ok.hd hc) ht (by simp[hn,<- hl,rv.length]) hst fun h' hx=>?_
 have I1:Inv X pins σ H {s with heap:=h' }:=I.kept (t':=s.toks) fun b o e=>hx b o (Jt (II e)) e
 exact h pins _ σ H xs _ Q I1 (by simpa using rv) hw
def Ec(to ti:TE)(t:Cb):TG:=fun v σ H Q=>to σ H fun o H1=>ti σ H1 fun i H2=>t o i v H2 fun H3=>Q σ H3
theorem tH{o i:Expr}{to ti:TE}{t:Cb}(ho:PE X o to)(hi:PE X i ti)(hs:Du X t)
 (ha:∀v,Li (.Subscript o i pos) X.env v=(do
  let ov <- NH [v] (eval o X.env)
  let iv <- NH [v,ov] (eval i X.env)
  OA pos
  NH [v,ov,iv] (PJ ov iv v)
  release [v,ov,iv] []):=by intro _;rfl):PG X (.Subscript o i pos) (Ec to ti t):=by
 intro pins s σ H v u Q I r h
 rw[ha]
 refine Io (K4 (E7 (ho pins s σ H _ I h) fun ov s1 ⟨x,H1,I1,r1,q1⟩=>?_))
 refine Io (K4 (E7 (hi pins s1 σ H1 _ I1 q1) fun iv s2 ⟨y,H2,I2,r2,q2⟩=>?_))
 refine Io (Ky (Io (K4 (E7 (hs pins s2 σ H2 x y v ov iv u _ I2 r1 r2 r q2) fun _ s3 ⟨H3,I3,q3⟩=>?_))))
 exact wpAny_release ⟨σ,H3,I3,q3⟩
def Av(te:TE)(g:TG):TS:=fun D σ H=>te σ H fun x H1=>g x σ H1 D.nx
theorem iQ{te:TE}{g:TG}(he:PE X e te)(hg:PG X tg g)(hs:Lp [tg] e pos.line X.env=pure false:=by rfl)(hw:Lq [tg] e X.env=pure none:=by rfl)
 (h1:(Ki [tg] X.env).map (·.2)=[Li tg X.env]:=by rfl):PS X (.Assign [tg] e pos) (Av te g):=by
 intro pins s σ H D I h
 refine wpAny_Assign_stores (E7 (he pins s σ H _ I h) fun v s1 ⟨x,H1,I1,r1,q1⟩=>?_) hs hw
 rw[h1]
 exact E7 (hg pins s1 σ H1 x v _ I1 r1 q1) fun _ s2 q=>q
theorem fq{i:Nat}{x:Str}{te:TE}(hN:X.N.Nodup)(hi:X.N[i]?=some x)(hx:Loc X.env.scope x)(he:PE X e te)(hs:Ku e (some (.Name x pos')) pos.line X.env=pure false:=by rfl)(hf:X.fn x=true\/X.env.scope.names.lookup x=some .local:=by first|exact .inl rfl|exact .inr rfl|assumption) :
 PS X (.Assign [.Name x pos'] e pos) (Av te (fZ i)):=by
 intro pins s σ H D I h
 refine wpAny_Assign_Name (E7 (he pins s σ H _ I h) fun v s1 ⟨y,H1,I1,r1,q1⟩=>?_) hs
 exact dG I1 hN hi hx r1 (fun s2 I2=>⟨_,H1,I2,q1⟩) hf
def DR(i j:Nat)(ta:TA):TS:=fun D σ H=>ta σ H fun vs H1=>∃v w,vs=[v,w]/\D.nx ((σ.set i (some v)).set j (some w)) H1
theorem yM{i:Nat}{x y:Str}{a b:Expr}{ta:TA}{py pt:Pos}{kt k2 pt2}(hc:X.calm=true)(hN:X.N.Nodup)(hi:X.N[i]?=some x)(hj:X.N[j]?=some y)(hij:i≠j)
 (hx:X.env.scope.names.lookup x=some .local)(hy:X.env.scope.names.lookup y=some .local)(ha:PA X [a,b] ta)
 (hw:Lq [.Tuple [.Name x px,.Name y py] kt pt] (.Tuple [a,b] k2 pt2) X.env=pure (some [x,y]))
 (hs:Lp [.Tuple [.Name x px,.Name y py] kt pt] (.Tuple [a,b] k2 pt2) pos.line X.env=pure false:=by rfl) :
 PS X (.Assign [.Tuple [.Name x px,.Name y py] kt pt] (.Tuple [a,b] k2 pt2) pos) (DR i j ta):=by
 intro pins s σ H D I h
 rw[exec_Assign_arm]
 refine Io (Ky ?_)
 rw[hs]
 refine Io (IA ?_)
 rw[if_neg (by decide)]
 refine Io (Tuple_ (E7 (ha _ pins s σ H _ I h) fun us s1 ⟨vs,H1,I1,r1,q1⟩=>?_))
 obtain⟨v,w,e1,q1⟩:=q1
 subst e1
 obtain⟨u1,u2,rfl,rv,rw'⟩:∃u1 u2,us=[u1,u2]/\RelV v u1/\RelV w u2:=by
  cases r1 with
  | cons p q =>
    cases q with
    | cons p' q' =>
      cases q'
      exact⟨_,_,rfl,p,p'⟩
 refine Jg ?_ (by show 2<=sizeLine;decide)
 have I2:Inv X pins σ H1 {s1 with heap:=s1.heap.push {cls:=.type "tuple", data:=.seq [u1,u2].toArray}}:=I1.kept (t':=s1.toks) fun b o e=>Iu _ e
 rw[hw]
 refine Io (IA ?_)
 show IT (Jb X.prog X.w) X.A (do rule "assign.swapped-stores"; let items <- unpackItems (.ref s1.heap.objs.size) 2 none;OQ [fun v=>bindName X.env y v,fun v=>bindName X.env x v] items.reverse;pure Flow.next) _ _ _
 refine Io (LP (Io (unpackItems_tuple (items:=#[u1,u2]) (I.ok.hd hc) (N2.new s1.heap _) fun h' hx'=>?_)))
 have I3:=I2.kept (h':=h') (t':=s1.toks) fun b o e=>hx' b o (Jt (II e)) e
 show IT _ _ (OQ [fun v=>bindName X.env y v,fun v=>bindName X.env x v] [u2,u1] >>= fun _=>pure Flow.next) _ _ _
 refine Io (Nb (wpAny_bindName (dG I3 hN hj (.inl hy) rw' (fun s2 I4=>?_) (.inr hy))))
 refine Nb (wpAny_bindName (dG I4 hN hi (.inl hx) rv (fun s3 I5=>assignInOrder_nil (IA ?_)) (.inr hx)))
 rw[List.set_comm _ _ (L3 hij)]at I5
 exact⟨_,H1,I5,q1⟩
def DY(i:Nat)(te:TE)(ti:Hd):TS:=fun D σ H=>∃x,σ[i]?=some (some x)/\te σ H fun y H1=>ti x y H1 fun z H2=>D.nx (σ.set i (some z)) H2
theorem tF{i:Nat}{x:Str}{te:TE}{op:OR}{ti:Hd}(hN:X.N.Nodup)(hi:X.N[i]?=some x)(hx:Loc X.env.scope x)(he:PE X e te)(ho:Hz X op ti)(hf:X.fn x=true\/X.env.scope.names.lookup x=some .local:=by first|exact .inl rfl|exact .inr rfl|assumption) :
 PS X (.AugAssign (.Name x pos') op e pos) (DY i te ti):=by
 intro pins s σ H D I h
 obtain⟨v,e1,h⟩:=h
 obtain⟨m,hn,hl⟩:=I.loc
 have vis:G6 X.env.scope x:=by rcases hx with k|k;exact .inl k;exact .inr (.inl k)
 obtain⟨u,r,l⟩:=hl i x v hi e1 vis
 refine wpAny_AugAssign_Name ?_
 have go:IT (Jb X.prog X.w) X.A (eval e X.env) (fun w s₂=>IT (Jb X.prog X.w) X.A (Pq op u w) (fun r s₃=>IT (Jb X.prog X.w) X.A (storeName X.env x r) (fun _=>SP X pins D .next) X.xe s₃) X.xe s₂) X.xe s:=by
  refine E7 (he pins s σ H _ I h) fun w s1 ⟨y,H1,I1,r1,q1⟩=>?_
  refine E7 (ho pins s1 σ H1 v y u w _ I1 r r1 q1) fun z s2 ⟨zv,H2,I2,r2,q2⟩=>?_
  exact dG I2 hN hi hx r2 (fun s3 I3=>⟨_,H2,I3,q2⟩) hf
 rcases l with⟨hk,hm⟩|⟨hk,c,hc,hcell⟩
 · exact Os I.ok.kind hk hn hm go
 · rcases hk with hk|hk
   · exact Oz I.ok.kind hk hc hcell go
   · rcases hx with k|k
     · have:X.env.scope.names.lookup x=some .free:=hk
       rw[k]at this;cases this
     · have:X.env.scope.names.lookup x=some .free:=hk
       rw[k]at this;cases this
end
section
variable{X:Cx}{pos:Pos}
def yi(c:TT)(tb:TS):TS:=fun D σ H=>∃W:Nat->St->Hp->Prop,(∃m,W m σ H)/\∀m σ H,W m σ H ->
 c σ H fun b H1=>if b=true then ∃N:St->Hp->Prop,(∀σ' H',N σ' H'->∃m',m'<m/\W m' σ' H')/\tb {D with nx:=N,ct:=N,bk:=D.nx} σ H1 else D.nx σ H1
theorem qU{c:Expr}{body:List Stmt}{tc:TT}{tb:TS}(hp:OS (Jb X.prog X.w) X.A X.env X.xe)(hc:PT X c tc)(hb:Hv X body tb):PS X (.While c body [] pos) (yi tc tb):=by
 intro pins s σ H D I h
 obtain⟨W,⟨m0,w0⟩,turn⟩:=h
 refine wpAny_While (codeAny_whileLoop (fun n s'=>∃σ' H',Inv X pins σ' H' s'/\W n σ' H') ?_ m0 ⟨σ,H,I,w0⟩)
 rintro n s1 ⟨σ1,H1,I1,w1⟩
 refine Lj hp (E7 (hc pins s1 σ1 H1 _ I1 (turn n σ1 H1 w1)) fun b s2 ⟨H2,I2,q2⟩=>?_)
 cases b with
 | true =>
   obtain⟨N,hN,q2⟩:=q2
   rw[if_pos rfl]
   refine Lj hp (E7 (hb pins s2 σ1 H2 _ I2 q2) fun f s3 q3=>?_)
   cases f with
   | next =>
     obtain⟨σ3,H3,I3,n3⟩:=q3
     obtain⟨m',hm,w3⟩:=hN σ3 H3 n3
     exact⟨m',hm,σ3,H3,I3,w3⟩
   | cont =>
     obtain⟨σ3,H3,I3,n3⟩:=q3
     obtain⟨m',hm,w3⟩:=hN σ3 H3 n3
     exact⟨m',hm,σ3,H3,I3,w3⟩
   | brk=>exact q3
   | ret v=>exact q3
 | false =>
   rw[if_neg Je]
   exact MO ⟨σ1,H2,I2,q2⟩
end
structure It where
 go:Nat->Hp->Prop
 yld:Nat->Hp->V->Hp->Prop
 stop:Nat->Hp->Prop
def ji(X:Cx)(pins:List (Addr×Obj))(H:Hp)(b:Addr):Prop :=
 H b=none/\b≠X.env.locals/\b∉X.fs/\(b∈X.ex\/X.s₀.heap.objs.size<=b)/\(∀x c,X.env.cells.lookup x=some c->c≠b)/\∀p∈X.pn++pins,p.1≠b
theorem Inv.fpOk{X:Cx}{σ:St}{H H':Hp}{b:Addr}(I:Inv X pins σ H s)(hb:s.heap.objs.size<=b)(hn:H' b=none):ji X pins H' b:=by
 refine⟨hn,LC (IG I.lt hb),I.nofs hb,.inr (Jr I.sz hb),fun x c e z=>?_,fun p hp z=>?_⟩
 · obtain⟨v,q⟩:=I.cell x c e
   exact absurd (IG q.lt (by rw[z];exact hb)) (JL _)
 · exact absurd (IG (II (I.pin p hp).1) (by rw[z];exact hb)) (JL _)
structure Turn (P:IZ) (w:JN) (K:W.Frag) (tg:Expr) (J:It) (fp:List Addr) (it:Addr) (tn:Nat->Heap->Prop):Prop where
 mem:it∈fp
 obj:∀i h,tn i h->∀b∈fp,∃o,h.get? b=some o/\∀v,o.data ≠ .cell v
 keep:∀i h h',tn i h->(∀b∈fp,∀o,h.get? b=some o->h'.get? b=some o)->tn i h'
 item:∀(X:Cx),X.prog=P->X.w=w->X.K=K->X.calm=true->∀(i:Nat)(pins:List (Addr×Obj))(s:IB)(σ:St)(H:Hp)(E:Iw->IB->Prop),Inv X pins σ H s->(∀b∈fp,ji X pins H b)->tn i s.heap->J.go i H ->
  IT (Jb P w) X.A (MP (.ref it)) (fun r s1=>∃u,r=some u /\
   IT (Jb P w) X.A (KI tg (.ref it) u) (fun _ s2=>∃x H',Inv X pins σ H' s2/\RelV x u/\J.yld i H x H'/\tn (i+1) s2.heap/\∀b∈fp,H' b=none) E s1) E s
 done:∀(X:Cx),X.prog=P->X.w=w->X.K=K->X.calm=true->∀(i:Nat)(pins:List (Addr×Obj))(s:IB)(σ:St)(H:Hp)(E:Iw->IB->Prop),Inv X pins σ H s->(∀b∈fp,ji X pins H b)->tn i s.heap->J.stop i H ->
  IT (Jb P w) X.A (MP (.ref it)) (fun r s1=>r=none/\Inv X pins σ H s1) E s
 self:∀(A:J4)(i:Nat)(s:IB)(Q:Iw->IB->Prop)(E:Iw->IB->Prop),tn i s.heap->Q (.ref it) s->IT (Jb P w) A (O7 (.ref it)) Q E s
abbrev TI:=St->Hp->(It->Hp->Prop)->Prop
def HB(X:Cx)(pins:List (Addr×Obj))(σ:St)(tg:Expr)(R:It->Hp->Prop)(itv:Iw)(s2:IB):Prop :=
 ∃(it:Addr)(fp:List Addr)(tn:Nat->Heap->Prop)(J:It)(H':Hp),itv = .ref it/\Inv X pins σ H' s2/\Turn X.prog X.w X.K tg J fp it tn/\tn 0 s2.heap/\(∀b∈fp,ji X pins H' b)/\R J H'
def PI(X:Cx)(tg iter:Expr)(wi:TI):Prop :=
 ∀ (pins:List (Addr×Obj))(s:IB)(σ:St)(H:Hp)(R:It->Hp->Prop),Inv X pins σ H s->wi σ H R ->
   IT (Jb X.prog X.w) X.A (eval iter X.env) (fun v s1=>IT (Jb X.prog X.w) X.A (O7 v) (HB X pins σ tg R) X.xe s1) X.xe s
theorem mG{M:Model}{o:Obj}{n:String}{vs:Array Iw}{Q:Unit->IB->Prop}(ho:s.heap.get? it=some o)(hc:o.cls = .type n)(hd:o.data = .fields vs)
 (hn:["enumerate", "zip", "dict_itemiterator", "dict_reverseitemiterator", "odict_iterator", "itertools.zip_longest", "itertools.pairwise"].contains n=false)(hQ:Q () s):IT M A (KI tg (.ref it) u) Q E s:=by
 unfold KI
 cases tg<;>first
  | exact IA hQ
  | (cases u<;>first
      | exact IA hQ
      | (refine Io (wpAny_load ho ?_)
         rw[hc,hd]
         show IT M A (if(["enumerate", "zip", "dict_itemiterator", "dict_reverseitemiterator", "odict_iterator", "itertools.zip_longest", "itertools.pairwise"].contains n&&vs[0]?==some (Mq _))=true then _ else _) Q E s
         rw[if_neg (by intro h;rw[hn,Bool.false_and]at h;cases h)]
         exact IA hQ))
def HS(K:W.Frag)(a:Addr):It :=
 ⟨fun i H=>∃xs x,Hj K H a xs/\xs[i]?=some x,fun i H x H'=>H'=H/\∀xs,Hj K H a xs->xs[i]?=some x,fun i H=>∃xs,Hj K H a xs/\xs.length<=i⟩
def HQ(K:W.Frag)(a:Addr):It :=
 ⟨fun i H=>∃xs x,Hi K H a xs/\xs[i]?=some x,fun i H x H'=>H'=H/\∀xs,Hi K H a xs->xs[i]?=some x,fun i H=>∃xs,Hi K H a xs/\xs.length<=i⟩
def HR(lo:Int)(n:Nat):It:=⟨fun i _=>i<n,fun i H x H'=>H'=H/\x = .int (lo+i),fun i _=>n<=i⟩
theorem nH{w:JN}{K:W.Frag}(a it:Addr):Turn P w K tg (HS K a) [it] it (fun i h=>h.IsListIter it a i) where
 mem:=by simp
 obj:=fun i h st b hb=>by
  have e:b=it:=by simpa using hb
  subst e
  obtain⟨o,e,c,d⟩:=st
  exact⟨o,e,fun v z=>by rw[d]at z;cases z⟩
 keep:=fun i h h' st k=>st.at fun o e=>k it (by simp) o e
 item:=by
  intro X hP hw hK hc i pins s σ H E I hf st hg
  subst hP hw hK
  obtain⟨xs,x,hq,hx⟩:=hg
  obtain⟨its,rv,p,hz⟩:=I.list hq
  obtain⟨u,hu,ru⟩:=rv.get hx
  obtain⟨f0,f1,f2,f3,f4,f5⟩:=hf it (by simp)
  refine wpAny_pyNext_list_item st p.isList (x:=u) (by simpa using hu) fun h' st' sb=>?_
  have I1:Inv X pins σ H {s with heap:=h' }:=I.turned (t':=s.toks) (fun b o hb e=>(sb.2 b hb).trans e) f0 f1 f3 f4 f5
  obtain⟨o,e,c,d⟩:=id st'
  exact⟨u,rfl,mG (s:={s with heap:=h' }) e c d (by decide) ⟨x,H,I1,ru,⟨rfl,fun ys hy=>by rw[I.list_inj hy hq];exact hx⟩,st',fun b hb=>(hf b hb).1⟩⟩
 done:=by
  intro X hP hw hK hc i pins s σ H E I hf st hg
  subst hP hw hK
  obtain⟨xs,hq,hx⟩:=hg
  obtain⟨its,rv,p,hz⟩:=I.list hq
  obtain⟨f0,f1,f2,f3,f4,f5⟩:=hf it (by simp)
  have hl:=rv.length
  exact wpAny_pyNext_list_end (I.ok.hd hc) st p.isList (by simp;omega) fun h' eb=>⟨rfl,I.turned (t':=s.toks) (fun b o hb e=>eb b o hb e) f0 f1 f3 f4 f5⟩
 self:=fun _ _ _ _ _ st h=>wpAny_pyIter_listiter st h
theorem lP{w:JN}{K:W.Frag}(a it:Addr):Turn P w K tg (HQ K a) [it] it (fun i h=>h.IsTupleIter it a i) where
 mem:=by simp
 obj:=fun i h st b hb=>by
  have e:b=it:=by simpa using hb
  subst e
  obtain⟨o,e,c,d⟩:=st
  exact⟨o,e,fun v z=>by rw[d]at z;cases z⟩
 keep:=fun i h h' st k=>st.at fun o e=>k it (by simp) o e
 item:=by
  intro X hP hw hK hc i pins s σ H E I hf st hg
  subst hP hw hK
  obtain⟨xs,x,hq,hx⟩:=hg
  obtain⟨its,rv,p,hz⟩:=I.tuple hq
  obtain⟨u,hu,ru⟩:=rv.get hx
  obtain⟨f0,f1,f2,f3,f4,f5⟩:=hf it (by simp)
  refine wpAny_pyNext_tuple_item st (show s.heap.IsTuple a its.toArray from p) (x:=u) (by simpa using hu) fun h' st' sb=>?_
  have I1:Inv X pins σ H {s with heap:=h' }:=I.turned (t':=s.toks) (fun b o hb e=>(sb.2 b hb).trans e) f0 f1 f3 f4 f5
  obtain⟨o,e,c,d⟩:=id st'
  exact⟨u,rfl,mG (s:={s with heap:=h' }) e c d (by decide) ⟨x,H,I1,ru,⟨rfl,fun ys hy=>by rw[I.tuple_inj hy hq];exact hx⟩,st',fun b hb=>(hf b hb).1⟩⟩
 done:=by
  intro X hP hw hK hc i pins s σ H E I hf st hg
  subst hP hw hK
  obtain⟨xs,hq,hx⟩:=hg
  obtain⟨its,rv,p,hz⟩:=I.tuple hq
  obtain⟨f0,f1,f2,f3,f4,f5⟩:=hf it (by simp)
  have hl:=rv.length
  exact wpAny_pyNext_tuple_end (I.ok.hd hc) st (show s.heap.IsTuple a its.toArray from p) (by simp;omega) fun h' eb=>⟨rfl,I.turned (t':=s.toks) (fun b o hb e=>eb b o hb e) f0 f1 f3 f4 f5⟩
 self:=fun _ _ _ _ _ st h=>wpAny_pyIter_tupleiter st h
theorem lQ{w:JN}{K:W.Frag}(it:Addr)(lo:Int)(n:Nat):Turn P w K tg (HR lo n) [it] it (fun i h=>OB h it (lo+(i:Nat)*1) ((n:Int)-(i:Nat)) 1) where
 mem:=by simp
 obj:=fun i h st b hb=>by
  have e:b=it:=by simpa using hb
  subst e
  exact⟨_,st,fun v z=>by
   have z':Data.fields _=Data.cell v:=z
   cases z'⟩
 keep:=fun i h h' st k=>k it (by simp) _ st
 item:=by
  intro X hP hw hK hc i pins s σ H E I hf st hg
  subst hP hw hK
  obtain⟨f0,f1,f2,f3,f4,f5⟩:=hf it (by simp)
  have W:=Walks.range (prog:=X.prog) (w:=X.w) (I.ok.hd hc) it lo 1 n
  refine W.item i s _ _ hg st fun v h' tk hv st' kk=>?_
  obtain⟨t,rfl⟩:=hv
  have I1:Inv X pins σ H {s with heap:=h',toks:=tk}:=I.turned (fun b o hb e=>kk b o (by simpa using hb) e) f0 f1 f3 f4 f5
  refine⟨_,rfl,mG (s:={s with heap:=h',toks:=tk}) (n := "range_iterator") st' rfl rfl (by decide) ⟨.int (lo+i),H,I1,⟨t,?_⟩,⟨rfl,rfl⟩,st',fun b hb=>(hf b hb).1⟩⟩
  rw[MQ]
 done:=by
  intro X hP hw hK hc i pins s σ H E I hf st hg
  subst hP hw hK
  obtain⟨f0,f1,f2,f3,f4,f5⟩:=hf it (by simp)
  exact NT (I.ok.hd hc) st (by have:n<=i:=hg;omega) fun h' eb=>⟨rfl,I.turned (t':=s.toks) (fun b o hb e=>eb b o hb e) f0 f1 f3 f4 f5⟩
 self:=fun _ _ _ _ _ st h=>NU st h
section
variable{X:Cx}{tg:Expr}
def BN(K:W.Frag)(tl:TE):TI:=fun σ H R=>tl σ H fun x H1=>∃a,x = .ref a/\(∃xs,Hj K H1 a xs)/\R (HS K a) H1
def D_(K:W.Frag)(tl:TE):TI:=fun σ H R=>tl σ H fun x H1=>∃a,x = .ref a/\(∃xs,Hi K H1 a xs)/\R (HQ K a) H1
theorem vI{l:Expr}{tl:TE}(hl:PE X l tl):PI X tg l (BN X.K tl):=by
 intro pins s σ H R I h
 refine E7 (hl pins s σ H _ I h) fun v s1 ⟨x,H1,I1,r1,q1⟩=>?_
 obtain⟨a,e,⟨xs,hq⟩,q⟩:=q1
 subst e
 cases r1
 obtain⟨its,rv,p,hz⟩:=I1.list hq
 refine Ny p.isList ?_
 refine⟨s1.heap.objs.size,[s1.heap.objs.size],_,_,H1,rfl,I1.kept (t':=s1.toks) fun b o e=>Iu _ e,nH a _,⟨_,IL _ rfl,rfl,rfl⟩,fun b hb=>?_,q⟩
 have e:b=s1.heap.objs.size:=by simpa using hb
 subst e
 exact I1.fpOk (ID _) (I1.hok.fresh (ID _))
theorem yS{l:Expr}{tl:TE}(hl:PE X l tl):PI X tg l (D_ X.K tl):=by
 intro pins s σ H R I h
 refine E7 (hl pins s σ H _ I h) fun v s1 ⟨x,H1,I1,r1,q1⟩=>?_
 obtain⟨a,e,⟨xs,hq⟩,q⟩:=q1
 subst e
 cases r1
 obtain⟨its,rv,p,hz⟩:=I1.tuple hq
 refine wpAny_pyIter_tuple (show s1.heap.IsTuple a its.toArray from p) ?_
 refine⟨s1.heap.objs.size,[s1.heap.objs.size],_,_,H1,rfl,I1.kept (t':=s1.toks) fun b o e=>Iu _ e,lP a _,⟨_,IL _ rfl,rfl,rfl⟩,fun b hb=>?_,q⟩
 have e:b=s1.heap.objs.size:=by simpa using hb
 subst e
 exact I1.fpOk (ID _) (I1.hok.fresh (ID _))
theorem kP{σ:St}{H:Hp}{R:It->Hp->Prop}{lo hi:Int}{t u v:Tok}{tk:Nat}(I:Inv X pins σ H s)(h1 : -(2^62)<=lo)(h2:lo<2^62)(h3 : -(2^62)<=hi)(h4:hi<2^62)
 (q:R (HR lo (hi-lo).toNat) H):IT (Jb X.prog X.w) X.A (O7 (.ref s.heap.objs.size)) (HB X pins σ tg R) E {s with heap:=s.heap.push {cls:=.type "range", data:=.fields #[.int lo t,.int hi u,.int 1 v]},toks:=tk}:=by
 refine wpAny_pyIter_range (Pr ..) (small_one h1 h2 h3 h4) ?_
 have I1:Inv X pins σ H {s with heap:=s.heap.push {cls:=.type "range", data:=.fields #[.int lo t,.int hi u,.int 1 v]},toks:=tk}:=I.kept fun b o e=>Iu _ e
 refine⟨(s.heap.push {cls:=.type "range", data:=.fields #[.int lo t,.int hi u,.int 1 v]}).objs.size,[(s.heap.push {cls:=.type "range", data:=.fields #[.int lo t,.int hi u,.int 1 v]}).objs.size],_,_,H,rfl,
  I1.kept (t':=tk) fun b o e=>Iu _ e,lQ _ lo (hi-lo).toNat,?_,fun b hb=>?_,q⟩
 · have e1:lo+((0:Nat):Int)*1=lo:=by simp
   have e2:(((hi-lo).toNat:Nat):Int)-((0:Nat):Int)=Lr lo hi 1:=by rw[rangeSize_one];split<;>omega
   show OB _ _ (lo+((0:Nat):Int)*1) ((((hi-lo).toNat:Nat):Int)-((0:Nat):Int)) 1
   rw[e1,e2]
   exact IL _ rfl
 · have e:b=(s.heap.push {cls:=.type "range", data:=.fields #[.int lo t,.int hi u,.int 1 v]}).objs.size:=by simpa using hb
   subst e
   exact I1.fpOk (ID _) (I1.hok.fresh (ID _))
def BK(ta:TA):TI:=fun σ H R=>ta σ H fun vs H1=>∃j:Int,vs=[.int j] /\ -(2^62)<=j/\j<2^62/\R (HR 0 j.toNat) H1
def BJ(ta:TA):TI:=fun σ H R=>ta σ H fun vs H1=>∃i j:Int,vs=[.int i,.int j]/\(-(2^62)<=i/\i<2^62 /\ -(2^62)<=j/\j<2^62)/\R (HR i (j-i).toNat) H1
theorem oJ{a:Expr}{ta:TA}{p:Pos}(hg:Gl X "range")(hm:X.mg "range" = none)(ha:PA X [a] ta)(hs:IC [a] X.env=[(false,eval a X.env)]:=by rfl):PI X tg (.Call (.Name "range" p) [a] [] pos) (BK ta):=by
 intro pins s σ H R I h
 refine Call_ (dn I hg hm O0 (JE (E7 (ha pos pins s σ H _ I h) fun us s1 ⟨vs,H1,I1,r1,q1⟩=>?_) hs rfl))
 obtain⟨j,e,q1,q2,q⟩:=q1
 subst e
 cases r1 with
 | cons r rr =>
   cases rr
   obtain⟨t,rfl⟩:=r
   exact call_range_1 (kP I1 (by omega) (by omega) q1 q2 (by simpa using q))
theorem oI{a b:Expr}{ta:TA}{p:Pos}(hg:Gl X "range")(hm:X.mg "range" = none)(ha:PA X [a,b] ta)(hs:IC [a,b] X.env=[(false,eval a X.env),(false,eval b X.env)]:=by rfl)(hs2:IC [b] X.env=[(false,eval b X.env)]:=by rfl) :
 PI X tg (.Call (.Name "range" p) [a,b] [] pos) (BJ ta):=by
 intro pins s σ H R I h
 refine Call_ (dn I hg hm O0 (JE (E7 (ha pos pins s σ H _ I h) fun us s1 ⟨vs,H1,I1,r1,q1⟩=>?_) (by rw[hs,hs2]) (by rw[hs2];rfl)))
 obtain⟨i,j,e,⟨q1,q2,q3,q4⟩,q⟩:=q1
 subst e
 cases r1 with
 | cons r rr =>
   cases rr with
   | cons r' rr =>
     cases rr
     obtain⟨t,rfl⟩:=r
     obtain⟨t',rfl⟩:=r'
     exact call_range_2 (kP I1 q1 q2 q3 q4 q)
def DW(wi:TI)(g:TG)(tb:TS):TS:=fun D σ H=>wi σ H fun J H1=>∃W:Nat->Nat->St->Hp->Prop,(∃m,W 0 m σ H1)/\∀i m σ H,W i m σ H ->
 (J.stop i H/\D.nx σ H)\/(J.go i H/\∃N:St->Hp->Prop,(∀σ' H',N σ' H'->∃m',m'<m/\W (i+1) m' σ' H')/\∀x H',J.yld i H x H'->g x σ H' fun σ2 H2=>tb {D with nx:=N,ct:=N,bk:=D.nx} σ2 H2)
def eI(fp:List Addr)(h:Heap):List (Addr×Obj):=fp.filterMap fun b=>(h.get? b).map fun o=>(b,o)
theorem bu{b:Addr}{o:Obj}(hb:b∈fp)(e:h.get? b=some o):(b,o)∈eI fp h:=List.mem_filterMap.mpr ⟨b,hb,by rw[e];rfl⟩
theorem oU{p:Addr×Obj}(hp:p∈eI fp h):p.1∈fp/\h.get? p.1=some p.2:=by
 obtain⟨b,hb,e⟩:=List.mem_filterMap.mp hp
 cases q:h.get? b with
 | none=>rw[q]at e;cases e
 | some o =>
   rw[q]at e
   have e':(b,o)=p:=Jh e
   subst e'
   exact⟨hb,q⟩
theorem Inv.pinned{σ:St}{H:Hp}(I:Inv X pins σ H s)(hf:∀b∈fp,ji X pins H b)(ho:∀b∈fp,∃o,s.heap.get? b=some o/\∀v,o.data ≠ .cell v):Inv X (pins++eI fp s.heap) σ H s :=
 I.pins_of fun p hp=>(JR.mp hp).elim (fun z=>I.pin p (IS _ z)) fun z=>by
  obtain⟨hb,e⟩:=oU z
  obtain⟨f0,f1,f2,_⟩:=hf p.1 hb
  obtain⟨o,e',d⟩:=ho p.1 hb
  rw[e]at e';cases e'
  exact⟨e,f0,f1,f2,d⟩
theorem Inv.unpinned{pl:List (Addr×Obj)}{σ:St}{H:Hp}(I:Inv X (pins++pl) σ H s):Inv X pins σ H s:=I.pins_of fun p hp=>I.pin p (IS _ (Oq _ hp))
theorem tE{body:List Stmt}{wi:TI}{g:TG}{tb:TS}(hp:OS (Jb X.prog X.w) X.A X.env X.xe)(hc:X.calm=true)(hi:PI X tg iter wi)(hg:PG X tg g)(hb:Hv X body tb)
 (hs:∀x,Jd iter X.env x=pure x:=by intro _;rfl):PS X (.For tg iter body [] pos) (DW wi g tb):=by
 intro pins s σ H D I h
 refine wpAny_For (E7 (hi pins s σ H _ I h) fun v s1 h1=>E7 h1 fun itv s2 h2=>?_) hs
 obtain⟨it,fp,tn,J,H2,e,I2,T,st2,f2,W,⟨m0,w0⟩,turn⟩:=h2
 subst e
 have stat:∀{H':Hp},(∀b∈fp,H' b=none)->∀b∈fp,ji X pins H' b:=fun hn b hb=>⟨hn b hb,(f2 b hb).2⟩
 refine codeAny_forLoop_any (fun n s'=>∃i σ' H',Inv X pins σ' H' s'/\tn i s'.heap/\(∀b∈fp,H' b=none)/\W i n σ' H') ?_ m0 ⟨0,σ,H2,I2,st2,fun b hb=>(f2 b hb).1,w0⟩
 rintro n s3 ⟨i,σ3,H3,I3,st3,fr3,w3⟩
 rcases turn i n σ3 H3 w3 with⟨stop,qn⟩|⟨go,N,hN,step⟩
 · refine Lj hp (E7 (T.done X rfl rfl rfl hc i pins s3 σ3 H3 X.xe I3 (stat fr3) st3 stop) fun r s4 ⟨hr,I4⟩=>?_)
   subst hr
   exact MO ⟨σ3,H3,I4,qn⟩
 · refine Lj hp (E7 (T.item X rfl rfl rfl hc i pins s3 σ3 H3 X.xe I3 (stat fr3) st3 go) fun r s4 ⟨u,hr,h4⟩=>?_)
   subst hr
   refine Lj hp (E7 h4 fun _ s5 ⟨x,H5,I5,r5,y5,st5,fr5⟩=>?_)
   have I5':=I5.pinned (stat fr5) (T.obj _ _ st5)
   refine Lj hp (E7 (hg _ s5 σ3 H5 x u _ I5' r5 (step x H5 y5)) fun _ s6 ⟨σ6,H6,I6,q6⟩=>?_)
   refine Lj hp (E7 (hb _ s6 σ6 H6 _ I6 q6) fun f s7 q7=>?_)
   have NV:∀{σ7:St}{H7:Hp},Inv X (pins++eI fp s5.heap) σ7 H7 s7->N σ7 H7->∃m,m<n/\∃i σ' H',Inv X pins σ' H' s7/\tn i s7.heap/\(∀b∈fp,H' b=none)/\W i m σ' H':=fun{σ7 H7} I7 n7=>by
    obtain⟨m',hm,w7⟩:=hN σ7 H7 n7
    refine⟨m',hm,i+1,σ7,H7,I7.unpinned,T.keep _ _ _ st5 fun b hb o e=>(I7.pin (b,o) (IS _ (IS _ (bu hb e)))).1,fun b hb=>?_,w7⟩
    obtain⟨o,e,d⟩:=T.obj _ _ st5 b hb
    exact(I7.pin (b,o) (IS _ (IS _ (bu hb e)))).2.1
   cases f with
   | next=>obtain⟨σ7,H7,I7,n7⟩:=q7;exact NV I7 n7
   | cont=>obtain⟨σ7,H7,I7,n7⟩:=q7;exact NV I7 n7
   | brk=>obtain⟨σ7,H7,I7,q7⟩:=q7;exact⟨σ7,H7,I7.unpinned,q7⟩
   | ret v=>obtain⟨x7,σ7,H7,I7,r7,q7⟩:=q7;exact⟨x7,σ7,H7,I7.unpinned,r7,q7⟩
end
abbrev R2:=V->V->Hp->VK->Prop
def HF(X:Cx)(f:Iw->Iw->Sem Iw)(r:R2):Prop :=
 ∀ (pins:List (Addr×Obj))(s:IB)(σ:St)(H:Hp)(x y:V)(v u:Iw)(Q:VK),Inv X pins σ H s->RelV x v->RelV y u->r x y H Q ->
   IT (Jb X.prog X.w) X.A (f v u) (EP X pins σ Q) X.xe s
def G8(X:Cx)(f:Iw->Sem Iw)(r:V->Hp->VK->Prop):Prop :=
 ∀ (pins:List (Addr×Obj))(s:IB)(σ:St)(H:Hp)(x:V)(v:Iw)(Q:VK),Inv X pins σ H s->RelV x v->r x H Q ->
   IT (Jb X.prog X.w) X.A (f v) (EP X pins σ Q) X.xe s
def c_(X:Cx)(f:Iw)(r:List V->Hp->VK->Prop):Prop :=
 ∀ (pins:List (Addr×Obj))(s:IB)(σ:St)(H:Hp)(xs:List V)(us:List Iw)(Q:VK),Inv X pins σ H s->bQ xs us->r xs H Q ->
   IT (Jb X.prog X.w) X.A (call f us) (EP X pins σ Q) X.xe s
def Fd(r:R2)(ta tb:TE):TE:=fun σ H Q=>ta σ H fun x H1=>tb σ H1 fun y H2=>r x y H2 Q
def E_(r:V->Hp->VK->Prop)(ta:TE):TE:=fun σ H Q=>ta σ H fun x H1=>r x H1 Q
def rI(C:Int->Int->Prop)(g:Int->Int->V):R2:=fun x y H Q=>∃i j,x = .int i/\y = .int j/\C i j/\Q (g i j) H
def FI(g:Int->Int->V):R2:=fun x y H Q=>∃i j,x = .int i/\y = .int j/\Q (g i j) H
def rU(g:Int->V):V->Hp->VK->Prop:=fun x H Q=>∃i,x = .int i/\Q (g i) H
section
variable{X:Cx}{a b c:Expr}{ta tb tc:TE}{pos:Pos}
theorem B_(ha:PE X a ta)(hb:PE X b tb){σ:St}{H:Hp}{R:V->V->Hp->Prop}(I:Inv X pins σ H s)
 (h:ta σ H fun x H1=>tb σ H1 fun y H2=>R x y H2)
 (hf:∀v u s2 x y H2,Inv X pins σ H2 s2->RelV x v->RelV y u->R x y H2->IT (Jb X.prog X.w) X.A (f v u) Q X.xe s2) :
 IT (Jb X.prog X.w) X.A (eval a X.env) (fun v s₁=>IT (Jb X.prog X.w) X.A (eval b X.env) (fun u s₂=>IT (Jb X.prog X.w) X.A (f v u) Q X.xe s₂) X.xe s₁) X.xe s:=by
 refine E7 (ha pins s σ H _ I h) fun v s1 ⟨x,H1,I1,r1,q1⟩=>?_
 refine E7 (hb pins s1 σ H1 _ I1 q1) fun u s2 ⟨y,H2,I2,r2,q2⟩=>?_
 exact hf v u s2 x y H2 I2 r1 r2 q2
theorem yU{op:OR}{r:R2}(ho:HF X (Lg op) r)(ha:PE X a ta)(hb:PE X b tb):PE X (.BinOp a op b pos) (Fd r ta tb):=by
 intro pins s σ H Q I h
 exact wpAny_BinOp (B_ ha hb I h fun v u s2 x y H2 I2 rx ry q=>ho pins s2 σ H2 x y v u Q I2 rx ry q)
theorem yT{op:UnaryOp}{r:V->Hp->VK->Prop}(ho:G8 X (unaryOp op) r)(ha:PE X a ta):PE X (.UnaryOp op a pos) (E_ r ta):=by
 intro pins s σ H Q I h
 exact UnaryOp_ (E7 (ha pins s σ H _ I h) fun v s1 ⟨x,H1,I1,r1,q1⟩=>ho pins s1 σ H1 x v Q I1 r1 q1)
theorem FW{C:Int->Int->Prop}{g:Int->Int->Int}
 (rule:∀(i j:Int)(t u:Tok)(s:IB)(Q:Iw->IB->Prop)(E:Iw->IB->Prop),C i j->Q (.int (g i j) s.toks) {s with toks:=s.toks+1}->IT (Jb X.prog X.w) X.A (f (.int i t) (.int j u)) Q E s) :
 HF X f (rI C fun i j=>.int (g i j)):=by
 intro pins s σ H x y v u Q I rx ry h
 obtain⟨i,j,rfl,rfl,hc,q⟩:=h
 obtain⟨t,rfl⟩:=rx
 obtain⟨t',rfl⟩:=ry
 exact rule i j t t' s _ _ hc ⟨.int (g i j),H,I.tok _,⟨_,rfl⟩,q⟩
theorem Dm{g:Int->Int->Int}
 (rule:∀(i j:Int)(t u:Tok)(s:IB)(Q:Iw->IB->Prop)(E:Iw->IB->Prop),Q (.int (g i j) s.toks) {s with toks:=s.toks+1}->IT (Jb X.prog X.w) X.A (f (.int i t) (.int j u)) Q E s) :
 HF X f (FI fun i j=>.int (g i j)):=by
 intro pins s σ H x y v u Q I rx ry h
 obtain⟨i,j,rfl,rfl,q⟩:=h
 obtain⟨t,rfl⟩:=rx
 obtain⟨t',rfl⟩:=ry
 exact rule i j t t' s _ _ ⟨.int (g i j),H,I.tok _,⟨_,rfl⟩,q⟩
theorem Dn{g:Int->Int->Bool}
 (rule:∀(i j:Int)(t u:Tok)(s:IB)(Q:Iw->IB->Prop)(E:Iw->IB->Prop),Q (.bool (g i j)) s->IT (Jb X.prog X.w) X.A (f (.int i t) (.int j u)) Q E s) :
 HF X f (FI fun i j=>.bl (g i j)):=by
 intro pins s σ H x y v u Q I rx ry h
 obtain⟨i,j,rfl,rfl,q⟩:=h
 obtain⟨t,rfl⟩:=rx
 obtain⟨t',rfl⟩:=ry
 exact rule i j t t' s _ _ ⟨.bl (g i j),H,I,rfl,q⟩
def DB(i j:Int):Prop:=0<j/\j<1073741824
def DA(i j:Int):Prop:=0<=j/\j<=1000000/\i.natAbs<2^64
def Em(i j:Int):Prop:=(-(2^64)<i/\i<2^64)\/(-(2^64)<j/\j<2^64)
theorem Em.ok{i j:Int}(h:Em i j):IntMulOk i j:=by
 rcases h with⟨h1,h2⟩|⟨h1,h2⟩
 · exact .of_left (intBits_le_64 h1 h2)
 · exact .of_right (intBits_le_64 h1 h2)
theorem tM:HF X (Lg .Add) (FI fun i j=>.int (i+j)):=Dm fun _ _ _ _ _ _ _ q=>add_int q
theorem zc:HF X (Lg .Sub) (FI fun i j=>.int (i-j)):=Dm fun _ _ _ _ _ _ _ q=>sub_int q
theorem vP:HF X (Lg .Mod) (rI (fun _ j=>j≠0) fun i j=>.int (i.fmod j)):=FW fun _ _ _ _ _ _ _ hc q=>mod_int' hc q
theorem ze:HF X (Lg .Pow) (rI DA fun i j=>.int (i^j.toNat)):=FW fun _ _ _ _ _ _ _ hc q=>pow_int_small hc.1 hc.2.1 hc.2.2 q
theorem E2{f:Iw->Sem Iw}{g:Int->Int}
 (rule:∀(i:Int)(t:Tok)(s:IB)(Q:Iw->IB->Prop)(E:Iw->IB->Prop),Q (.int (g i) s.toks) {s with toks:=s.toks+1}->IT (Jb X.prog X.w) X.A (f (.int i t)) Q E s) :
 G8 X f (rU fun i=>.int (g i)):=by
 intro pins s σ H x v Q I rx h
 obtain⟨i,rfl,q⟩:=h
 obtain⟨t,rfl⟩:=rx
 exact rule i t s _ _ ⟨.int (g i),H,I.tok _,⟨_,rfl⟩,q⟩
theorem sW:G8 X (unaryOp .USub) (rU fun i=>.int (-i)):=E2 fun _ _ _ _ _ q=>neg_int q
end
def De:V->V->Bool
 | .non,.non=>true | .non,.int _=>true | .int _,.non=>true | .non,.bl _=>true | .bl _,.non=>true | .non,.str _=>true | .str _,.non=>true
 | .int _,.int _=>true | .bl _,.bl _=>true | .str _,.str _=>true | .byt _,.byt _=>true
 | .int _,.str _=>true | .str _,.int _=>true | .bl _,.str _=>true | .str _,.bl _=>true
 | _,_=>false
def FJ:R2:=fun x y H Q=>De x y=true/\Q (.bl (decide (x=y))) H
def FG:R2:=fun x y H Q=>De x y=true/\Q (.bl (!decide (x=y))) H
theorem pM{i j:Int}:decide (V.int i=V.int j)=(i==j):=by
 rw[LD]
 simp
theorem t6{i j:Bool}:decide (V.bl i=V.bl j)=(i==j):=by
 rw[LD]
 simp
theorem pL{i j:Str}:decide (V.str i=V.str j)=(i==j):=by
 rw[LD]
 simp
theorem pN{i j:Array UInt8}:decide (V.byt i=V.byt j)=(i.toList==j.toList):=by
 rw[LD]
 cases i
 cases j
 simp
section
variable{X:Cx}{a b c:Expr}{ta tb tc:TE}{pos:Pos}
theorem aW{σ:St}{H:Hp}{Q:VK}{k k':Bool}(I:Inv X pins σ H s)(q:Q (.bl k) H)(e:k=k'):EP X pins σ Q (.bool k') s:=by
 subst e
 exact⟨.bl k,H,I,rfl,q⟩
theorem Bs:HF X (KU .Eq) FJ:=by
 intro pins s σ H x y v u Q I rx ry h
 obtain⟨hs,q⟩:=h
 cases x with
 | non =>
   cases rx
   cases y with
   | non=>cases ry;exact PySem.EqNone.eq_none_none (aW I q (by simp))
   | bl j=>cases ry;exact PySem.EqNone.eq_none_bool (aW I q (by simp))
   | int j=>obtain⟨t',rfl⟩:=ry;exact PySem.EqNone.eq_none_int (aW I q (by simp))
   | str j=>obtain⟨t',rfl⟩:=ry;exact PySem.EqNone.eq_none_str (aW I q (by simp))
   | _=>exact absurd (show false=true from hs) Je
 | bl i =>
   cases rx
   cases y with
   | non=>cases ry;exact PySem.EqNone.eq_bool_none (aW I q (by simp))
   | bl j=>cases ry;exact eq_bool (aW I q t6)
   | str j=>obtain⟨t',rfl⟩:=ry;exact PySem.EqMixed.eq_bool_str (aW I q (by simp))
   | _=>exact absurd (show false=true from hs) Je
 | int i =>
   obtain⟨t,rfl⟩:=rx
   cases y with
   | non=>cases ry;exact PySem.EqNone.eq_int_none (aW I q (by simp))
   | int j=>obtain⟨t',rfl⟩:=ry;exact eq_int (aW I q pM)
   | str j=>obtain⟨t',rfl⟩:=ry;exact PySem.EqMixed.eq_int_str (aW I q (by simp))
   | _=>exact absurd (show false=true from hs) Je
 | str i =>
   obtain⟨t,rfl⟩:=rx
   cases y with
   | non=>cases ry;exact PySem.EqNone.eq_str_none (aW I q (by simp))
   | bl j=>cases ry;exact PySem.EqMixed.eq_str_bool (aW I q (by simp))
   | int j=>obtain⟨t',rfl⟩:=ry;exact PySem.EqMixed.eq_str_int (aW I q (by simp))
   | str j=>obtain⟨t',rfl⟩:=ry;exact eq_str (aW I q pL)
   | _=>exact absurd (show false=true from hs) Je
 | byt i =>
   obtain⟨t,rfl⟩:=rx
   cases y with
   | byt j=>obtain⟨t',rfl⟩:=ry;exact W.eq_bytes (aW I q pN)
   | _=>exact absurd (show false=true from hs) Je
 | _=>cases y<;>exact absurd (show false=true from hs) Je
theorem zf:HF X (KU .NotEq) FG:=by
 intro pins s σ H x y v u Q I rx ry h
 obtain⟨hs,q⟩:=h
 cases x with
 | non =>
   cases rx
   cases y with
   | non=>cases ry;exact PySem.EqNone.ne_none_none (aW I q (by simp))
   | bl j=>cases ry;exact PySem.EqNone.ne_none_bool (aW I q (by simp))
   | int j=>obtain⟨t',rfl⟩:=ry;exact PySem.EqNone.ne_none_int (aW I q (by simp))
   | str j=>obtain⟨t',rfl⟩:=ry;exact PySem.EqNone.ne_none_str (aW I q (by simp))
   | _=>exact absurd (show false=true from hs) Je
 | bl i =>
   cases rx
   cases y with
   | non=>cases ry;exact PySem.EqNone.ne_bool_none (aW I q (by simp))
   | bl j=>cases ry;exact ne_bool (aW I q (congrArg not t6))
   | str j=>obtain⟨t',rfl⟩:=ry;exact PySem.EqMixed.ne_bool_str (aW I q (by simp))
   | _=>exact absurd (show false=true from hs) Je
 | int i =>
   obtain⟨t,rfl⟩:=rx
   cases y with
   | non=>cases ry;exact PySem.EqNone.ne_int_none (aW I q (by simp))
   | int j=>obtain⟨t',rfl⟩:=ry;exact ne_int (aW I q (congrArg not pM))
   | str j=>obtain⟨t',rfl⟩:=ry;exact PySem.EqMixed.ne_int_str (aW I q (by simp))
   | _=>exact absurd (show false=true from hs) Je
 | str i =>
   obtain⟨t,rfl⟩:=rx
   cases y with
   | non=>cases ry;exact PySem.EqNone.ne_str_none (aW I q (by simp))
   | bl j=>cases ry;exact PySem.EqMixed.ne_str_bool (aW I q (by simp))
   | int j=>obtain⟨t',rfl⟩:=ry;exact PySem.EqMixed.ne_str_int (aW I q (by simp))
   | str j=>obtain⟨t',rfl⟩:=ry;exact ne_str (aW I q (congrArg not pL))
   | _=>exact absurd (show false=true from hs) Je
 | byt i =>
   obtain⟨t,rfl⟩:=rx
   cases y with
   | byt j=>obtain⟨t',rfl⟩:=ry;exact W.ne_bytes (aW I q (congrArg not pN))
   | _=>exact absurd (show false=true from hs) Je
 | _=>cases y<;>exact absurd (show false=true from hs) Je
theorem vQ:HF X (KU .Lt) (FI fun i j=>.bl (decide (i<j))):=Dn fun _ _ _ _ _ _ _ q=>lt_int q
theorem hG:HF X (KU .Gt) (FI fun i j=>.bl (decide (j<i))):=Dn fun _ _ _ _ _ _ _ q=>gt_int q
theorem zg:HF X (KU .Is) (fun x y H Q=>y = .non/\Q (.bl (decide (x = .non))) H):=by
 intro pins s σ H x y v u Q I rx ry h
 obtain⟨rfl,q⟩:=h
 cases ry
 refine is_none_gen (aW I q ?_)
 cases x<;>first
  | (cases rx;rfl)
  | (obtain⟨t,rfl⟩:=rx;rfl)
theorem oS:HF X (KU .IsNot) (fun x y H Q=>y = .non/\Q (.bl (!decide (x = .non))) H):=by
 intro pins s σ H x y v u Q I rx ry h
 obtain⟨rfl,q⟩:=h
 cases ry
 refine isnot_none_gen (aW I q ?_)
 cases x<;>first
  | (cases rx;rfl)
  | (obtain⟨t,rfl⟩:=rx;rfl)
theorem HF.or{r r':R2}(h:HF X f r)(h':HF X f r'):HF X f (fun x y H Q=>r x y H Q\/r' x y H Q):=by
 intro pins s σ H x y v u Q I rx ry q
 rcases q with q|q
 · exact h pins s σ H x y v u Q I rx ry q
 · exact h' pins s σ H x y v u Q I rx ry q
theorem aT(b:Expr)(h:op ≠ .In:=by decide)(h2:op ≠ .NotIn:=by decide):Kx op b=false:=by
 have e1:(op==OZ.In)=false:=by cases op<;>first|rfl|exact absurd rfl h
 have e2:(op==OZ.NotIn)=false:=by cases op<;>first|rfl|exact absurd rfl h2
 cases b<;>simp[Kx,e1,e2]
theorem oQ{r:R2}(ho:HF X (KU op) r)(ha:PE X a ta)(hb:PE X b tb)(hm:Kx op b=false):PE X (.Compare a [op] [b] pos) (Fd r ta tb):=by
 intro pins s σ H Q I h
 exact wpAny_Compare1 (B_ ha hb I h fun v u s2 x y H2 I2 rx ry q=>ho pins s2 σ H2 x y v u Q I2 rx ry q) hm
def A7(t:TE):TT:=fun σ H Q=>t σ H fun x H'=>∃k,x = .bl k/\Q k H'
theorem oC{r:R2}(ho:HF X (KU op) r)(ha:PE X a ta)(hb:PE X b tb)(hm:Kx op b=false):PT X (.Compare a [op] [b] pos) (A7 (Fd r ta tb)):=by
 intro pins s σ H Q I h
 refine N3 (E7 (ha pins s σ H _ I h) fun v s1 ⟨x,H1,I1,r1,q1⟩=>E7 (hb pins s1 σ H1 _ I1 q1) fun u s2 ⟨y,H2,I2,r2,q2⟩ =>
  E7 (ho pins s2 σ H2 x y v u _ I2 r1 r2 q2) fun c s3 ⟨z,H3,I3,r3,k,e,q3⟩=>?_) hm
 subst e
 cases r3
 exact Nw ⟨H3,I3,q3⟩
theorem iS:(sizeLine:Nat)<2^63:=by rw[Ps];decide
theorem vals1{x:V}{us:List Iw}(r:bQ [x] us):∃u,us=[u]/\RelV x u:=by
 cases r with
 | cons r1 r2=>cases r2;exact⟨_,rfl,r1⟩
theorem vals2{x y:V}{us:List Iw}(r:bQ [x,y] us):∃u w',us=[u,w']/\RelV x u/\RelV y w':=by
 cases r with
 | cons r1 r2 =>
   cases r2 with
   | cons r3 r4=>cases r4;exact⟨_,_,rfl,r1,r3⟩
theorem sB:c_ X (.builtin "abs") (fun xs H Q=>∃i,xs=[.int i]/\Q (.int (if i<0 then -i else i)) H):=by
 intro pins s σ H xs us Q I r h
 obtain⟨i,rfl,q⟩:=h
 obtain⟨u,rfl,t,rfl⟩:=vals1 r
 exact call_abs_int fun u tk=>⟨.int (if i<0 then -i else i),H,I.tok _,⟨_,rfl⟩,q⟩
theorem qg(hc:X.calm=true):c_ X (.builtin "max") (fun xs H Q=>∃i j,xs=[.int i,.int j]/\Q (.int (if j>i then j else i)) H):=by
 intro pins s σ H xs us Q I r h
 obtain⟨i,j,rfl,q⟩:=h
 obtain⟨u,w',rfl,⟨t,rfl⟩,⟨t',rfl⟩⟩:=vals2 r
 refine max_two_ints (I.ok.hd hc) fun h' tk k=>⟨_,H,I.kept k,?_,q⟩
 by_cases hj:j>i
 · rw[if_pos hj,if_pos hj];exact⟨_,rfl⟩
 · rw[if_neg hj,if_neg hj];exact⟨_,rfl⟩
theorem qf(hc:X.calm=true):c_ X (.builtin "min") (fun xs H Q=>∃i j,xs=[.int i,.int j]/\Q (.int (if j<i then j else i)) H):=by
 intro pins s σ H xs us Q I r h
 obtain⟨i,j,rfl,q⟩:=h
 obtain⟨u,w',rfl,⟨t,rfl⟩,⟨t',rfl⟩⟩:=vals2 r
 refine min_two_ints (I.ok.hd hc) fun h' tk k=>⟨_,H,I.kept k,?_,q⟩
 by_cases hj:j<i
 · rw[if_pos hj,if_pos hj];exact⟨_,rfl⟩
 · rw[if_neg hj,if_neg hj];exact⟨_,rfl⟩
theorem ja:c_ X (.type "int") (fun xs H Q=>(∃i,xs=[.int i]/\Q (.int i) H)\/∃k,xs=[.bl k]/\Q (.int (if k then 1 else 0)) H):=by
 intro pins s σ H xs us Q I r h
 rcases h with⟨i,rfl,q⟩|⟨k,rfl,q⟩
 · obtain⟨u,rfl,t,rfl⟩:=vals1 r
   exact call_int_int ⟨.int i,H,I,⟨_,rfl⟩,q⟩
 · obtain⟨u,rfl,r1⟩:=vals1 r
   cases r1
   exact call_int_bool ⟨.int (if k then 1 else 0),H,I.tok _,⟨_,rfl⟩,q⟩
theorem jX:c_ X (.builtin "divmod") (fun xs H Q=>∃i j,xs=[.int i,.int j]/\DB i j/\∀p,H p=none->Q (.ref p) (upd H p (.tup [.int (i / j),.int (i%j)]))):=by
 intro pins s σ H xs us Q I r h
 obtain⟨i,j,rfl,⟨h1,h2⟩,q⟩:=h
 obtain⟨u,w',rfl,⟨t,rfl⟩,⟨t',rfl⟩⟩:=vals2 r
 refine divmod_int (by omega) ?_ (.inl (PyProof.noPylong_small (by omega)))
 rw[Ko i (by omega),LW i (by omega)]
 have hn:H s.heap.objs.size=none:=I.hok.fresh (ID _)
 refine⟨.ref s.heap.objs.size,_,?_,rfl,q _ hn⟩
 refine I.laid (fun b o e=>Iu _ e) (ID _) ⟨by simp only[Ju,LF];rw[Ps];decide,[.int (i / j) s.toks,.int (i%j) (s.toks+1)],.cons ⟨_,rfl⟩ (.cons ⟨_,rfl⟩ .nil),?_⟩
 exact⟨_,IL s.heap rfl,rfl,⟨0,rfl⟩,rfl⟩
end
structure ObjM (h:Heap) (x dx C:Addr) (mA:Str->Option Iw):Prop where
 obj:h.get? x=some (W.instObj C dx)
 ns:h.Ns1 dx mA
 ne:dx≠x
section
variable{prog:IZ}{w:JN}{A:J4}{E:Iw->IB->Prop}{s:IB}{K:W.Frag}{x dx C f:Addr}{mA:Str->Option Iw}{name:Str}{v:Iw}
end
def putF(f:Str)(v:V):List (Str×V)->List (Str×V)
 | []=>[(f,v)]
 | (g,x)::r=>if g=f then(g,v)::r else(g,x)::putF f v r
theorem ug.some_of{v:V}{o:Option Iw}(r:ug (some v) o):∃u,o=some u/\RelV v u:=by
 cases o with
 | none=>exact(show False from r).elim
 | some u=>exact⟨u,rfl,r⟩
section
variable{P:IZ}{w:JN}{H H':Hp}{h h':Heap}{a C dx:Addr}{fs fs':List (Str×V)}
theorem pq(hok:HZ P w H h)(e:H a=some (.ins C dx fs)):∃mA,ObjM h a dx C mA/\(∀f,ug (fs.lookup f) (mA f))/\PySem.Within mA (fs.map (·.1))/\fs.length<=1000/\H dx=some (.own a):=by
 obtain⟨d,z,ne,ob,mA,n,r,q⟩:=(show cz P w H h a (.ins C dx fs)from hok a _ e)
 exact⟨mA,⟨ob,n,ne⟩,r,q,z,d⟩
end
section
variable{X:Cx}{pins:List (Addr×Obj)}{σ:St}{H:Hp}{s:IB}{a C dx:Addr}{fs:List (Str×V)}{f:Str}{v:V}{A:J4}{E:Iw->IB->Prop}
end
section
variable{X:Cx}{o e value:Expr}{f:Str}{pos pos' tpos:Pos}{ta tv:TE}
end
section
variable{X:Cx}{pins:List (Addr×Obj)}{σ:St}{H:Hp}{s:IB}{A:J4}{E:Iw->IB->Prop}{Q:Iw->IB->Prop}{c:Iw}{b:Bool}
end
structure Room (k:Nat) (A:J4):Prop where
 hd:A.handled=none
 dp:A.depth+3*k+5<recursionLimit
 un:A.units+16*k+200<O1
 gd:A.guards=some []
theorem Room.mono{k:Nat}(r:Room k A)(h:j<=k):Room j A:=⟨r.hd,by have:=r.dp;omega,by have:=r.un;omega,r.gd⟩
theorem Room.deeper{k:Nat}(r:Room (k+1) A)(env:Env):Room k (A.deeper env) :=
 ⟨r.hd,by have:=r.dp;show A.depth+1+3*k+5<_;omega,by have:=r.un;show A.units+3+16*k+200<_;omega,r.gd⟩
theorem Room.in1{k:Nat}(r:Room (k+1) A):Room k A.in1 :=
 ⟨r.hd,by have:=r.dp;show A.depth+3*k+5<_;omega,by have:=r.un;show A.units+1+16*k+200<_;omega,r.gd⟩
theorem Room.depth{k:Nat}(r:Room k A):A.depth<recursionLimit:=by have:=r.dp;omega
theorem Room.units{k:Nat}(r:Room k A):A.units+64<O1:=by have:=r.un;omega
def uX:TA:=fun _ H Q=>Q [] H
def gS(ta:TE)(tr:TA):TA:=fun σ H Q=>ta σ H fun x H1=>tr σ H1 fun xs H2=>Q (x::xs) H2
section
variable{X:Cx}{e:Expr}{es:List Expr}{te:TE}{t:TA}{pos:Pos}
theorem dM:PA X [] uX:=fun _ _ _ _ H Q I h=>Calls.spliced_nil ⟨[],H,I,.nil,h⟩
theorem bT(ha:PE X e te)(hr:PA X es t)(hs:IC (e::es) X.env=(false,eval e X.env)::IC es X.env:=by rfl):PA X (e::es) (gS te t):=by
 intro pos pins s σ H Q I h
 rw[hs]
 show IT _ _ (spliced ((false,eval e X.env)::Kh pos (IC es X.env))) _ _ s
 refine Calls.spliced_cons (E7 (ha pins s σ H _ I h) fun u s1 ⟨x,H1,I1,r1,q1⟩=>?_)
 exact E7 (hr pos pins s1 σ H1 _ I1 q1) fun us s2 ⟨xs,H2,I2,r2,q2⟩=>⟨x::xs,H2,I2,.cons r1 r2,q2⟩
def DO(t:TA):TE:=fun σ H Q=>t σ H fun xs H1=>xs.length<=sizeLine/\∀p,H1 p=none->Q (.ref p) (upd H1 p (.tup xs))
def DT(t:TA):TE:=fun σ H Q=>t σ H fun xs H1=>xs.length<=sizeLine/\∀p,H1 p=none->Q (.ref p) (upd H1 p (.lst xs))
theorem oN{x1}(h:PA X es t):PE X (.Tuple es x1 pos) (DO t):=by
 intro pins s σ H Q I hq
 refine wpAny_Tuple_spliced (E7 (h pos pins s σ H _ I hq) fun us s1 ⟨xs,H1,I1,r,z,q⟩=>⟨by rw[<- r.length];exact z,?_⟩)
 have hf:H1 s1.heap.objs.size=none:=I1.hok.fresh (ID _)
 refine⟨.ref s1.heap.objs.size,upd H1 s1.heap.objs.size (.tup xs),I1.laid (t':=s1.toks) (fun b u e=>Iu _ e) (ID _) ?_,rfl,q _ hf⟩
 exact⟨z,us,r,qt.new _ _⟩
theorem tI(h:PA X es t):PE X (.List es pos) (DT t):=by
 intro pins s σ H Q I hq
 refine wpAny_List_spliced (E7 (h pos pins s σ H _ I hq) fun us s1 ⟨xs,H1,I1,r,z,q⟩=>⟨by rw[<- r.length];exact z,?_⟩)
 have hf:H1 s1.heap.objs.size=none:=I1.hok.fresh (ID _)
 refine⟨.ref s1.heap.objs.size,upd H1 s1.heap.objs.size (.lst xs),I1.laid (t':=s1.toks) (fun b u e=>Iu _ e) (ID _) ?_,rfl,q _ hf⟩
 exact⟨z,us,0,r,IL _ rfl⟩
end
abbrev Sp:=List V->Hp->VK->XK->Prop
abbrev Ia:=List Env->Hp->IB->XK->Iw->IB->Prop
structure Env0 (P:IZ) (w:JN) (K:W.Frag) (mg:Str->Option Iw) (base:Heap) (A:J4) (outer:List Env) (s:IB) (H:Hp):Prop where
 frames:A.frames=some outer
 mod:Mod K mg base
 bs:∀b o,base.get? b=some o->s.heap.get? b=some o/\H b=none
 bsz:base.objs.size<=s.heap.objs.size
 funs:s.heap.FunFrames base outer
 frf:∀b∈frs outer,H b=none
 hok:HZ P w H s.heap
 bare:Oy s.gens
def CE(outer:List Env)(P:IZ)(w:JN)(H:Hp)(s:IB)(Q:VK)(u:Iw)(s':IB):Prop :=
 ∃v H',s'.os=s.os/\Oy s'.gens/\Un (frs outer) [] H H' s.heap s'.heap/\HZ P w H' s'.heap/\RelV v u/\Q v H'
def CR(CX:Ia)(outer:List Env)(P:IZ)(w:JN)(H:Hp)(s:IB)(Q:VK)(E:XK)(r:Pt)(s':IB):Prop :=
 match r with
 | .ok (.ret u)=>CE outer P w H s Q u s'
 | .ok _=>False
 | .error e=>CX outer H s E e s'
structure FnOk (P:IZ) (w:JN) (K:W.Frag) (mg:Str->Option Iw) (base:Heap) (CX:Ia) (k:Nat) (f:Addr) (fd:KO) (ps:List Str) (sp:Sp):Prop where
 len:∀vs H Q E,sp vs H Q E->vs.length=ps.length
 run:∀(A:J4)(outer:List Env)(s:IB)(H:Hp)(args:Args)(us:List Iw)(vs:List V)(Q:VK)(E:XK),Room k A->Env0 P w K mg base A outer s H->Pu s fd args (ps.zip us)->bQ vs us->sp vs H Q E ->
  KZ (Jb P w) A (.call (.ref f) args) (CR CX outer P w H s Q E) s
theorem FnOk.mono{P:IZ}{w:JN}{K:W.Frag}{mg:Str->Option Iw}{base:Heap}{CX:Ia}{j k:Nat}{f:Addr}{fd:KO}{ps:List Str}{sp:Sp}(F:FnOk P w K mg base CX j f fd ps sp)(h:j<=k) :
 FnOk P w K mg base CX k f fd ps sp:=⟨F.len,fun A outer s H args us vs Q E hr=>F.run A outer s H args us vs Q E (hr.mono h)⟩
theorem FnOk.imp{w:JN}{K:W.Frag}{mg:Str->Option Iw}{CX:Ia}{k:Nat}{f:Addr}{ps:List Str}{sp sp':Sp}(F:FnOk P w K mg base CX k f fd ps sp)
 (h:∀vs H Q E,sp' vs H Q E->sp vs H Q E):FnOk P w K mg base CX k f fd ps sp' :=
 ⟨fun vs H Q E q=>F.len vs H Q E (h _ _ _ _ q),fun A outer s H args us vs Q E hr he hb hv hs=>F.run A outer s H args us vs Q E hr he hb hv (h _ _ _ _ hs)⟩
theorem Env0.in1{w:JN}{K:W.Frag}{mg:Str->Option Iw}{outer:List Env}{H:Hp}(e:Env0 P w K mg base A outer s H) :
 Env0 P w K mg base A.in1 outer s H:=⟨e.frames,e.mod,e.bs,e.bsz,e.funs,e.frf,e.hok,e.bare⟩
section
variable{X:Cx}{pins:List (Addr×Obj)}{σ:St}{H:Hp}{s s':IB}
theorem Inv.env0(I:Inv X pins σ H s):Env0 X.prog X.w X.K X.mg X.base X.A X.stack s H :=
 ⟨I.ok.frames,I.ok.mod,I.bs,Jr I.ok.bsz I.sz,I.stack,I.stkFree,I.hok,I.bare⟩
theorem Inv.after{Q:VK}(I:Inv X pins σ H s)(h:CE X.stack X.prog X.w H s Q u s'):EP X pins σ Q u s':=by
 obtain⟨v,H',os,bare,un,hok,r,q⟩:=h
 obtain⟨hh,g,d,t,os'⟩:=s'
 obtain rfl:os'=s.os:=os
 exact⟨v,H',I.call (h':=hh) (g':=g) (d':=d) (t':=t) (ch:=[]) un hok bare (fun b z=>absurd z (by simp)),r,q⟩
end
def uY(sp:Sp)(dvs:List V)(E:XK)(t:TA):TE:=fun σ H Q=>t σ H fun vs H1=>sp (vs++dvs) H1 Q E
def Binds(K:W.Frag)(fd:KO)(ps:List Str)(ds:List Iw):Prop :=
 ∀(s:IB)(us:List Iw),K.In s.heap->(us++ds).length=ps.length->Pu s fd ⟨us,[]⟩ (ps.zip (us++ds))
theorem Binds.all{K:W.Frag}{ps:List Str}(h:∀us:List Iw,us.length=ps.length->bindArgs fd ⟨us,[]⟩=pure (ps.zip us)):Binds K fd ps []:=fun s us _ hl=>by
 rw[JS]at hl ⊢
 exact .of_eq (h us hl)
def qr(CX:Ia)(X:Cx)(E:XK):Prop:=∀(pins:List (Addr×Obj))(σ:St)(H:Hp)(s:IB)(e:Iw)(s':IB),Inv X pins σ H s->CX X.stack H s E e s'->X.xe e s'
section
variable{X:Cx}{CX:Ia}{k:Nat}{f C:Addr}{fd:KO}{ps:List Str}{sp:Sp}{dvs:List V}{ds:List Iw}{E:XK}{x m:Str}{p pos apos:Pos}{e o:Expr}{es:List Expr}{ta:TE}{t:TA}
theorem yA{σ:St}{H:Hp}{Q:VK}{us:List Iw}{vs:List V}(F:FnOk X.prog X.w X.K X.mg X.base CX k f fd ps sp)(hr:Room k X.A)(hb:Binds X.K fd ps ds)(hd:bQ dvs ds)(hx:qr CX X E)
 (I:Inv X pins σ H s)(r:bQ vs us)(h:sp (vs++dvs) H Q E):IT (Jb X.prog X.w) X.A (call (.ref f) us) (EP X pins σ Q) X.xe s:=by
 have r2:bQ (vs++dvs) (us++ds):=r.append hd
 have hl:(us++ds).length=ps.length:=by rw[<- r2.length];exact F.len _ _ _ _ h
 refine wpAny_call (Nc (F.run X.A X.stack s H ⟨us,[]⟩ (us++ds) (vs++dvs) Q E hr I.env0 (hb s us I.kIn hl) r2 h) fun r s' hq=>?_)
 cases r with
 | error e=>exact hx pins σ H s e s' I hq
 | ok fl =>
   cases fl with
   | ret u=>exact I.after hq
   | next=>exact Jq hq
   | brk=>exact Jq hq
   | cont=>exact Jq hq
theorem d9(F:FnOk X.prog X.w X.K X.mg X.base CX k f fd ps sp)(hr:Room k X.A)(hg:Gl X x)(hm:X.mg x=some (.ref f))(hk:W.keepIn X.K (.ref f)=true)(hb:Binds X.K fd ps ds)(hd:bQ dvs ds)(hx:qr CX X E)
 (ha:PA X (e::es) t)(hdb:(x==("__debug__" : Str))=false:=by decide)(he:IC (e::es) X.env=(false,eval e X.env)::IC es X.env:=by rfl)(hpl:(Kh pos (IC es X.env)).any (·.1)=false:=by rfl) :
 PE X (.Call (.Name x p) (e::es) [] pos) (uY sp dvs E t):=by
 intro pins s σ H Q I h
 refine L9 (wp I hg hm ?_ hdb)
 refine W.callWith_K (h₀:=X.base) I.ok.mod.kin hk (E7 (ha pos pins s σ H _ I h) fun us s1 ⟨vs,H1,I1,r,q⟩=>⟨I1.kIn,?_⟩) he hpl
 exact yA F hr hb hd hx I1 r q
end
section
variable{X:Cx}{CX:Ia}{k:Nat}{f C:Addr}{fd:KO}{ps ks:List Str}{sp:Sp}{E:XK}{x m:Str}{p pos apos kpos:Pos}{e o:Expr}{es:List Expr}{kws:List MC}{te ta:TE}{t tk:TA}{nm:Option Str}
variable{g:List Iw->List Iw->List Iw}{gV:List V->List V->List V}
end
structure FnScope (N P:List Str) (sc:Scope):Prop where
 kind:sc.kind = .function
 co:sc.isCoroutine=false
 gen:sc.isGenerator=false
 nd:N.Nodup
 pre:N.take P.length=P
 par:∀x∈P,sc.names.lookup x=some .local\/sc.names.lookup x=some .cell
 nofree:∀y∈sc.names,y.2 ≠ .free
theorem jb{kindOf:Str->Option L_}{x:Str}:∀{binds:List (Str×Iw)}{m:Str->Option Iw},(∀v,(x,v)∉binds)->bindL kindOf binds m x=m x
 | [],_,_=>rfl
 | (n,v)::r,m,h=>by
   unfold bindL
   rw[jb fun w hw=>h w (Ir _ hw)]
   split
   · have:x≠n:=by rintro rfl;exact h v Iz
     simp[this]
   · rfl
theorem jd{kindOf:Str->Option L_}{x:Str}:∀{binds:List (Str×Iw)}{m:Str->Option Iw},(∀v,(x,v)∉binds)->bindC kindOf binds m x=m x
 | [],_,_=>rfl
 | (n,v)::r,m,h=>by
   unfold bindC
   rw[jd fun w hw=>h w (Ir _ hw)]
   split
   · rfl
   · have:x≠n:=by rintro rfl;exact h v Iz
     simp[this]
theorem jc{kindOf:Str->Option L_}{x:Str}{v:Iw}:∀{P:List Str}{vs:List Iw}{i:Nat}{m:Str->Option Iw},P.Nodup->P[i]?=some x->vs[i]?=some v->kindOf x=some .local ->
 bindL kindOf (P.zip vs) m x=some v
 | [],_,_,_,_,h,_,_=>by simp at h
 | _::_,[],_,_,_,_,h,_=>by simp at h
 | p::P,w::vs,0,m,nd,h1,h2,hk=>by
   simp at h1 h2;subst h1;subst h2
   show bindL kindOf ((p,w)::P.zip vs) m p=_
   unfold bindL
   rw[jb fun v hv=>(JX.mp nd).1 (KW hv).1,if_pos hk]
   simp
 | p::P,w::vs,i+1,m,nd,h1,h2,hk=>by
   show bindL kindOf ((p,w)::P.zip vs) m x=_
   unfold bindL
   exact jc (i:=i) (JX.mp nd).2 (by simpa using h1) (by simpa using h2) hk
theorem je{kindOf:Str->Option L_}{x:Str}{v:Iw}:∀{P:List Str}{vs:List Iw}{i:Nat}{m:Str->Option Iw},P.Nodup->P[i]?=some x->vs[i]?=some v->kindOf x≠some .local ->
 bindC kindOf (P.zip vs) m x=some v
 | [],_,_,_,_,h,_,_=>by simp at h
 | _::_,[],_,_,_,_,h,_=>by simp at h
 | p::P,w::vs,0,m,nd,h1,h2,hk=>by
   simp at h1 h2;subst h1;subst h2
   show bindC kindOf ((p,w)::P.zip vs) m p=_
   unfold bindC
   rw[jd fun v hv=>(JX.mp nd).1 (KW hv).1,if_neg hk]
   simp
 | p::P,w::vs,i+1,m,nd,h1,h2,hk=>by
   show bindC kindOf ((p,w)::P.zip vs) m x=_
   unfold bindC
   exact je (i:=i) (JX.mp nd).2 (by simpa using h1) (by simpa using h2) hk
def start(N:List Str)(vs:List V):St:=vs.map some++IH (N.length-vs.length) none
def lA(CX:Ia)(P:IZ)(w:JN)(K:W.Frag)(mg:Str->Option Iw)(base:Heap)(N:List Str)(qual:Str)(scope:Scope)(f:Addr)(cd:Iw)(A:J4)(outer:List Env)(s:IB)(H:Hp)(E:XK):Cx where
 prog:=P
 w:=w
 K:=K
 mg:=mg
 base:=base
 A:=A.deeper (MR qual scope s.heap.objs.size f cd)
 N:=N
 s₀:=s
 H₀:=H
 env:=MR qual scope s.heap.objs.size f cd
 outer:=outer
 stack:=MR qual scope s.heap.objs.size f cd::outer
 ex:=[]
 calm:=true
 fn:=fun _=>true
 pn:=[]
 xe:=fun e s'=>IT (Jb P w) (A.deeper (MR qual scope s.heap.objs.size f cd)) (leaving (MR qual scope s.heap.objs.size f cd) e) (fun _ s''=>CX outer H s E e s'') (fun e' s''=>CX outer H s E e' s'') s'
theorem lF{sc:Scope}{x:Str}(h:sc.names.lookup x=some .cell):∃c,(J5 n sc.names []).lookup x=some c:=by
 have q:=W.cellsFrom_some sc.names n [] (.inl h)
 exact Kj.mp q
theorem pj{CX:Ia}{w:JN}{K:W.Frag}{mg:Str->Option Iw}{N ps:List Str}{qual:Str}{f:Addr}{cd:Iw}{outer:List Env}{s1:IB}{H:Hp}{E:XK}{us:List Iw}{vs:List V}
 (S:FnScope N ps scope)(hd:A.handled=none)(e0:Env0 P w K mg base A outer s H)(hl:vs.length=ps.length)(r:bQ vs us)
 (x:InCallC s s.heap.objs.size (bindL (MR qual scope s.heap.objs.size f cd).kindOf (ps.zip us) fun _=>none) (J5 (s.heap.objs.size+1) scope.names []) (bindC (MR qual scope s.heap.objs.size f cd).kindOf (ps.zip us) fun _=>none) s1) :
 Inv (lA CX P w K mg base N qual scope f cd A outer s H E) [] (start N vs) H s1:=by
 have hpl:ps.length<=N.length:=by have:=congrArg List.length S.pre;rw[JQ]at this;omega
 obtain⟨h1,tk,rfl,hk⟩:=x.done
 have noA:∀b:Addr,b∉(lA CX P w K mg base N qual scope f cd A outer s H E).ex:=fun b z=>absurd (show b∈([]:List Addr)from z) (by simp)
 refine⟨⟨e0.mod,S.kind,rfl,rfl,ID _,fun y z c h1 h2=>?_,fun y hy=>?_,fun y c _ h=>?_,fun _=>hd,J4.frames_deeper e0.frames,.inr ⟨rfl,rfl⟩,fun b z=>absurd z (noA b),e0.bs,e0.bsz,fun b _ _=>noA b,fun b z=>absurd z (noA b),e0.funs,e0.frf⟩,
  rfl,e0.bare,Un.kept hk,⟨_,x.toInCall.ns,fun i y v h1 h2 h3=>?_⟩,fun y c h=>⟨_,x.cell y c h⟩,e0.hok.fresh (ID _),fun y c h=>?_,fun p hp=>absurd (show p∈([]:List (Addr×Obj))from hp) (by simp),e0.hok.kept hk,?_⟩
 · exact O8 x.apart (Jy h1) (Jy h2)
 · have hy:scope.names.lookup y=some .cell\/scope.names.lookup y=some .free:=hy
   rcases hy with hy|hy
   · exact lF hy
   · exact absurd rfl (S.nofree _ (Jy hy))
 · exact O6 (x.above y c (Jy h))
 · have hi:i<vs.length:=by
     unfold start at h2
     by_cases hi:i<vs.length
     · exact hi
     · rw[K0 (by simpa using hi)]at h2
       rw[Ma]at h2
       split at h2<;>cases h2
   have ha:vs[i]?=some v:=by
    unfold start at h2
    rw[KF (by simpa using hi),Jj]at h2
    cases e:vs[i]? with
    | none=>rw[e]at h2;cases h2
    | some a=>rw[e]at h2;cases h2;rfl
   obtain⟨u,hu,rv⟩:=r.get ha
   have hp:ps[i]?=some y:=by
    rw[<- S.pre,L5 (by omega)];exact h1
   have ndP:ps.Nodup:=by rw[<- S.pre];exact S.nd.sublist (List.take_sublist _ _)
   refine⟨u,rv,?_⟩
   rcases S.par y (LZ hp)with k|k
   · exact .inl ⟨k,jc ndP hp hu k⟩
   · obtain⟨c,e⟩:=lF (n:=s.heap.objs.size+1) k
     refine .inr ⟨.inl k,c,e,?_⟩
     have q:=x.cell y c e
     rw[je ndP hp hu (by show scope.names.lookup y≠_;rw[k];decide)]at q
     exact q
 · exact e0.hok.fresh (O6 (x.above y c (Jy h)))
 · unfold start
   show _=N.length
   rw[Jx,IE,N4]
   omega
theorem BX{CX:Ia}{w:JN}{K:W.Frag}{mg:Str->Option Iw}{k:Nat}{f:Addr}{name qual:Str}{params:Arguments}{body:List Stmt}{dV kV doc pm cdv ct oc:Iw}{an od:Option Addr}
 {osl:Array (Option Iw)}{N ps:List Str}{sp:Sp}(lk:K.lookup f=some ⟨oc,od,.func (W.fnOf name qual params body scope dV kV doc pm an cdv ct),osl⟩)(hcd:W.codeIn K cdv qual=true)(S:FnScope N ps scope)
 (len:∀vs H Q E,sp vs H Q E->vs.length=ps.length)
 (hbody:∀(A:J4)(outer:List Env)(s:IB)(H:Hp)(vs:List V)(Q:VK)(E:XK),Room k (A.deeper (MR qual scope s.heap.objs.size f cdv))->sp vs H Q E ->
  ∃t,Hv (lA CX P w K mg base N qual scope f cdv A outer s H E) body t/\t {nx:=fun _ H'=>Q .non H',rt:=Q} (start N vs) H) :
 FnOk P w K mg base CX (k+1) f (W.fnOf name qual params body scope dV kV doc pm an cdv ct) ps sp:=by
 refine⟨len,fun A outer s H args us vs Q E hr e0 hb r hsp=>?_⟩
 have hl:=len _ _ _ _ hsp
 have KX:K.In s.heap:=e0.mod.kin.keeps fun b o e=>(e0.bs b o e).1
 have lim:s.heap.NoLimit:=e0.mod.nolimit.keeps fun b o e=>(e0.bs b o e).1
 have hkind:∀y∈ps.zip us,scope.names.lookup y.1=some .local\/(scope.names.lookup y.1=some .cell/\((J5 (s.heap.objs.size+1) scope.names []).lookup y.1).isSome=true):=fun⟨n,v⟩ hy=>by
  rcases S.par n (KW hy).1 with q|q
  · exact .inl q
  · exact .inr ⟨q,W.cellsFrom_some _ _ _ (.inl q)⟩
 refine codeAny_call_function hr.depth (KX _ _ lk) rfl S.co S.gen rfl (W.codeRec_of KX hcd) (hb _ _ _ _ ?_)
 refine wpAny_newFunctionEnv_cells S.kind hkind fun env he s1 x=>?_
 subst he
 refine⟨lim.keeps x.toInCall.keep,codeAny_func ?_⟩
 obtain⟨t,ht,hq⟩:=hbody A outer s H vs Q E (hr.deeper _) hsp
 have I:Inv (lA CX P w K mg base N qual scope f cdv A outer s H E) [] (start N vs) H s1:=pj S hr.hd e0 hl r x
 refine Jl (ht [] s1 (start N vs) H _ I hq) (fun fl s' hs=>?_) fun e s' hs=>hs
 have fin:∀{σ':St}{H':Hp}{v:V}{u:Iw},Inv (lA CX P w K mg base N qual scope f cdv A outer s H E) [] σ' H' s'->RelV v u->Q v H'->CE outer P w H s Q u s' :=
  fun{σ' H' v u} J rv q=>⟨v,H',J.os,J.bare,J.base,J.hok,rv,q⟩
 cases fl with
 | ret u =>
   obtain⟨v,σ',H',J,rv,q⟩:=hs
   exact fin J rv q
 | next =>
   obtain⟨σ',H',J,q⟩:=hs
   exact fin (v:=V.non) (u:=Lz) J rfl q
 | brk =>
   obtain⟨_,_,_,q⟩:=hs
   exact Jq q
 | cont =>
   obtain⟨_,_,_,q⟩:=hs
   exact Jq q
section
variable{X:Cx}{x:Str}{p pos:Pos}{e:Expr}{es:List Expr}{t:TA}{id T:String}{r:List V->Hp->VK->Prop}
def Fi(r:List V->Hp->VK->Prop)(t:TA):TE:=fun σ H Q=>t σ H fun vs H1=>r vs H1 Q
theorem g_(hc:c_ X (.builtin id) r)(hg:Gl X x)(hm:X.mg x=none)(hv:LB x=some (.builtin id))(ha:PA X (e::es) t)(hn:x ≠ "__name__" := by decide)(hdb:(x==("__debug__" : Str))=false:=by decide)
 (he:IC (e::es) X.env=(false,eval e X.env)::IC es X.env:=by rfl)(hpl:(Kh pos (IC es X.env)).any (·.1)=false:=by rfl):PE X (.Call (.Name x p) (e::es) [] pos) (Fi r t):=by
 intro pins s σ H Q I h
 refine L9 (dn I hg hm hv ?_ hn hdb)
 exact PyProof.Rows.callWith_builtin1 (E7 (ha pos pins s σ H _ I h) fun us s1 ⟨vs,H1,I1,r1,q1⟩=>hc pins s1 σ H1 vs us Q I1 r1 q1) he hpl
theorem dL(hc:c_ X (.type T) r)(hg:Gl X x)(hm:X.mg x=none)(hv:LB x=some (.type T))(ha:PA X (e::es) t)(hn:x ≠ "__name__" := by decide)(hdb:(x==("__debug__" : Str))=false:=by decide)
 (he:IC (e::es) X.env=(false,eval e X.env)::IC es X.env:=by rfl)(hpl:(Kh pos (IC es X.env)).any (·.1)=false:=by rfl):PE X (.Call (.Name x p) (e::es) [] pos) (Fi r t):=by
 intro pins s σ H Q I h
 refine L9 (dn I hg hm hv ?_ hn hdb)
 exact JE (E7 (ha pos pins s σ H _ I h) fun us s1 ⟨vs,H1,I1,r1,q1⟩=>hc pins s1 σ H1 vs us Q I1 r1 q1) he hpl
end
end L2
variable{us:List (L2.HJ×L2.V)}{H H' F F' F₀ H₀:L2.Hp}{v:L2.V}{X:L2.Cx}{σ:L2.St}{r:List L2.V->L2.Hp->L2.VK->Prop}{vs:List L2.V}{kvs:List (List L2.HJ×L2.V)}
namespace HT
open PySem PyProof.Rows
section
open PySem.SeqAt
open PySem.AutoSeq1 (wpAny_loadPart')
open PySem.MeetsSeq PySem.MeetsSeq2 PySem.MeetsSeq3
end
section
variable{prog:IZ}{w:JN}{A:J4}{E:Iw->IB->Prop}{s:IB}
theorem cat_tup{t b:Addr}{vs ws:List Iw}(ht:N2 s.heap t vs.toArray)(hb:N2 s.heap b ws.toArray)(hv:vs≠[])
 (h1:ws=[]->Q (.ref t) s)(h2:ws≠[]->Q (.ref s.heap.objs.size) {s with heap:=s.heap.push {cls:=.type "tuple", data:=.seq (vs++ws).toArray}})
 (hsz:vs.length+ws.length<=sizeLine):IT (Jb prog w) A (Lg .Add (.ref t) (.ref b)) Q E s:=by
 obtain⟨⟨cls,dd,data,sl⟩,ho,hc,n,hd⟩:=id ht
 obtain⟨⟨cls2,dd2,data2,sl2⟩,ho2,hc2,n2,hd2⟩:=id hb
 simp only at hc hd hc2 hd2
 subst hc hd hc2 hd2
 have e:vs.toArray++ws.toArray=(vs++ws).toArray:=by simp
 by_cases hw:ws=[]
 · exact O9 ⟨_,ho,rfl⟩ ⟨_,ho2,rfl⟩ Lw Mc KB Kz (Kv _ _)
     (tuple_addW1 t b vs.toArray ws.toArray n n2 dd dd2 sl sl2 (by simpa using hv) (by simp[hw])) ⟨ho,ho2,h1 hw⟩
 · refine O9 ⟨_,ho,rfl⟩ ⟨_,ho2,rfl⟩ Lw Mc KB Kz (Kv _ _)
     (tuple_addW2 t b vs.toArray ws.toArray n n2 dd dd2 sl sl2 (by simpa using hv) (by simpa using hw) (by rw[IK,IK];exact hsz)) ⟨ho,ho2,?_⟩
   rw[e]
   exact h2 hw
def sIx(n d:Nat):Option Int->Nat
 | none=>d
 | some v=>if v<0 then(v+(n:Int)).toNat else min v.toNat n
theorem sIx_none(n d:Nat):sIx n d none=d:=rfl
theorem sIx_nat(n d k:Nat):sIx n d (some (k:Int))=min k n:=by
 show(if(k:Int)<0 then((k:Int)+(n:Int)).toNat else min (k:Int).toNat n)=min k n
 rw[if_neg (by omega),JO]
theorem yz(n d:Nat)(hd:d<=n)(o:Option Int):sIx n d o<=n:=by
 cases o with
 | none=>exact hd
 | some v =>
   show(if v<0 then(v+(n:Int)).toNat else min v.toNat n)<=n
   by_cases hv:v<0
   · rw[if_pos hv];omega
   · rw[if_neg hv];exact Nat.min_le_right _ _
theorem pY(v:Int)(n d:Nat):(if v<0 then max (v+(n:Int)) 0 else min v (n:Int))=((sIx n d (some v):Nat):Int):=by
 show(if v<0 then max (v+(n:Int)) 0 else min v (n:Int))=(((if v<0 then(v+(n:Int)).toNat else min v.toNat n):Nat):Int)
 by_cases hv:v<0
 · simp only[if_pos hv];omega
 · simp only[if_neg hv];omega
theorem mM(lo hi:Option Int)(n:Nat):L0 lo hi 1 (n:Int)=(((sIx n 0 lo:Nat):Int),((sIx n n hi:Nat):Int)):=by
 have h1:¬((1:Int)<0):=by omega
 unfold L0
 simp only[h1,if_false]
 refine Prod.ext ?_ ?_
 · cases lo with
   | none=>rfl
   | some v=>exact pY v n 0
 · cases hi with
   | none=>rfl
   | some v=>exact pY v n n
theorem lZ(i j:Nat):Kd (i:Int) (j:Int) 1=j-i:=by
 unfold Kd
 have h1:(1:Int)>0:=by omega
 simp only[h1,if_true,O_]
 split<;>omega
theorem slicePart_{v:Iw}{o:Option Int}{Q:Option Int->IB->Prop}(p:N5 v o)(h:Q o s):IT (Jb prog w) A (Builtin.Slice.slicePartIndex v) Q E s:=by
 cases p with
 | none=>exact slicePart_none h
 | int i t=>exact slicePart_int h
theorem sliceApplied_gen{sl:Addr}{vl vu:Iw}{lo hi:Option Int}{Q:Int×Int×Nat->IB->Prop}(hs:s.heap.IsSliceOf sl vl vu .none)(pl:N5 vl lo)(pu:N5 vu hi)
 (h:Q (((sIx n 0 lo:Nat):Int),1,sIx n n hi-sIx n 0 lo) s):IT (Jb prog w) A (K1 (.ref sl) (pure (n:Int))) Q E s:=by
 obtain⟨os,hos,hcs,hds⟩:=id hs
 unfold K1 Np
 refine Io (Io (Jv hos hds (x:=vl) rfl (Io (Jv hos hds (x:=vu) rfl (Io (Jv hos hds (x:=.none) rfl (IA ?_)))))))
 refine Io (slicePart_none ?_)
 show IT _ _ (if((1:Int)==0)=true then _ else _) _ _ s
 rw[if_neg (by decide)]
 refine Io (slicePart_ pl (Io (slicePart_ pu (Io (IA ?_)))))
 show IT _ _ (match L0 lo hi 1 (n:Int)with|(lo,hi)=>pure (lo,(1:Int),Kd lo hi 1)) _ _ s
 rw[mM lo hi n]
 show IT _ _ (pure (((sIx n 0 lo:Nat):Int),(1:Int),Kd ((sIx n 0 lo:Nat):Int) ((sIx n n hi:Nat):Int) 1)) _ _ s
 rw[lZ]
 exact IA h
theorem qZ(xs:Array Iw)(i k:Nat):((IN k).filterMap fun(m:Nat)=>xs[((i:Int)+(m:Int)*1).toNat]?).toArray=((xs.toList.drop i).take k).toArray:=by
 have e:(fun(m:Nat)=>xs[((i:Int)+(m:Int)*1).toNat]?)=fun m=>xs[i+m]?:=by
  funext m
  have:((i:Int)+(m:Int)*1).toNat=i+m:=by omega
  rw[this]
 rw[e]
 have:=pick_run xs i k
 rw[List.filterMap_map]at this
 have e2:((fun x=>xs[x]?) ∘ fun x=>i+x)=fun m=>xs[i+m]?:=rfl
 rw[e2]at this
 rw[this]
theorem getItem_tuple_cut{t sl:Addr}{items:Array Iw}{vl vu:Iw}{lo hi:Option Int}(ht:N2 s.heap t items)(hs:s.heap.IsSliceOf sl vl vu .none)(pl:N5 vl lo)(pu:N5 vu hi)
 (hw:¬(sIx items.size 0 lo=0/\sIx items.size items.size hi=items.size))
 (h:Q (.ref s.heap.objs.size) {s with heap:=s.heap.push {cls:=.type "tuple", data:=.seq ((items.toList.drop (sIx items.size 0 lo)).take (sIx items.size items.size hi-sIx items.size 0 lo)).toArray}})
 (hsz:items.size<=sizeLine):IT (Jb prog w) A (MS (.ref t) (.ref sl)) Q E s:=by
 have htake:sizeOk (.seq ((items.toList.drop (sIx items.size 0 lo)).take (sIx items.size items.size hi-sIx items.size 0 lo)).toArray):=by
  show((items.toList.drop (sIx items.size 0 lo)).take (sIx items.size items.size hi-sIx items.size 0 lo)).toArray.size<=sizeLine
  rw[IK,JQ,KM,L4]
  omega
 have hj:sIx items.size items.size hi<=items.size:=yz _ _ (ID _) hi
 obtain⟨os,hos,hcs,hds⟩:=id hs
 have hTs:s.TypeIs (.ref sl) "slice" := ⟨os,hos,hcs⟩
 unfold MS
 try with_reducible refine K4 ?_
 first|refine Io (IA ?_)|skip
 refine Io (LQ ht.typeIs (by decide) ?_)
 refine Io (Jk (name:=Str.ofString "__getitem__") ht.typeIs Jc
  (J7 Jc ht.typeIs entry_tuple_getitem ?_ (Nd _ _)))
 show IT _ _ (K3 (.ref t) >>= _) _ _ s
 refine Io (Md ht ?_)
 refine Io (Nf hTs ?_)
 rw[if_pos (by decide)]
 refine Io (sliceApplied_gen hs pl pu ?_)
 have hno:¬((((sIx items.size 0 lo:Nat):Int)==0&&(1:Int)==1&&(sIx items.size items.size hi-sIx items.size 0 lo)==items.size)=true):=by
  intro q
  rw[MD,MD]at q
  have q1:((sIx items.size 0 lo:Nat):Int)=0:=eq_of_beq q.1.1
  have q2:sIx items.size items.size hi-sIx items.size 0 lo=items.size:=eq_of_beq q.2
  exact hw ⟨by omega,by omega⟩
 show IT _ _ (if(((sIx items.size 0 lo:Nat):Int)==0&&(1:Int)==1&&(sIx items.size items.size hi-sIx items.size 0 lo)==items.size)=true then _ else _) _ _ s
 rw[if_neg hno,qZ]
 first
  | exact Io (m:=JG _) (Jg (IA ⟨_,rfl,IA h⟩) htake)
  | exact Io (m:=JG _) (Jg (Io (IA (IA ⟨_,rfl,IA h⟩))) htake)
  | exact Io (Io (m:=JG _) (Jg (IA (IA ⟨_,rfl,IA h⟩)) htake))
  | exact Io (Io (m:=JG _) (Jg (IA ⟨_,rfl,IA h⟩) htake))
end
end HT
namespace L2
abbrev TO:=St->Hp->(Option Int->Hp->Prop)->Prop
def PO(X:Cx)(e:Option Expr)(t:TO):Prop :=
 ∀ (pins:List (Addr×Obj))(s:IB)(σ:St)(H:Hp)(Q:Option Int->Hp->Prop),Inv X pins σ H s->t σ H Q ->
   IT (Jb X.prog X.w) X.A (evalPart e X.env) (fun u s'=>∃o H',Inv X pins σ H' s'/\N5 u o/\Q o H') X.xe s
def uW:TO:=fun _ H Q=>Q none H
def A9(t:TE):TO:=fun σ H Q=>t σ H fun x H1=>∃i,x = .int i/\Q (some i) H1
section
variable{X:Cx}{e:Expr}{te:TE}{lo hi:Option Expr}{tl th:TO}{pos p2:Pos}
theorem vF:PO X none uW:=by
 intro pins s σ H Q I h
 rw[OT]
 exact IA ⟨none,H,I,.none,h⟩
theorem oG(h:PE X e te):PO X (some e) (A9 te):=by
 intro pins s σ H Q I hw
 rw[evalPart_some]
 refine E7 (h pins s σ H _ I hw) fun u s1 ⟨x,H1,I1,r1,q1⟩=>?_
 obtain⟨i,rfl,q⟩:=q1
 obtain⟨t,rfl⟩:=r1
 exact⟨some i,H1,I1,.int i t,q⟩
def Hn(X:Cx)(r:V->Option Int->Option Int->Hp->VK->Prop):Prop :=
 ∀ (pins:List (Addr×Obj))(s:IB)(σ:St)(H:Hp)(x:V)(v vl vu:Iw)(lo hi:Option Int)(sl:Addr)(Q:VK),Inv X pins σ H s->RelV x v->s.heap.IsSliceOf sl vl vu .none->N5 vl lo->N5 vu hi->r x lo hi H Q ->
   ∃T id,On (.type T) "__getitem__" = pure (some (.builtin id))/\s.TypeIs v T/\IT (Jb X.prog X.w) X.A (MS v (.ref sl)) (EP X pins σ Q) X.xe s
theorem Hn.or{r r':V->Option Int->Option Int->Hp->VK->Prop}(h:Hn X r)(h':Hn X r'):Hn X (fun x lo hi H Q=>r x lo hi H Q\/r' x lo hi H Q):=by
 intro pins s σ H x v vl vu lo hi sl Q I rx hs pl pu q
 rcases q with q|q
 · exact h pins s σ H x v vl vu lo hi sl Q I rx hs pl pu q
 · exact h' pins s σ H x v vl vu lo hi sl Q I rx hs pl pu q
def Fa(r:V->Option Int->Option Int->Hp->VK->Prop)(te:TE)(tl th:TO):TE:=fun σ H Q=>te σ H fun x H1=>tl σ H1 fun l H2=>th σ H2 fun u H3=>r x l u H3 Q
theorem kU{r:V->Option Int->Option Int->Hp->VK->Prop}(hr:Hn X r)(he:PE X e te)(hl:PO X lo tl)(hu:PO X hi th):PE X (.Subscript e (.Slice lo hi none p2) pos) (Fa r te tl th):=by
 intro pins s σ H Q I h
 refine O2 (E7 (he pins s σ H _ I h) fun v s1 ⟨x,H1,I1,r1,q1⟩=>?_)
 refine wpAny_Slice (E7 (hl pins s1 σ H1 _ I1 q1) fun vl s2 ⟨l,H2,I2,pl,q2⟩=>E7 (hu pins s2 σ H2 _ I2 q2) fun vu s3 ⟨u,H3,I3,pu,q3⟩=>?_)
 rw[OT]
 refine IA ?_
 have I4:Inv X pins σ H3 {s3 with heap:=s3.heap.push {cls:=.type "slice", data:=.fields #[vl,vu,.none]}}:=I3.kept (t':=s3.toks) fun b ob q=>Iu _ q
 obtain⟨T,id,hT,ht,hg⟩:=hr pins {s3 with heap:=s3.heap.push {cls:=.type "slice", data:=.fields #[vl,vu,.none]}} σ H3 x v vl vu l u s3.heap.objs.size Q I4 r1 (Heap.IsSliceOf.new ..) pl pu q3
 show IT (Jb X.prog X.w) X.A (OU e (.Slice lo hi none p2) v (.ref s3.heap.objs.size)) (EP X pins σ Q) X.xe {s3 with heap:=s3.heap.push {cls:=.type "slice", data:=.fields #[vl,vu,.none]}}
 exact tail_any (ops:=[.ref s3.heap.objs.size,v]) ht hT hg (by with_unfolding_all rfl)
def sh(xs:List V)(lo hi:Option Int):List V:=(xs.drop (HT.sIx xs.length 0 lo)).take (HT.sIx xs.length xs.length hi-HT.sIx xs.length 0 lo)
theorem fI(xs:List V)(lo hi:Option Int):(sh xs lo hi).length<=xs.length:=by
 unfold sh
 rw[JQ,KM]
 omega
def Df(K:W.Frag):V->Option Int->Option Int->Hp->VK->Prop:=fun x lo hi H Q=>∃a xs,x = .ref a/\Hi K H a xs /\
 ¬(HT.sIx xs.length 0 lo=0/\HT.sIx xs.length xs.length hi=xs.length)/\∀p,H p=none->Q (.ref p) (upd H p (.tup (sh xs lo hi)))
theorem yt:Hn X (Df X.K):=by
 intro pins s σ H x v vl vu lo hi sl Q I rx hs pl pu h
 obtain⟨a,xs,rfl,hx,hw,q⟩:=h
 cases rx
 obtain⟨its,r,ht,hz⟩:=I.tuple hx
 have hlen:its.toArray.size=xs.length:=by rw[IK];exact r.length.symm
 refine⟨"tuple", _,Jc.lookup,ht.typeIs,?_⟩
 refine HT.getItem_tuple_cut ht hs pl pu (by rw[hlen];exact hw) ?_ (by rw[hlen];exact hz)
 rw[hlen]
 refine⟨.ref s.heap.objs.size,_,I.laid (t':=s.toks) (o:=.tup (sh xs lo hi)) (fun b ob q=>Iu _ q) (ID _) ?_,rfl,q _ (I.hok.fresh (ID _))⟩
 exact⟨Jr (fI xs lo hi) hz,_,(r.drop (HT.sIx xs.length 0 lo)).take (HT.sIx xs.length xs.length hi-HT.sIx xs.length 0 lo),qt.new _ _⟩
def vg(K:W.Frag):R2:=fun x y H Q=>∃a b xs ys,x = .ref a/\y = .ref b/\Hi K H a xs/\Hi K H b ys/\xs≠[]/\xs.length+ys.length<=sizeLine /\
 (ys=[]->Q (.ref a) H)/\(ys≠[]->∀p,H p=none->Q (.ref p) (upd H p (.tup (xs++ys))))
theorem bQ.nil_iff{xs:List V}{us:List Iw}(r:bQ xs us):us=[]↔xs=[]:=by
 cases r with
 | nil=>simp
 | cons _ _=>simp
theorem vR:HF X (Lg .Add) (vg X.K):=by
 intro pins s σ H x y v u Q I rx ry h
 obtain⟨a,b,xs,ys,rfl,rfl,ha,hb,hx,hz,q1,q2⟩:=h
 cases rx
 cases ry
 obtain⟨its,r1,p1,_⟩:=I.tuple ha
 obtain⟨its2,r2,p2,_⟩:=I.tuple hb
 refine HT.cat_tup p1 p2 (fun z=>hx (r1.nil_iff.mp z)) (fun z=>⟨.ref a,H,I,rfl,q1 (r2.nil_iff.mp z)⟩) (fun z=>?_) (by rw[<- r1.length,<- r2.length];exact hz)
 refine⟨.ref s.heap.objs.size,_,I.laid (t':=s.toks) (o:=.tup (xs++ys)) (fun b ob q=>Iu _ q) (ID _) ?_,rfl,q2 (fun w=>z (r2.nil_iff.mpr w)) _ (I.hok.fresh (ID _))⟩
 exact⟨by rw[Jx];exact hz,_,r1.append r2,qt.new _ _⟩
end
def ixN(n:Nat)(i:Int):Option Nat:=if 0<=i then(if i<n then some i.toNat else none)else if -(n:Int)<=i then some (i+n).toNat else none
def atI{α:Type}(xs:List α)(i:Int):Option α:=(ixN xs.length i).bind fun j=>xs[j]?
theorem pg{i:Int}(h:ixN n i=some j):OV i n=some j/\j<n /\ -(n:Int)<=i/\i<n:=by
 unfold ixN at h
 by_cases h0:0<=i
 · rw[if_pos h0]at h
   by_cases h1:i<n
   · rw[if_pos h1]at h
     have e:i.toNat=j:=Jh h
     exact⟨by rw[OC h0 h1,e],by omega,by omega,h1⟩
   · rw[if_neg h1]at h;cases h
 · rw[if_neg h0]at h
   by_cases h1 : -(n:Int)<=i
   · rw[if_pos h1]at h
     have e:(i+n).toNat=j:=Jh h
     exact⟨by rw[Pa (by omega) h1,e],by omega,h1,by omega⟩
   · rw[if_neg h1]at h;cases h
theorem jY{xs:List α}{i:Int}{v:α}(h:atI xs i=some v):∃j,OV i xs.length=some j/\xs[j]?=some v/\j<xs.length /\ -(xs.length:Int)<=i/\i<xs.length:=by
 unfold atI at h
 cases e:ixN xs.length i with
 | none=>rw[e]at h;cases h
 | some j =>
   rw[e]at h
   obtain⟨h1,h2,h3,h4⟩:=pg e
   exact⟨j,h1,h,h2,h3,h4⟩
theorem cp{xs:List α}{v:α}(h:xs[j]?=some v):atI xs (j:Int)=some v:=by
 have hj:j<xs.length:=(IR.mp h).1
 have e:ixN xs.length (j:Int)=some j:=by
  unfold ixN
  rw[if_pos (by omega),if_pos (by omega)];simp
 unfold atI;rw[e];exact h
def fQ(b:Expr):Prop:=∀o i,OD b false o i=operate [o,i] (MS o i)
def HM(X:Cx)(r:R2):Prop :=
 ∀ (value slice:Expr)(pins:List (Addr×Obj))(s:IB)(σ:St)(H:Hp)(x y:V)(v u:Iw)(Q:VK),Inv X pins σ H s->RelV x v->RelV y u->r x y H Q ->
   OD slice false v u=operate [v,u] (MS v u)->IT (Jb X.prog X.w) X.A (OU value slice v u) (EP X pins σ Q) X.xe s
def HH(X:Cx)(id:String)(r:V->List V->Hp->VK->Prop):Prop :=
 ∀ (pins:List (Addr×Obj))(s:IB)(σ:St)(H:Hp)(x:V)(xs:List V)(v:Iw)(us:List Iw)(Q:VK),Inv X pins σ H s->RelV x v->bQ xs us->r x xs H Q ->
   IT (Jb X.prog X.w) X.A (call (.builtin id) (v::us)) (EP X pins σ Q) X.xe s
section
variable{X:Cx}{a b:Expr}{ta tb:TE}{pos:Pos}
theorem HM.or{r r':R2}(h:HM X r)(h':HM X r'):HM X (fun x y H Q=>r x y H Q\/r' x y H Q):=by
 intro value slice pins s σ H x y v u Q I rx ry q hs
 rcases q with q|q
 · exact h value slice pins s σ H x y v u Q I rx ry q hs
 · exact h' value slice pins s σ H x y v u Q I rx ry q hs
theorem HH.or{id:String}{r r':V->List V->Hp->VK->Prop}(h:HH X id r)(h':HH X id r'):HH X id (fun x xs H Q=>r x xs H Q\/r' x xs H Q):=by
 intro pins s σ H x xs v us Q I rx rs q
 rcases q with q|q
 · exact h pins s σ H x xs v us Q I rx rs q
 · exact h' pins s σ H x xs v us Q I rx rs q
theorem rg{r:R2}(hr:HM X r)(ha:PE X a ta)(hb:PE X b tb)(hs:fQ b):PE X (.Subscript a b pos) (Fd r ta tb):=by
 intro pins s σ H Q I h
 exact O2 (B_ ha hb I h fun v u s2 x y H2 I2 rx ry q=>hr a b pins s2 σ H2 x y v u Q I2 rx ry q (hs _ _))
def Dj(K:W.Frag):R2:=fun x y H Q=>∃p xs i v,x = .ref p/\y = .int i/\Hj K H p xs/\atI xs i=some v/\Q v H
def Dh(K:W.Frag):R2:=fun x y H Q=>∃p xs i v,x = .ref p/\y = .int i/\Hi K H p xs/\atI xs i=some v/\Q v H
def Di:R2:=fun x y H Q=>∃z i c,x = .str z/\y = .int i/\z.length<=sizeLine/\atI z.cps.toList i=some c/\Q (.str ⟨#[c]⟩) H
theorem BD:HM X (Dj X.K):=by
 intro value slice pins s σ H x y v u Q I rx ry h hs
 obtain⟨p,xs,i,z,rfl,rfl,hq,he,q⟩:=h
 cases rx
 obtain⟨t,rfl⟩:=ry
 obtain⟨its,r,pl,hz⟩:=I.list hq
 obtain⟨j,h1,h2,h3,h4,h5⟩:=jY he
 obtain⟨w,ew,rw'⟩:=r.get h2
 have hl:=r.length
 have hn:=iS
 have fin:EP X pins σ Q w s:=⟨z,H,I,rw',q⟩
 by_cases h0:0<=i
 · have hj:i.toNat=j:=by
     rw[OC h0 h5]at h1
     exact Jh h1
   exact item_listR pl.isList h0 (by omega) (by rw[hj];simpa using ew) fin hs
 · have hj:(i+(its.toArray.size:Int)).toNat=j:=by
     rw[Pa (by omega) h4]at h1
     rw[IK,<- hl]
     exact Jh h1
   exact NW (x:=w) pl.isList.typeIs slot_list_getitem.lookup
    (wpAny_getItem_list_neg (Q:=fun r s'=>r=w/\EP X pins σ Q r s') pl.isList (by omega) (by rw[IK]<;>omega) (by omega) (by rw[hj];simpa using ew) ⟨rfl,fin⟩) hs
theorem Do:HM X (Dh X.K):=by
 intro value slice pins s σ H x y v u Q I rx ry h hs
 obtain⟨p,xs,i,z,rfl,rfl,hq,he,q⟩:=h
 cases rx
 obtain⟨t,rfl⟩:=ry
 obtain⟨its,r,pl,hz⟩:=I.tuple hq
 obtain⟨j,h1,h2,h3,h4,h5⟩:=jY he
 obtain⟨w,ew,rw'⟩:=r.get h2
 have hl:=r.length
 have hn:=iS
 have fin:EP X pins σ Q w s:=⟨z,H,I,rw',q⟩
 exact NW (x:=w) pl.typeIs slot_tuple_getitem.lookup
  (getItem_tuple (j:=j) (Q:=fun r s'=>r=w/\EP X pins σ Q r s') pl (by omega) (by omega) (by rw[IK,<- hl];exact h1) (by simpa using ew) ⟨rfl,fin⟩) hs
theorem zF:HM X Di:=by
 intro value slice pins s σ H x y v u Q I rx ry h hs
 obtain⟨z,i,c,rfl,rfl,hz,he,q⟩:=h
 obtain⟨t,rfl⟩:=rx
 obtain⟨t',rfl⟩:=ry
 obtain⟨j,h1,h2,h3,h4,h5⟩:=jY he
 have hl:z.cps.toList.length=z.length:=by simp[Str.length]
 rw[hl]at h1 h4 h5
 have hn:=iS
 exact tail_any (typeIs_str s z t) slot_str_getitem.lookup (getItem_str (c:=c) (by
  have e1:decide (i < -(2^63:Int))=false:=decide_eq_false (by omega)
  have e2:decide (i ≥ 2^63)=false:=decide_eq_false (by omega)
  rw[e1,e2,Bool.or_false]) (by rw[h1];simpa using h2) ⟨.str ⟨#[c]⟩,H,I.tok _,⟨_,rfl⟩,q⟩) hs
def FH(K:W.Frag):R2:=fun x y H Q=>Dj K x y H Q\/Dh K x y H Q\/Di x y H Q
theorem ll:HM X (FH X.K):=BD.or (Do.or zF)
theorem mw(its:List Iw)(n j:Nat)(u:Iw):Oo (·.setIfInBounds j u) {cls:=.type "list", data:=.seq its.toArray n}={cls:=.type "list", data:=.seq (its.set j u).toArray n}:=by
 simp[Oo]
theorem Inv.lst{pins:List (Addr×Obj)}{σ:St}{H:Hp}{s:IB}{p:Addr}{xs:List V}(I:Inv X pins σ H s)(h:H p=some (.lst xs)) :
 ∃(its:List Iw)(n:Nat),bQ xs its/\s.heap.get? p=some {cls:=.type "list", data:=.seq its.toArray n}/\xs.length<=sizeLine:=by
 obtain⟨z,its,n,r,e⟩:=I.hok p _ h
 exact⟨its,n,r,e,z⟩
theorem Inv.lstUpd{p:Addr}{xs ys:List V}{its its':List Iw}{n':Nat}{f:Obj->Obj}(I:Inv X pins σ H s)(h:H p=some (.lst xs))
 (ho:s.heap.get? p=some {cls:=.type "list", data:=.seq its.toArray n})(hf:f {cls:=.type "list", data:=.seq its.toArray n}={cls:=.type "list", data:=.seq its'.toArray n' })(r:bQ ys its')(hz:ys.length<=sizeLine)(t:Nat) :
 Inv X pins σ (upd H p (.lst ys)) {s with heap:=s.heap.update p f,toks:=t}:=by
 have e:(s.heap.update p f).get? p=some {cls:=.type "list", data:=.seq its'.toArray n' }:=by
  rw[LG f ho (by rw[hf]<;>rfl),hf]
 refine I.write (x:=p) (e:=p) (by rw[h];trivial) (.inl rfl) (fun b u hb q=>(NX _ _ (L3 hb)).trans q) ⟨_,e⟩ ?_
 exact⟨hz,its',n',r,e⟩
def Bg:V->V->V->Hp->(Hp->Prop)->Prop:=fun o i v H Q=>∃p xs k j,o = .ref p/\i = .int k/\H p=some (.lst xs)/\ixN xs.length k=some j/\Q (upd H p (.lst (xs.set j v)))
theorem kJ:Du X Bg:=by
 intro pins s σ H o i v ov iv u Q I ro ri rv h
 obtain⟨p,xs,k,j,rfl,rfl,hp,hj,q⟩:=h
 cases ro
 obtain⟨t,rfl⟩:=ri
 obtain⟨its,n,r,ho,hz⟩:=I.lst hp
 obtain⟨h1,h2,h3,h4⟩:=pg hj
 have hl:=r.length
 have hn:=iS
 have I':Inv X pins σ (upd H p (.lst (xs.set j v))) {s with heap:=s.heap.update p (Oo (·.setIfInBounds j u))} :=
  I.lstUpd hp ho (mw its n j u) (r.set rv j) (by rw[N6];exact hz) s.toks
 by_cases h0:0<=k
 · have hk:k.toNat=j:=by
     rw[OC h0 h4]at h1
     exact Jh h1
   exact W.ki_setAt ho h0 (by omega) (by rw[IK,<- hl];exact h4) (by rw[hk];exact⟨_,I',q⟩)
 · have hk:(k+(its.toArray.size:Int)).toNat=j:=by
     rw[Pa (by omega) h3]at h1
     rw[IK,<- hl]
     exact Jh h1
   exact W.ki_setBack ho (by omega) (by rw[IK,<- hl];exact h3) (by omega) (by rw[hk];exact⟨_,I',q⟩)
theorem iB(lo hi:Option Int)(n:Nat):(Mr lo hi none n).1=((HT.sIx n 0 lo:Nat):Int)/\(Mr lo hi none n).2.1=((HT.sIx n n hi:Nat):Int)/\(Mr lo hi none n).2.2=1:=by
 refine⟨?_,?_,rfl⟩
 · cases lo with
   | none=>simp[Mr,HT.sIx]
   | some i =>
     simp only[Mr,HT.sIx,Option.getD_none,show(1:Int)>0 by decide,if_true]
     by_cases h:i<0
     · simp only[h,if_true]<;>omega
     · simp only[h,if_false]<;>omega
 · cases hi with
   | none=>simp[Mr,HT.sIx]
   | some i =>
     simp only[Mr,HT.sIx,Option.getD_none,show(1:Int)>0 by decide,if_true]
     by_cases h:i<0
     · simp only[h,if_true]<;>omega
     · simp only[h,if_false]<;>omega
theorem gT(its:List Iw)(lo hi:Option Int):slicePick its.toArray lo hi none=((its.drop (HT.sIx its.length 0 lo)).take (HT.sIx its.length its.length hi-HT.sIx its.length 0 lo)).toArray:=by
 obtain⟨h1,h2,h3⟩:=iB lo hi its.toArray.size
 unfold slicePick
 rw[h1,h2,h3]
 simp only[sliceRange_one,pick_run,IK]<;>rfl
def D1(K:W.Frag):V->Option Int->Option Int->Hp->VK->Prop:=fun x lo hi H Q=>∃a xs,x = .ref a/\Hj K H a xs/\∀p,H p=none->Q (.ref p) (upd H p (.lst (sh xs lo hi)))
theorem u6:Hn X (D1 X.K):=by
 intro pins s σ H x v vl vu lo hi sl Q I rx hs pl pu h
 obtain⟨a,xs,rfl,hx,q⟩:=h
 cases rx
 obtain⟨its,r,ht,hz⟩:=I.list hx
 have hlen:=r.length
 refine⟨"list", _,slot_list_getitem.lookup,ht.isList.typeIs,?_⟩
 refine wpAny_getItem_list_slice ht.isList hs pl pu .none (by simp) ?_ (by rw[IK]<;>omega)
 rw[gT,<- hlen]
 refine⟨.ref s.heap.objs.size,_,I.laid (t':=s.toks) (o:=.lst (sh xs lo hi)) (fun b ob q=>Iu _ q) (ID _) ?_,rfl,q _ (I.hok.fresh (ID _))⟩
 exact⟨Jr (fI xs lo hi) hz,_,0,(r.drop (HT.sIx xs.length 0 lo)).take (HT.sIx xs.length xs.length hi-HT.sIx xs.length 0 lo),IL _ rfl⟩
theorem cy:c_ X (.builtin "len") (fun xs H Q=>∃p ys,xs=[.ref p]/\(Hj X.K H p ys\/Hi X.K H p ys)/\Q (.int ys.length) H):=by
 intro pins s σ H xs us Q I r h
 obtain⟨p,ys,rfl,hq,q⟩:=h
 obtain⟨u,rfl,rx⟩:=vals1 r
 cases rx
 have hn:=iS
 rcases hq with hq|hq
 · obtain⟨its,r',pl,hz⟩:=I.list hq
   have hlen:=r'.length
   exact Calls.call_len_list pl.isList (by simp only[IK]<;>omega) ⟨.int ys.length,H,I.tok _,⟨s.toks+1,by rw[IK,hlen]⟩,q⟩
 · obtain⟨its,r',pl,hz⟩:=I.tuple hq
   have hlen:=r'.length
   exact len_tuple pl (by simp only[IK]<;>omega) ⟨.int ys.length,H,I.tok _,⟨s.toks+1,by rw[IK,hlen]⟩,q⟩
theorem c_.or{f:Iw}{r':List V->Hp->VK->Prop}(h:c_ X f r)(h':c_ X f r'):c_ X f (fun xs H Q=>r xs H Q\/r' xs H Q):=by
 intro pins s σ H xs us Q I rs q
 rcases q with q|q
 · exact h pins s σ H xs us Q I rs q
 · exact h' pins s σ H xs us Q I rs q
theorem i_:c_ X (.type "list") (fun xs H Q=>∃p ys,xs=[.ref p]/\(Hj X.K H p ys\/Hi X.K H p ys)/\∀l,H l=none->Q (.ref l) (upd H l (.lst ys))):=by
 intro pins s σ H xs us Q I r h
 obtain⟨p,ys,rfl,hq,q⟩:=h
 obtain⟨u,rfl,rx⟩:=vals1 r
 cases rx
 have fin:∀(its:List Iw),bQ ys its->ys.length<=sizeLine->∀(h':Heap)(c':Nat),(∀b o',s.heap.get? b=some o'->h'.get? b=some o') ->
  h'.get? s.heap.objs.size=some {cls:=.type "list", dict:=none,data:=.seq its.toArray c',slots:=#[]}->EP X pins σ Q (.ref s.heap.objs.size) {s with heap:=h' }:=fun its r' hz h' c' kp e =>
  ⟨.ref s.heap.objs.size,_,I.laid (t':=s.toks) kp (ID _) (show cz X.prog X.w _ h' _ (.lst ys)from⟨hz,its,c',r',e⟩),rfl,q _ (I.hok.fresh (ID _))⟩
 rcases hq with hq|hq
 · obtain⟨its,r',pl,hz⟩:=I.list hq
   have hlen:=r'.length
   obtain⟨o,ho,hc,n,hd⟩:=pl.isList
   exact call_list_seq p (.inl rfl) ho hc hd (fun h' c' kp e=>fin its r' hz h' c' kp e) (by simp only[IK]<;>omega)
 · obtain⟨its,r',pl,hz⟩:=I.tuple hq
   have hlen:=r'.length
   obtain⟨o,ho,hc,n,hd⟩:=pl
   exact call_list_seq p (.inr rfl) ho hc hd (fun h' c' kp e=>fin its r' hz h' c' kp e) (by simp only[IK]<;>omega)
theorem b9:c_ X (.type "tuple") (fun xs H Q=>∃p ys,xs=[.ref p]/\((Hj X.K H p ys/\∀l,H l=none->Q (.ref l) (upd H l (.tup ys)))\/(Hi X.K H p ys/\Q (.ref p) H))):=by
 intro pins s σ H xs us Q I r h
 obtain⟨p,ys,rfl,h⟩:=h
 obtain⟨u,rfl,rx⟩:=vals1 r
 cases rx
 rcases h with⟨hq,q⟩|⟨hq,q⟩
 · obtain⟨its,r',pl,hz⟩:=I.list hq
   have hlen:=r'.length
   refine call_tuple_list pl.isList (fun h' kp=>?_) (by simp only[IK]<;>omega)
   have I1:Inv X pins σ H {s with heap:=h' }:=I.kept (t':=s.toks) kp
   have I2:Inv X pins σ (upd H h'.objs.size (.tup ys)) {s with heap:=h'.push {cls:=.type "tuple", data:=.seq its.toArray}} :=
    I1.laid (t':=s.toks) (fun b o e=>Iu _ e) (ID _) (show cz X.prog X.w _ _ _ (.tup ys)from⟨hz,its,r',qt.new _ _⟩)
   exact⟨.ref h'.objs.size,_,I2,rfl,q _ (I1.hok.fresh (ID _))⟩
 · obtain⟨its,r',pl,hz⟩:=I.tuple hq
   exact call_tuple_same pl ⟨.ref p,H,I,rfl,q⟩
def E3(K:W.Frag)(T:String)(x:V)(H:Hp):Prop:=match x with
 | .str _=>T = "str"
 | .int _=>T = "int"
 | .ref p=>(T = "list" /\ ∃xs,Hj K H p xs)\/(T = "tuple" /\ ∃xs,Hi K H p xs) \/
     (T = "dict" /\ ((∃kvs,H p=some (.dK kvs))\/∃kvs,H p=some (.dT kvs)))\/(T = "set" /\ ∃S n,H p=some (.set S n))
 | _=>False
theorem ya{T:String}{x:V}{v:Iw}(I:Inv X pins σ H s)(r:RelV x v)(ty:E3 X.K T x H) :
 s.TypeIs v T/\∀a,v = .ref a->∃ob,s.heap.get? a=some ob/\ob.dict=none:=by
 cases x with
 | str z =>
   obtain⟨t,rfl⟩:=r
   cases(show T = "str" from ty)
   exact⟨typeIs_str s z t,fun _ e=>nomatch e⟩
 | int i =>
   obtain⟨t,rfl⟩:=r
   cases(show T = "int" from ty)
   exact⟨Op s i t,fun _ e=>nomatch e⟩
 | ref p =>
   cases r
   rcases ty with⟨rfl,xs,hq⟩|⟨rfl,xs,hq⟩|⟨rfl,hk⟩|⟨rfl,S,n,hk⟩
   · obtain⟨its,_,pl,_⟩:=I.list hq
     refine⟨pl.isList.typeIs,fun a e=>?_⟩
     cases e
     obtain⟨o,n,e,c,hd,_⟩:=pl
     exact⟨o,e,hd⟩
   · obtain⟨o,e1,e2,e3⟩:=I.tupleD hq
     refine⟨⟨o,e1,e2⟩,fun a e=>?_⟩
     cases e
     exact⟨o,e1,e3⟩
   · have z:∃o,s.heap.get? p=some o/\o.ExactDict:=by
       rcases hk with⟨kvs,hk⟩|⟨kvs,hk⟩
       · obtain⟨_,_,_,_,o,_,_,e,ex,_⟩:=I.hok p _ hk
         exact⟨o,e,ex⟩
       · obtain⟨_,_,_,_,o,_,_,e,ex,_⟩:=I.hok p _ hk
         exact⟨o,e,ex⟩
     obtain⟨o,e,ex⟩:=z
     refine⟨⟨o,e,ex.1⟩,fun a e2=>?_⟩
     cases e2
     exact⟨o,e,ex.2.1⟩
   · obtain⟨o,_,_,_,e,ex,_⟩:=I.hok p _ hk
     refine⟨⟨o,e,ex.1⟩,fun a e2=>?_⟩
     cases e2
     exact⟨o,e,ex.2.1⟩
 | _=>exact Jq ty
def Fj(K:W.Frag)(T:String)(r:V->List V->Hp->VK->Prop)(to:TE)(t:TA):TE:=fun σ H Q=>to σ H fun x H1=>E3 K T x H1/\t σ H1 fun xs H2=>r x xs H2 Q
variable{o e:Expr}{es:List Expr}{to:TE}{t:TA}{name:Str}{apos cpos:Pos}{T id:String}{r:V->List V->Hp->VK->Prop}
theorem rn(pa:PlainAttrs T)(slot:Slot T name id)(hty:typeOf (.builtin id)=pure (.type "method_descriptor"))(hm:HH X id r)(ho:PE X o to)(ha:PA X (e::es) t)
 (hbase:Me o name X.env (eval o X.env)=eval o X.env:=by rfl)
 (hfew:((Kh cpos (IC (e::es) X.env)).all (fun x=>!x.1)&&(OW cpos (MT [] X.env)).all (fun x=>x.1.isSome)
  && decide ((e::es).length+([]:List MC).length+(if([]:List MC).isEmpty then 0 else 1)<30))=true:=by rfl)
 (hline:(apos.endLine==cpos.line)=true:=by rfl)(hs:IC (e::es) X.env=(false,eval e X.env)::IC es X.env:=by rfl)(hplain:(Kh cpos (IC es X.env)).any (·.1)=false:=by rfl) :
 PE X (.Call (.Attribute o name apos) (e::es) [] cpos) (Fj X.K T r to t):=by
 intro pins s σ H Q I h
 refine wpAny_Call_method_late hbase hfew hline rfl (E7 (ho pins s σ H _ I h) fun v s1 ⟨x,H1,I1,r1,ty,q1⟩=>?_)
 obtain⟨h1,h2⟩:=ya I1 r1 ty
 refine⟨T,id,pa,slot,hty,h1,h2,?_⟩
 have hA:=ha cpos pins s1 σ H1 _ I1 q1
 rw[hs]at hA ⊢
 refine Calls.callWith_builtin (by show(false||(Kh cpos (IC es X.env)).any (·.1))=false;rw[hplain]<;>rfl) (Calls.evalArgs_plain ?_)
 exact E7 hA fun us s2 ⟨vs,H2,I2,r2,q2⟩=>hm pins s2 σ H2 x vs v us Q I2 r1 r2 q2
end
def HI(X:Cx)(id:String)(r:V->List V->Hp->VK->Prop):Prop :=
 ∀ (pins:List (Addr×Obj))(s:IB)(σ:St)(H:Hp)(x:V)(xs:List V)(v:Iw)(us:List Iw)(Q:VK),Inv X pins σ H s->RelV x v->bQ xs us->r x xs H Q ->
   IT (Jb X.prog X.w) X.A (call (.builtin id) (v::us)) (EP X pins σ Q) X.xe s
theorem bQ.one:∀{x:V}{us:List Iw},bQ [x] us->∃u,us=[u]/\RelV x u
 | _,_,.cons r .nil=>⟨_,rfl,r⟩
theorem bQ.two:∀{x y:V}{us:List Iw},bQ [x,y] us->∃u v,us=[u,v]/\RelV x u/\RelV y v
 | _,_,_,.cons r (.cons q .nil)=>⟨_,_,rfl,r,q⟩
theorem bQ.zero:∀{us:List Iw},bQ [] us->us=[]
 | _,.nil=>rfl
theorem bQ.eraseIdx:∀{xs:List V}{us:List Iw}(i:Nat),bQ xs us->bQ (xs.eraseIdx i) (us.eraseIdx i)
 | _,_,_,.nil=>.nil
 | _,_,0,.cons _ t=>t
 | _,_,i+1,.cons r t=>.cons r (bQ.eraseIdx i t)
theorem bQ.reverse{xs:List V}{us:List Iw}(h:bQ xs us):bQ xs.reverse us.reverse:=by
 induction h with
 | nil=>exact .nil
 | cons r t ih=>rw[LR,LR];exact bQ.append ih (.cons r .nil)
theorem bQ.rep{xs:List V}{us:List Iw}(h:bQ xs us):∀k:Nat,bQ (IH k xs).flatten (IH k us).flatten
 | 0=>.nil
 | k+1=>by
   rw[JJ,JJ,Kw,Kw]
   exact bQ.append h (bQ.rep h k)
theorem iU{α:Type}:∀(l:List α)(i:Nat),(l.eraseIdx i).length<=l.length
 | [],_=>ID _
 | _::_,0=>Nat.le_succ _
 | _::r,i+1=>Nat.succ_le_succ (iU r i)
theorem foldl_rep(its:List Iw):∀(k:Nat)(acc:List Iw),
 Ms (fun x1 x2=>x1++x2) acc.toArray (IH k its.toArray)=(acc++(IH k its).flatten).toArray
 | 0,acc=>by simp
 | k+1,acc=>by
   have e:acc.toArray++its.toArray=(acc++its).toArray:=by simp
   have e2:(acc++its)++(IH k its).flatten=acc++(IH (k+1) its).flatten:=by
    rw[JJ,Kw,LS]
   rw[<- e2,<- foldl_rep its k (acc++its),<- e,JJ,Mf]
section
variable{X:Cx}{pins:List (Addr×Obj)}{σ:St}{H:Hp}{s:IB}{l b:Addr}{xs ys zs:List V}
theorem Inv.lset{its its':List Iw}{f:Array Iw->Array Iw}(I:Inv X pins σ H s)(hH:H l=some (.lst xs))
 (e:s.heap.get? l=some {cls:=.type "list", data:=.seq its.toArray n})(hf:f its.toArray=its'.toArray)(hv:bQ ys its')(hz:ys.length<=sizeLine) :
 Inv X pins σ (upd H l (.lst ys)) {s with heap:=s.heap.update l (Oo f),toks:=t' }:=by
 have q:=PySem.IsL.update e f
 rw[hf]at q
 refine I.write (x:=l) (e:=l) (by rw[hH];exact trivial) (.inl rfl) (fun b' u hb hu=>(NX s.heap (Oo f) (L3 hb)).trans hu) ⟨_,q⟩ ?_
 exact⟨hz,its',_,hv,q⟩
theorem Inv.lnew{its:List Iw}(I:Inv X pins σ H s)(hv:bQ ys its)(hz:ys.length<=sizeLine) :
 Inv X pins σ (upd H s.heap.objs.size (.lst ys)) {s with heap:=s.heap.push {cls:=.type "list", data:=.seq its.toArray},toks:=t' } :=
 I.laid (fun _ _ q=>Iu _ q) (ID _) ⟨hz,its,0,hv,IL _ rfl⟩
theorem Inv.fresh(I:Inv X pins σ H s):H s.heap.objs.size=none:=I.hok.fresh (ID _)
theorem Inv.lstM(I:Inv X pins σ H s)(hH:H l=some (.lst xs)):xs.length<=sizeLine/\∃(its:List Iw)(n:Nat),bQ xs its/\xs.length=its.length/\s.heap.get? l=some {cls:=.type "list", data:=.seq its.toArray n}:=by
 obtain⟨z,its,n,r,e⟩:=I.hok l _ hH
 exact⟨z,its,n,r,r.length,e⟩
theorem rA(h:n<=sizeLine):L6 n=false:=by
 unfold L6
 exact decide_eq_false (by omega)
end
section
variable{X:Cx}
def oA:V->List V->Hp->VK->Prop:=fun x vs H Q=>∃l xs y,x = .ref l/\vs=[y]/\H l=some (.lst xs)/\xs.length<sizeLine/\Q .non (upd H l (.lst (xs++[y])))
theorem dN:HI X "list.append" oA:=by
 intro pins s σ H x vs v us Q I rx rv h
 obtain⟨l,xs,y,rfl,rfl,hH,hz,q⟩:=h
 cases rx
 obtain⟨u,rfl,ru⟩:=rv.one
 obtain⟨z,its,n,r,hl,e⟩:=I.lstM hH
 refine Mt F.slot_list_append ⟨_,e,rfl⟩ F.entry_list_append (F.args_list_append_2 _ _) (PySem.list_append l its.toArray n u (by rw[IK];omega)) ⟨e,?_⟩
 refine⟨.non,_,I.lset (its':=its++[u]) hH e (by simp) (r.append (.cons ru .nil)) ?_,rfl,q⟩
 rw[Jx,N7]
 omega
def oy:V->List V->Hp->VK->Prop:=fun x vs H Q=>∃l xs i k y,x = .ref l/\vs=[.int i]/\H l=some (.lst xs) /\ -(2^63)<=i/\i<2^63/\OV i xs.length=some k/\xs[k]?=some y/\Q y (upd H l (.lst (xs.eraseIdx k)))
theorem k_:HI X "list.pop" oy:=by
 intro pins s σ H x vs v us Q I rx rv h
 obtain⟨l,xs,i,k,y,rfl,rfl,hH,h1,h2,hk,hy,q⟩:=h
 cases rx
 obtain⟨u,rfl,ru⟩:=rv.one
 obtain⟨t,rfl⟩:=ru
 obtain⟨z,its,n,r,hl,e⟩:=I.lstM hH
 obtain⟨w,hw,rw'⟩:=r.get hy
 refine Mt F.slot_list_pop ⟨_,e,rfl⟩ F.entry_list_pop (F.args_list_pop_2 _ _)
  (MeetsSeq.list_pop_at l its.toArray n i t k w (fitsIndex_both h1 h2) (by rw[IK,<- hl];exact hk) (by rw[<- Array.getElem?_toList];exact hw) (by rw[IK];omega)) ⟨e,?_⟩
 refine⟨y,_,I.lset (its':=its.eraseIdx k) hH e ?_ (r.eraseIdx k) ?_,rw',q⟩
 · show its.toArray.eraseIdxIfInBounds k=(its.eraseIdx k).toArray
   rw[List.eraseIdxIfInBounds_toArray]
 · have:=iU xs k
   omega
def Dk:R2:=fun x y H Q=>∃l b xs zs,x = .ref l/\y = .ref b/\H l=some (.lst xs)/\H b=some (.lst zs)/\xs.length+zs.length<=sizeLine/\∀p,H p=none->Q (.ref p) (upd H p (.lst (xs++zs)))
theorem zh:HF X (Lg .Add) Dk:=by
 intro pins s σ H x y v u Q I rx ry h
 obtain⟨l,b,xs,zs,rfl,rfl,hH,hB,hz,q⟩:=h
 cases rx
 cases ry
 obtain⟨z,its,n,r,hl,e⟩:=I.lstM hH
 obtain⟨z2,its2,n2,r2,hl2,e2⟩:=I.lstM hB
 refine PySem.P.add_list e e2 ?_ (by rw[IK,IK];omega)
 have ea:its.toArray++its2.toArray=(its++its2).toArray:=by simp
 rw[ea]
 exact⟨.ref _,_,I.lnew (t':=s.toks) (r.append r2) (by rw[Jx];omega),rfl,q _ I.fresh⟩
def Dg:R2:=fun x y H Q=>∃l k xs,x = .ref l/\y = .int k/\H l=some (.lst xs) /\ -(2^63)<=k/\k<2^63/\xs.length*k.toNat<=sizeLine /\
 ∀p,H p=none->Q (.ref p) (upd H p (.lst (IH k.toNat xs).flatten))
theorem o8(xs:List α)(k:Nat):(IH k xs).flatten.length=k*xs.length:=by
 induction k with
 | zero=>simp
 | succ k ih=>rw[JJ,Kw,Jx,ih,Pb,Nat.add_comm]
theorem zd:HF X (Lg .Mult) Dg:=by
 intro pins s σ H x y v u Q I rx ry h
 obtain⟨l,k,xs,rfl,rfl,hH,h1,h2,hz,q⟩:=h
 cases rx
 obtain⟨t,rfl⟩:=ry
 obtain⟨z,its,n,r,hl,e⟩:=I.lstM hH
 have hlen:its.toArray.size*k.toNat<=sizeLine:=by rw[IK,<- hl];exact hz
 have hcap:¬its.toArray.size*k.toNat>(2^63-1) / 8:=by
  have:(sizeLine:Nat)<=(2^63-1) / 8:=by decide
  omega
 have hfit:¬(!Builtin.List.listFitsIndex k)=true:=by
  rw[fitsIndex_both h1 h2]
  exact Je
 have hlong:¬L6 (its.toArray.size*k.toNat)=true:=by
  rw[rA hlen]
  exact Je
 have hnew:Ms (fun x1 x2=>x1++x2) #[] (IH (if its.toArray.isEmpty=true then 0 else k.toNat) its.toArray)=(IH k.toNat its).flatten.toArray:=by
  have f0:∀m:Nat,Ms (fun x1 x2=>x1++x2) #[] (IH m its.toArray)=(IH m its).flatten.toArray:=fun m=>by
   have:=foldl_rep its m []
   rw[Mg]at this
   exact this
  rw[f0]
  cases its with
  | nil=>simp
  | cons a r'=>rw[if_neg (by simp)]
 refine Nq (T := "list") (U := "int") (by decide) ⟨_,e,rfl⟩ (fun s'=>Op s' k t) noFill_list_mul F.fills_int_mul F.slot_int_rmul repeat_list F.slot_int_index.lookup
  (Mt F.slot_int_rmul (Op s k t) F.entry_int_rmul (F.args_int_rmul_2 _ _) (int___rmul___int_list k t l its.toArray n)
   ⟨e,rfl,⟨_,e,rfl⟩,Mt F.slot_list_mul ⟨_,e,rfl⟩ F.entry_list_mul (F.args_list_mul_2 _ _) (AutoListH.list___mul___list_int_3 l its.toArray n k t hfit hcap hlong) ⟨e,?_⟩⟩)
 rw[hnew]
 exact⟨.ref _,_,I.lnew (t':=s.toks) (r.rep k.toNat) (by rw[o8,N8];exact hz),rfl,q _ I.fresh⟩
end
section
variable{prog:IZ}{w:JN}{A:J4}{E:Iw->IB->Prop}{s:IB}
end
section
variable{X:Cx}
end
section
variable{κ:Type}[DecidableEq κ]
def eC(kvs:List (κ×V))(k:κ):Option V:=(kvs.find? fun kv=>decide (kv.1=k)).map (·.2)
def cU(kvs:List (κ×V))(k:κ)(v:V):List (κ×V) :=
 if(kvs.any fun kv=>decide (kv.1=k))=true then kvs.map (fun kv=>if kv.1=k then(kv.1,v)else kv)else kvs++[(k,v)]
def zT(kvs:List (κ×V))(k:κ):List (κ×V):=kvs.filter fun kv=>decide (kv.1≠k)
theorem da{p:κ×V}{r:List (κ×V)}{k:κ}(e:p.1=k):eC (p::r) k=some p.2:=by simp[eC,JY,e]
theorem gP{p:κ×V}{r:List (κ×V)}{k:κ}(e:¬p.1=k):eC (p::r) k=eC r k:=by simp[eC,JY,e]
theorem kr(k:κ):∀kvs:List (κ×V),(kvs.any fun kv=>decide (kv.1=k))=(eC kvs k).isSome
 | []=>rfl
 | p::r=>by
   rw[LU]
   by_cases e:p.1=k
   · simp only[da e,decide_eq_true e,Bool.true_or,Ng]
   · rw[gP e,decide_eq_false e,Bool.false_or];exact kr k r
theorem cL(kvs:List (κ×V))(k:κ)(v:V):(cU kvs k v).length<=kvs.length+1:=by
 unfold cU
 split
 · rw[IE];omega
 · rw[Jx,Ju,LF];omega
theorem ug.isSome_eq{o:Option V}{u:Option Iw}(r:ug o u):o.isSome=u.isSome:=by
 cases o with
 | none=>cases u with
   | none=>rfl
   | some _=>exact(show False from r).elim
 | some _=>cases u with
   | none=>exact(show False from r).elim
   | some _=>rfl
theorem ug.getD{o:Option V}{u:Option Iw}{d:V}{d':Iw}(r:ug o u)(rd:RelV d d'):RelV (o.getD d) (u.getD d'):=by
 cases o with
 | none=>cases u with
   | none=>exact rd
   | some _=>exact(show False from r).elim
 | some _=>cases u with
   | none=>exact(show False from r).elim
   | some _=>exact r
theorem KV.val{kvs:List (κ×V)}{vs:List (κ×Iw)}(r:KV kvs vs)(k:κ):ug (eC kvs k) (O3 vs k):=by
 unfold KV at r
 induction r with
 | nil=>exact MM
 | @cons p q ps qs h t ih =>
   obtain⟨h1,h2⟩:=h
   by_cases e:p.1=k
   · have e':q.1=k:=h1.symm.trans e
     have b:O3 (q::qs) k=some q.2:=by simp[O3,JY,e']
     rw[da e,b];exact h2
   · have e':¬q.1=k:=fun z=>e (h1.trans z)
     have b:O3 (q::qs) k=O3 qs k:=by simp[O3,JY,e']
     rw[gP e,b];exact ih
theorem KV.any{kvs:List (κ×V)}{vs:List (κ×Iw)}(r:KV kvs vs)(k:κ):(kvs.any fun kv=>decide (kv.1=k))=vs.any fun kv=>decide (kv.1=k):=by
 unfold KV at r
 induction r with
 | nil=>rfl
 | cons h t ih=>rw[LU,LU,ih,h.1]
theorem KV.repl{kvs:List (κ×V)}{vs:List (κ×Iw)}(r:KV kvs vs)(k:κ){y:V}(ry:RelV y u) :
 KV (kvs.map fun kv=>if kv.1=k then(kv.1,y)else kv) (vs.map fun kv=>if kv.1=k then(kv.1,u)else kv):=by
 unfold KV at r ⊢
 induction r with
 | nil=>exact .nil
 | @cons p q ps qs h t ih =>
   rw[IP,IP]
   refine .cons ?_ ih
   obtain⟨h1,h2⟩:=h
   by_cases e:p.1=k
   · rw[if_pos e,if_pos (h1.symm.trans e)];exact⟨h1,ry⟩
   · rw[if_neg e,if_neg (fun z=>e (h1.trans z))];exact⟨h1,h2⟩
theorem KV.put{kvs:List (κ×V)}{vs:List (κ×Iw)}(r:KV kvs vs)(k:κ){y:V}(ry:RelV y u):KV (cU kvs k y) (stored vs k u):=by
 unfold cU stored
 rw[r.any k]
 by_cases e:(vs.any fun kv=>decide (kv.1=k))=true
 · rw[if_pos e,if_pos e];exact r.repl k ry
 · rw[if_neg e,if_neg e];exact Kn.snoc r ⟨rfl,ry⟩
theorem KV.drop{kvs:List (κ×V)}{vs:List (κ×Iw)}(r:KV kvs vs)(k:κ):KV (zT kvs k) (without vs k):=by
 unfold KV at r ⊢
 unfold zT without
 induction r with
 | nil=>exact .nil
 | @cons p q ps qs h t ih =>
   obtain⟨h1,h2⟩:=h
   rw[List.filter_cons,List.filter_cons]
   by_cases e:p.1=k
   · have a:¬decide (p.1≠k)=true:=by simp[e]
     have b:¬decide (q.1≠k)=true:=by simp[h1.symm.trans e]
     rw[if_neg a,if_neg b];exact ih
   · have e':¬q.1=k:=fun z=>e (h1.trans z)
     have a:decide (p.1≠k)=true:=by simp[e]
     have b:decide (q.1≠k)=true:=by simp[e']
     rw[if_pos a,if_pos b];exact .cons ⟨h1,h2⟩ ih
theorem KV.keys{kvs:List (κ×V)}{vs:List (κ×Iw)}(r:KV kvs vs):kvs.map (·.1)=vs.map (·.1):=by
 unfold KV at r
 induction r with
 | nil=>rfl
 | cons h t ih=>rw[IP,IP,ih,h.1]
theorem KV.length{kvs:List (κ×V)}{vs:List (κ×Iw)}(r:KV kvs vs):kvs.length=vs.length:=J6 r
end
theorem mE{w:JN}{k:HJ}(r:RelV (kV k) u):(bC P w).is k u=true:=by
 cases k with
 | inl i=>obtain⟨t,e⟩:=(show ∃t,u=OO i t from r);subst e;exact jK P w i t
 | inr x=>obtain⟨t,e⟩:=(show ∃t,u=Pp x t from r);subst e;exact jJ P w x t
theorem iV{P:IZ}{w:JN}:∀{ks:List HJ}{us:List Iw},bQ (ks.map kV) us->ItemsAre (bC P w) ks us
 | [],_,r=>by rw[Nh]at r;cases r;exact .nil
 | k::ks,_,r=>by
   rw[IP]at r
   cases r with
   | cons h t=>exact .cons (mE h) (iV t)
abbrev KT(H:Hp):List (List HJ×V)->List (List HJ×Addr×Iw)->Prop:=Kn fun p q=>p.1=q.1/\H q.2.1=some (.tup (p.1.map kV))/\RelV p.2 q.2.2
theorem KT.val{xs:List (List HJ×Addr×Iw)}(r:KT H kvs xs)(k:List HJ):ug (eC kvs k) ((PL xs k).map (·.2)):=by
 induction r with
 | nil=>exact MM
 | @cons p q ps qs h t ih =>
   obtain⟨h1,_,h2⟩:=h
   by_cases e:p.1=k
   · have e':q.1=k:=h1.symm.trans e
     have b:PL (q::qs) k=some q.2:=by simp[PL,JY,e']
     rw[da e,b];exact h2
   · have e':¬q.1=k:=fun z=>e (h1.trans z)
     have b:PL (q::qs) k=PL qs k:=by simp[PL,JY,e']
     rw[gP e,b];exact ih
theorem KT.repl{xs:List (List HJ×Addr×Iw)}(r:KT H kvs xs)(k:List HJ){y:V}(ry:RelV y u) :
 KT H (kvs.map fun kv=>if kv.1=k then(kv.1,y)else kv) (xs.map (putAt k u)):=by
 induction r with
 | nil=>exact .nil
 | @cons p q ps qs h t ih =>
   rw[IP,IP]
   refine .cons ?_ ih
   obtain⟨h1,h2,h3⟩:=h
   unfold putAt
   by_cases e:p.1=k
   · rw[if_pos e,if_pos (h1.symm.trans e)];exact⟨h1,h2,ry⟩
   · rw[if_neg e,if_neg (fun z=>e (h1.trans z))];exact⟨h1,h2,h3⟩
theorem KT.put{xs:List (List HJ×Addr×Iw)}(r:KT H kvs xs)(k:List HJ){b:Addr}{y:V}(hb:H b=some (.tup (k.map kV)))(ry:RelV y u) :
 KT H (cU kvs k y) (storedH xs k b u):=by
 have e:(kvs.any fun kv=>decide (kv.1=k))=(PL xs k).isSome:=by
  rw[kr,(r.val k).isSome_eq,Option.isSome_map]
 unfold cU storedH
 rw[e]
 by_cases q:(PL xs k).isSome=true
 · rw[if_pos q,if_pos q];exact r.repl k ry
 · rw[if_neg q,if_neg q];exact Kn.snoc r ⟨rfl,hb,ry⟩
theorem KT.keeps{xs:List (List HJ×Addr×Iw)}(r:KT H kvs xs)(ht:∀b ys,H b=some (.tup ys)->H' b=some (.tup ys)):KT H' kvs xs :=
 Kn.mapP r fun _ _ z=>⟨z.1,ht _ _ z.2.1,z.2.2⟩
section
variable{P:IZ}{w:JN}{H:Hp}{h:Heap}{a:Addr}
theorem yF{u:HO}(ok:HZ P w H h)(e:Rd H a u):cz P w H h a u:=e.ok ok
theorem sd{kvs:List (HJ×V)}(ok:HZ P w H h)(e:Rd H a (.dK kvs)):kvs.length<=sizeLine/\(a==LO)=false/\∃vs,KV kvs vs/\h.DictOf (bC P w) a vs :=
 show cz P w H h a (.dK kvs)from yF ok e
theorem wO{kvs:List (HJ×V)}(ok:HZ P w H h)(e:H a=some (.dK kvs)):kvs.length<=sizeLine/\(a==LO)=false/\∃vs,KV kvs vs/\h.DictOf (bC P w) a vs:=sd ok (.inl e)
theorem lj{ks:List HJ}(ok:HZ P w H h)(e:H a=some (.tup (ks.map kV))):(OP (bC P w)).is h ks a:=by
 obtain⟨_,its,r,o,h1,h2,⟨n,h3⟩,_⟩:=(show cz P w H h a (.tup (ks.map kV))from ok a _ e)
 exact⟨o,its.toArray,n,h1,h2,h3,by simpa using iV r⟩
theorem r_(ok:HZ P w H h)(e:Rd H a (.dT kvs)):kvs.length<=sizeLine/\(a==LO)=false /\
 ∃xs,KT H kvs xs/\h.DictOfH (OP (bC P w)) a xs:=by
 obtain⟨z,y,xs,r,o,es,ep,h1,h2,h3,h4,h5⟩:=(show cz P w H h a (.dT kvs)from yF ok e)
 refine⟨z,y,xs,r,o,es,ep,h1,h2,h3,h4,fun x hx=>?_,h5⟩
 have all:∀{l:List (List HJ×V)}{m:List (List HJ×Addr×Iw)},KT H l m->∀x∈m,(OP (bC P w)).is h x.1 x.2.1:=by
  intro l m q
  induction q with
  | nil=>intro x hx;exact nomatch hx
  | @cons p q ps qs hq t ih =>
    intro x hx
    rcases Jf.mp hx with e|hx
    · subst e
      exact lj ok (by rw[<- hq.1];exact hq.2.1)
    · exact ih x hx
 exact all r x hx
theorem B1(ok:HZ P w H h)(e:H a=some (.dT kvs)):kvs.length<=sizeLine/\(a==LO)=false /\
 ∃xs,KT H kvs xs/\h.DictOfH (OP (bC P w)) a xs:=r_ ok (.inl e)
end
def xn(H:Hp)(a:Addr)(y:V)(r:Option V):Prop :=
 (∃kvs k,Rd H a (.dK kvs)/\y=kV k/\r=eC kvs k)\/∃kvs k b,Rd H a (.dT kvs)/\y = .ref b/\H b=some (.tup (k.map kV))/\r=eC kvs k
def AK(H:Hp)(a:Addr)(y v:V)(H':Hp):Prop :=
 (∃kvs k,H a=some (.dK kvs)/\y=kV k/\kvs.length<sizeLine/\H'=upd H a (.dK (cU kvs k v))) \/
 ∃kvs k b,H a=some (.dT kvs)/\y = .ref b/\H b=some (.tup (k.map kV))/\kvs.length<sizeLine/\H'=upd H a (.dT (cU kvs k v))
theorem xn.k{H:Hp}{a:Addr}{kvs:List (HJ×V)}{k:HJ}(e:H a=some (.dK kvs)):xn H a (kV k) (eC kvs k):=.inl ⟨kvs,k,.inl e,rfl,rfl⟩
theorem xn.t{b:Addr}{k:List HJ}(e:H a=some (.dT kvs))(eb:H b=some (.tup (k.map kV))):xn H a (.ref b) (eC kvs k):=.inr ⟨kvs,k,b,.inl e,rfl,eb,rfl⟩
theorem AK.k{H:Hp}{a:Addr}{kvs:List (HJ×V)}{k:HJ}{v:V}(e:H a=some (.dK kvs))(hl:kvs.length<sizeLine):AK H a (kV k) v (upd H a (.dK (cU kvs k v))):=.inl ⟨kvs,k,e,rfl,hl,rfl⟩
theorem AK.t{b:Addr}{k:List HJ}(e:H a=some (.dT kvs))(eb:H b=some (.tup (k.map kV)))(hl:kvs.length<sizeLine) :
 AK H a (.ref b) v (upd H a (.dT (cU kvs k v))):=.inr ⟨kvs,k,b,e,rfl,eb,hl,rfl⟩
section
variable{X:Cx}{pins:List (Addr×Obj)}{σ:St}{H:Hp}{s:IB}{a:Addr}{y v:V}{u r:Iw}{o:Option V}{A:J4}{E:Iw->IB->Prop}
theorem Inv.big(I:Inv X pins σ H s):LO<s.heap.objs.size:=by
 have h:JI<s.heap.objs.size:=(I.mod.glob.keeps I.bk).lt
 exact N9 (by decide) h
theorem pP(hu:A.units+1<O1)(I:Inv X pins σ H s)(g:xn H a y (some v))(ry:RelV y u)(h:∀w' s',Inv X pins σ H s'->RelV v w'->Q w' s') :
 IT (Jb X.prog X.w) A (MS (.ref a) u) Q E s:=by
 rcases g with⟨kvs,k,e,ey,l⟩|⟨kvs,k,b,e,ey,eb,l⟩
 · subst ey
   obtain⟨z,hd,vs,rel,dd⟩:=sd I.hok e
   obtain⟨w',hw,rw'⟩:=ug.some_of (v:=v) (o:=O3 vs k) (by rw[l];exact rel.val k)
   exact wpAny_getItem_of (mE ry) dd.mapOf hw (h w' _ (I.tok _) rw')
 · subst ey
   cases(show u=KR b from ry)
   obtain⟨z,hd,xs,rel,dd⟩:=r_ I.hok e
   obtain⟨w',hw,rw'⟩:=ug.some_of (v:=v) (o:=(PL xs k).map (·.2)) (by rw[l];exact rel.val k)
   obtain⟨p,hp,hp2⟩:=Mp.mp hw
   refine wpAny_getItem_heap (Ni hu) (lj I.hok eb) dd hp ?_
   rw[hp2]
   exact h w' _ (I.tok _) rw'
theorem Ef(hu:A.units+1<O1)(I:Inv X pins σ H s)(g:xn H a y o)(ry:RelV y u)(h:∀s',Inv X pins σ H s'->Q (.bool o.isSome) s') :
 IT (Jb X.prog X.w) A (KU .In u (.ref a)) Q E s:=by
 rcases g with⟨kvs,k,e,ey,l⟩|⟨kvs,k,b,e,ey,eb,l⟩
 · subst ey
   obtain⟨z,hd,vs,rel,dd⟩:=sd I.hok e
   refine wpAny_in_of (mE ry) hd dd.mapOf ?_
   rw[<- (rel.val k).isSome_eq,<- l]
   exact h _ (I.tok _)
 · subst ey
   cases(show u=KR b from ry)
   obtain⟨z,hd,xs,rel,dd⟩:=r_ I.hok e
   refine wpAny_in_heap (Ni hu) (lj I.hok eb) hd dd ?_
   have q:=(rel.val k).isSome_eq
   rw[Option.isSome_map]at q
   rw[<- q,<- l]
   exact h _ (I.tok _)
theorem fH{ob:HO}(I:Inv X pins σ H s)(mu:HG (H a))(hs:KP a s.heap h')(he:∃q,h'.get? a=some q)(new:cz X.prog X.w (upd H a ob) h' a ob) :
 Inv X pins σ (upd H a ob) {s with heap:=h',toks:=t' } :=
 I.write (x:=a) (e:=a) mu (.inl rfl) (fun b q hb z=>(hs.2 b hb).trans z) he new
theorem dk_new{w:JN}{kvs:List (HJ×V)}{vs:List (HJ×Iw)}(z:kvs.length<=sizeLine)(hd:(a==LO)=false)(rel:KV kvs vs)(dd:h'.DictOf (bC P w) a vs) :
 cz P w H' h' a (.dK kvs):=⟨z,hd,vs,rel,dd⟩
theorem pO{Q:Unit->IB->Prop}(hu:A.units+1<O1)(I:Inv X pins σ H s)(g:AK H a y v H')(ry:RelV y u)(rv:RelV v r)(h:∀s',Inv X pins σ H' s'->Q () s') :
 IT (Jb X.prog X.w) A (PJ (.ref a) u r) Q E s:=by
 rcases g with⟨kvs,k,e,ey,l,eH⟩|⟨kvs,k,b,e,ey,eb,l,eH⟩
 · subst ey eH
   obtain⟨z,hd,vs,rel,dd⟩:=wO I.hok e
   have hz:vs.length<=sizeLine:=by rw[<- rel.length];exact z
   have hl:(cU kvs k v).length<=sizeLine:=by have:=cL kvs k v;omega
   refine wpAny_setItem_pairs (hsz:=hz) (mE ry) dd fun h' dd' hs=>h _ ?_
   have he:∃q,h'.get? a=some q:=let ⟨q,_,_,hq,_⟩:=dd';⟨q,hq⟩
   exact fH I (by rw[e];exact MM) hs he (dk_new hl hd (rel.put k rv) dd')
 · subst ey eH
   cases(show u=KR b from ry)
   obtain⟨z,hd,xs,rel,dd⟩:=B1 I.hok e
   have hz:xs.length<=sizeLine:=by rw[<- J6 rel];exact z
   have hl:(cU kvs k v).length<=sizeLine:=by have:=cL kvs k v;omega
   refine wpAny_setItem_heap (hsz:=hz) (Ni hu) (lj I.hok eb) dd fun h' dd' hs=>h _ ?_
   obtain⟨q,es,ep,hq,h2,h3,h4,_,h5⟩:=dd'
   refine fH I (by rw[e];exact MM) hs ⟨q,hq⟩ ⟨hl,hd,_,(rel.put k eb rv).keeps fun c ys ec=>?_,q,es,ep,hq,h2,h3,h4,h5⟩
   rw[ah (Bu ec e (fun z=>nomatch z))]
   exact ec
end
section
variable{X:Cx}{pins:List (Addr×Obj)}{σ:St}{H:Hp}{s:IB}{a:Addr}{kvs:List (HJ×V)}{k:HJ}{u:Iw}{A:J4}{E:Iw->IB->Prop}
end
def ui(i:Expr):Prop:=∀ov iv,OD i false ov iv=operate [ov,iv] (MS ov iv)
theorem uZ{prog:IZ}{w:JN}{env:Env}{value slice:Expr}{T id:String}
 (hl:On (.type T) "__getitem__" = pure (some (.builtin id)))(hs:ui slice)
 (h:IT (Jb prog w) A (eval value env) (fun o s₁=>IT (Jb prog w) A (eval slice env) (fun i s₂=>s₂.TypeIs o T/\IT (Jb prog w) A (MS o i) Q E s₂) E s₁) E s) :
 IT (Jb prog w) A (eval (.Subscript value slice pos) env) Q E s:=by
 refine O2 (Jl h (fun o s₁ h₁=>Jl h₁ (fun i s₂ h₂=>?_) fun _ _ x=>x) fun _ _ x=>x)
 obtain⟨hT,h₂⟩:=h₂
 unfold OU
 refine Io ?_
 rw[getitemInPython_of_ne hT.not_modules]
 refine Io (MU hT hl ?_)
 have fin:IT (Jb prog w) A (OD slice false o i) (fun r s₃=>IT (Jb prog w) A (letTemporaryGo value o r >>= fun _=>pure r) Q E s₃) E s₂:=by
  rw[hs o i]
  exact wpAny_operating (Jl h₂ (fun r s₃ h₃=>Io (wpAny_letTemporaryGo (IA h₃))) fun _ _ x=>x)
 first
  | exact IA (Io fin)
  | exact Io (IA (Io fin))
  | exact Io fin
theorem jU{y:V}{o:Option V}(I:Inv X pins σ H s)(g:xn H a y o):s.TypeIs (.ref a) "dict" := by
 rcases g with⟨kvs,k,e,_,_⟩|⟨kvs,k,b,e,_,_,_⟩
 · obtain⟨_,_,vs,_,dd⟩:=sd I.hok e
   exact dd.typeIs
 · obtain⟨_,_,xs,_,dd⟩:=r_ I.hok e
   exact dd.typeIs
def yn(td ty:TE):TE:=fun σ H Q=>td σ H fun x H1=>ty σ H1 fun y H2=>∃a v,x = .ref a/\xn H2 a y (some v)/\Q v H2
def DX(ty td:TE):TE:=fun σ H Q=>ty σ H fun y H1=>td σ H1 fun x H2=>∃a o,x = .ref a/\xn H2 a y o/\Q (.bl o.isSome) H2
def Be(td ty tv:TE):TS:=fun D σ H=>tv σ H fun v H1=>td σ H1 fun x H2=>ty σ H2 fun y H3=>∃a H4,x = .ref a/\AK H3 a y v H4/\D.nx σ H4
section
variable{X:Cx}{o i e value:Expr}{pos pos' tpos:Pos}{td ty tv:TE}
theorem fy(hu:X.A.units+1<O1)(ho:PE X o td)(hi:PE X i ty)(hs:ui i):PE X (.Subscript o i pos) (yn td ty):=by
 intro pins s σ H Q I h
 refine uZ PySem.F.slot_dict_getitem.lookup hs (E7 (ho pins s σ H _ I h) fun u s1 ⟨x,H1,I1,rx,q1⟩=>E7 (hi pins s1 σ H1 _ I1 q1) fun iv s2 ⟨y,H2,I2,ry,a,v,ex,g,q2⟩=>?_)
 subst ex
 obtain rfl:u=KR a:=rx
 exact⟨jU I2 g,pP hu I2 g ry fun w' s3 I3 rw'=>⟨v,H2,I3,rw',q2⟩⟩
theorem yX(hu:X.A.units+1<O1)(hi:PE X i ty)(ho:PE X o td):PC X .In i o (DX ty td):=by
 intro pins s σ H Q I h
 refine E7 (hi pins s σ H _ I h) fun iv s1 ⟨y,H1,I1,ry,q1⟩=>E7 (ho pins s1 σ H1 _ I1 q1) fun u s2 ⟨x,H2,I2,rx,a,ov,ex,g,q2⟩=>?_
 subst ex
 obtain rfl:u=KR a:=rx
 exact Ef hu I2 g ry fun s3 I3=>⟨.bl ov.isSome,H2,I3,rfl,q2⟩
theorem jG(hu:X.A.units+1<O1)(ho:PE X o td)(hi:PE X i ty)(hv:PE X value tv)(hs:Ku value (some (.Subscript o i pos')) pos.line X.env=pure false) :
 PS X (.Assign [.Subscript o i pos'] value pos) (Be td ty tv):=by
 intro pins s σ H D I h
 refine wpAny_Assign_Subscript (E7 (hv pins s σ H _ I h) fun r s1 ⟨v,H1,I1,rv,q1⟩=>E7 (ho pins s1 σ H1 _ I1 q1) fun u s2 ⟨x,H2,I2,rx,q2⟩=>E7 (hi pins s2 σ H2 _ I2 q2) fun iv s3 ⟨y,H3,I3,ry,a,H4,ex,g,q3⟩=>?_) hs
 subst ex
 obtain rfl:u=KR a:=rx
 exact pO hu I3 g ry rv fun s4 I4=>⟨σ,H4,I4,q3⟩
end
theorem eS{w:JN}(h:Heap)(hb:LO<h.objs.size):cz P w H (h.push {cls:=.type "dict", data:=.dict #[]}) h.objs.size (.dK []) :=
 ⟨Jz _,beq_eq_false_iff_ne.mpr (L3 (Jt hb)),[],.nil,Heap.DictOf.new h⟩
def ym:TE:=fun _ H Q=>∀p,H p=none->Q (.ref p) (upd H p (.dK []))
section
variable{X:Cx}{pos:Pos}
theorem rj:PE X (.Dict [] [] pos) ym:=fun pins s σ H Q I h =>
 wpAny_Dict_empty ⟨.ref s.heap.objs.size,_,I.laid (a:=s.heap.objs.size) (o:=.dK []) (t':=s.toks) (fun _ _ q=>Iu _ q) (ID _) (eS s.heap I.big),rfl,h _ (I.hok.fresh (ID _))⟩
end
def nP:List (TE×TE)->St->Hp->(List (V×V)->Hp->Prop)->Prop
 | [],_,H,Q=>Q [] H
 | (tk,tv)::r,σ,H,Q=>tk σ H fun x H1=>tv σ H1 fun y H2=>nP r σ H2 fun ps H3=>Q ((x,y)::ps) H3
abbrev VV:List (V×V)->List (Iw×Iw)->Prop:=Kn fun p q=>RelV p.1 q.1/\RelV p.2 q.2
def Hy(X:Cx)(pos:Pos)(keys:List (Option Expr))(values:List Expr)(trs:List (TE×TE)):Prop :=
 ∀ (pins:List (Addr×Obj))(s:IB)(σ:St)(H:Hp)(Q:List (V×V)->Hp->Prop),Inv X pins σ H s->nP trs σ H Q ->
   IT (Jb X.prog X.w) X.A (evalPairs (pairTrees keys values X.env pos)) (fun vs s'=>∃ps H',Inv X pins σ H' s'/\VV ps vs/\Q ps H') X.xe s
theorem oE:Hy X pos [] [] []:=fun pins s σ H Q I h=>pairTrees_nil_walk ⟨[],H,I,.nil,h⟩
theorem cG{k v:Expr}{ks:List (Option Expr)}{vs:List Expr}{tk tv:TE}{trs:List (TE×TE)}(hk:PE X k tk)(hv:PE X v tv)(hr:Hy X pos ks vs trs) :
 Hy X pos (some k::ks) (v::vs) ((tk,tv)::trs):=fun pins s σ H Q I h =>
 pairTrees_cons_walk (E7 (hk pins s σ H _ I h) fun u s1 ⟨x,H1,I1,rx,q1⟩=>E7 (hv pins s1 σ H1 _ I1 q1) fun w2 s2 ⟨y,H2,I2,ry,q2⟩ =>
  E7 (hr pins s2 σ H2 _ I2 q2) fun ws s3 ⟨ps,H3,I3,rel,q3⟩=>⟨(x,y)::ps,H3,I3,.cons ⟨rx,ry⟩ rel,q3⟩)
def dO(kvs more:List (HJ×V)):List (HJ×V):=more.foldl (fun acc kv=>cU acc kv.1 kv.2) kvs
theorem KV.merge:∀{more:List (HJ×V)}{rs:List (HJ×Iw)}{kvs:List (HJ×V)}{vs:List (HJ×Iw)},KV more rs->KV kvs vs->KV (dO kvs more) (merged vs rs):=by
 intro more rs kvs vs r
 unfold KV at r
 induction r generalizing kvs vs with
 | nil=>intro q;exact q
 | @cons p q ps qs h t ih =>
   intro r0
   have e:KV (cU kvs p.1 p.2) (stored vs q.1 q.2):=by
    have:=r0.put p.1 h.2
    rw[<- h.1];exact this
   exact ih e
theorem dP:∀(more kvs:List (HJ×V)),(dO kvs more).length<=kvs.length+more.length
 | [],kvs=>by show kvs.length<=kvs.length+0;omega
 | p::r,kvs=>by
   have h1:=dP r (cU kvs p.1 p.2)
   have h2:=cL kvs p.1 p.2
   show(dO (cU kvs p.1 p.2) r).length<=_
   rw[Ju];omega
theorem gH{P:IZ}{w:JN}:∀{kvs:List (HJ×V)}{ws:List (Iw×Iw)},VV (kvs.map fun kv=>(kV kv.1,kv.2)) ws->∃rs,Carries (bC P w) ws rs/\KV kvs rs
 | [],_,r=>by rw[Nh]at r;cases r;exact⟨[],MM,.nil⟩
 | p::kvs,_,r=>by
   rw[IP]at r
   cases r with
   | @cons a b as bs h t =>
     obtain⟨rs,c,q⟩:=gH (P:=P) (w:=w) t
     obtain⟨b1,b2⟩:=b
     exact⟨(p.1,b2)::rs,⟨mE h.1,rfl,c⟩,.cons ⟨rfl,h.2⟩ q⟩
def Bb(trs:List (TE×TE)):TE:=fun σ H Q=>∀p,H p=none->nP trs σ (upd H p (.dK [])) fun ps H2=>H2 p=some (.dK [])/\∃kvs:List (HJ×V),ps=kvs.map (fun kv=>(kV kv.1,kv.2))/\kvs.length<=15/\Q (.ref p) (upd H2 p (.dK (dO [] kvs)))
theorem oP{keys:List (Option Expr)}{values:List Expr}{trs:List (TE×TE)}(h:Hy X pos keys values trs)(hall:keys.all (·.isSome)=true)(hl:keys.length=values.length)(h0:keys≠[])
 (h15:keys.length<=15):PE X (.Dict keys values pos) (Bb trs):=by
 intro pins s σ H Q I q
 have hn:=I.hok.fresh (ID s.heap.objs.size)
 have I1:=I.laid (a:=s.heap.objs.size) (o:=.dK []) (h':=s.heap.push {cls:=.type "dict", data:=.dict #[]}) (t':=s.toks) (fun _ _ q=>Iu _ q) (ID _) (eS s.heap I.big)
 refine wpAny_Dict_walk (knd:=bC X.prog X.w) hall hl h0 h15 (E7 (h pins _ σ _ _ I1 (q _ hn)) fun ws s2 ⟨ps,H2,I2,rel,e,kvs,ep,lk,q2⟩=>?_)
 subst ep
 obtain⟨rs,c,rk⟩:=gH (P:=X.prog) (w:=X.w) rel
 obtain⟨z,hd,vs0,r0,dd⟩:=wO I2.hok e
 cases r0
 refine⟨rs,c,dd,fun h' dd' hs=>⟨.ref s.heap.objs.size,_,?_,rfl,q2⟩⟩
 have hz:(dO [] kvs).length<=sizeLine:=by
  have h1:=dP kvs []
  rw[LF]at h1
  rw[Ps];omega
 have he:∃q,h'.get? s.heap.objs.size=some q:=let ⟨q,_,_,hq,_⟩:=dd';⟨q,hq⟩
 exact fH I2 (by rw[e];exact MM) hs he (dk_new hz hd (rk.merge .nil) dd')
structure M1 (X:Cx) (o:Expr) (m:Str) (apos:Pos) (e:Expr) (cpos:Pos):Prop where
 base:Me o m X.env (eval o X.env)=eval o X.env
 few:((Kh cpos (IC [e] X.env)).all (fun x=>!x.1)&&(OW cpos (MT [] X.env)).all (fun x=>x.1.isSome)
  && decide (([e]:List Expr).length+([]:List MC).length+(if([]:List MC).isEmpty then 0 else 1)<30))=true
 line:(apos.endLine==cpos.line)=true
 trees:Kh cpos (IC [e] X.env)=[(false,eval e X.env)]
section
variable{X:Cx}{pins:List (Addr×Obj)}{σ:St}{H:Hp}{s:IB}{a:Addr}{y d:V}{u r:Iw}{o:Option V}{A:J4}{E:Iw->IB->Prop}
end
section
variable{X:Cx}{o e f:Expr}{apos cpos:Pos}{td ty tx:TE}
end
section
variable{X:Cx}{pins:List (Addr×Obj)}{σ:St}{H:Hp}{s:IB}{a:Addr}{kvs:List (HJ×V)}{A:J4}{E:Iw->IB->Prop}
end
section
variable{X:Cx}{pins:List (Addr×Obj)}{σ:St}{H:Hp}{s:IB}{a:Addr}{y:V}{u:Iw}{A:J4}{E:Iw->IB->Prop}
end
end L2
namespace Att
open PySem PySem.W PySem.Calls PyProof.Rows
theorem fC{P:PF}:∀(ns:List Int)(vs:List Iw),WellAll P h vs (ns.map WData.int)->OE vs ns:=by
 intro ns
 induction ns with
 | nil =>
   intro vs w
   rw[Nh]at w
   cases w
   exact .nil
 | cons n ns ih =>
   intro vs w
   rw[IP]at w
   cases w with
   | cons a b =>
     cases a
     exact .cons _ _ (ih _ b)
theorem nY{l:PH}(hn:l.most=some n){P:PF}{args:List WData}{vals:List Iw}
 (hpre:l.row.toRowW.claim.pre args=true)(hwl:WellAll P h vals args) :
 ∃a vs ns,vals=[KR a]/\args=[WData.list (ns.map WData.int)]/\h.get? a=some {cls:=.type "list", data:=.seq vs.toArray}/\OE vs ns/\ns.length<=n:=by
 have hsh:WShape.hasAll [] args [.list .int]=true:=(pre_splitW hpre).1
 have hc:l.pre.holds [] {args:=args}=true:=(pre_splitW hpre).2
 obtain⟨d,r,rfl,h1,h2⟩:=hasAllW_cons hsh
 obtain rfl:=hasAllW_nil h2
 obtain⟨xs,rfl,h3⟩:=hasW_list h1
 obtain⟨ns,rfl⟩:=items_int h3
 have hlen:ns.length<=n:=by
  unfold PH.pre at hc
  have h4:(WTm.not (.lt (.lit (.int (n:Int))) (.len (.arg 0)))).holds [] {args:=[.list (ns.map .int)]}=true:=by
   have h4:=(holds_andW hc).1
   rw[hn]at h4
   exact h4
  have h5:=condW_of h4 (w_not (w_lt w_lit (w_len_list (w_arg rfl))))
  rw[IE]at h5
  refine Nat.le_of_not_lt fun q=>?_
  have q':(n:Int)<((ns.length:Nat):Int):=by omega
  first
   | (rw[decide_eq_true q']at h5;exact absurd h5 (by decide))
   | (simp at h5;omega)
 cases hwl with
 | cons w1 w2 =>
   cases w2
   cases w1 with
   | list ho hall=>exact⟨_,_,ns,rfl,rfl,ho,fC ns _ hall,hlen⟩
theorem oF(l:PH)(args:List WData):l.row.toRowW.claim.post args (.bool true) args=true :=
 postW_of (r:=l.row.toRowW) (X:=(true==true))
  (show WShape.has [] (.bool true) .bool=true by first|rfl|decide|simp[WShape.has,WShape.arms,WShape.armsAll])
  (show(WTm.eq .res (.lit (.bool true))).value [] {args:=args,res:=some (.bool true),after:=args}=some (.bool (true==true))from w_eq_bool (w_res rfl) w_lit) rfl
theorem attach_call{l:PH}{q:IZ}{loose:List Str}{XP:(Str->Option Iw)->Heap->Prop}{YP:JN->Heap->Prop}{d:DefRec}
 (hn:l.most=some n)(hdf:d.params.defaults=[])
 (call:∀(w:JN)(s₀ s₁:IB)(mg mb:Str->Option Iw)(fa:Addr)(o:Obj)(pm cd doc:Iw)(a:Addr)(vs:List Iw)(ns:List Int),
  Ground q loose [] XP w s₀ mg mb s₁.heap->YP w s₁.heap ->
  s₁.heap.get? fa=some o->o.data = .func (docDef d.name d.params d.body d.scope pm cd doc)->s₁.heap.CodeRec cd d.name->mg d.name=some (.ref fa) ->
  s₁.heap.get? a=some {cls:=.type "list", data:=.seq vs.toArray}->OE vs ns->ns.length<=n->s₁.gens = #[] ->
  KZ (Jb l.prog w) O4 (.call (.ref fa) ⟨[.ref a],[]⟩) (fun r s'=>r = .ok (.ret (.bool true))/\OldK s₁.heap s'.heap/\s'.os=s₁.os/\Oy s'.gens) s₁) :
 WalkO q loose XP YP l.row.toRowW d [] (fun f vs=>PySem.call f vs):=by
 intro w s₀ s₁ mg mb G Y fa o pm cd doc dV kV ho hd hcd hD hmg hg args vals as hpre hlay hrd hwl hlo
 obtain rfl:dV = .none:=Dflts.none hD hdf
 obtain rfl:kV = .none:=Dflts.noKw hD
 obtain⟨a,vs,ns,rfl,rfl,hobj,hints,hlen⟩:=nY hn hpre hwl
 refine enter_call (Nc (call w s₀ s₁ mg mb fa o pm cd doc a vs ns G Y ho (fd_plain hd) hcd hmg hobj hints hlen hg) fun r s' hq=>?_)
 obtain⟨rfl,h2,h3,h4⟩:=hq
 exact⟨.inl ⟨.bool true,.bool true,[],rfl,fun _=>rfl,.bool true,oF l _,fun _=>⟨Nz,fun _ hm=>(nomatch hm)⟩⟩,h2,h3,h4⟩
section
variable{prog:IZ}{w:JN}{A:J4}{E:Iw->IB->Prop}{s:IB}{K:Frag}
end
end Att
namespace L2
theorem iq:∀{vs:List Iw}{ns:List Int},OE vs ns->bQ (ns.map V.int) vs
 | _,_,.nil=>.nil
 | _,_,.cons n t h=>.cons ⟨t,rfl⟩ (iq h)
def Cd(H:Hp):Prop:=∀b,H b=none\/∃o xs,H b=some (.frz o (.lst xs))
theorem rJ{w:JN}{K:W.Frag}{mg mb:Str->Option Iw}{CX:Ia}{k:Nat}{fa:Addr}{x:Str}{sp:Sp}{s₁:IB}{vs:List Iw}{ns:List Int}
 (KX:K.In s₁.heap)(hns:s₁.heap.Ns JI mg)(hb:s₁.heap.Ns builtinsNs mb)(hbb:∀x:Str,x ≠ "__name__" -> mb x=LB x)(hlim:s₁.heap.NoLimit)(hg:s₁.gens = #[])
 (ha:s₁.heap.get? a=some {cls:=.type "list", data:=.seq vs.toArray})(hi:OE vs ns)(hl:ns.length<=sizeLine)(hr:Room k O4)
 (F:∀base:Heap,K.In base->base.Ns JI mg->FnOk P w K mg base CX k fa fd [x] sp)(hbind:∀(s:IB)(u:Iw),Pu s fd ⟨[u],[]⟩ [(x,u)])
 (hsp:∀H:Hp,Cd H->Hj K H a (ns.map V.int)->sp [.ref a] H (fun v _=>v = .bl true) fun _ _ _=>False)
 (hCX:∀H e s',CX [] H s₁ (fun _ _ _=>False) e s'->False) :
 KZ (Jb P w) O4 (.call (.ref fa) ⟨[.ref a],[]⟩) (fun r s'=>r = .ok (.ret (.bool true))/\OldK s₁.heap s'.heap/\s'.os=s₁.os/\Oy s'.gens) s₁:=by
 have rv:=iq hi
 have lenV:=hi.length
 have core:∀H:Hp,Cd H->Hj K H a (ns.map V.int)->HZ P w H s₁.heap->(∀b,H b≠none->b=a)->(H a≠none->K.lookup a=none) ->
  KZ (Jb P w) O4 (.call (.ref fa) ⟨[.ref a],[]⟩) (fun r s'=>r = .ok (.ret (.bool true))/\OldK s₁.heap s'.heap/\s'.os=s₁.os/\Oy s'.gens) s₁:=by
  intro H hO hS hok hA hK
  have base_of:∀{b:Addr}{o:Obj},s₁.heap.get? b=some o->H b=none->(rP s₁.heap H).get? b=some o:=fun e n=>rO e n
  have noA:∀{b:Addr}{o:Obj}{es:Array DictEntry}{ep:Nat},s₁.heap.get? b=some o->o.data = .dict es ep->H b=none:=fun{b o es ep} e d=>by
   cases q:H b with
   | none=>rfl
   | some u =>
     have e':b=a:=hA b (by rw[q];simp)
     subst e'
     rw[ha]at e;cases e
     have d':Data.seq vs.toArray _=Data.dict es ep:=d
     cases d'
  have nsK:∀{b:Addr}{m:Str->Option Iw},s₁.heap.Ns b m->(rP s₁.heap H).Ns b m:=fun{b m} ⟨o,es,ep,e,d,r⟩=>⟨o,es,ep,base_of e (noA e d),d,r⟩
  have hKb:K.In (rP s₁.heap H):=fun b o e=>base_of (KX b o e) (by
   cases q:H b with
   | none=>rfl
   | some u =>
     have e':b=a:=hA b (by rw[q];simp)
     subst e'
     rw[hK (by rw[q];simp)]at e;cases e)
  have hM:Mod K mg (rP s₁.heap H):=⟨hKb,nsK hns,⟨mb,nsK hb,hbb⟩,let ⟨mc,h1,h2⟩:=hlim;⟨mc,nsK h1,h2⟩⟩
  have e0:Env0 P w K mg (rP s₁.heap H) O4 [] s₁ H:=⟨rfl,hM,fun b o e=>vX e,Nat.le_of_eq (pz _ _),trivial,fun b hb=>absurd (show b∈([]:List Addr)from hb) (by simp),hok,.of_eq hg⟩
  refine Nc ((F _ hKb (nsK hns)).run O4 [] s₁ H ⟨[.ref a],[]⟩ [.ref a] [.ref a] _ _ hr e0 (hbind s₁ (.ref a)) (.cons rfl .nil) (hsp H hO hS)) fun r s' h=>?_
  cases r with
  | error e=>exact(hCX H e s' h).elim
  | ok fl =>
    cases fl with
    | next=>exact Jq h
    | brk=>exact Jq h
    | cont=>exact Jq h
    | ret u =>
      obtain⟨v,H',os,bare,un,hok',r',q⟩:=h
      have q':v = .bl true:=q
      subst q'
      obtain rfl:u=Iw.bool true:=r'
      refine⟨rfl,OldK.of_keep fun b o e=>?_,os,bare⟩
      cases q:H b with
      | none=>exact un.keep b o e q (by intro z;exact absurd (show b∈([]:List Addr)from z) (by simp)) (by simp)
      | some u =>
        rcases hO b with z|⟨ob,xs,z⟩
        · rw[q]at z;cases z
        · have z2:=un.frzs b ob _ z
          obtain⟨e1,_⟩:=hok b _ z
          obtain⟨e2,_⟩:=hok' b _ z2
          rw[e]at e1;cases e1
          exact e2
 cases hk:K.lookup a with
 | some o =>
   have e:=KX a o hk
   rw[ha]at e
   cases e
   refine core (fun _=>none) (fun _=>.inl rfl) (.inr ⟨_,vs.toArray,_,hk,rfl,rfl,rfl,by rw[IK,lenV];exact hl,by simpa using rv⟩) (fun b u z=>by have z':(none:Option HO)=some u:=z;cases z') (fun b z=>absurd rfl z) fun z=>absurd rfl z
 | none =>
   refine core (fun b=>if b=a then some (.frz {cls:=.type "list", data:=.seq vs.toArray} (.lst (ns.map V.int)))else none) (fun b=>?_) (.inl (.inr ⟨{cls:=.type "list", data:=.seq vs.toArray},if_pos rfl⟩)) (fun b u z=>?_) (fun b z=>?_) fun _=>hk
   · by_cases hb:b=a
     · exact .inr ⟨_,_,if_pos hb⟩
     · exact .inl (if_neg hb)
   · by_cases hb:b=a
     · have z':=(if_pos hb).symm.trans z
       cases z'
       subst hb
       exact⟨ha,by rw[IE];exact hl,vs,_,rv,ha⟩
     · have z':=(if_neg hb).symm.trans z
       cases z'
   · by_cases hb:b=a
     · exact hb
     · exact absurd (if_neg hb) z
theorem walk_of{l:W.OpenLaw}{k:Nat}{q:IZ}{loose:List Str}{XP:(Str->Option Iw)->Heap->Prop}{YP:JN->Heap->Prop}{d:DefRec}{K:PF->W.Frag}{CX:JN->Ia}{sp:JN->Sp}{x:Str}
 (hn:l.most=some n)(hn2:n<=sizeLine)(hdf:d.params.defaults=[])(hr:Room k O4)
 (hY:∀(w:JN)(h:Heap),YP w h->(K w.params).In h)
 (F:∀(w:JN)(mg:Str->Option Iw)(fa:Addr)(h:Heap),(K w.params).In h->h.Ns JI mg->mg d.name=some (.ref fa) ->
  ∃ fd:KO,(∀(s:IB)(u:Iw),Pu s fd ⟨[u],[]⟩ [(x,u)]) /\
    ∀base:Heap,(K w.params).In base->base.Ns JI mg->FnOk l.prog w (K w.params) mg base (CX w) k fa fd [x] (sp w))
 (hsp:∀(w:JN)(H:Hp)(a:Addr)(ns:List Int),ns.length<=n->Cd H->Hj (K w.params) H a (ns.map V.int)->sp w [.ref a] H (fun v _=>v = .bl true) fun _ _ _=>False)
 (hCX:∀(w:JN)(H:Hp)(s:IB)(e:Iw)(s':IB),CX w [] H s (fun _ _ _=>False) e s'->False) :
 W.WalkO q loose XP YP l.row.toRowW d [] (fun f vs=>PySem.call f vs):=by
 refine Att.attach_call hn hdf fun w s₀ s₁ mg mb fa o pm cd doc a vs ns G Y ho hd hcd hmg hobj hints hlen hg=>?_
 have KX:=hY w _ Y
 obtain⟨fd,hb,hF⟩:=F w mg fa _ KX G.T.g hmg
 exact rJ KX G.T.g G.T.b G.T.builtins G.T.nolimit hg hobj hints (Jr hlen hn2) hr hF hb (fun H hO hS=>hsp w H a ns hlen hO hS) fun H e s'=>hCX w H s₁ e s'
abbrev Ib:Ia:=fun _ _ _ _ _ _=>False
abbrev E0:XK:=fun _ _ _=>False
theorem me:qr Ib X E0:=fun _ _ _ _ _ _ _ h=>h.elim
structure Fun (K:W.Frag) (x qual:Str) (st:Stmt) (f:Addr) (fd:KO):Prop where
 ex:∃(oc:Iw)(od:Option Addr)(kV doc pm:Iw)(an:Option Addr)(cdv ct:Iw)(osl:Array (Option Iw)),
  fd=W.fnOf x qual (defArgs st) (defBody st) (defScope st) .none kV doc pm an cdv ct/\K.lookup f=some ⟨oc,od,.func fd,osl⟩/\W.codeIn K cdv qual=true
 kp:W.keepIn K (.ref f)=true
section
variable{P:IZ}{w:JN}{K:W.Frag}{mg:Str->Option Iw}{base:Heap}
theorem Fun.ok{x qual:Str}{st:Stmt}{f:Addr}{N ps:List Str}{k:Nat}{sp:Sp}(F:Fun K x qual st f fd)(S:FnScope N ps (defScope st))(len:∀vs H Q E,sp vs H Q E->vs.length=ps.length)
 (hbody:∀(cdv:Iw)(A:J4)(outer:List Env)(s:IB)(H:Hp)(vs:List V)(Q:VK)(E:XK),Room k (A.deeper (MR qual (defScope st) s.heap.objs.size f cdv))->sp vs H Q E ->
  ∃t,Hv (lA Ib P w K mg base N qual (defScope st) f cdv A outer s H E).nox (defBody st) t/\t {nx:=fun _ H'=>Q .non H',rt:=Q} (start N vs) H):FnOk P w K mg base Ib (k+1) f fd ps sp:=by
 obtain⟨oc,od,kV,doc,pm,an,cdv,ct,osl,rfl,lk,hcd⟩:=F.ex
 refine BX lk hcd S len fun A outer s H vs Q E hr hsp=>?_
 obtain⟨t,h,q⟩:=hbody cdv A outer s H vs Q E hr hsp
 exact⟨t,h.nox,q⟩
theorem Fun.binds{x qual:Str}{st:Stmt}{f:Addr}{ps:List Str}(F:Fun K x qual st f fd)
 (h:∀(kV doc pm:Iw)(an:Option Addr)(cdv ct:Iw)(us:List Iw),us.length=ps.length->bindArgs (W.fnOf x qual (defArgs st) (defBody st) (defScope st) .none kV doc pm an cdv ct) ⟨us,[]⟩=pure (ps.zip us)):Binds K fd ps []:=by
 obtain⟨oc,od,kV,doc,pm,an,cdv,ct,osl,rfl,lk,hcd⟩:=F.ex
 exact .all (h kV doc pm an cdv ct)
theorem pF{x qual:Str}{st:Stmt}{f:Addr}{oc:Iw}{od an:Option Addr}{osl:Array (Option Iw)}{kV doc pm cdv ct:Iw}(l:K.lookup f=some ⟨oc,od,.func (W.fnOf x qual (defArgs st) (defBody st) (defScope st) .none kV doc pm an cdv ct),osl⟩)
 (c:W.codeIn K cdv qual=true)(k:W.keepIn K (.ref f)=true):Fun K x qual st f (W.fnOf x qual (defArgs st) (defBody st) (defScope st) .none kV doc pm an cdv ct):=⟨⟨oc,od,kV,doc,pm,an,cdv,ct,osl,rfl,l,c⟩,k⟩
end
theorem mF{k:Nat}(hr:Room k A):A.units+1<O1:=K5 (Nat.add_le_add_left (by decide:1<=64) _) hr.units
theorem iz(h:n<=1000):n<sizeLine:=K5 h (by decide)
section
variable{X:Cx}
theorem pv(i:Nat){x:Str}(hN:X.N[i]?=some x:=by rfl)(hv:G6 X.env.scope x:=by first|exact J8 rfl|exact Jw (J8 rfl)|exact Jw (Jw rfl))(hd:(x==("__debug__" : Str))=false:=by decide)
 (hcd:(x==("__classdict__" : Str))=false:=by decide):PE X (.Name x pos) (qL i):=bH hN hv hd hcd
end
def bm(H H':Hp):Prop:=∀b o,H b=some o->H' b=some o
theorem bm.refl(H:Hp):bm H H:=fun _ _ h=>h
theorem bm.trans{H1 H2:Hp}(a:bm H H1)(b:bm H1 H2):bm H H2:=fun c o h=>b c o (a c o h)
theorem bm.free(e:bm H H'){l:Addr}(h:H' l=Option.none):H l=Option.none:=by
 cases q:H l with
 | none=>rfl
 | some o =>
   rw[e l o q]at h
   cases h
theorem bm.seq{K:W.Frag}{xs:List V}(e:bm H H')(h:Hj K H a xs):Hj K H' a xs:=by
 rcases h with(h|⟨o,h⟩)|h
 · exact .inl (.inl (e _ _ h))
 · exact .inl (.inr ⟨o,e _ _ h⟩)
 · exact .inr h
section
variable{X:Cx}
end
section
variable{κ:Type}[DecidableEq κ]
end
end L2
namespace L2.VL
structure RlT where
 a:Option Addr
 b:Nat
abbrev RlT.no:RlT:=⟨none,0⟩
abbrev RlT.at'(r:Addr)(b:Nat):RlT:=⟨some r,b⟩
def BM:Nat:=2^50000
def RO(b:Nat)(_:Hp)(o:HO):Prop:=∃(c l t:Int),o = .dK [(Lb "cell", .int c),(Lb "left", .int l),(Lb "turn", .int t)]/\0<=l/\0<=t/\t+b<2^59990
theorem RO.mono{b:Nat}{o:HO}(s:bm F F')(h:RO b F o):RO b F' o:=h
theorem RO.pay{b b':Nat}{o:HO}(s:b'<=b)(h:RO b F o):RO b' F o:=by
 obtain⟨c,l,t,e,h1,h2,h3⟩:=h
 exact⟨c,l,t,e,h1,h2,by omega⟩
mutual
inductive Rep (K:W.Frag) (F:Hp):V->Im->Prop
 | non:Rep K F .non .none
 | bl (b:Bool):Rep K F (.bl b) (.bool b)
 | int (i:Int):Rep K F (.int i) (.int i)
 | str (x:Str):Rep K F (.str x) (.str x)
 | tup {a:Addr} {vs:List V} {ds:List Im}:Hi K F a vs->Reps K F vs ds->Rep K F (.ref a) (.tuple ds)
 | lst {a:Addr} {vs:List V} {ds:List Im}:F a=some (.lst vs)->Reps K F vs ds->Rep K F (.ref a) (.list ds)
inductive Reps (K:W.Frag) (F:Hp):List V->List Im->Prop
 | nil:Reps K F [] []
 | cons {v:V} {d:Im} {vs:List V} {ds:List Im}:Rep K F v d->Reps K F vs ds->Reps K F (v::vs) (d::ds)
end
theorem dg{K:W.Frag}{xs:List V}(e:bm H H')(h:Hi K H a xs):Hi K H' a xs:=by
 rcases h with(h|⟨o,h⟩)|h
 · exact .inl (.inl (e _ _ h))
 · exact .inl (.inr ⟨o,e _ _ h⟩)
 · exact .inr h
theorem iJ{K:W.Frag}{xs:List V}(e:bm H H')(h:Hj K H a xs):Hj K H' a xs:=by
 rcases h with(h|⟨o,h⟩)|h
 · exact .inl (.inl (e _ _ h))
 · exact .inl (.inr ⟨o,e _ _ h⟩)
 · exact .inr h
mutual
theorem Rep.mono{K:W.Frag}{F F':Hp}(s:bm F F'):∀{v:V}{d:Im},Rep K F v d->Rep K F' v d
 | _,_,.non=>.non
 | _,_,.bl b=>.bl b
 | _,_,.int i=>.int i
 | _,_,.str x=>.str x
 | _,_,.tup h r=>.tup (dg s h) (Reps.mono s r)
 | _,_,.lst h r=>.lst (s _ _ h) (Reps.mono s r)
theorem Reps.mono{K:W.Frag}{F F':Hp}(s:bm F F'):∀{vs:List V}{ds:List Im},Reps K F vs ds->Reps K F' vs ds
 | _,_,.nil=>.nil
 | _,_,.cons h r=>.cons (Rep.mono s h) (Reps.mono s r)
end
theorem Reps.length{K:W.Frag}{F:Hp}:∀{vs:List V}{ds:List Im},Reps K F vs ds->vs.length=ds.length
 | _,_,.nil=>rfl
 | _,_,.cons _ r=>by simp[Reps.length r]
theorem Reps.get{K:W.Frag}{F:Hp}:∀{vs:List V}{ds:List Im}{i:Nat}{d:Im},Reps K F vs ds->ds[i]?=some d->∃v,vs[i]?=some v/\Rep K F v d
 | _,_,_,_,.nil,e=>by simp at e
 | _,_,0,_,.cons h _,e=>by simp at e;subst e;exact⟨_,rfl,h⟩
 | _,_,i+1,d,.cons _ r,e=>by
   obtain⟨v,h1,h2⟩:=Reps.get (i:=i) (d:=d) r (by simpa using e)
   exact⟨v,by simpa using h1,h2⟩
theorem Reps.getV{K:W.Frag}{F:Hp}:∀{vs:List V}{ds:List Im}{i:Nat}{v:V},Reps K F vs ds->vs[i]?=some v->∃d,ds[i]?=some d/\Rep K F v d
 | _,_,_,_,.nil,e=>by simp at e
 | _,_,0,_,.cons h _,e=>by simp at e;subst e;exact⟨_,rfl,h⟩
 | _,_,i+1,d,.cons _ r,e=>by
   obtain⟨v,h1,h2⟩:=Reps.getV (i:=i) (v:=d) r (by simpa using e)
   exact⟨v,by simpa using h1,h2⟩
theorem Reps.append{K:W.Frag}{F:Hp}:∀{vs us:List V}{ds es:List Im},Reps K F vs ds->Reps K F us es->Reps K F (vs++us) (ds++es)
 | _,_,_,_,.nil,s=>s
 | _,_,_,_,.cons h r,s=>.cons h (Reps.append r s)
theorem Reps.snoc{K:W.Frag}{ds:List Im}(r:Reps K F vs ds)(h:Rep K F v d):Reps K F (vs++[v]) (ds++[d]):=r.append (.cons h .nil)
theorem Reps.take{K:W.Frag}{F:Hp}:∀{vs:List V}{ds:List Im}(n:Nat),Reps K F vs ds->Reps K F (vs.take n) (ds.take n)
 | _,_,0,_=>.nil
 | _,_,_+1,.nil=>.nil
 | _,_,n+1,.cons h r=>.cons h (Reps.take n r)
theorem Reps.drop{K:W.Frag}{F:Hp}:∀{vs:List V}{ds:List Im}(n:Nat),Reps K F vs ds->Reps K F (vs.drop n) (ds.drop n)
 | _,_,0,r=>r
 | _,_,_+1,.nil=>.nil
 | _,_,n+1,.cons _ r=>Reps.drop n r
theorem Reps.nil_iff{K:W.Frag}(h:Reps K F vs []):vs=[]:=by cases h;rfl
mutual
theorem Rep.reads{X:Cx}{pins:List (Addr×Obj)}{σ:St}{H F:Hp}{s:IB}(I:Inv X pins σ H s)(sub:bm F H):∀{v:V}{d:Im},Rep X.K F v d->∀u,RelV v u->∃as,Reads s.heap u d as
 | _,_,.non,u,r=>by cases(show u=Lz from r);exact⟨_,.none⟩
 | _,_,.bl b,u,r=>by cases(show u=Iw.bool b from r);exact⟨_,.bool b⟩
 | _,_,.int i,u,r=>by obtain⟨t,q⟩:=(show ∃t,u=OO i t from r);cases q;exact⟨_,.int i t⟩
 | _,_,.str x,u,r=>by obtain⟨t,q⟩:=(show ∃t,u=Pp x t from r);cases q;exact⟨_,.str x t⟩
 | _,_,.tup (a:=a) h q,u,r=>by
   cases(show u=KR a from r)
   obtain⟨its,rv,⟨o,h1,h2,n,h3⟩,hz⟩:=I.tuple (dg sub h)
   obtain⟨as,ra⟩:=Reps.reads I sub q its rv
   exact⟨_,.tuple h1 h2 h3 (by simpa using ra)⟩
 | _,_,.lst (a:=a) h q,u,r=>by
   cases(show u=KR a from r)
   obtain⟨its,rv,p,hz⟩:=I.list (.inl (.inl (sub _ _ h)))
   obtain⟨o,h1,h2,n,h3⟩:=p.isList
   obtain⟨as,ra⟩:=Reps.reads I sub q its rv
   exact⟨_,.list h1 h2 h3 (by simpa using ra)⟩
theorem Reps.reads{X:Cx}{pins:List (Addr×Obj)}{σ:St}{H F:Hp}{s:IB}(I:Inv X pins σ H s)(sub:bm F H):∀{vs:List V}{ds:List Im},Reps X.K F vs ds->∀us,bQ vs us->∃as,ReadsAll s.heap us ds as
 | _,_,.nil,us,r=>by cases r;exact⟨_,.nil⟩
 | _,_,.cons h q,us,r=>by
   cases r with
   | cons r1 r2 =>
     obtain⟨as,a1⟩:=Rep.reads I sub h _ r1
     obtain⟨bs,a2⟩:=Reps.reads I sub q _ r2
     exact⟨_,.cons a1 a2⟩
end
structure ReelOk (b:Nat) (F H:Hp) (r:Addr):Prop where
 ex:∃o,H r=some o/\RO b F o
def Hq(rl:RlT)(F H:Hp):Prop:=∀r,rl.a=some r->F r=none/\ReelOk rl.b F H r
theorem Hq.live{rl:RlT}(h:Hq rl F H){r:Addr}(e:rl.a=some r):∃o,H r=some o:=by
 obtain⟨_,⟨o,q,_⟩⟩:=h r e
 exact⟨_,q⟩
structure Grow (rl:RlT) (F H F' H':Hp):Prop where
 same:∀b o,H b=some o->rl.a≠some b->H' b=some o
 fs:bm F F'
 sub:bm F' H'
 old:∀b o,H b=some o->F' b=F b
 reel:Hq rl F' H'
theorem Grow.refl{rl:RlT}{F H:Hp}(s:bm F H)(r:Hq rl F H):Grow rl F H F H:=⟨fun _ _ e _=>e,.refl F,s,fun _ _ _=>rfl,r⟩
theorem Grow.live{rl:RlT}{F H F' H':Hp}(g:Grow rl F H F' H'){b:Addr}{o:HO}(e:H b=some o):∃o',H' b=some o':=by
 by_cases h:rl.a=some b
 · exact g.reel.live h
 · exact⟨o,g.same b o e h⟩
theorem Grow.trans{rl:RlT}{F H F1 H1 F2 H2:Hp}(a:Grow rl F H F1 H1)(b:Grow rl F1 H1 F2 H2):Grow rl F H F2 H2 :=
 ⟨fun c o e n=>b.same c o (a.same c o e n) n,a.fs.trans b.fs,b.sub,fun c o e=>by obtain⟨o',e'⟩:=a.live e;rw[b.old c o' e',a.old c o e],b.reel⟩
theorem Grow.freeB{rl:RlT}(g:Grow rl F H F' H'){b:Addr}(e:H' b=none):H b=none:=by
 cases q:H b with
 | none=>rfl
 | some o=>obtain⟨o',e'⟩:=g.live q;rw[e]at e';cases e'
theorem Grow.laid{rl:RlT}{o:HO}(s:bm F H)(r:Hq rl F H)(n:H a=none):Grow rl F H F (upd H a o):=by
 have ne:∀b u,H b=some u->b≠a:=fun b u e=>aH e n
 refine⟨fun b u e _=>by rw[ah (ne b u e)];exact e,.refl F,fun b u e=>by rw[ah (ne b u (s b u e))];exact s b u e,fun _ _ _=>rfl,fun q e=>?_⟩
 obtain⟨z,⟨u,h1,h2⟩⟩:=r q e
 exact⟨z,⟨u,by rw[ah (ne _ _ h1)];exact h1,h2⟩⟩
theorem Grow.data{rl:RlT}{o:HO}(s:bm F H)(r:Hq rl F H)(n:H a=none):Grow rl F H (upd F a o) (upd H a o):=by
 have ne:∀b u,H b=some u->b≠a:=fun b u e=>aH e n
 have neF:∀b u,F b=some u->b≠a:=fun b u e=>ne b u (s b u e)
 refine⟨fun b u e _=>by rw[ah (ne b u e)];exact e,fun b u e=>by rw[ah (neF b u e)];exact e,fun b u e=>?_,fun b u e=>by rw[ah (ne b u e)],fun q e=>?_⟩
 · by_cases hb:b=a
   · subst hb;rw[ak]at e ⊢;exact e
   · rw[ah hb]at e ⊢;exact s b u e
 · obtain⟨z,⟨u,h1,h2⟩⟩:=r q e
   exact⟨by rw[ah (ne _ _ h1)];exact z,⟨u,by rw[ah (ne _ _ h1)];exact h1,RO.mono (fun b u e=>by rw[ah (neF b u e)];exact e) h2⟩⟩
theorem Grow.freeze{rl:RlT}{F1 H1:Hp}{o:HO}(g:Grow rl F H F1 H1)(n:H a=none)(e:H1 a=some o)(f:F1 a=none)(hr:rl.a≠some a):Grow rl F H (upd F1 a o) H1:=by
 have neF:∀b u,F1 b=some u->b≠a:=fun b u q z=>by subst z;rw[f]at q;cases q
 refine⟨g.same,fun b u q=>by rw[ah (neF b u (g.fs b u q))];exact g.fs b u q,fun b u q=>?_,fun b u q=>by rw[ah (aH q n)];exact g.old b u q,fun q z=>?_⟩
 · by_cases hb:b=a
   · subst hb;rw[ak]at q;rw[e];exact q
   · rw[ah hb]at q;exact g.sub b u q
 · obtain⟨z1,⟨u,h1,h2⟩⟩:=g.reel q z
   exact⟨by rw[ah (fun y=>hr (by rw[<- y];exact z))];exact z1,⟨u,h1,RO.mono (fun b u e=>by rw[ah (neF b u e)];exact e) h2⟩⟩
inductive W where
 | d (x:Im)
 | ml (xs:List Im)
 | pk (xs:List Im)
 | reel
 | vv (v:V)
 | md (kvs:List (List HJ×Im))
 | mk (kvs:List (HJ×Im))
 | nt (ds:List Im)
 | lk
 | sc (ns:List Int)
 | fd (kvs:List (HJ×Im))
 | fw (kvs:List (HJ×Im))
 | xc (x:Str) (fs:List (Str×Im))
 | dp (kvs:List (HJ×Im)) (x:Im)
def W.dat:W->Option Im
 | .d x=>some x
 | .ml xs=>some (.list xs)
 | .pk xs=>some (.list xs)
 | .nt ds=>some (.tuple ds)
 | _=>none
def W.peek:W->W
 | .ml xs=>.pk xs
 | .md _=>.lk
 | .mk _=>.lk
 | w=>w
def W.own:W->Bool
 | .ml _=>true
 | .md _=>true
 | .mk _=>true
 | _=>false
abbrev KD(K:W.Frag)(F:Hp):List (List HJ×V)->List (List HJ×Im)->Prop:=Kn fun p q=>p.1=q.1/\Rep K F p.2 q.2
abbrev HL(K:W.Frag)(F:Hp):List (HJ×V)->List (HJ×Im)->Prop:=Kn fun p q=>p.1=q.1/\Rep K F p.2 q.2
abbrev HK(K:W.Frag)(F:Hp):List (Str×V)->List (Str×Im)->Prop:=Kn fun p q=>p.1=q.1/\Rep K F p.2 q.2
def Ck(e C dx:Addr):Heap->Prop:=fun h=>∃oe vs,h.get? e=some oe/\oe.cls = .ref C/\oe.dict=some dx/\oe.data = .fields vs
def uh(K:W.Frag)(rl:RlT)(F H:Hp)(v:V)(kvs:List (List HJ×Im)):Prop:=∃a us,v = .ref a/\F a=none/\rl.a≠some a/\H a=some (.dT us)/\KD K F us kvs
def mQ(K:W.Frag)(rl:RlT)(F H:Hp)(v:V)(kvs:List (HJ×Im)):Prop:=∃a us,v = .ref a/\F a=none/\rl.a≠some a/\H a=some (.dK us)/\HL K F us kvs
def eU(K:W.Frag)(rl:RlT)(F H:Hp)(v:V)(xs:List Im):Prop:=∃a vs,v = .ref a/\F a=none/\rl.a≠some a/\H a=some (.lst vs)/\Reps K F vs xs
def cC(K:W.Frag)(rl:RlT)(F H:Hp)(v:V):W->Prop
 | .d x=>Rep K F v x
 | .ml xs=>eU K rl F H v xs
 | .pk xs=>eU K rl F H v xs
 | .reel=>∃r,rl.a=some r/\v = .ref r
 | .vv u=>v=u
 | .md kvs=>uh K rl F H v kvs
 | .mk kvs=>mQ K rl F H v kvs
 | .nt ds=>∃a vs,v = .ref a/\F a=some (.tup vs)/\Reps K F vs ds
 | .lk=>True
 | .sc ns=>∃a,v = .ref a/\Hj K F a (ns.map V.int)
 | .fd kvs=>∃a us,v = .ref a/\F a=some (.dK us)/\HL K F us kvs
 | .fw kvs=>∃a us o,v = .ref a/\F a=some (.frz o (.dK us))/\HL K F us kvs
 | .xc x fs=>∃e dx us C,v = .ref e/\W.nsIn K JI x=some (some (.ref C))/\F e=some (.ext (Ck e C dx))/\F dx=some (.xd us)/\HK K F us fs
 | .dp kvs x=>∃a b us u o,v = .ref a/\F a=some (.tup [.ref b,u])/\F b=some (.frz o (.dK us))/\HL K F us kvs/\Rep K F u x
theorem uh.grow{K:W.Frag}{rl:RlT}{kvs:List (List HJ×Im)}(g:Grow rl F H F' H')(r:uh K rl F H v kvs):uh K rl F' H' v kvs:=by
 obtain⟨a,us,rfl,h1,h2,h3,h4⟩:=r
 exact⟨a,us,rfl,by rw[g.old a _ h3];exact h1,h2,g.same a _ h3 h2,Kn.mapP h4 fun _ _ z=>⟨z.1,z.2.mono g.fs⟩⟩
theorem mQ.grow{K:W.Frag}{rl:RlT}{kvs:List (HJ×Im)}(g:Grow rl F H F' H')(r:mQ K rl F H v kvs):mQ K rl F' H' v kvs:=by
 obtain⟨a,us,rfl,h1,h2,h3,h4⟩:=r
 exact⟨a,us,rfl,by rw[g.old a _ h3];exact h1,h2,g.same a _ h3 h2,Kn.mapP h4 fun _ _ z=>⟨z.1,z.2.mono g.fs⟩⟩
theorem eU.grow{K:W.Frag}{rl:RlT}(g:Grow rl F H F' H')(r:eU K rl F H v xs):eU K rl F' H' v xs:=by
 obtain⟨a,vs,rfl,h1,h2,h3,h4⟩:=r
 exact⟨a,vs,rfl,by rw[g.old a _ h3];exact h1,h2,g.same a _ h3 h2,h4.mono g.fs⟩
theorem cC.grow{K:W.Frag}{rl:RlT}{F H F' H':Hp}{v:V}{w:W}(g:Grow rl F H F' H')(r:cC K rl F H v w):cC K rl F' H' v w:=by
 cases w with
 | d x=>exact Rep.mono g.fs r
 | ml xs=>exact eU.grow g r
 | pk xs=>exact eU.grow g r
 | reel=>exact r
 | vv u=>exact r
 | md kvs=>exact uh.grow g r
 | mk kvs=>exact mQ.grow g r
 | nt ds=>obtain⟨a,vs,e,h,q⟩:=r;exact⟨a,vs,e,g.fs _ _ h,q.mono g.fs⟩
 | lk=>trivial
 | sc ns=>obtain⟨a,e,h⟩:=r;exact⟨a,e,iJ g.fs h⟩
 | fd kvs=>obtain⟨a,us,e,h,q⟩:=r;exact⟨a,us,e,g.fs _ _ h,Kn.mapP q fun _ _ z=>⟨z.1,z.2.mono g.fs⟩⟩
 | fw kvs=>obtain⟨a,us,o,e,h,q⟩:=r;exact⟨a,us,o,e,g.fs _ _ h,Kn.mapP q fun _ _ z=>⟨z.1,z.2.mono g.fs⟩⟩
 | xc _ _=>obtain⟨a,dx,us,C,e,n,h1,h2,q⟩:=r;exact⟨a,dx,us,C,e,n,g.fs _ _ h1,g.fs _ _ h2,Kn.mapP q fun _ _ z=>⟨z.1,z.2.mono g.fs⟩⟩
 | dp _ _=>obtain⟨a,b,us,u,o,e,h1,h2,q,z⟩:=r;exact⟨a,b,us,u,o,e,g.fs _ _ h1,g.fs _ _ h2,Kn.mapP q fun _ _ z=>⟨z.1,z.2.mono g.fs⟩,z.mono g.fs⟩
theorem cC.peek{K:W.Frag}{rl:RlT}{w:W}(r:cC K rl F H v w):cC K rl F H v w.peek:=by cases w<;>first|exact r|trivial
theorem eU.rep{K:W.Frag}{rl:RlT}(s:bm F H)(r:eU K rl F H v xs):Rep K H v (.list xs):=by
 obtain⟨a,vs,rfl,h1,h2,h3,h4⟩:=r
 exact .lst h3 (h4.mono s)
theorem cC.dat{K:W.Frag}{rl:RlT}{w:W}{x:Im}(s:bm F H)(r:cC K rl F H v w)(e:w.dat=some x):Rep K H v x:=by
 cases w with
 | d y=>cases e;exact Rep.mono s r
 | ml xs=>cases e;exact eU.rep s r
 | pk xs=>cases e;exact eU.rep s r
 | reel=>cases e
 | vv u=>cases e
 | md kvs=>cases e
 | mk kvs=>cases e
 | nt ds=>cases e;obtain⟨a,vs,rfl,h,q⟩:=r;exact .tup (.inl (.inl (s _ _ h))) (q.mono s)
 | lk=>cases e
 | sc _=>cases e
 | fd _=>cases e
 | fw _=>cases e
 | xc _ _=>cases e
 | dp _ _=>cases e
theorem cC.items{K:W.Frag}{rl:RlT}{w:W}(s:bm F H)(r:cC K rl F H v w)(e:w.dat=some (.list xs)):∃a vs,v = .ref a/\Hj K H a vs/\Reps K F vs xs:=by
 have own:eU K rl F H v xs->∃a vs,v = .ref a/\Hj K H a vs/\Reps K F vs xs:=fun⟨a,vs,e1,_,_,e2,e3⟩=>⟨a,vs,e1,.inl (.inl e2),e3⟩
 cases w with
 | d y =>
   cases e
   cases(show Rep K F v (.list xs)from r)with
   | lst h q=>exact⟨_,_,rfl,.inl (.inl (s _ _ h)),q⟩
 | ml ys=>cases e;exact own r
 | pk ys=>cases e;exact own r
 | reel=>cases e
 | vv u=>cases e
 | md kvs=>cases e
 | mk kvs=>cases e
 | nt ds=>cases e
 | lk=>cases e
 | sc _=>cases e
 | fd _=>cases e
 | fw _=>cases e
 | xc _ _=>cases e
 | dp _ _=>cases e
theorem cC.itemsT{K:W.Frag}{rl:RlT}{w:W}(s:bm F H)(r:cC K rl F H v w)(e:w.dat=some (.tuple xs)):∃a vs,v = .ref a/\Hi K H a vs/\Reps K F vs xs:=by
 cases w with
 | d y =>
   cases e
   cases(show Rep K F v (.tuple xs)from r)with
   | tup h q=>exact⟨_,_,rfl,dg s h,q⟩
 | ml ys=>cases e
 | pk ys=>cases e
 | reel=>cases e
 | vv u=>cases e
 | md kvs=>cases e
 | mk kvs=>cases e
 | nt ds=>cases e;obtain⟨a,vs,rfl,h,q⟩:=r;exact⟨a,vs,rfl,.inl (.inl (s _ _ h)),q⟩
 | lk=>cases e
 | sc _=>cases e
 | fd _=>cases e
 | fw _=>cases e
 | xc _ _=>cases e
 | dp _ _=>cases e
def cZ(H:Hp)(v:V):W->Prop
 | .ml _=>∀a,v = .ref a->H a=none
 | .md _=>∀a,v = .ref a->H a=none
 | .mk _=>∀a,v = .ref a->H a=none
 | _=>True
theorem cC.live{K:W.Frag}{rl:RlT}{w:W}(r:cC K rl F H v w)(h:w.own=true):∃a o,v = .ref a/\H a=some o:=by
 cases w with
 | ml xs=>obtain⟨a,vs,e,_,_,hh,_⟩:=r;exact⟨a,_,e,hh⟩
 | md xs=>obtain⟨a,vs,e,_,_,hh,_⟩:=r;exact⟨a,_,e,hh⟩
 | mk xs=>obtain⟨a,vs,e,_,_,hh,_⟩:=r;exact⟨a,_,e,hh⟩
 | _=>cases h
theorem cZ.none{w:W}(n:cZ H v w)(h:w.own=true)(e:v = .ref a):H a=none:=by
 cases w with
 | ml xs=>exact n a e
 | md xs=>exact n a e
 | mk xs=>exact n a e
 | _=>cases h
abbrev En:=List (Option W)
structure VR (K:W.Frag) (rl:RlT) (F₀ H₀ F H:Hp) (σ:St) (ρ:En):Prop where
 g:Grow rl F₀ H₀ F H
 sl:∀(i:Nat) w,ρ[i]?=some (some w)->∃v,σ[i]?=some (some v)/\cC K rl F H v w/\cZ H₀ v w
 ap:∀(i j:Nat)(x y:W) v,i≠j->ρ[i]?=some (some x)->ρ[j]?=some (some y)->x.own=true->y.own=true->σ[i]?=some (some v)->σ[j]?=some (some v)->False
 np:∀(i:Nat) xs,ρ[i]?≠some (some (W.pk xs))
 len:ρ.length=σ.length
section
variable{K:W.Frag}{rl:RlT}{F₀ H₀ F H F' H':Hp}{σ:St}{ρ:En}
theorem VR.sub(r:VR K rl F₀ H₀ F H σ ρ):bm F H:=r.g.sub
theorem VR.reel(r:VR K rl F₀ H₀ F H σ ρ):Hq rl F H:=r.g.reel
theorem VR.grow(r:VR K rl F₀ H₀ F H σ ρ)(g:Grow rl F H F' H'):VR K rl F₀ H₀ F' H' σ ρ :=
 ⟨r.g.trans g,fun i w e=>let ⟨v,e1,e2,e3⟩:=r.sl i w e;⟨v,e1,e2.grow g,e3⟩,r.ap,r.np,r.len⟩
theorem VR.set(r:VR K rl F₀ H₀ F H σ ρ){H1 F1:Hp}(g:Grow rl F H F1 H1){w:W}(rw':cC K rl F1 H1 v w)(hn:cZ H v w)(hp:∀xs,w ≠ .pk xs)(i:Nat):VR K rl F₀ H₀ F1 H1 (σ.set i (some v)) (ρ.set i (some w)):=by
 have r1:=r.grow g
 refine⟨r1.g,fun j w' e=>?_,fun j k xs ys u hjk e1 e2 w1 w2 s1 s2=>?_,fun j xs z=>?_,by simp[r.len]⟩
 · by_cases hj:i=j
   · subst hj
     have hi:i<ρ.length:=by
      rw[JP]at e
      by_cases hi:i<ρ.length
      · exact hi
      · simp[hi]at e
     rw[IW hi]at e
     cases e
     refine⟨v,by rw[IW (by rw[<- r.len];exact hi)],rw',?_⟩
     cases w with
     | ml xs=>exact fun a ea=>r.g.freeB (hn a ea)
     | d x=>trivial
     | pk xs=>trivial
     | reel=>trivial
     | vv u=>trivial
     | md xs=>exact fun a ea=>r.g.freeB (hn a ea)
     | mk xs=>exact fun a ea=>r.g.freeB (hn a ea)
     | nt ds=>trivial
     | lk=>trivial
     | sc _=>trivial
     | fd _=>trivial
     | fw _=>trivial
     | xc _ _=>trivial
     | dp _ _=>trivial
   · rw[IM hj]at e
     obtain⟨u,h1,h2,h3⟩:=r1.sl j w' e
     exact⟨u,by rw[IM hj];exact h1,h2,h3⟩
 · have key:∀(k:Nat)(x y:W),ρ[k]?=some (some y)->some (some w)=some (some x)->x.own=true->y.own=true->σ[k]?=some (some v)->False:=fun k x y d2 e1 o1 o2 s2=>by
     cases e1
     obtain⟨u',h1,h2,h3⟩:=r.sl k _ d2
     rw[s2]at h1
     cases h1
     obtain⟨a,o,ea,hh⟩:=h2.live o2
     rw[hn.none o1 ea]at hh
     cases hh
   by_cases hj:i=j
   · subst hj
     have hk:i≠k:=hjk
     have hi:i<ρ.length:=by
      rw[JP]at e1
      by_cases hi:i<ρ.length
      · exact hi
      · simp[hi]at e1
     rw[IW hi]at e1
     rw[IM hk]at e2 s2
     rw[IW (by rw[<- r.len];exact hi)]at s1
     cases s1
     exact key k xs ys e2 e1 w1 w2 s2
   · by_cases hk:i=k
     · subst hk
       have hi:i<ρ.length:=by
        rw[JP]at e2
        by_cases hi:i<ρ.length
        · exact hi
        · simp[hi]at e2
       rw[IW hi]at e2
       rw[IM hj]at e1 s1
       rw[IW (by rw[<- r.len];exact hi)]at s2
       cases s2
       exact key j ys xs e1 e2 w2 w1 s1
     · rw[IM hj]at e1 s1
       rw[IM hk]at e2 s2
       exact r.ap j k xs ys u hjk e1 e2 w1 w2 s1 s2
 · rw[JP]at z
   split at z
   · split at z
     · exact hp xs (Jh (Jh z))
     · cases z
   · exact r.np j xs z
theorem VR.freeze(r:VR K rl F₀ H₀ F H σ ρ){i:Nat}{xs:List Im}(e:ρ[i]?=some (some (.ml xs))):∃F1,VR K rl F₀ H₀ F1 H σ (ρ.set i (some (.d (.list xs)))):=by
 obtain⟨v,h1,h2,h3⟩:=r.sl i _ e
 obtain⟨a,vs,rfl,f,hr,hh,q⟩:=(show eU K rl F H v xs from h2)
 have hi:i<ρ.length:=(IR.mp e).1
 have neF:∀b u,F b=some u->b≠a:=fun b u q z=>by subst z;rw[f]at q;cases q
 have fsm:bm F (upd F a (.lst vs)):=fun b u z=>by rw[ah (neF b u z)];exact z
 refine⟨upd F a (.lst vs),r.g.freeze (h3 a rfl) hh f hr,fun j w e1=>?_,fun j k ys zs u hjk e1 e2 w1 w2 s1 s2=>?_,fun j ys z=>?_,by simp[r.len]⟩
 · by_cases hj:i=j
   · subst hj
     rw[IW hi]at e1
     cases e1
     exact⟨.ref a,h1,.lst ak (q.mono fsm),trivial⟩
   · rw[IM hj]at e1
     obtain⟨u,g1,g2,g3⟩:=r.sl j w e1
     refine⟨u,g1,?_,g3⟩
     have own:∀ys,(∀zs,w = .ml zs->ys=zs)->eU K rl F H u ys->(∃b,u = .ref b/\b≠a)->eU K rl (upd F a (.lst vs)) H u ys:=fun ys _ ⟨b,us,eb,f1,f2,f3,f4⟩ ⟨b',eb',ne⟩=>by
      rw[eb]at eb'
      cases eb'
      exact⟨b,us,eb,by rw[ah ne];exact f1,f2,f3,f4.mono fsm⟩
     cases w with
     | d x=>exact Rep.mono fsm g2
     | reel=>exact g2
     | vv u=>exact g2
     | ml ys =>
       obtain⟨b,us,eb,f1,f2,f3,f4⟩:=(show eU K rl F H u ys from g2)
       have ne:b≠a:=fun z=>r.ap i j _ _ (.ref a) hj e e1 rfl rfl h1 (by rw[g1,eb,z])
       exact⟨b,us,eb,by rw[ah ne];exact f1,f2,f3,f4.mono fsm⟩
     | pk ys=>exact absurd e1 (r.np j ys)
     | md ys =>
       obtain⟨b,us,eb,f1,f2,f3,f4⟩:=(show uh K rl F H u ys from g2)
       have ne:b≠a:=fun z=>r.ap i j _ _ (.ref a) hj e e1 rfl rfl h1 (by rw[g1,eb,z])
       exact⟨b,us,eb,by rw[ah ne];exact f1,f2,f3,Kn.mapP f4 fun _ _ z=>⟨z.1,z.2.mono fsm⟩⟩
     | mk ys =>
       obtain⟨b,us,eb,f1,f2,f3,f4⟩:=(show mQ K rl F H u ys from g2)
       have ne:b≠a:=fun z=>r.ap i j _ _ (.ref a) hj e e1 rfl rfl h1 (by rw[g1,eb,z])
       exact⟨b,us,eb,by rw[ah ne];exact f1,f2,f3,Kn.mapP f4 fun _ _ z=>⟨z.1,z.2.mono fsm⟩⟩
     | nt ds=>obtain⟨b,us,eb,f1,f2⟩:=g2;exact⟨b,us,eb,fsm _ _ f1,f2.mono fsm⟩
     | lk=>trivial
     | sc ns=>obtain⟨b,eb,f1⟩:=g2;exact⟨b,eb,iJ fsm f1⟩
     | fd kvs=>obtain⟨b,us,eb,f1,f2⟩:=g2;exact⟨b,us,eb,fsm _ _ f1,Kn.mapP f2 fun _ _ z=>⟨z.1,z.2.mono fsm⟩⟩
     | fw kvs=>obtain⟨b,us,o,eb,f1,f2⟩:=g2;exact⟨b,us,o,eb,fsm _ _ f1,Kn.mapP f2 fun _ _ z=>⟨z.1,z.2.mono fsm⟩⟩
     | xc _ _=>obtain⟨b,dx,us,C,eb,n,f1,f3,f2⟩:=g2;exact⟨b,dx,us,C,eb,n,fsm _ _ f1,fsm _ _ f3,Kn.mapP f2 fun _ _ z=>⟨z.1,z.2.mono fsm⟩⟩
     | dp _ _=>obtain⟨c,b,us,u,o,eb,f1,f3,f2,z⟩:=g2;exact⟨c,b,us,u,o,eb,fsm _ _ f1,fsm _ _ f3,Kn.mapP f2 fun _ _ z=>⟨z.1,z.2.mono fsm⟩,z.mono fsm⟩
 · have nd:∀(j:Nat)(y:W),(ρ.set i (some (W.d (.list xs))))[j]?=some (some y)->y.own=true->ρ[j]?=some (some y):=fun j y z o=>by
     by_cases hj:i=j
     · subst hj
       rw[IW hi]at z
       cases z
       cases o
     · rw[IM hj]at z
       exact z
   exact r.ap j k ys zs u hjk (nd j ys e1 w1) (nd k zs e2 w2) w1 w2 s1 s2
 · rw[JP]at z
   split at z
   · first|cases z|(split at z<;>cases z)
   · exact r.np j ys z
end
abbrev TV:=En->(W->Prop)->Prop
abbrev TB:=En->(Bool->Prop)->Prop
abbrev G_:=En->(List W->Prop)->Prop
abbrev dh(K:W.Frag)(rl:RlT)(F H:Hp):List V->List W->Prop:=Kn (cC K rl F H)
def PV(X:Cx)(rl:RlT)(e:Expr)(f:TV):Prop:=∃t,PE X e t/\∀{F₀ H₀ F H:Hp}{σ:St}{ρ:En},VR X.K rl F₀ H₀ F H σ ρ->∀(Qd:W->Prop)(Q:VK),f ρ Qd ->
 (∀v w F' H',Grow rl F H F' H'->cC X.K rl F' H' v w->cZ H v w->Qd w->Q v H')->t σ H Q
def PB(X:Cx)(rl:RlT)(e:Expr)(f:TB):Prop:=∃t,PT X e t/\∀{F₀ H₀ F H:Hp}{σ:St}{ρ:En},VR X.K rl F₀ H₀ F H σ ρ->∀(Qd:Bool->Prop)(Q:Bool->Hp->Prop),f ρ Qd ->
 (∀b F' H',Grow rl F H F' H'->Qd b->Q b H')->t σ H Q
def Hs(X:Cx)(rl:RlT)(es:List Expr)(f:G_):Prop:=∃t,PA X es t/\∀{F₀ H₀ F H:Hp}{σ:St}{ρ:En},VR X.K rl F₀ H₀ F H σ ρ->∀(Qd:List W->Prop)(Q:List V->Hp->Prop),f ρ Qd ->
 (∀vs ws F' H',Grow rl F H F' H'->dh X.K rl F' H' vs ws->Qd ws->Q vs H')->t σ H Q
def W.fz:W->W
 | .ml xs=>.d (.list xs)
 | .nt ds=>.d (.tuple ds)
 | w=>w
theorem cC.fz{K:W.Frag}{rl:RlT}{F1 H1:Hp}{w:W}(g:Grow rl F H F1 H1)(r:cC K rl F1 H1 v w)(n:cZ H v w):∃F2,Grow rl F H F2 H1/\bm F1 F2/\cC K rl F2 H1 v w.fz:=by
 cases w with
 | d x=>exact⟨F1,g,.refl _,r⟩
 | pk xs=>exact⟨F1,g,.refl _,r⟩
 | reel=>exact⟨F1,g,.refl _,r⟩
 | vv u=>exact⟨F1,g,.refl _,r⟩
 | md u=>exact⟨F1,g,.refl _,r⟩
 | mk u=>exact⟨F1,g,.refl _,r⟩
 | lk=>exact⟨F1,g,.refl _,r⟩
 | sc _=>exact⟨F1,g,.refl _,r⟩
 | fd _=>exact⟨F1,g,.refl _,r⟩
 | fw _=>exact⟨F1,g,.refl _,r⟩
 | xc _ _=>exact⟨F1,g,.refl _,r⟩
 | dp _ _=>exact⟨F1,g,.refl _,r⟩
 | nt ds=>obtain⟨a,vs,rfl,h,q⟩:=r;exact⟨F1,g,.refl _,.tup (.inl (.inl h)) q⟩
 | ml xs =>
   obtain⟨a,vs,rfl,f,hr,hh,q⟩:=(show eU K rl F1 H1 v xs from r)
   have neF:∀b u,F1 b=some u->b≠a:=fun b u q z=>by subst z;rw[f]at q;cases q
   have fsm:bm F1 (upd F1 a (.lst vs)):=fun b u z=>by rw[ah (neF b u z)];exact z
   exact⟨upd F1 a (.lst vs),g.freeze (n a rfl) hh f hr,fsm,.lst ak (q.mono fsm)⟩
section
variable{X:Cx}{rl:RlT}{a b e:Expr}{es:List Expr}{fa fb fc:TV}{fs:G_}{pos p:Pos}
def vC(x:Im):TV:=fun _ Q=>Q (.d x)
theorem eN{x:Im}(h:PE X e (tC v))(r:∀F,Rep X.K F v x):PV X rl e (vC x) :=
 ⟨_,h,fun R Qd Q q k=>k v (.d x) _ _ (Grow.refl R.sub R.reel) (r _) trivial q⟩
theorem aj{i:Int}{j pos}:PV X rl (.Constant (.int i) j pos) (vC (.int i)):=eN di fun _=>.int i
theorem oB{i:Bool}{j pos}:PV X rl (.Constant (.bool i) j pos) (vC (.bool i)):=eN Br fun _=>.bl i
theorem gq{j pos}:PV X rl (.Constant .none j pos) (vC .none):=eN yW fun _=>.non
theorem iN{x:Str}{j pos}:PV X rl (.Constant (.str x) j pos) (vC (.str x)):=eN dI fun _=>.str x
def xo(i:Nat):TV:=fun ρ Q=>∃w,ρ[i]?=some (some w)/\Q w.peek
theorem vn(i:Nat){x:Str}{pos:Pos}(hN:X.N[i]?=some x:=by rfl)(hv:G6 X.env.scope x:=by first|exact J8 rfl|exact Jw (J8 rfl)|exact Jw (Jw rfl))(hd:(x==("__debug__" : Str))=false:=by decide)
 (hcd:(x==("__classdict__" : Str))=false:=by decide):PV X rl (.Name x pos) (xo i) :=
 ⟨_,bH hN hv hd hcd,fun R Qd Q ⟨w,e,q⟩ k=>by
  obtain⟨v,e1,r,_⟩:=R.sl i w e
  refine⟨v,e1,k v w.peek _ _ (Grow.refl R.sub R.reel) r.peek ?_ q⟩
  cases w<;>trivial⟩
def sU:G_:=fun _ Q=>Q []
def iu(f:TV)(fs:G_):G_:=fun ρ Q=>f ρ fun w=>fs ρ fun ws=>Q (w.fz::ws)
theorem ab:Hs X rl [] sU:=⟨_,dM,fun R Qd Q q k=>k [] [] _ _ (Grow.refl R.sub R.reel) .nil q⟩
theorem aa(h1:PV X rl e fa)(h2:Hs X rl es fs)(hs:IC (e::es) X.env=(false,eval e X.env)::IC es X.env:=by rfl):Hs X rl (e::es) (iu fa fs):=by
 obtain⟨t,p1,k1⟩:=h1
 obtain⟨ts,p2,k2⟩:=h2
 refine⟨_,bT p1 p2 hs,fun R Qd Q q k=>?_⟩
 refine k1 R _ _ q fun v w F1 H1 g1 r1 n1 q1=>?_
 obtain⟨F2,g2,s2,r2⟩:=cC.fz g1 r1 n1
 refine k2 (R.grow g2) _ _ q1 fun vs ws F3 H3 g3 r3 q3=>?_
 exact k (v::vs) (w.fz::ws) F3 H3 (g2.trans g3) (.cons (r2.grow g3) r3) q3
def G7(X:Cx)(rl:RlT)(r:R2)(g:W->W->(W->Prop)->Prop):Prop:=∀{F H:Hp}{x y:V}{wx wy:W}(Qd:W->Prop)(Q:VK),bm F H->Hq rl F H->cC X.K rl F H x wx->cC X.K rl F H y wy->g wx wy Qd ->
 (∀v w F' H',Grow rl F H F' H'->cC X.K rl F' H' v w->cZ H v w->Qd w->Q v H')->r x y H Q
def EY(g:W->W->(W->Prop)->Prop)(fa fb:TV):TV:=fun ρ Q=>fa ρ fun x=>fb ρ fun y=>g x y Q
theorem ij{r:R2}{g:W->W->(W->Prop)->Prop}(vo:G7 X rl r g)(ha:PV X rl a fa)(hb:PV X rl b fb){e:Expr}(hp:∀ta tb,PE X a ta->PE X b tb->PE X e (Fd r ta tb)):PV X rl e (EY g fa fb):=by
 obtain⟨ta,p1,k1⟩:=ha
 obtain⟨tb,p2,k2⟩:=hb
 refine⟨_,hp ta tb p1 p2,fun R Qd Q q k=>?_⟩
 refine k1 R _ _ q fun v w F1 H1 g1 r1 n1 q1=>?_
 refine k2 (R.grow g1) _ _ q1 fun v2 w2 F2 H2 g2 r2 n2 q2=>?_
 exact vo Qd Q g2.sub g2.reel (r1.grow g2) r2 q2 fun v3 w3 F3 H3 g3 r3 n3 q3=>k v3 w3 F3 H3 ((g1.trans g2).trans g3) r3 (by
  cases w3 with
  | ml xs=>exact fun a ea=>g1.freeB (g2.freeB (n3 a ea))
  | md xs=>exact fun a ea=>g1.freeB (g2.freeB (n3 a ea))
  | mk xs=>exact fun a ea=>g1.freeB (g2.freeB (n3 a ea))
  | nt _=>trivial
  | lk=>trivial
  | sc _=>trivial
  | fd _=>trivial
  | fw _=>trivial
  | xc _ _=>trivial
  | dp _ _=>trivial
  | d _=>trivial
  | pk _=>trivial
  | reel=>trivial
  | vv _=>trivial) q3
theorem fX{op:OR}{r:R2}{g:W->W->(W->Prop)->Prop}(ho:HF X (Lg op) r)(vo:G7 X rl r g)(ha:PV X rl a fa)(hb:PV X rl b fb):PV X rl (.BinOp a op b pos) (EY g fa fb) :=
 ij vo ha hb fun _ _ p1 p2=>yU ho p1 p2
def gI(C:Int->Int->Prop)(g:Int->Int->Im):W->W->(W->Prop)->Prop:=fun x y Q=>∃i j,x = .d (.int i)/\y = .d (.int j)/\C i j/\Q (.d (g i j))
theorem ay{K:W.Frag}{i:Int}(h:Rep K F v (.int i)):v = .int i:=by cases h;rfl
theorem eW{C:Int->Int->Prop}{g:Int->Int->V}{gd:Int->Int->Im}(h:∀K F i j,Rep K F (g i j) (gd i j)):G7 X rl (rI C g) (gI C gd):=fun{F H x y wx wy} Qd Q s ra r1 r2 q k=>by
 obtain⟨i,j,rfl,rfl,c,q⟩:=q
 exact⟨i,j,ay r1,ay r2,c,k _ (.d _) _ _ (Grow.refl s ra) (h _ _ i j) trivial q⟩
def GJ(g:Int->Int->Im):W->W->(W->Prop)->Prop:=fun x y Q=>∃i j,x = .d (.int i)/\y = .d (.int j)/\Q (.d (g i j))
theorem dD{g:Int->Int->V}{gd:Int->Int->Im}(h:∀K F i j,Rep K F (g i j) (gd i j)):G7 X rl (FI g) (GJ gd):=fun{F H x y wx wy} Qd Q s ra r1 r2 q k=>by
 obtain⟨i,j,rfl,rfl,q⟩:=q
 exact⟨i,j,ay r1,ay r2,k _ (.d _) _ _ (Grow.refl s ra) (h _ _ i j) trivial q⟩
theorem v_add(ha:PV X rl a fa)(hb:PV X rl b fb):PV X rl (.BinOp a .Add b pos) (EY (GJ fun i j=>.int (i+j)) fa fb):=fX tM (dD fun _ _ _ _=>.int _) ha hb
theorem v_sub(ha:PV X rl a fa)(hb:PV X rl b fb):PV X rl (.BinOp a .Sub b pos) (EY (GJ fun i j=>.int (i-j)) fa fb):=fX zc (dD fun _ _ _ _=>.int _) ha hb
def Ii(i:Int):Prop:=i.natAbs<2^60000
theorem Ii.bits{i:Int}(h:Ii i):Builtin.Int.intBits i<=60000:=Ov.mpr h
def bV(i j:Int):Prop:=i.natAbs<2^64\/j.natAbs<2^64\/(Ii i/\Ii j)
theorem bV.lt{i j:Int}(h:i.natAbs<2^64):bV i j:=.inl h
theorem bV.rt{i j:Int}(h:j.natAbs<2^64):bV i j:=.inr (.inl h)
theorem bV.bb{i j:Int}(h:Ii i)(h':Ii j):bV i j:=.inr (.inr ⟨h,h'⟩)
theorem bV.ok{i j:Int}(h:bV i j):IntMulOk i j:=by
 rcases h with h|h|h
 · exact .of_left (Ov.mpr h)
 · exact .of_right (Ov.mpr h)
 · exact IntMulOk.of_le h.1.bits h.2.bits (by decide)
theorem oT:HF X (Lg .Mult) (rI bV fun i j=>.int (i*j)):=FW fun _ _ _ _ _ _ _ hc q=>mul_int q hc.ok
theorem v_mul(ha:PV X rl a fa)(hb:PV X rl b fb):PV X rl (.BinOp a .Mult b pos) (EY (gI bV fun i j=>.int (i*j)) fa fb):=fX oT (eW fun _ _ _ _=>.int _) ha hb
def ga(_ j:Int):Prop:=j≠0/\j.natAbs<2^9000
theorem rq:HF X (Lg .FloorDiv) (rI ga fun i j=>.int (i.fdiv j)):=FW fun _ j _ _ _ _ _ hc q=>floordiv_int hc.1 q (.inl (PyProof.noPylong_of_log2 ((Nat.log2_lt (by have:=hc.1;omega)).mpr hc.2)))
theorem v_div(ha:PV X rl a fa)(hb:PV X rl b fb):PV X rl (.BinOp a .FloorDiv b pos) (EY (gI ga fun i j=>.int (i.fdiv j)) fa fb):=fX rq (eW fun _ _ _ _=>.int _) ha hb
theorem v_mod(ha:PV X rl a fa)(hb:PV X rl b fb):PV X rl (.BinOp a .Mod b pos) (EY (gI (fun _ j=>j≠0) fun i j=>.int (i.fmod j)) fa fb):=fX vP (eW fun _ _ _ _=>.int _) ha hb
theorem v_pow(ha:PV X rl a fa)(hb:PV X rl b fb):PV X rl (.BinOp a .Pow b pos) (EY (gI DA fun i j=>.int (i^j.toNat)) fa fb):=fX ze (eW fun _ _ _ _=>.int _) ha hb
def AW(fa:TV):TV:=fun ρ Q=>fa ρ fun x=>∃i,x = .d (.int i)/\Q (.d (.int (-i)))
theorem xU(ha:PV X rl a fa):PV X rl (.UnaryOp .USub a pos) (AW fa):=by
 obtain⟨ta,p1,k1⟩:=ha
 refine⟨_,yT sW p1,fun R Qd Q q k=>k1 R _ _ q fun v w F1 H1 g1 r1 n1 ⟨i,ew,q1⟩=>?_⟩
 subst ew
 exact⟨i,ay r1,k _ (.d _) F1 H1 g1 (.int _) trivial q1⟩
theorem uI{r:R2}{g:W->W->(W->Prop)->Prop}(ho:HF X (KU op) r)(vo:G7 X rl r g)(hm:Kx op b=false)(ha:PV X rl a fa)(hb:PV X rl b fb):PV X rl (.Compare a [op] [b] pos) (EY g fa fb) :=
 ij vo ha hb fun _ _ p1 p2=>oQ ho p1 p2 hm
def nl(f:TV):TB:=fun ρ Q=>f ρ fun w=>∃k,w = .d (.bool k)/\Q k
theorem iK{K:W.Frag}{i:Bool}(h:Rep K F v (.bool i)):v = .bl i:=by cases h;rfl
theorem bh{r:R2}{g:W->W->(W->Prop)->Prop}(ho:HF X (KU op) r)(vo:G7 X rl r g)(hm:Kx op b=false)(ha:PV X rl a fa)(hb:PV X rl b fb):PB X rl (.Compare a [op] [b] pos) (nl (EY g fa fb)):=by
 obtain⟨ta,p1,k1⟩:=ha
 obtain⟨tb,p2,k2⟩:=hb
 refine⟨_,oC ho p1 p2 hm,fun R Qd Q q k=>?_⟩
 refine k1 R _ _ q fun v w F1 H1 g1 r1 n1 q1=>?_
 refine k2 (R.grow g1) _ _ q1 fun v2 w2 F2 H2 g2 r2 n2 q2=>?_
 refine vo _ _ g2.sub g2.reel (r1.grow g2) r2 q2 fun v3 w3 F3 H3 g3 r3 n3 ⟨kb,ew,q3⟩=>?_
 subst ew
 exact⟨kb,iK r3,k kb F3 H3 ((g1.trans g2).trans g3) q3⟩
abbrev Dq(p:Int->Int->Bool):=GJ fun i j=>.bool (p i j)
theorem uy:G7 X rl (FI fun i j=>.bl (decide (i<j))) (Dq fun i j=>decide (i<j)):=dD fun _ _ _ _=>.bl _
theorem gM:G7 X rl (FI fun i j=>.bl (decide (j<i))) (Dq fun i j=>decide (j<i)):=dD fun _ _ _ _=>.bl _
def Bh(K:W.Frag)(neg:Bool):R2:=fun x y H Q=>∃dx dy,Rep K H x dx/\Rep K H y dy/\KJ dx=true/\KJ dy=true/\Q (.bl (if neg then !Kk dx dy else Kk dx dy)) H
theorem dj(hu:X.A.units+64<O1):HF X (KU .Eq) (Bh X.K false):=by
 intro pins s σ H x y v u Q I rx ry ⟨dx,dy,h1,h2,s1,s2,q⟩
 obtain⟨as,a1⟩:=Rep.reads I (.refl H) h1 v rx
 obtain⟨bs,a2⟩:=Rep.reads I (.refl H) h2 u ry
 exact SeqAt.compareEq_shaped a1 a2 s1 s2 hu ⟨.bl _,H,I,rfl,q⟩
theorem iR(hu:X.A.units+64<O1):HF X (KU .NotEq) (Bh X.K true):=by
 intro pins s σ H x y v u Q I rx ry ⟨dx,dy,h1,h2,s1,s2,q⟩
 obtain⟨as,a1⟩:=Rep.reads I (.refl H) h1 v rx
 obtain⟨bs,a2⟩:=Rep.reads I (.refl H) h2 u ry
 exact SeqAt.compareNe_shaped a1 a2 s1 s2 hu ⟨.bl _,H,I,rfl,q⟩
def BU(neg:Bool):W->W->(W->Prop)->Prop:=fun x y Q=>∃dx dy,x.dat=some dx/\y.dat=some dy/\KJ dx=true/\KJ dy=true/\Q (.d (.bool (if neg then !Kk dx dy else Kk dx dy)))
theorem ce{neg:Bool}:G7 X rl (Bh X.K neg) (BU neg):=fun{F H x y wx wy} Qd Q s ra r1 r2 q k=>by
 obtain⟨dx,dy,e1,e2,s1,s2,q⟩:=q
 exact⟨dx,dy,r1.dat s e1,r2.dat s e2,s1,s2,k _ (.d _) _ _ (Grow.refl s ra) (.bl _) trivial q⟩
def AZ(f g:TB):TB:=fun ρ Q=>f ρ fun b=>if b=true then g ρ Q else Q false
def EX(f g:TB):TB:=fun ρ Q=>f ρ fun b=>if b=true then Q true else g ρ Q
def HE(X:Cx)(rl:RlT)(e:Expr)(f:TB):Prop:=∃t,PW X e t/\∀{F₀ H₀ F H:Hp}{σ:St}{ρ:En},VR X.K rl F₀ H₀ F H σ ρ->∀(Qd:Bool->Prop)(Q:Bool->Hp->Prop),f ρ Qd ->
 (∀b F' H',Grow rl F H F' H'->Qd b->Q b H')->t σ H Q
variable{f g:TB}{rest:List Expr}
theorem HE.pb(h:HE X rl e f):PB X rl e f:=let ⟨t,p,k⟩:=h;⟨t,p.pt,k⟩
theorem m9(ha:PB X rl a f):HE X rl (.BoolOp .And [a] pos) f:=let ⟨t,p,k⟩:=ha;⟨t,vp p,k⟩
theorem m7(ha:PB X rl a f):HE X rl (.BoolOp .Or [a] pos) f:=let ⟨t,p,k⟩:=ha;⟨t,yJ p,k⟩
theorem sO(ha:PB X rl a f)(hb:HE X rl (.BoolOp .And (b::rest) pos) g):HE X rl (.BoolOp .And (a::b::rest) pos) (AZ f g):=by
 obtain⟨t,p,k⟩:=ha
 obtain⟨t2,p2,k2⟩:=hb
 refine⟨_,yK p p2,fun R Qd Q q h=>k R _ _ q fun c F1 H1 g1 q1=>?_⟩
 cases c with
 | true=>exact k2 (R.grow g1) _ _ q1 fun c F2 H2 g2 q2=>h c F2 H2 (g1.trans g2) q2
 | false=>exact h false F1 H1 g1 q1
theorem uD(ha:PB X rl a f)(hb:HE X rl (.BoolOp .Or (b::rest) pos) g):HE X rl (.BoolOp .Or (a::b::rest) pos) (EX f g):=by
 obtain⟨t,p,k⟩:=ha
 obtain⟨t2,p2,k2⟩:=hb
 refine⟨_,Bl p p2,fun R Qd Q q h=>k R _ _ q fun c F1 H1 g1 q1=>?_⟩
 cases c with
 | true=>exact h true F1 H1 g1 q1
 | false=>exact k2 (R.grow g1) _ _ q1 fun c F2 H2 g2 q2=>h c F2 H2 (g1.trans g2) q2
def AV(fa fb:TV):TV:=fun ρ Q=>fa ρ fun w=>∃c,w = .d (.bool c)/\if c=true then Q (.d (.bool true))else fb ρ Q
theorem cZ.back{rl:RlT}{w:W}(g:Grow rl F H F' H')(n:cZ H' v w):cZ H v w:=by
 cases w with
 | ml xs=>exact fun a ea=>g.freeB (n a ea)
 | md xs=>exact fun a ea=>g.freeB (n a ea)
 | mk xs=>exact fun a ea=>g.freeB (n a ea)
 | nt _=>trivial
 | lk=>trivial
 | sc _=>trivial
 | fd _=>trivial
 | fw _=>trivial
 | xc _ _=>trivial
 | dp _ _=>trivial
 | d _=>trivial
 | pk _=>trivial
 | reel=>trivial
 | vv _=>trivial
def EZ(t:TB)(fa fb:TV):TV:=fun ρ Q=>t ρ fun c=>if c=true then fa ρ Q else fb ρ Q
theorem jq{c:Expr}(hc:PB X rl c f)(ha:PV X rl a fa)(hb:PV X rl b fb):PV X rl (.IfExp c a b pos) (EZ f fa fb):=by
 obtain⟨t,p,k⟩:=hc
 obtain⟨t1,p1,k1⟩:=ha
 obtain⟨t2,p2,k2⟩:=hb
 refine⟨_,rh p p1 p2,fun R Qd Q q h=>k R _ _ q fun c F1 H1 g1 q1=>?_⟩
 cases c with
 | true=>exact k1 (R.grow g1) _ _ q1 fun v w F2 H2 g2 r2 n2 q2=>h v w F2 H2 (g1.trans g2) r2 (n2.back g1) q2
 | false=>exact k2 (R.grow g1) _ _ q1 fun v w F2 H2 g2 r2 n2 q2=>h v w F2 H2 (g1.trans g2) r2 (n2.back g1) q2
def jV:List W->Option (List Im)
 | []=>some []
 | .d x::r=>(jV r).map (x :: ·)
 | _::_=>none
theorem cO{K:W.Frag}{F H:Hp}:∀{vs:List V}{ws:List W}{ds:List Im},dh K rl F H vs ws->jV ws=some ds->Reps K F vs ds
 | _,_,_,.nil,e=>by cases e;exact .nil
 | _,.d x::ws,ds,.cons r rs,e=>by
   have e:(jV ws).map (x :: ·)=some ds:=e
   cases q:jV ws with
   | none=>rw[q]at e;cases e
   | some es=>rw[q]at e;cases e;exact .cons r (cO rs q)
 | _,.ml x::ws,ds,.cons r rs,e=>by cases(show none=some ds from e)
 | _,.pk x::ws,ds,.cons r rs,e=>by cases(show none=some ds from e)
 | _,.reel::ws,ds,.cons r rs,e=>by cases(show none=some ds from e)
 | _,.vv u::ws,ds,.cons r rs,e=>by cases(show none=some ds from e)
 | _,.md u::ws,ds,.cons r rs,e=>by cases(show none=some ds from e)
 | _,.nt u::ws,ds,.cons r rs,e=>by cases(show none=some ds from e)
 | _,.lk::ws,ds,.cons r rs,e=>by cases(show none=some ds from e)
 | _,.sc _::ws,ds,.cons r rs,e=>by cases(show none=some ds from e)
 | _,.fd _::ws,ds,.cons r rs,e=>by cases(show none=some ds from e)
 | _,.xc _ _::ws,ds,.cons r rs,e=>by cases(show none=some ds from e)
 | _,.mk _::ws,ds,.cons r rs,e=>by cases(show none=some ds from e)
 | _,.fw _::ws,ds,.cons r rs,e=>by cases(show none=some ds from e)
 | _,.dp _ _::ws,ds,.cons r rs,e=>by cases(show none=some ds from e)
def xZ(fs:G_):TV:=fun ρ Q=>fs ρ fun ws=>∃ds,jV ws=some ds/\ds.length<=sizeLine/\Q (.d (.tuple ds))
def Ar(fs:G_):TV:=fun ρ Q=>fs ρ fun ws=>∃ds,jV ws=some ds/\ds.length<=sizeLine/\Q (.ml ds)
theorem fR{x1}(h:Hs X rl es fs):PV X rl (.Tuple es x1 pos) (xZ fs):=by
 obtain⟨t,p,k⟩:=h
 refine⟨_,oN p,fun R Qd Q q h=>k R _ _ q fun vs ws F1 H1 g1 r1 ⟨ds,e1,z,q1⟩=>?_⟩
 have rs:=cO r1 e1
 refine⟨by rw[rs.length];exact z,fun p hp=>?_⟩
 have g2:=g1.trans (Grow.data (a:=p) (o:=.tup vs) g1.sub g1.reel hp)
 exact h _ (.d (.tuple ds)) _ _ g2 (.tup (.inl (.inl ak)) (rs.mono (Grow.data (o:=.tup vs) g1.sub g1.reel hp).fs)) trivial q1
theorem cx{K:W.Frag}{p:Addr}{ds:List Im}(s:bm F H)(ra:Hq rl F H)(hp:H p=none)(rs:Reps K F vs ds):eU K rl F (upd H p (.lst vs)) (.ref p) ds:=by
 refine⟨p,vs,rfl,s.free hp,fun e=>?_,ak,rs⟩
 obtain⟨o,q⟩:=ra.live e
 rw[hp]at q
 cases q
theorem eK(h:Hs X rl es fs):PV X rl (.List es pos) (Ar fs):=by
 obtain⟨t,p,k⟩:=h
 refine⟨_,tI p,fun R Qd Q q h=>k R _ _ q fun vs ws F1 H1 g1 r1 ⟨ds,e1,z,q1⟩=>?_⟩
 have rs:=cO r1 e1
 refine⟨by rw[rs.length];exact z,fun p hp=>?_⟩
 exact h _ (.ml ds) _ _ (g1.trans (Grow.laid (a:=p) (o:=.lst vs) g1.sub g1.reel hp)) (cx g1.sub g1.reel hp rs) (fun a ea=>by cases ea;exact g1.freeB hp) q1
def itemAt:Im->Int->Option Im
 | .list xs,i=>atI xs i
 | .tuple xs,i=>atI xs i
 | _,_=>none
theorem Reps.atI{K:W.Frag}{F:Hp}{vs:List V}{ds:List Im}{i:Int}{d:Im}(r:Reps K F vs ds)(e:L2.atI ds i=some d):∃v,L2.atI vs i=some v/\Rep K F v d:=by
 unfold L2.atI at e ⊢
 rw[r.length]
 cases q:ixN ds.length i with
 | none=>rw[q]at e;cases e
 | some j =>
   rw[q]at e
   exact r.get e
def GG:W->W->(W->Prop)->Prop:=fun x y Q=>∃dx i z,x.dat=some dx/\y = .d (.int i)/\itemAt dx i=some z/\Q (.d z)
theorem xI:G7 X rl (FH X.K) GG:=fun{F H x y wx wy} Qd Q s ra r1 r2 q k=>by
 obtain⟨dx,i,z,e1,rfl,e3,q⟩:=q
 have ey:=ay r2
 subst ey
 cases dx with
 | list xs =>
   obtain⟨a,vs,rfl,sq,rs⟩:=r1.items s e1
   obtain⟨v,e4,rz⟩:=Reps.atI rs e3
   exact .inl ⟨a,vs,i,v,rfl,rfl,sq,e4,k _ (.d _) _ _ (Grow.refl s ra) rz trivial q⟩
 | tuple xs =>
   obtain⟨a,vs,rfl,sq,rs⟩:=r1.itemsT s e1
   obtain⟨v,e4,rz⟩:=Reps.atI rs e3
   exact .inr (.inl ⟨a,vs,i,v,rfl,rfl,sq,e4,k _ (.d _) _ _ (Grow.refl s ra) rz trivial q⟩)
 | none=>cases e3
 | bool b=>cases e3
 | int b=>cases e3
 | str b=>cases e3
 | dict b=>cases e3
theorem fS(ha:PV X rl a fa)(hb:PV X rl b fb)(hs:fQ b:=by exact fun _ _=>rfl):PV X rl (.Subscript a b pos) (EY GG fa fb):=ij xI ha hb fun _ _ p1 p2=>rg ll p1 p2 hs
def dZ(X:Cx)(rl:RlT)(r:List V->Hp->VK->Prop)(g:List W->(W->Prop)->Prop):Prop:=∀{F H:Hp}{vs:List V}{ws:List W}(Qd:W->Prop)(Q:VK),bm F H->Hq rl F H->dh X.K rl F H vs ws->g ws Qd ->
 (∀v w F' H',Grow rl F H F' H'->cC X.K rl F' H' v w->cZ H v w->Qd w->Q v H')->r vs H Q
def cA(g:List W->(W->Prop)->Prop)(fs:G_):TV:=fun ρ Q=>fs ρ fun ws=>g ws Q
theorem ko{g:List W->(W->Prop)->Prop}{t:TA->TE}(vc:dZ X rl r g)(ha:Hs X rl es fs){e:Expr}(hp:∀ta,PA X es ta->PE X e (Fi r ta)):PV X rl e (cA g fs):=by
 obtain⟨ta,p1,k1⟩:=ha
 refine⟨_,hp ta p1,fun R Qd Q q k=>k1 R _ _ q fun vs ws F1 H1 g1 r1 q1=>?_⟩
 exact vc Qd Q g1.sub g1.reel r1 q1 fun v w F2 H2 g2 r2 n2 q2=>k v w F2 H2 (g1.trans g2) r2 (n2.back g1) q2
theorem dv{id:String}{x:Str}{g:List W->(W->Prop)->Prop}(hc:c_ X (.builtin id) r)(vc:dZ X rl r g)(hm:X.mg x=none)(hv:LB x=some (.builtin id))(ha:Hs X rl (e::es) fs)(hg:Gl X x:=by rfl)(hn:x ≠ "__name__" := by decide)(hdb:(x==("__debug__" : Str))=false:=by decide)
 (he:IC (e::es) X.env=(false,eval e X.env)::IC es X.env:=by rfl)(hpl:(Kh pos (IC es X.env)).any (·.1)=false:=by rfl):PV X rl (.Call (.Name x p) (e::es) [] pos) (cA g fs) :=
 ko (t:=fun _=>tC .non) vc ha fun _ p1=>g_ hc hg hm hv p1 hn hdb he hpl
theorem gQ{T:String}{x:Str}{g:List W->(W->Prop)->Prop}(hc:c_ X (.type T) r)(vc:dZ X rl r g)(hm:X.mg x=none)(hv:LB x=some (.type T))(ha:Hs X rl (e::es) fs)(hg:Gl X x:=by rfl)(hn:x ≠ "__name__" := by decide)(hdb:(x==("__debug__" : Str))=false:=by decide)
 (he:IC (e::es) X.env=(false,eval e X.env)::IC es X.env:=by rfl)(hpl:(Kh pos (IC es X.env)).any (·.1)=false:=by rfl):PV X rl (.Call (.Name x p) (e::es) [] pos) (cA g fs) :=
 ko (t:=fun _=>tC .non) vc ha fun _ p1=>dL hc hg hm hv p1 hn hdb he hpl
theorem mP{K:W.Frag}{w:W}(r:dh K rl F H vs [w]):∃v,vs=[v]/\cC K rl F H v w:=by
 cases r with
 | cons r1 r2=>cases r2;exact⟨_,rfl,r1⟩
theorem yE{K:W.Frag}{w w':W}(r:dh K rl F H vs [w,w']):∃v u,vs=[v,u]/\cC K rl F H v w/\cC K rl F H u w':=by
 cases r with
 | cons r1 r2 =>
   cases r2 with
   | cons r3 r4=>cases r4;exact⟨_,_,rfl,r1,r3⟩
def AF:List W->(W->Prop)->Prop:=fun ws Q=>∃i,ws=[.d (.int i)]/\Q (.d (.int (if i<0 then -i else i)))
theorem xP:dZ X rl (fun xs H Q=>∃i,xs=[.int i]/\Q (.int (if i<0 then -i else i)) H) AF:=fun{F H vs ws} Qd Q s ra r ⟨i,ew,q⟩ k=>by
 subst ew
 obtain⟨v,rfl,r1⟩:=mP r
 have e:=ay r1
 subst e
 exact⟨i,rfl,k _ (.d _) _ _ (Grow.refl s ra) (.int _) trivial q⟩
def wn:Im->Option Nat
 | .list xs=>some xs.length
 | .tuple xs=>some xs.length
 | _=>none
def xw:List W->(W->Prop)->Prop:=fun ws Q=>∃w d n,ws=[w]/\w.dat=some d/\wn d=some n/\Q (.d (.int n))
theorem xN:dZ X rl (fun xs H Q=>∃p ys,xs=[.ref p]/\(Hj X.K H p ys\/Hi X.K H p ys)/\Q (.int ys.length) H) xw:=fun{F H vs ws} Qd Q s ra r ⟨w,d,n,ew,e1,e2,q⟩ k=>by
 subst ew
 obtain⟨v,rfl,r1⟩:=mP r
 cases d with
 | list xs =>
   obtain⟨a,vs,rfl,sq,rs⟩:=r1.items s e1
   cases e2
   exact⟨a,vs,rfl,.inl sq,k _ (.d _) _ _ (Grow.refl s ra) (by rw[rs.length];exact .int _) trivial q⟩
 | tuple xs =>
   obtain⟨a,vs,rfl,sq,rs⟩:=r1.itemsT s e1
   cases e2
   exact⟨a,vs,rfl,.inr sq,k _ (.d _) _ _ (Grow.refl s ra) (by rw[rs.length];exact .int _) trivial q⟩
 | none=>cases e2
 | bool b=>cases e2
 | int b=>cases e2
 | str b=>cases e2
 | dict b=>cases e2
end
structure VEnds where
 nx:En->Prop
 rt:W->Prop
 bk:En->Prop:=fun _=>False
 ct:En->Prop:=fun _=>False
structure EndsOk (K:W.Frag) (rl:RlT) (F₀ H₀ Fs:Hp) (Dv:VEnds) (D:Ends):Prop where
 nx:∀F H σ ρ,bm Fs F->VR K rl F₀ H₀ F H σ ρ->Dv.nx ρ->D.nx σ H
 rt:∀v w F H,Grow rl F₀ H₀ F H->cC K rl F H v w->cZ H₀ v w->Dv.rt w->D.rt v H
 bk:∀F H σ ρ,bm Fs F->VR K rl F₀ H₀ F H σ ρ->Dv.bk ρ->D.bk σ H
 ct:∀F H σ ρ,bm Fs F->VR K rl F₀ H₀ F H σ ρ->Dv.ct ρ->D.ct σ H
theorem EndsOk.on{K:W.Frag}{rl:RlT}{Fs:Hp}{Dv:VEnds}{D:Ends}(ok:EndsOk K rl F₀ H₀ Fs Dv D)(s:bm Fs F):EndsOk K rl F₀ H₀ F Dv D :=
 ⟨fun F1 H σ ρ s1=>ok.nx F1 H σ ρ (s.trans s1),ok.rt,fun F1 H σ ρ s1=>ok.bk F1 H σ ρ (s.trans s1),fun F1 H σ ρ s1=>ok.ct F1 H σ ρ (s.trans s1)⟩
abbrev Ha:=VEnds->En->Prop
def Hw(X:Cx)(rl:RlT)(st:Stmt)(t:Ha):Prop:=∃T,PS X st T/\∀{F₀ H₀ F H:Hp}{σ:St}{ρ:En},VR X.K rl F₀ H₀ F H σ ρ->∀Dv D,EndsOk X.K rl F₀ H₀ F Dv D->t Dv ρ->T D σ H
def jm(X:Cx)(rl:RlT)(st:List Stmt)(t:Ha):Prop:=∃T,Hv X st T/\∀{F₀ H₀ F H:Hp}{σ:St}{ρ:En},VR X.K rl F₀ H₀ F H σ ρ->∀Dv D,EndsOk X.K rl F₀ H₀ F Dv D->t Dv ρ->T D σ H
section
variable{X:Cx}{rl:RlT}{st:Stmt}{rest body:List Stmt}{t u:Ha}{a b c e:Expr}{es:List Expr}{fa fb:TV}{fs:G_}{f:TB}{pos p:Pos}
def uL:Ha:=fun D ρ=>D.nx ρ
def xq(t u:Ha):Ha:=fun D ρ=>t {D with nx:=u D} ρ
theorem bW:jm X rl [] uL:=⟨_,vA,fun R Dv D ok q=>ok.nx _ _ _ _ (.refl _) R q⟩
theorem ax(h:Hw X rl st t):jm X rl [st] t:=let ⟨T,p,k⟩:=h;⟨T,jE p,k⟩
theorem aq(h:Hw X rl st t)(h2:jm X rl rest u):jm X rl (st::rest) (xq t u):=by
 obtain⟨T,p,k⟩:=h
 obtain⟨T2,p2,k2⟩:=h2
 exact⟨_,cF p p2,fun R Dv D ok q=>k R {Dv with nx:=u Dv} {D with nx:=T2 D} ⟨fun F H σ ρ s' R' q'=>k2 R' Dv D (ok.on s') q',ok.rt,ok.bk,ok.ct⟩ q⟩
def AU(fa:TV):Ha:=fun D ρ=>fa ρ D.rt
theorem aG(h:PV X rl e fa):Hw X rl (.Return (some e) pos) (AU fa):=by
 obtain⟨t,p,k⟩:=h
 exact⟨_,kS p,fun R Dv D ok q=>k R _ _ q fun v w F1 H1 g1 r1 n1 q1=>ok.rt v w F1 H1 (R.g.trans g1) r1 (n1.back R.g) q1⟩
def As(f:TB)(t u:Ha):Ha:=fun D ρ=>f ρ fun b=>if b=true then t D ρ else u D ρ
theorem dr{A B:List Stmt}(hc:PB X rl c f)(ha:jm X rl A t)(hb:jm X rl B u):Hw X rl (.If c A B pos) (As f t u):=by
 obtain⟨t0,p0,k0⟩:=hc
 obtain⟨t1,p1,k1⟩:=ha
 obtain⟨t2,p2,k2⟩:=hb
 refine⟨_,yN p0 p1 p2,fun R Dv D ok q=>k0 R _ _ q fun b F1 H1 g1 q1=>?_⟩
 cases b with
 | true=>exact k1 (R.grow g1) Dv D (ok.on g1.fs) q1
 | false=>exact k2 (R.grow g1) Dv D (ok.on g1.fs) q1
theorem qz:Hw X rl st (fun _ _=>False):=⟨_,qV,fun _ _ _ _ q=>q.elim⟩
def W.isPk:W->Bool
 | .pk _=>true
 | _=>false
def Aq(i:Nat)(fa:TV):Ha:=fun D ρ=>fa ρ fun w=>w.isPk=false/\D.nx (ρ.set i (some w))
theorem cQ(i:Nat){x:Str}(hN:X.N.Nodup)(he:PV X rl e fa)(hi:X.N[i]?=some x:=by rfl)(hx:Loc X.env.scope x:=by first|exact J8 rfl|exact Jw rfl)
 (hs:Ku e (some (.Name x pos')) pos.line X.env=pure false:=by rfl)(hf:X.fn x=true\/X.env.scope.names.lookup x=some .local:=by first|exact .inl rfl|exact .inr rfl) :
 Hw X rl (.Assign [.Name x pos'] e pos) (Aq i fa):=by
 obtain⟨t,p,k⟩:=he
 refine⟨_,fq hN hi hx p hs hf,fun R Dv D ok q=>k R _ _ q fun v w F1 H1 g1 r1 n1 ⟨hp,q1⟩=>?_⟩
 exact ok.nx _ _ _ _ g1.fs (R.set g1 r1 n1 (fun xs z=>by subst z;cases hp) i) q1
def mN(ρ:En):Prop:=∀(i:Nat)(w:W),ρ[i]?=some (some w)->w.own=false
theorem mN.set{ρ:En}(h:mN ρ)(i:Nat)(x:Im):mN (ρ.set i (some (.d x))):=fun j w z=>by
 rw[JP]at z
 split at z
 · split at z
   · cases z;rfl
   · cases z
 · exact h j w z
abbrev Hf:=Im->En->(En->Prop)->Prop
abbrev qw:=List Im->En->(En->Prop)->Prop
def HD(X:Cx)(rl:RlT)(tg:Expr)(g:Hf):Prop:=∃G,PG X tg G/\∀{F₀ H₀ F H:Hp}{σ:St}{ρ:En},VR X.K rl F₀ H₀ F H σ ρ->∀(v:V)(x:Im)(Qd:En->Prop)(Q:St->Hp->Prop),Rep X.K F v x->g x ρ Qd ->
 (∀F' H' σ' ρ',Grow rl F H F' H'->(mN ρ->mN ρ')->VR X.K rl F₀ H₀ F' H' σ' ρ'->Qd ρ'->Q σ' H')->G v σ H Q
def AI(X:Cx)(rl:RlT)(tgs:List Expr)(g:qw):Prop:=∃G,HC X tgs G/\∀{F₀ H₀ F H:Hp}{σ:St}{ρ:En},VR X.K rl F₀ H₀ F H σ ρ->∀(vs:List V)(xs:List Im)(Qd:En->Prop)(Q:St->Hp->Prop),Reps X.K F vs xs->g xs ρ Qd ->
 (∀F' H' σ' ρ',Grow rl F H F' H'->(mN ρ->mN ρ')->VR X.K rl F₀ H₀ F' H' σ' ρ'->Qd ρ'->Q σ' H')->G vs σ H Q
def wE(i:Nat):Hf:=fun x ρ Q=>Q (ρ.set i (some (.d x)))
theorem au(i:Nat){x:Str}(hN:X.N.Nodup)(hi:X.N[i]?=some x:=by rfl)(hx:Loc X.env.scope x:=by first|exact J8 rfl|exact Jw rfl)(hf:X.fn x=true\/X.env.scope.names.lookup x=some .local:=by first|exact .inl rfl|exact .inr rfl):HD X rl (.Name x pos) (wE i) :=
 ⟨_,fu hN hi hx hf,fun R v x Qd Q r q k=>k _ _ _ _ (Grow.refl R.sub R.reel) (fun n=>n.set i x) (R.set (w:=.d x) (Grow.refl R.sub R.reel) r trivial (fun _ z=>by cases z) i) q⟩
def BP:qw:=fun xs ρ Q=>xs=[]/\Q ρ
def rQ(g:Hf)(gs:qw):qw:=fun xs ρ Q=>∃y r,xs=y::r/\g y ρ fun ρ'=>gs r ρ' Q
theorem cR:AI X rl [] BP:=⟨_,oK,fun R vs xs Qd Q r ⟨e,q⟩ k=>by subst e;exact⟨r.nil_iff,k _ _ _ _ (Grow.refl R.sub R.reel) (fun n=>n) R q⟩⟩
theorem bi{g:Hf}{gs:qw}(h1:HD X rl e g)(h2:AI X rl es gs)(hs:(Ki (e::es) X.env).map (·.2)=Li e X.env::(Ki es X.env).map (·.2):=by rfl):AI X rl (e::es) (rQ g gs):=by
 obtain⟨G,p,k⟩:=h1
 obtain⟨G2,p2,k2⟩:=h2
 refine⟨_,gZ p p2 hs,fun R vs xs Qd Q r ⟨y,ys,ex,q⟩ h=>?_⟩
 subst ex
 cases r with
 | cons r1 r2 =>
   refine⟨_,_,rfl,k R _ y _ _ r1 q fun F1 H1 σ1 ρ1 s1 n1 R1 q1=>?_⟩
   exact k2 R1 _ ys _ _ (r2.mono s1.fs) q1 fun F2 H2 σ2 ρ2 s2 n2 R2 q2=>h F2 H2 σ2 ρ2 (s1.trans s2) (fun n=>n2 (n1 n)) R2 q2
def BO(n:Nat)(gs:qw):Hf:=fun x ρ Q=>∃xs,x = .tuple xs/\xs.length=n/\gs xs ρ Q
theorem eB{kk:Nat}{gs:qw}(hc:X.calm=true)(h:AI X rl es gs)(hn:(Ki es X.env).length=n:=by rfl)(hst:(Ki es X.env).findIdx? (·.1)=none:=by rfl):HD X rl (.Tuple es kk pos) (BO n gs):=by
 obtain⟨G,p,k⟩:=h
 refine⟨_,tG hc p hn hst,fun R v x Qd Q r ⟨xs,ex,hl,q⟩ h=>?_⟩
 subst ex
 cases r with
 | tup sq rs=>exact⟨_,_,rfl,dg R.sub sq,by rw[rs.length];exact hl,k R _ xs _ _ rs q h⟩
def Au(fa:TV)(g:Hf):Ha:=fun D ρ=>fa ρ fun w=>∃x,w = .d x/\g x ρ D.nx
theorem sJ{g:Hf}(he:PV X rl e fa)(hg:HD X rl tg g)(hs:Lp [tg] e pos.line X.env=pure false:=by rfl)(hw:Lq [tg] e X.env=pure none:=by rfl)
 (h1:(Ki [tg] X.env).map (·.2)=[Li tg X.env]:=by rfl):Hw X rl (.Assign [tg] e pos) (Au fa g):=by
 obtain⟨t,p,k⟩:=he
 obtain⟨G,p2,k2⟩:=hg
 refine⟨_,iQ p p2 hs hw h1,fun R Dv D ok q=>k R _ _ q fun v w F1 H1 g1 r1 n1 ⟨x,ew,q1⟩=>?_⟩
 subst ew
 exact k2 (R.grow g1) v x _ _ r1 q1 fun F2 H2 σ2 ρ2 s2 n2 R2 q2=>ok.nx _ _ _ _ (g1.fs.trans s2.fs) R2 q2
def C_(i j:Nat)(fs:G_):Ha:=fun D ρ=>fs ρ fun ws=>∃x y,jV ws=some [x,y]/\D.nx ((ρ.set i (some (.d x))).set j (some (.d y)))
theorem ki(i j:Nat){x y:Str}{py pt:Pos}{kt k2 pt2}(hc:X.calm=true)(hN:X.N.Nodup)(ha:Hs X rl [a,b] fs)
 (hw:Lq [.Tuple [.Name x px,.Name y py] kt pt] (.Tuple [a,b] k2 pt2) X.env=pure (some [x,y]):=by rfl)(hi:X.N[i]?=some x:=by rfl)(hj:X.N[j]?=some y:=by rfl)(hij:i≠j:=by decide)
 (hx:X.env.scope.names.lookup x=some .local:=by rfl)(hy:X.env.scope.names.lookup y=some .local:=by rfl)
 (hs:Lp [.Tuple [.Name x px,.Name y py] kt pt] (.Tuple [a,b] k2 pt2) pos.line X.env=pure false:=by rfl) :
 Hw X rl (.Assign [.Tuple [.Name x px,.Name y py] kt pt] (.Tuple [a,b] k2 pt2) pos) (C_ i j fs):=by
 obtain⟨t,p,k⟩:=ha
 refine⟨_,yM hc hN hi hj hij hx hy p hw hs,fun R Dv D ok q=>k R _ _ q fun vs ws F1 H1 g1 r1 ⟨x,y,e1,q1⟩=>?_⟩
 have rs:=cO r1 e1
 cases rs with
 | cons rx rs =>
   cases rs with
   | cons ry rs =>
     cases rs
     have R1:=(R.grow g1).set (w:=.d x) (Grow.refl g1.sub g1.reel) rx trivial (fun _ z=>by cases z) i
     exact⟨_,_,rfl,ok.nx _ _ _ _ g1.fs (R1.set (w:=.d y) (Grow.refl g1.sub g1.reel) ry trivial (fun _ z=>by cases z) j) q1⟩
structure VIt (K:W.Frag) (rl:RlT) (F:Hp) (J:It) (xs:List Im):Prop where
 go:∀i H x,xs[i]?=some x->bm F H->J.go i H
 stop:∀i H,xs.length<=i->bm F H->J.stop i H
 yld:∀{r:RlT} i H v H' x F2,xs[i]?=some x->bm F F2->bm F2 H->Hq r F2 H->J.yld i H v H'->∃F3,Grow r F2 H F3 H'/\Rep K F3 v x
theorem VIt.of{K:W.Frag}{rl:RlT}{J:It}(go:∀i H x,xs[i]?=some x->bm F H->J.go i H)(stop:∀i H,xs.length<=i->bm F H->J.stop i H)
 (yld:∀i H v H' x,xs[i]?=some x->bm F H->J.yld i H v H'->H'=H/\Rep K F v x):VIt K rl F J xs :=
 ⟨go,stop,fun i H v H' x F2 e s s2 ra y=>by
  obtain⟨e1,r⟩:=yld i H v H' x e (s.trans s2) y
  subst e1
  exact⟨F2,Grow.refl s2 ra,r.mono s⟩⟩
def HA(X:Cx)(rl:RlT)(tg iter:Expr)(fi:En->(List Im->Prop)->Prop):Prop:=∃wi,PI X tg iter wi/\∀{F₀ H₀ F H:Hp}{σ:St}{ρ:En},VR X.K rl F₀ H₀ F H σ ρ->∀(Qd:List Im->Prop)(R:It->Hp->Prop),fi ρ Qd ->
 (∀J xs F' H',Grow rl F H F' H'->VIt X.K rl F' J xs->Qd xs->R J H')->wi σ H R
end
section
variable{X:Cx}{rl:RlT}{st:Stmt}{rest body:List Stmt}{t u:Ha}{a b c e:Expr}{es:List Expr}{fa fb:TV}{fs:G_}{f:TB}{pos p:Pos}{tg:Expr}
def AX(i:Nat)(t:Ha):Ha:=fun D ρ=>∃xs,ρ[i]?=some (some (.ml xs))/\t D (ρ.set i (some (.d (.list xs))))
theorem rX{K:W.Frag}{ρ:En}(r:VR K rl F₀ H₀ F H σ ρ){i:Nat}(e:ρ[i]?=some (some (.ml xs))):∃F1,bm F F1/\VR K rl F₀ H₀ F1 H σ (ρ.set i (some (.d (.list xs)))):=by
 obtain⟨v,h1,h2,h3⟩:=r.sl i _ e
 obtain⟨a,vs,ev,f,hr,hh,q⟩:=(show eU K rl F H v xs from h2)
 obtain⟨F1,R1⟩:=r.freeze e
 obtain⟨v',k1,k2,k3⟩:=R1.sl i _ (IW (IR.mp e).1)
 have neF:∀b u,F b=some u->b≠a:=fun b u q z=>by subst z;rw[f]at q;cases q
 have fsm:bm F (upd F a (.lst vs)):=fun b u z=>by rw[ah (neF b u z)];exact z
 have hi:i<ρ.length:=(IR.mp e).1
 refine⟨upd F a (.lst vs),fsm,r.g.freeze (h3 a ev) hh f hr,fun j w e1=>?_,R1.ap,R1.np,R1.len⟩
 by_cases hj:i=j
 · subst hj
   rw[IW hi]at e1
   cases e1
   exact⟨v,h1,by rw[ev];exact .lst ak (q.mono fsm),trivial⟩
 · rw[IM hj]at e1
   obtain⟨u,g1,g2,g3⟩:=r.sl j w e1
   refine⟨u,g1,?_,g3⟩
   cases w with
   | d x=>exact Rep.mono fsm g2
   | reel=>exact g2
   | vv u=>exact g2
   | ml ys =>
     obtain⟨b,us,eb,f1,f2,f3,f4⟩:=(show eU K rl F H u ys from g2)
     have ne:b≠a:=fun z=>r.ap i j _ _ v hj e e1 rfl rfl h1 (by rw[g1,eb,z,ev])
     exact⟨b,us,eb,by rw[ah ne];exact f1,f2,f3,f4.mono fsm⟩
   | pk ys=>exact absurd e1 (r.np j ys)
   | md ys =>
     obtain⟨b,us,eb,f1,f2,f3,f4⟩:=(show uh K rl F H u ys from g2)
     have ne:b≠a:=fun z=>r.ap i j _ _ v hj e e1 rfl rfl h1 (by rw[g1,eb,z,ev])
     exact⟨b,us,eb,by rw[ah ne];exact f1,f2,f3,Kn.mapP f4 fun _ _ z=>⟨z.1,z.2.mono fsm⟩⟩
   | mk ys =>
     obtain⟨b,us,eb,f1,f2,f3,f4⟩:=(show mQ K rl F H u ys from g2)
     have ne:b≠a:=fun z=>r.ap i j _ _ v hj e e1 rfl rfl h1 (by rw[g1,eb,z,ev])
     exact⟨b,us,eb,by rw[ah ne];exact f1,f2,f3,Kn.mapP f4 fun _ _ z=>⟨z.1,z.2.mono fsm⟩⟩
   | nt ds=>obtain⟨b,us,eb,f1,f2⟩:=g2;exact⟨b,us,eb,fsm _ _ f1,f2.mono fsm⟩
   | lk=>trivial
   | sc ns=>obtain⟨b,eb,f1⟩:=g2;exact⟨b,eb,iJ fsm f1⟩
   | fd kvs=>obtain⟨b,us,eb,f1,f2⟩:=g2;exact⟨b,us,eb,fsm _ _ f1,Kn.mapP f2 fun _ _ z=>⟨z.1,z.2.mono fsm⟩⟩
   | fw kvs=>obtain⟨b,us,o,eb,f1,f2⟩:=g2;exact⟨b,us,o,eb,fsm _ _ f1,Kn.mapP f2 fun _ _ z=>⟨z.1,z.2.mono fsm⟩⟩
   | xc _ _=>obtain⟨b,dx,us,C,eb,n,f1,f3,f2⟩:=g2;exact⟨b,dx,us,C,eb,n,fsm _ _ f1,fsm _ _ f3,Kn.mapP f2 fun _ _ z=>⟨z.1,z.2.mono fsm⟩⟩
   | dp _ _=>obtain⟨c,b,us,u,o,eb,f1,f3,f2,z⟩:=g2;exact⟨c,b,us,u,o,eb,fsm _ _ f1,fsm _ _ f3,Kn.mapP f2 fun _ _ z=>⟨z.1,z.2.mono fsm⟩,z.mono fsm⟩
theorem mV(i:Nat)(h:Hw X rl st t):Hw X rl st (AX i t):=by
 obtain⟨T,p,k⟩:=h
 refine⟨T,p,fun R Dv D ok ⟨xs,e,q⟩=>?_⟩
 obtain⟨F1,s1,R1⟩:=rX R e
 exact k R1 Dv D (ok.on s1) q
def iL(fa:TV):En->(List Im->Prop)->Prop:=fun ρ Q=>fa ρ fun w=>∃xs,w.fz = .d (.list xs)/\Q xs
def iT(fa:TV):En->(List Im->Prop)->Prop:=fun ρ Q=>fa ρ fun w=>∃xs,w.fz = .d (.tuple xs)/\Q xs
theorem gN{l:Expr}(hl:PV X rl l fa):HA X rl tg l (iL fa):=by
 obtain⟨t,p,k⟩:=hl
 refine⟨_,vI p,fun R Qd Q q h=>k R _ _ q fun v w F1 H1 g1 r1 n1 ⟨xs,ew,q1⟩=>?_⟩
 obtain⟨F2,g2,s2,r2⟩:=cC.fz g1 r1 n1
 rw[ew]at r2
 cases(show Rep X.K F2 v (.list xs)from r2)with
 | @lst a vs _ sq rs =>
   have sqH:∀H,bm F2 H->Hj X.K H a vs:=fun H s=>.inl (.inl (s _ _ sq))
   refine⟨a,rfl,⟨vs,sqH H1 g2.sub⟩,h _ xs F2 H1 g2 (.of (fun i H x e s=>?_) (fun i H hl s=>⟨vs,sqH H s,by rw[rs.length];exact hl⟩) (fun i H v H' x e s y=>?_)) q1⟩
   · obtain⟨v,ev,_⟩:=rs.get e
     exact⟨vs,v,sqH H s,ev⟩
   · obtain⟨e',hy⟩:=y
     obtain⟨v',ev,rv⟩:=rs.get e
     have:=hy vs (sqH H s)
     rw[ev]at this
     cases this
     exact⟨e',rv⟩
theorem gf{l:Expr}(hl:PV X rl l fa):HA X rl tg l (iT fa):=by
 obtain⟨t,p,k⟩:=hl
 refine⟨_,yS p,fun R Qd Q q h=>k R _ _ q fun v w F1 H1 g1 r1 n1 ⟨xs,ew,q1⟩=>?_⟩
 obtain⟨F2,g2,s2,r2⟩:=cC.fz g1 r1 n1
 rw[ew]at r2
 cases(show Rep X.K F2 v (.tuple xs)from r2)with
 | @tup a vs _ sq rs =>
   have sqH:∀H,bm F2 H->Hi X.K H a vs:=fun H s=>dg s sq
   refine⟨a,rfl,⟨vs,sqH H1 g2.sub⟩,h _ xs F2 H1 g2 (.of (fun i H x e s=>?_) (fun i H hl s=>⟨vs,sqH H s,by rw[rs.length];exact hl⟩) (fun i H v H' x e s y=>?_)) q1⟩
   · obtain⟨v,ev,_⟩:=rs.get e
     exact⟨vs,v,sqH H s,ev⟩
   · obtain⟨e',hy⟩:=y
     obtain⟨v',ev,rv⟩:=rs.get e
     have:=hy vs (sqH H s)
     rw[ev]at this
     cases this
     exact⟨e',rv⟩
def aN(lo:Int)(n:Nat):List Im:=(IN n).map fun(i:Nat)=>.int (lo+i)
theorem gn{lo:Int}{i:Nat}{x:Im}(h:(aN lo n)[i]?=some x):i<n/\x = .int (lo+i):=by
 unfold aN at h
 rw[Jj]at h
 by_cases hi:i<n
 · rw[Iy (by simpa using hi)]at h
   simp at h
   exact⟨hi,h.symm⟩
 · rw[LH (by simpa using hi)]at h
   cases h
theorem ac{lo:Int}:(aN lo n).length=n:=by simp[aN]
theorem ik{K:W.Frag}(lo:Int)(n:Nat):VIt K rl F (HR lo n) (aN lo n) :=
 .of (fun i H x e s=>(gn e).1) (fun i H hl s=>by rw[ac]at hl;exact hl) (fun i H v H' x e s y=>by
  obtain⟨e1,e2⟩:=y
  subst e2
  rw[(gn e).2]
  exact⟨e1,.int _⟩)
def Gy(fs:G_):En->(List Im->Prop)->Prop:=fun ρ Q=>fs ρ fun ws=>∃j:Int,ws=[.d (.int j)]/\(-(2^62)<=j/\j<2^62)/\Q (aN 0 j.toNat)
def Gx(fs:G_):En->(List Im->Prop)->Prop:=fun ρ Q=>fs ρ fun ws=>∃i j:Int,ws=[.d (.int i),.d (.int j)]/\(-(2^62)<=i/\i<2^62 /\ -(2^62)<=j/\j<2^62)/\Q (aN i (j-i).toNat)
theorem aS(hm:X.mg "range" = none)(ha:Hs X rl [a] fs)(hg:Gl X "range" := by rfl)(hs:IC [a] X.env=[(false,eval a X.env)]:=by rfl):HA X rl tg (.Call (.Name "range" p) [a] [] pos) (Gy fs):=by
 obtain⟨t,p1,k⟩:=ha
 refine⟨_,oJ hg hm p1 hs,fun R Qd Q q h=>k R _ _ q fun vs ws F1 H1 g1 r1 ⟨j,ew,b,q1⟩=>?_⟩
 subst ew
 obtain⟨v,rfl,rv⟩:=mP r1
 have e:=ay rv
 subst e
 exact⟨j,rfl,b.1,b.2,h _ _ F1 H1 g1 (ik 0 _) q1⟩
theorem ip(hm:X.mg "range" = none)(ha:Hs X rl [a,b] fs)(hg:Gl X "range" := by rfl)(hs:IC [a,b] X.env=[(false,eval a X.env),(false,eval b X.env)]:=by rfl)(hs2:IC [b] X.env=[(false,eval b X.env)]:=by rfl):HA X rl tg (.Call (.Name "range" p) [a,b] [] pos) (Gx fs):=by
 obtain⟨t,p1,k⟩:=ha
 refine⟨_,oI hg hm p1 hs hs2,fun R Qd Q q h=>k R _ _ q fun vs ws F1 H1 g1 r1 ⟨i,j,ew,b,q1⟩=>?_⟩
 subst ew
 obtain⟨v,u,rfl,rv,ru⟩:=yE r1
 have e:=ay rv
 have e':=ay ru
 subst e e'
 exact⟨i,j,rfl,b,h _ _ F1 H1 g1 (ik i _) q1⟩
theorem VR.own{K:W.Frag}{F₀ H₀ F H:Hp}{σ:St}{ρ:En}(r:VR K rl F₀ H₀ F H σ ρ){i:Nat}{xs ys:List Im}{a:Addr}{us:List V}(e:ρ[i]?=some (some (.ml xs)))(es:σ[i]?=some (some (.ref a)))(rs:Reps K F us ys) :
 VR K rl F₀ H₀ F (upd H a (.lst us)) σ (ρ.set i (some (.ml ys))):=by
 obtain⟨v,h1,h2,h3⟩:=r.sl i _ e
 rw[es]at h1
 cases h1
 obtain⟨a',vs,ev,f,hr,hh,q⟩:=(show eU K rl F H (.ref a) xs from h2)
 cases ev
 have n0:H₀ a=none:=h3 a rfl
 have hi:i<ρ.length:=(IR.mp e).1
 have neF:∀b u,F b=some u->b≠a:=fun b u q z=>by subst z;rw[f]at q;cases q
 have g:Grow rl F₀ H₀ F (upd H a (.lst us)):=by
  refine⟨fun b o q1 n=>by rw[ah (aH q1 n0)];exact r.g.same b o q1 n,r.g.fs,fun b o q1=>by rw[ah (neF b o q1)];exact r.sub b o q1,r.g.old,fun y z=>?_⟩
  obtain⟨z1,⟨u,h1,h2⟩⟩:=r.reel y z
  exact⟨z1,⟨u,by rw[ah (fun q=>hr (by rw[<- q];exact z))];exact h1,h2⟩⟩
 refine⟨g,fun j w e1=>?_,fun j k ys' zs u hjk e1 e2 w1 w2 s1 s2=>?_,fun j ys' z=>?_,by simp[r.len]⟩
 · by_cases hj:i=j
   · subst hj
     rw[IW hi]at e1
     cases e1
     exact⟨_,es,⟨a,us,rfl,f,hr,ak,rs⟩,h3⟩
   · rw[IM hj]at e1
     obtain⟨u,g1,g2,g3⟩:=r.sl j w e1
     refine⟨u,g1,?_,g3⟩
     cases w with
     | d x=>exact g2
     | reel=>exact g2
     | vv u=>exact g2
     | ml zs =>
       obtain⟨b,us',eb,f1,f2,f3,f4⟩:=(show eU K rl F H u zs from g2)
       have ne:b≠a:=fun z=>r.ap i j _ _ (.ref a) hj e e1 rfl rfl es (by rw[g1,eb,z])
       exact⟨b,us',eb,f1,f2,by rw[ah ne];exact f3,f4⟩
     | pk zs=>exact absurd e1 (r.np j zs)
     | md zs =>
       obtain⟨b,us',eb,f1,f2,f3,f4⟩:=(show uh K rl F H u zs from g2)
       have ne:b≠a:=fun z=>r.ap i j _ _ (.ref a) hj e e1 rfl rfl es (by rw[g1,eb,z])
       exact⟨b,us',eb,f1,f2,by rw[ah ne];exact f3,f4⟩
     | mk zs =>
       obtain⟨b,us',eb,f1,f2,f3,f4⟩:=(show mQ K rl F H u zs from g2)
       have ne:b≠a:=fun z=>r.ap i j _ _ (.ref a) hj e e1 rfl rfl es (by rw[g1,eb,z])
       exact⟨b,us',eb,f1,f2,by rw[ah ne];exact f3,f4⟩
     | nt ds=>exact g2
     | lk=>trivial
     | sc _=>exact g2
     | fd _=>exact g2
     | fw _=>exact g2
     | xc _ _=>exact g2
     | dp _ _=>exact g2
 · have nd:∀(j:Nat)(z:W),(ρ.set i (some (W.ml ys)))[j]?=some (some z)->z.own=true->∃z',ρ[j]?=some (some z')/\z'.own=true:=fun j zs z o=>by
     by_cases hj:i=j
     · subst hj
       exact⟨_,e,rfl⟩
     · rw[IM hj]at z
       exact⟨zs,z,o⟩
   obtain⟨_,d1,o1⟩:=nd j _ e1 w1
   obtain⟨_,d2,o2⟩:=nd k _ e2 w2
   exact r.ap j k _ _ u hjk d1 d2 o1 o2 s1 s2
 · rw[JP]at z
   split at z
   · first|cases z|(split at z<;>cases z)
   · exact r.np j ys' z
def Ca(K:W.Frag)(rl:RlT)(r:V->List V->Hp->VK->Prop)(g:List Im->List W->(List Im->Prop)->Prop):Prop :=
 ∀ {F H:Hp}{a:Addr}{vs args:List V}{xs:List Im}{ws:List W}(Qn:List Im->Prop)(Q:VK),bm F H->H a=some (.lst vs)->Reps K F vs xs->dh K rl F H args ws->g xs ws Qn ->
   (∀us ys,Reps K F us ys->Qn ys->Q .non (upd H a (.lst us)))->r (.ref a) args H Q
def xr(i:Nat)(g:List Im->List W->(List Im->Prop)->Prop)(fs:G_):Ha:=fun D ρ=>∃xs,ρ[i]?=some (some (.ml xs))/\fs ρ fun ws=>g xs ws fun ys=>D.nx (ρ.set i (some (.ml ys)))
theorem xE(i:Nat){x:Str}{nm:Str}{id:String}{r:V->List V->Hp->VK->Prop}{g:List Im->List W->(List Im->Prop)->Prop}{apos cpos:Pos}(slot:Slot "list" nm id)(hty:typeOf (.builtin id)=pure (.type "method_descriptor"))(hm:HH X id r)(vm:Ca X.K rl r g)(ha:Hs X rl (e::es) fs)
 (hN:X.N[i]?=some x:=by rfl)(hv:G6 X.env.scope x:=by first|exact J8 rfl|exact Jw (J8 rfl)|exact Jw (Jw rfl))
 (hd:(x==("__debug__" : Str))=false:=by decide)(hcd:(x==("__classdict__" : Str))=false:=by decide)
 (hbase:Me (.Name x px) nm X.env (eval (.Name x px) X.env)=eval (.Name x px) X.env:=by rfl)
 (hfew:((Kh cpos (IC (e::es) X.env)).all (fun x=>!x.1)&&(OW cpos (MT [] X.env)).all (fun x=>x.1.isSome)
  && decide ((e::es).length+([]:List MC).length+(if([]:List MC).isEmpty then 0 else 1)<30))=true:=by rfl)
 (hline:(apos.endLine==cpos.line)=true:=by rfl)(hs:IC (e::es) X.env=(false,eval e X.env)::IC es X.env:=by rfl)(hplain:(Kh cpos (IC es X.env)).any (·.1)=false:=by rfl)
 (hsw:Ku (.Call (.Attribute (.Name x px) nm apos) (e::es) [] cpos) none pos.line X.env=pure false:=by rfl) :
 Hw X rl (.Expr (.Call (.Attribute (.Name x px) nm apos) (e::es) [] cpos) pos) (xr i g fs):=by
 obtain⟨t,p1,k⟩:=ha
 refine⟨_,oD (rn Ls slot hty hm (bH hN hv hd hcd) p1 hbase hfew hline hs hplain) hsw,fun{F₀ H₀ F H σ ρ} R Dv D ok ⟨xs,e1,q⟩=>?_⟩
 obtain⟨v,h1,h2,h3⟩:=R.sl i _ e1
 obtain⟨a,vs,rfl,f,hr,hh,rs⟩:=(show eU X.K rl F H v xs from h2)
 refine⟨.ref a,h1,.inl ⟨rfl,vs,.inl (.inl hh)⟩,k R _ _ q fun args ws F1 H1 g1 r1 q1=>?_⟩
 refine vm _ _ g1.sub (g1.same a _ hh hr) (rs.mono g1.fs) r1 q1 fun us ys r2 q2=>?_
 exact ok.nx _ _ _ _ g1.fs ((R.grow g1).own e1 h1 r2) q2
def zL:List Im->List W->(List Im->Prop)->Prop:=fun xs ws Q=>∃x,jV ws=some [x]/\xs.length<sizeLine/\Q (xs++[x])
theorem sL{K:W.Frag}:Ca K rl oA zL:=fun{F H a vs args xs ws} Qn Q s ha rs ra ⟨x,e,z,q⟩ k=>by
 have r2:=cO ra e
 cases r2 with
 | cons rx r3 =>
   cases r3
   exact⟨a,vs,_,rfl,rfl,ha,by rw[rs.length];exact z,k _ _ (rs.snoc rx) q⟩
theorem ge(i:Nat){x:Str}{apos cpos:Pos}(ha:Hs X rl [e] fs)(hN:X.N[i]?=some x:=by rfl)(hv:G6 X.env.scope x:=by first|exact J8 rfl|exact Jw (J8 rfl)|exact Jw (Jw rfl))
 (hd:(x==("__debug__" : Str))=false:=by decide)(hcd:(x==("__classdict__" : Str))=false:=by decide)
 (hbase:Me (.Name x px) "append" X.env (eval (.Name x px) X.env)=eval (.Name x px) X.env:=by rfl)
 (hfew:((Kh cpos (IC [e] X.env)).all (fun x=>!x.1)&&(OW cpos (MT [] X.env)).all (fun x=>x.1.isSome)
  && decide (([e]).length+([]:List MC).length+(if([]:List MC).isEmpty then 0 else 1)<30))=true:=by rfl)
 (hline:(apos.endLine==cpos.line)=true:=by rfl)(hs:IC [e] X.env=(false,eval e X.env)::IC [] X.env:=by rfl)(hplain:(Kh cpos (IC [] X.env)).any (·.1)=false:=by rfl)
 (hsw:Ku (.Call (.Attribute (.Name x px) "append" apos) [e] [] cpos) none pos.line X.env=pure false:=by rfl) :
 Hw X rl (.Expr (.Call (.Attribute (.Name x px) "append" apos) [e] [] cpos) pos) (xr i zL fs) :=
 xE i NA NB dN sL ha hN hv hd hcd hbase hfew hline hs hplain hsw
def cY:W->Bool
 | .ml _=>false
 | .md _=>false
 | .mk _=>false
 | .pk _=>false
 | _=>true
def EQ(K:W.Frag)(rl:RlT)(P:List W->(Im->Prop)->Prop):Sp:=fun vs H Q _=>∃F ws,bm F H/\Hq rl F H/\dh K rl F H vs ws/\ws.all cY=true/\P ws fun d=>∀v F' H',Grow rl F H F' H'->Rep K F' v d->Q v H'
def cu(N:List Str)(ws:List W):En:=ws.map some++IH (N.length-ws.length) none
theorem iM{K:W.Frag}{F H:Hp}:∀{vs:List V}{ws:List W}{i:Nat}{w:W},dh K rl F H vs ws->ws[i]?=some w->∃v,vs[i]?=some v/\cC K rl F H v w
 | _,_,_,_,.nil,e=>by simp at e
 | _,_,0,_,.cons h _,e=>by simp at e;subst e;exact⟨_,rfl,h⟩
 | _,_,i+1,w,.cons _ r,e=>by
   obtain⟨v,h1,h2⟩:=iM (i:=i) (w:=w) r (by simpa using e)
   exact⟨v,by simpa using h1,h2⟩
theorem iy{N:List Str}{ws:List W}{i:Nat}{w:W}(h:(cu N ws)[i]?=some (some w)):ws[i]?=some w:=by
 unfold cu at h
 by_cases hi:i<ws.length
 · rw[KF (by simpa using hi),Jj]at h
   cases q:ws[i]? with
   | none=>rw[q]at h;cases h
   | some x=>rw[q]at h;cases h;rfl
 · rw[K0 (by simpa using hi),Ma]at h
   split at h<;>cases h
theorem cD{K:W.Frag}{N:List Str}{ws:List W}(s:bm F H)(ra:Hq rl F H)(r:dh K rl F H vs ws)(ok:ws.all cY=true):VR K rl F H F H (start N vs) (cu N ws):=by
 have hl:vs.length=ws.length:=J6 r
 have no:∀(i:Nat) w,(cu N ws)[i]?=some (some w)->cY w=true:=fun i w e=>(KA.mp ok) w (LZ (iy e))
 refine⟨Grow.refl s ra,fun i w e=>?_,fun i j xs ys v _ e1 _ o _ _ _=>(by have:=no i _ e1;cases xs<;>first|exact Bool.noConfusion o|exact Bool.noConfusion this),fun i xs e=>(by have:=no i _ e;cases this),?_⟩
 · obtain⟨v,h1,h2⟩:=iM r (iy e)
   refine⟨v,?_,h2,?_⟩
   · unfold start
     rw[KF (by simpa using(IR.mp h1).1),Jj,h1]
     rfl
   · have:=no i w e
     cases w with
     | ml xs=>cases this
     | md xs=>cases this
     | mk xs=>cases this
     | nt _=>trivial
     | lk=>trivial
     | sc _=>trivial
     | fd _=>trivial
     | fw _=>trivial
     | xc _ _=>trivial
     | dp _ _=>trivial
     | d _=>trivial
     | pk _=>trivial
     | reel=>trivial
     | vv _=>trivial
 · unfold cu start
   simp[hl]
def lO(Q:Im->Prop):VEnds:=⟨fun _=>Q .none,fun w=>∃d,w.fz = .d d/\Q d,fun _=>False,fun _=>False⟩
theorem ER{w:JN}{K:W.Frag}{mg:Str->Option Iw}{x qual:Str}{st:Stmt}{fa:Addr}{N ps:List Str}{k:Nat}{Pd:List W->(Im->Prop)->Prop}{t:Ha}
 (Fn:Fun K x qual st fa fd)(S:FnScope N ps (defScope st))(len:∀ws Q,Pd ws Q->ws.length=ps.length)
 (hbody:∀(cdv:Iw)(A:J4)(outer:List Env)(s:IB)(H:Hp)(E:XK),Room k (A.deeper (MR qual (defScope st) s.heap.objs.size fa cdv)) ->
  jm (lA Ib P w K mg base N qual (defScope st) fa cdv A outer s H E).nox rl (defBody st) t)
 (hread:∀ws Q,Pd ws Q->t (lO Q) (cu N ws)):FnOk P w K mg base Ib (k+1) fa fd ps (EQ K rl Pd):=by
 refine Fn.ok S (fun vs H Q E ⟨F,ws,_,_,r,_,q⟩=>(J6 r).trans (len ws _ q)) fun cdv A outer s H vs Q E hr h=>?_
 obtain⟨F,ws,sm,ra,r,ok,q⟩:=h
 obtain⟨T,p,kk⟩:=hbody cdv A outer s H E hr
 refine⟨T,p,kk (cD sm ra r ok) (lO _) _ ⟨?_,?_,fun _ _ _ _ _ _ z=>Jq z,fun _ _ _ _ _ _ z=>Jq z⟩ (hread ws _ q)⟩
 · intro F1 H1 σ1 ρ1 _ R1 q1
   exact q1 .non F1 H1 R1.g .non
 · rintro v w1 F1 H1 g1 r1 n1 ⟨d,ed,q1⟩
   obtain⟨F2,g2,s2,r2⟩:=cC.fz g1 r1 n1
   rw[ed]at r2
   exact q1 v F2 H1 g2 r2
structure Dfn (P:IZ) (w:JN) (K:W.Frag) (mg:Str->Option Iw) (base:Heap) (rl:RlT) (x:Str) (ps:List Str) (k:Nat) (Pd:List W->(Im->Prop)->Prop):Prop where
 mono:∀ws Q Q',(∀d,Q d->Q' d)->Pd ws Q->Pd ws Q'
 ex:∃f fd,mg x=some (.ref f)/\W.keepIn K (.ref f)=true/\Binds K fd ps []/\FnOk P w K mg base Ib k f fd ps (EQ K rl Pd)
def AQ(Pd:List W->(Im->Prop)->Prop)(fs:G_):TV:=fun ρ Q=>fs ρ fun ws=>ws.all cY=true/\Pd ws fun d=>Q (.d d)
theorem aM{x:Str}{ps:List Str}{k:Nat}{Pd:List W->(Im->Prop)->Prop}(D:Dfn X.prog X.w X.K X.mg X.base rl x ps k Pd)(hr:Room k X.A)(ha:Hs X rl (e::es) fs)(hg:Gl X x:=by rfl)
 (hdb:(x==("__debug__" : Str))=false:=by decide)(he:IC (e::es) X.env=(false,eval e X.env)::IC es X.env:=by rfl)(hpl:(Kh pos (IC es X.env)).any (·.1)=false:=by rfl) :
 PV X rl (.Call (.Name x p) (e::es) [] pos) (AQ Pd fs):=by
 obtain⟨f,fd,hm,hk,hb,F⟩:=D.ex
 obtain⟨t,p1,kk⟩:=ha
 refine⟨_,d9 F hr hg hm hk hb .nil me p1 hdb he hpl,fun R Qd Q q h=>kk R _ _ q fun vs ws F1 H1 g1 r1 ⟨ok,q1⟩=>?_⟩
 refine⟨F1,ws,g1.sub,g1.reel,by rw[JS];exact r1,ok,?_⟩
 exact D.mono ws _ _ (fun d qd v F2 H2 g2 r2=>h v (.d d) F2 H2 (g1.trans g2) r2 trivial qd) q1
end
end L2.VL
variable{rl:L2.VL.RlT}{ρ:L2.VL.En}{fi:L2.VL.En->(List Im->Prop)->Prop}
namespace L2
theorem eg{env:Env}:∀(names:List (Str×L_))(acc:List (Str×Addr)),(∀x∈names,x.2 = .free->∃c,env.cells.lookup x.1=some c)->(∀x c,acc.lookup x=some c->env.cells.lookup x=some c) ->
 ∃ cl,(forIn names acc (fun(x:Str×L_)(cs:List (Str×Addr))=>if(x.2==JZ)=true then do let c <- cellOf env x.1;pure (LI ((x.1,c)::cs))else pure (LI cs)):Sem (List (Str×Addr)))=pure cl /\
   (∀x c,cl.lookup x=some c->env.cells.lookup x=some c)/\(∀x,(acc.lookup x).isSome=true->(cl.lookup x).isSome=true)/\∀x,(x,JZ)∈names->(cl.lookup x).isSome=true
 | [],acc,_,h2=>⟨acc,rfl,h2,fun _ z=>z,fun _ z=>nomatch z⟩
 | (n,k)::r,acc,h1,h2=>by
   by_cases hk:k = .free
   · subst hk
     obtain⟨c,hc⟩:=h1 (n,.free) Iz rfl
     have h2':∀x c',((n,c)::acc).lookup x=some c'->env.cells.lookup x=some c':=fun x c' z=>by
      rw[JU]at z
      cases e:x==n with
      | true =>
        rw[e]at z
        have e':x=n:=by simpa using e
        cases z
        rw[e']
        exact hc
      | false =>
        rw[e]at z
        exact h2 x c' z
     obtain⟨cl,e,g1,g2,g3⟩:=eg r ((n,c)::acc) (fun x hx=>h1 x (Ir _ hx)) h2'
     refine⟨cl,?_,g1,fun x z=>g2 x ?_,fun x z=>?_⟩
     · rw[Mh]
       simp only[beq_self_eq_true,if_true]
       have e0:cellOf env n=pure c:=by unfold cellOf;rw[hc]
       rw[e0,pure_bind,pure_bind]
       exact e
     · rw[JU]
       split
       · rfl
       · exact z
     · rcases Jf.mp z with z|z
       · cases z
         refine g2 _ ?_
         rw[JU]
         simp
       · exact g3 x z
   · obtain⟨cl,e,g1,g2,g3⟩:=eg r acc (fun x hx=>h1 x (Ir _ hx)) h2
     refine⟨cl,?_,g1,g2,fun x z=>?_⟩
     · rw[Mh]
       have hb:(k==JZ)=false:=by simpa using hk
       simp only[hb,Nj,if_false]
       rw[pure_bind]
       exact e
     · rcases Jf.mp z with z|z
       · cases z;exact absurd rfl hk
       · exact g3 x z
theorem cn{env:Env}(h:∀x∈scope.names,x.2 = .free->∃c,env.cells.lookup x.1=some c) :
 ∃cl,closureFor scope env=pure cl/\(∀x c,cl.lookup x=some c->env.cells.lookup x=some c)/\∀x,(x,JZ)∈scope.names->(cl.lookup x).isSome=true:=by
 obtain⟨cl,e,g1,_,g3⟩:=eg scope.names [] h (fun _ _ z=>by cases z)
 refine⟨cl,?_,g1,g3⟩
 unfold closureFor
 first
  | exact e
  | (simp only[bind_pure];exact e)
theorem eG{env:Env}{x:Str}(h:(PK scope env).names.lookup x=some .cell\/(PK scope env).names.lookup x=some .free):(x,JZ)∈scope.names\/(x,KG)∈scope.names:=by
 have key:∀names:List (Str×L_),∀k,(k = .cell\/k = .free) ->
  (names.map fun(n,k)=>if(k==JZ&&env.scope.kind == .function&&env.kindOf n==some .cell)then(n,KG)else(n,k)).lookup x=some k->(x,JZ)∈names\/(x,KG)∈names:=by
  intro names
  induction names with
  | nil=>intro k _ z;cases z
  | cons y r ih =>
    intro k hk z
    obtain⟨n,kn⟩:=y
    have step:((x,JZ)∈r\/(x,KG)∈r)->((x,JZ)∈(n,kn)::r\/(x,KG)∈(n,kn)::r):=fun z=>z.imp (Ir _) (Ir _)
    rw[IP]at z
    dsimp only at z
    by_cases hc:(kn==JZ&&env.scope.kind == .function&&env.kindOf n==some .cell)=true
    · rw[if_pos hc,JU]at z
      have hf:kn = .free:=by
       have:=(IF.mp (IF.mp hc).1).1
       simpa using this
      cases e:x==n with
      | true =>
        have e':x=n:=by simpa using e
        rw[e',<- hf]
        exact .inl Iz
      | false =>
        rw[e]at z
        exact step (ih k hk z)
    · rw[if_neg hc,JU]at z
      cases e:x==n with
      | true =>
        rw[e]at z
        have e':x=n:=by simpa using e
        cases z
        rcases hk with hk|hk
        · rw[e',hk];exact .inr Iz
        · rw[e',hk];exact .inl Iz
      | false =>
        rw[e]at z
        exact step (ih k hk z)
 rcases h with h|h
 · exact key scope.names .cell (.inl rfl) h
 · exact key scope.names .free (.inr rfl) h
theorem aO:∀(names:List (Str×L_))(n:Nat)(acc:List (Str×Addr)),J5 n names acc=J5 n names []++acc
 | [],_,_=>rfl
 | (x,k)::r,n,acc=>by
   unfold J5
   split
   · rw[aO r (n+1) ((x,n)::acc),aO r (n+1) [(x,n)],LS]
     rfl
   · exact aO r n acc
theorem bZ{x:Str}{c:Addr}:∀{names:List (Str×L_)}{n:Nat},(x,c)∈J5 n names []->(x,KG)∈names
 | (y,k)::r,n,h=>by
   unfold J5 at h
   split at h
   · rename_i hk
     rw[aO]at h
     rcases JR.mp h with h|h
     · exact Ir _ (bZ h)
     · simp at h
       have:k = .cell:=by simpa using hk
       rw[h.1,this]
       exact Iz
   · exact Ir _ (bZ h)
theorem ca{a b:List (Str×Addr)}{x:Str}:(a++b).lookup x=(a.lookup x).or (b.lookup x):=by
 induction a with
 | nil=>simp
 | cons y a ih =>
   obtain⟨n,c⟩:=y
   rw[NO,JU,JU]
   cases x==n<;>simp[ih]
theorem fA{M:Model}{globals:Addr}{cl:List (Str×Addr)}{qual:Str}{o:Env}{Q:Env->IB->Prop}
 (hQ:Q {scope,locals:=s.heap.objs.size,globals,cells:=J5 (s.heap.objs.size+1) scope.names cl,qual,func:=none,code:=o.code,frame:=o.frame,builtins:=o.builtins} {s with heap:=NC (s.heap.push {cls:=.type "dict", data:=.dict #[]}) scope.names}) :
 IT M A (Mw scope globals cl [] qual none .none (some o)) Q E s:=by
 simp only[Mw,Ng,if_true]
 refine Io (wpAny_alloc ?_)
 refine Io (wpAny_layCells _ (fun name kind cells=>by cases hkc:kind==KG<;>simp[hkc]) _ _ _ _ ?_)
 rw[show({s with heap:=s.heap.push {cls:=.type "dict", data:=.dict #[]}}:IB).heap.objs.size=s.heap.objs.size+1 from J_ ..]
 exact Io (IA (IA hQ))
def ba(X:Cx)(N':List Str)(scope:Scope)(cl:List (Str×Addr))(fp:List Addr)(pn:List (Addr×Obj))(s:IB)(H:Hp):Cx :=
 {X with N:=N',s₀:=s,H₀:=H,env:={compEnvC scope cl s.heap.objs.size X.env with cells:=J5 (s.heap.objs.size+1) scope.names cl},outer:=X.stack,ex:=fp,fn:=fun x=>scope.names.lookup x==some .cell,pn:=pn,xe:=fun _ _=>False}
abbrev dz(ifs:List Expr)(env:Env):Sem Bool:=forIn ifs true fun c r=>if r=true then do let ok <- isTrue c env (eval c env);pure (LI ok)else pure (LI r)
def Hu(X:Cx)(ifs:List Expr)(t:TT):Prop :=
 ∀(pins:List (Addr×Obj))(s:IB)(σ:St)(H:Hp)(Q:Bool->Hp->Prop),Inv X pins σ H s->t σ H Q->IT (Jb X.prog X.w) X.A (dz ifs X.env) (TP X pins σ Q) X.xe s
theorem gY:Hu X [] (fun _ H Q=>Q true H):=fun _ _ _ H _ I h=>wpAny_tests_nil ⟨H,I,h⟩
theorem vq{c:Expr}{t:TT}(h:PT X c t):Hu X [c] t:=fun pins s σ H Q I hw=>wpAny_tests_one (h pins s σ H Q I hw)
theorem pV{prog:IZ}{w:JN}{R:Pt->IB->Prop}{elt target:Expr}{it acc:Iw}{env:Env}(I:Nat->IB->Prop)
 (turn:∀n s,I n s->IT (Jb prog w) A (MP it) (fun r s₁=>(r=none/\R (.ok .next) s₁)\/∃v,r=some v /\
  IT (Jb prog w) A (KI target it v) (fun _ s₂=>IT (Jb prog w) A (Li target env v) (fun _ s₃=>IT (Jb prog w) A (dz ifs env) (fun ok s₄ =>
   if ok=true then IT (Jb prog w) A (eval elt env) (fun x s₅=>IT (Jb prog w) A (call (.builtin "list.append") [acc,x]) (fun _ s₆=>∃m,m<n/\I m s₆) (fun _ _=>False) s₅) (fun _ _=>False) s₄
   else ∃m,m<n/\I m s₄) (fun _ _=>False) s₃) (fun _ _=>False) s₂) (fun _ _=>False) s₁) (fun _ _=>False) s)
 (n:Nat)(h:I n s):KZ (Jb prog w) A (.compLoop (.ListComp elt [⟨target,iter,ifs,0⟩] scope pos) 0 it acc env) R s:=by
 refine N_ rfl I (fun n s hI=>?_) n h
 show IT _ A ((OX (.ListComp elt [⟨target,iter,ifs,0⟩] scope pos) 0 it acc env).onRaise (fun x=>do OY x env;MV x)) _ _ s
 refine OF ?_
 rw[compTurn_list]
 refine Io (Ky (Io (Jl (turn n s hI) (fun r s₁ h₁=>?_) fun _ _ h'=>h'.elim)))
 rcases h₁ with⟨rfl,h₁⟩|⟨v,rfl,h₁⟩
 · exact IA h₁
 · refine Io (Jl h₁ (fun _ s₂ h₂=>Io (Jl h₂ (fun _ s₃ h₃=>Io (Jl h₃ (fun ok s₄ h₄=>?_) fun _ _ z=>z.elim)) fun _ _ z=>z.elim)) fun _ _ z=>z.elim)
   cases ok with
   | false=>exact IA ⟨rfl,h₄⟩
   | true=>exact Io (Io (Jl h₄ (fun x s₅ h₅=>Io (Jl h₅ (fun _ s₆ h₆=>IA (IA ⟨rfl,h₆⟩)) fun _ _ z=>z.elim)) fun _ _ z=>z.elim))
def jR(fr:List (Option Nat))(σ:St):St:=fr.map fun o=>o.bind fun j=>(σ[j]?).join
def jQ(fr:List (Option Nat))(N' N:List Str)(sc scX:Scope):Bool :=
 decide (fr.length=N'.length)&&(IN fr.length).all fun i=>match fr[i]? with
  | some (some j)=>match N'[i]? with
    | some x=>decide (N[j]?=some x)&&decide (sc.names.lookup x=some .free)&&(decide (scX.names.lookup x=some .cell)||decide (scX.names.lookup x=some .free))
    | none=>false
  | _=>true
def kM(sc scX:Scope):Bool :=
 decide (sc.kind = .function)&&sc.names.all fun y=>(decide (y.2 ≠ .cell)||decide (sc.names.lookup y.1=some .cell))&&(decide (y.2 ≠ .local)||decide (sc.names.lookup y.1=some .local)) &&
  (decide (y.2 ≠ .free)||(decide (scX.names.lookup y.1=some .cell)||decide (scX.names.lookup y.1=some .free)))
theorem jQ.get{fr:List (Option Nat)}{N' N:List Str}{sc scX:Scope}(h:jQ fr N' N sc scX=true):fr.length=N'.length/\∀(i j:Nat),fr[i]?=some (some j)->∃x,N'[i]?=some x/\N[j]?=some x/\sc.names.lookup x=some .free/\(scX.names.lookup x=some .cell\/scX.names.lookup x=some .free):=by
 unfold jQ at h
 obtain⟨h1,h2⟩:=IF.mp h
 refine⟨of_decide_eq_true h1,fun i j e=>?_⟩
 have hi:i<fr.length:=(IR.mp e).1
 have q:=KA.mp h2 i (JB.mpr hi)
 rw[e]at q
 dsimp only at q
 cases en:N'[i]? with
 | none=>rw[en]at q;cases q
 | some x =>
   rw[en]at q
   dsimp only at q
   obtain⟨q1,q2⟩:=IF.mp q
   obtain⟨q3,q4⟩:=IF.mp q1
   exact⟨x,rfl,of_decide_eq_true q3,of_decide_eq_true q4,(I0.mp q2).imp of_decide_eq_true of_decide_eq_true⟩
theorem gA{x:Str}{k:L_}:∀{names:List (Str×L_)},names.lookup x=some k->(x,k)∈names:=fun h=>Jy h
structure CompA where
 cl:List (Str×Addr)
 fp:List Addr
 pn:List (Addr×Obj)
 s:IB
 H:Hp
abbrev blk(X:Cx)(N':List Str)(scope:Scope)(y:CompA):Cx:=ba X N' scope y.cl y.fp y.pn y.s y.H
def qM(wi:TI)(fr:List (Option Nat))(g:CompA->TG)(tt:CompA->TT)(te:CompA->TE):TE:=fun σ H Q=>wi σ H fun J H1=>∀D,H1 D=none->∃Wv:Nat->Nat->List V->St->Hp->Prop,(∃m,Wv 0 m [] (jR fr σ) (upd H1 D (.lst []))) /\
 ∀ (z:CompA) i m acc σc H,Wv i m acc σc H->(J.stop i H/\Q (.ref D) H)\/(J.go i H/\∀x H',J.yld i H x H'->g z x σc H' fun σ2 H2=>tt z σ2 H2 fun b H3 =>
   if b=true then te z σ2 H3 fun y H4=>H4 D=some (.lst acc)/\acc.length<sizeLine/\∃m',m'<m/\Wv (i+1) m' (acc++[y]) σ2 (upd H4 D (.lst (acc++[y])))else ∃m',m'<m/\Wv (i+1) m' acc σ2 H3)
theorem cT{env:Env}:∀{names:List (Str×L_)}{x:Str},names.lookup x=some .free ->
 (names.map fun(n,k)=>if(k==JZ&&env.scope.kind == .function&&env.kindOf n==some .cell)then(n,KG)else(n,k)).lookup x=some .cell \/
 (names.map fun(n,k)=>if(k==JZ&&env.scope.kind == .function&&env.kindOf n==some .cell)then(n,KG)else(n,k)).lookup x=some .free
 | [],_,h=>by simp at h
 | (n,k)::r,x,h=>by
   have ih:=@cT env r x
   rw[IP]
   dsimp only
   cases hx:x==n with
   | true =>
     simp only[JU,hx]at h
     cases h
     by_cases hc:((JZ==JZ)&&env.scope.kind == .function&&env.kindOf n==some .cell)=true
     · rw[if_pos hc];simp[JU,hx]
     · rw[if_neg hc];simp[JU,hx]
   | false =>
     simp only[JU,hx]at h
     by_cases hc:(k==JZ&&env.scope.kind == .function&&env.kindOf n==some .cell)=true
     · rw[if_pos hc];simp only[JU,hx];exact ih h
     · rw[if_neg hc];simp only[JU,hx];exact ih h
theorem fJ{ex:Expr}{H3:Hp}{s3:IB}{D:Addr}{J:It}{Q:VK}
 {cl:List (Str×Addr)}(N':List Str)(fr:List (Option Nat))(hc:X.calm=true)(hkind:scope.kind = .function)(hcell:∀y∈scope.names,y.2 = .cell->scope.names.lookup y.1=some .cell)
 (hfree:∀y∈scope.names,y.2 = .free->X.env.kindOf y.1=some .cell\/X.env.kindOf y.1=some .free)(frl:fr.length=N'.length)
 (frg:∀(i j:Nat),fr[i]?=some (some j)->∃x,N'[i]?=some x/\X.N[j]?=some x/\scope.names.lookup x=some .free/\(X.env.scope.names.lookup x=some .cell\/X.env.scope.names.lookup x=some .free))
 (cl1:∀x c,cl.lookup x=some c->X.env.cells.lookup x=some c)(cl2:∀x,(x,JZ)∈scope.names->(cl.lookup x).isSome=true)
 (I3:Inv X pins σ H3 s3)(T:Turn X.prog X.w X.K tg J fp it tn)(tn3:tn 0 s3.heap)(fpD:∀b∈fp,H3 b=none)(fp3:∀b∈fp,b<s3.heap.objs.size)
 (fpk:∀b∈fp,b≠X.env.locals/\b∉X.fs/\(b∈X.ex\/X.s₀.heap.objs.size<=b)/\(∀x c,X.env.cells.lookup x=some c->c≠b)/\∀p∈X.pn++pins,p.1≠b)
 (loop:∀s',Inv (ba X N' scope cl fp (X.pn++pins) s3 H3) [] (jR fr σ) H3 s'->tn 0 s'.heap->(∀{H':Hp},(∀b∈fp,H' b=none)->∀b∈fp,ji (ba X N' scope cl fp (X.pn++pins) s3 H3) [] H' b) ->
  KZ (Jb X.prog X.w) X.A (.compStart ex 0 (.ref it) (.ref D) (ba X N' scope cl fp (X.pn++pins) s3 H3).env) (fun r s5=>r = .ok .next/\∃σ5 H4,Inv (ba X N' scope cl fp (X.pn++pins) s3 H3) [] σ5 H4 s5/\Q (.ref D) H4) s')
 (fin:∀s5 H4 m,s5.heap.Ns s3.heap.objs.size m->(∀h',KP s3.heap.objs.size s5.heap h'->Inv X pins σ H4 {s5 with heap:=h' })->ji X pins H4 s3.heap.objs.size->Q (.ref D) H4->Rp s3.heap.objs.size (.ok .next) s5) :
 IT (Jb X.prog X.w) X.A (Mw scope X.env.globals cl [] X.env.qual none .none (some X.env)) (fun cenv s₄ =>
  KZ (Jb X.prog X.w) X.A (.compStart ex 0 (.ref it) (.ref D) {cenv with scope:=PK scope X.env})
   (Rp cenv.locals) s₄) X.xe s3:=by
 refine fA ?_
 have ok:=cellsFrom_ok scope.names (s3.heap.push {cls:=.type "dict", data:=.dict #[]}) (s3.heap.objs.size+1) [] ⟨fun _ _ hm=>(nomatch hm),Nz⟩ (by rw[J_];exact ID _)
 rw[J_]at ok
 have kp:∀b o,s3.heap.get? b=some o->(NC (s3.heap.push {cls:=.type "dict", data:=.dict #[]}) scope.names).get? b=some o:=fun b o e=>MW _ _ b o (Iu _ e)
 have hns₁:(NC (s3.heap.push {cls:=.type "dict", data:=.dict #[]}) scope.names).Ns s3.heap.objs.size (fun _=>none):=(Heap.Ns.new s3.heap (.type "dict")).keeps (MW _ _)
 generalize NC (s3.heap.push {cls:=.type "dict", data:=.dict #[]}) scope.names=h₁ at ok kp hns₁ ⊢
 have cs:∀x c,(J5 (s3.heap.objs.size+1) scope.names cl).lookup x=some c->(J5 (s3.heap.objs.size+1) scope.names []).lookup x=some c\/cl.lookup x=some c:=fun x c e=>by
  rw[aO,ca]at e
  cases q:(J5 (s3.heap.objs.size+1) scope.names []).lookup x with
  | none=>rw[q]at e;exact .inr (by simpa using e)
  | some c'=>rw[q]at e;exact .inl (by simpa using e)
 have own:∀x c,(J5 (s3.heap.objs.size+1) scope.names []).lookup x=some c->h₁.IsCell c none/\s3.heap.objs.size+1<=c:=fun x c e=>ok.empty x c (Jy e)
 have clt:∀x c,cl.lookup x=some c->c<s3.heap.objs.size:=fun x c e=>by
  obtain⟨v,o,ho,_⟩:=I3.cell x c (cl1 x c e)
  exact II ho
 have frn:∀x,scope.names.lookup x=some .free->(J5 (s3.heap.objs.size+1) scope.names []).lookup x=none:=fun x e=>by
  cases q:(J5 (s3.heap.objs.size+1) scope.names []).lookup x with
  | none=>rfl
  | some c =>
    have:=hcell (x,.cell) (bZ (Jy q)) rfl
    rw[e]at this
    cases this
 have notC:∀b o,s3.heap.get? b=some o->b≠s3.heap.objs.size:=fun b o e=>Jt (II e)
 have fpstk:∀b∈fp,b∉frs X.stack:=fun b hb z=>(Jf.mp (I3.stkSub b z)).elim (fpk b hb).1 (fpk b hb).2.1
 have cellK:∀c v,s3.heap.IsCell c v->h₁.IsCell c v:=fun c v ⟨o,ho,hd⟩=>⟨o,kp c o ho,hd⟩
 have IY:Inv (ba X N' scope cl fp (X.pn++pins) s3 H3) [] (jR fr σ) H3 {s3 with heap:=h₁}:=by
  refine⟨⟨I3.ok.mod,hkind,I3.ok.glob,I3.ok.blt,ID _,fun x y c e1 e2=>?_,fun x hx=>?_,fun x c _ e=>?_,I3.ok.hd,I3.ok.frames,.inl rfl,
   fun b hb=>⟨Jt (fp3 b hb),fun x c e=>?_⟩,I3.bs,Jr I3.ok.bsz I3.sz,fun b o e hb=>?_,fun b hb=>fpstk b hb,I3.stack,I3.stkFree⟩,
   rfl,I3.bare,Un.kept kp,⟨_,hns₁,fun i x v e1 e2 e3=>?_⟩,fun x c e=>?_,I3.hok.fresh (ID _),fun x c e=>?_,fun p hp=>?_,I3.hok.kept kp,?_⟩
  · rcases cs x c e1 with q1|q1<;>rcases cs y c e2 with q2|q2
    · exact O8 ok.apart (Jy q1) (Jy q2)
    · exact absurd (IG (clt y c q2) (Km (own x c q1).2)) (JL _)
    · exact absurd (IG (clt x c q1) (Km (own y c q2).2)) (JL _)
    · exact I3.ok.inj x y c (cl1 x c q1) (cl1 y c q2)
  · refine Kj.mp ?_
    show((J5 (s3.heap.objs.size+1) scope.names cl).lookup x).isSome=true
    rcases eG hx with q|q
    · exact W.cellsFrom_some _ _ _ (.inr (cl2 x q))
    · exact W.cellsFrom_some _ _ _ (.inl (hcell _ q rfl))
  · rename_i hfn
    rcases cs x c e with q|q
    · have:=(own x c q).2
      show s3.heap.objs.size<=c
      omega
    · have hfn:(scope.names.lookup x==some KG)=true:=hfn
      have hl:scope.names.lookup x=some .cell:=by simpa using hfn
      obtain⟨c',ec'⟩:=Kj.mp (W.cellsFrom_some scope.names (s3.heap.objs.size+1) [] (.inl hl))
      have e':(J5 (s3.heap.objs.size+1) scope.names cl).lookup x=some c:=e
      rw[aO,ca,ec']at e'
      simp at e'
      subst e'
      exact Km (own x c' ec').2
  · rcases cs x c e with q|q
    · exact fun z=>absurd (IG (fp3 b hb) (Km (by rw[<- z];exact(own x c q).2))) (JL _)
    · exact(fpk b hb).2.2.2.1 x c (cl1 x c q)
  · rcases(fpk b hb).2.2.1 with z|z
    · exact I3.ok.noex b o e z
    · exact absurd (IG (II e) (Jr I3.ok.bsz z)) (JL _)
  · have e2':(fr[i]?).map (fun o=>o.bind fun j=>(σ[j]?).join)=some (some v):=by unfold jR at e2;rw[Jj]at e2;exact e2
    cases ef:fr[i]? with
    | none=>rw[ef]at e2';cases e2'
    | some o =>
      cases o with
      | none=>rw[ef]at e2';cases e2'
      | some j =>
        rw[ef]at e2'
        have e3':(σ[j]?).join=some v:=Jh e2'
        have e4:σ[j]?=some (some v):=by
         cases q:σ[j]? with
         | none=>rw[q]at e3';cases e3'
         | some z=>rw[q]at e3';cases e3';rfl
        obtain⟨x',n1,n2,n3,n4⟩:=frg i j ef
        have ex:x'=x:=Jh (n1.symm.trans e1)
        subst ex
        obtain⟨m,hn,hl⟩:=I3.loc
        obtain⟨u,ru,lk⟩:=hl j x' v n2 e4 (n4.elim (fun z=>.inr (.inl z)) fun z=>.inr (.inr z))
        refine⟨u,ru,?_⟩
        rcases lk with⟨kl,_⟩|⟨_,c,ec,hcl⟩
        · exact absurd (show X.env.scope.names.lookup x'=some .local from kl) (by rcases n4 with z|z<;>rw[z]<;>decide)
        · obtain⟨c',ec'⟩:=Kj.mp (cl2 x' (gA n3))
          have:=cl1 x' c' ec'
          rw[ec]at this
          cases this
          refine .inr ⟨cT n3,c,?_,cellK _ _ hcl⟩
          show(J5 (s3.heap.objs.size+1) scope.names cl).lookup x'=some c
          rw[aO,ca,frn x' n3]
          simpa using ec'
  · rcases cs x c e with q|q
    · exact⟨_,(own x c q).1⟩
    · obtain⟨v,z⟩:=I3.cell x c (cl1 x c q)
      exact⟨v,cellK _ _ z⟩
  · rcases cs x c e with q|q
    · exact I3.hok.fresh (by have:=(own x c q).2;omega)
    · exact I3.freeC x c (cl1 x c q)
  · rw[JS]at hp
    obtain⟨e,n,ne,nf,d⟩:=I3.pin p hp
    exact⟨kp _ _ e,n,notC _ _ e,fun z=>(Jf.mp (I3.stkSub p.1 z)).elim ne nf,d⟩
  · unfold jR
    rw[IE]
    exact frl
 have stat:∀{H':Hp},(∀b∈fp,H' b=none)->∀b∈fp,ji (ba X N' scope cl fp (X.pn++pins) s3 H3) [] H' b:=fun hn b hb =>
  ⟨hn b hb,Jt (fp3 b hb),fpstk b hb,.inl hb,fun x c e=>(by
   rcases cs x c e with q|q
   · exact fun z=>absurd (IG (fp3 b hb) (Km (by rw[<- z];exact(own x c q).2))) (JL _)
   · exact(fpk b hb).2.2.2.1 x c (cl1 x c q)),fun p hp=>by rw[JS]at hp;exact(fpk b hb).2.2.2.2 p hp⟩
 refine Nc (loop _ IY (T.keep _ _ _ tn3 fun b _ o e=>kp b o e) stat) fun r s5 ⟨hr,σ5,H4,I5,qn⟩=>?_
 subst hr
 obtain⟨m,hn,_⟩:=I5.loc
 refine fin s5 H4 m hn (fun h' hs'=>?_) (I3.fpOk (ID _) I5.free) qn
 have k':∀b o,b≠s3.heap.objs.size->s5.heap.get? b=some o->h'.get? b=some o:=fun b o nb e=>hs'.extBut b o nb e
 have u5:Un (frs X.stack) fp H3 H4 s3.heap s5.heap:=I5.base
 have un:Un (frs X.stack) fp H3 H4 s3.heap h' :=
  ⟨fun b o e n hb hx=>k' b o (notC b o e) (u5.keep b o e n hb hx),fun b o e n hb hx=>by obtain⟨sl,q⟩:=u5.slot b o e n hb hx;exact⟨sl,k' b _ (notC b o e) q⟩,u5.free,
   fun b o e hx=>by obtain⟨o',q⟩:=u5.there b o e hx;exact⟨o',k' b _ (notC b o e) q⟩,u5.tups,u5.frzs,u5.tbls⟩
 have nC:H4 s3.heap.objs.size=none:=I5.free
 have hok':HZ X.prog X.w H4 h':=fun b u e=>(I5.hok b u e).stay (fun c v hcv q=>k' c v (by
  rintro rfl
  rcases hcv with z|z
  · rw[<- z]at e;rw[nC]at e;cases e
  · rw[nC]at z;cases z) q) (fun _ q=>q) fun _ _ q=>q
 obtain⟨hh,g5,d5,t5,os5⟩:=s5
 have os':os5=s3.os:=I5.os
 subst os'
 have I':=Inv.call (s:=s3) (h':=h') (g':=g5) (d':=d5) (t':=t5) (ch:=fp) I3 un hok' I5.bare (fun b hb=>⟨(fpk b hb).2.2.1,(fpk b hb).1,(fpk b hb).2.2.2.1,(fpk b hb).2.2.2.2⟩)
 exact I'
theorem gG{elt:Expr}{g:TG}{tt:TT}{te:TE}{H3:Hp}{s3:IB}{D:Addr}{J:It}{Q:VK}
 {cl:List (Str×Addr)}(N':List Str)(fr:List (Option Nat))(hc:X.calm=true)(hkind:scope.kind = .function)(hcell:∀y∈scope.names,y.2 = .cell->scope.names.lookup y.1=some .cell)
 (hfree:∀y∈scope.names,y.2 = .free->X.env.kindOf y.1=some .cell\/X.env.kindOf y.1=some .free)(frl:fr.length=N'.length)
 (frg:∀(i j:Nat),fr[i]?=some (some j)->∃x,N'[i]?=some x/\X.N[j]?=some x/\scope.names.lookup x=some .free/\(X.env.scope.names.lookup x=some .cell\/X.env.scope.names.lookup x=some .free))
 (cl1:∀x c,cl.lookup x=some c->X.env.cells.lookup x=some c)(cl2:∀x,(x,JZ)∈scope.names->(cl.lookup x).isSome=true)
 (I3:Inv X pins σ H3 s3)(T:Turn X.prog X.w X.K tg J fp it tn)(tn3:tn 0 s3.heap)(fpD:∀b∈fp,H3 b=none)(fp3:∀b∈fp,b<s3.heap.objs.size)
 (fpk:∀b∈fp,b≠X.env.locals/\b∉X.fs/\(b∈X.ex\/X.s₀.heap.objs.size<=b)/\(∀x c,X.env.cells.lookup x=some c->c≠b)/\∀p∈X.pn++pins,p.1≠b)
 (hg:PG (ba X N' scope cl fp (X.pn++pins) s3 H3) tg g)(ht:Hu (ba X N' scope cl fp (X.pn++pins) s3 H3) ifs tt)(he:PE (ba X N' scope cl fp (X.pn++pins) s3 H3) elt te)
 {Wv:Nat->Nat->List V->St->Hp->Prop}{m0:Nat}(w0:Wv 0 m0 [] (jR fr σ) H3)
 (turn:∀i m acc σc H,Wv i m acc σc H->(J.stop i H/\Q (.ref D) H)\/(J.go i H/\∀x H',J.yld i H x H'->g x σc H' fun σ2 H2=>tt σ2 H2 fun b H3 =>
  if b=true then te σ2 H3 fun y H4=>H4 D=some (.lst acc)/\acc.length<sizeLine/\∃m',m'<m/\Wv (i+1) m' (acc++[y]) σ2 (upd H4 D (.lst (acc++[y])))else ∃m',m'<m/\Wv (i+1) m' acc σ2 H3))
 (fin:∀s5 H4 m,s5.heap.Ns s3.heap.objs.size m->(∀h',KP s3.heap.objs.size s5.heap h'->Inv X pins σ H4 {s5 with heap:=h' })->ji X pins H4 s3.heap.objs.size->Q (.ref D) H4->Rp s3.heap.objs.size (.ok .next) s5) :
 IT (Jb X.prog X.w) X.A (Mw scope X.env.globals cl [] X.env.qual none .none (some X.env)) (fun cenv s₄ =>
  KZ (Jb X.prog X.w) X.A (.compStart (.ListComp elt [⟨tg,iter,ifs,0⟩] scope pos) 0 (.ref it) (.ref D) {cenv with scope:=PK scope X.env})
   (Rp cenv.locals) s₄) X.xe s3:=by
 refine fJ N' fr hc hkind hcell hfree frl frg cl1 cl2 I3 T tn3 fpD fp3 fpk (fun s' IY tY stat=>?_) fin
 have loop:KZ (Jb X.prog X.w) X.A (.compLoop (.ListComp elt [⟨tg,iter,ifs,0⟩] scope pos) 0 (.ref it) (.ref D) (ba X N' scope cl fp (X.pn++pins) s3 H3).env)
  (fun r s5=>r = .ok .next/\∃σ5 H4,Inv (ba X N' scope cl fp (X.pn++pins) s3 H3) [] σ5 H4 s5/\Q (.ref D) H4) s':=by
  refine pV (fun n s'=>∃i acc σ' H',Inv (ba X N' scope cl fp (X.pn++pins) s3 H3) [] σ' H' s'/\tn i s'.heap/\(∀b∈fp,H' b=none)/\Wv i n acc σ' H') ?_ m0
   ⟨0,[],_,_,IY,tY,fpD,w0⟩
  rintro n s4 ⟨i,acc,σ4,H4,I4,st4,fr4,w4⟩
  rcases turn i n acc σ4 H4 w4 with⟨stop,qn⟩|⟨go,step⟩
  · exact E7 (T.done (ba X N' scope cl fp (X.pn++pins) s3 H3) rfl rfl rfl hc i [] s4 σ4 H4 (fun _ _=>False) I4 (stat fr4) st4 stop) fun r s5 ⟨hr,I5⟩=>.inl ⟨hr,rfl,σ4,H4,I5,qn⟩
  · refine E7 (T.item (ba X N' scope cl fp (X.pn++pins) s3 H3) rfl rfl rfl hc i [] s4 σ4 H4 (fun _ _=>False) I4 (stat fr4) st4 go) fun r s5 ⟨u,hr,h5⟩=>.inr ⟨u,hr,?_⟩
    refine E7 h5 fun _ s6 ⟨x,H6,I6,r6,y6,st6,fr6⟩=>?_
    have I6':=I6.pinned (stat fr6) (T.obj _ _ st6)
    have NV:∀{σ7:St}{H7:Hp}{s7:IB},Inv (ba X N' scope cl fp (X.pn++pins) s3 H3) ([]++eI fp s6.heap) σ7 H7 s7->∀{acc':List V}{m':Nat},m'<n->Wv (i+1) m' acc' σ7 H7 ->
     ∃m,m<n/\∃i acc σ' H',Inv (ba X N' scope cl fp (X.pn++pins) s3 H3) [] σ' H' s7/\tn i s7.heap/\(∀b∈fp,H' b=none)/\Wv i m acc σ' H':=fun{σ7 H7 s7} I7 {acc' m'} hm w7=>by
     refine⟨m',hm,i+1,acc',σ7,H7,I7.unpinned,T.keep _ _ _ st6 fun b hb o e=>(I7.pin (b,o) (IS _ (IS _ (bu hb e)))).1,fun b hb=>?_,w7⟩
     obtain⟨o,e,d⟩:=T.obj _ _ st6 b hb
     exact(I7.pin (b,o) (IS _ (IS _ (bu hb e)))).2.1
    refine E7 (hg _ s6 σ4 H6 x u _ I6' r6 (step x H6 y6)) fun _ s7 ⟨σ7,H7,I7,q7⟩=>?_
    refine E7 (ht _ s7 σ7 H7 _ I7 q7) fun ok s8 ⟨H8,I8,q8⟩=>?_
    cases ok with
    | false =>
      rw[if_neg Je]at q8 ⊢
      obtain⟨m',hm,w8⟩:=q8
      exact NV I8 hm w8
    | true =>
      rw[if_pos rfl]at q8 ⊢
      refine E7 (he _ s8 σ7 H8 _ I8 q8) fun y s9 ⟨yv,H9,I9,r9,eD,hl,m',hm,w9⟩=>?_
      exact E7 (dN (X:=ba X N' scope cl fp (X.pn++pins) s3 H3) _ s9 σ7 H9 (.ref D) [yv] (.ref D) [y] (fun _ H'=>H'=upd H9 D (.lst (acc++[yv]))) I9 rfl (.cons r9 .nil) ⟨D,acc,yv,rfl,rfl,eD,hl,rfl⟩)
       fun _ s10 ⟨_,H10,I10,_,e10⟩=>by subst e10;exact NV I10 hm w9
 exact NY loop (T.self X.A 0 _ _ _ tY loop)
section
variable{X:Cx}{elt tg iter:Expr}{ifs:List Expr}{scope:Scope}{pos:Pos}{wi:TI}{g:CompA->TG}{tt:CompA->TT}{te:CompA->TE}
theorem dJ(N':List Str)(fr:List (Option Nat))(hc:X.calm=true)(hi:PI X tg iter wi)(hfr:jQ fr N' X.N scope X.env.scope=true)(hsc:kM scope X.env.scope=true)
 (hg:∀y,PG (blk X N' scope y) tg (g y))(ht:∀y,Hu (blk X N' scope y) ifs (tt y))(he:∀y,PE (blk X N' scope y) elt (te y))
 (hs:∀x,Jd iter X.env x=pure x:=by intro _;rfl):PE X (.ListComp elt [⟨tg,iter,ifs,0⟩] scope pos) (qM wi fr g tt te):=by
 intro pins s σ H Q I h
 obtain⟨sk,sn⟩:=IF.mp hsc
 have hkind:scope.kind = .function:=of_decide_eq_true sk
 have hall:=KA.mp sn
 have hcell:∀y∈scope.names,y.2 = .cell->scope.names.lookup y.1=some .cell:=fun y hy hl=>by
  rcases I0.mp (IF.mp (IF.mp (hall y hy)).1).1 with z|z
  · exact absurd hl (of_decide_eq_true z)
  · exact of_decide_eq_true z
 have hnames:∀y∈scope.names,y.2 = .local->scope.names.lookup y.1=some .local:=fun y hy hl=>by
  rcases I0.mp (IF.mp (IF.mp (hall y hy)).1).2 with z|z
  · exact absurd hl (of_decide_eq_true z)
  · exact of_decide_eq_true z
 have hfree:∀y∈scope.names,y.2 = .free->X.env.kindOf y.1=some .cell\/X.env.kindOf y.1=some .free:=fun y hy hl=>by
  rcases I0.mp (IF.mp (hall y hy)).2 with z|z
  · exact absurd hl (of_decide_eq_true z)
  · exact(I0.mp z).imp of_decide_eq_true of_decide_eq_true
 obtain⟨frl,frg⟩:=jQ.get hfr
 obtain⟨cl,hclos,cl1,cl2⟩:=cn (env:=X.env) (scope:=scope) fun y hy hl=>I.ok.has y.1 (hfree y hy hl)
 rw[eval_ListComp]
 refine KL (use:=none) rfl hs hclos hkind hnames (E7 (hi pins s σ H _ I h) fun v s1 h1=>E7 h1 fun itv s2 h2=>?_)
 obtain⟨it,fp,tn,J,H2,e,I2,T,st2,f2,q2⟩:=h2
 subst e
 refine Jg ?_
 have hD:H2 s2.heap.objs.size=none:=I2.hok.fresh (ID _)
 have I3:Inv X pins σ (upd H2 s2.heap.objs.size (.lst [])) {s2 with heap:=s2.heap.push {cls:=.type "list", data:=.seq ([]:List Iw).toArray}} :=
  I2.laid (t':=s2.toks) (fun b u e=>Iu _ e) (ID _) ⟨by show 0<=sizeLine;exact Jz _,[],0,.nil,IL _ rfl⟩
 obtain⟨Wv,⟨m0,w0⟩,turn⟩:=q2 _ hD
 have tn3:tn 0 (s2.heap.push {cls:=.type "list", data:=.seq ([]:List Iw).toArray}):=T.keep _ _ _ st2 fun b _ o e=>Iu _ e
 have fpD:∀b∈fp,(upd H2 s2.heap.objs.size (.lst [])) b=none:=fun b hb=>by
  obtain⟨o,e,_⟩:=T.obj _ _ st2 b hb
  rw[ah (Jt (II e))]
  exact(f2 b hb).1
 have fp3:∀b∈fp,b<(s2.heap.push {cls:=.type "list", data:=.seq ([]:List Iw).toArray}).objs.size:=fun b hb=>by
  obtain⟨o,e,_⟩:=T.obj _ _ tn3 b hb
  exact II e
 exact gG N' fr hc hkind hcell hfree frl frg cl1 cl2 I3 T tn3 fpD fp3 (fun b hb=>(f2 b hb).2) (hg ⟨cl,fp,X.pn++pins,_,_⟩) (ht ⟨cl,fp,X.pn++pins,_,_⟩) (he ⟨cl,fp,X.pn++pins,_,_⟩) w0 (turn ⟨cl,fp,X.pn++pins,_,_⟩)
  (Rp:=Po (Jb X.prog X.w) X.A X.xe none (EP X pins σ Q) (.ref s2.heap.objs.size)) fun s5 H4 m hn k _ qn=>⟨m,hn,fun h' hs'=>⟨.ref _,H4,k h' hs',rfl,qn⟩⟩
theorem gt{b:Bool}{x:Str}{spos:Pos}{ix:Nat}(N':List Str)(fr:List (Option Nat))(hc:X.calm=true)(hi:PI X tg iter wi)(hfr:jQ fr N' X.N scope X.env.scope=true)(hsc:kM scope X.env.scope=true)
 (hg:∀y,PG (blk X N' scope y) tg (g y))(ht:∀y,Hu (blk X N' scope y) ifs (tt y))(he:∀y,PE (blk X N' scope y) elt (te y))(hN:X.N.Nodup)(hix:X.N[ix]?=some x)(hx:Loc X.env.scope x)
 (hf:X.fn x=true\/X.env.scope.names.lookup x=some .local)(hsw:Ku (.ListComp elt [⟨tg,iter,ifs,0⟩] scope pos) (some (.Name x px)) spos.line X.env=pure b)
 (hs:∀x,Jd iter X.env x=pure x):PS X (.Assign [.Name x px] (.ListComp elt [⟨tg,iter,ifs,0⟩] scope pos) spos) (Av (qM wi fr g tt te) (fZ ix)):=by
 cases b with
 | false=>exact fq hN hix hx (dJ N' fr hc hi hfr hsc hg ht he hs) hsw hf
 | true =>
 intro pins s σ H DD I h
 obtain⟨sk,sn⟩:=IF.mp hsc
 have hkind:scope.kind = .function:=of_decide_eq_true sk
 have hall:=KA.mp sn
 have hcell:∀y∈scope.names,y.2 = .cell->scope.names.lookup y.1=some .cell:=fun y hy hl=>by
  rcases I0.mp (IF.mp (IF.mp (hall y hy)).1).1 with z|z
  · exact absurd hl (of_decide_eq_true z)
  · exact of_decide_eq_true z
 have hnames:∀y∈scope.names,y.2 = .local->scope.names.lookup y.1=some .local:=fun y hy hl=>by
  rcases I0.mp (IF.mp (IF.mp (hall y hy)).1).2 with z|z
  · exact absurd hl (of_decide_eq_true z)
  · exact of_decide_eq_true z
 have hfree:∀y∈scope.names,y.2 = .free->X.env.kindOf y.1=some .cell\/X.env.kindOf y.1=some .free:=fun y hy hl=>by
  rcases I0.mp (IF.mp (hall y hy)).2 with z|z
  · exact absurd hl (of_decide_eq_true z)
  · exact(I0.mp z).imp of_decide_eq_true of_decide_eq_true
 obtain⟨frl,frg⟩:=jQ.get hfr
 obtain⟨cl,hclos,cl1,cl2⟩:=cn (env:=X.env) (scope:=scope) fun y hy hl=>I.ok.has y.1 (hfree y hy hl)
 rw[Oa _ _ _ _ hsw]
 refine Io (Ky (Io ?_))
 show IT _ X.A (do let _ <- comprehension (.ListComp elt [⟨tg,iter,ifs,0⟩] scope pos) scope X.env _ (newList []) false (eval iter X.env) (some (Li (.Name x px) X.env))) _ _ s
 refine Io (Jl (KL (use:=some (Li (.Name x px) X.env)) (Q:=fun _ s'=>SP X pins DD .next s') rfl hs hclos hkind hnames
  (E7 (hi pins s σ H _ I h) fun v s1 h1=>E7 h1 fun itv s2 h2=>?_)) (fun _ s' hq=>IA (IA hq)) fun _ _ e=>e)
 obtain⟨it,fp,tn,J,H2,e,I2,T,st2,f2,q2⟩:=h2
 subst e
 refine Jg ?_
 have hD:H2 s2.heap.objs.size=none:=I2.hok.fresh (ID _)
 have I3:Inv X pins σ (upd H2 s2.heap.objs.size (.lst [])) {s2 with heap:=s2.heap.push {cls:=.type "list", data:=.seq ([]:List Iw).toArray}} :=
  I2.laid (t':=s2.toks) (fun b u e=>Iu _ e) (ID _) ⟨by show 0<=sizeLine;exact Jz _,[],0,.nil,IL _ rfl⟩
 obtain⟨Wv,⟨m0,w0⟩,turn⟩:=q2 _ hD
 have tn3:tn 0 (s2.heap.push {cls:=.type "list", data:=.seq ([]:List Iw).toArray}):=T.keep _ _ _ st2 fun b _ o e=>Iu _ e
 have fpD:∀b∈fp,(upd H2 s2.heap.objs.size (.lst [])) b=none:=fun b hb=>by
  obtain⟨o,e,_⟩:=T.obj _ _ st2 b hb
  rw[ah (Jt (II e))]
  exact(f2 b hb).1
 have fp3:∀b∈fp,b<(s2.heap.push {cls:=.type "list", data:=.seq ([]:List Iw).toArray}).objs.size:=fun b hb=>by
  obtain⟨o,e,_⟩:=T.obj _ _ tn3 b hb
  exact II e
 refine gG (Q:=fun v H1=>fZ ix v σ H1 DD.nx) N' fr hc hkind hcell hfree frl frg cl1 cl2 I3 T tn3 fpD fp3 (fun b hb=>(f2 b hb).2) (hg ⟨cl,fp,X.pn++pins,_,_⟩) (ht ⟨cl,fp,X.pn++pins,_,_⟩) (he ⟨cl,fp,X.pn++pins,_,_⟩) w0 (turn ⟨cl,fp,X.pn++pins,_,_⟩)
  (Rp:=Po (Jb X.prog X.w) X.A X.xe (some (Li (.Name x px) X.env)) (fun _ s'=>SP X pins DD .next s') (.ref s2.heap.objs.size)) fun s5 H4 m hn k fpo qn=>?_
 show IT _ X.A (Li (.Name x px) X.env (.ref s2.heap.objs.size)) _ _ s5
 have I5:Inv X pins σ H4 s5:=k s5.heap (ND _ _)
 obtain⟨f0,f1,f2',f3,f4,f5⟩:=fpo
 refine Nx (eY I5 hN hix hx (v:=.ref s2.heap.objs.size) rfl (fun s6 I6 sb=>?_) hf)
 obtain⟨a,sb,ha⟩:=sb
 have hne:(s2.heap.push {cls:=.type "list", data:=.seq ([]:List Iw).toArray}).objs.size≠a:=by
  rcases ha with rfl|ha
  · exact f1
  · exact fun z=>f4 x a ha z.symm
 refine⟨m,hn.at' fun o e=>sb.extBut _ o hne e,fun h' hs'=>?_⟩
 exact⟨_,H4,I6.turned (t':=s6.toks) (fun b o hb e=>hs'.extBut b o hb e) f0 f1 f3 f4 f5,qn⟩
end
end L2
namespace L2.VL
def W.cap:W->Option W
 | .d x=>some (.d x)
 | .reel=>some .reel
 | .vv u=>some (.vv u)
 | .sc ns=>some (.sc ns)
 | .fd kvs=>some (.fd kvs)
 | .fw kvs=>some (.fw kvs)
 | .xc x fs=>some (.xc x fs)
 | .dp kvs x=>some (.dp kvs x)
 | _=>none
def dB(fr:List (Option Nat))(ρ:En):En:=fr.map fun o=>o.bind fun j=>((ρ[j]?).join).bind W.cap
def qx(X:Cx)(rl:RlT)(ifs:List Expr)(f:TB):Prop:=∃t,Hu X ifs t/\∀{F₀ H₀ F H:Hp}{σ:St}{ρ:En},VR X.K rl F₀ H₀ F H σ ρ->∀(Qd:Bool->Prop)(Q:Bool->Hp->Prop),f ρ Qd ->
 (∀b F' H',Grow rl F H F' H'->Qd b->Q b H')->t σ H Q
theorem bK:qx X rl [] (fun _ Q=>Q true):=⟨_,gY,fun R Qd Q q k=>k true _ _ (Grow.refl R.sub R.reel) q⟩
theorem eQ{fr:List (Option Nat)}{i:Nat}{w:W}(h:(dB fr ρ)[i]?=some (some w)):∃j w',fr[i]?=some (some j)/\ρ[j]?=some (some w')/\w'.cap=some w:=by
 unfold dB at h
 rw[Jj]at h
 cases ef:fr[i]? with
 | none=>rw[ef]at h;cases h
 | some o =>
   cases o with
   | none=>rw[ef]at h;cases h
   | some j =>
     rw[ef]at h
     have h':((ρ[j]?).join).bind W.cap=some w:=Jh h
     cases q:ρ[j]? with
     | none=>rw[q]at h';cases h'
     | some o =>
       cases o with
       | none=>rw[q]at h';cases h'
       | some w'=>rw[q]at h';exact⟨j,w',rfl,q,h'⟩
theorem lG{w' w:W}(h:w'.cap=some w):w=w'/\w.own=false/\∀xs,w ≠ .pk xs:=by
 cases w'<;>cases h<;>exact⟨rfl,rfl,(fun _ z=>by cases z)⟩
theorem eM{K:W.Frag}{fr:List (Option Nat)}(R:VR K rl F₀ H₀ F H σ ρ)(g:Grow rl F H F H'):VR K rl F H F H' (jR fr σ) (dB fr ρ):=by
 refine⟨g,fun i w e=>?_,fun i j xs ys v _ e1 _ o1 _ _ _=>?_,fun i xs e=>?_,by simp[jR,dB]⟩
 · obtain⟨j,w',e1,e2,e3⟩:=eQ e
   obtain⟨rfl,n1,n2⟩:=lG e3
   obtain⟨v,s1,r1,_⟩:=R.sl j w e2
   refine⟨v,?_,r1.grow g,?_⟩
   · unfold jR
     rw[Jj,e1]
     show some ((σ[j]?).join)=_
     rw[s1]
     rfl
   · cases w with
     | ml xs=>cases n1
     | md xs=>cases n1
     | mk xs=>cases n1
     | nt _=>trivial
     | lk=>trivial
     | sc _=>trivial
     | fd _=>trivial
     | fw _=>trivial
     | xc _ _=>trivial
     | dp _ _=>trivial
     | d _=>trivial
     | pk _=>trivial
     | reel=>trivial
     | vv _=>trivial
 · obtain⟨_,_,_,_,e3⟩:=eQ e1
   rw[(lG e3).2.1]at o1
   cases o1
 · obtain⟨_,_,_,_,e3⟩:=eQ e
   exact absurd rfl ((lG e3).2.2 xs)
theorem de{fr:List (Option Nat)}:mN (dB fr ρ):=fun i xs e=>by
 obtain⟨_,_,_,_,e3⟩:=eQ e
 exact(lG e3).2.1
theorem VR.other{K:W.Frag}(R:VR K rl F₀ H₀ F H σ ρ)(n:mN ρ){D:Addr}{o:HO}(h0:H₀ D=none)(f:F D=none)(hr:rl.a≠some D):VR K rl F₀ H₀ F (upd H D o) σ ρ:=by
 have neF:∀b u,F b=some u->b≠D:=fun b u q z=>by subst z;rw[f]at q;cases q
 have g:Grow rl F₀ H₀ F (upd H D o):=by
  refine⟨fun b o q1 n=>by rw[ah (aH q1 h0)];exact R.g.same b o q1 n,R.g.fs,fun b o q1=>by rw[ah (neF b o q1)];exact R.sub b o q1,R.g.old,fun y z=>?_⟩
  obtain⟨z1,⟨u,h1,h2⟩⟩:=R.reel y z
  exact⟨z1,⟨u,by rw[ah (fun q=>hr (by rw[<- q];exact z))];exact h1,h2⟩⟩
 refine⟨g,fun i w e=>?_,R.ap,R.np,R.len⟩
 obtain⟨v,h1,h2,h3⟩:=R.sl i w e
 refine⟨v,h1,?_,h3⟩
 cases w with
 | d x=>exact h2
 | reel=>exact h2
 | vv u=>exact h2
 | ml xs=>cases n i _ e
 | md xs=>cases n i _ e
 | mk xs=>cases n i _ e
 | nt ds=>exact h2
 | lk=>trivial
 | sc _=>exact h2
 | fd _=>exact h2
 | fw _=>exact h2
 | xc _ _=>exact h2
 | dp _ _=>exact h2
 | pk xs=>exact absurd e (R.np i xs)
section
variable{X:Cx}{rl:RlT}{elt tg iter:Expr}{ifs:List Expr}{scope:Scope}{pos:Pos}{fi:En->(List Im->Prop)->Prop}{g:Hf}{ft:TB}{fe:TV}
end
mutual
def xg:Im->Prop
 | .none=>True
 | .bool _=>True
 | .int i=>i.natAbs<2^1900
 | .str x=>Im.strOk x=true
 | .list xs=>eA xs
 | .tuple xs=>eA xs
 | .dict _=>False
def eA:List Im->Prop
 | []=>True
 | x::xs=>xg x/\eA xs
end
theorem mC{k:Nat}(h:n<2^k)(hk:0<k):n.log2<k:=by
 by_cases h0:n=0
 · subst h0;simpa using hk
 · exact(Nat.log2_lt h0).mpr h
mutual
theorem xg.facts:∀d:Im,xg d->d.showable=true/\d.canLay0=true/\d.hasDict=false/\d.leavesShort 1921=true
 | .none,_=>⟨rfl,rfl,rfl,rfl⟩
 | .bool _,_=>⟨rfl,rfl,rfl,rfl⟩
 | .int i,h=>by
   have hl:i.natAbs.log2<1920:=mC (IG (show i.natAbs<2^1900 from h) (Jm (by decide) (by decide))) (by decide)
   refine⟨by simp[Ob,hl],rfl,rfl,?_⟩
   simp only[Mi,decide_eq_true_eq]
   exact int_text_len_1921 hl
 | .str x,h=>by
   refine⟨rfl,(show Ka (.str x)=true by simp only[Ka];exact h),rfl,?_⟩
   have h:x.cps.all (· < 0x110000)=true:=h
   simp only[Mi]
   rw[KA]
   intro c hc
   have:=(Array.all_eq_true_iff_forall_mem.mp h) c (by simpa using hc)
   simp at this ⊢
   omega
 | .list xs,h=>by
   obtain⟨a,b,c,d⟩:=eA.facts xs h
   exact⟨by simpa[Ob]using a,by simpa[Ka]using b,by simpa[Im.hasDict]using c,by simpa[Mi]using d⟩
 | .tuple xs,h=>by
   obtain⟨a,b,c,d⟩:=eA.facts xs h
   exact⟨by simpa[Ob]using a,by simpa[Ka]using b,by simpa[Im.hasDict]using c,by simpa[Mi]using d⟩
 | .dict _,h=>Jq h
theorem eA.facts:∀xs:List Im,eA xs->Im.showableAll xs=true/\Ke xs=true/\Im.hasDictAll xs=false/\Oc 1921 xs=true
 | [],_=>⟨rfl,rfl,rfl,rfl⟩
 | x::xs,h=>by
   obtain⟨a,b,c,d⟩:=xg.facts x h.1
   obtain⟨a',b',c',d'⟩:=eA.facts xs h.2
   exact⟨by simp[Im.showableAll,a,a'],by simp[Ke,b,b'],by simp[Im.hasDictAll,c,c'],by simp[Oc,d,d']⟩
end
def Ho(d:Im):Prop:=xg d/\d.depth<=60/\d.bulk<=8000
theorem Ho.len(h:Ho d):d.shown.length<=sizeLine:=by
 have q:=Im.shown_le_bulk 1921 (by decide) d (xg.facts d h.1).2.2.2
 have:=h.2.2
 have e:sizeLine=16777216:=by decide
 omega
section
variable{X:Cx}{rl:RlT}{a b e:Expr}{es:List Expr}{fa fb fc:TV}{fs:G_}{pos p:Pos}
theorem cS(hm:X.mg "len" = none)(ha:Hs X rl [a] fs)(hg:Gl X "len" := by rfl)(he:IC [a] X.env=(false,eval a X.env)::IC [] X.env:=by rfl)(hpl:(Kh pos (IC [] X.env)).any (·.1)=false:=by rfl) :
 PV X rl (.Call (.Name "len" p) [a] [] pos) (cA xw fs):=dv cy xN hm boot_len ha hg (by decide) (by decide) he hpl
theorem AO(hm:X.mg "abs" = none)(ha:Hs X rl [a] fs)(hg:Gl X "abs" := by rfl)(he:IC [a] X.env=(false,eval a X.env)::IC [] X.env:=by rfl)(hpl:(Kh pos (IC [] X.env)).any (·.1)=false:=by rfl) :
 PV X rl (.Call (.Name "abs" p) [a] [] pos) (cA AF fs):=dv sB xP hm (by first|rfl|exact boot_abs) ha hg (by decide) (by decide) he hpl
end
structure FnIn (K:W.Frag) (mg:Str->Option Iw) (x:Str) (st:Stmt) (ps:List Str):Prop where
 ex:∃f fd,mg x=some (.ref f)/\Fun K x x st f fd/\Binds K fd ps []
structure Bz (mg:Str->Option Iw):Prop where
 int_:mg "int" = none
 bool_:mg "bool" = none
 str_:mg "str" = none
 list_:mg "list" = none
 tuple_:mg "tuple" = none
 dict_:mg "dict" = none
 isinstance_:mg "isinstance" = none
 len_:mg "len" = none
 abs_:mg "abs" = none
 repr_:mg "repr" = none
 range_:mg "range" = none
 all_:mg "all" = none
 any_:mg "any" = none
 sum_:mg "sum" = none
 min_:mg "min" = none
 max_:mg "max" = none
 sorted_:mg "sorted" = none
 zip_:mg "zip" = none
 enumerate_:mg "enumerate" = none
 reversed_:mg "reversed" = none
 divmod_:mg "divmod" = none
 set_:mg "set" = none
section
variable{P:IZ}{w:JN}{K:W.Frag}{mg:Str->Option Iw}{base:Heap}{rl:RlT}{x:Str}{st:Stmt}{N ps:List Str}{k:Nat}{Pd:List W->(Im->Prop)->Prop}{t:Ha}
theorem Dfn.of(Fn:FnIn K mg x st ps)(S:FnScope N ps (defScope st))(mono:∀ws Q Q',(∀d,Q d->Q' d)->Pd ws Q->Pd ws Q')(len:∀ws Q,Pd ws Q->ws.length=ps.length)
 (hbody:∀{f:Addr}(cdv:Iw)(A:J4)(outer:List Env)(s:IB)(H:Hp)(E:XK),Room k (A.deeper (MR x (defScope st) s.heap.objs.size f cdv)) ->
  jm (lA Ib P w K mg base N x (defScope st) f cdv A outer s H E).nox rl (defBody st) t)
 (hread:∀ws Q,Pd ws Q->t (lO Q) (cu N ws)):Dfn P w K mg base rl x ps (k+1) Pd:=by
 obtain⟨f,fd,hm,F,hb⟩:=Fn.ex
 exact⟨mono,f,fd,hm,F.kp,hb,ER F S len hbody hread⟩
end
section
variable{X:Cx}{rl:RlT}{e:Expr}{es:List Expr}{fa fb fc:TV}{fs:G_}{pos p:Pos}
end
def GL(pre:Im->Prop)(f:Im->Im):List W->(Im->Prop)->Prop:=fun ws Q=>∃a,ws=[.d a]/\pre a/\Q (f a)
def GK(pre:Im->Im->Prop)(f:Im->Im->Im):List W->(Im->Prop)->Prop:=fun ws Q=>∃a b,ws=[.d a,.d b]/\pre a b/\Q (f a b)
theorem GL.mono{pre:Im->Prop}{f:Im->Im}:∀ws (Q Q':Im->Prop),(∀d,Q d->Q' d)->GL pre f ws Q->GL pre f ws Q':=fun _ _ _ h ⟨a,e,p,q⟩=>⟨a,e,p,h _ q⟩
theorem GK.mono{pre:Im->Im->Prop}{f:Im->Im->Im}:∀ws (Q Q':Im->Prop),(∀d,Q d->Q' d)->GK pre f ws Q->GK pre f ws Q':=fun _ _ _ h ⟨a,b,e,p,q⟩=>⟨a,b,e,p,h _ q⟩
theorem GL.len{pre:Im->Prop}{f:Im->Im}:∀ws (Q:Im->Prop),GL pre f ws Q->ws.length=1:=fun _ _ ⟨a,e,_⟩=>by subst e;rfl
theorem GK.len{pre:Im->Im->Prop}{f:Im->Im->Im}:∀ws (Q:Im->Prop),GK pre f ws Q->ws.length=2:=fun _ _ ⟨a,b,e,_⟩=>by subst e;rfl
def FE(post:Im->Prop):List W->(Im->Prop)->Prop:=fun ws Q=>ws=[.reel]/\∀d,post d->Q d
theorem FE.mono{post:Im->Prop}:∀ws (Q Q':Im->Prop),(∀d,Q d->Q' d)->FE post ws Q->FE post ws Q':=fun _ _ _ h ⟨e,q⟩=>⟨e,fun d hd=>h d (q d hd)⟩
theorem FE.len{post:Im->Prop}:∀ws (Q:Im->Prop),FE post ws Q->ws.length=1:=fun _ _ ⟨e,_⟩=>by subst e;rfl
def vG:List W->(Im->Prop)->Prop:=fun ws Q=>∃m:Int,ws=[.reel,.d (.int m)]/\0<m/\m<2^60/\∀k:Int,0<=k->k<m->Q (.int k)
theorem vG.mono:∀ws (Q Q':Im->Prop),(∀d,Q d->Q' d)->vG ws Q->vG ws Q':=fun _ _ _ h ⟨m,e,p,z,q⟩=>⟨m,e,p,z,fun k a b=>h _ (q k a b)⟩
theorem vG.len:∀ws (Q:Im->Prop),vG ws Q->ws.length=2:=fun _ _ ⟨m,e,_⟩=>by subst e;rfl
theorem fz_d(x:Im):(W.d x).fz = .d x:=rfl
theorem fz_ml(x:List Im):(W.ml x).fz = .d (.list x):=rfl
theorem fz_pk(x:List Im):(W.pk x).fz = .pk x:=rfl
theorem fz_reel:W.reel.fz = .reel:=rfl
theorem fz_vv(x:V):(W.vv x).fz = .vv x:=rfl
theorem pk_d(x:Im):L2.VL.W.peek (.d x) = .d x:=rfl
theorem pk_ml(x:List Im):L2.VL.W.peek (.ml x) = .pk x:=rfl
theorem pk_reel:L2.VL.W.peek .reel = .reel:=rfl
theorem pk_vv(x:V):L2.VL.W.peek (.vv x) = .vv x:=rfl
theorem dat_d(x:Im):(W.d x).dat=some x:=rfl
theorem dat_ml(x:List Im):(W.ml x).dat=some (.list x):=rfl
theorem dat_pk(x:List Im):(W.pk x).dat=some (.list x):=rfl
theorem isPk_d(x:Im):(W.d x).isPk=false:=rfl
theorem isPk_ml(x:List Im):(W.ml x).isPk=false:=rfl
theorem isPk_reel:W.reel.isPk=false:=rfl
theorem dats_nil:jV []=some []:=rfl
theorem dats_d(x:Im)(r:List W):jV (.d x::r)=(jV r).map (x :: ·):=rfl
theorem arg_d(x:Im):cY (.d x)=true:=rfl
theorem arg_reel:cY .reel=true:=rfl
theorem item_l(xs:List Im)(i:Int):L2.VL.itemAt (.list xs) i=L2.atI xs i:=rfl
theorem item_t(xs:List Im)(i:Int):L2.VL.itemAt (.tuple xs) i=L2.atI xs i:=rfl
theorem len_l(xs:List Im):wn (.list xs)=some xs.length:=rfl
theorem len_t(xs:List Im):wn (.tuple xs)=some xs.length:=rfl
theorem at0{α:Type}(x:α)(r:List α):L2.atI (x::r) 0=some x:=by simp[L2.atI,L2.ixN]
theorem at1{α:Type}(x y:α)(r:List α):L2.atI (x::y::r) 1=some y:=by
 have:(1:Int)<((x::y::r).length:Int):=by simp;omega
 simp only[L2.atI,L2.ixN]
 rw[if_pos (by decide),if_pos this]
 rfl
theorem jS{x y:Int}(h:y≠0):(x.fmod y).natAbs<y.natAbs:=by
 rcases Int.lt_or_gt_of_ne h with hy|hy
 · have h1:=Od x y
   have e:x.fmod y = -((-x).fmod (-y)):=by
    have:=Int.neg_fmod_neg x y
    omega
   have p:0 < -y:=by omega
   have b1:=KC (-x) p
   have b2:=K6 (-x) p
   omega
 · have b1:=KC x hy
   have b2:=K6 x hy
   omega
theorem lu(x y:Int):Kg y (x.fmod y)=Kg x y:=by
 have e:x.fmod y=x+y*(-(x.fdiv y)):=by
  have:=Od x y
  rw[Pv]
  omega
 rw[e,Int.gcd_add_mul_left_right]
 exact Nk y x
theorem eqv_ii(a b:Int):Kk (.int a) (.int b)=(a==b):=by simp[Kk]
theorem shaped_i(a:Int):KJ (.int a)=true:=rfl
theorem shaped_b(a:Bool):KJ (.bool a)=true:=rfl
def BQ:List W->(Im->Prop)->Prop:=fun ws Q=>∃i j:Int,ws=[.d (.int i),.d (.int j)]/\Q (.int (Kg i j))
theorem BQ.mono:∀ws (Q Q':Im->Prop),(∀d,Q d->Q' d)->BQ ws Q->BQ ws Q':=fun _ _ _ h ⟨i,j,e,q⟩=>⟨i,j,e,h _ q⟩
theorem BQ.len:∀ws (Q:Im->Prop),BQ ws Q->ws.length=2:=fun _ _ ⟨_,_,e,_⟩=>by subst e;rfl
theorem ga.of{i j:Int}(h:j≠0)(b:j.natAbs<2^64):ga i j:=⟨h,IG b (Jm (by decide) (by decide))⟩
theorem fL:∀ns:List Int,Ke (ns.map IJ)=true
 | []=>rfl
 | n::ns=>by simp[Ke,Ka,fL ns]
theorem gF:∀ns:List Int,Jn (ns.map IJ)=0
 | []=>rfl
 | n::ns=>by simp[Jn,JM,gF ns]
theorem shaped_ints(ns:List Int):KJ (.list (ns.map .int))=true:=by simp[KJ,Ka,JM,fL,gF]
theorem wJ(ns:List Im):Kk (.list ns) (.list [])=ns.isEmpty:=by cases ns<;>simp[Kk,MK]
theorem wH{a:Int}(h:b≠0):0<(Kg a b:Int):=by
 have:=Int.gcd_pos_of_ne_zero_right a h
 omega
theorem zK{a:Int}(h:b≠0):(Kg a b)<=b.natAbs:=Nat.le_of_dvd (by omega) (Int.gcd_dvd_natAbs_right a b)
theorem Ho.pair{a b:Im}(h:Ho (.tuple [a,b])):a.canLay0=true/\b.canLay0=true/\a.depth<=59/\b.depth<=59:=by
 obtain⟨_,c,_⟩:=xg.facts _ h.1
 have d:=h.2.1
 simp[Ka,Ke]at c
 simp[JM,Jn]at d
 exact⟨c.1,c.2,by omega,by omega⟩
def wb:List W->(Im->Prop)->Prop:=fun ws Q=>∃a b:Int,ws=[.d (.int a),.d (.int b)]/\b≠0/\b.natAbs<2^8000 /\
 ∀c,c=(if 0<b then(Kg a b:Int)else -(Kg a b:Int))->Q (.tuple [.int (a.fdiv c),.int (b.fdiv c)])
theorem wb.mono:∀ws (Q Q':Im->Prop),(∀d,Q d->Q' d)->wb ws Q->wb ws Q':=fun _ _ _ h ⟨a,b,e,p,z,q⟩=>⟨a,b,e,p,z,fun c hc=>h _ (q c hc)⟩
theorem wb.len:∀ws (Q:Im->Prop),wb ws Q->ws.length=2:=fun _ _ ⟨_,_,e,_⟩=>by subst e;rfl
structure Lf (d:Im):Prop where
 nice:xg d
 dep:d.depth<=2
 wt:d.bulk<=2000
theorem Lf.int{i:Int}(h:i.natAbs<2^1000):Lf (.int i) :=
 ⟨N9 h (Lh (by decide) (by decide)),by simp[JM],by simp[LJ]⟩
theorem Ho.t1{a:Im}(ha:Lf a):Ho (.tuple [a]):=by
 refine⟨⟨ha.nice,trivial⟩,?_,?_⟩
 · have:=ha.dep;simp[JM,Jn];omega
 · have:=ha.wt;simp[LJ,KH];omega
theorem Ho.t2{a b:Im}(ha:Lf a)(hb:Lf b):Ho (.tuple [a,b]):=by
 refine⟨⟨ha.nice,hb.nice,trivial⟩,?_,?_⟩
 · have:=ha.dep;have:=hb.dep;simp[JM,Jn];omega
 · have:=ha.wt;have:=hb.wt;simp[LJ,KH];omega
theorem Ho.l2{a b:Im}(ha:Lf a)(hb:Lf b):Ho (.list [a,b]):=by
 refine⟨⟨ha.nice,hb.nice,trivial⟩,?_,?_⟩
 · have:=ha.dep;have:=hb.dep;simp[JM,Jn];omega
 · have:=ha.wt;have:=hb.wt;simp[LJ,KH];omega
theorem Lf.pair{a:Int}(ha:a.natAbs<2^900)(hb:b.natAbs<2^900):Lf (.tuple [.int a,.int b]):=by
 refine⟨⟨N9 ha (Lh (by decide) (by decide)),N9 hb (Lh (by decide) (by decide)),trivial⟩,by simp[JM,Jn],by simp[LJ,KH]⟩
theorem Ag{xs:List α}{k:Int}(h0:0<=k)(h1:k<(xs.length:Int)):∃z,L2.atI xs k=some z/\z∈xs:=by
 obtain⟨n,rfl⟩:=JC h0
 have hn:n<xs.length:=by omega
 exact⟨xs[n],cp (Iy hn),JA hn⟩
theorem Lf.i{i:Int}(h:i.natAbs<2^250):Lf (.int i):=.int (IG h (Jm (by decide) (by decide)))
theorem Lf.p{a:Int}(ha:a.natAbs<2^250)(hb:b.natAbs<2^250):Lf (.tuple [.int a,.int b]):=.pair (IG ha (Jm (by decide) (by decide))) (IG hb (Jm (by decide) (by decide)))
theorem fm{K:W.Frag}{i:Str}(h:Rep K F v (.str i)):v = .str i:=by cases h;rfl
def AE(neg:Bool):W->W->(W->Prop)->Prop:=fun x y Q=>∃a b:Str,x = .d (.str a)/\y = .d (.str b)/\Q (.d (.bool (if neg then !decide (a=b)else decide (a=b))))
theorem xK:G7 X rl FJ (AE false):=fun{F H x y wx wy} Qd Q s ra r1 r2 q k=>by
 obtain⟨a,b,rfl,rfl,q⟩:=q
 have e1:=fm r1
 have e2:=fm r2
 subst e1 e2
 have e:decide (V.str a=V.str b)=decide (a=b):=by
  by_cases h:a=b
  · subst h;simp
  · rw[decide_eq_false h,decide_eq_false fun z=>h (by injection z)]
 exact⟨rfl,by rw[e];exact k _ (.d _) _ _ (Grow.refl s ra) (.bl _) trivial q⟩
theorem sK:G7 X rl FG (AE true):=fun{F H x y wx wy} Qd Q s ra r1 r2 q k=>by
 obtain⟨a,b,rfl,rfl,q⟩:=q
 have e1:=fm r1
 have e2:=fm r2
 subst e1 e2
 have e:decide (V.str a=V.str b)=decide (a=b):=by
  by_cases h:a=b
  · subst h;simp
  · rw[decide_eq_false h,decide_eq_false fun z=>h (by injection z)]
 exact⟨rfl,by rw[e];exact k _ (.d _) _ _ (Grow.refl s ra) (.bl _) trivial q⟩
def DM(K:W.Frag)(rl:RlT)(P:List W->(List Im->Prop)->Prop):Sp:=fun vs H Q _=>∃F ws,bm F H/\Hq rl F H/\dh K rl F H vs ws/\ws.all cY=true/\P ws fun xs=>∀v F' H',Grow rl F H F' H'->eU K rl F' H' v xs->cZ H v (.ml xs)->Q v H'
def zy(Q:List Im->Prop):VEnds:=⟨fun _=>False,fun w=>∃xs,w = .ml xs/\Q xs,fun _=>False,fun _=>False⟩
structure DfnL (P:IZ) (w:JN) (K:W.Frag) (mg:Str->Option Iw) (base:Heap) (rl:RlT) (x:Str) (ps:List Str) (k:Nat) (Pd:List W->(List Im->Prop)->Prop):Prop where
 mono:∀ws Q Q',(∀d,Q d->Q' d)->Pd ws Q->Pd ws Q'
 ex:∃f fd,mg x=some (.ref f)/\W.keepIn K (.ref f)=true/\Binds K fd ps []/\FnOk P w K mg base Ib k f fd ps (DM K rl Pd)
section
variable{P:IZ}{w:JN}{K:W.Frag}{mg:Str->Option Iw}{base:Heap}{rl:RlT}{x:Str}{st:Stmt}{N ps:List Str}{k:Nat}{Pd:List W->(List Im->Prop)->Prop}{t:Ha}
theorem DfnL.of(Fn:FnIn K mg x st ps)(S:FnScope N ps (defScope st))(mono:∀ws Q Q',(∀d,Q d->Q' d)->Pd ws Q->Pd ws Q')(len:∀ws Q,Pd ws Q->ws.length=ps.length)
 (hbody:∀{f:Addr}(cdv:Iw)(A:J4)(outer:List Env)(s:IB)(H:Hp)(E:XK),Room k (A.deeper (MR x (defScope st) s.heap.objs.size f cdv)) ->
  jm (lA Ib P w K mg base N x (defScope st) f cdv A outer s H E).nox rl (defBody st) t)
 (hread:∀ws Q,Pd ws Q->t (zy Q) (cu N ws)):DfnL P w K mg base rl x ps (k+1) Pd:=by
 obtain⟨f,fd,hm,F,hb⟩:=Fn.ex
 refine⟨mono,f,fd,hm,F.kp,hb,?_⟩
 refine F.ok S (fun vs H Q E ⟨F,ws,_,_,r,_,q⟩=>(J6 r).trans (len ws _ q)) fun cdv A outer s H vs Q E hr h=>?_
 obtain⟨F,ws,sm,ra,r,ok,q⟩:=h
 obtain⟨T,p,kk⟩:=hbody cdv A outer s H E hr
 refine⟨T,p,kk (cD sm ra r ok) (zy _) _ ⟨fun _ _ _ _ _ _ z=>Jq z,?_,fun _ _ _ _ _ _ z=>Jq z,fun _ _ _ _ _ _ z=>Jq z⟩ (hread ws _ q)⟩
 rintro v w1 F1 H1 g1 r1 n1 ⟨xs,rfl,q1⟩
 exact q1 v F1 H1 g1 r1 n1
end
section
variable{X:Cx}{rl:RlT}{e:Expr}{es:List Expr}{fs:G_}{pos p:Pos}
theorem vB(X:Cx)(rest:List Stmt):Hv X rest (fun D σ H=>∀pins s,Inv X pins σ H s->IT (Jb X.prog X.w) X.A (execs rest X.env) (SP X pins D) X.xe s):=fun pins s σ H D I h=>h pins s I
end
section
variable{X:Cx}{rl:RlT}{a b c e:Expr}{es:List Expr}{fa fb fc:TV}{fs:G_}{pos p:Pos}
def eE:Im->Option (List Im)
 | .list xs=>some xs
 | .tuple xs=>some xs
 | _=>none
theorem seq_l(xs:List Im):eE (.list xs)=some xs:=rfl
theorem seq_t(xs:List Im):eE (.tuple xs)=some xs:=rfl
theorem eE.of{o:Option Im}(h:o=some d)(e:eE d=some xs):o=some (.list xs)\/o=some (.tuple xs):=by
 cases d<;>cases e
 · exact .inl h
 · exact .inr h
def pC:List W->(W->Prop)->Prop:=fun ws Q=>∃w d xs,ws=[w]/\w.dat=some d/\eE d=some xs/\Q (.d (.tuple xs))
theorem sN:dZ X rl (fun xs H Q=>∃p ys,xs=[.ref p]/\((Hj X.K H p ys/\∀l,H l=none->Q (.ref l) (upd H l (.tup ys)))\/(Hi X.K H p ys/\Q (.ref p) H))) pC:=fun{F H vs ws} Qd Q s ra r ⟨w,d,xs,ew,ed1,ed2,q⟩ k=>by
 have ed:=eE.of ed1 ed2
 subst ew
 obtain⟨v,rfl,r1⟩:=mP r
 rcases ed with ed|ed
 · obtain⟨a,us,rfl,sq,rs⟩:=r1.items s ed
   refine⟨a,us,rfl,.inl ⟨sq,fun l hl=>?_⟩⟩
   have g:=Grow.data (a:=l) (o:=.tup us) s ra hl
   exact k _ (.d (.tuple xs)) _ _ g (.tup (.inl (.inl ak)) (rs.mono g.fs)) trivial q
 · cases w with
   | d y =>
     cases ed
     cases(show Rep X.K F v (.tuple xs)from r1)with
     | tup sq rs=>exact⟨_,_,rfl,.inr ⟨dg s sq,k _ (.d (.tuple xs)) _ _ (Grow.refl s ra) (.tup sq rs) trivial q⟩⟩
   | ml ys=>cases ed
   | pk ys=>cases ed
   | reel=>cases ed
   | vv u=>cases ed
   | md u=>cases ed
   | mk u=>cases ed
   | lk=>cases ed
   | sc _=>cases ed
   | fd _=>cases ed
   | fw _=>cases ed
   | xc _ _=>cases ed
   | dp _ _=>cases ed
   | nt ds =>
     cases ed
     obtain⟨b,us,rfl,h,q'⟩:=r1
     exact⟨_,_,rfl,.inr ⟨.inl (.inl (s _ _ h)),k _ (.d (.tuple xs)) _ _ (Grow.refl s ra) (.tup (.inl (.inl h)) q') trivial q⟩⟩
theorem bj(hm:X.mg "tuple" = none)(ha:Hs X rl [a] fs)(hg:Gl X "tuple" := by rfl)(he:IC [a] X.env=(false,eval a X.env)::IC [] X.env:=by rfl)(hpl:(Kh pos (IC [] X.env)).any (·.1)=false:=by rfl) :
 PV X rl (.Call (.Name "tuple" p) [a] [] pos) (cA pC fs):=gQ b9 sN hm (by rfl) ha hg (by decide) (by decide) he hpl
def rT:List W->(W->Prop)->Prop:=fun ws Q=>∃w d xs,ws=[w]/\w.dat=some d/\eE d=some xs/\Q (.ml xs)
theorem xM:dZ X rl (fun xs H Q=>∃p ys,xs=[.ref p]/\(Hj X.K H p ys\/Hi X.K H p ys)/\∀l,H l=none->Q (.ref l) (upd H l (.lst ys))) rT:=fun{F H vs ws} Qd Q s ra r ⟨w,d,xs,ew,ed1,ed2,q⟩ k=>by
 have ed:=eE.of ed1 ed2
 subst ew
 obtain⟨v,rfl,r1⟩:=mP r
 rcases ed with ed|ed
 · obtain⟨a,us,rfl,sq,rs⟩:=r1.items s ed
   exact⟨a,us,rfl,.inl sq,fun l hl=>k _ (.ml xs) _ _ (Grow.laid s ra hl) (cx s ra hl rs) (fun a ea=>by cases ea;exact hl) q⟩
 · obtain⟨a,us,rfl,sq,rs⟩:=r1.itemsT s ed
   exact⟨a,us,rfl,.inr sq,fun l hl=>k _ (.ml xs) _ _ (Grow.laid s ra hl) (cx s ra hl rs) (fun a ea=>by cases ea;exact hl) q⟩
theorem kz(hm:X.mg "list" = none)(ha:Hs X rl [a] fs)(hg:Gl X "list" := by rfl)(he:IC [a] X.env=(false,eval a X.env)::IC [] X.env:=by rfl)(hpl:(Kh pos (IC [] X.env)).any (·.1)=false:=by rfl) :
 PV X rl (.Call (.Name "list" p) [a] [] pos) (cA rT fs):=gQ i_ xM hm (by rfl) ha hg (by decide) (by decide) he hpl
end
section
variable{X:Cx}{rl:RlT}
end
section
variable{X:Cx}{rl:RlT}{a b c e:Expr}{es:List Expr}{fa fb fc:TV}{fs:G_}{pos p p2:Pos}
def GH(f:Int->Int->Im):List W->(W->Prop)->Prop:=fun ws Q=>∃i j,ws=[.d (.int i),.d (.int j)]/\Q (.d (f i j))
theorem xO{f:Int->Int->V}{g:Int->Int->Im}(h:∀K F i j,Rep K F (f i j) (g i j)):dZ X rl (fun xs H Q=>∃i j,xs=[.int i,.int j]/\Q (f i j) H) (GH g):=fun{F H vs ws} Qd Q s ra r ⟨i,j,ew,q⟩ k=>by
 subst ew
 obtain⟨v,u,rfl,r1,r2⟩:=yE r
 have e1:=ay r1
 have e2:=ay r2
 subst e1 e2
 exact⟨i,j,rfl,k _ (.d _) _ _ (Grow.refl s ra) (h _ _ i j) trivial q⟩
theorem xW(hm:X.mg "max" = none)(ha:Hs X rl [a,b] fs)(hc:X.calm=true:=by rfl)(hg:Gl X "max" := by rfl)(he:IC [a,b] X.env=(false,eval a X.env)::IC [b] X.env:=by rfl)(hpl:(Kh pos (IC [b] X.env)).any (·.1)=false:=by rfl) :
 PV X rl (.Call (.Name "max" p) [a,b] [] pos) (cA (GH fun i j=>.int (max i j)) fs) :=
 dv (qg hc) (xO (f:=fun i j=>.int (if j>i then j else i)) fun _ _ i j=>(show(if j>i then j else i)=max i j by split<;>omega) ▸ .int _) hm (by rfl) ha hg (by decide) (by decide) he hpl
theorem xV(hm:X.mg "min" = none)(ha:Hs X rl [a,b] fs)(hc:X.calm=true:=by rfl)(hg:Gl X "min" := by rfl)(he:IC [a,b] X.env=(false,eval a X.env)::IC [b] X.env:=by rfl)(hpl:(Kh pos (IC [b] X.env)).any (·.1)=false:=by rfl) :
 PV X rl (.Call (.Name "min" p) [a,b] [] pos) (cA (GH fun i j=>.int (min i j)) fs) :=
 dv (qf hc) (xO (f:=fun i j=>.int (if j<i then j else i)) fun _ _ i j=>(show(if j<i then j else i)=min i j by split<;>omega) ▸ .int _) hm (by rfl) ha hg (by decide) (by decide) he hpl
def hZ:List W->(W->Prop)->Prop:=fun ws Q=>∃i j,ws=[.d (.int i),.d (.int j)]/\0<j/\j<1073741824/\Q (.d (.tuple [.int (i / j),.int (i%j)]))
theorem m6:dZ X rl (fun xs H Q=>∃i j,xs=[.int i,.int j]/\DB i j/\∀p,H p=none->Q (.ref p) (upd H p (.tup [.int (i / j),.int (i%j)]))) hZ:=fun{F H vs ws} Qd Q s ra r ⟨i,j,ew,h1,h2,q⟩ k=>by
 subst ew
 obtain⟨v,u,rfl,r1,r2⟩:=yE r
 have e1:=ay r1
 have e2:=ay r2
 subst e1 e2
 refine⟨i,j,rfl,⟨h1,h2⟩,fun p hp=>?_⟩
 have g:=Grow.data (a:=p) (o:=.tup [.int (i / j),.int (i%j)]) s ra hp
 exact k _ (.d _) _ _ g (.tup (.inl (.inl ak)) (.cons (.int _) (.cons (.int _) .nil))) trivial q
theorem qE(hm:X.mg "divmod" = none)(ha:Hs X rl [a,b] fs)(hg:Gl X "divmod" := by rfl)(he:IC [a,b] X.env=(false,eval a X.env)::IC [b] X.env:=by rfl)(hpl:(Kh pos (IC [b] X.env)).any (·.1)=false:=by rfl) :
 PV X rl (.Call (.Name "divmod" p) [a,b] [] pos) (cA hZ fs):=dv jX m6 hm (by rfl) ha hg (by decide) (by decide) he hpl
def pD:List W->(W->Prop)->Prop:=fun ws Q=>(∃i,ws=[.d (.int i)]/\Q (.d (.int i)))\/∃k:Bool,ws=[.d (.bool k)]/\Q (.d (.int (if k then 1 else 0)))
theorem m3:dZ X rl (fun xs H Q=>(∃i,xs=[.int i]/\Q (.int i) H)\/∃k,xs=[.bl k]/\Q (.int (if k then 1 else 0)) H) pD:=fun{F H vs ws} Qd Q s ra r h k=>by
 rcases h with⟨i,ew,q⟩|⟨i,ew,q⟩
 · subst ew
   obtain⟨v,rfl,r1⟩:=mP r
   have e1:=ay r1
   subst e1
   exact .inl ⟨i,rfl,k _ (.d _) _ _ (Grow.refl s ra) (.int _) trivial q⟩
 · subst ew
   obtain⟨v,rfl,r1⟩:=mP r
   have e1:=iK r1
   subst e1
   exact .inr ⟨i,rfl,k _ (.d _) _ _ (Grow.refl s ra) (.int _) trivial q⟩
theorem sQ(hm:X.mg "int" = none)(ha:Hs X rl [a] fs)(hg:Gl X "int" := by rfl)(he:IC [a] X.env=(false,eval a X.env)::IC [] X.env:=by rfl)(hpl:(Kh pos (IC [] X.env)).any (·.1)=false:=by rfl) :
 PV X rl (.Call (.Name "int" p) [a] [] pos) (cA pD fs):=gQ ja m3 hm (by rfl) ha hg (by decide) (by decide) he hpl
def Gu(C:Int->Int->Prop)(f:Int->Int->Int):Hd:=fun x y H Q=>∃i j,x = .int i/\y = .int j/\C i j/\Q (.int (f i j)) H
theorem ww:Hz X .Mult (Gu bV fun i j=>i*j):=by
 intro pins s σ H x y v u Q I r1 r2 h
 obtain⟨i,j,e1,e2,hc,q⟩:=h
 subst e1;subst e2
 obtain⟨t,rfl⟩:=r1
 obtain⟨t',rfl⟩:=r2
 exact imul_int ⟨.int _,H,I.tok _,⟨_,rfl⟩,q⟩ hc.ok
def AY(i:Nat)(C:Int->Int->Prop)(f:Int->Int->Int)(fa:TV):Ha:=fun D ρ=>∃n,ρ[i]?=some (some (.d (.int n)))/\fa ρ fun w=>∃m,w = .d (.int m)/\C n m/\D.nx (ρ.set i (some (.d (.int (f n m)))))
theorem xF(i:Nat){x:Str}{op:OR}{C:Int->Int->Prop}{f:Int->Int->Int}(hN:X.N.Nodup)(ho:Hz X op (Gu C f))(he:PV X rl e fa)(hi:X.N[i]?=some x:=by rfl)(hx:Loc X.env.scope x:=by first|exact J8 rfl|exact Jw rfl)
 (hf:X.fn x=true\/X.env.scope.names.lookup x=some .local:=by first|exact .inl rfl|exact .inr rfl):Hw X rl (.AugAssign (.Name x pos') op e pos) (AY i C f fa):=by
 obtain⟨t,p,k⟩:=he
 refine⟨_,tF hN hi hx p ho hf,fun R Dv D ok ⟨n,e1,q⟩=>?_⟩
 obtain⟨v,s1,r1,_⟩:=R.sl i _ e1
 have ev:=ay r1
 subst ev
 refine⟨_,s1,k R _ _ q fun v w F1 H1 g1 r1 n1 ⟨m,ew,hc,q1⟩=>?_⟩
 subst ew
 have ev:=ay r1
 subst ev
 exact⟨n,m,rfl,rfl,hc,ok.nx _ _ _ _ g1.fs (R.set g1 (v:=.int (f n m)) (w:=.d (.int (f n m))) (.int _) trivial (fun _ z=>by cases z) i) q1⟩
def cutD(xs:List Im)(lo hi:Option Int):List Im:=(xs.drop (HT.sIx xs.length 0 lo)).take (HT.sIx xs.length xs.length hi-HT.sIx xs.length 0 lo)
theorem Reps.cut{K:W.Frag}{ds:List Im}(r:Reps K F vs ds)(lo hi:Option Int):Reps K F (sh vs lo hi) (cutD ds lo hi):=by
 unfold sh cutD
 rw[r.length]
 exact(r.drop _).take _
abbrev Hb:=En->(Option Int->Prop)->Prop
def Ht(X:Cx)(rl:RlT)(o:Option Expr)(f:Hb):Prop:=∃t,PO X o t/\∀{F₀ H₀ F H:Hp}{σ:St}{ρ:En},VR X.K rl F₀ H₀ F H σ ρ->∀(Qd:Option Int->Prop)(Q:Option Int->Hp->Prop),f ρ Qd ->
 (∀o F' H',Grow rl F H F' H'->Qd o->Q o H')->t σ H Q
def FX:Hb:=fun _ Q=>Q none
def FY(fa:TV):Hb:=fun ρ Q=>fa ρ fun w=>∃i,w = .d (.int i)/\Q (some i)
theorem du:Ht X rl none FX:=⟨_,vF,fun R Qd Q q k=>k _ _ _ (Grow.refl R.sub R.reel) q⟩
theorem dt(h:PV X rl e fa):Ht X rl (some e) (FY fa):=by
 obtain⟨t,p,k⟩:=h
 refine⟨_,oG p,fun R Qd Q q h=>k R _ _ q fun v w F1 H1 g1 r1 n1 ⟨i,ew,q1⟩=>?_⟩
 subst ew
 exact⟨i,ay r1,h _ F1 H1 g1 q1⟩
def C9(fa:TV)(fl fh:Hb):TV:=fun ρ Q=>fa ρ fun w=>fl ρ fun l=>fh ρ fun h=>∃xs,w.dat=some (.list xs)/\Q (.ml (cutD xs l h))
def rW:W->W->(W->Prop)->Prop:=fun x y Q=>∃xs ys,x.dat=some (.list xs)/\y.dat=some (.list ys)/\xs.length+ys.length<=sizeLine/\Q (.ml (xs++ys))
theorem cC.lst{K:W.Frag}{F H:Hp}{v:V}{w:W}{xs:List Im}(s:bm F H)(r:cC K rl F H v w)(e:w.dat=some (.list xs)):∃a vs,v = .ref a/\H a=some (.lst vs)/\Reps K F vs xs:=by
 have own:eU K rl F H v xs->∃a vs,v = .ref a/\H a=some (.lst vs)/\Reps K F vs xs:=fun⟨a,vs,e1,_,_,e2,e3⟩=>⟨a,vs,e1,e2,e3⟩
 cases w with
 | d y =>
   cases e
   cases(show Rep K F v (.list xs)from r)with
   | lst h q=>exact⟨_,_,rfl,s _ _ h,q⟩
 | ml ys=>cases e;exact own r
 | pk ys=>cases e;exact own r
 | reel=>cases e
 | vv u=>cases e
 | md u=>cases e
 | mk u=>cases e
 | nt u=>cases e
 | lk=>cases e
 | sc _=>cases e
 | fd _=>cases e
 | fw _=>cases e
 | xc _ _=>cases e
 | dp _ _=>cases e
theorem uA:G7 X rl Dk rW:=fun{F H x y wx wy} Qd Q s ra r1 r2 q k=>by
 obtain⟨xs,ys,e1,e2,z,q⟩:=q
 obtain⟨a,vs,rfl,h1,q1⟩:=r1.lst s e1
 obtain⟨b,us,rfl,h2,q2⟩:=r2.lst s e2
 refine⟨a,b,vs,us,rfl,rfl,h1,h2,by rw[q1.length,q2.length];exact z,fun p hp=>?_⟩
 exact k _ (.ml _) _ _ (Grow.laid s ra hp) (cx s ra hp (q1.append q2)) (fun a ea=>by cases ea;exact hp) q
theorem sR(ha:PV X rl a fa)(hb:PV X rl b fb):PV X rl (.BinOp a .Add b pos) (EY rW fa fb):=fX zh uA ha hb
structure GlD (K:W.Frag) (mg:Str->Option Iw) (x:Str) (d:Im):Prop where
 ex:∃v u,mg x=some u/\RelV v u/\∀F,Rep K F v d
structure GlK (K:W.Frag) (x:Str) (d:Im):Prop where
 ex:∃v u,W.nsIn K JI x=some (some u)/\RelV v u/\∀F,Rep K F v d
theorem GlK.of{K:W.Frag}{x:Str}{mg:Str->Option Iw}(k:GlK K x d)(Y:K.In h)(G:h.Ns JI mg):GlD K mg x d:=by
 obtain⟨v,u,h1,h2,h3⟩:=k.ex
 exact⟨v,u,W.mg_of Y G h1,h2,h3⟩
end
end L2.VL
namespace L2
section
variable{X:Cx}{a b:Expr}{ta:TA}{p q pos pos2:Pos}
theorem gv{α β:Type}{R:α->β->Prop}:∀{xs:List α}{ys:List β},xs.length=ys.length->(∀(i:Nat) x y,xs[i]?=some x->ys[i]?=some y->R x y)->Kn R xs ys
 | [],[],_,_=>.nil
 | x::xs,y::ys,hl,h=>.cons (h 0 x y rfl rfl) (gv (by simpa using hl) fun i x y e1 e2=>h (i+1) x y (by simpa using e1) (by simpa using e2))
 | [],_::_,hl,_=>by simp at hl
 | _::_,[],hl,_=>by simp at hl
def hX(lo:Int)(n:Nat):List V:=(IN n).map fun(i:Nat)=>V.int (lo+i)
theorem gO{lo:Int}{acc:Array Iw}(h:ItemsOf (fun i v=>∃t,v = .int (lo+i*1) t) acc n):bQ (hX lo n) acc.toList:=by
 obtain⟨h1,h2⟩:=h
 refine gv ?_ ?_
 · simp[hX,h1]
 · intro i v u e1 e2
   unfold hX at e1
   rw[Jj]at e1
   obtain⟨t,e4⟩:=h2 i u (by simpa using e2)
   by_cases hi:i<n
   · rw[Iy (by simpa using hi)]at e1
     simp at e1
     subst e1
     exact⟨t,by rw[e4];simp⟩
   · rw[LH (by simpa using hi)]at e1
     cases e1
theorem mD{Q:VK}{lo hi:Int}{t u v:Tok}{tk:Nat}(hc:X.calm=true)(I:Inv X pins σ H s)(h1 : -(2^62)<=lo)(h2:lo<2^62)(h3 : -(2^62)<=hi)(h4:hi<2^62)(h5:(hi-lo).toNat<=2^24)
 (q:∀l,H l=none->Q (.ref l) (upd H l (.lst (hX lo (hi-lo).toNat)))):IT (Jb X.prog X.w) X.A (call (.type "list") [.ref s.heap.objs.size]) (EP X pins σ Q) X.xe {s with heap:=s.heap.push {cls:=.type "range", data:=.fields #[.int lo t,.int hi u,.int 1 v]},toks:=tk}:=by
 have I1:Inv X pins σ H {s with heap:=s.heap.push {cls:=.type "range", data:=.fields #[.int lo t,.int hi u,.int 1 v]},toks:=tk}:=I.kept fun b o e=>Iu _ e
 refine call_list_range (n:=(hi-lo).toNat) (I.ok.hd hc) (Pr ..) (small_one h1 h2 h3 h4) (by rw[rangeSize_one];split<;>omega) h5 fun h' tk acc c hk hn hi=>?_
 have hv:=gO hi
 refine⟨.ref _,_,I1.laid (t':=tk) hk (ID _) (show cz X.prog X.w _ h' _ (.lst _)from⟨?_,acc.toList,c,hv,by rw[Array.toArray_toList];exact hn⟩),rfl,q _ (I1.hok.fresh (ID _))⟩
 show(hX lo _).length<=sizeLine
 rw[hX,IE,Lk]
 exact Jr h5 (by decide)
def DU(ta:TA):TE:=fun σ H Q=>ta σ H fun vs H1=>∃j:Int,vs=[.int j]/\(-(2^62)<=j/\j<2^62)/\j.toNat<=2^24/\∀l,H1 l=none->Q (.ref l) (upd H1 l (.lst (hX 0 j.toNat)))
theorem l_(hc:X.calm=true)(hl:Gl X "list")(hml:X.mg "list" = none)(hg:Gl X "range")(hm:X.mg "range" = none)(ha:PA X [a] ta)(hs:IC [a] X.env=[(false,eval a X.env)]:=by rfl)
 (he:IC [.Call (.Name "range" p) [a] [] pos2] X.env=(false,eval (.Call (.Name "range" p) [a] [] pos2) X.env)::IC [] X.env:=by rfl)(hpl:(Kh pos (IC [] X.env)).any (·.1)=false:=by rfl) :
 PE X (.Call (.Name "list" q) [.Call (.Name "range" p) [a] [] pos2] [] pos) (DU ta):=by
 intro pins s σ H Q I h
 refine L9 (dn I hl hml (by rfl) ?_ (by decide) (by decide))
 refine JE ?_ he hpl
 rw[he]
 show IT _ _ (spliced ((false,eval (.Call (.Name "range" p) [a] [] pos2) X.env)::Kh pos (IC [] X.env))) _ _ s
 refine Calls.spliced_cons ?_
 refine Call_ (dn I hg hm O0 (JE (E7 (ha pos2 pins s σ H _ I h) fun us s1 ⟨vs,H1,I1,r1,q1⟩=>?_) hs rfl))
 obtain⟨j,e,⟨h3,h4⟩,h5,q1⟩:=q1
 subst e
 cases r1 with
 | cons r rr =>
   cases rr
   obtain⟨t,rfl⟩:=r
   exact call_range_1 (Calls.spliced_nil (mD hc I1 (by omega) (by omega) h3 h4 (by simpa using h5) (by simpa using q1)))
end
end L2
namespace L2.VL
section
variable{X:Cx}{rl:RlT}{a b c e:Expr}{es:List Expr}{fa fb fc:TV}{fs:G_}{pos pos2 p q:Pos}
theorem lX{K:W.Frag}(lo:Int)(n:Nat):Reps K F (hX lo n) (aN lo n):=by
 unfold hX aN
 generalize IN n=l
 induction l with
 | nil=>exact .nil
 | cons x l ih=>exact .cons (.int _) ih
def Da(fs:G_):TV:=fun ρ Q=>fs ρ fun ws=>∃j:Int,ws=[.d (.int j)]/\(-(2^62)<=j/\j<2^62)/\j.toNat<=2^24/\Q (.ml (aN 0 j.toNat))
theorem ng(hml:X.mg "list" = none)(hm:X.mg "range" = none)(ha:Hs X rl [a] fs)(hc:X.calm=true:=by rfl)(hl:Gl X "list" := by rfl)(hg:Gl X "range" := by rfl)(hs:IC [a] X.env=[(false,eval a X.env)]:=by rfl)
 (he:IC [.Call (.Name "range" p) [a] [] pos2] X.env=(false,eval (.Call (.Name "range" p) [a] [] pos2) X.env)::IC [] X.env:=by rfl)(hpl:(Kh pos (IC [] X.env)).any (·.1)=false:=by rfl) :
 PV X rl (.Call (.Name "list" q) [.Call (.Name "range" p) [a] [] pos2] [] pos) (Da fs):=by
 obtain⟨t,p1,k⟩:=ha
 refine⟨_,l_ hc hl hml hg hm p1 hs he hpl,fun R Qd Q q h=>k R _ _ q fun vs ws F1 H1 g1 r1 ⟨j,ew,z,y,q1⟩=>?_⟩
 subst ew
 obtain⟨v,rfl,rv⟩:=mP r1
 have e1:=ay rv
 subst e1
 exact⟨j,rfl,z,y,fun l hl=>h _ (.ml _) _ _ (g1.trans (Grow.laid g1.sub g1.reel hl)) (cx g1.sub g1.reel hl (lX _ _)) (fun a ea=>by cases ea;exact g1.freeB hl) q1⟩
theorem Reps.erase{K:W.Frag}{F:Hp}:∀{vs:List V}{ds:List Im}(n:Nat),Reps K F vs ds->Reps K F (vs.eraseIdx n) (ds.eraseIdx n)
 | _,_,_,.nil=>by simp;exact .nil
 | _,_,0,.cons h r=>r
 | _,_,n+1,.cons h r=>.cons h (Reps.erase n r)
end
structure Sm (dp bk:Nat) (d:Im):Prop where
 nice:xg d
 dep:d.depth<=dp
 blk:d.bulk<=bk
theorem gw:∀{xs:List Im},(∀d∈xs,xg d)->eA xs
 | [],_=>trivial
 | x::xs,h=>⟨h x Iz,gw fun d hd=>h d (Ir _ hd)⟩
theorem fG{k:Nat}:∀{xs:List Im},(∀d∈xs,d.depth<=k)->Jn xs<=k+1
 | [],_=>by simp[Jn]
 | x::xs,h=>by
   have h1:=h x Iz
   have h2:=fG (k:=k) (xs:=xs) fun d hd=>h d (Ir _ hd)
   simp only[Jn]
   omega
theorem gJ{k:Nat}:∀{xs:List Im},(∀d∈xs,d.bulk<=k)->KH xs<=(k+1)*xs.length
 | [],_=>by simp[KH]
 | x::xs,h=>by
   have h1:=h x Iz
   have h2:=gJ (k:=k) (xs:=xs) fun d hd=>h d (Ir _ hd)
   simp only[KH,Ju,Nat.mul_succ]
   omega
theorem Sm.seq{dp bk:Nat}(h:∀d∈xs,Sm dp bk d)(hl:xs.length<=n):Sm (dp+2) ((bk+1)*n) (.tuple xs)/\Sm (dp+2) ((bk+1)*n) (.list xs):=by
 have a:=gw fun d hd=>(h d hd).nice
 have b:=fG fun d hd=>(h d hd).dep
 have c:KH xs<=(bk+1)*n:=Jr (gJ fun d hd=>(h d hd).blk) (OG _ hl)
 refine⟨⟨a,?_,c⟩,⟨a,?_,c⟩⟩<;>simp only[JM]<;>omega
theorem Sm.int{i:Int}(h:i.natAbs<2^1000):Sm 0 0 (.int i):=⟨(Lf.int h).nice,by simp[JM],by simp[LJ]⟩
theorem Sm.bool{b:Bool}:Sm 0 0 (.bool b):=⟨trivial,by simp[JM],by simp[LJ]⟩
theorem Sm.none:Sm 0 0 .none:=⟨trivial,by simp[JM],by simp[LJ]⟩
theorem Sm.mono{dp bk dp' bk':Nat}(h:Sm dp bk d)(h1:dp<=dp')(h2:bk<=bk'):Sm dp' bk' d:=⟨h.nice,Jr h.dep h1,Jr h.blk h2⟩
theorem Sm.pair{a:Int}(ha:a.natAbs<2^1000)(hb:b.natAbs<2^1000):Sm 2 2 (.tuple [.int a,.int b]) :=
 (Sm.seq (dp:=0) (bk:=0) (n:=2) (xs:=[.int a,.int b]) (fun d hd=>by
  rcases Jf.mp hd with rfl|hd
  · exact Sm.int ha
  · rcases Jf.mp hd with rfl|hd
    · exact Sm.int hb
    · cases hd) (ID _)).1
theorem Ho.refl(h:Ho d):Kk d d=true:=SeqAt.eqv_refl d (xg.facts d h.1).2.1
end L2.VL
namespace L2
section
variable{X:Cx}{tg e:Expr}{ta te:TE}{p p2 pos:Pos}
end
end L2
namespace L2.VL
section
variable{X:Cx}{rl:RlT}{a b c e tg:Expr}{es:List Expr}{fa fb fc:TV}{fs:G_}{pos pos2 p p2 q:Pos}
theorem Reps.rev{K:W.Frag}{F:Hp}:∀{vs:List V}{ds:List Im},Reps K F vs ds->Reps K F vs.reverse ds.reverse
 | _,_,.nil=>.nil
 | _,_,.cons h r=>by rw[LR,LR];exact(Reps.rev r).snoc h
end
end L2.VL
namespace L2
section
variable{X:Cx}
end
end L2
namespace L2.VL
section
variable{X:Cx}{rl:RlT}{a b c e:Expr}{es:List Expr}{fa fb fc:TV}{fs:G_}{pos p p2:Pos}
end
end L2.VL
namespace L2.TM
theorem zn:fillsNumberSlot (.type "tuple") "mul" = pure false :=
 PySem.fillsNumberSlot_seq (id := "tuple.__mul__") (r:=some (.builtin "tuple.__rmul__")) F.slot_tuple_mul.lookup (by decide +kernel) F.slot_tuple_rmul.lookup (by decide +kernel)
theorem D0:seqRepeat? (.type "tuple")=pure (some (.builtin "tuple.__mul__")):=by
 unfold seqRepeat?
 have s1:=PySem.seqSlot_of (T := "tuple") (name := "__mul__") (id := "tuple.__mul__") F.slot_tuple_mul.lookup (by decide +kernel)
 have s2:=PySem.seqSlot_of (T := "tuple") (name := "__rmul__") (id := "tuple.__rmul__") F.slot_tuple_rmul.lookup (by decide +kernel)
 rw[s1,s2]
 rfl
theorem qO(its:Array Iw):∀n:Nat,(Ms (fun x y=>x++y) #[] (IH n its)).size=its.size*n:=by
 have key:∀(n:Nat)(acc:Array Iw),(Ms (fun x y=>x++y) acc (IH n its)).size=acc.size+its.size*n:=by
  intro n
  induction n with
  | zero=>intro acc;simp
  | succ n ih=>intro acc;rw[JJ,Mf,ih,Array.size_append,Nat.mul_succ];omega
 intro n
 have:=key n #[]
 simpa using this
def TupAt(h:Heap)(l:Addr)(its:Array Iw):Prop:=∃(dc:Option Addr)(sl:Array (Option Iw))(n:Nat),h.get? l=some ⟨.type "tuple", dc,.seq its n,sl⟩
section
variable{prog:IZ}{w:JN}{A:J4}{E:Iw->IB->Prop}{s:IB}{k:Int}{t:Tok}{l:Addr}{its:Array Iw}
theorem tupAt(h:N2 s.heap l its):TupAt s.heap l its:=by
 obtain⟨⟨c,dc,d,sl⟩,ho,hc,n,hd⟩:=h
 cases hc
 cases hd
 exact⟨dc,sl,n,ho⟩
theorem Ee(h:TupAt s.heap l its)(q:Q .notImplemented s):IT (Jb prog w) A (call (.builtin "int.__rmul__") [.int k t,.ref l]) Q E s:=by
 obtain⟨dc,sl,n,ho⟩:=h
 refine Mt F.slot_int_rmul (Op s k t) F.entry_int_rmul (F.args_int_rmul_2 _ _) (S:=fun _ R s=>s.heap.get? l=some ⟨.type "tuple", dc,.seq its n,sl⟩/\R (.ok (.ret Iw.notImplemented)) s) ?_ ⟨ho,q⟩
 exact .of_wp fun prog w A R s h=>by
  obtain⟨hp,g,d,tk,os⟩:=s
  obtain⟨ho,h⟩:=h
  wp_walk
  exact⟨_,rfl,h⟩
theorem rep_body(hk:2<=k)(hk':k<2^62)(he:its.isEmpty=false)(hz:its.size*k.toNat<=sizeLine)(h:TupAt s.heap l its)
 (q:Q (.ref s.heap.objs.size) {s with heap:=s.heap.push {cls:=.type "tuple", data:=.seq ((IH k.toNat its).foldl (· ++ ·) #[])}}):IT (Jb prog w) A (call (.builtin "tuple.__mul__") [.ref l,.int k t]) Q E s:=by
 obtain⟨dc,sl,n,ho⟩:=h
 refine Mt F.slot_tuple_mul ⟨_,ho,rfl⟩ F.entry_tuple_mul (F.args_tuple_mul_2 _ _)
  (S:=fun _ R s=>s.heap.get? l=some ⟨.type "tuple", dc,.seq its n,sl⟩/\R (.ok (.ret (.ref s.heap.objs.size))) {s with heap:=s.heap.push {cls:=.type "tuple", data:=.seq ((IH k.toNat its).foldl (· ++ ·) #[])}}) ?_ ⟨ho,q⟩
 have h1:¬(decide (k < -(2^63))||decide (k ≥ 2^63))=true:=by simp;omega
 have h2:¬(its.isEmpty||k==1)=true:=by rw[he];simp;omega
 have h3:¬(decide (k<=0)||its.isEmpty)=true:=by rw[he];simp;omega
 have sz:=IQ
 have hk0:k=(k.toNat:Int):=by omega
 have h4:¬((its.size:Int)*k>(2^63-1) / 8):=by
  rw[hk0]
  have:((its.size*k.toNat:Nat):Int)<=sizeLine:=by exact_mod_cast hz
  rw[Oe]at this
  omega
 have h5:¬Builtin.Tuple.tupleTooMany ((its.size:Int)*k)=true:=by
  intro z
  have z:=of_decide_eq_true z
  rw[hk0]at z
  have:((its.size*k.toNat:Nat):Int)<=sizeLine:=by exact_mod_cast hz
  rw[Oe]at this
  omega
 refine .of_wp fun prog w A R s h=>?_
 obtain⟨ho,h⟩:=h
 have tp:N2 s.heap l its:=⟨_,ho,rfl,n,rfl⟩
 unfold Builtin.«tuple.__mul__»
 show IT _ _ (do let z <- asIndex (.int k t);_) _ _ s
 refine Io (Lc (a:=k) (by first|rfl|kernel_rfl) ?_)
 rw[if_neg h1]
 refine Io (Md tp ?_)
 rw[if_neg h2,if_neg h3]
 first|rw[if_neg h4]|skip
 first|rw[if_neg h5]|skip
 show IT _ _ (do let z <- JG (Ms (fun x y=>x++y) #[] (IH k.toNat its));ret z) _ _ s
 refine Io (m:=JG _) (Jg (IA ⟨_,rfl,h⟩) ?_)
 show(Ms (fun x y=>x++y) #[] (IH k.toNat its)).size<=sizeLine
 rw[qO]
 exact hz
theorem rep_one(h:TupAt s.heap l its)(q:Q (.ref l) s):IT (Jb prog w) A (call (.builtin "tuple.__mul__") [.ref l,.int 1 t]) Q E s:=by
 obtain⟨dc,sl,n,ho⟩:=h
 refine Mt F.slot_tuple_mul ⟨_,ho,rfl⟩ F.entry_tuple_mul (F.args_tuple_mul_2 _ _) (S:=fun _ R s=>s.heap.get? l=some ⟨.type "tuple", dc,.seq its n,sl⟩/\R (.ok (.ret (.ref l))) s) ?_ ⟨ho,q⟩
 refine .of_wp fun prog w A R s h=>?_
 obtain⟨ho,h⟩:=h
 have tp:N2 s.heap l its:=⟨_,ho,rfl,n,rfl⟩
 unfold Builtin.«tuple.__mul__»
 show IT _ _ (do let z <- asIndex (.int 1 t);_) _ _ s
 refine Io (Lc (a:=(1:Int)) (by first|rfl|kernel_rfl) ?_)
 rw[if_neg (by decide)]
 refine Io (Md tp ?_)
 rw[if_pos (by simp)]
 show IT _ _ (do let z <- LX (.ref l);_) _ _ s
 refine Io ?_
 unfold LX
 refine Io (Nf (T := "tuple") ⟨_,ho,rfl⟩ (IA ?_))
 rw[if_pos (by decide)]
 exact Io (LP (Io (IA (IA ⟨_,rfl,h⟩))))
theorem mul_tup(tp:N2 s.heap l its)(q:IT (Jb prog w) A (call (.builtin "tuple.__mul__") [.ref l,.int k t]) Q E s):IT (Jb prog w) A (Lg .Mult (.ref l) (.int k t)) Q E s :=
 Nq (T := "tuple") (U := "int") (by decide) tp.typeIs (fun s'=>Op s' k t) zn F.fills_int_mul F.slot_int_rmul D0 F.slot_int_index.lookup (Ee (tupAt tp) ⟨rfl,tp.typeIs,q⟩)
end
end L2.TM
namespace L2
section
variable{X:Cx}
def yG(K:W.Frag):R2:=fun x y H Q=>∃a k xs,x = .ref a/\y = .int k/\Hi K H a xs/\xs≠[]/\1<=k/\k<2^62/\xs.length*k.toNat<=sizeLine/\(k=1->Q (.ref a) H)/\(2<=k->∀p,H p=none->Q (.ref p) (upd H p (.tup (IH k.toNat xs).flatten)))
theorem vO:HF X (Lg .Mult) (yG X.K):=by
 intro pins s σ H x y v u Q I rx ry h
 obtain⟨a,k,xs,rfl,rfl,ha,hne,h1,h2,hz,q1,q2⟩:=h
 cases rx
 obtain⟨t,rfl⟩:=ry
 obtain⟨its,r,p,_⟩:=I.tuple ha
 have hl:=r.length
 refine TM.mul_tup p ?_
 by_cases hk:k=1
 · subst hk
   exact TM.rep_one (TM.tupAt p) ⟨.ref a,H,I,rfl,q1 rfl⟩
 · have he:its.toArray.isEmpty=false:=by
     cases its with
     | nil=>simp at hl;exact absurd hl hne
     | cons _ _=>rfl
   refine TM.rep_body (by omega) h2 he (by rw[IK,<- hl];exact hz) (TM.tupAt p) ?_
   have e:Ms (fun x y=>x++y) #[] (IH k.toNat its.toArray)=(IH k.toNat its).flatten.toArray:=by
    have:=foldl_rep its k.toNat []
    rw[Mg]at this
    exact this
   rw[e]
   refine⟨.ref s.heap.objs.size,_,I.laid (t':=s.toks) (o:=.tup (IH k.toNat xs).flatten) (fun b ob q=>Iu _ q) (ID _) ?_,rfl,q2 (by omega) _ (I.hok.fresh (ID _))⟩
   exact⟨by rw[o8,N8];exact hz,_,r.rep k.toNat,qt.new _ _⟩
end
end L2
namespace L2.VL
section
variable{X:Cx}{rl:RlT}{a b c e:Expr}{es:List Expr}{fa fb fc:TV}{fs:G_}{pos p p2:Pos}
theorem Reps.repl{K:W.Frag}{F:Hp}{vs:List V}{ds:List Im}(r:Reps K F vs ds):∀n:Nat,Reps K F (IH n vs).flatten (IH n ds).flatten
 | 0=>.nil
 | n+1=>by rw[JJ,JJ,Kw,Kw];exact r.append (Reps.repl r n)
def rR:W->W->(W->Prop)->Prop:=fun x y Q=>∃xs k,x = .d (.tuple xs)/\y = .d (.int k)/\xs≠[]/\1<=k/\k<2^62/\xs.length*k.toNat<=sizeLine/\Q (.d (.tuple (IH k.toNat xs).flatten))
theorem uw:G7 X rl (yG X.K) rR:=fun{F H x y wx wy} Qd Q s ra r1 r2 q k=>by
 obtain⟨xs,n,rfl,rfl,hne,h1,h2,hz,q⟩:=q
 have ey:=ay r2
 subst ey
 cases(show Rep X.K F x (.tuple xs)from r1)with
 | @tup a vs _ sq rs =>
   refine⟨a,n,vs,rfl,rfl,dg s sq,fun z=>hne ?_,h1,h2,by rw[rs.length];exact hz,fun e=>?_,fun e p hp=>?_⟩
   · subst z;cases rs;rfl
   · subst e
     have e1:(IH (Int.toNat 1) xs).flatten=xs:=by simp
     rw[e1]at q
     exact k _ (.d (.tuple xs)) _ _ (Grow.refl s ra) (.tup sq rs) trivial q
   · have g:=Grow.data (a:=p) (o:=.tup (IH n.toNat vs).flatten) s ra hp
     exact k _ (.d _) _ _ g (.tup (.inl (.inl ak)) ((rs.repl n.toNat).mono g.fs)) trivial q
theorem xS(ha:PV X rl a fa)(hb:PV X rl b fb):PV X rl (.BinOp a .Mult b pos) (EY rR fa fb):=fX vO uw ha hb
def BW:W->W->(W->Prop)->Prop:=fun x y Q=>∃xs ys,x = .d (.tuple xs)/\y = .d (.tuple ys)/\xs≠[]/\xs.length+ys.length<=sizeLine/\Q (.d (.tuple (xs++ys)))
theorem uz:G7 X rl (vg X.K) BW:=fun{F H x y wx wy} Qd Q s ra r1 r2 q k=>by
 obtain⟨xs,ys,rfl,rfl,hne,hz,q⟩:=q
 cases(show Rep X.K F x (.tuple xs)from r1)with
 | @tup a vs _ sq rs =>
   cases(show Rep X.K F y (.tuple ys)from r2)with
   | @tup b us _ sq2 rs2 =>
     refine⟨a,b,vs,us,rfl,rfl,dg s sq,dg s sq2,fun z=>hne ?_,by rw[rs.length,rs2.length];exact hz,fun e=>?_,fun e p hp=>?_⟩
     · subst z;cases rs;rfl
     · subst e
       cases rs2
       rw[JS]at q
       exact k _ (.d (.tuple xs)) _ _ (Grow.refl s ra) (.tup sq rs) trivial q
     · have g:=Grow.data (a:=p) (o:=.tup (vs++us)) s ra hp
       exact k _ (.d _) _ _ g (.tup (.inl (.inl ak)) ((rs.append rs2).mono g.fs)) trivial q
end
end L2.VL
namespace L2
section
variable{X:Cx}
def yH(K:W.Frag):R2:=fun x y H Q=>∃a b ys,x = .ref a/\y = .ref b/\Hi K H a []/\Hi K H b ys/\Q (.ref b) H
theorem vT:HF X (Lg .Add) (yH X.K):=by
 intro pins s σ H x y v u Q I rx ry h
 obtain⟨a,b,ys,rfl,rfl,ha,hb,q⟩:=h
 cases rx
 cases ry
 obtain⟨its,r1,p1,_⟩:=I.tuple ha
 obtain⟨its2,r2,p2,_⟩:=I.tuple hb
 cases r1
 obtain⟨⟨c1,d1,e1,sl1⟩,ho,hc,n,hd⟩:=p1
 obtain⟨⟨c2,d2,e2,sl2⟩,ho2,hc2,n2,hd2⟩:=p2
 cases hc;cases hd;cases hc2;cases hd2
 exact O9 ⟨_,ho,rfl⟩ ⟨_,ho2,rfl⟩ Lw Mc KB Kz (Kv _ _)
  (tuple_addW0 a b _ its2.toArray n n2 d1 d2 sl1 sl2 rfl) ⟨ho,ho2,⟨.ref b,H,I,rfl,q⟩⟩
def vh(K:W.Frag):R2:=fun x y H Q=>vg K x y H Q\/yH K x y H Q
theorem vS:HF X (Lg .Add) (vh X.K):=fun pins s σ H x y v u Q I rx ry h=>h.elim (vR pins s σ H x y v u Q I rx ry) (vT pins s σ H x y v u Q I rx ry)
section
variable{prog:IZ}{w:JN}{A:J4}{E:Iw->IB->Prop}{s:IB}
end
end
end L2
namespace L2.VL
section
variable{X:Cx}{rl:RlT}{a b c e:Expr}{es:List Expr}{fa fb fc:TV}{fs:G_}{pos p p2:Pos}
def pE:W->W->(W->Prop)->Prop:=fun x y Q=>∃xs ys,x = .d (.tuple xs)/\y = .d (.tuple ys)/\xs.length+ys.length<=sizeLine/\Q (.d (.tuple (xs++ys)))
theorem mX:G7 X rl (vh X.K) pE:=fun{F H x y wx wy} Qd Q s ra r1 r2 q k=>by
 obtain⟨xs,ys,rfl,rfl,hz,q⟩:=q
 by_cases hx:xs=[]
 · subst hx
   cases(show Rep X.K F x (.tuple [])from r1)with
   | @tup a vs _ sq rs =>
     cases rs
     cases(show Rep X.K F y (.tuple ys)from r2)with
     | @tup b us _ sq2 rs2=>exact .inr ⟨a,b,us,rfl,rfl,dg s sq,dg s sq2,k _ (.d (.tuple ys)) _ _ (Grow.refl s ra) (.tup sq2 rs2) trivial q⟩
 · exact .inl (uz Qd Q s ra r1 r2 ⟨xs,ys,rfl,rfl,hx,hz,q⟩ k)
theorem kA(ha:PV X rl a fa)(hb:PV X rl b fb):PV X rl (.BinOp a .Add b pos) (EY pE fa fb):=fX vS mX ha hb
theorem kO{K:W.Frag}{F:Hp}:∀{vs:List V}{ns:List Int},Reps K F vs (ns.map .int)->vs=ns.map V.int
 | _,[],h=>h.nil_iff
 | _,n::ns,.cons h r=>by rw[ay h,kO r];rfl
end
end L2.VL
namespace L2.TO
section
variable{prog:IZ}{w:JN}{A:J4}{E:Iw->IB->Prop}{s:IB}
theorem lY(n:Nat):Kd ((n:Int)-1) (-1) (-1)=n:=by
 unfold Kd
 rw[if_neg (by decide)]
 by_cases h:n=0
 · subst h;decide
 · rw[if_pos (by omega),show(- -1:Int)=1 by decide,O_];omega
theorem j_{sl:Addr}{vk:Iw}{Q:Int×Int×Nat->IB->Prop}(hs:s.heap.IsSliceOf sl .none .none vk)(pk:N5 vk (some (-1)))
 (h:Q ((n:Int)-1,-1,n) s):IT (Jb prog w) A (K1 (.ref sl) (pure (n:Int))) Q E s:=by
 obtain⟨o1,hos,_,hds⟩:=hs;unfold K1 Np
 refine Io (Io (Jv hos hds (x:=.none) rfl (Io (Jv hos hds (x:=.none) rfl (Io (Jv hos hds (x:=vk) rfl (IA ?_)))))))
 refine Io (HT.slicePart_ pk ?_)
 show IT _ _ (if((-1:Int)==0)=true then _ else _) _ _ s
 rw[if_neg (by decide)]
 refine Io (HT.slicePart_ .none (Io (HT.slicePart_ .none (Io (IA ?_)))))
 show IT _ _ (pure ((n:Int)-1,(-1:Int),Kd ((n:Int)-1) (-1) (-1))) _ _ s
 rw[lY]
 exact IA h
theorem qY(xs:Array Iw):((IN xs.size).filterMap fun(k:Nat)=>xs[((xs.size:Int)-1+(k:Int) * -1).toNat]?).toArray=xs.toList.reverse.toArray:=by
 have e:(fun(k:Nat)=>xs[((xs.size:Int)-1+(k:Int) * -1).toNat]?)=fun k=>xs[xs.size-1-k]?:=by
  funext k
  have:((xs.size:Int)-1+(k:Int) * -1).toNat=xs.size-1-k:=by omega
  rw[this]
 rw[e]
 have e2:(IN xs.size).filterMap (fun k=>xs[xs.size-1-k]?)=((IN xs.size).map fun k=>xs.size-1-k).filterMap (xs[·]?):=by rw[List.filterMap_map];rfl
 rw[e2,W.krv_range,List.filterMap_reverse,W.krv_all]
theorem get_rev{t sl:Addr}{items:Array Iw}{vk:Iw}(ht:N2 s.heap t items)(hs:s.heap.IsSliceOf sl .none .none vk)(pk:N5 vk (some (-1)))
 (h:Q (.ref s.heap.objs.size) {s with heap:=s.heap.push {cls:=.type "tuple", data:=.seq items.toList.reverse.toArray}})
 (hsz:items.size<=sizeLine):IT (Jb prog w) A (MS (.ref t) (.ref sl)) Q E s:=by
 have hz:sizeOk (.seq items.toList.reverse.toArray):=by
  show items.toList.reverse.toArray.size<=sizeLine
  rw[IK,Kt,L4]
  exact hsz
 have ty:s.TypeIs (.ref sl) "slice" := let ⟨o,h1,h2,_⟩:=hs;⟨o,h1,h2⟩
 have key:IT (Jb prog w) A (call (.builtin "tuple.__getitem__") [.ref t,.ref sl]) Q E s:=by
  refine J7 Jc ht.typeIs entry_tuple_getitem ?_ (Nd _ _)
  show IT _ _ (K3 (.ref t) >>= _) _ _ s;refine Io (Md ht (Io (Nf ty ?_)))
  rw[if_pos (by decide)]
  refine Io (j_ hs pk ?_)
  show IT _ _ (if((items.size:Int)-1==0&&(-1:Int)==1&&items.size==items.size)=true then _ else _) _ _ s
  rw[if_neg (by simp),qY]
  first
   | exact Io (m:=JG _) (Jg (IA ⟨_,rfl,h⟩) hz)
   | exact Io (m:=JG _) (Jg (Io (IA (IA ⟨_,rfl,h⟩))) hz)
   | exact Io (Io (m:=JG _) (Jg (IA (IA ⟨_,rfl,h⟩)) hz))
   | exact Io (Io (m:=JG _) (Jg (IA ⟨_,rfl,h⟩) hz))
 unfold MS;try with_reducible refine K4 ?_
 first|exact Io (IA (Io (LQ ht.typeIs (by decide) (Io (Jk (name:=Str.ofString "__getitem__") ht.typeIs Jc (E7 key fun v s' q=>IA q))))))|exact Io (LQ ht.typeIs (by decide) (Io (Jk (name:=Str.ofString "__getitem__") ht.typeIs Jc (E7 key fun v s' q=>IA q))))
end
end L2.TO
namespace L2
section
variable{X:Cx}{a b e:Expr}{ta:TA}{te:TE}{p p2 q pos pos2:Pos}
def A8(K:W.Frag)(te:TE):TE:=fun σ H Q=>te σ H fun x H1=>∃a xs,x = .ref a/\Hi K H1 a xs/\∀l,H1 l=none->Q (.ref l) (upd H1 l (.tup xs.reverse))
theorem vL{p3 p4:Pos}(he:PE X e te):PE X (.Subscript e (.Slice none none (some (.UnaryOp .USub (.Constant (.int 1) j p3) p4)) p2) pos) (A8 X.K te):=by
 intro pins s σ H Q I h
 refine O2 (E7 (he pins s σ H _ I h) fun v s1 ⟨x,H1,I1,r1,q1⟩=>?_)
 obtain⟨a,xs,rfl,hq,q⟩:=q1
 cases r1
 refine wpAny_Slice ?_
 rw[OT]
 refine IA (IA ?_)
 refine E7 (oG (X:=X) (yT sW di) pins s1 σ H1 (fun o H=>o=some (-1)/\H=H1) I1 ⟨1,rfl,-1,rfl,rfl,rfl⟩) fun vk s3 ⟨o,H3,I3,pk,eo,eH⟩=>?_
 subst eo eH
 have I4:Inv X pins σ H3 {s3 with heap:=s3.heap.push {cls:=.type "slice", data:=.fields #[.none,.none,vk]}}:=I3.kept (t':=s3.toks) fun b ob q=>Iu _ q
 obtain⟨its,rv,p,hz⟩:=I4.tuple hq
 have hl:=rv.length
 refine tail_any (ops:=[.ref a,.ref s3.heap.objs.size]) p.typeIs Jc.lookup ?_ (by with_unfolding_all rfl)
 refine TO.get_rev p (Heap.IsSliceOf.new ..) pk ?_ (by rw[IK]<;>omega)
 refine⟨.ref _,_,I4.laid (t':=s3.toks) (o:=.tup xs.reverse) (fun b ob q=>Iu _ q) (ID _) ?_,rfl,q _ (I4.hok.fresh (ID _))⟩
 exact⟨by rw[Kt];exact hz,its.reverse,rv.reverse,qt.new _ _⟩
end
end L2
namespace L2.VL
section
variable{X:Cx}{rl:RlT}{a b c e:Expr}{es:List Expr}{fa fb fc:TV}{fs:G_}{pos pos2 p q p2:Pos}
def uK(fa:TV):TV:=fun ρ Q=>fa ρ fun w=>∃xs,w = .d (.tuple xs)/\Q (.d (.tuple xs.reverse))
theorem xR{p3 p4:Pos}(ha:PV X rl e fa):PV X rl (.Subscript e (.Slice none none (some (.UnaryOp .USub (.Constant (.int 1) j p3) p4)) p2) pos) (uK fa):=by
 obtain⟨t,p1,k⟩:=ha
 refine⟨_,vL p1,fun R Qd Q q h=>k R _ _ q fun v w F1 H1 g1 r1 n1 ⟨xs,ew,q1⟩=>?_⟩
 subst ew
 cases(show Rep X.K F1 v (.tuple xs)from r1)with
 | @tup a vs _ sq rs =>
   refine⟨a,vs,rfl,dg g1.sub sq,fun l hl=>?_⟩
   have g:=Grow.data (a:=l) (o:=.tup vs.reverse) g1.sub g1.reel hl
   exact h _ (.d _) _ _ (g1.trans g) (.tup (.inl (.inl ak)) (rs.rev.mono g.fs)) trivial q1
end
end L2.VL
namespace L2.TW
section
variable{prog:IZ}{w:JN}{A:J4}{E:Iw->IB->Prop}{s:IB}
theorem get_whole{t sl:Addr}{items:Array Iw}{vl vu:Iw}{lo hi:Option Int}(ht:N2 s.heap t items)(hs:s.heap.IsSliceOf sl vl vu .none)(pl:N5 vl lo)(pu:N5 vu hi)
 (hw:HT.sIx items.size 0 lo=0/\HT.sIx items.size items.size hi=items.size)(h:Q (.ref t) s):IT (Jb prog w) A (MS (.ref t) (.ref sl)) Q E s:=by
 have ty:s.TypeIs (.ref sl) "slice" := let ⟨o,h1,h2,_⟩:=hs;⟨o,h1,h2⟩
 have key:IT (Jb prog w) A (call (.builtin "tuple.__getitem__") [.ref t,.ref sl]) Q E s:=by
  refine J7 Jc ht.typeIs entry_tuple_getitem ?_ (Nd _ _)
  show IT _ _ (K3 (.ref t) >>= _) _ _ s;refine Io (Md ht (Io (Nf ty ?_)))
  rw[if_pos (by decide)]
  refine Io (HT.sliceApplied_gen hs pl pu ?_)
  rw[hw.1,hw.2,Nl]
  show IT _ _ (if(((0:Nat):Int)==0&&(1:Int)==1&&items.size==items.size)=true then _ else _) _ _ s
  rw[if_pos (by simp)]
  unfold LX
  refine Io (Io (Nf ht.typeIs (IA ?_)))
  rw[if_pos (by decide)]
  exact Io (LP (Io (IA (IA ⟨_,rfl,h⟩))))
 unfold MS;try with_reducible refine K4 ?_
 first|exact Io (IA (Io (LQ ht.typeIs (by decide) (Io (Jk (name:=Str.ofString "__getitem__") ht.typeIs Jc (E7 key fun v s' q=>IA q))))))|exact Io (LQ ht.typeIs (by decide) (Io (Jk (name:=Str.ofString "__getitem__") ht.typeIs Jc (E7 key fun v s' q=>IA q))))
end
end L2.TW
namespace L2
section
variable{X:Cx}
def D2(K:W.Frag):V->Option Int->Option Int->Hp->VK->Prop:=fun x lo hi H Q=>Df K x lo hi H Q\/∃a xs,x = .ref a/\Hi K H a xs/\(HT.sIx xs.length 0 lo=0/\HT.sIx xs.length xs.length hi=xs.length)/\Q (.ref a) H
theorem u3:Hn X (D2 X.K):=by
 intro pins s σ H x v vl vu lo hi sl Q I rx hs pl pu h
 rcases h with h|⟨a,xs,rfl,hx,hw,q⟩
 · exact yt pins s σ H x v vl vu lo hi sl Q I rx hs pl pu h
 · cases rx
   obtain⟨its,r,ht,hz⟩:=I.tuple hx
   have hlen:its.toArray.size=xs.length:=by rw[IK];exact r.length.symm
   exact⟨"tuple", _,Jc.lookup,ht.typeIs,TW.get_whole ht hs pl pu (by rw[hlen];exact hw) ⟨.ref a,H,I,rfl,q⟩⟩
end
end L2
namespace L2.VL
section
variable{X:Cx}{rl:RlT}{a b c e:Expr}{es:List Expr}{fa fb fc:TV}{fs:G_}{pos p p2:Pos}
theorem pQ{l u:Option Int}(h:HT.sIx xs.length 0 l=0/\HT.sIx xs.length xs.length u=xs.length):cutD xs l u=xs:=by
 unfold cutD
 rw[h.1,h.2]
 simp
def AT(fa:TV)(fl fh:Hb):TV:=fun ρ Q=>fa ρ fun w=>fl ρ fun l=>fh ρ fun h=>∃xs,w = .d (.tuple xs)/\Q (.d (.tuple (cutD xs l h)))
theorem lN{lo hi:Option Expr}{fl fh:Hb}(ha:PV X rl a fa)(hl:Ht X rl lo fl)(hh:Ht X rl hi fh):PV X rl (.Subscript a (.Slice lo hi none p2) pos) (AT fa fl fh):=by
 obtain⟨t,p,k⟩:=ha
 obtain⟨tl,pl,kl⟩:=hl
 obtain⟨th,ph,kh⟩:=hh
 refine⟨_,kU u3 p pl ph,fun R Qd Q q h=>k R _ _ q fun v w F1 H1 g1 r1 n1 q1=>?_⟩
 refine kl (R.grow g1) _ _ q1 fun l F2 H2 g2 q2=>kh ((R.grow g1).grow g2) _ _ q2 fun u F3 H3 g3 q3=>?_
 obtain⟨xs,rfl,q3⟩:=q3
 have r3:=(r1.grow g2).grow g3
 have g:=(g1.trans g2).trans g3
 cases(show Rep X.K F3 v (.tuple xs)from r3)with
 | @tup a vs _ sq rs =>
   by_cases hw:HT.sIx xs.length 0 l=0/\HT.sIx xs.length xs.length u=xs.length
   · rw[pQ hw]at q3
     exact .inr ⟨a,vs,rfl,dg g3.sub sq,by rw[rs.length];exact hw,h _ (.d _) _ _ g (.tup sq rs) trivial q3⟩
   · refine .inl ⟨a,vs,rfl,dg g3.sub sq,by rw[rs.length];exact hw,fun p hp=>?_⟩
     have g':=Grow.data (a:=p) (o:=.tup (sh vs l u)) g3.sub g3.reel hp
     exact h _ (.d _) _ _ (g.trans g') (.tup (.inl (.inl ak)) ((rs.cut l u).mono g'.fs)) trivial q3
end
end L2.VL
namespace L2
abbrev Db(D:List (Str×Int)):List (Im×Im):=(D.map fun q=>(q.1,IJ q.2)).map fun q=>(Im.str q.1,q.2)
structure GlT (P:IZ) (w:JN) (K:W.Frag) (mg:Str->Option Iw) (x:Str) (D:List (Str×Int)):Prop where
 ex:∃p,mg x=some (.ref p)/\∀h,K.In h->StrTab P w h p (Db D)
section
variable{X:Cx}{e:Expr}{ty:TE}{px apos cpos:Pos}
end
end L2
namespace L2.VL
section
variable{X:Cx}{rl:RlT}{a b c e:Expr}{es:List Expr}{fa fb fc:TV}{fs:G_}{pos p p2 px apos cpos:Pos}
end
end L2.VL
set_option exponentiation.threshold 10000
namespace L2.VL
def BR:List W->(Im->Prop)->Prop:=fun ws Q=>∃i j:Int,ws=[.d (.int i),.d (.int j)]/\0<=i/\0<=j/\Q (.int (Kg i j))
theorem BR.mono:∀ws (Q Q':Im->Prop),(∀d,Q d->Q' d)->BR ws Q->BR ws Q':=fun _ _ _ h ⟨i,j,e,a,b,q⟩=>⟨i,j,e,a,b,h _ q⟩
theorem BR.len:∀ws (Q:Im->Prop),BR ws Q->ws.length=2:=fun _ _ ⟨_,_,e,_⟩=>by subst e;rfl
def xt(a b:Int):Im:=.tuple [.int (a.fdiv (Kg a b)),.int (b.fdiv (Kg a b))]
def Bx:List W->(Im->Prop)->Prop:=fun ws Q=>∃a b:Int,ws=[.d (.int a),.d (.int b)]/\0<b/\b.natAbs<2^8000/\Q (xt a b)
theorem Bx.mono:∀ws (Q Q':Im->Prop),(∀d,Q d->Q' d)->Bx ws Q->Bx ws Q':=fun _ _ _ h ⟨i,j,e,a,b,q⟩=>⟨i,j,e,a,b,h _ q⟩
theorem Bx.len:∀ws (Q:Im->Prop),Bx ws Q->ws.length=2:=fun _ _ ⟨_,_,e,_⟩=>by subst e;rfl
theorem pB{a:Int}(hb:0<b)(z:b.natAbs<2^8000)(i:Int):ga i (Kg a b:Int):=by
 have h1:=wH (a:=a) (b:=b) (by omega)
 have h2:=zK (a:=a) (b:=b) (by omega)
 exact⟨by omega,K5 (by omega) (IG z (Jm (by decide) (by decide)))⟩
def iP(n:Nat)(pre:List Int->Prop)(f:List Int->Im):List W->(Im->Prop)->Prop:=fun ws Q=>∃xs:List Int,ws=xs.map (fun i=>.d (.int i))/\xs.length=n/\pre xs/\Q (f xs)
theorem iP.mono{pre:List Int->Prop}{f:List Int->Im}:∀ws (Q Q':Im->Prop),(∀d,Q d->Q' d)->iP n pre f ws Q->iP n pre f ws Q':=fun _ _ _ h ⟨i,e,a,b,q⟩=>⟨i,e,a,b,h _ q⟩
def GB(pre:Int->Int->Prop)(f:Int->Int->Im):List W->(Im->Prop)->Prop:=fun ws Q=>∃i j:Int,ws=[.d (.int i),.d (.int j)]/\pre i j/\Q (f i j)
theorem GB.mono{pre:Int->Int->Prop}{f:Int->Int->Im}:∀ws (Q Q':Im->Prop),(∀d,Q d->Q' d)->GB pre f ws Q->GB pre f ws Q':=fun _ _ _ h ⟨i,j,e,a,q⟩=>⟨i,j,e,a,h _ q⟩
theorem GB.len{pre:Int->Int->Prop}{f:Int->Int->Im}:∀ws (Q:Im->Prop),GB pre f ws Q->ws.length=2:=fun _ _ ⟨_,_,e,_⟩=>by subst e;rfl
structure IsEx (b:Int) (p:List Int):Prop where
 len:p.length=b.toNat
 zero:p.head?=some 0
 nd:p.Nodup
 rng:∀x∈p,0<=x/\x<b
def GO(p:List Int):Im:=.tuple (p.map .int)
def GM:List W->(Im->Prop)->Prop:=fun ws Q=>∃b:Int,ws=[.reel,.d (.int b)]/\2<=b/\b<=16/\∀p,IsEx b p->Q (GO p)
theorem GM.mono:∀ws (Q Q':Im->Prop),(∀d,Q d->Q' d)->GM ws Q->GM ws Q':=fun _ _ _ h ⟨b,e,x,y,q⟩=>⟨b,e,x,y,fun p hp=>h _ (q p hp)⟩
theorem GM.len:∀ws (Q:Im->Prop),GM ws Q->ws.length=2:=fun _ _ ⟨_,e,_⟩=>by subst e;rfl
def xv(lo:Int)(n:Nat):List Int:=(IN n).map fun(i:Nat)=>lo+i
theorem rM{lo x:Int}:x∈xv lo n↔lo<=x/\x<lo+n:=by
 unfold xv
 simp only[Jo,JB]
 constructor
 · rintro⟨k,hk,rfl⟩;omega
 · rintro⟨h1,h2⟩
   exact⟨(x-lo).toNat,by omega,by omega⟩
theorem fD(lo:Int)(n:Nat):(xv lo n).length=n:=by simp[xv]
def Aw(rows:List (Int×List Int)):Im:=.tuple (rows.map fun r=>.tuple [.int r.1,GO r.2])
structure IsRow (rows:List (Int×List Int)):Prop where
 lo:1<=rows.length
 hi:rows.length<=4
 ok:∀r∈rows,2<=r.1/\r.1<=16/\IsEx r.1 r.2
 co:rows.Pairwise fun x y=>Kg x.1 y.1=1
def Bf:List W->(Im->Prop)->Prop:=fun ws Q=>∃m:Int,ws=[.reel,.d (.int m)]/\1<=m/\m<=4/\∀rows,IsRow rows->rows.length<=m.toNat->Q (Aw rows)
theorem Bf.mono:∀ws (Q Q':Im->Prop),(∀d,Q d->Q' d)->Bf ws Q->Bf ws Q':=fun _ _ _ h ⟨b,e,x,y,q⟩=>⟨b,e,x,y,fun p hp hl=>h _ (q p hp hl)⟩
theorem Bf.len:∀ws (Q:Im->Prop),Bf ws Q->ws.length=2:=fun _ _ ⟨_,e,_⟩=>by subst e;rfl
def Ap(bs:List Int):Prop:=bs.length=4/\(∀b∈bs,2<=b/\b<=16)/\bs.Pairwise fun x y=>Kg x y=1
instance (bs:List Int):Decidable (Ap bs):=by unfold Ap;infer_instance
theorem ff{d:Nat}{k:Int}(h:0<=k):HT.sIx n d (some k)=min k.toNat n:=by
 obtain⟨m,rfl⟩:=JC h
 exact HT.sIx_nat n d m
theorem lB{k:Int}(h:0<=k):cutD xs (some k) none=xs.drop k.toNat:=by
 unfold cutD
 rw[ff h,HT.sIx_none]
 by_cases hk:k.toNat<=xs.length
 · rw[LL hk]
   exact JH (by simp)
 · rw[Lx (by omega),KN,KE (by omega)]
   simp
theorem t9{k:Int}(h:0<=k):cutD xs none (some k)=xs.take k.toNat:=by
 unfold cutD
 rw[ff h,HT.sIx_none,Nr,Nl]
 by_cases hk:k.toNat<=xs.length
 · rw[LL hk]
 · rw[Lx (by omega),JH (ID _),JH (by omega)]
theorem u9:∀{cs:List Int}{ds:List Im},Kn (fun x d=>∃b p,x = .int b/\d = .tuple [.int b,GO p]/\IsEx b p) (cs.map IJ) ds->∃rows:List (Int×List Int),ds=rows.map (fun r=>.tuple [.int r.1,GO r.2])/\rows.map (·.1)=cs/\∀r∈rows,IsEx r.1 r.2
 | [],_,h=>by cases h;exact⟨[],rfl,rfl,fun _ z=>nomatch z⟩
 | c::cs,_,h=>by
   cases h with
   | cons h r =>
     obtain⟨b,p,e1,e2,ex⟩:=h
     cases e1
     obtain⟨rows,h1,h2,h3⟩:=u9 r
     refine⟨(c,p)::rows,by simp[e2,h1],by simp[h2],fun r hr=>?_⟩
     rcases Jf.mp hr with rfl|hr
     · exact ex
     · exact h3 r hr
def v8:List W->(Im->Prop)->Prop:=fun ws Q=>∃b n:Int,ws=[.d (.int b),.d (.int n)]/\2<=b/\b<=16/\n<2^40/\∀e:Nat,n<=b^e->(∀k<e,b^k<n)->Q (.int e)
theorem v8.mono:∀ws (Q Q':Im->Prop),(∀d,Q d->Q' d)->v8 ws Q->v8 ws Q':=fun _ _ _ h ⟨b,n,e,x,y,z,q⟩=>⟨b,n,e,x,y,z,fun p a b=>h _ (q p a b)⟩
theorem v8.len:∀ws (Q:Im->Prop),v8 ws Q->ws.length=2:=fun _ _ ⟨_,_,e,_⟩=>by subst e;rfl
def pr(a b:Int):Im:=.tuple [.int a,.int b]
def qi:List W->(Im->Prop)->Prop:=fun ws Q=>∃a b c d:Int,ws=[.d (pr a b),.d (pr c d)]/\bV a d/\bV c b/\Q (.bool (decide (a*d<c*b)))
theorem qi.mono:∀ws (Q Q':Im->Prop),(∀d,Q d->Q' d)->qi ws Q->qi ws Q':=fun _ _ _ h ⟨b,n,c,d,e,x,y,q⟩=>⟨b,n,c,d,e,x,y,h _ q⟩
theorem qi.len:∀ws (Q:Im->Prop),qi ws Q->ws.length=2:=fun _ _ ⟨_,_,_,_,e,_⟩=>by subst e;rfl
def wg(f:Bool->Im->Im->Im):List W->(Im->Prop)->Prop:=fun ws Q=>∃a b c d:Int,ws=[.d (pr a b),.d (pr c d)]/\bV a d/\bV c b/\Q (f (decide (a*d<c*b)) (pr a b) (pr c d))
theorem wg.mono{f:Bool->Im->Im->Im}:∀ws (Q Q':Im->Prop),(∀d,Q d->Q' d)->wg f ws Q->wg f ws Q':=fun _ _ _ h ⟨b,n,c,d,e,x,y,q⟩=>⟨b,n,c,d,e,x,y,h _ q⟩
theorem wg.len{f:Bool->Im->Im->Im}:∀ws (Q:Im->Prop),wg f ws Q->ws.length=2:=fun _ _ ⟨_,_,_,_,e,_⟩=>by subst e;rfl
def zp(b n:Int):Nat:=((IN 31).filter fun k=>decide (b^k<n)).length
theorem db(h:1<=b){i:Nat}(hij:i<=j):b^i<=b^j:=by
 induction hij with
 | refl=>exact Mu _
 | step _ ih =>
   rw[K7]
   have:0<=b^i:=Pe (Kq (by omega))
   exact Pf ih (by
    rename_i m _
    have hm:0<b^m:=Kq (by omega)
    have:=JV h (Pe hm)
    omega)
theorem eO{a b:Int}(h0:0<=a)(h:a<=b):∀k:Nat,a^k<=b^k
 | 0=>by simp
 | k+1=>by
   rw[K7,K7]
   exact Int.mul_le_mul (eO h0 h k) h h0 (Ow (by omega))
theorem gi{b:Int}(h:2<=b):∀k:Nat,(2:Int)^k<=b^k
 | 0=>by simp
 | k+1=>by
   rw[K7,K7]
   have:=gi h k
   have h0:(0:Int)<=2^k:=Pe (Kq (by omega))
   calc (2:Int)^k*2<=b^k*2:=Lm this (by omega)
    _<=b^k*b:=JV h (by omega)
def Bc(n:Int)(p:Int)(r:Int×List Int):Int:=p*max 1 ((r.1-1)*zp r.1 n)
def Af(p n:Int):Im:=xt (min n p) n
def FF:List W->(Im->Prop)->Prop:=fun ws Q=>∃rows n,ws=[.d (Aw rows),.d (.int n)]/\IsRow rows/\1<=n/\n<=2^31/\Q (Af (rows.foldl (Bc n) 1+rows.length) n)
theorem FF.mono:∀ws (Q Q':Im->Prop),(∀d,Q d->Q' d)->FF ws Q->FF ws Q':=fun _ _ _ h ⟨b,n,e,x,y,z,q⟩=>⟨b,n,e,x,y,z,h _ q⟩
theorem FF.len:∀ws (Q:Im->Prop),FF ws Q->ws.length=2:=fun _ _ ⟨_,_,e,_⟩=>by subst e;rfl
theorem GlK.pair{K:W.Frag}{x:Str}{a:Int}{p:Addr}{sl:Array (Option Iw)}{t u:Tok}(h1:W.nsIn K JI x=some (some (.ref p)))
 (h2:K.lookup p=some ⟨.type "tuple", none,.seq #[.int a t,.int b u] n,sl⟩):GlK K x (pr a b):=by
 refine⟨.ref p,.ref p,h1,rfl,fun F=>.tup (vs:=[.int a,.int b]) (.inr ⟨_,_,n,h2,rfl,rfl,(by show 2<=sizeLine;decide),.cons ⟨t,rfl⟩ (.cons ⟨u,rfl⟩ .nil),rfl⟩) (.cons (.int a) (.cons (.int b) .nil))⟩
end L2.VL
set_option exponentiation.threshold 10000
namespace L2.VL
def digs(b n:Nat):List Nat:=if h:2<=b/\0<n then(n%b)::digs b (n / b)else []
termination_by n
decreasing_by exact MX h.2 h.1
theorem cW(b:Nat):digs b 0=[]:=by unfold digs;simp
theorem dS{b:Nat}(hb:2<=b)(hn:0<n):digs b n=(n%b)::digs b (n / b):=by
 rw[digs]
 simp[hb,hn]
theorem wQ{b:Nat}(hb:2<=b):∀n:Nat,∀a∈digs b n,a<b:=by
 intro n
 induction n using MY with
 | ind n ih =>
   intro a ha
   by_cases hn:0<n
   · rw[dS hb hn]at ha
     rcases Jf.mp ha with rfl|ha
     · exact Nat.mod_lt _ (by omega)
     · exact ih (n / b) (MX hn hb) a ha
   · have:n=0:=by omega
     subst this
     rw[cW]at ha
     cases ha
theorem se{b:Nat}(hb:2<=b):∀n:Nat,0<n->b^(digs b n).length<=b*n:=by
 intro n
 induction n using MY with
 | ind n ih =>
   intro hn
   rw[dS hb hn,Ju,Pg]
   by_cases h:0<n / b
   · have:=ih (n / b) (MX hn hb) h
     have h2:b*(n / b)<=n:=Nat.mul_div_le n b
     calc b^(digs b (n / b)).length*b<=(b*(n / b))*b:=Ot b this
      _<=n*b:=Ot b h2
      _=b*n:=N8 _ _
   · have:n / b=0:=Nat.eq_zero_of_not_pos h
     rw[this,cW]
     simp
     exact NJ b hn
def D4(b:Int)(n:Nat):Int:=b^(digs b.toNat n).length
def stepT(b:Int)(p:List Int)(t:Int)(a:Nat):Int:=t*b+p.getD a 0
def A5(b:Int)(p:List Int)(n:Nat):Int:=(digs b.toNat n).foldl (stepT b p) 0
def A3(b:Int)(p:List Int)(n:Nat):Im:=xt (A5 b p n) (D4 b n)
theorem wG{p:List Int}(ex:IsEx b p){a:Nat}(h:a<b.toNat):p[a]?=some (p.getD a 0)/\0<=p.getD a 0/\p.getD a 0<b:=by
 have hl:a<p.length:=by rw[ex.len];exact h
 have e:p.getD a 0=p[a]:=by simp[List.getD,hl]
 have:=ex.rng p[a] (JA hl)
 rw[e]
 exact⟨Iy hl,this⟩
def BZ:List W->(Im->Prop)->Prop:=fun ws Q=>∃b n:Int,ws=[.d (.int b),.d (.int n)]/\2<=b/\b<=16/\0<=n/\n<2^100/\Q (.list ((digs b.toNat n.toNat).map fun(k:Nat)=>.int k))
theorem BZ.mono:∀ws (Q Q':Im->Prop),(∀d,Q d->Q' d)->BZ ws Q->BZ ws Q':=fun _ _ _ h ⟨b,n,e,x,y,z,u,q⟩=>⟨b,n,e,x,y,z,u,h _ q⟩
theorem BZ.len:∀ws (Q:Im->Prop),BZ ws Q->ws.length=2:=fun _ _ ⟨_,_,e,_⟩=>by subst e;rfl
def Bt:List W->(Im->Prop)->Prop:=fun ws Q=>∃(b:Int)(xs:List Int),ws=[.d (.int b),.d (.list (xs.map .int))]/\0<=b/\b<=16/\Q (.int (xs.reverse.foldl (fun t a=>t*b+a) 0))
theorem Bt.mono:∀ws (Q Q':Im->Prop),(∀d,Q d->Q' d)->Bt ws Q->Bt ws Q':=fun _ _ _ h ⟨b,n,e,x,y,q⟩=>⟨b,n,e,x,y,h _ q⟩
theorem Bt.len:∀ws (Q:Im->Prop),Bt ws Q->ws.length=2:=fun _ _ ⟨_,_,e,_⟩=>by subst e;rfl
def uQ(f:Int->List Int->Nat->Im):List W->(Im->Prop)->Prop:=fun ws Q=>∃(b:Int)(p:List Int)(n:Int),ws=[.d (.int b),.d (GO p),.d (.int n)]/\2<=b/\b<=16/\IsEx b p/\0<=n/\n<2^100/\Q (f b p n.toNat)
theorem uQ.mono{f:Int->List Int->Nat->Im}:∀ws (Q Q':Im->Prop),(∀d,Q d->Q' d)->uQ f ws Q->uQ f ws Q':=fun _ _ _ h ⟨b,p,n,e,x,y,z,u,v,q⟩=>⟨b,p,n,e,x,y,z,u,v,h _ q⟩
theorem uQ.len{f:Int->List Int->Nat->Im}:∀ws (Q:Im->Prop),uQ f ws Q->ws.length=3:=fun _ _ ⟨_,_,_,e,_⟩=>by subst e;rfl
theorem wP{n:Int}(hb:0<=b)(hn:0<=n):n / b=((n.toNat / b.toNat:Nat):Int):=by
 obtain⟨k,rfl⟩:=JC hb
 obtain⟨m,rfl⟩:=JC hn
 simp
theorem rC{n:Int}(hb:0<=b)(hn:0<=n):n%b=((n.toNat%b.toNat:Nat):Int):=by
 obtain⟨k,rfl⟩:=JC hb
 obtain⟨m,rfl⟩:=JC hn
 simp
def yP(rows:List (Int×List Int))(n:Nat):Im:=.tuple (rows.map fun r=>A3 r.1 r.2 n)
def D3(rows:List (Int×List Int))(n m:Nat):Im:=.tuple ((IN m).map fun i=>yP rows (n+i))
def Bo:List W->(Im->Prop)->Prop:=fun ws Q=>∃rows n m,ws=[.d (Aw rows),.d (.int n),.d (.int m)]/\IsRow rows/\0<=n/\n<2^60/\0<=m/\m<=1000/\Q (D3 rows n.toNat m.toNat)
theorem Bo.mono:∀ws (Q Q':Im->Prop),(∀d,Q d->Q' d)->Bo ws Q->Bo ws Q':=fun _ _ _ h ⟨b,p,n,e,x,y,z,u,v,q⟩=>⟨b,p,n,e,x,y,z,u,v,h _ q⟩
theorem Bo.len:∀ws (Q:Im->Prop),Bo ws Q->ws.length=3:=fun _ _ ⟨_,_,_,e,_⟩=>by subst e;rfl
def E2:Im->Int
 | .int i=>i
 | _=>0
def El(K:W.Frag)(F:Hp)(v:V)(ds:List Im):Prop:=∃a vs,v = .ref a/\F a=some (.tup vs)/\Reps K F vs ds
def DK(K:W.Frag)(rl:RlT)(P:List W->(List Im->Prop)->Prop):Sp:=fun vs H Q _=>∃F ws,bm F H/\Hq rl F H/\dh K rl F H vs ws/\ws.all cY=true/\P ws fun xs=>∀v F' H',Grow rl F H F' H'->El K F' v xs->Q v H'
def yk(Q:List Im->Prop):VEnds:=⟨fun _=>False,fun w=>∃xs,w = .nt xs/\Q xs,fun _=>False,fun _=>False⟩
structure DfnT (P:IZ) (w:JN) (K:W.Frag) (mg:Str->Option Iw) (base:Heap) (rl:RlT) (x:Str) (ps:List Str) (k:Nat) (Pd:List W->(List Im->Prop)->Prop):Prop where
 mono:∀ws Q Q',(∀d,Q d->Q' d)->Pd ws Q->Pd ws Q'
 ex:∃f fd,mg x=some (.ref f)/\W.keepIn K (.ref f)=true/\Binds K fd ps []/\FnOk P w K mg base Ib k f fd ps (DK K rl Pd)
section
variable{P:IZ}{w:JN}{K:W.Frag}{mg:Str->Option Iw}{base:Heap}{rl:RlT}{x:Str}{st:Stmt}{N ps:List Str}{k:Nat}{Pd:List W->(List Im->Prop)->Prop}{t:Ha}
theorem DfnT.of(Fn:FnIn K mg x st ps)(S:FnScope N ps (defScope st))(mono:∀ws Q Q',(∀d,Q d->Q' d)->Pd ws Q->Pd ws Q')(len:∀ws Q,Pd ws Q->ws.length=ps.length)
 (hbody:∀{f:Addr}(cdv:Iw)(A:J4)(outer:List Env)(s:IB)(H:Hp)(E:XK),Room k (A.deeper (MR x (defScope st) s.heap.objs.size f cdv)) ->
  jm (lA Ib P w K mg base N x (defScope st) f cdv A outer s H E).nox rl (defBody st) t)
 (hread:∀ws Q,Pd ws Q->t (yk Q) (cu N ws)):DfnT P w K mg base rl x ps (k+1) Pd:=by
 obtain⟨f,fd,hm,F,hb⟩:=Fn.ex
 refine⟨mono,f,fd,hm,F.kp,hb,?_⟩
 refine F.ok S (fun vs H Q E ⟨F,ws,_,_,r,_,q⟩=>(J6 r).trans (len ws _ q)) fun cdv A outer s H vs Q E hr h=>?_
 obtain⟨F,ws,sm,ra,r,ok,q⟩:=h
 obtain⟨T,p,kk⟩:=hbody cdv A outer s H E hr
 refine⟨T,p,kk (cD sm ra r ok) (yk _) _ ⟨fun _ _ _ _ _ _ z=>Jq z,?_,fun _ _ _ _ _ _ z=>Jq z,fun _ _ _ _ _ _ z=>Jq z⟩ (hread ws _ q)⟩
 rintro v w1 F1 H1 g1 r1 n1 ⟨xs,rfl,q1⟩
 exact q1 v F1 H1 g1 r1
end
section
variable{X:Cx}{rl:RlT}{a b c e:Expr}{es:List Expr}{fa fb fc:TV}{fs:G_}{pos p p2 px apos cpos:Pos}
def qu:HJ->Im
 | .inl i=>.int i
 | .inr x=>.str x
def Dl(kvs:List (List HJ×Im))(k:List HJ)(x:Im):List (List HJ×Im) :=
 if(kvs.any fun kv=>decide (kv.1=k))=true then kvs.map (fun kv=>if kv.1=k then(kv.1,x)else kv)else kvs++[(k,x)]
theorem KD.any{K:W.Frag}{us:List (List HJ×V)}{kvs:List (List HJ×Im)}(r:KD K F us kvs)(k:List HJ):(us.any fun kv=>decide (kv.1=k))=kvs.any fun kv=>decide (kv.1=k):=by
 induction r with
 | nil=>rfl
 | cons h t ih=>rw[LU,LU,ih,h.1]
theorem KD.repl{K:W.Frag}{us:List (List HJ×V)}{kvs:List (List HJ×Im)}(r:KD K F us kvs)(k:List HJ)(rv:Rep K F v d):KD K F (us.map fun kv=>if kv.1=k then(kv.1,v)else kv) (kvs.map fun kv=>if kv.1=k then(kv.1,d)else kv):=by
 induction r with
 | nil=>exact .nil
 | @cons p q ps qs h t ih =>
   refine .cons ?_ ih
   show(if p.1=k then(p.1,v)else p).1=(if q.1=k then(q.1,d)else q).1/\Rep K F (if p.1=k then(p.1,v)else p).2 (if q.1=k then(q.1,d)else q).2
   by_cases e:q.1=k
   · have e':p.1=k:=h.1.trans e
     rw[if_pos e,if_pos e']
     exact⟨h.1,rv⟩
   · have e':¬p.1=k:=fun z=>e (h.1.symm.trans z)
     rw[if_neg e,if_neg e']
     exact h
theorem KD.snoc{K:W.Frag}{us:List (List HJ×V)}{kvs:List (List HJ×Im)}(r:KD K F us kvs)(k:List HJ)(rv:Rep K F v d):KD K F (us++[(k,v)]) (kvs++[(k,d)]):=by
 induction r with
 | nil=>exact .cons ⟨rfl,rv⟩ .nil
 | cons h t ih=>exact .cons h ih
theorem KD.put{K:W.Frag}{us:List (List HJ×V)}{kvs:List (List HJ×Im)}(r:KD K F us kvs)(k:List HJ)(rv:Rep K F v d):KD K F (cU us k v) (Dl kvs k d):=by
 unfold cU Dl
 rw[r.any k]
 split
 · exact r.repl k rv
 · exact r.snoc k rv
end
end L2.VL
namespace L2.IX
section
variable{prog:IZ}{w:JN}{A:J4}{E:Iw->IB->Prop}{s:IB}
end
end L2.IX
namespace L2
section
variable{X:Cx}
end
end L2
namespace L2.VL
section
variable{X:Cx}{rl:RlT}{a b c e:Expr}{es:List Expr}{fa fb fc:TV}{fs:G_}{pos p p2 px apos cpos:Pos}
def gC:Im->Bool
 | .none=>true
 | _=>false
def AD(neg:Bool):W->W->(W->Prop)->Prop:=fun x y Q=>∃d,x.dat=some d/\y = .d .none/\Q (.d (.bool (if neg then !gC d else gC d)))
theorem oq{K:W.Frag}(h:Rep K F v d):decide (v=V.non)=gC d:=by
 cases h<;>first|rfl|exact decide_eq_false (fun z=>by cases z)
theorem xJ:G7 X rl (fun x y H Q=>y = .non/\Q (.bl (decide (x = .non))) H) (AD false):=fun{F H x y wx wy} Qd Q s ra r1 r2 q k=>by
 obtain⟨d,e1,rfl,q⟩:=q
 have e2:y = .non:=by cases(show Rep X.K F y .none from r2);rfl
 refine⟨e2,?_⟩
 rw[oq (r1.dat s e1)]
 exact k _ (.d _) _ _ (Grow.refl s ra) (.bl _) trivial q
theorem mW:G7 X rl (fun x y H Q=>y = .non/\Q (.bl (!decide (x = .non))) H) (AD true):=fun{F H x y wx wy} Qd Q s ra r1 r2 q k=>by
 obtain⟨d,e1,rfl,q⟩:=q
 have e2:y = .non:=by cases(show Rep X.K F y .none from r2);rfl
 refine⟨e2,?_⟩
 rw[oq (r1.dat s e1)]
 exact k _ (.d _) _ _ (Grow.refl s ra) (.bl _) trivial q
def rS:W->W->(W->Prop)->Prop:=fun x y Q=>∃xs k,x.dat=some (.list xs)/\y = .d (.int k) /\ -(2^63)<=k/\k<2^63/\xs.length*k.toNat<=sizeLine/\Q (.ml (IH k.toNat xs).flatten)
theorem yB{K:W.Frag}{F:Hp}{vs:List V}{ds:List Im}(r:Reps K F vs ds):∀n:Nat,Reps K F (IH n vs).flatten (IH n ds).flatten
 | 0=>.nil
 | n+1=>by rw[JJ,JJ,Kw,Kw];exact r.append (yB r n)
theorem ux:G7 X rl Dg rS:=fun{F H x y wx wy} Qd Q s ra r1 r2 q k=>by
 obtain⟨xs,n,e1,rfl,h1,h2,hz,q⟩:=q
 have ey:=ay r2
 subst ey
 obtain⟨a,vs,rfl,hh,rs⟩:=r1.lst s e1
 refine⟨a,n,vs,rfl,rfl,hh,h1,h2,by rw[rs.length];exact hz,fun p hp=>?_⟩
 exact k _ (.ml _) _ _ (Grow.laid s ra hp) (cx s ra hp (yB rs n.toNat)) (fun a ea=>by cases ea;exact hp) q
theorem xT(ha:PV X rl a fa)(hb:PV X rl b fb):PV X rl (.BinOp a .Mult b pos) (EY rS fa fb):=fX zd ux ha hb
end
end L2.VL
namespace L2.ZP
section
variable{prog:IZ}{w:JN}{A:J4}{E:Iw->IB->Prop}{s:IB}{it a:Addr}{k:Nat}{xs:Array Iw}{v:Iw}
theorem uV(st:s.heap.IsTupleIter it a k)(tu:s.heap.IsTuple a xs)(e:xs[k]?=some v)
 (q:∀g,g.IsTupleIter it a (k+1)->KP it s.heap g->Q v {s with heap:=g}):IT (Jb prog w) A (JD (.ref it)) Q E s:=by
 have ty:=st.typeIs
 obtain⟨o,oe,oc,od⟩:=st
 obtain⟨l,le,_,_,ld⟩:=tu
 unfold JD
 have sl:=F.slot_tuple_iterator_next
 refine Io (Jk (name:=Str.ofString "__next__") ty sl (J7 sl ty F.entry_tuple_iterator_next ?_ (F.args_tuple_iterator_next_1 _)))
 show IT _ _ (do let z <- Pw (.ref it) 0;_) _ _ s
 refine Io (Jv oe od (x:=.ref a) rfl ?_)
 show IT _ _ (ite ((KR a==Lz)=true) _ _) _ _ s
 rw[if_neg (show ¬(KR a == .none)=true by intro z;cases z)]
 show IT _ _ (do let z <- Pw (.ref it) 1;_) _ _ s
 refine Io (Jv oe od (x:=.int k 0) rfl ?_)
 show IT _ _ (do let z <- seqItems? (.ref a);_) _ _ s
 refine Io (Ld le ld ?_)
 simp only[JO,e]
 refine Io (Mx oe od (by simp) (IA ⟨v,rfl,IA (q _ ?_ (Lu ..))⟩))
 refine⟨_,LG _ oe (Mz (K8 od _)),?_,?_⟩
 · exact(Obj.cls_mapFields ..).trans oc
 · rw[K8 od];simp[Mq]
theorem ye(hd:A.handled=none)(st:s.heap.IsTupleIter it a k)(tu:s.heap.IsTuple a xs)(e:xs[k]?=none)
 (q:∀g x,OH it s.heap g->(∃o,g.get? x=some o/\o.cls = .type "StopIteration")->E (.ref x) {s with heap:=g}):IT (Jb prog w) A (JD (.ref it)) Q E s:=by
 have ty:=st.typeIs
 obtain⟨o,oe,oc,od⟩:=st
 obtain⟨l,le,_,_,ld⟩:=tu
 unfold JD
 have sl:=F.slot_tuple_iterator_next
 refine Io (Jk (name:=Str.ofString "__next__") ty sl (J7 sl ty F.entry_tuple_iterator_next ?_ (F.args_tuple_iterator_next_1 _)))
 show IT _ _ (do let z <- Pw (.ref it) 0;_) _ _ s
 refine Io (Jv oe od (x:=.ref a) rfl ?_)
 show IT _ _ (ite ((KR a==Lz)=true) _ _) _ _ s
 rw[if_neg (show ¬(KR a == .none)=true by intro z;cases z)]
 show IT _ _ (do let z <- Pw (.ref it) 1;_) _ _ s
 refine Io (Jv oe od (x:=.int k 0) rfl ?_)
 show IT _ _ (do let z <- seqItems? (.ref a);_) _ _ s
 refine Io (Ld le ld ?_)
 simp only[JO,e]
 refine Io (LP (Io (Mx oe od (by simp) ?_)))
 show IT _ _ (do let z <- newExc (.type "StopIteration") [];_) _ _ _
 refine Io ?_
 simp only[newExc,newTuple]
 refine Io (Jg ?_ (by size_fits))
 refine Io (m:=Nt _ _) (Lc (a:=.none) (by first|rfl|(simp only[Nt];rfl)) (Jg ?_ (by size_fits)))
 simp only[raiseNew]
 refine Io (wpAny_handled ?_)
 first
  | rw[show A.in1.handled=none from hd]
  | rw[hd]
 refine Io (IA (wpAny_throw ?_))
 exact q _ _ (((Lu ..).extBut.push _).push _) ⟨_,IL _ rfl,rfl⟩
end
def HX(h:Heap)(it a:Addr)(xs:Array Iw)(k:Nat):Prop:=(h.IsListIter it a k/\h.IsList a xs)\/(h.IsTupleIter it a k/\h.IsTuple a xs)
section
variable{prog:IZ}{w:JN}{A:J4}{E:Iw->IB->Prop}{s:IB}{it a:Addr}{k:Nat}{xs:Array Iw}{v:Iw}
theorem HX.item(st:HX s.heap it a xs k)(ne:a≠it)(e:xs[k]?=some v)
 (q:∀g,HX g it a xs (k+1)->KP it s.heap g->Q v {s with heap:=g}):IT (Jb prog w) A (JD (.ref it)) Q E s:=by
 rcases st with⟨h1,h2⟩|⟨h1,h2⟩
 · exact wpAny_nextOf_list_item h1 h2 e fun g h3 h4=>q g (.inl ⟨h3,h2.extBut h4.extBut ne⟩) h4
 · exact uV h1 h2 e fun g h3 h4=>q g (.inr ⟨h3,h2.extBut h4.extBut ne⟩) h4
theorem HX.fin(hd:A.handled=none)(st:HX s.heap it a xs k)(e:xs[k]?=none)
 (q:∀g x,OH it s.heap g->(∃o,g.get? x=some o/\o.cls = .type "StopIteration")->E (.ref x) {s with heap:=g}):IT (Jb prog w) A (JD (.ref it)) Q E s:=by
 rcases st with⟨h1,h2⟩|⟨h1,h2⟩
 · exact wpAny_nextOf_list_end hd h1 h2 e q
 · exact ye hd h1 h2 e q
theorem HX.keep(st:HX h it a xs k)(e1:∀o,h.get? it=some o->h'.get? it=some o)(e2:∀o,h.get? a=some o->h'.get? a=some o):HX h' it a xs k:=by
 rcases st with⟨⟨o,h1,r1⟩,⟨p,h2,r2⟩⟩|⟨⟨o,h1,r1⟩,⟨p,h2,r2⟩⟩
 · exact .inl ⟨⟨o,e1 _ h1,r1⟩,⟨p,e2 _ h2,r2⟩⟩
 · exact .inr ⟨⟨o,e1 _ h1,r1⟩,⟨p,e2 _ h2,r2⟩⟩
theorem HX.lt(st:HX h it a xs k):it<h.objs.size/\a<h.objs.size:=by
 rcases st with⟨⟨o,h1,_⟩,⟨p,h2,_⟩⟩|⟨⟨o,h1,_⟩,⟨p,h2,_⟩⟩<;>exact⟨II h1,II h2⟩
end
section
variable{prog:IZ}{w:JN}{A:J4}{E:Iw->IB->Prop}{s:IB}{z ti to i1 i2 a1 a2:Addr}{k1 k2:Nat}{xs ys:Array Iw}{x y p q:Iw}
theorem SameBut.keep{b:Addr}(sb:KP a h h')(ne:b≠a):∀o,h.get? b=some o->h'.get? b=some o:=fun o e=>sb.extBut _ _ ne e
theorem um(D:ZipApart z ti to i1 i2 a1 a2)(oz:O5 s.heap z ti to .none)(oi:MZ s.heap ti (.ref i1) (.ref i2))(oo:MZ s.heap to p q)
 (s1:HX s.heap i1 a1 xs k1)(s2:HX s.heap i2 a2 ys k2)(ex:xs[k1]?=some x)(ey:ys[k2]?=some y)
 (done:∀g,O5 g z ti to (Mq s.heap.objs.size)->MZ g to x y->HX g i1 a1 xs (k1+1)->HX g i2 a2 ys (k2+1)->MZ g s.heap.objs.size x y->g.objs.size=s.heap.objs.size+1 ->
  (∀b o,b≠z->b≠to->b≠i1->b≠i2->s.heap.get? b=some o->g.get? b=some o)->Q (.ref s.heap.objs.size) {s with heap:=g}) :
 IT (Jb prog w) A (Builtin.«zip.__next__» ⟨[.ref z],[]⟩) (fun r s'=>∃u,r = .done (.ret u)/\Q u s') E s:=by
 show IT _ _ (do let c <- Pw (.ref z) 2;_) _ _ _
 refine Io (Jv oz rfl (x:=.bool false) rfl ?_)
 show IT _ _ (do let c <- Pw (.ref z) 3;_) _ _ _
 refine Io (Jv oz rfl (x:=.ref ti) rfl ?_)
 refine Io (Ld oi rfl ?_)
 show IT _ _ (do let c <- JT (.ref z);_) _ _ _
 refine Io ?_
 unfold JT
 refine Io (Jv oz rfl (x:=Lz) rfl (IA ?_))
 simp only[if_true]
 refine Io (LP (Io (Jv oz rfl (x:=.ref to) rfl (Io (Kb oz (by simp) fun g1 z1 b1=>?_)))))
 have z1:O5 g1 z ti to .ellipsis:=z1
 refine Io ?_
 simp only[Mh,List.forIn_nil,List.zipIdx_cons,List.zipIdx_nil]
 have s1a:HX g1 i1 a1 xs k1:=s1.keep (SameBut.keep b1 D.i1z) (SameBut.keep b1 D.l1z)
 refine Io (Io (NK ?_))
 show IT _ _ (do let c <- JD (.ref i1);_) _ _ _
 refine Io (s1a.item D.l1i1 ex fun g2 s1b b2=>IA ?_)
 have o2:MZ g2 to p q:=b2.extBut _ _ D.TOi1 (b1.extBut _ _ D.TOz oo)
 refine Io (Ld o2 rfl (Io (MH o2 fun g3 o3 b3=>?_)))
 have o3:MZ g3 to x q:=o3
 refine Io (OI (IA ?_))
 have s2a:HX g3 i2 a2 ys k2:=((s2.keep (SameBut.keep b1 D.i2z) (SameBut.keep b1 D.l2z)).keep (SameBut.keep b2 D.i12.symm) (SameBut.keep b2 D.l2i1)).keep (SameBut.keep b3 D.TOi2.symm) (SameBut.keep b3 D.l2TO)
 refine Io (Io (NK ?_))
 show IT _ _ (do let c <- JD (.ref i2);_) _ _ _
 refine Io (s2a.item D.l2i2 ey fun g4 s2b b4=>IA ?_)
 have o4:MZ g4 to x q:=b4.extBut _ _ D.TOi2 o3
 refine Io (Ld o4 rfl (Io (MH o4 fun g5 o5 b5=>?_)))
 have o5:MZ g5 to x y:=o5
 refine Io (OI (IA (IA ?_)))
 refine Io (Ld o5 rfl (Io (wpAny_newTuple ?_)))
 have size:g5.objs.size=s.heap.objs.size:=by rw[b5.1,b4.1,b3.1,b2.1,b1.1]
 have z5:O5 g5 z ti to .ellipsis:=b5.extBut _ _ D.TOz.symm (b4.extBut _ _ D.i2z.symm (b3.extBut _ _ D.TOz.symm (b2.extBut _ _ D.i1z.symm z1)))
 have kp:∀b o,b≠z->b≠to->b≠i1->b≠i2->s.heap.get? b=some o->g5.get? b=some o:=fun b o n1 n2 n3 n4 e=>b5.extBut _ _ n2 (b4.extBut _ _ n4 (b3.extBut _ _ n2 (b2.extBut _ _ n3 (b1.extBut _ _ n1 e))))
 have s1c:HX g5 i1 a1 xs (k1+1):=((s1b.keep (SameBut.keep b3 D.TOi1.symm) (SameBut.keep b3 D.l1TO)).keep (SameBut.keep b4 D.i12) (SameBut.keep b4 D.l1i2)).keep (SameBut.keep b5 D.TOi1.symm) (SameBut.keep b5 D.l1TO)
 have s2c:HX g5 i2 a2 ys (k2+1):=s2b.keep (SameBut.keep b5 D.TOi2.symm) (SameBut.keep b5 D.l2TO)
 have zl:z<g5.objs.size:=II z5
 show IT _ _ (do Ks (.ref z) (.ref g5.objs.size);_) _ _ _
 refine Io ?_
 unfold Ks
 have z6:O5 (g5.push {cls:=.type "tuple", data:=.seq #[x,y]}) z ti to .ellipsis:=Iu _ z5
 refine Io (Kb z6 (by simp) fun g7 z7 b7=>?_)
 have z7:O5 g7 z ti to (Mq g5.objs.size):=z7
 refine Kb z7 (by simp) fun g8 z8 b8=>?_
 have z8:O5 g8 z ti to (Mq g5.objs.size):=z8
 have up:∀b o,b≠z->g5.get? b=some o->g8.get? b=some o:=fun b o n e=>b8.extBut _ _ n (b7.extBut _ _ n (Iu _ e))
 have t8:MZ g8 g5.objs.size x y:=b8.extBut _ _ (LC zl) (b7.extBut _ _ (LC zl) (IL _ rfl))
 have l8:g8.objs.size=g5.objs.size+1:=by rw[b8.1,b7.1,J_]
 rw[size]at z8 t8 l8
 refine IA ⟨_,rfl,?_⟩
 show Q (.ref g5.objs.size) _
 rw[size]
 exact done g8 z8 (up _ _ D.TOz o5) (s1c.keep (fun o e=>up _ o D.i1z e) fun o e=>up _ o D.l1z e) (s2c.keep (fun o e=>up _ o D.i2z e) fun o e=>up _ o D.l2z e) t8 l8 fun b o n1 n2 n3 n4 e=>up b o n1 (kp b o n1 n2 n3 n4 e)
theorem xA{Q:Fin->IB->Prop}(hd:A.handled=none)(D:ZipApart z ti to i1 i2 a1 a2)(oz:O5 s.heap z ti to .none)(oi:MZ s.heap ti (.ref i1) (.ref i2))(oo:MZ s.heap to p q)
 (s1:HX s.heap i1 a1 xs k1)(s2:HX s.heap i2 a2 ys k2)(e:xs[k1]?=none\/ys[k2]?=none)
 (q':∀g x,(∀b o,b≠z->b≠to->b≠i1->b≠i2->s.heap.get? b=some o->g.get? b=some o)->(∃o,g.get? x=some o/\o.cls = .type "StopIteration")->E (.ref x) {s with heap:=g}) :
 IT (Jb prog w) A (Builtin.«zip.__next__» ⟨[.ref z],[]⟩) Q E s:=by
 show IT _ _ (do let c <- Pw (.ref z) 2;_) _ _ _
 refine Io (Jv oz rfl (x:=.bool false) rfl ?_)
 show IT _ _ (do let c <- Pw (.ref z) 3;_) _ _ _
 refine Io (Jv oz rfl (x:=.ref ti) rfl ?_)
 refine Io (Ld oi rfl ?_)
 show IT _ _ (do let c <- JT (.ref z);_) _ _ _
 refine Io ?_
 unfold JT
 refine Io (Jv oz rfl (x:=Lz) rfl (IA ?_))
 simp only[if_true]
 refine Io (LP (Io (Jv oz rfl (x:=.ref to) rfl (Io (Kb oz (by simp) fun g1 z1 b1=>?_)))))
 have z1:O5 g1 z ti to .ellipsis:=z1
 refine Io ?_
 simp only[Mh,List.forIn_nil,List.zipIdx_cons,List.zipIdx_nil]
 have s1a:HX g1 i1 a1 xs k1:=s1.keep (SameBut.keep b1 D.i1z) (SameBut.keep b1 D.l1z)
 refine Io (Io (NK ?_))
 show IT _ _ (do let c <- JD (.ref i1);_) _ _ _
 have last:∀(g g':Heap)(u:Addr)(o:Obj),g.get? u=some o->o.cls = .type "StopIteration" -> O5 g z ti to .ellipsis->KP z g g'->∃o,g'.get? u=some o/\o.cls = .type "StopIteration" := fun g g' u o h1 h2 h3 sb=>by
  have ne:u≠z:=fun c=>by rw[c,h3]at h1;cases h1;simp at h2
  exact⟨o,sb.extBut _ _ ne h1,h2⟩
 cases ex:xs[k1]? with
 | none =>
   refine Io (s1a.fin hd ex fun g2 u b2 ⟨o,ou,oc⟩=>?_)
   have z2:O5 g2 z ti to .ellipsis:=b2 _ _ D.i1z.symm z1
   exact Kb z2 (by simp) fun g3 _ b3=>q' g3 u (fun b o n1 _ n3 _ e=>b3.extBut _ _ n1 (b2 _ _ n3 (b1.extBut _ _ n1 e))) (last g2 g3 u o ou oc z2 b3)
 | some x =>
   have ey:ys[k2]?=none:=e.elim (fun h=>by rw[ex]at h;cases h) id
   refine Io (s1a.item D.l1i1 ex fun g2 s1b b2=>IA ?_)
   have o2:MZ g2 to p q:=b2.extBut _ _ D.TOi1 (b1.extBut _ _ D.TOz oo)
   refine Io (Ld o2 rfl (Io (MH o2 fun g3 o3 b3=>?_)))
   refine Io (OI (IA ?_))
   have s2a:HX g3 i2 a2 ys k2:=((s2.keep (SameBut.keep b1 D.i2z) (SameBut.keep b1 D.l2z)).keep (SameBut.keep b2 D.i12.symm) (SameBut.keep b2 D.l2i1)).keep (SameBut.keep b3 D.TOi2.symm) (SameBut.keep b3 D.l2TO)
   refine Io (Io (NK ?_))
   show IT _ _ (do let c <- JD (.ref i2);_) _ _ _
   refine Io (s2a.fin hd ey fun g4 u b4 ⟨o,ou,oc⟩=>?_)
   have z4:O5 g4 z ti to .ellipsis:=b4 _ _ D.i2z.symm (b3.extBut _ _ D.TOz.symm (b2.extBut _ _ D.i1z.symm z1))
   exact Kb z4 (by simp) fun g5 _ b5=>q' g5 u (fun b o n1 n2 n3 n4 e=>b5.extBut _ _ n1 (b4 _ _ n4 (b3.extBut _ _ n2 (b2.extBut _ _ n3 (b1.extBut _ _ n1 e))))) (last g4 g5 u o ou oc z4 b5)
end
def Hm(b:Bool)(h:Heap)(a:Addr)(xs:Array Iw):Prop:=bif b then h.IsTuple a xs else h.IsList a xs
def Gp(b:Bool):String:=bif b then "tuple_iterator" else "list_iterator"
theorem Hm.push{b:Bool}{h:Heap}{a:Addr}{xs:Array Iw}(q:Hm b h a xs)(o:Obj):Hm b (h.push o) a xs:=by
 cases b with
 | true=>exact Heap.IsTuple.push q o
 | false=>exact Heap.IsList.push q o
section
variable{prog:IZ}{w:JN}{A:J4}{E:Iw->IB->Prop}{s:IB}{b b1 b2:Bool}{a a1 a2:Addr}{xs ys:Array Iw}
theorem rL(st:Hm b s.heap a xs)(q:Q (.ref s.heap.objs.size) {s with heap:=s.heap.push {cls:=.type (Gp b),data:=.fields #[.ref a,.int 0 0]}}):IT (Jb prog w) A (O7 (.ref a)) Q E s:=by
 cases b with
 | true=>exact wpAny_pyIter_tuple st q
 | false=>exact Ny st q
abbrev y1(h:Heap)(b1:Bool)(a1:Addr):Heap:=h.push {cls:=.type (Gp b1),data:=.fields #[.ref a1,.int 0 0]}
abbrev y2(h:Heap)(b1 b2:Bool)(a1 a2:Addr):Heap:=(y1 h b1 a1).push {cls:=.type (Gp b2),data:=.fields #[.ref a2,.int 0 0]}
abbrev y3(h:Heap)(b1 b2:Bool)(a1 a2:Addr):Heap:=(y2 h b1 b2 a1 a2).push {cls:=.type "tuple", data:=.seq #[.ref h.objs.size,.ref (y1 h b1 a1).objs.size]}
abbrev y4(h:Heap)(b1 b2:Bool)(a1 a2:Addr):Heap:=(y3 h b1 b2 a1 a2).push {cls:=.type "tuple", data:=.seq #[.none,.none]}
abbrev y5(h:Heap)(b1 b2:Bool)(a1 a2:Addr):Heap:=(y4 h b1 b2 a1 a2).push {cls:=.type "zip", data:=.fields #[.none,.bool false,.bool false,.ref (y2 h b1 b2 a1 a2).objs.size,.ref (y3 h b1 b2 a1 a2).objs.size]}
theorem uo(b1 b2:Bool)(a1 a2:Addr)(xs ys:Array Iw) :
 Meets (Builtin.«zip.__new__» ⟨[.type "zip", .ref a1,.ref a2],[]⟩) (fun _ R s=>Hm b1 s.heap a1 xs/\Hm b2 s.heap a2 ys/\R (.ok (.ret (.ref (y4 s.heap b1 b2 a1 a2).objs.size))) {s with heap:=y5 s.heap b1 b2 a1 a2}) :=
 .of_wp fun prog w A R s h=>by
  obtain⟨hp,g,d,tk,os⟩:=s
  obtain⟨q1,q2,h⟩:=h
  have hsub:=sub_zip
  have k1:Hm b1 (Px ⟨hp,g,d,tk,os⟩) a1 xs:=q1
  have k2:Hm b2 (Px ⟨hp.push {cls:=.type (Gp b1),data:=.fields #[.ref a1,.int 0 0]},g,d,tk,os⟩) a2 ys:=q2.push _
  wp_walk using rL k1,rL k2
  exact⟨_,rfl,h⟩
theorem sA(q1:Hm b1 s.heap a1 xs)(q2:Hm b2 s.heap a2 ys)
 (k:∀g,O5 g (s.heap.objs.size+4) (s.heap.objs.size+2) (s.heap.objs.size+3) .none->MZ g (s.heap.objs.size+2) (.ref s.heap.objs.size) (.ref (s.heap.objs.size+1))->MZ g (s.heap.objs.size+3) .none .none ->
  HX g s.heap.objs.size a1 xs 0->HX g (s.heap.objs.size+1) a2 ys 0->g.objs.size=s.heap.objs.size+5->(∀c o,s.heap.get? c=some o->g.get? c=some o)->Q (.ref (s.heap.objs.size+4)) {s with heap:=g}) :
 IT (Jb prog w) A (call (.type "zip") [.ref a1,.ref a2]) Q E s:=by
 refine Ph F.called_zip (by decide) (F.typeCall_zip_2 _ _) (F.newCall_zip_2 _ _) (fun u=>F.args_object_init_3 u _ _) F.entry_zip_new (uo b1 b2 a1 a2 xs ys) ⟨q1,q2,?_⟩
 have n1:(y1 s.heap b1 a1).objs.size=s.heap.objs.size+1:=J_ ..
 have n2:(y2 s.heap b1 b2 a1 a2).objs.size=s.heap.objs.size+2:=by rw[J_,n1]
 have n3:(y3 s.heap b1 b2 a1 a2).objs.size=s.heap.objs.size+3:=by rw[J_,n2]
 have n4:(y4 s.heap b1 b2 a1 a2).objs.size=s.heap.objs.size+4:=by rw[J_,n3]
 have n5:(y5 s.heap b1 b2 a1 a2).objs.size=s.heap.objs.size+5:=by rw[J_,n4]
 have pu:∀{h:Heap}{o u:Obj}{c:Addr},h.get? c=some u->(h.push o).get? c=some u:=fun e=>Iu _ e
 have kp:∀c o,s.heap.get? c=some o->(y5 s.heap b1 b2 a1 a2).get? c=some o:=fun c o e=>pu (pu (pu (pu (pu e))))
 have f5:(y5 s.heap b1 b2 a1 a2).get? (y4 s.heap b1 b2 a1 a2).objs.size=some _:=IL _ rfl
 have f4:(y5 s.heap b1 b2 a1 a2).get? (y3 s.heap b1 b2 a1 a2).objs.size=some _:=pu (IL _ rfl)
 have f3:(y5 s.heap b1 b2 a1 a2).get? (y2 s.heap b1 b2 a1 a2).objs.size=some _:=pu (pu (IL _ rfl))
 have f2:(y5 s.heap b1 b2 a1 a2).get? (y1 s.heap b1 a1).objs.size=some _:=pu (pu (pu (IL _ rfl)))
 have f1:(y5 s.heap b1 b2 a1 a2).get? s.heap.objs.size=some _:=pu (pu (pu (pu (IL _ rfl))))
 show _/\_
 rw[n2,n3,n4]at f5
 rw[n1,n2]at f3
 rw[n3]at f4
 rw[n1]at f2
 rw[n4]
 have mk:∀{b:Bool}{i a:Addr}{zs:Array Iw},(y5 s.heap b1 b2 a1 a2).get? i=some {cls:=.type (Gp b),data:=.fields #[.ref a,.int 0 0]}->Hm b s.heap a zs->HX (y5 s.heap b1 b2 a1 a2) i a zs 0:=fun{b i a zs} e q=>by
  cases b with
  | true=>obtain⟨o,h1,h2⟩:=(show s.heap.IsTuple a zs from q);exact .inr ⟨⟨_,e,rfl,rfl⟩,⟨o,kp _ _ h1,h2⟩⟩
  | false=>obtain⟨o,h1,h2⟩:=(show s.heap.IsList a zs from q);exact .inl ⟨⟨_,e,rfl,rfl⟩,⟨o,kp _ _ h1,h2⟩⟩
 exact⟨⟨_,f5,rfl⟩,k _ f5 f3 f4 (mk f1 q1) (mk f2 q2) n5 kp⟩
end
end L2.ZP
namespace L2
open PySem PySem.Spec PyProof.Rows L2.ZP
theorem Inv.turnedL{ch:List Addr}(I:Inv X pins σ H s)(k:∀b o,b∉ch->s.heap.get? b=some o->h'.get? b=some o)(hn:∀b∈ch,ji X pins H b) :
 Inv X pins σ H {s with heap:=h',toks:=t' }:=by
 have nit:∀b u,H b=some u->b∉ch:=fun b u e z=>by rw[(hn b z).1]at e;cases e
 refine I.step (g':=s.gens) (d':=s.drawn) (ch:=ch) (fun b hb=>?_) (fun b o _ _ hc e _=>k b o hc e) (fun b o _ _ hc e _=>⟨o.slots,k b o hc e⟩) (fun _ _ _ _ n=>n) (fun b o hc e=>⟨o,k b o hc e⟩) (fun _ _ e=>e) (fun _ _ _ e=>e) (fun b ps e=>⟨#[],by rw[e];simp⟩) (fun m hm=>?_) (fun b u e=>?_) I.bare
 · obtain⟨_,h2,_,h4,h5,h6⟩:=hn b hb
   exact⟨h4,h2,h5,h6⟩
 · obtain⟨o,es,ep,ho,r⟩:=hm
   exact⟨o,es,ep,k _ o (fun z=>(hn _ z).2.1 rfl) ho,r⟩
 · refine(I.hok b u e).stay (fun c v hc q=>k c v ?_ q) (fun _ q=>q) fun _ _ q=>q
   rcases hc with z|z
   · rw[z];exact nit b u e
   · exact nit c _ z
def Hl(b:Bool)(K:W.Frag)(H:Hp)(a:Addr)(xs:List V):Prop:=bif b then Hi K H a xs else Hj K H a xs
theorem Inv.sqB{b:Bool}{xs:List V}(I:Inv X pins σ H s)(h:Hl b X.K H a xs):∃its,bQ xs its/\Hm b s.heap a its.toArray:=by
 cases b with
 | true =>
   obtain⟨its,r,t,z⟩:=I.tuple h
   exact⟨its,r,t⟩
 | false =>
   obtain⟨its,r,p,z⟩:=I.list h
   exact⟨its,r,p.isList⟩
theorem Inv.sqB_inj{b:Bool}{xs ys:List V}(I:Inv X pins σ H s)(h:Hl b X.K H a xs)(h':Hl b X.K H a ys):xs=ys:=by
 cases b with
 | true=>exact I.tuple_inj h h'
 | false=>exact I.list_inj h h'
def HN(K:W.Frag)(b1 b2:Bool)(a1 a2:Addr):It :=
 ⟨fun i H=>∃xs ys x y,Hl b1 K H a1 xs/\Hl b2 K H a2 ys/\xs[i]?=some x/\ys[i]?=some y,
  fun i H v H'=>∃x y p,(∀xs,Hl b1 K H a1 xs->xs[i]?=some x)/\(∀ys,Hl b2 K H a2 ys->ys[i]?=some y)/\H p=none/\v = .ref p/\H'=upd H p (.tup [x,y]),
  fun i H=>∃xs ys,Hl b1 K H a1 xs/\Hl b2 K H a2 ys/\(xs.length<=i\/ys.length<=i)⟩
def HY(b:Bool)(h:Heap)(it a:Addr)(k:Nat):Prop:=bif b then h.IsTupleIter it a k else h.IsListIter it a k
theorem HY.it1{b:Bool}{k:Nat}{xs:Array Iw}(q:HY b h it a k)(r:Hm b h a xs):HX h it a xs k:=by
 cases b with
 | true=>exact .inr ⟨q,r⟩
 | false=>exact .inl ⟨q,r⟩
theorem HY.keep{b:Bool}{k:Nat}(q:HY b h it a k)(e:∀o,h.get? it=some o->h'.get? it=some o):HY b h' it a k:=by
 cases b with
 | true=>obtain⟨o,h1,r⟩:=(show h.IsTupleIter it a k from q);exact⟨o,e _ h1,r⟩
 | false=>obtain⟨o,h1,r⟩:=(show h.IsListIter it a k from q);exact⟨o,e _ h1,r⟩
theorem HY.obj{b:Bool}{k:Nat}(q:HY b h it a k):∃o,h.get? it=some o/\∀v,o.data ≠ .cell v:=by
 cases b with
 | true=>obtain⟨o,h1,_,d⟩:=(show h.IsTupleIter it a k from q);exact⟨o,h1,fun v z=>by rw[d]at z;cases z⟩
 | false=>obtain⟨o,h1,_,d⟩:=(show h.IsListIter it a k from q);exact⟨o,h1,fun v z=>by rw[d]at z;cases z⟩
theorem HX.ir{b:Bool}{k:Nat}{xs:Array Iw}{h0:Heap}(q:HX h it a xs k)(r:HY b h0 it a j)(s:Hm b h a xs):HY b h it a k:=by
 cases b with
 | true =>
   rcases q with⟨_,⟨o,e,c,_⟩⟩|⟨q,_⟩
   · obtain⟨o',e',c',_⟩:=(show h.IsTuple a xs from s)
     rw[e]at e';cases e';rw[c]at c';injection c' with z;exact absurd z (by decide)
   · exact q
 | false =>
   rcases q with⟨q,_⟩|⟨_,⟨o,e,c,_⟩⟩
   · exact q
   · obtain⟨o',e',c',_⟩:=(show h.IsList a xs from s)
     rw[e]at e';cases e';rw[c]at c';injection c' with z;exact absurd z (by decide)
def ZS(b1 b2:Bool)(z ti to i1 i2 a1 a2:Addr)(i:Nat)(h:Heap):Prop:=O5 h z ti to .none/\MZ h ti (.ref i1) (.ref i2)/\(∃p q,MZ h to p q)/\HY b1 h i1 a1 i/\HY b2 h i2 a2 i
theorem Hm.of{b:Bool}{xs:Array Iw}(q:Hm b h a xs)(e:∀o,h.get? a=some o->h'.get? a=some o):Hm b h' a xs:=by
 cases b with
 | true=>obtain⟨o,h1,r⟩:=(show h.IsTuple a xs from q);exact⟨o,e _ h1,r⟩
 | false=>obtain⟨o,h1,r⟩:=(show h.IsList a xs from q);exact⟨o,e _ h1,r⟩
theorem qI{w:JN}{K:W.Frag}{elts:List Expr}{kt:Nat}{pt:Pos}(b1 b2:Bool)(z ti to i1 i2 a1 a2:Addr)(D:ZipApart z ti to i1 i2 a1 a2) :
 Turn P w K (.Tuple elts kt pt) (HN K b1 b2 a1 a2) [z,ti,to,i1,i2] z (ZS b1 b2 z ti to i1 i2 a1 a2) where
 mem:=by simp
 obj:=fun i h ⟨h1,h2,⟨p,q,h3⟩,h4,h5⟩ b hb=>by
  simp at hb
  rcases hb with rfl|rfl|rfl|rfl|rfl
  · exact⟨_,h1,fun v c=>by cases c⟩
  · exact⟨_,h2,fun v c=>by cases c⟩
  · exact⟨_,h3,fun v c=>by cases c⟩
  · exact h4.obj
  · exact h5.obj
 keep:=fun i h h' ⟨h1,h2,⟨p,q,h3⟩,h4,h5⟩ k=>⟨k z (by simp) _ h1,k ti (by simp) _ h2,⟨p,q,k to (by simp) _ h3⟩,h4.keep fun o e=>k i1 (by simp) o e,h5.keep fun o e=>k i2 (by simp) o e⟩
 item:=by
  intro X hP hw hK hc i pins s σ H E I hf st hg
  subst hP hw hK
  obtain⟨h1,h2,⟨p,q,h3⟩,h4,h5⟩:=st
  obtain⟨xs,ys,x,y,q1,q2,ex,ey⟩:=hg
  obtain⟨its,r1,t1⟩:=I.sqB q1
  obtain⟨jts,r2,t2⟩:=I.sqB q2
  obtain⟨u,hu,ru⟩:=r1.get ex
  obtain⟨v,hv,rv⟩:=r2.get ey
  have ty:s.TypeIs (.ref z) "zip" := ⟨_,h1,rfl⟩
  unfold MP
  refine Io (LV (Jk (name:=Str.ofString "__next__") ty F.slot_zip_next (J7 F.slot_zip_next ty F.entry_zip_next
   (um D h1 h2 h3 (h4.it1 t1) (h5.it1 t2) (by simpa using hu) (by simpa using hv) fun g e1 e2 e3 e4 e5 e6 e7=>IA ?_) (F.args_zip_next_1 _))))
  have hz:s.heap.objs.size≠z:=LC (II h1)
  refine⟨.ref s.heap.objs.size,rfl,wpAny_letOwnedTupleGo_zip e1 fun g' f1 fb=>?_⟩
  have hp:H s.heap.objs.size=none:=I.hok.fresh (ID _)
  have I1:Inv X pins σ (upd H s.heap.objs.size (.tup [x,y])) {s with heap:=s.heap.push {cls:=.type "tuple", data:=.seq [u,v].toArray}} :=
   I.laid (t':=s.toks) (o:=.tup [x,y]) (fun b ob e=>Iu _ e) (ID _) ⟨(by show 2<=sizeLine;decide),[u,v],.cons ru (.cons rv .nil),qt.new _ _⟩
  have ne:∀b∈[z,ti,to,i1,i2],b≠s.heap.objs.size:=fun b hb e=>by
   simp at hb
   rcases hb with rfl|rfl|rfl|rfl|rfl
   · exact hz e.symm
   · exact absurd (II h2) (by rw[e];exact JL _)
   · exact absurd (II h3) (by rw[e];exact JL _)
   · obtain⟨o,ho,_⟩:=h4.obj
     exact absurd (II ho) (by rw[e];exact JL _)
   · obtain⟨o,ho,_⟩:=h5.obj
     exact absurd (II ho) (by rw[e];exact JL _)
  have kg:∀b o,b∉[z,ti,to,i1,i2]->(s.heap.push {cls:=.type "tuple", data:=.seq [u,v].toArray}).get? b=some o->g'.get? b=some o:=fun b o hb e=>by
   simp at hb
   obtain⟨n1,n2,n3,n4,n5⟩:=hb
   refine fb.extBut _ _ n1 ?_
   by_cases hbn:b=s.heap.objs.size
   · subst hbn
     rw[IL _ rfl]at e
     cases e
     exact e5
   · exact e7 b o n1 n3 n4 n5 (by rw[Heap.get?_push_ne _ _ _ hbn]at e;exact e)
  have fp1:∀b∈[z,ti,to,i1,i2],ji X pins (upd H s.heap.objs.size (.tup [x,y])) b:=fun b hb=>by
   obtain⟨f0,fr⟩:=hf b hb
   exact⟨by rw[ah (ne b hb)];exact f0,fr⟩
  have I2:Inv X pins σ (upd H s.heap.objs.size (.tup [x,y])) {s with heap:=g' }:=I1.turnedL (t':=s.toks) kg fp1
  have k8:∀b o,b≠z->g.get? b=some o->g'.get? b=some o:=fun b o n e=>fb.extBut _ _ n e
  have t1':Hm b1 g a1 its.toArray:=Hm.of t1 fun o e=>e7 _ o D.l1z D.l1TO D.l1i1 D.l1i2 e
  have t2':Hm b2 g a2 jts.toArray:=Hm.of t2 fun o e=>e7 _ o D.l2z D.l2TO D.l2i1 D.l2i2 e
  refine⟨.ref s.heap.objs.size,_,I2,rfl,⟨x,y,_,fun xs' q'=>by rw[I.sqB_inj q' q1];exact ex,fun ys' q'=>by rw[I.sqB_inj q' q2];exact ey,hp,rfl,rfl⟩,⟨f1,k8 _ _ D.TIz (e7 _ _ D.TIz D.TITO D.TIi1 D.TIi2 h2),⟨_,_,k8 _ _ D.TOz e2⟩,(HX.ir e3 h4 t1').keep fun o e=>k8 _ o D.i1z e,(HX.ir e4 h5 t2').keep fun o e=>k8 _ o D.i2z e⟩,fun b hb=>(fp1 b hb).1⟩
 done:=by
  intro X hP hw hK hc i pins s σ H E I hf st hg
  subst hP hw hK
  obtain⟨h1,h2,⟨p,q,h3⟩,h4,h5⟩:=st
  obtain⟨xs,ys,q1,q2,ex⟩:=hg
  obtain⟨its,r1,t1⟩:=I.sqB q1
  obtain⟨jts,r2,t2⟩:=I.sqB q2
  have l1:=r1.length
  have l2:=r2.length
  have ty:s.TypeIs (.ref z) "zip" := ⟨_,h1,rfl⟩
  unfold MP
  refine Io (LV (Jk (name:=Str.ofString "__next__") ty F.slot_zip_next (J7 F.slot_zip_next ty F.entry_zip_next
   (xA (I.ok.hd hc) D h1 h2 h3 (h4.it1 t1) (h5.it1 t2) (by simp;omega) fun g e kg ⟨o,ho,hoc⟩=>?_) (F.args_zip_next_1 _))))
  refine Io (ME (T := "StopIteration") (b:=true) ⟨o,ho,hoc⟩ Ox (IA ⟨rfl,?_⟩))
  exact I.turnedL (t':=s.toks) (fun b o hb e=>by simp at hb;exact kg b o hb.1 hb.2.2.1 hb.2.2.2.1 hb.2.2.2.2 e) hf
 self:=fun _ _ _ _ _ st h=>wpAny_pyIter_zip st.1 h
open PySem PySem.Spec PyProof.Rows L2.ZP
section
variable{X:Cx}{e1 e2:Expr}{ta:TA}{elts:List Expr}{kt:Nat}{pt p pos:Pos}
def D9(K:W.Frag)(b1 b2:Bool)(t:TA):TI:=fun σ H R=>t σ H fun vs H1=>∃a1 a2 xs ys,vs=[.ref a1,.ref a2]/\Hl b1 K H1 a1 xs/\Hl b2 K H1 a2 ys/\R (HN K b1 b2 a1 a2) H1
theorem yR(b1 b2:Bool)(hg:Gl X "zip")(hm:X.mg "zip" = none)(ha:PA X [e1,e2] ta)(hs:IC [e1,e2] X.env=(false,eval e1 X.env)::IC [e2] X.env:=by rfl)(hpl:(Kh pos (IC [e2] X.env)).any (·.1)=false:=by rfl) :
 PI X (.Tuple elts kt pt) (.Call (.Name "zip" p) [e1,e2] [] pos) (D9 X.K b1 b2 ta):=by
 intro pins s σ H R I h
 refine Call_ (dn I hg hm (by rfl) (JE (E7 (ha pos pins s σ H _ I h) fun us s1 ⟨vs,H1,I1,r1,q1⟩=>?_) hs hpl) (by decide) (by decide))
 obtain⟨a1,a2,xs,ys,ev,q1,q2,q⟩:=q1
 subst ev
 cases r1 with
 | cons r rr =>
   cases rr with
   | cons r' rr =>
     cases rr
     cases r
     cases r'
     obtain⟨its,v1,t1⟩:=I1.sqB q1
     obtain⟨jts,v2,t2⟩:=I1.sqB q2
     refine sA t1 t2 fun g f1 f2 f3 f4 f5 f6 kp=>wpAny_pyIter_zip f1 ?_
     have lt1:a1<s1.heap.objs.size/\a2<s1.heap.objs.size:=by
      constructor
      · cases b1 with
        | true=>obtain⟨o,ho,_⟩:=(show s1.heap.IsTuple a1 _ from t1);exact II ho
        | false=>obtain⟨o,ho,_⟩:=(show s1.heap.IsList a1 _ from t1);exact II ho
      · cases b2 with
        | true=>obtain⟨o,ho,_⟩:=(show s1.heap.IsTuple a2 _ from t2);exact II ho
        | false=>obtain⟨o,ho,_⟩:=(show s1.heap.IsList a2 _ from t2);exact II ho
     obtain⟨l1,l2⟩:=lt1
     have ap:∀{n c:Nat},c<n->∀k:Nat,c≠n+k:=fun h k e=>by omega
     have D:ZipApart (s1.heap.objs.size+4) (s1.heap.objs.size+2) (s1.heap.objs.size+3) s1.heap.objs.size (s1.heap.objs.size+1) a1 a2:=by
      generalize hN:s1.heap.objs.size=N at l1 l2
      exact⟨by simp,by simp,by simp,by simp,by simp,by simp,by simp,by simp,by simp,by simp,ap l1 4,ap l1 3,ap l1 0,ap l1 1,ap l2 4,ap l2 3,ap l2 0,ap l2 1⟩
     have kg:∀b o,s1.heap.get? b=some o->g.get? b=some o:=kp
     have I2:Inv X pins σ H1 {s1 with heap:=g}:=I1.kept (t':=s1.toks) kg
     have ir:∀{b:Bool}{it a:Addr}{zs:Array Iw},HX g it a zs 0->Hm b s1.heap a zs->HY b g it a 0:=fun{b it a zs} q r=>by
      have r':=Hm.of r fun o e=>kg _ o e
      cases b with
      | true =>
        rcases q with⟨_,⟨o,e,c,_⟩⟩|⟨q,_⟩
        · obtain⟨o',e',c',_⟩:=(show g.IsTuple a zs from r')
          rw[e]at e';cases e';rw[c]at c';injection c' with z;exact absurd z (by decide)
        · exact q
      | false =>
        rcases q with⟨q,_⟩|⟨_,⟨o,e,c,_⟩⟩
        · exact q
        · obtain⟨o',e',c',_⟩:=(show g.IsList a zs from r')
          rw[e]at e';cases e';rw[c]at c';injection c' with z;exact absurd z (by decide)
     refine⟨_,[s1.heap.objs.size+4,s1.heap.objs.size+2,s1.heap.objs.size+3,s1.heap.objs.size,s1.heap.objs.size+1],_,_,H1,rfl,I2,qI b1 b2 _ _ _ _ _ a1 a2 D,⟨f1,f2,⟨_,_,f3⟩,ir f4 t1,ir f5 t2⟩,fun b hb=>?_,q⟩
     have hb':s1.heap.objs.size<=b:=by
      simp at hb
      rcases hb with rfl|rfl|rfl|rfl|rfl
      · exact L1 _ 4
      · exact L1 _ 2
      · exact L1 _ 3
      · exact ID _
      · exact L1 _ 1
     exact I1.fpOk hb' (I1.hok.fresh hb')
end
end L2
namespace L2.VL
section
variable{X:Cx}{rl:RlT}{a b:Expr}{elts:List Expr}{kt:Nat}{pt p pos:Pos}{fs:G_}
def ie(xs ys:List Im):List Im:=List.zipWith (fun x y=>.tuple [x,y]) xs ys
def dR:Im->Bool
 | .tuple _=>true
 | _=>false
theorem ol{K:W.Frag}(r:Rep K F v d)(e:eE d=some xs):∃a vs,v = .ref a/\Reps K F vs xs/\∀H,bm F H->Hl (dR d) K H a vs:=by
 cases r with
 | tup sq rs=>cases e;exact⟨_,_,rfl,rs,fun H s=>dg s sq⟩
 | lst h rs=>cases e;exact⟨_,_,rfl,rs,fun H s=>.inl (.inl (s _ _ h))⟩
 | non=>cases e
 | bl b=>cases e
 | int i=>cases e
 | str x=>cases e
theorem ke{ys:List Im}{i:Nat}(h:(ie xs ys)[i]?=some d):∃x y,xs[i]?=some x/\ys[i]?=some y/\d = .tuple [x,y]:=by
 unfold ie at h
 rw[List.getElem?_zipWith]at h
 cases ex:xs[i]? with
 | none=>rw[ex]at h;cases h
 | some x =>
   cases ey:ys[i]? with
   | none=>rw[ex,ey]at h;cases h
   | some y=>rw[ex,ey]at h;cases h;exact⟨x,y,rfl,rfl,rfl⟩
theorem sM(b1 b2:Bool)(hm:X.mg "zip" = none)(ha:Hs X rl [a,b] fs)(hg:Gl X "zip" := by rfl)(hs:IC [a,b] X.env=(false,eval a X.env)::IC [b] X.env:=by rfl)(hpl:(Kh pos (IC [b] X.env)).any (·.1)=false:=by rfl) :
 HA X rl (.Tuple elts kt pt) (.Call (.Name "zip" p) [a,b] [] pos) (fun ρ Q=>fs ρ fun ws=>∃dx dy xs ys,ws=[.d dx,.d dy]/\eE dx=some xs/\eE dy=some ys/\dR dx=b1/\dR dy=b2/\Q (ie xs ys)):=by
 obtain⟨t,p1,k⟩:=ha
 refine⟨_,yR b1 b2 hg hm p1 hs hpl,fun R Qd Q q h=>k R _ _ q fun vs ws F1 H1 g1 r1 ⟨dx,dy,xs,ys,ew,e1,e2,kb1,kb2,q1⟩=>?_⟩
 subst ew kb1 kb2
 obtain⟨v,u,rfl,rv,ru⟩:=yE r1
 obtain⟨a1,vs,rfl,rs,sq1⟩:=ol rv e1
 obtain⟨a2,us,rfl,rt,sq2⟩:=ol ru e2
 refine⟨a1,a2,vs,us,rfl,sq1 _ g1.sub,sq2 _ g1.sub,h _ (ie xs ys) F1 H1 g1 ⟨fun i H x e s=>?_,fun i H hl s=>?_,fun i H v H' x F2 e s s2 ra y=>?_⟩ q1⟩
 · obtain⟨x1,y1,ex,ey,_⟩:=ke e
   obtain⟨v1,ev1,_⟩:=rs.get ex
   obtain⟨u1,eu1,_⟩:=rt.get ey
   exact⟨vs,us,v1,u1,sq1 _ s,sq2 _ s,ev1,eu1⟩
 · refine⟨vs,us,sq1 _ s,sq2 _ s,?_⟩
   unfold ie at hl
   rw[List.length_zipWith]at hl
   rw[rs.length,rt.length]
   omega
 · obtain⟨x1,y1,ex,ey,ed⟩:=ke e
   obtain⟨vx,vy,pp,hx,hy,hp,ev,eH⟩:=y
   obtain⟨v1,ev1,rv1⟩:=rs.get ex
   obtain⟨u1,eu1,ru1⟩:=rt.get ey
   have h1:=hx vs (sq1 _ (s.trans s2))
   have h2:=hy us (sq2 _ (s.trans s2))
   rw[ev1]at h1
   rw[eu1]at h2
   cases h1
   cases h2
   subst ev eH ed
   have g:=Grow.data (a:=pp) (o:=.tup [vx,vy]) s2 ra hp
   exact⟨_,g,.tup (.inl (.inl ak)) (.cons ((rv1.mono s).mono g.fs) (.cons ((ru1.mono s).mono g.fs) .nil))⟩
def Gv(b1 b2:Bool)(fs:G_):En->(List Im->Prop)->Prop:=fun ρ Q=>fs ρ fun ws=>∃dx dy xs ys,ws=[.d dx,.d dy]/\eE dx=some xs/\eE dy=some ys/\dR dx=b1/\dR dy=b2/\Q (ie xs ys)
theorem kj(hm:X.mg "zip" = none)(ha:Hs X rl [a,b] fs)(hg:Gl X "zip" := by rfl)(hs:IC [a,b] X.env=(false,eval a X.env)::IC [b] X.env:=by rfl)(hpl:(Kh pos (IC [b] X.env)).any (·.1)=false:=by rfl) :
 HA X rl (.Tuple elts kt pt) (.Call (.Name "zip" p) [a,b] [] pos) (Gv true true fs):=sM true true hm ha hg hs hpl
theorem qC(hm:X.mg "zip" = none)(ha:Hs X rl [a,b] fs)(hg:Gl X "zip" := by rfl)(hs:IC [a,b] X.env=(false,eval a X.env)::IC [b] X.env:=by rfl)(hpl:(Kh pos (IC [b] X.env)).any (·.1)=false:=by rfl) :
 HA X rl (.Tuple elts kt pt) (.Call (.Name "zip" p) [a,b] [] pos) (Gv true false fs):=sM true false hm ha hg hs hpl
end
theorem nr{α:Sort u}{a b:α}(h:a=b):a=b:=h
abbrev Mo(α:Type):=(α->Prop)->Prop
def ret{α:Type}(a:α):Mo α:=fun Q=>Q a
def GW{α β:Type}(m:Mo α)(f:α->Mo β):Mo β:=fun Q=>m fun a=>f a Q
def GC{α:Type}(P:Prop)(m:Mo α):Mo α:=fun Q=>P/\m Q
def stk{α:Type}:Mo α:=fun _=>False
def anyM{α:Type}(P:α->Prop):Mo α:=fun Q=>∀a,P a->Q a
def aL{α β:Type}(o:Option α)(f:α->Mo β):Mo β:=match o with
 | some a=>f a
 | none=>stk
section
variable{α β γ:Type}
theorem bnd_ret(a:α)(f:α->Mo β):GW (ret a) f=f a:=nr rfl
theorem bnd_bnd(m:Mo α)(f:α->Mo β)(g:β->Mo γ):GW (GW m f) g=GW m fun a=>GW (f a) g:=nr rfl
theorem bnd_grd(P:Prop)(m:Mo α)(f:α->Mo β):GW (GC P m) f=GC P (GW m f):=nr rfl
theorem bnd_stk(f:α->Mo β):GW stk f=stk:=nr rfl
theorem bnd_ite(c:Prop)[Decidable c](a b:Mo α)(f:α->Mo β):GW (if c then a else b) f=if c then GW a f else GW b f:=by split<;>rfl
theorem bnd_opt(o:Option α)(k:α->Mo β)(f:β->Mo γ):GW (aL o k) f=aL o fun a=>GW (k a) f:=by cases o<;>rfl
theorem opt_some(a:α)(k:α->Mo β):aL (some a) k=k a:=nr rfl
theorem opt_none(k:α->Mo β):aL none k=stk:=nr rfl
theorem ag{P:Prop}(h:P)(m:Mo α):GC P m=m:=by funext Q;exact propext ⟨fun z=>z.2,fun z=>⟨h,z⟩⟩
theorem grd_T(m:Mo α):GC True m=m:=ag trivial m
theorem gB(c:Prop)[Decidable c](a b:Mo α)(Q:α->Prop):(if c then a else b) Q=if c then a Q else b Q:=by split<;>rfl
theorem af{m n:Mo α}(h:∀Q,m Q↔n Q):m=n:=funext fun Q=>propext (h Q)
end
def asI:W->Option Int
 | .d (.int i)=>some i
 | _=>none
def asB:W->Option Bool
 | .d (.bool b)=>some b
 | _=>none
def asS:W->Option Str
 | .d (.str b)=>some b
 | _=>none
def asD:W->Option Im
 | .d x=>some x
 | _=>none
def lstD:Im->Option (List Im)
 | .list xs=>some xs
 | _=>none
def tupD:Im->Option (List Im)
 | .tuple xs=>some xs
 | _=>none
def G3(w:W):Option (List Im):=w.dat.bind lstD
def GZ(w:W):Option (List Im):=(asD w).bind tupD
def G1(w:W):Option (List Im):=w.dat.bind eE
def E6:W->Option Int
 | .d (.int i)=>some i
 | .d (.bool b)=>some (if b then 1 else 0)
 | _=>none
def D7:W->Option String
 | .vv (.ty T)=>some T
 | _=>none
def B9:List Im->Option (List Bool)
 | []=>some []
 | .bool b::r=>(B9 r).map (b :: ·)
 | _=>none
def iW:List Im->Option (List Int)
 | []=>some []
 | .int b::r=>(iW r).map (b :: ·)
 | _=>none
theorem blsD_map:∀bs:List Bool,B9 (bs.map .bool)=some bs
 | []=>rfl
 | b::bs=>by show(B9 (bs.map .bool)).map (b :: ·)=_;rw[blsD_map bs];rfl
theorem cB:∀bs:List Int,iW (bs.map .int)=some bs
 | []=>rfl
 | b::bs=>by show(iW (bs.map .int)).map (b :: ·)=_;rw[cB bs];rfl
theorem lp:∀{xs:List Im}{bs:List Int},iW xs=some bs->xs=bs.map .int
 | [],bs,h=>by cases h;rfl
 | .int b::r,bs,h=>by
   have h:(iW r).map (b :: ·)=some bs:=h
   cases q:iW r with
   | none=>rw[q]at h;cases h
   | some cs=>rw[q]at h;cases h;rw[lp q];rfl
 | .none::_,_,h=>by cases h
 | .bool _::_,_,h=>by cases h
 | .str _::_,_,h=>by cases h
 | .list _::_,_,h=>by cases h
 | .tuple _::_,_,h=>by cases h
 | .dict _::_,_,h=>by cases h
theorem asI_d(i:Int):asI (.d (.int i))=some i:=rfl
theorem asB_d(i:Bool):asB (.d (.bool i))=some i:=rfl
theorem asS_d(i:Str):asS (.d (.str i))=some i:=rfl
theorem asD_d(i:Im):asD (.d i)=some i:=rfl
theorem asT_d(x:Im):GZ (.d x)=tupD x:=rfl
theorem asL_d(x:Im):G3 (.d x)=lstD x:=rfl
theorem asL_ml(x:List Im):G3 (.ml x)=some x:=rfl
theorem asL_pk(x:List Im):G3 (.pk x)=some x:=rfl
theorem asQ_d(x:Im):G1 (.d x)=eE x:=rfl
theorem asQ_ml(x:List Im):G1 (.ml x)=some x:=rfl
theorem asQ_pk(x:List Im):G1 (.pk x)=some x:=rfl
theorem lstD_l(x:List Im):lstD (.list x)=some x:=rfl
theorem tupD_t(x:List Im):tupD (.tuple x)=some x:=rfl
theorem toI_i(i:Int):E6 (.d (.int i))=some i:=rfl
theorem toI_b(i:Bool):E6 (.d (.bool i))=some (if i then 1 else 0):=rfl
theorem isiT_t(T:String):D7 (.vv (.ty T))=some T:=rfl
theorem cq{w:W}{i:Int}:asI w=some i↔w = .d (.int i):=by
 constructor
 · intro h;unfold asI at h;split at h<;>simp_all
 · rintro rfl;rfl
theorem ud{w:W}{i:Bool}:asB w=some i↔w = .d (.bool i):=by
 constructor
 · intro h;unfold asB at h;split at h<;>simp_all
 · rintro rfl;rfl
theorem Ai{w:W}{i:Str}:asS w=some i↔w = .d (.str i):=by
 constructor
 · intro h;unfold asS at h;split at h<;>simp_all
 · rintro rfl;rfl
theorem fN{w:W}{i:Im}:asD w=some i↔w = .d i:=by
 constructor
 · intro h;unfold asD at h;split at h<;>simp_all
 · rintro rfl;rfl
theorem Bw{w:Im}{i:List Im}:lstD w=some i↔w = .list i:=by
 constructor
 · intro h;unfold lstD at h;split at h<;>simp_all
 · rintro rfl;rfl
theorem uU{w:Im}{i:List Im}:tupD w=some i↔w = .tuple i:=by
 constructor
 · intro h;unfold tupD at h;split at h<;>simp_all
 · rintro rfl;rfl
theorem gK{w:W}{i:List Im}:GZ w=some i↔w = .d (.tuple i):=by
 constructor
 · intro h
   unfold GZ at h
   cases q:asD w with
   | none=>rw[q]at h;cases h
   | some x=>rw[q]at h;rw[fN.mp q,uU.mp h]
 · rintro rfl;rfl
theorem qj{w:W}{i:List Im}:G3 w=some i↔w.dat=some (.list i):=by
 unfold G3
 constructor
 · intro h
   cases q:w.dat with
   | none=>rw[q]at h;cases h
   | some x=>rw[q]at h;rw[Bw.mp h]
 · intro h;rw[h];rfl
theorem ai{o:Option α}{k:α->Mo β}{Q:β->Prop}:aL o k Q↔∃a,o=some a/\k a Q:=by
 cases o with
 | none=>exact⟨fun z=>z.elim,fun⟨_,z,_⟩=>by cases z⟩
 | some a=>exact⟨fun z=>⟨a,rfl,z⟩,fun⟨_,e,z⟩=>by cases e;exact z⟩
section
variable{fa fb fc:TV}{fs:G_}{f g:TB}{ρ:En}{t u:Ha}
theorem m_vC(x:Im):vC x ρ=ret (.d x):=nr rfl
theorem m_vVar(i:Nat):xo i ρ=aL ((ρ[i]?).join) fun w=>ret w.peek:=by
 refine af fun Q=>?_
 rw[ai]
 constructor
 · rintro⟨w,e,q⟩;exact⟨w,by rw[e];rfl,q⟩
 · rintro⟨w,e,q⟩
   refine⟨w,?_,q⟩
   cases h:ρ[i]? with
   | none=>rw[h]at e;cases e
   | some o=>rw[h]at e;cases o with
     | none=>cases e
     | some x=>cases e;rfl
theorem m_vNil:sU ρ=ret []:=nr rfl
theorem m_vCons{f:TV}:iu f fs ρ=GW (f ρ) fun w=>GW (fs ρ) fun ws=>ret (w.fz::ws):=nr rfl
theorem m_vOp(h:W->W->(W->Prop)->Prop):EY h fa fb ρ=GW (fa ρ) fun x=>GW (fb ρ) fun y=>h x y:=nr rfl
theorem m_gI(C:Int->Int->Prop)(h:Int->Int->Im)(x y:W):gI C h x y=aL (asI x) fun i=>aL (asI y) fun j=>GC (C i j) (ret (.d (h i j))):=by
 refine af fun Q=>?_
 simp only[ai,cq,gI,GC,ret]
 exact⟨fun⟨i,j,a,b,c,q⟩=>⟨i,a,j,b,c,q⟩,fun⟨i,a,j,b,c,q⟩=>⟨i,j,a,b,c,q⟩⟩
theorem m_gI0(h:Int->Int->Im)(x y:W):GJ h x y=aL (asI x) fun i=>aL (asI y) fun j=>ret (.d (h i j)):=by
 refine af fun Q=>?_
 simp only[ai,cq,GJ,ret]
 exact⟨fun⟨i,j,a,b,q⟩=>⟨i,a,j,b,q⟩,fun⟨i,a,j,b,q⟩=>⟨i,j,a,b,q⟩⟩
theorem m_vNeg:AW fa ρ=GW (fa ρ) fun x=>aL (asI x) fun i=>ret (.d (.int (-i))):=by
 refine af fun Q=>?_
 simp only[AW,GW,ai,cq,ret]
theorem m_vTest{f:TV}:nl f ρ=GW (f ρ) fun w=>aL (asB w) ret:=by
 refine af fun Q=>?_
 simp only[nl,GW,ai,ud,ret]
theorem m_gEqD(neg:Bool)(x y:W):BU neg x y=aL x.dat fun dx=>aL y.dat fun dy=>GC (KJ dx=true) (GC (KJ dy=true) (ret (.d (.bool (if neg then !Kk dx dy else Kk dx dy))))):=by
 refine af fun Q=>?_
 simp only[ai,BU,GC,ret]
 exact⟨fun⟨i,j,a,b,c,d,q⟩=>⟨i,a,j,b,c,d,q⟩,fun⟨i,a,j,b,c,d,q⟩=>⟨i,j,a,b,c,d,q⟩⟩
theorem m_vAnd:AZ f g ρ=GW (f ρ) fun b=>if b=true then g ρ else ret false:=by
 refine af fun Q=>?_
 simp only[AZ,GW,gB,ret]
theorem m_vOr:EX f g ρ=GW (f ρ) fun b=>if b=true then ret true else g ρ:=by
 refine af fun Q=>?_
 simp only[EX,GW,gB,ret]
theorem m_vOrV:AV fa fb ρ=GW (fa ρ) fun w=>aL (asB w) fun b=>if b=true then ret (.d (.bool true))else fb ρ:=by
 refine af fun Q=>?_
 simp only[AV,GW,ai,ud,gB,ret]
theorem m_vIf{t:TB}:EZ t fa fb ρ=GW (t ρ) fun c=>if c=true then fa ρ else fb ρ:=by
 refine af fun Q=>?_
 simp only[EZ,GW,gB]
theorem m_vTup:xZ fs ρ=GW (fs ρ) fun ws=>aL (jV ws) fun ds=>GC (ds.length<=sizeLine) (ret (.d (.tuple ds))):=by
 refine af fun Q=>?_
 simp only[xZ,GW,ai,GC,ret]
theorem m_vLst:Ar fs ρ=GW (fs ρ) fun ws=>aL (jV ws) fun ds=>GC (ds.length<=sizeLine) (ret (.ml ds)):=by
 refine af fun Q=>?_
 simp only[Ar,GW,ai,GC,ret]
theorem m_gIx(x y:W):GG x y=aL x.dat fun dx=>aL (asI y) fun i=>aL (itemAt dx i) fun z=>ret (.d z):=by
 refine af fun Q=>?_
 simp only[GG,ai,cq,ret]
 exact⟨fun⟨i,j,z,a,b,c,q⟩=>⟨i,a,j,b,z,c,q⟩,fun⟨i,a,j,b,z,c,q⟩=>⟨i,j,z,a,b,c,q⟩⟩
theorem m_vCall(h:List W->(W->Prop)->Prop):cA h fs ρ=GW (fs ρ) h:=nr rfl
theorem m_gAbs(w:W):AF [w]=aL (asI w) fun i=>ret (.d (.int (if i<0 then -i else i))):=by
 refine af fun Q=>?_
 simp only[AF,ai,cq,ret,J9,and_true]
theorem m_gLen(w:W):xw [w]=aL w.dat fun d=>aL (wn d) fun n=>ret (.d (.int n)):=by
 refine af fun Q=>?_
 simp only[xw,ai,ret,J9,and_true]
 exact⟨fun⟨w',d,n,e,a,b,q⟩=>by subst e;exact⟨d,a,n,b,q⟩,fun⟨d,a,n,b,q⟩=>⟨w,d,n,rfl,a,b,q⟩⟩
theorem m_gTupO(w:W):pC [w]=aL (G1 w) fun xs=>ret (.d (.tuple xs)):=by
 refine af fun Q=>?_
 simp only[pC,ai,ret,J9,and_true]
 constructor
 · rintro⟨w',d,xs,e,a,b,q⟩;subst e;exact⟨xs,by unfold G1;rw[a];exact b,q⟩
 · rintro⟨xs,e,q⟩
   unfold G1 at e
   cases h:w.dat with
   | none=>rw[h]at e;cases e
   | some d=>rw[h]at e;exact⟨w,d,xs,rfl,h,e,q⟩
theorem m_gLstO(w:W):rT [w]=aL (G1 w) fun xs=>ret (.ml xs):=by
 refine af fun Q=>?_
 simp only[rT,ai,ret,J9,and_true]
 constructor
 · rintro⟨w',d,xs,e,a,b,q⟩;subst e;exact⟨xs,by unfold G1;rw[a];exact b,q⟩
 · rintro⟨xs,e,q⟩
   unfold G1 at e
   cases h:w.dat with
   | none=>rw[h]at e;cases e
   | some d=>rw[h]at e;exact⟨w,d,xs,rfl,h,e,q⟩
theorem m_gIsN(neg:Bool)(x:W):AD neg x (.d .none)=aL x.dat fun d=>ret (.d (.bool (if neg then !gC d else gC d))):=by
 refine af fun Q=>?_
 simp only[ai,AD,ret,true_and]
theorem m_gI2(h:Int->Int->Im)(x y:W):GH h [x,y]=aL (asI x) fun i=>aL (asI y) fun j=>ret (.d (h i j)):=by
 refine af fun Q=>?_
 simp only[ai,cq,GH,ret,J9,and_true]
 exact⟨fun⟨i,j,⟨a,b⟩,q⟩=>⟨i,a,j,b,q⟩,fun⟨i,a,j,b,q⟩=>⟨i,j,⟨a,b⟩,q⟩⟩
theorem m_gDivmod(x y:W):hZ [x,y]=aL (asI x) fun i=>aL (asI y) fun j=>GC (0<j) (GC (j<1073741824) (ret (.d (.tuple [.int (i / j),.int (i%j)])))):=by
 refine af fun Q=>?_
 simp only[ai,cq,hZ,GC,ret,J9,and_true]
 exact⟨fun⟨i,j,⟨a,b⟩,c,d,q⟩=>⟨i,a,j,b,c,d,q⟩,fun⟨i,a,j,b,c,d,q⟩=>⟨i,j,⟨a,b⟩,c,d,q⟩⟩
theorem yd{w:W}{i:Int}:E6 w=some i↔(w = .d (.int i)\/∃b:Bool,w = .d (.bool b)/\i=if b then 1 else 0):=by
 constructor
 · intro h
   unfold E6 at h
   split at h
   · cases h;exact .inl rfl
   · cases h;exact .inr ⟨_,rfl,rfl⟩
   · cases h
 · rintro(rfl|⟨b,rfl,rfl⟩)<;>rfl
theorem m_gInt1(w:W):pD [w]=aL (E6 w) fun i=>ret (.d (.int i)):=by
 refine af fun Q=>?_
 simp only[ai,yd,pD,ret,J9,and_true]
 constructor
 · rintro(⟨i,rfl,q⟩|⟨k,rfl,q⟩)
   · exact⟨i,.inl rfl,q⟩
   · exact⟨_,.inr ⟨k,rfl,rfl⟩,q⟩
 · rintro⟨i,rfl|⟨b,rfl,rfl⟩,q⟩
   · exact .inl ⟨i,rfl,q⟩
   · exact .inr ⟨b,rfl,q⟩
theorem m_oNo:FX ρ=ret none:=nr rfl
theorem m_oIt:FY fa ρ=GW (fa ρ) fun w=>aL (asI w) fun i=>ret (some i):=by
 refine af fun Q=>?_
 simp only[FY,GW,ai,cq,ret]
theorem m_vSlL{fl fh:Hb}:C9 fa fl fh ρ=GW (fa ρ) fun w=>GW (fl ρ) fun l=>GW (fh ρ) fun h=>aL (G3 w) fun xs=>ret (.ml (cutD xs l h)):=by
 refine af fun Q=>?_
 simp only[C9,GW,ai,qj,ret]
theorem m_vSlA{fl fh:Hb}:AT fa fl fh ρ=GW (fa ρ) fun w=>GW (fl ρ) fun l=>GW (fh ρ) fun h=>aL (GZ w) fun xs=>ret (.d (.tuple (cutD xs l h))):=by
 refine af fun Q=>?_
 simp only[AT,GW,ai,gK,ret]
theorem m_gCatD(x y:W):rW x y=aL (G3 x) fun xs=>aL (G3 y) fun ys=>GC (xs.length+ys.length<=sizeLine) (ret (.ml (xs++ys))):=by
 refine af fun Q=>?_
 simp only[rW,ai,qj,GC,ret]
 exact⟨fun⟨i,j,a,b,c,q⟩=>⟨i,a,j,b,c,q⟩,fun⟨i,a,j,b,c,q⟩=>⟨i,j,a,b,c,q⟩⟩
theorem m_gCatA(x y:W):pE x y=aL (GZ x) fun xs=>aL (GZ y) fun ys=>GC (xs.length+ys.length<=sizeLine) (ret (.d (.tuple (xs++ys)))):=by
 refine af fun Q=>?_
 simp only[pE,ai,gK,GC,ret]
 exact⟨fun⟨i,j,a,b,c,q⟩=>⟨i,a,j,b,c,q⟩,fun⟨i,a,j,b,c,q⟩=>⟨i,j,a,b,c,q⟩⟩
theorem m_vLR1:Da fs ρ=GW (fs ρ) fun ws=>aL (ws.head?.bind asI) fun j=>GC (ws.length=1) (GC (-(2^62)<=j/\j<2^62) (GC (j.toNat<=2^24) (ret (.ml (aN 0 j.toNat))))):=by
 show(GW (fs ρ) fun ws=>fun(Q:W->Prop)=>∃j:Int,ws=[.d (.int j)]/\(-(2^62)<=j/\j<2^62)/\j.toNat<=2^24/\Q (.ml (aN 0 j.toNat)))=_
 congr 1;funext ws
 refine af fun Q=>?_
 simp only[ai,GC,ret]
 constructor
 · rintro⟨j,rfl,a,b,q⟩;exact⟨j,rfl,rfl,a,b,q⟩
 · rintro⟨j,e,l,a,b,q⟩
   match ws,l with
   | [w],_=>rw[show w = .d (.int j)from cq.mp e];exact⟨j,rfl,a,b,q⟩
def two(ws:List W):Option (Int×Int):=match ws with
 | [a,b]=>(asI a).bind fun i=>(asI b).map fun j=>(i,j)
 | _=>none
theorem two_d(a b:Int):two [.d (.int a),.d (.int b)]=some (a,b):=rfl
theorem yb{ws:List W}{p:Int×Int}:two ws=some p↔ws=[.d (.int p.1),.d (.int p.2)]:=by
 constructor
 · intro h
   match ws with
   | []=>cases h
   | [_]=>cases h
   | _::_::_::_=>cases h
   | [a,b] =>
     have h:((asI a).bind fun i=>(asI b).map fun j=>(i,j))=some p:=h
     cases ha:asI a with
     | none=>rw[ha]at h;cases h
     | some i =>
       cases hb:asI b with
       | none=>rw[ha,hb]at h;cases h
       | some j=>rw[ha,hb]at h;cases h;rw[cq.mp ha,cq.mp hb]
 · rintro rfl;rfl
theorem m_iL:iL fa ρ=GW (fa ρ) fun w=>aL ((asD w.fz).bind lstD) ret:=by
 show(GW (fa ρ) fun w=>fun(Q:List Im->Prop)=>∃xs,w.fz = .d (.list xs)/\Q xs)=_
 congr 1;funext w
 refine af fun Q=>?_
 simp only[ai,ret]
 constructor
 · rintro⟨xs,e,q⟩;exact⟨xs,by rw[e];rfl,q⟩
 · rintro⟨xs,e,q⟩
   cases h:asD w.fz with
   | none=>rw[h]at e;cases e
   | some x=>rw[h]at e;rw[fN.mp h,Bw.mp e];exact⟨xs,rfl,q⟩
theorem m_iT:iT fa ρ=GW (fa ρ) fun w=>aL ((asD w.fz).bind tupD) ret:=by
 show(GW (fa ρ) fun w=>fun(Q:List Im->Prop)=>∃xs,w.fz = .d (.tuple xs)/\Q xs)=_
 congr 1;funext w
 refine af fun Q=>?_
 simp only[ai,ret]
 constructor
 · rintro⟨xs,e,q⟩;exact⟨xs,by rw[e];rfl,q⟩
 · rintro⟨xs,e,q⟩
   cases h:asD w.fz with
   | none=>rw[h]at e;cases e
   | some x=>rw[h]at e;rw[fN.mp h,uU.mp e];exact⟨xs,rfl,q⟩
theorem m_iR1:Gy fs ρ=GW (fs ρ) fun ws=>aL (ws.head?.bind asI) fun j=>GC (ws.length=1) (GC (-(2^62)<=j/\j<2^62) (ret (aN 0 j.toNat))):=by
 show(GW (fs ρ) fun ws=>fun(Q:List Im->Prop)=>∃j:Int,ws=[.d (.int j)]/\(-(2^62)<=j/\j<2^62)/\Q (aN 0 j.toNat))=_
 congr 1;funext ws
 refine af fun Q=>?_
 simp only[ai,GC,ret]
 constructor
 · rintro⟨j,rfl,a,q⟩;exact⟨j,rfl,rfl,a,q⟩
 · rintro⟨j,e,l,a,q⟩
   match ws,l with
   | [w],_=>rw[show w = .d (.int j)from cq.mp e];exact⟨j,rfl,a,q⟩
theorem m_iR2:Gx fs ρ=GW (fs ρ) fun ws=>aL (two ws) fun p=>GC (-(2^62)<=p.1/\p.1<2^62 /\ -(2^62)<=p.2/\p.2<2^62) (ret (aN p.1 (p.2-p.1).toNat)):=by
 show(GW (fs ρ) fun ws=>fun(Q:List Im->Prop)=>∃i j:Int,ws=[.d (.int i),.d (.int j)]/\(-(2^62)<=i/\i<2^62 /\ -(2^62)<=j/\j<2^62)/\Q (aN i (j-i).toNat))=_
 congr 1;funext ws
 refine af fun Q=>?_
 simp only[ai,yb,GC,ret]
 exact⟨fun⟨i,j,a,b,q⟩=>⟨(i,j),a,b,q⟩,fun⟨p,a,b,q⟩=>⟨p.1,p.2,a,b,q⟩⟩
def AM(b1 b2:Bool)(ws:List W):Option (List Im):=match ws with
 | [.d x,.d y]=>if dR x=b1/\dR y=b2 then(eE x).bind fun xs=>(eE y).map fun ys=>ie xs ys else none
 | _=>none
theorem m_iZb(b1 b2:Bool):Gv b1 b2 fs ρ=GW (fs ρ) fun ws=>aL (AM b1 b2 ws) ret:=by
 show(GW (fs ρ) fun ws=>fun(Q:List Im->Prop)=>∃dx dy xs ys,ws=[.d dx,.d dy]/\eE dx=some xs/\eE dy=some ys/\dR dx=b1/\dR dy=b2/\Q (ie xs ys))=_
 congr 1;funext ws
 refine af fun Q=>?_
 simp only[ai,ret]
 constructor
 · rintro⟨dx,dy,xs,ys,rfl,a,b,c,d,q⟩
   exact⟨_,by show(if dR dx=b1/\dR dy=b2 then(eE dx).bind fun xs=>(eE dy).map fun ys=>ie xs ys else none)=_;rw[if_pos ⟨c,d⟩,a,b];rfl,q⟩
 · rintro⟨zs,e,q⟩
   unfold AM at e
   split at e
   · rename_i dx dy
     split at e
     · rename_i c
       cases ha:eE dx with
       | none=>rw[ha]at e;cases e
       | some xs =>
         cases hb:eE dy with
         | none=>rw[ha,hb]at e;cases e
         | some ys=>rw[ha,hb]at e;cases e;exact⟨dx,dy,xs,ys,rfl,ha,hb,c.1,c.2,q⟩
     · cases e
   · cases e
theorem m_vUse(Pd:List W->(Im->Prop)->Prop):AQ Pd fs ρ=GW (fs ρ) fun ws=>GC (ws.all cY=true) (GW (Pd ws) fun d=>ret (.d d)):=nr rfl
theorem m_gRepT(x y:W):rR x y=aL (GZ x) fun xs=>aL (asI y) fun k=>GC (xs≠[]/\1<=k/\k<2^62/\xs.length*k.toNat<=sizeLine) (ret (.d (.tuple (IH k.toNat xs).flatten))):=by
 refine af fun Q=>?_
 simp only[rR,ai,gK,cq,GC,ret]
 exact⟨fun⟨i,j,a,b,c,d,e,f,q⟩=>⟨i,a,j,b,⟨c,d,e,f⟩,q⟩,fun⟨i,a,j,b,⟨c,d,e,f⟩,q⟩=>⟨i,j,a,b,c,d,e,f,q⟩⟩
theorem m_gRepL(x y:W):rS x y=aL (G3 x) fun xs=>aL (asI y) fun k=>GC (-(2^63)<=k/\k<2^63/\xs.length*k.toNat<=sizeLine) (ret (.ml (IH k.toNat xs).flatten)):=by
 refine af fun Q=>?_
 simp only[rS,ai,qj,cq,GC,ret]
 exact⟨fun⟨i,j,a,b,c,d,e,q⟩=>⟨i,a,j,b,⟨c,d,e⟩,q⟩,fun⟨i,a,j,b,⟨c,d,e⟩,q⟩=>⟨i,j,a,b,c,d,e,q⟩⟩
theorem m_vRevT:uK fa ρ=GW (fa ρ) fun w=>aL (GZ w) fun xs=>ret (.d (.tuple xs.reverse)):=by
 refine af fun Q=>?_
 simp only[uK,GW,ai,gK,ret]
theorem m_gEqS(neg:Bool)(x y:W):AE neg x y=aL (asS x) fun i=>aL (asS y) fun j=>ret (.d (.bool (if neg then !decide (i=j)else decide (i=j)))):=by
 refine af fun Q=>?_
 simp only[ai,Ai,AE,ret]
 exact⟨fun⟨i,j,a,b,q⟩=>⟨i,a,j,b,q⟩,fun⟨i,a,j,b,q⟩=>⟨i,j,a,b,q⟩⟩
end
inductive Fl where
 | nx (ρ:En)|rt (w:W)|bk (ρ:En)|ct (ρ:En)
def mS(t:Ha)(ρ:En):Mo Fl:=fun Q=>t ⟨fun ρ=>Q (.nx ρ),fun w=>Q (.rt w),fun ρ=>Q (.bk ρ),fun ρ=>Q (.ct ρ)⟩ ρ
def sq(m:Mo Fl)(k:En->Mo Fl):Mo Fl:=GW m fun fl=>match fl with
 | .nx ρ=>k ρ
 | .rt w=>ret (.rt w)
 | .bk ρ=>ret (.bk ρ)
 | .ct ρ=>ret (.ct ρ)
def xx(Q:Im->Prop):Fl->Prop
 | .nx _=>Q .none
 | .rt w=>∃d,w.fz = .d d/\Q d
 | _=>False
section
variable{fa fb fc:TV}{fs:G_}{f g:TB}{ρ:En}{t u:Ha}{k:En->Mo Fl}
theorem aI{Q:Im->Prop}(h:mS t ρ (xx Q)):t (lO Q) ρ:=h
theorem end_d(Q:Im->Prop)(d:Im):xx Q (.rt (.d d))=Q d:=propext ⟨fun⟨_,e,q⟩=>by cases e;exact q,fun q=>⟨d,rfl,q⟩⟩
theorem end_ml(Q:Im->Prop)(d:List Im):xx Q (.rt (.ml d))=Q (.list d):=propext ⟨fun⟨_,e,q⟩=>by cases e;exact q,fun q=>⟨_,rfl,q⟩⟩
theorem end_nx(Q:Im->Prop)(ρ:En):xx Q (.nx ρ)=Q .none:=nr rfl
theorem sq_nx:sq (ret (.nx ρ)) k=k ρ:=nr rfl
theorem sq_rt(w:W):sq (ret (.rt w)) k=ret (.rt w):=nr rfl
theorem sq_bk:sq (ret (.bk ρ)) k=ret (.bk ρ):=nr rfl
theorem sq_ct:sq (ret (.ct ρ)) k=ret (.ct ρ):=nr rfl
theorem sq_grd(P:Prop)(m:Mo Fl):sq (GC P m) k=GC P (sq m k):=nr rfl
theorem sq_stk:sq stk k=stk:=nr rfl
theorem sq_ite(c:Prop)[Decidable c](a b:Mo Fl):sq (if c then a else b) k=if c then sq a k else sq b k:=by split<;>rfl
theorem yq(o:Option α)(h:α->Mo Fl):sq (aL o h) k=aL o fun a=>sq (h a) k:=by cases o<;>rfl
theorem s_next:mS uL ρ=ret (.nx ρ):=nr rfl
theorem s_seq:mS (xq t u) ρ=sq (mS t ρ) (mS u):=by
 refine af fun Q=>?_
 show t ⟨fun ρ=>u ⟨_,_,_,_⟩ ρ,_,_,_⟩ ρ↔_
 exact Mv
theorem s_ret:mS (AU fa) ρ=GW (fa ρ) fun w=>ret (.rt w):=nr rfl
theorem s_ifS:mS (As f t u) ρ=GW (f ρ) fun b=>if b=true then mS t ρ else mS u ρ:=by
 refine af fun Q=>?_
 simp only[mS,As,GW,gB]
theorem s_set(i:Nat):mS (Aq i fa) ρ=GW (fa ρ) fun w=>GC (w.isPk=false) (ret (.nx (ρ.set i (some w)))):=nr rfl
theorem s_never:mS (fun _ _=>False) ρ=stk:=nr rfl
theorem m_hName(i:Nat)(x:Im):wE i x ρ=ret (ρ.set i (some (.d x))):=nr rfl
theorem zt(xs:List Im):BP xs ρ=GC (xs=[]) (ret ρ):=nr rfl
theorem wc{g:Hf}{gs:qw}(xs:List Im):rQ g gs xs ρ=aL (match xs with | []=>none|y::r=>some (y,r)) fun p=>GW (g p.1 ρ) fun ρ'=>gs p.2 ρ':=by
 refine af fun Q=>?_
 simp only[ai,rQ,GW]
 constructor
 · rintro⟨y,r,rfl,q⟩;exact⟨(y,r),rfl,q⟩
 · rintro⟨p,e,q⟩
   cases xs with
   | nil=>cases e
   | cons y r=>cases e;exact⟨y,r,rfl,q⟩
theorem m_hCons_c{g:Hf}{gs:qw}(y:Im)(r:List Im):rQ g gs (y::r) ρ=GW (g y ρ) fun ρ'=>gs r ρ':=by rw[wc];rfl
theorem m_hNil_n:BP [] ρ=ret ρ:=by rw[zt,ag rfl]
theorem m_hTup(n:Nat){gs:qw}(x:Im):BO n gs x ρ=aL (tupD x) fun xs=>GC (xs.length=n) (gs xs ρ):=by
 refine af fun Q=>?_
 simp only[ai,uU,BO,GC]
theorem s_asg{g:Hf}:mS (Au fa g) ρ=GW (fa ρ) fun w=>aL (asD w) fun x=>GW (g x ρ) fun ρ'=>ret (.nx ρ'):=by
 refine af fun Q=>?_
 simp only[mS,Au,GW,ai,fN,ret]
theorem s_par(i j:Nat):mS (C_ i j fs) ρ=GW (fs ρ) fun ws=>aL (jV ws) fun ds=>aL (match ds with | [x,y]=>some (x,y)|_=>none) fun p=>ret (.nx ((ρ.set i (some (.d p.1))).set j (some (.d p.2)))):=by
 show(GW (fs ρ) fun ws=>fun(Q:Fl->Prop)=>∃x y,jV ws=some [x,y]/\Q (.nx ((ρ.set i (some (.d x))).set j (some (.d y)))))=_
 congr 1;funext ws
 refine af fun Q=>?_
 simp only[ai,ret]
 constructor
 · rintro⟨x,y,e,q⟩;exact⟨_,e,(x,y),rfl,q⟩
 · rintro⟨ds,e,p,e2,q⟩
   split at e2
   · cases e2;exact⟨_,_,e,q⟩
   · cases e2
def FA(ρ:En)(i:Nat):Option Int:=((ρ[i]?).join).bind asI
def asM:W->Option (List Im)
 | .ml xs=>some xs
 | _=>none
def Fw(ρ:En)(i:Nat):Option (List Im):=((ρ[i]?).join).bind asM
theorem asM_ml(xs:List Im):asM (.ml xs)=some xs:=rfl
theorem Dt{w:W}:asM w=some xs↔w = .ml xs:=by
 constructor
 · intro h;unfold asM at h;split at h<;>simp_all
 · rintro rfl;rfl
theorem nT{i:Nat}:Fw ρ i=some xs↔ρ[i]?=some (some (.ml xs)):=by
 unfold Fw
 constructor
 · intro h
   cases q:ρ[i]? with
   | none=>rw[q]at h;cases h
   | some o=>rw[q]at h;cases o with
     | none=>cases h
     | some w=>rw[Dt.mp h]
 · intro h;rw[h];rfl
theorem yx{i:Nat}{n:Int}:FA ρ i=some n↔ρ[i]?=some (some (.d (.int n))):=by
 unfold FA
 constructor
 · intro h
   cases q:ρ[i]? with
   | none=>rw[q]at h;cases h
   | some o=>rw[q]at h;cases o with
     | none=>cases h
     | some w=>rw[cq.mp h]
 · intro h;rw[h];rfl
theorem s_aug(i:Nat)(C:Int->Int->Prop)(h:Int->Int->Int):mS (AY i C h fa) ρ=aL (FA ρ i) fun n=>GW (fa ρ) fun w=>aL (asI w) fun m=>GC (C n m) (ret (.nx (ρ.set i (some (.d (.int (h n m))))))):=by
 refine af fun Q=>?_
 simp only[mS,AY,GW,ai,yx,cq,GC,ret]
theorem s_frz(i:Nat):mS (AX i t) ρ=aL (Fw ρ i) fun xs=>mS t (ρ.set i (some (.d (.list xs)))):=by
 refine af fun Q=>?_
 simp only[mS,AX,ai,nT]
theorem s_mut(i:Nat)(h:List Im->List W->(List Im->Prop)->Prop):mS (xr i h fs) ρ=aL (Fw ρ i) fun xs=>GW (fs ρ) fun ws=>GW (h xs ws) fun ys=>ret (.nx (ρ.set i (some (.ml ys)))):=by
 refine af fun Q=>?_
 simp only[mS,xr,GW,ai,nT,ret]
theorem m_gApp(xs:List Im)(w:W):zL xs [w]=aL (asD w) fun x=>GC (xs.length<sizeLine) (ret (xs++[x])):=by
 refine af fun Q=>?_
 simp only[zL,ai,fN,GC,ret]
 constructor
 · rintro⟨x,e,a,q⟩
   cases w<;>first|(cases e;exact⟨_,rfl,a,q⟩)|cases e
 · rintro⟨x,rfl,a,q⟩;exact⟨x,rfl,a,q⟩
end
def Le(a b:En):Prop:=a.length=b.length/\∀(i:Nat) w,a[i]?=some (some w)->b[i]?=some (some w)
theorem Le.refl(a:En):Le a a:=⟨rfl,fun _ _ h=>h⟩
theorem Le.trans{a b c:En}(h:Le a b)(h':Le b c):Le a c:=⟨h.1.trans h'.1,fun i w e=>h'.2 i w (h.2 i w e)⟩
theorem le_nil:Le [] []=True:=propext ⟨fun _=>trivial,fun _=>Le.refl _⟩
theorem le_cn(x:Option W)(a b:En):Le (none::a) (x::b)=Le a b:=by
 refine propext ⟨fun h=>⟨by have:=h.1;simpa using this,fun i w e=>by have:=h.2 (i+1) w (by simpa using e);simpa using this⟩,fun h=>⟨by simp[h.1],fun i w e=>?_⟩⟩
 cases i with
 | zero=>simp at e
 | succ i=>simpa using h.2 i w (by simpa using e)
theorem le_cs(x:Option W)(a b:En):Le (x::a) (x::b)=Le a b:=by
 refine propext ⟨fun h=>⟨by have:=h.1;simpa using this,fun i w e=>by have:=h.2 (i+1) w (by simpa using e);simpa using this⟩,fun h=>⟨by simp[h.1],fun i w e=>?_⟩⟩
 cases i with
 | zero=>simpa using e
 | succ i=>simpa using h.2 i w (by simpa using e)
theorem VR.le{K:W.Frag}{ρ0:En}(R:VR K rl F₀ H₀ F H σ ρ)(h:Le ρ0 ρ):VR K rl F₀ H₀ F H σ ρ0 :=
 ⟨R.g,fun i w e=>R.sl i w (h.2 i w e),fun i j x y v n e1 e2=>R.ap i j x y v n (h.2 i x e1) (h.2 j y e2),fun i xs e=>R.np i xs (h.2 i _ e),h.1.trans R.len⟩
def fo:List Nat->En->En
 | [],ρ=>ρ
 | i::l,ρ=>fo l (ρ.set i none)
theorem zx(ρ:En)(i:Nat):Le (ρ.set i none) ρ:=by
 refine⟨by simp,fun j w e=>?_⟩
 rw[JP]at e
 split at e
 · split at e
   · cases e
   · cases e
 · exact e
theorem d_:∀(l:List Nat)(ρ:En),Le (fo l ρ) ρ
 | [],ρ=>Le.refl ρ
 | i::l,ρ=>(d_ l (ρ.set i none)).trans (zx ρ i)
theorem fo_nil(ρ:En):fo [] ρ=ρ:=rfl
theorem fo_cons(i:Nat)(l:List Nat)(ρ:En):fo (i::l) ρ=fo l (ρ.set i none):=rfl
def bR(fl:List Nat)(g:Hf)(t:Ha):List Im->Ha
 | [],D,ρ=>D.nx ρ
 | x::xs,D,ρ=>g x ρ fun ρ2=>t {D with nx:=fun ρ'=>bR fl g t xs D (fo fl ρ'),ct:=fun ρ'=>bR fl g t xs D (fo fl ρ'),bk:=fun ρ'=>D.nx (fo fl ρ')} ρ2
def x8(fl:List Nat)(fi:En->(List Im->Prop)->Prop)(g:Hf)(t:Ha):Ha:=fun D ρ=>fi ρ fun xs=>bR fl g t xs D (fo fl ρ)
section
variable{X:Cx}{rl:RlT}{st:Stmt}{rest body:List Stmt}{t u:Ha}{a b c e:Expr}{es:List Expr}{fa fb:TV}{fs:G_}{f:TB}{pos p:Pos}
theorem bL(fl:List Nat){g:Hf}(hp:OS (Jb X.prog X.w) X.A X.env X.xe)(hc:X.calm=true)(hi:HA X rl tg iter fi)(hg:HD X rl tg g)(hb:jm X rl body t)
 (hs:∀x,Jd iter X.env x=pure x:=by intro _;rfl):Hw X rl (.For tg iter body [] pos) (x8 fl fi g t):=by
 obtain⟨wi,p0,k0⟩:=hi
 obtain⟨G,p1,k1⟩:=hg
 obtain⟨T,p2,k2⟩:=hb
 refine⟨_,tE hp hc p0 p1 p2 hs,fun{F₀ H₀ F H σ ρ} R Dv D ok q=>k0 R _ _ q fun J xs F1 H1 g1 vi q1=>?_⟩
 refine⟨fun i m σ H=>m=xs.length-i/\i<=xs.length/\∃F ρ,bm F1 F/\VR X.K rl F₀ H₀ F H σ ρ/\bR fl g t (xs.drop i) Dv ρ,⟨xs.length,by simp,Jz _,F1,fo fl ρ,.refl _,(R.grow g1).le (d_ fl ρ),by simpa using q1⟩,?_⟩
 rintro i m σ H ⟨rfl,hi,F2,ρ2,s2,R2,j2⟩
 have sH:bm F1 H:=s2.trans R2.sub
 by_cases hlt:i<xs.length
 · have ei:xs[i]?=some xs[i]:=by simp[hlt]
   rw[J1 hlt]at j2
   refine .inr ⟨vi.go i H _ ei sH,fun σ' H'=>∃F ρ,bm F1 F/\VR X.K rl F₀ H₀ F H' σ' ρ/\bR fl g t (xs.drop (i+1)) Dv ρ,fun σ' H' z=>⟨xs.length-(i+1),by omega,rfl,hlt,z⟩,fun v H' y=>?_⟩
   obtain⟨Fy,gy,rv⟩:=vi.yld i H v H' _ F2 ei s2 R2.sub R2.reel y
   refine k1 (R2.grow gy) v _ _ _ rv j2 fun F3 H3 σ3 ρ3 s3 n3 R3 q3=>?_
   have s13:bm F1 F3:=s2.trans (gy.fs.trans s3.fs)
   exact k2 R3 {Dv with nx:=fun ρ'=>bR fl g t (xs.drop (i+1)) Dv (fo fl ρ'),ct:=fun ρ'=>bR fl g t (xs.drop (i+1)) Dv (fo fl ρ'),bk:=fun ρ'=>Dv.nx (fo fl ρ')} _
    ⟨fun F4 H4 σ4 ρ4 s4 R4 q4=>⟨F4,fo fl ρ4,s13.trans s4,R4.le (d_ fl ρ4),q4⟩,ok.rt,fun F4 H4 σ4 ρ4 s4 R4 q4=>ok.nx _ _ _ _ (g1.fs.trans (s13.trans s4)) (R4.le (d_ fl ρ4)) q4,fun F4 H4 σ4 ρ4 s4 R4 q4=>⟨F4,fo fl ρ4,s13.trans s4,R4.le (d_ fl ρ4),q4⟩⟩ q3
 · have e:i=xs.length:=by omega
   subst e
   rw[KN]at j2
   exact .inl ⟨vi.stop _ H (ID _) sH,ok.nx _ _ _ _ (g1.fs.trans s2) R2 j2⟩
def ET(fl:List Nat)(f:TB)(t:Ha)(m:Nat):Ha:=fun D ρ=>f ρ fun b=>if b=true then t {D with nx:=fun ρ'=>∃k,∃h:k<m,ET fl f t k D (fo fl ρ'),ct:=fun ρ'=>∃k,∃h:k<m,ET fl f t k D (fo fl ρ'),bk:=fun ρ'=>D.nx (fo fl ρ')} ρ else D.nx ρ
termination_by m
def nj(fl:List Nat)(f:TB)(t:Ha):Ha:=fun D ρ=>∃m,ET fl f t m D (fo fl ρ)
theorem sS(fl:List Nat)(f:TB)(t:Ha)(m:Nat)(D:VEnds)(ρ:En):ET fl f t m D ρ=f ρ fun b=>if b=true then t {D with nx:=fun ρ'=>∃k,∃h:k<m,ET fl f t k D (fo fl ρ'),ct:=fun ρ'=>∃k,∃h:k<m,ET fl f t k D (fo fl ρ'),bk:=fun ρ'=>D.nx (fo fl ρ')} ρ else D.nx ρ:=by
 conv=>lhs;unfold ET
theorem eV(fl:List Nat)(hp:OS (Jb X.prog X.w) X.A X.env X.xe)(hc:PB X rl c f)(hb:jm X rl body t):Hw X rl (.While c body [] pos) (nj fl f t):=by
 obtain⟨t0,p0,k0⟩:=hc
 obtain⟨t1,p1,k1⟩:=hb
 refine⟨_,qU hp p0 p1,fun{F₀ H₀ F H σ ρ} R Dv D ok q=>?_⟩
 obtain⟨m,j0⟩:=q
 refine⟨fun m σ' H'=>∃F' ρ',bm F F'/\VR X.K rl F₀ H₀ F' H' σ' ρ'/\ET fl f t m Dv ρ',⟨m,F,fo fl ρ,.refl _,R.le (d_ fl ρ),j0⟩,?_⟩
 rintro m σ2 H2 ⟨F2,ρ2,s2,R2,j⟩
 rw[sS]at j
 refine k0 R2 _ _ j fun b F1 H1 g1 q1=>?_
 cases b with
 | false=>exact ok.nx _ _ _ _ (s2.trans g1.fs) (R2.grow g1) q1
 | true =>
   refine⟨fun σ' H'=>∃F' ρ',bm F F'/\VR X.K rl F₀ H₀ F' H' σ' ρ'/\∃m',m'<m/\ET fl f t m' Dv ρ',fun σ' H' ⟨F',ρ',s',R',m',hm,j⟩=>⟨m',hm,F',ρ',s',R',j⟩,?_⟩
   exact k1 (R2.grow g1) {Dv with nx:=fun ρ'=>∃k,∃h:k<m,ET fl f t k Dv (fo fl ρ'),ct:=fun ρ'=>∃k,∃h:k<m,ET fl f t k Dv (fo fl ρ'),bk:=fun ρ'=>Dv.nx (fo fl ρ')} _
    ⟨fun F3 H3 σ3 ρ3 s3 R3 ⟨m',hm,q3⟩=>⟨F3,fo fl ρ3,(s2.trans g1.fs).trans s3,R3.le (d_ fl ρ3),m',hm,q3⟩,ok.rt,fun F3 H3 σ3 ρ3 s3 R3 q3=>ok.nx _ _ _ _ ((s2.trans g1.fs).trans s3) (R3.le (d_ fl ρ3)) q3,fun F3 H3 σ3 ρ3 s3 R3 ⟨m',hm,q3⟩=>⟨F3,fo fl ρ3,(s2.trans g1.fs).trans s3,R3.le (d_ fl ρ3),m',hm,q3⟩⟩ q1
end
def Gi(fl:List Nat)(k:En->Mo Fl):Fl->Mo Fl
 | .nx ρ=>k (fo fl ρ)
 | .ct ρ=>k (fo fl ρ)
 | .bk ρ=>ret (.nx (fo fl ρ))
 | .rt w=>ret (.rt w)
def bU(fl:List Nat)(b:Im->En->Mo Fl):List Im->En->Mo Fl
 | [],ρ=>ret (.nx ρ)
 | x::xs,ρ=>GW (b x ρ) (Gi fl (bU fl b xs))
theorem jL(fl:List Nat)(g:Hf)(t:Ha):∀(xs:List Im)(ρ:En),mS (bR fl g t xs) ρ=bU fl (fun x ρ=>GW (g x ρ) (mS t)) xs ρ
 | [],ρ=>rfl
 | x::xs,ρ=>by
   refine af fun Q=>?_
   show(g x ρ fun ρ2=>t ⟨fun ρ'=>mS (bR fl g t xs) (fo fl ρ') Q,fun w=>Q (.rt w),fun ρ'=>Q (.nx (fo fl ρ')),fun ρ'=>mS (bR fl g t xs) (fo fl ρ') Q⟩ ρ2)↔_
   simp only[jL fl g t xs]
   exact Mv
def GY(g:Hf)(t:Ha):Im->En->Mo Fl:=fun x ρ=>GW (g x ρ) (mS t)
theorem bdy_ap(g:Hf)(t:Ha)(x:Im)(ρ:En):GY g t x ρ=GW (g x ρ) (mS t):=nr rfl
theorem s_for(fl:List Nat)(fi:En->(List Im->Prop)->Prop)(g:Hf)(t:Ha)(ρ:En):mS (x8 fl fi g t) ρ=GW (fi ρ) fun xs=>bU fl (GY g t) xs (fo fl ρ):=by
 refine af fun Q=>?_
 show(fi ρ fun xs=>mS (bR fl g t xs) (fo fl ρ) Q)↔_
 simp only[jL]
 exact Mv
def Gh(fl:List Nat)(J:En->Prop)(Q:Fl->Prop):Fl->Prop
 | .nx ρ=>J (fo fl ρ)
 | .ct ρ=>J (fo fl ρ)
 | .bk ρ=>Q (.nx (fo fl ρ))
 | .rt w=>Q (.rt w)
section
variable{α σ:Type}{fl:List Nat}{b:Im->En->Mo Fl}
theorem lf(J:Nat->En->Prop){Q:Fl->Prop}:∀{xs:List Im}{ρ:En}(n:Nat),J n ρ->(∀i x ρ,xs[i]?=some x->J (n+i) ρ->∀k:Fl->Prop,(∀r,Gh fl (J (n+i+1)) Q r->k r)->b x ρ k)->(∀ρ,J (n+xs.length) ρ->Q (.nx ρ))->bU fl b xs ρ Q
 | [],ρ,n,h0,_,fin=>fin ρ h0
 | x::xs,ρ,n,h0,step,fin=>by
   refine step 0 x ρ rfl h0 (fun r=>Gi fl (bU fl b xs) r Q) fun r hr=>?_
   have rc:∀ρ',J (n+1) ρ'->bU fl b xs ρ' Q:=fun ρ' h'=>lf J (n+1) h' (fun i y ρ e j k hk=>step (i+1) y ρ (by simpa using e) (by rw[show n+(i+1)=n+1+i by omega];exact j) k (by rw[show n+(i+1)+1=n+1+i+1 by omega];exact hk)) (fun ρ j=>fin ρ (by rw[Ju,show n+(xs.length+1)=n+1+xs.length by omega];exact j))
   cases r with
   | nx ρ'=>exact rc _ hr
   | ct ρ'=>exact rc _ hr
   | bk ρ'=>exact hr
   | rt w=>exact hr
theorem o7{xs:List α}{enc:α->Im}{Q:Fl->Prop}(J:Nat->En->Prop)(h0:J 0 ρ)
 (step:∀i (h:i<xs.length) ρ,J i ρ->∀k:Fl->Prop,(∀r,Gh fl (J (i+1)) Q r->k r)->b (enc xs[i]) ρ k)(fin:∀ρ,J xs.length ρ->Q (.nx ρ)):bU fl b (xs.map enc) ρ Q:=by
 refine lf J 0 h0 (fun i x ρ e j k hk=>?_) (fun ρ j=>fin ρ (by simpa using j))
 have hi:i<xs.length:=by have:=(IR.mp e).1;simpa using this
 rw[Jj,Iy hi]at e
 cases e
 rw[Nat.zero_add]at j hk
 exact step i hi ρ j k hk
theorem rF{lo:Int}{Q:Fl->Prop}(J:Nat->En->Prop)(h0:J 0 ρ)
 (step:∀i,i<n->∀ρ,J i ρ->∀k:Fl->Prop,(∀r,Gh fl (J (i+1)) Q r->k r)->b (.int (lo+i)) ρ k)(fin:∀ρ,J n ρ->Q (.nx ρ)):bU fl b (aN lo n) ρ Q:=by
 refine o7 (xs:=IN n) J h0 (fun i h ρ j k hk=>?_) (fun ρ j=>fin ρ (by simpa using j))
 rw[Mj]
 exact step i (by simpa using h) ρ j k hk
theorem oZ{xs:List α}{enc:α->Im}(st:σ->En)(f:σ->α->σ)(s:σ)(I:σ->Prop)(h0:I s)(step:∀x∈xs,∀s,I s->I (f s x)/\∃ρ',b (enc x) (st s)=ret (.nx ρ')/\fo fl ρ'=st (f s x)):bU fl b (xs.map enc) (st s)=ret (.nx (st (xs.foldl f s))):=by
 induction xs generalizing s with
 | nil=>rfl
 | cons x xs ih =>
   obtain⟨h1,ρ',e1,e2⟩:=step x Iz s h0
   show GW (b (enc x) (st s)) (Gi fl (bU fl b (xs.map enc)))=_
   rw[e1,bnd_ret]
   show bU fl b (xs.map enc) (fo fl ρ')=_
   rw[e2]
   exact ih (f s x) h1 fun y hy=>step y (Ir _ hy)
theorem mB{lo:Int}(st:Nat->En)(h0:∀i,i<n->∃ρ',b (.int (lo+i)) (st i)=ret (.nx ρ')/\fo fl ρ'=st (i+1)):bU fl b (aN lo n) (st 0)=ret (.nx (st n)):=by
 have key:∀k m,m+k=n->bU fl b ((aN lo n).drop m) (st m)=ret (.nx (st n)):=by
  intro k
  induction k with
  | zero => intro m e;have e:m=n:=by omega
            subst e;rw[KE (by rw[ac];omega)];rfl
  | succ k ih =>
    intro m e
    have hm:m<(aN lo n).length:=by rw[ac];omega
    rw[J1 hm]
    have ex:(aN lo n)[m] = .int (lo+m):=by simp[aN]
    rw[ex]
    obtain⟨ρ',e1,e2⟩:=h0 m (by omega)
    show GW (b (.int (lo+m)) (st m)) (Gi fl (bU fl b ((aN lo n).drop (m+1))))=_
    rw[e1,bnd_ret]
    show bU fl b _ (fo fl ρ')=_
    rw[e2]
    exact ih (m+1) (by omega)
 have:=key n 0 (by omega)
 simpa using this
theorem o6{xs:List α}{enc:α->Im}(p:α->Bool)(w:α->W)(step:∀x∈xs,(p x=true->b (enc x) ρ=ret (.rt (w x)))/\(p x=false->∃ρ',b (enc x) ρ=ret (.nx ρ')/\fo fl ρ'=ρ)) :
 bU fl b (xs.map enc) ρ=match xs.find? p with|some x=>ret (.rt (w x))|none=>ret (.nx ρ):=by
 induction xs with
 | nil=>rfl
 | cons x xs ih =>
   have h:=step x Iz
   show GW (b (enc x) ρ) (Gi fl (bU fl b (xs.map enc)))=_
   cases hp:p x with
   | true=>rw[h.1 hp,bnd_ret,List.find?_cons_of_pos hp];rfl
   | false =>
     obtain⟨ρ',e1,e2⟩:=h.2 hp
     rw[e1,bnd_ret,List.find?_cons_of_neg (by rw[hp];decide)]
     show bU fl b _ (fo fl ρ')=_
     rw[e2]
     exact ih fun y hy=>step y (Ir _ hy)
end
def gb(fl:List Nat)(f:TB)(t:Ha)(ρ:En):Mo Fl:=fun Q=>∃m,mS (ET fl f t m) ρ Q
theorem s_while(fl:List Nat)(f:TB)(t:Ha)(ρ:En):mS (nj fl f t) ρ=gb fl f t (fo fl ρ):=nr rfl
theorem qy(fl:List Nat)(f:TB)(t:Ha)(m:Nat)(ρ:En):mS (ET fl f t m) ρ=GW (f ρ) fun b=>if b=true then GW (mS t ρ) (Gi fl fun ρ'=>fun Q=>∃k,∃h:k<m,mS (ET fl f t k) ρ' Q)else ret (.nx ρ):=by
 refine af fun Q=>?_
 show ET fl f t m _ ρ↔_
 rw[sS]
 simp only[GW,gB]
 exact Mv
theorem ur{fl:List Nat}{f:TB}{t:Ha}(h:f ρ=ret false):gb fl f t ρ=ret (.nx ρ):=by
 refine af fun Q=>?_
 constructor
 · rintro⟨m,q⟩;rw[qy,h,bnd_ret,if_neg (by decide)]at q;exact q
 · intro q;refine⟨0,?_⟩;rw[qy,h,bnd_ret,if_neg (by decide)];exact q
theorem uq{fl:List Nat}{f:TB}{t:Ha}{ρ':En}(h:f ρ=ret true)(h2:mS t ρ=ret (.nx ρ')):gb fl f t ρ=gb fl f t (fo fl ρ'):=by
 refine af fun Q=>?_
 constructor
 · rintro⟨m,q⟩;rw[qy,h,bnd_ret,if_pos rfl,h2,bnd_ret]at q;obtain⟨k,_,q⟩:=q;exact⟨k,q⟩
 · rintro⟨m,q⟩;refine⟨m+1,?_⟩;rw[qy,h,bnd_ret,if_pos rfl,h2,bnd_ret];exact⟨m,Nat.lt_succ_self m,q⟩
theorem mT{σ:Type}{fl:List Nat}{f:TB}{t:Ha}(st:σ->En)(c:σ->Bool)(nxt:σ->σ)(μ:σ->Nat)(I:σ->Prop)
 (hf:∀s,I s->f (st s)=ret (c s))(ht:∀s,I s->c s=true->I (nxt s)/\μ (nxt s)<μ s/\∃ρ',mS t (st s)=ret (.nx ρ')/\fo fl ρ'=st (nxt s))(s:σ)(hs:I s):∃s',I s'/\c s'=false/\gb fl f t (st s)=ret (.nx (st s')):=by
 induction hm:μ s using MY generalizing s with
 | ind n ih =>
   subst hm
   cases hc:c s with
   | false=>exact⟨s,hs,hc,ur (by rw[hf s hs,hc])⟩
   | true =>
     obtain⟨i1,m1,ρ',e1,e2⟩:=ht s hs hc
     obtain⟨s',a,b,e⟩:=ih _ m1 (nxt s) i1 rfl
     exact⟨s',a,b,by rw[uq (by rw[hf s hs,hc]) e1,e2,e]⟩
def kB(ρ0:En)(g:Hf)(ft:TB)(fe:TV):List Im->List Im->(List Im->Prop)->Prop
 | [],acc,Q=>Q acc
 | x::xs,acc,Q=>g x ρ0 fun ρ2=>Le ρ0 ρ2/\ft ρ2 fun b=>if b=true then fe ρ2 fun w=>∃d,w.fz = .d d/\acc.length<sizeLine/\kB ρ0 g ft fe xs (acc++[d]) Q else kB ρ0 g ft fe xs acc Q
def kD(fi:En->(List Im->Prop)->Prop)(fr:List (Option Nat))(g:Hf)(ft:TB)(fe:TV):TV:=fun ρ Q=>fi ρ fun xs=>kB (dB fr ρ) g ft fe xs [] fun ds=>Q (.ml ds)
section
variable{X:Cx}{rl:RlT}{elt tg iter:Expr}{ifs:List Expr}{scope:Scope}{pos:Pos}{fi:En->(List Im->Prop)->Prop}{g:Hf}{ft:TB}{fe:TV}
theorem lh{N':List Str}{wi:TI}(fr:List (Option Nat))(k0:∀{F₀ H₀ F H:Hp}{σ:St}{ρ:En},VR X.K rl F₀ H₀ F H σ ρ->∀(Qd:List Im->Prop)(R:It->Hp->Prop),fi ρ Qd ->
 (∀J xs F' H',Grow rl F H F' H'->VIt X.K rl F' J xs->Qd xs->R J H')->wi σ H R)
 (hg:∀y,HD (blk X N' scope y) rl tg g)(ht:∀y,qx (blk X N' scope y) rl ifs ft)(he:∀y,PV (blk X N' scope y) rl elt fe)
 (R:VR X.K rl F₀ H₀ F H σ ρ)(Qd:W->Prop)(Q:VK)(q:kD fi fr g ft fe ρ Qd)
 (k:∀v w F' H',Grow rl F H F' H'->cC X.K rl F' H' v w->cZ H v w->Qd w->Q v H'):qM wi fr (fun y=>Ja (hg y)) (fun y=>Ja (ht y)) (fun y=>Ja (he y)) σ H Q:=by
 refine k0 R _ _ q fun J xs F1 H1 g1 vi q1=>?_
 intro D hD
 have rD:rl.a≠some D:=fun e=>by obtain⟨o,z⟩:=g1.reel.live e;rw[hD]at z;cases z
 have FD:F1 D=none:=g1.sub.free hD
 have gD:Grow rl F1 H1 F1 (upd H1 D (.lst [])):=Grow.laid g1.sub g1.reel hD
 have R1:=R.grow g1
 have n0:mN (dB fr ρ):=de
 refine⟨fun i m acc σc Hc=>m=xs.length-i/\i<=xs.length/\∃Fc ds,VR X.K rl F1 H1 Fc Hc σc (dB fr ρ)/\Hc D=some (.lst acc)/\Fc D=none/\Reps X.K Fc acc ds/\kB (dB fr ρ) g ft fe (xs.drop i) ds (fun ds=>Qd (.ml ds)),
  ⟨xs.length,by simp,Jz _,F1,[],eM R1 gD,ak,FD,.nil,by simpa using q1⟩,?_⟩
 rintro z i m acc σc Hc ⟨rfl,hi,Fc,ds,Rc,hDc,fDc,rs,q2⟩
 have sH:bm F1 Hc:=Rc.g.fs.trans Rc.sub
 by_cases hlt:i<xs.length
 · have ei:xs[i]?=some xs[i]:=by simp[hlt]
   have ed:xs.drop i=xs[i]::xs.drop (i+1):=J1 hlt
   rw[ed]at q2
   refine .inr ⟨vi.go i Hc _ ei sH,fun v H' y=>?_⟩
   obtain⟨Fy,gy,rv⟩:=vi.yld i Hc v H' _ Fc ei Rc.g.fs Rc.sub Rc.reel y
   refine(Iq (hg z)).2 (Rc.grow gy) v _ _ _ rv q2 fun F3 H3 σ3 ρ3 g3 n3 R3 ⟨le3,q3⟩=>?_
   refine(Iq (ht z)).2 R3 _ _ q3 fun b F4 H4 g4 q4=>?_
   have R4:=R3.grow g4
   have g34:=(gy.trans g3).trans g4
   have keepD:∀{Fx Hx:Hp},Grow rl Fc Hc Fx Hx->Hx D=some (.lst acc)/\Fx D=none:=fun gx=>⟨gx.same D _ hDc rD,by rw[gx.old D _ hDc];exact fDc⟩
   cases b with
   | false=>exact⟨xs.length-(i+1),by omega,rfl,hlt,F4,ds,R4.le le3,(keepD g34).1,(keepD g34).2,rs.mono g34.fs,q4⟩
   | true =>
     refine(Iq (he z)).2 R4 _ _ q4 fun v5 w5 F5 H5 g5 r5 n5 ⟨d,ed5,hl,q5⟩=>?_
     obtain⟨F6,g6,s6,r6⟩:=cC.fz g5 r5 n5
     rw[ed5]at r6
     have g36:=g34.trans g6
     refine⟨(keepD g36).1,by rw[rs.length];exact hl,xs.length-(i+1),by omega,rfl,hlt,F6,ds++[d],((R4.grow g6).le le3).other n0 hD (keepD g36).2 rD,ak,(keepD g36).2,(rs.mono g36.fs).snoc r6,q5⟩
 · have e:i=xs.length:=by omega
   subst e
   rw[KN]at q2
   refine .inl ⟨vi.stop _ Hc (ID _) sH,k _ (.ml ds) Fc Hc (g1.trans Rc.g) ⟨D,acc,rfl,fDc,rD,hDc,rs⟩ (fun a ea=>by cases ea;exact g1.freeB hD) q2⟩
theorem bv(N':List Str)(fr:List (Option Nat))(hc:X.calm=true)(hi:HA X rl tg iter fi)
 (hg:∀y,HD (blk X N' scope y) rl tg g)(ht:∀y,qx (blk X N' scope y) rl ifs ft)(he:∀y,PV (blk X N' scope y) rl elt fe)
 (hfr:jQ fr N' X.N scope X.env.scope=true:=by rfl)(hsc:kM scope X.env.scope=true:=by rfl)
 (hs:∀x,Jd iter X.env x=pure x:=by intro _;rfl):PV X rl (.ListComp elt [⟨tg,iter,ifs,0⟩] scope pos) (kD fi fr g ft fe):=by
 obtain⟨wi,p0,k0⟩:=hi
 exact⟨_,dJ N' fr hc p0 hfr hsc (fun y=>(Iq (hg y)).1) (fun y=>(Iq (ht y)).1) (fun y=>(Iq (he y)).1) hs,fun R Qd Q q k=>lh fr k0 hg ht he R Qd Q q k⟩
theorem jn(i:Nat){b:Bool}{x:Str}{spos:Pos}(hN:X.N.Nodup)(N':List Str)(fr:List (Option Nat))(hc:X.calm=true)(hi:HA X rl tg iter fi)
 (hg:∀y,HD (blk X N' scope y) rl tg g)(ht:∀y,qx (blk X N' scope y) rl ifs ft)(he:∀y,PV (blk X N' scope y) rl elt fe)
 (hsw:Ku (.ListComp elt [⟨tg,iter,ifs,0⟩] scope pos) (some (.Name x px)) spos.line X.env=pure b:=by rfl)
 (hix:X.N[i]?=some x:=by rfl)(hx:Loc X.env.scope x:=by first|exact J8 rfl|exact Jw rfl)(hf:X.fn x=true\/X.env.scope.names.lookup x=some .local:=by first|exact .inl rfl|exact .inr rfl)
 (hfr:jQ fr N' X.N scope X.env.scope=true:=by rfl)(hsc:kM scope X.env.scope=true:=by rfl)
 (hs:∀x,Jd iter X.env x=pure x:=by intro _;rfl):Hw X rl (.Assign [.Name x px] (.ListComp elt [⟨tg,iter,ifs,0⟩] scope pos) spos) (Aq i (kD fi fr g ft fe)):=by
 obtain⟨wi,p0,k0⟩:=hi
 refine⟨_,gt N' fr hc p0 hfr hsc (fun y=>(Iq (hg y)).1) (fun y=>(Iq (ht y)).1) (fun y=>(Iq (he y)).1) hN hix hx hf hsw hs,fun R Dv D ok q=>lh fr k0 hg ht he R _ _ q fun v w F1 H1 g1 r1 n1 ⟨hp,q1⟩=>?_⟩
 exact ok.nx _ _ _ _ g1.fs (R.set g1 r1 n1 (fun xs z=>by subst z;cases hp) i) q1
end
def Gq(ρ0:En)(g:Hf)(ft:TB)(fe:TV)(x:Im):Mo (Option Im):=GW (g x ρ0) fun ρ2=>GC (Le ρ0 ρ2) (GW (ft ρ2) fun b=>if b=true then GW (fe ρ2) fun w=>aL (asD w.fz) fun d=>ret (some d)else ret none)
def bJ(b:Im->Mo (Option Im)):List Im->List Im->Mo (List Im)
 | [],acc=>ret acc
 | x::xs,acc=>GW (b x) fun o=>match o with
   | some d=>GC (acc.length<sizeLine) (bJ b xs (acc++[d]))
   | none=>bJ b xs acc
theorem ib(ρ0:En)(g:Hf)(ft:TB)(fe:TV):∀(xs acc:List Im),kB ρ0 g ft fe xs acc=bJ (Gq ρ0 g ft fe) xs acc
 | [],acc=>rfl
 | x::xs,acc=>by
   refine af fun Q=>?_
   show(g x ρ0 fun ρ2=>Le ρ0 ρ2/\ft ρ2 fun b=>if b=true then fe ρ2 fun w=>∃d,w.fz = .d d/\acc.length<sizeLine/\kB ρ0 g ft fe xs (acc++[d]) Q else kB ρ0 g ft fe xs acc Q)↔(GW (Gq ρ0 g ft fe x) _) Q
   simp only[ib ρ0 g ft fe xs]
   have:∀(ρ2:En)(b:Bool),(if b=true then fe ρ2 fun w=>∃d,w.fz = .d d/\acc.length<sizeLine/\bJ (Gq ρ0 g ft fe) xs (acc++[d]) Q else bJ (Gq ρ0 g ft fe) xs acc Q)=(GW (if b=true then GW (fe ρ2) fun w=>aL (asD w.fz) fun d=>ret (some d)else ret none) fun o=>match o with
   | some d=>GC (acc.length<sizeLine) (bJ (Gq ρ0 g ft fe) xs (acc++[d]))
   | none=>bJ (Gq ρ0 g ft fe) xs acc) Q:=by
     intro ρ2 b
     cases b with
     | false=>rfl
     | true =>
       rw[if_pos rfl,if_pos rfl]
       show _=fe ρ2 fun w=>_
       congr 1
       funext w
       refine propext ?_
       show _↔(GW (aL (asD w.fz) fun d=>ret (some d)) _) Q
       rw[bnd_opt,ai]
       simp only[fN]
       exact Mv
   simp only[this]
   exact Mv
theorem m_comp(fi:En->(List Im->Prop)->Prop)(fr:List (Option Nat))(g:Hf)(ft:TB)(fe:TV)(ρ:En):kD fi fr g ft fe ρ=GW (fi ρ) fun xs=>GW (bJ (Gq (dB fr ρ) g ft fe) xs []) fun ds=>ret (.ml ds):=by
 refine af fun Q=>?_
 show(fi ρ fun xs=>kB (dB fr ρ) g ft fe xs [] fun ds=>Q (.ml ds))↔_
 simp only[ib]
 exact Mv
section
variable{α:Type}{b:Im->Mo (Option Im)}
theorem dW{enc:α->Im}(f:α->Option Im):∀(xs:List α)(acc:List Im),(∀x∈xs,b (enc x)=ret (f x))->acc.length+xs.length<=sizeLine->bJ b (xs.map enc) acc=ret (acc++xs.filterMap f)
 | [],acc,_,_=>by simp[bJ]
 | x::xs,acc,h,hl=>by
   show GW (b (enc x)) _=_
   rw[h x Iz,bnd_ret]
   simp at hl
   cases e:f x with
   | none =>
     show bJ b (xs.map enc) acc=_
     rw[dW f xs acc (fun y hy=>h y (Ir _ hy)) (by omega),List.filterMap_cons_none e]
   | some d =>
     show GC (acc.length<sizeLine) (bJ b (xs.map enc) (acc++[d]))=_
     rw[ag (by omega),dW f xs (acc++[d]) (fun y hy=>h y (Ir _ hy)) (by simp;omega),List.filterMap_cons_some e]
     simp
theorem wW{xs:List α}{enc:α->Im}(f:α->Option Im)(h:∀x∈xs,b (enc x)=ret (f x))(hl:xs.length<=sizeLine):bJ b (xs.map enc) []=ret (xs.filterMap f):=by
 have:=dW f xs [] h (by simpa using hl)
 simpa using this
theorem comp_map{xs:List α}{enc:α->Im}(f:α->Im)(h:∀x∈xs,b (enc x)=ret (some (f x)))(hl:xs.length<=sizeLine):bJ b (xs.map enc) []=ret (xs.map f):=by
 rw[wW (fun x=>some (f x)) h hl,N0]
theorem i7{lo:Int}(f:Nat->Im)(h:∀j,j<n->b (.int (lo+j))=ret (some (f j)))(hl:n<=sizeLine):bJ b (aN lo n) []=ret ((IN n).map f) :=
 comp_map (xs:=IN n) f (fun j hj=>h j (JB.mp hj)) (by simpa using hl)
theorem eJ{enc:α->Im}(R:α->Im->Prop){Q:List Im->Prop}:∀(xs:List α)(acc:List Im),(∀x∈xs,∀k:Option Im->Prop,(∀d,R x d->k (some d))->b (enc x) k)->acc.length+xs.length<=sizeLine->(∀ds,Kn R xs ds->Q (acc++ds))->bJ b (xs.map enc) acc Q
 | [],acc,_,_,fin=>by have:=fin [] .nil;rw[JS]at this;exact this
 | x::xs,acc,h,hl,fin=>by
   simp at hl
   refine h x Iz _ fun d r=>?_
   refine⟨by omega,eJ R xs (acc++[d]) (fun y hy=>h y (Ir _ hy)) (by simp;omega) fun ds ps=>?_⟩
   have:=fin (d::ds) (.cons r ps)
   simpa using this
theorem sw{xs:List α}{enc:α->Im}(R:α->Im->Prop){Q:List Im->Prop}(h:∀x∈xs,∀k:Option Im->Prop,(∀d,R x d->k (some d))->b (enc x) k)(hl:xs.length<=sizeLine)(fin:∀ds,Kn R xs ds->Q ds):bJ b (xs.map enc) [] Q :=
 eJ R xs [] h (by simpa using hl) (by simpa using fin)
theorem pW{lo:Int}(P:Im->Prop){Q:List Im->Prop}(h:∀j,j<n->∀k:Option Im->Prop,(∀d,P d->k (some d))->b (.int (lo+j)) k)(hl:n<=sizeLine)(fin:∀ds:List Im,ds.length=n->(∀d∈ds,P d)->Q ds):bJ b (aN lo n) [] Q:=by
 refine sw (xs:=IN n) (fun _ d=>P d) (fun j hj=>h j (JB.mp hj)) (by simpa using hl) fun ds ps=>?_
 refine fin ds ?_ ?_
 · have:=J6 ps;simpa using this.symm
 · clear fin h hl
   intro d hd
   generalize IN n=l at ps
   induction ps with
   | nil=>cases hd
   | cons r _ ih=>exact(Jf.mp hd).elim (fun e=>by rw[e];exact r) ih
end
section
variable(c:Prop)[Decidable c]
theorem ite_nx(a b:En):(if c then ret (Fl.nx a)else ret (Fl.nx b))=ret (Fl.nx (if c then a else b)):=by split<;>rfl
theorem ite_rt(a b:W):(if c then ret (Fl.rt a)else ret (Fl.rt b))=ret (Fl.rt (if c then a else b)):=by split<;>rfl
theorem ite_retd(a b:Im):(if c then ret (W.d a)else ret (W.d b))=ret (W.d (if c then a else b)):=by split<;>rfl
theorem ite_retb(a b:Bool):(if c then ret a else ret b)=ret (if c then a else b):=by split<;>rfl
theorem ite_rets(a b:Im):(if c then ret (some a)else ret (some b))=ret (some (if c then a else b)):=by split<;>rfl
theorem ite_cons{α:Type}(x y:α)(l m:List α):(if c then x::l else y::m)=(if c then x else y)::(if c then l else m):=by split<;>rfl
theorem ite_some{α:Type}(x y:α):(if c then some x else some y)=some (if c then x else y):=by split<;>rfl
theorem ite_d(a b:Im):(if c then W.d a else W.d b)=W.d (if c then a else b):=by split<;>rfl
theorem ite_pi(a b:Int):(if c then IJ a else IJ b)=IJ (if c then a else b):=by split<;>rfl
theorem ite_pb(a b:Bool):(if c then OJ a else OJ b)=OJ (if c then a else b):=by split<;>rfl
theorem itb_tt(b y:Bool):(if b=true then true else y)=(b||y):=by cases b<;>rfl
theorem itb_ff(b y:Bool):(if b=true then y else false)=(b&&y):=by cases b<;>rfl
theorem itb_ft(b y:Bool):(if b=true then false else y)=(!b&&y):=by cases b<;>rfl
theorem itb_tf(b y:Bool):(if b=true then y else true)=(!b||y):=by cases b<;>rfl
end
theorem ae(h:n<=1000):(n<=sizeLine)=True:=by have:=IQ;exact propext ⟨fun _=>trivial,fun _=>by omega⟩
theorem tup2(x y:Im):(match [x,y]with | [x,y]=>some (x,y)|_=>none)=some (x,y):=rfl
theorem bnd_tt{α β:Type}(a:α)(f:α->Mo β):GW (fun Q=>Q a) f=f a:=nr rfl
section
variable{α β:Type}
theorem aw{P:α->Prop}{f:α->Mo β}{Q:β->Prop}(h:∀a,P a->f a Q):GW (anyM P) f Q:=h
theorem bI{P:Prop}{m:Mo α}{Q:α->Prop}(h:P)(h':m Q):GC P m Q:=⟨h,h'⟩
theorem cM{c:Prop}[Decidable c]{a b:Mo α}{Q:α->Prop}(h:c->a Q)(h':¬c->b Q):(if c then a else b) Q:=by split<;>simp_all
end
theorem aP{Q:Im->Prop}(h:Q d):ret (Fl.rt (.d d)) (xx Q):=⟨d,rfl,h⟩
theorem jC{Q:Im->Prop}{d:List Im}(h:Q (.list d)):ret (Fl.rt (.ml d)) (xx Q):=⟨_,rfl,h⟩
section
variable{α:Type}{k:En->Mo Fl}{Q:Fl->Prop}
theorem Ft{m:Mo α}{h:α->Mo Fl}(z:GW m (fun a=>sq (h a) k) Q):sq (GW m h) k Q:=z
theorem Fq{o:Option α}{h:α->Mo Fl}(z:aL o (fun a=>sq (h a) k) Q):sq (aL o h) k Q:=by rw[yq];exact z
def kc(k1 k2:En->Mo Fl):En->Mo Fl:=fun ρ=>sq (k1 ρ) k2
theorem kc_ap(k1 k2:En->Mo Fl)(ρ:En):kc k1 k2 ρ=sq (k1 ρ) k2:=nr rfl
theorem sq_sq(m:Mo Fl)(k1 k2:En->Mo Fl):sq (sq m k1) k2=sq m (kc k1 k2):=by
 refine af fun Q=>?_
 show m _↔m _
 have:∀fl:Fl,(sq (match fl with | .nx ρ=>k1 ρ | .rt w=>ret (.rt w) | .bk ρ=>ret (.bk ρ) | .ct ρ=>ret (.ct ρ)) k2) Q=(match fl with | .nx ρ=>kc k1 k2 ρ | .rt w=>ret (.rt w) | .bk ρ=>ret (.bk ρ) | .ct ρ=>ret (.ct ρ):Mo Fl) Q:=by intro fl;cases fl<;>rfl
 exact Iff.of_eq (congrArg m (funext this))
theorem aE{P:α->Prop}{f:α->Mo Fl}(z:∀a,P a->sq (f a) k Q):sq (GW (anyM P) f) k Q:=z
end
theorem pk_sc(x:List Int):L2.VL.W.peek (.sc x) = .sc x:=rfl
theorem fz_sc(x:List Int):(W.sc x).fz = .sc x:=rfl
theorem arg_sc(x:List Int):cY (.sc x)=true:=rfl
theorem isPk_sc(x:List Int):(W.sc x).isPk=false:=rfl
section
variable{X:Cx}{rl:RlT}{a b c e:Expr}{es:List Expr}{fa fb fc:TV}{fs:G_}{pos p p2:Pos}{ρ:En}
def rV:List W->(W->Prop)->Prop:=fun ws Q=>∃ns,ws=[.sc ns]/\Q (.d (.int ns.length))
theorem uC:dZ X rl (fun xs H Q=>∃p ys,xs=[.ref p]/\(Hj X.K H p ys\/Hi X.K H p ys)/\Q (.int ys.length) H) rV:=fun{F H vs ws} Qd Q s ra r ⟨ns,ew,q⟩ k=>by
 subst ew
 obtain⟨v,rfl,⟨a,rfl,sq⟩⟩:=mP r
 exact⟨a,_,rfl,.inl (iJ s sq),k _ (.d _) _ _ (Grow.refl s ra) (by rw[IE];exact .int _) trivial q⟩
theorem jp(hm:X.mg "len" = none)(ha:Hs X rl [a] fs)(hg:Gl X "len" := by rfl)(he:IC [a] X.env=(false,eval a X.env)::IC [] X.env:=by rfl)(hpl:(Kh pos (IC [] X.env)).any (·.1)=false:=by rfl) :
 PV X rl (.Call (.Name "len" p) [a] [] pos) (cA rV fs):=dv cy uC hm boot_len ha hg (by decide) (by decide) he hpl
def asSc:W->Option (List Int)
 | .sc ns=>some ns
 | _=>none
theorem asSc_s(ns:List Int):asSc (.sc ns)=some ns:=rfl
theorem jZ{w:W}{i:List Int}:asSc w=some i↔w = .sc i:=by
 constructor
 · intro h;unfold asSc at h;split at h<;>simp_all
 · rintro rfl;rfl
theorem m_gLenS(w:W):rV [w]=aL (asSc w) fun ns=>ret (.d (.int ns.length)):=by
 refine af fun Q=>?_
 simp only[rV,ai,jZ,ret,J9,and_true]
def AB:W->W->(W->Prop)->Prop:=fun x y Q=>∃ns i n,x = .sc ns/\y = .d (.int i)/\atI ns i=some n/\Q (.d (.int n))
theorem eh(f:α->β)(xs:List α)(i:Int):atI (xs.map f) i=(atI xs i).map f:=by
 unfold atI
 rw[IE]
 cases ixN xs.length i<;>simp
theorem xG:G7 X rl (FH X.K) AB:=fun{F H x y wx wy} Qd Q s ra r1 r2 q k=>by
 obtain⟨ns,i,n,rfl,rfl,e,q⟩:=q
 obtain⟨a,rfl,sq⟩:=r1
 have ey:=ay r2
 subst ey
 exact .inl ⟨a,_,i,.int n,rfl,rfl,iJ s sq,by rw[eh,e];rfl,k _ (.d _) _ _ (Grow.refl s ra) (.int n) trivial q⟩
theorem xX(ha:PV X rl a fa)(hb:PV X rl b fb)(hs:fQ b:=by exact fun _ _=>rfl):PV X rl (.Subscript a b pos) (EY AB fa fb):=ij xG ha hb fun _ _ p1 p2=>rg ll p1 p2 hs
theorem m_gIxS(x y:W):AB x y=aL (asSc x) fun ns=>aL (asI y) fun i=>aL (atI ns i) fun n=>ret (.d (.int n)):=by
 refine af fun Q=>?_
 simp only[AB,ai,jZ,cq,ret]
 exact⟨fun⟨i,j,z,a,b,c,q⟩=>⟨i,a,j,b,z,c,q⟩,fun⟨i,a,j,b,z,c,q⟩=>⟨i,j,z,a,b,c,q⟩⟩
theorem oj{K:W.Frag}{F:Hp}:∀ns:List Int,Reps K F (ns.map V.int) (ns.map IJ)
 | []=>.nil
 | n::ns=>.cons (.int n) (oj ns)
def AS(fa:TV)(fl fh:Hb):TV:=fun ρ Q=>fa ρ fun w=>fl ρ fun l=>fh ρ fun h=>∃ns:List Int,w = .sc ns/\Q (.ml (cutD (ns.map .int) l h))
theorem xQ{lo hi:Option Expr}{fl fh:Hb}(ha:PV X rl a fa)(hl:Ht X rl lo fl)(hh:Ht X rl hi fh):PV X rl (.Subscript a (.Slice lo hi none p2) pos) (AS fa fl fh):=by
 obtain⟨t,p,k⟩:=ha
 obtain⟨tl,pl,kl⟩:=hl
 obtain⟨th,ph,kh⟩:=hh
 refine⟨_,kU u6 p pl ph,fun R Qd Q q h=>k R _ _ q fun v w F1 H1 g1 r1 n1 q1=>?_⟩
 refine kl (R.grow g1) _ _ q1 fun l F2 H2 g2 q2=>kh ((R.grow g1).grow g2) _ _ q2 fun u F3 H3 g3 q3=>?_
 obtain⟨ns,rfl,q3⟩:=q3
 obtain⟨a,rfl,sq⟩:=(r1.grow g2).grow g3
 have g:=(g1.trans g2).trans g3
 exact⟨a,_,rfl,iJ g3.sub sq,fun p hp=>h _ (.ml _) _ _ (g.trans (Grow.laid g3.sub g3.reel hp)) (cx g3.sub g3.reel hp ((oj ns).cut l u)) (fun a ea=>by cases ea;exact g.freeB hp) q3⟩
theorem m_vSlS{fl fh:Hb}:AS fa fl fh ρ=GW (fa ρ) fun w=>GW (fl ρ) fun l=>GW (fh ρ) fun h=>aL (asSc w) fun ns=>ret (.ml (cutD (ns.map .int) l h)):=by
 refine af fun Q=>?_
 simp only[AS,GW,ai,jZ,ret]
end
def Fu(K:W.Frag)(pre:List W->Prop):Sp:=fun vs H Q _=>∃F ws,bm F H/\dh K RlT.no F H vs ws/\ws.all cY=true/\pre ws/\∀r F' H',H r=none->Grow RlT.no F H F' H'->Hq (RlT.at' r BM) F' H'->Q (.ref r) H'
structure DfnR (P:IZ) (w:JN) (K:W.Frag) (mg:Str->Option Iw) (base:Heap) (x:Str) (ps:List Str) (k:Nat) (pre:List W->Prop):Prop where
 ex:∃f fd,mg x=some (.ref f)/\W.keepIn K (.ref f)=true/\Binds K fd ps []/\FnOk P w K mg base Ib k f fd ps (Fu K pre)
def Ga:Option W->Option W
 | some .reel=>none
 | o=>o
def nR(ρ:En):En:=ρ.map Ga
def W.isR:W->Bool
 | .reel=>true
 | _=>false
def x6(i:Nat)(pre:List W->Prop)(fs:G_)(t:Ha):Ha:=fun D ρ=>fs ρ fun ws=>ws.all cY=true/\pre ws/\t ⟨fun ρ'=>D.nx (nR ρ'),fun w=>w.isR=false/\D.rt w,fun ρ'=>D.bk (nR ρ'),fun ρ'=>D.ct (nR ρ')⟩ (ρ.set i (some .reel))
theorem wF{r:Addr}(g:Grow RlT.no F₀ H₀ F H)(ra:Hq (RlT.at' r BM) F H):Grow (RlT.at' r BM) F₀ H₀ F H:=⟨fun b o e _=>g.same b o e (by simp),g.fs,g.sub,g.old,ra⟩
theorem ls{r:Addr}{n':Nat}(g:Grow (RlT.at' r n') F₀ H₀ F H)(n:H₀ r=none):Grow RlT.no F₀ H₀ F H:=⟨fun b o e _=>g.same b o e (fun z=>by cases z;rw[n]at e;cases e),g.fs,g.sub,g.old,fun _ z=>by cases z⟩
theorem yD{K:W.Frag}{r:Addr}{w:W}(h:cC K RlT.no F H v w)(ne:∀a,w.own=true\/(∃xs,w = .pk xs)->v = .ref a->a≠r):cC K (RlT.at' r BM) F H v w:=by
 cases w with
 | d x=>exact h
 | ml xs=>obtain⟨a,vs,e,f,_,g⟩:=h;exact⟨a,vs,e,f,fun z=>ne a (.inl rfl) e (by cases z;rfl),g⟩
 | pk xs=>obtain⟨a,vs,e,f,_,g⟩:=h;exact⟨a,vs,e,f,fun z=>ne a (.inr ⟨_,rfl⟩) e (by cases z;rfl),g⟩
 | reel=>obtain⟨_,z,_⟩:=h;cases z
 | vv u=>exact h
 | md kvs=>obtain⟨a,vs,e,f,_,g⟩:=h;exact⟨a,vs,e,f,fun z=>ne a (.inl rfl) e (by cases z;rfl),g⟩
 | mk kvs=>obtain⟨a,vs,e,f,_,g⟩:=h;exact⟨a,vs,e,f,fun z=>ne a (.inl rfl) e (by cases z;rfl),g⟩
 | nt ds=>exact h
 | lk=>trivial
 | sc ns=>exact h
 | fd _=>exact h
 | fw _=>exact h
 | xc _ _=>exact h
 | dp _ _=>exact h
theorem ox{K:W.Frag}{r:Addr}{n':Nat}{w:W}(h:cC K (RlT.at' r n') F H v w)(n:w.isR=false):cC K RlT.no F H v w:=by
 cases w with
 | d x=>exact h
 | ml xs=>obtain⟨a,vs,e,f,_,g⟩:=h;exact⟨a,vs,e,f,by simp,g⟩
 | pk xs=>obtain⟨a,vs,e,f,_,g⟩:=h;exact⟨a,vs,e,f,by simp,g⟩
 | reel=>cases n
 | vv u=>exact h
 | md kvs=>obtain⟨a,vs,e,f,_,g⟩:=h;exact⟨a,vs,e,f,by simp,g⟩
 | mk kvs=>obtain⟨a,vs,e,f,_,g⟩:=h;exact⟨a,vs,e,f,by simp,g⟩
 | nt ds=>exact h
 | lk=>trivial
 | sc ns=>exact h
 | fd _=>exact h
 | fw _=>exact h
 | xc _ _=>exact h
 | dp _ _=>exact h
theorem kZ{i:Nat}{w:W}(h:(nR ρ)[i]?=some (some w)):ρ[i]?=some (some w)/\w.isR=false:=by
 unfold nR at h
 rw[Jj]at h
 cases e:ρ[i]? with
 | none=>rw[e]at h;cases h
 | some o =>
   rw[e]at h
   cases o with
   | none=>cases h
   | some u=>cases u<;>first|(cases h;exact⟨rfl,rfl⟩)|cases h
theorem VR.out{K:W.Frag}{r:Addr}{n':Nat}(R:VR K (RlT.at' r n') F₀ H₀ F H σ ρ)(n:H₀ r=none):VR K RlT.no F₀ H₀ F H σ (nR ρ):=by
 refine⟨ls R.g n,fun i w e=>?_,fun i j x y v hn e1 e2=>R.ap i j x y v hn (kZ e1).1 (kZ e2).1,fun i xs e=>R.np i xs (kZ e).1,?_⟩
 · obtain⟨e1,e2⟩:=kZ e
   obtain⟨v,h1,h2,h3⟩:=R.sl i w e1
   exact⟨v,h1,ox h2 e2,h3⟩
 · have:=R.len;simpa[nR]using this
theorem VR.into{K:W.Frag}{r:Addr}(R:VR K RlT.no F₀ H₀ F H σ ρ)(n:H r=none)(g:Grow RlT.no F H F' H')(ra:Hq (RlT.at' r BM) F' H')(i:Nat):VR K (RlT.at' r BM) F₀ H₀ F' H' (σ.set i (some (.ref r))) (ρ.set i (some .reel)):=by
 have R1:=R.grow g
 refine⟨wF R1.g ra,fun j w e=>?_,fun j k x y v hn e1 e2 o1 o2 s1 s2=>?_,fun j xs e=>?_,by simp[R.len]⟩
 · by_cases hj:i=j
   · subst hj
     have hi:i<ρ.length:=by
      rw[JP]at e
      by_cases hi:i<ρ.length
      · exact hi
      · simp[hi]at e
     rw[IW hi]at e
     cases e
     exact⟨.ref r,by rw[IW (by rw[<- R.len];exact hi)],⟨r,rfl,rfl⟩,trivial⟩
   · rw[IM hj]at e
     obtain⟨v,h1,h2,h3⟩:=R1.sl j w e
     refine⟨v,by rw[IM hj];exact h1,yD h2 fun a ow ea z=>?_,h3⟩
     obtain⟨v0,h10,h20,_⟩:=R.sl j w e
     rw[h1]at h10
     cases h10
     rcases ow with ow|⟨xs,rfl⟩
     · obtain⟨b,o,eb,hb⟩:=h20.live ow
       rw[ea]at eb
       cases eb
       rw[z,n]at hb
       cases hb
     · exact absurd e (R.np j xs)
 · have key:∀(m:Nat)(z:W),(ρ.set i (some W.reel))[m]?=some (some z)->z.own=true->i≠m/\ρ[m]?=some (some z):=fun m z e o=>by
     by_cases hm:i=m
     · subst hm
       rw[JP]at e
       split at e
       · split at e
         · cases e;cases o
         · cases e
       · exact absurd rfl (by assumption)
     · rw[IM hm]at e;exact⟨hm,e⟩
   obtain⟨n1,d1⟩:=key j x e1 o1
   obtain⟨n2,d2⟩:=key k y e2 o2
   rw[IM n1]at s1
   rw[IM n2]at s2
   exact R1.ap j k x y v hn d1 d2 o1 o2 s1 s2
 · rw[JP]at e
   split at e
   · split at e
     · cases e
     · cases e
   · exact R1.np j xs e
section
variable{X:Cx}{st:Stmt}{rest body:List Stmt}{t u:Ha}{a b c e:Expr}{es:List Expr}{fa fb:TV}{fs:G_}{pos p px cpos:Pos}{ρ:En}
end
def E1:Fl->Mo Fl
 | .nx ρ=>ret (.nx (nR ρ))
 | .rt w=>GC (w.isR=false) (ret (.rt w))
 | .bk ρ=>ret (.bk (nR ρ))
 | .ct ρ=>ret (.ct (nR ρ))
theorem s_newR(i:Nat)(pre:List W->Prop)(fs:G_)(t:Ha)(ρ:En):mS (x6 i pre fs t) ρ=GW (fs ρ) fun ws=>GC (ws.all cY=true) (GC (pre ws) (GW (mS t (ρ.set i (some .reel))) E1)):=nr rfl
theorem nR_nil:nR []=[]:=rfl
theorem nR_r(l:En):nR (some .reel::l)=none::nR l:=rfl
theorem nR_n(l:En):nR (none::l)=none::nR l:=rfl
theorem nR_d(x:Im)(l:En):nR (some (.d x)::l)=some (.d x)::nR l:=rfl
theorem nR_ml(x:List Im)(l:En):nR (some (.ml x)::l)=some (.ml x)::nR l:=rfl
theorem nR_sc(x:List Int)(l:En):nR (some (.sc x)::l)=some (.sc x)::nR l:=rfl
def gj(K:W.Frag):Sp:=fun vs H Q _=>∃(a:Addr)(ns:List Int),vs=[.ref a]/\Hj K H a (ns.map V.int)/\ns.length<=63/\∀H',Q (.bl true) H'
def D5:VEnds:=⟨fun _=>False,fun w=>w = .d (.bool true),fun _=>False,fun _=>False⟩
def xu:Fl->Prop
 | .rt w=>w = .d (.bool true)
 | _=>False
theorem un_law(m:Mo Fl):GW m E1 xu=m xu:=by
 show m (fun fl=>E1 fl xu)=m xu
 congr 1
 funext fl
 cases fl with
 | rt w=>exact propext ⟨fun⟨_,h⟩=>h,fun h=>⟨by rw[show w = .d (.bool true)from h];rfl,h⟩⟩
 | _=>rfl
theorem wq:ret (Fl.rt (.d (.bool true))) xu:=rfl
section
variable{P:IZ}{w:JN}{K:W.Frag}{mg:Str->Option Iw}{base:Heap}{st:Stmt}{N:List Str}{k:Nat}{t:Ha}{x:Str}
theorem vW{f:Addr}(F:Fun K "law" "law" st f fd)(S:FnScope N [x] (defScope st))
 (hbody:∀(cdv:Iw)(A:J4)(outer:List Env)(s:IB)(H:Hp)(E:XK),Room k (A.deeper (MR "law" (defScope st) s.heap.objs.size f cdv))->jm (lA Ib P w K mg base N "law" (defScope st) f cdv A outer s H E).nox RlT.no (defBody st) t)
 (hread:∀ns:List Int,ns.length<=63->mS t (cu N [.sc ns]) xu):FnOk P w K mg base Ib (k+1) f fd [x] (gj K):=by
 refine F.ok S (fun vs H Q E h=>?_) (fun cdv A outer s H vs Q E hr h=>?_)
 · obtain⟨a,ns,rfl,_⟩:=h
   rfl
 · obtain⟨a,ns,rfl,hS,hl,kq⟩:=h
   obtain⟨T,p,kk⟩:=hbody cdv A outer s H E hr
   have rw0:dh K RlT.no H H [.ref a] [.sc ns]:=.cons ⟨a,rfl,hS⟩ .nil
   have R:VR K RlT.no H H H H (start N [.ref a]) (cu N [.sc ns]):=cD (.refl H) (fun _ z=>by cases z) rw0 rfl
   refine⟨T,p,kk R D5 _ ⟨fun _ _ _ _ _ _ z=>Jq z,?_,fun _ _ _ _ _ _ z=>Jq z,fun _ _ _ _ _ _ z=>Jq z⟩ (hread ns hl)⟩
   rintro v w1 F1 H1 g1 r1 n1 z
   have z:w1 = .d (.bool true):=z
   subst z
   have e:=iK r1
   subst e
   exact kq H1
end
def nq(i:Nat)(fa:TV):Ha:=fun D ρ=>fa ρ fun w=>∃d,w.fz = .d d/\D.nx (ρ.set i (some (.d d)))
section
variable{X:Cx}{rl:RlT}{st:Stmt}{rest body:List Stmt}{t u:Ha}{a b c e:Expr}{es:List Expr}{fa fb:TV}{fs:G_}{f:TB}{pos p:Pos}{ρ:En}
theorem aD(i:Nat){x:Str}(hN:X.N.Nodup)(he:PV X rl e fa)(hi:X.N[i]?=some x:=by rfl)(hx:Loc X.env.scope x:=by first|exact J8 rfl|exact Jw rfl)
 (hs:Ku e (some (.Name x pos')) pos.line X.env=pure false:=by rfl)(hf:X.fn x=true\/X.env.scope.names.lookup x=some .local:=by first|exact .inl rfl|exact .inr rfl) :
 Hw X rl (.Assign [.Name x pos'] e pos) (nq i fa):=by
 obtain⟨t,p,k⟩:=he
 refine⟨_,fq hN hi hx p hs hf,fun R Dv D ok q=>k R _ _ q fun v w F1 H1 g1 r1 n1 ⟨d,ed,q1⟩=>?_⟩
 obtain⟨F2,g2,s2,r2⟩:=cC.fz g1 r1 n1
 rw[ed]at r2
 exact ok.nx _ _ _ _ g2.fs (R.set g2 r2 trivial (fun xs z=>by cases z) i) q1
theorem s_setZ(i:Nat):mS (nq i fa) ρ=GW (fa ρ) fun w=>aL (asD w.fz) fun d=>ret (.nx (ρ.set i (some (.d d)))):=by
 show(GW (fa ρ) fun w=>fun(Q:Fl->Prop)=>∃d,w.fz = .d d/\Q (.nx (ρ.set i (some (.d d)))))=_
 congr 1;funext w
 refine af fun Q=>?_
 simp only[ai,fN,ret]
end
section
variable{X:Cx}{rl:RlT}{elt tg iter:Expr}{ifs:List Expr}{scope:Scope}{pos:Pos}{fi:En->(List Im->Prop)->Prop}{g:Hf}{ft:TB}{fe:TV}
end
def aK(xs:List Int):Im:=.tuple (xs.map .int)
def fY(xs:List Int):Im:=.list (xs.map .int)
theorem cK:∀{xs ys:List Int},xs.map IJ=ys.map IJ↔xs=ys:=by
 intro xs ys
 constructor
 · intro h
   have:=congrArg iW h
   rw[cB,cB]at this
   exact Jh this
 · rintro rfl;rfl
theorem kG{xs ys:List Int}:aK xs=aK ys↔xs=ys:=by
 unfold aK
 rw[Kf,cK]
theorem rE{xs ys:List Int}:fY xs=fY ys↔xs=ys:=by
 unfold fY
 rw[NE,cK]
theorem b_{α:Type}{f:α->Im}(h:∀a b,f a=f b↔a=b):∀{xs ys:List α},xs.map f=ys.map f↔xs=ys
 | [],[]=>by simp
 | [],_::_=>by simp
 | _::_,[]=>by simp
 | x::xs,y::ys=>by simp[h,b_ h (xs:=xs) (ys:=ys)]
def A4(xs:List (List Int)):Im:=.tuple (xs.map aK)
theorem qJ{xs ys:List (List Int)}:A4 xs=A4 ys↔xs=ys:=by
 unfold A4
 rw[Kf,b_ fun _ _=>kG]
theorem lK{xs:List α}{i:Int}(h0:0<=i)(h1:i<(xs.length:Int)):atI xs i=some (xs[i.toNat]'(by omega)):=by
 obtain⟨n,rfl⟩:=JC h0
 exact cp (Iy (by omega))
section
variable{α σ:Type}{fl:List Nat}{b:Im->En->Mo Fl}{k:En->Mo Fl}{Q:Fl->Prop}{ρ:En}
theorem gL{f:TB}{t:Ha}(st:σ->En)(c:σ->Bool)(nxt:σ->σ)(μ:σ->Nat)(I:σ->Prop)(s:σ)(h0:ρ=st s)(hs:I s)
 (hf:∀s,I s->f (st s)=ret (c s))(ht:∀s,I s->c s=true->I (nxt s)/\μ (nxt s)<μ s/\∃ρ',mS t (st s)=ret (.nx ρ')/\fo fl ρ'=st (nxt s))(fin:∀s,I s->c s=false->k (st s) Q):sq (gb fl f t ρ) k Q:=by
 subst h0
 obtain⟨s',a,b,e⟩:=mT st c nxt μ I hf ht s hs
 rw[e]
 exact fin s' a b
theorem pG{xs:List α}{enc:α->Im}(st:σ->En)(f:σ->α->σ)(s:σ)(I:σ->Prop)(h0:ρ=st s)(hx:xs'=xs.map enc)(hs:I s)(step:∀x∈xs,∀s,I s->I (f s x)/\∃ρ',b (enc x) (st s)=ret (.nx ρ')/\fo fl ρ'=st (f s x))
 (fin:k (st (xs.foldl f s)) Q):sq (bU fl b xs' ρ) k Q:=by
 subst h0 hx
 rw[oZ st f s I hs step]
 exact fin
theorem lw{lo:Int}(st:Nat->En)(h0:ρ=st 0)(step:∀i,i<n->∃ρ',b (.int (lo+i)) (st i)=ret (.nx ρ')/\fo fl ρ'=st (i+1))(fin:k (st n) Q):sq (bU fl b (aN lo n) ρ) k Q:=by
 subst h0
 rw[mB st step]
 exact fin
theorem wI{xs:List α}{enc:α->Im}(p:α->Bool)(w:α->W)(hx:xs'=xs.map enc)(step:∀x∈xs,(p x=true->b (enc x) ρ=ret (.rt (w x)))/\(p x=false->∃ρ',b (enc x) ρ=ret (.nx ρ')/\fo fl ρ'=ρ))
 (hit:∀x∈xs,p x=true->Q (.rt (w x)))(fin:(∀x∈xs,p x=false)->k ρ Q):sq (bU fl b xs' ρ) k Q:=by
 subst hx
 rw[o6 p w step]
 cases h:xs.find? p with
 | none=>exact fin fun x hx=>by have:=List.find?_eq_none.mp h x hx;simpa using this
 | some x=>exact hit x (Nu h) (by have:=List.find?_some h;exact this)
def Gg(fl:List Nat)(J:En->Prop)(k:En->Mo Fl)(Q:Fl->Prop):Fl->Prop
 | .nx ρ=>J (fo fl ρ)
 | .ct ρ=>J (fo fl ρ)
 | .bk ρ=>k (fo fl ρ) Q
 | .rt w=>Q (.rt w)
theorem dm{J:En->Prop}{ρ:En}(h:J (fo fl ρ)):Gg fl J k Q (.nx ρ):=h
theorem oX{J:En->Prop}{w:W}(h:Q (.rt w)):Gg fl J k Q (.rt w):=h
theorem lm{xs:List α}{enc:α->Im}(J:Nat->En->Prop)(hx:xs'=xs.map enc)(h0:J 0 ρ)
 (step:∀i (h:i<xs.length) ρ,J i ρ->∀K:Fl->Prop,(∀r,Gg fl (J (i+1)) k Q r->K r)->b (enc xs[i]) ρ K)(fin:∀ρ,J xs.length ρ->k ρ Q):sq (bU fl b xs' ρ) k Q:=by
 subst hx
 refine o7 (Q:=fun r=>(match r with | .nx ρ=>k ρ | .rt w=>ret (.rt w) | .bk ρ=>ret (.bk ρ) | .ct ρ=>ret (.ct ρ):Mo Fl) Q) J h0 (fun i hi ρ j K hK=>step i hi ρ j K fun r hr=>hK r ?_) fin
 cases r<;>exact hr
theorem fB{lo:Int}(J:Nat->En->Prop)(h0:J 0 ρ)
 (step:∀i,i<n->∀ρ,J i ρ->∀K:Fl->Prop,(∀r,Gg fl (J (i+1)) k Q r->K r)->b (.int (lo+i)) ρ K)(fin:∀ρ,J n ρ->k ρ Q):sq (bU fl b (aN lo n) ρ) k Q:=by
 refine rF (Q:=fun r=>(match r with | .nx ρ=>k ρ | .rt w=>ret (.rt w) | .bk ρ=>ret (.bk ρ) | .ct ρ=>ret (.ct ρ):Mo Fl) Q) J h0 (fun i hi ρ j K hK=>step i hi ρ j K fun r hr=>hK r ?_) fin
 cases r<;>exact hr
theorem ly{lo:Int}(step:∀i,i<n->∀K:Fl->Prop,(∀r,Gg fl (fun ρ'=>ρ'=ρ) k Q r->K r)->b (.int (lo+i)) ρ K)(fin:k ρ Q):sq (bU fl b (aN lo n) ρ) k Q :=
 fB (fun _ ρ'=>ρ'=ρ) rfl (fun i h ρ' e K hK=>by subst e;exact step i h K hK) fun ρ' e=>by subst e;exact fin
end
section
variable{α β:Type}{b:Im->Mo (Option Im)}{k:List Im->Mo β}{Q:β->Prop}
theorem cX{xs:List α}{enc:α->Im}(f:α->Im)(hx:xs'=xs.map enc)(h:∀x∈xs,b (enc x)=ret (some (f x)))(hl:xs.length<=sizeLine)(fin:k (xs.map f) Q):GW (bJ b xs' []) k Q:=by
 subst hx;rw[comp_map f h hl];exact fin
theorem ic{lo:Int}(f:Nat->Im)(h:∀j,j<n->b (.int (lo+j))=ret (some (f j)))(hl:n<=sizeLine)(fin:k ((IN n).map f) Q):GW (bJ b (aN lo n) []) k Q:=by
 rw[i7 f h hl];exact fin
theorem lH{lo:Int}(P:Im->Prop)(h:∀j,j<n->∀K:Option Im->Prop,(∀d,P d->K (some d))->b (.int (lo+j)) K)(hl:n<=sizeLine)(fin:∀ds:List Im,ds.length=n->(∀d∈ds,P d)->k ds Q):GW (bJ b (aN lo n) []) k Q :=
 pW P h hl fin
end
section
variable{α β:Type}
theorem oW{i:Int}{k:Im->Mo β}{Q:β->Prop}(h0:0<=i)(h1:i<(xs.length:Int))(h:∀z∈xs,k z Q):aL (atI xs i) k Q:=by
 obtain⟨z,e,m⟩:=Ag h0 h1
 rw[e]
 exact h z m
theorem mh{xs:List α}{enc:α->Im}{i:Int}{k:Im->Mo β}{Q:β->Prop}(P:α->Prop)(hx:xs'=xs.map enc)(h0:0<=i)(h1:i<(xs.length:Int))(hP:∀z∈xs,P z)(h:∀z,P z->k (enc z) Q):aL (atI xs' i) k Q:=by
 subst hx
 refine oW h0 (by simpa using h1) fun z mz=>?_
 obtain⟨x,hx,rfl⟩:=Jo.mp mz
 exact h x (hP x hx)
end
theorem dU{α:Type}{enc:α->Im}{P:α->Prop}:∀{ds:List Im},(∀d∈ds,∃x,P x/\d=enc x)->∃xs:List α,ds=xs.map enc/\xs.length=ds.length/\∀x∈xs,P x
 | [],_=>⟨[],rfl,rfl,by simp⟩
 | d::ds,h=>by
   obtain⟨x,hx,e⟩:=h d Iz
   obtain⟨xs,e1,e2,e3⟩:=dU (ds:=ds) fun d hd=>h d (Ir _ hd)
   exact⟨x::xs,by rw[e,e1];rfl,by simp[e2],fun y hy=>(Jf.mp hy).elim (fun z=>by rw[z];exact hx) (e3 y)⟩
section
variable{X:Cx}{rl:RlT}{a b c o e:Expr}{es:List Expr}{fa fb:TV}{fs:G_}{pos p apos cpos:Pos}{ρ:En}
end
end L2.VL
namespace L2
section
variable{X:Cx}{pos:Pos}
end
end L2
namespace L2.VL
section
variable{X:Cx}{rl:RlT}{es:List Expr}{pos:Pos}{ρ:En}
end
def Cs:=Ip @bnd_tt (Ip @bnd_ret (Ip @bnd_bnd (Ip @bnd_grd (Ip @bnd_stk (Ip @bnd_ite (Ip @bnd_opt (Ip @opt_some (Ip @opt_none (Ip @grd_T (Ip @sq_nx (Ip @sq_rt (Ip @sq_bk (Ip @sq_ct (Ip @sq_grd (Ip @sq_stk (Ip @sq_ite (Ip @sq_sq (@kc_ap))))))))))))))))))
def Cv:=Ip @ite_nx (Ip @ite_rt (Ip @ite_retd (Ip @ite_retb (Ip @ite_rets (Ip @ite_cons (Ip @ite_some (Ip @ite_d (Ip @ite_pi (Ip @ite_pb (Ip @itb_tt (Ip @itb_ff (Ip @itb_ft (Ip @itb_tf (@ite_self.{1}))))))))))))))
def Cz:=Ip @m_vC (Ip @m_vVar (Ip @m_vNil (Ip @m_vCons (Ip @m_vOp (Ip @m_gI (Ip @m_gI0 (Ip @m_vNeg (Ip @m_vTest (Ip @m_gEqD (Ip @m_vAnd (Ip @m_vOr (Ip @m_vOrV (Ip @m_vIf (Ip @m_vTup (Ip @m_vLst (Ip @m_gIx (Ip @m_vCall (Ip @m_gAbs (@m_gLen)))))))))))))))))))
def Cy:=Ip @m_gTupO (Ip @m_gLstO (Ip @m_gIsN (Ip @m_gI2 (Ip @m_gDivmod (Ip @m_gInt1 (Ip @m_oNo (Ip @m_oIt (Ip @m_vSlL (Ip @m_vSlA (Ip @m_gCatD (Ip @m_gCatA (Ip @m_vLR1 (Ip @m_iL (Ip @m_iT (Ip @m_iR1 (@m_iR2))))))))))))))))
def Cw:=Ip @m_iZb (Ip @m_vUse (Ip @m_gRepT (Ip @m_gRepL (Ip @m_vRevT (Ip @m_gEqS (Ip @m_comp (Ip @m_gLenS (Ip @m_gIxS (@m_vSlS)))))))))
def Co:=Ip @s_next (Ip @s_seq (Ip @s_ret (Ip @s_ifS (Ip @s_set (Ip @s_setZ (Ip @s_never (Ip @s_asg (Ip @s_par (Ip @s_aug (Ip @s_frz (Ip @s_mut (Ip @s_for (Ip @bdy_ap (Ip @s_while (Ip @s_newR (Ip @m_hName (@m_hNil_n)))))))))))))))))
def Cn:=Ip @m_hCons_c (Ip @m_hTup (@m_gApp))
def Cr:=Ip @pk_sc (Ip @fz_sc (Ip @arg_sc (Ip @isPk_sc (Ip @asI_d (Ip @asB_d (Ip @asS_d (Ip @asD_d (Ip @asT_d (Ip @asL_d (Ip @asL_ml (Ip @asL_pk (Ip @asQ_d (Ip @asQ_ml (Ip @asQ_pk (Ip @lstD_l (Ip @tupD_t (Ip @toI_i (Ip @toI_b (Ip @isiT_t (Ip @asM_ml (Ip @asSc_s (Ip @two_d (@fz_d)))))))))))))))))))))))
def Cq:=Ip @fz_ml (Ip @fz_pk (Ip @fz_reel (Ip @fz_vv (Ip @pk_d (Ip @pk_ml (Ip @pk_reel (Ip @pk_vv (Ip @dat_d (Ip @dat_ml (Ip @dat_pk (Ip @isPk_d (Ip @isPk_ml (Ip @isPk_reel (Ip @dats_nil (Ip @dats_d (Ip @arg_d (Ip @arg_reel (Ip @item_l (Ip @item_t (Ip @len_l (Ip @len_t (Ip @seq_l (@seq_t)))))))))))))))))))))))
def Cp:=Ip @at0 (Ip @at1 (Ip @blsD_map (Ip @tup2 (Ip @fo_nil (Ip @fo_cons (Ip @nR_nil (Ip @nR_r (Ip @nR_n (Ip @nR_d (Ip @nR_ml (Ip @nR_sc (Ip @le_nil (Ip @le_cn (Ip @le_cs (Ip @end_d (Ip @end_ml (Ip @end_nx (@un_law))))))))))))))))))
def Cu:=Ip @IP.{0,0} (Ip @Nh.{0,0} (Ip @Ju.{0} (Ip @LF.{0} (Ip @List.getElem?_cons_zero.{0} (Ip @NL.{0} (Ip @List.set_cons_zero.{0} (Ip @List.set_cons_succ.{0} (Ip @List.set_nil.{0} (Ip @NO.{0} (Ip @Mg.{0} (Ip @List.all_cons.{0} (Ip @List.all_nil.{0} (Ip @List.head?_cons.{0} (Ip @Bool.and_true (Ip @PM.injEq.{0} (Ip @Option.map_some.{0,0} (Ip @Option.bind_some.{0,0} (Ip @Option.bind_none.{0,0} (Ip @Option.join_some.{0} (Ip @Option.join_none.{0} (Ip @Nj (Ip @and_self (@and_true)))))))))))))))))))))))
def Ct:=Ip @true_and (Ip @shaped_i (Ip @eqv_ii (Ip @shaped_b (Ip @Bool.true_and (Ip @Bool.and_self (Ip @Bool.not_true (Ip @Bool.not_false (Ip @IE.{0,0} (Ip @JO (Ip @Bool.true_eq_false (Ip @decide_true (Ip @decide_false (Ip @List.isEmpty_cons.{0} (Ip @List.isEmpty_nil.{0} (@List.isEmpty_map.{0,0})))))))))))))))
structure GlTK (P:IZ) (w:JN) (K:W.Frag) (x:Str) (D:List (Str×Int)):Prop where
 ex:∃p,W.nsIn K JI x=some (some (.ref p))/\∀h,K.In h->StrTab P w h p (Db D)
theorem GlTK.of{w:JN}{K:W.Frag}{x:Str}{D:List (Str×Int)}{mg:Str->Option Iw}(k:GlTK P w K x D)(Y:K.In h)(G:h.Ns JI mg):GlT P w K mg x D:=by
 obtain⟨p,h1,h2⟩:=k.ex
 exact⟨p,W.mg_of Y G h1,h2⟩
section
variable{X:Cx}{rl:RlT}{e:Expr}{fa:TV}{pos dpos q1 q2 q3 q4:Pos}{ρ:En}{j1 j2 j3 j4:Nat}{a b x y:Str}
end
theorem Hq.pay{a:Option Addr}{b b':Nat}{F H:Hp}(r:Hq ⟨a,b⟩ F H)(h:b'<=b):Hq ⟨a,b'⟩ F H:=fun x e=>by
 obtain⟨z,⟨o,q,ro⟩⟩:=r x e
 exact⟨z,⟨o,q,ro.pay h⟩⟩
theorem Grow.pay{a:Option Addr}{b b':Nat}{F H F' H':Hp}(g:Grow ⟨a,b⟩ F H F' H')(h:b'<=b):Grow ⟨a,b'⟩ F H F' H':=⟨g.same,g.fs,g.sub,g.old,g.reel.pay h⟩
theorem Grow.tr{a:Option Addr}{b b':Nat}{F1 H1 F2 H2:Hp}(g:Grow ⟨a,b⟩ F H F1 H1)(g':Grow ⟨a,b'⟩ F1 H1 F2 H2):Grow ⟨a,b'⟩ F H F2 H2 :=
 ⟨fun c o e n=>g'.same c o (g.same c o e n) n,g.fs.trans g'.fs,g'.sub,fun c o e=>by obtain⟨o',e'⟩:=g.live e;rw[g'.old c o' e',g.old c o e],g'.reel⟩
theorem cC.on{K:W.Frag}{a:Option Addr}{b b':Nat}{w:W}(r:cC K ⟨a,b⟩ F H v w):cC K ⟨a,b'⟩ F H v w:=by cases w<;>exact r
theorem cC.gr{K:W.Frag}{a:Option Addr}{b b' b2:Nat}{w:W}(g:Grow ⟨a,b'⟩ F H F' H')(r:cC K ⟨a,b⟩ F H v w):cC K ⟨a,b2⟩ F' H' v w:=((r.on (b':=b')).grow g).on
theorem VR.gr{K:W.Frag}{a:Option Addr}{b b':Nat}{F₀ H₀ F H F' H':Hp}{σ:St}{ρ:En}(r:VR K ⟨a,b⟩ F₀ H₀ F H σ ρ)(g:Grow ⟨a,b'⟩ F H F' H'):VR K ⟨a,b'⟩ F₀ H₀ F' H' σ ρ :=
 ⟨r.g.tr g,fun i w e=>let ⟨v,e1,e2,e3⟩:=r.sl i w e;⟨v,e1,e2.gr g,e3⟩,r.ap,r.np,r.len⟩
theorem VR.pay{K:W.Frag}{a:Option Addr}{b b':Nat}{F₀ H₀ F H:Hp}{σ:St}{ρ:En}(r:VR K ⟨a,b⟩ F₀ H₀ F H σ ρ)(h:b'<=b):VR K ⟨a,b'⟩ F₀ H₀ F H σ ρ:=r.gr ((Grow.refl r.sub r.reel).pay h)
theorem EndsOk.pay{K:W.Frag}{a:Option Addr}{b b':Nat}{F₀ H₀ Fs:Hp}{Dv:VEnds}{D:Ends}(ok:EndsOk K ⟨a,b'⟩ F₀ H₀ Fs Dv D)(h:b'<=b):EndsOk K ⟨a,b⟩ F₀ H₀ Fs Dv D :=
 ⟨fun F H σ ρ s R=>ok.nx F H σ ρ s (R.pay h),fun v w F H g r n=>ok.rt v w F H (g.pay h) r.on n,fun F H σ ρ s R=>ok.bk F H σ ρ s (R.pay h),fun F H σ ρ s R=>ok.ct F H σ ρ s (R.pay h)⟩
def CV(X:Cx)(al:Option Addr)(c:Nat)(e:Expr)(f:TV):Prop:=∃t,PE X e t/\∀{b:Nat}{F₀ H₀ F H:Hp}{σ:St}{ρ:En},VR X.K ⟨al,b+c⟩ F₀ H₀ F H σ ρ->∀(Qd:W->Prop)(Q:VK),f ρ Qd ->
 (∀v w F' H',Grow ⟨al,b⟩ F H F' H'->cC X.K ⟨al,b⟩ F' H' v w->cZ H v w->Qd w->Q v H')->t σ H Q
def CB(X:Cx)(al:Option Addr)(c:Nat)(e:Expr)(f:TB):Prop:=∃t,PT X e t/\∀{b:Nat}{F₀ H₀ F H:Hp}{σ:St}{ρ:En},VR X.K ⟨al,b+c⟩ F₀ H₀ F H σ ρ->∀(Qd:Bool->Prop)(Q:Bool->Hp->Prop),f ρ Qd ->
 (∀k F' H',Grow ⟨al,b⟩ F H F' H'->Qd k->Q k H')->t σ H Q
def Ih(X:Cx)(al:Option Addr)(c:Nat)(e:Expr)(f:TB):Prop:=∃t,PW X e t/\∀{b:Nat}{F₀ H₀ F H:Hp}{σ:St}{ρ:En},VR X.K ⟨al,b+c⟩ F₀ H₀ F H σ ρ->∀(Qd:Bool->Prop)(Q:Bool->Hp->Prop),f ρ Qd ->
 (∀k F' H',Grow ⟨al,b⟩ F H F' H'->Qd k->Q k H')->t σ H Q
def Ic(X:Cx)(al:Option Addr)(c:Nat)(es:List Expr)(f:G_):Prop:=∃t,PA X es t/\∀{b:Nat}{F₀ H₀ F H:Hp}{σ:St}{ρ:En},VR X.K ⟨al,b+c⟩ F₀ H₀ F H σ ρ->∀(Qd:List W->Prop)(Q:List V->Hp->Prop),f ρ Qd ->
 (∀vs ws F' H',Grow ⟨al,b⟩ F H F' H'->dh X.K ⟨al,b⟩ F' H' vs ws->Qd ws->Q vs H')->t σ H Q
def CS(X:Cx)(al:Option Addr)(c:Nat)(st:Stmt)(t:Ha):Prop:=∃T,PS X st T/\∀{b:Nat}{F₀ H₀ F H:Hp}{σ:St}{ρ:En},VR X.K ⟨al,b+c⟩ F₀ H₀ F H σ ρ->∀Dv D,EndsOk X.K ⟨al,b⟩ F₀ H₀ F Dv D->t Dv ρ->T D σ H
def Ig(X:Cx)(al:Option Addr)(c:Nat)(st:List Stmt)(t:Ha):Prop:=∃T,Hv X st T/\∀{b:Nat}{F₀ H₀ F H:Hp}{σ:St}{ρ:En},VR X.K ⟨al,b+c⟩ F₀ H₀ F H σ ρ->∀Dv D,EndsOk X.K ⟨al,b⟩ F₀ H₀ F Dv D->t Dv ρ->T D σ H
def CI(X:Cx)(al:Option Addr)(c:Nat)(tg iter:Expr)(fi:En->(List Im->Prop)->Prop):Prop:=∃wi,PI X tg iter wi/\∀{b:Nat}{F₀ H₀ F H:Hp}{σ:St}{ρ:En},VR X.K ⟨al,b+c⟩ F₀ H₀ F H σ ρ->∀(Qd:List Im->Prop)(R:It->Hp->Prop),fi ρ Qd ->
 (∀J xs F' H',Grow ⟨al,b⟩ F H F' H'->(∀b',VIt X.K ⟨al,b'⟩ F' J xs)->Qd xs->R J H')->wi σ H R
section
variable{X:Cx}{al:Option Addr}{c c1 c2 c3:Nat}{st:Stmt}{rest body:List Stmt}{t u:Ha}{a b e ec:Expr}{es:List Expr}{fa fb:TV}{fs:G_}{f g:TB}{pos p:Pos}
theorem cv(h:∀n,PV X ⟨al,n⟩ e fa):CV X al 0 e fa :=
 ⟨fun σ H Q=>∃n,Ja (h n) σ H Q,fun pins s σ H Q I ⟨n,z⟩=>(Iq (h n)).1 pins s σ H Q I z,fun{b F₀ H₀ F H σ ρ} R Qd Q q k=>⟨b,(Iq (h b)).2 R Qd Q q k⟩⟩
theorem cb(h:∀n,PB X ⟨al,n⟩ e f):CB X al 0 e f :=
 ⟨fun σ H Q=>∃n,Ja (h n) σ H Q,fun pins s σ H Q I ⟨n,z⟩=>(Iq (h n)).1 pins s σ H Q I z,fun{b F₀ H₀ F H σ ρ} R Qd Q q k=>⟨b,(Iq (h b)).2 R Qd Q q k⟩⟩
theorem GS(h:∀n,Hs X ⟨al,n⟩ es fs):Ic X al 0 es fs :=
 ⟨fun σ H Q=>∃n,Ja (h n) σ H Q,fun p pins s σ H Q I ⟨n,z⟩=>(Iq (h n)).1 p pins s σ H Q I z,fun{b F₀ H₀ F H σ ρ} R Qd Q q k=>⟨b,(Iq (h b)).2 R Qd Q q k⟩⟩
theorem cs(h:∀n,Hw X ⟨al,n⟩ st t):CS X al 0 st t :=
 ⟨fun D σ H=>∃n,Ja (h n) D σ H,fun pins s σ H D I ⟨n,z⟩=>(Iq (h n)).1 pins s σ H D I z,fun{b F₀ H₀ F H σ ρ} R Dv D ok q=>⟨b,(Iq (h b)).2 R Dv D ok q⟩⟩
theorem GT(h:∀n,jm X ⟨al,n⟩ body t):Ig X al 0 body t :=
 ⟨fun D σ H=>∃n,Ja (h n) D σ H,fun pins s σ H D I ⟨n,z⟩=>(Iq (h n)).1 pins s σ H D I z,fun{b F₀ H₀ F H σ ρ} R Dv D ok q=>⟨b,(Iq (h b)).2 R Dv D ok q⟩⟩
theorem VIt.on{K:W.Frag}{r r':RlT}{J:It}(h:VIt K r F J xs):VIt K r' F J xs:=⟨h.go,h.stop,h.yld⟩
theorem ci(h:∀n,HA X ⟨al,n⟩ tg iter fi):CI X al 0 tg iter fi :=
 ⟨fun σ H Q=>∃n,Ja (h n) σ H Q,fun pins s σ H Q I ⟨n,z⟩=>(Iq (h n)).1 pins s σ H Q I z,fun{b F₀ H₀ F H σ ρ} R Qd Q q k=>⟨b,(Iq (h b)).2 R Qd Q q fun J xs F' H' g v=>k J xs F' H' g fun _=>v.on⟩⟩
theorem bg:Ic X al 0 [] sU:=GS fun _=>ab
theorem ar(h1:CV X al c1 e fa)(h2:Ic X al c2 es fs)(hs:IC (e::es) X.env=(false,eval e X.env)::IC es X.env:=by rfl):Ic X al (c1+c2) (e::es) (iu fa fs):=by
 obtain⟨t,p1,k1⟩:=h1
 obtain⟨ts,p2,k2⟩:=h2
 refine⟨_,bT p1 p2 hs,fun{n _ _ _ _ _ _} R Qd Q q k=>?_⟩
 refine k1 (b:=n+c2) (R.pay (by omega)) _ _ q fun v w F1 H1 g1 r1 n1 q1=>?_
 obtain⟨F2,g2,s2,r2⟩:=cC.fz g1 r1 n1
 refine k2 (b:=n) (R.gr g2) _ _ q1 fun vs ws F3 H3 g3 r3 q3=>?_
 exact k (v::vs) (w.fz::ws) F3 H3 (g2.tr g3) (.cons (r2.gr g3) r3) q3
theorem i6{r:R2}{g:W->W->(W->Prop)->Prop}(vo:∀n,G7 X ⟨al,n⟩ r g)(ha:CV X al c1 a fa)(hb:CV X al c2 b fb){e:Expr}(hp:∀ta tb,PE X a ta->PE X b tb->PE X e (Fd r ta tb)):CV X al (c1+c2) e (EY g fa fb):=by
 obtain⟨ta,p1,k1⟩:=ha
 obtain⟨tb,p2,k2⟩:=hb
 refine⟨_,hp ta tb p1 p2,fun{n _ _ _ _ _ _} R Qd Q q k=>?_⟩
 refine k1 (b:=n+c2) (R.pay (by omega)) _ _ q fun v w F1 H1 g1 r1 n1 q1=>?_
 refine k2 (b:=n) (R.gr g1) _ _ q1 fun v2 w2 F2 H2 g2 r2 n2 q2=>?_
 exact vo n Qd Q g2.sub g2.reel (r1.gr g2) r2 q2 fun v3 w3 F3 H3 g3 r3 n3 q3=>k v3 w3 F3 H3 ((g1.tr g2).tr g3) r3 ((n3.back g2).back g1) q3
theorem Ad{op:OR}{r:R2}{g:W->W->(W->Prop)->Prop}(ho:HF X (Lg op) r)(vo:∀n,G7 X ⟨al,n⟩ r g)(ha:CV X al c1 a fa)(hb:CV X al c2 b fb):CV X al (c1+c2) (.BinOp a op b pos) (EY g fa fb) :=
 i6 vo ha hb fun _ _ p1 p2=>yU ho p1 p2
theorem Ae(ha:CV X al c1 a fa)(hb:CV X al c2 b fb):CV X al (c1+c2) (.BinOp a .Add b pos) (EY (GJ fun i j=>.int (i+j)) fa fb):=Ad tM (fun _=>dD fun _ _ _ _=>.int _) ha hb
theorem B4(ha:CV X al c1 a fa)(hb:CV X al c2 b fb):CV X al (c1+c2) (.BinOp a .Mult b pos) (EY (gI bV fun i j=>.int (i*j)) fa fb):=Ad oT (fun _=>eW fun _ _ _ _=>.int _) ha hb
theorem Ej(ha:CV X al c1 a fa)(hb:CV X al c2 b fb)(hs:fQ b:=by exact fun _ _=>rfl):CV X al (c1+c2) (.Subscript a b pos) (EY GG fa fb):=i6 (fun _=>xI) ha hb fun _ _ p1 p2=>rg ll p1 p2 hs
theorem B6{r:R2}{g:W->W->(W->Prop)->Prop}(ho:HF X (KU op) r)(vo:∀n,G7 X ⟨al,n⟩ r g)(hm:Kx op b=false)(ha:CV X al c1 a fa)(hb:CV X al c2 b fb):CV X al (c1+c2) (.Compare a [op] [b] pos) (EY g fa fb) :=
 i6 vo ha hb fun _ _ p1 p2=>oQ ho p1 p2 hm
theorem z_{r:R2}{g:W->W->(W->Prop)->Prop}(ho:HF X (KU op) r)(vo:∀n,G7 X ⟨al,n⟩ r g)(hm:Kx op b=false)(ha:CV X al c1 a fa)(hb:CV X al c2 b fb):CB X al (c1+c2) (.Compare a [op] [b] pos) (nl (EY g fa fb)):=by
 obtain⟨ta,p1,k1⟩:=ha
 obtain⟨tb,p2,k2⟩:=hb
 refine⟨_,oC ho p1 p2 hm,fun{n _ _ _ _ _ _} R Qd Q q k=>?_⟩
 refine k1 (b:=n+c2) (R.pay (by omega)) _ _ q fun v w F1 H1 g1 r1 n1 q1=>?_
 refine k2 (b:=n) (R.gr g1) _ _ q1 fun v2 w2 F2 H2 g2 r2 n2 q2=>?_
 refine vo n _ _ g2.sub g2.reel (r1.gr g2) r2 q2 fun v3 w3 F3 H3 g3 r3 n3 ⟨kb,ew,q3⟩=>?_
 subst ew
 exact⟨kb,iK r3,k kb F3 H3 ((g1.tr g2).tr g3) q3⟩
theorem B3{op}(ha:CV X al c a fa):CV X al c (.BoolOp op [a] pos) fa:=by
 obtain⟨t,p,k⟩:=ha
 exact⟨t,yV p,k⟩
theorem Ei{rest:List Expr}(ha:CV X al c1 a fa)(hb:CV X al c2 (.BoolOp .Or (b::rest) pos) fb):CV X al (c1+c2) (.BoolOp .Or (a::b::rest) pos) (AV fa fb):=by
 obtain⟨t,p,k⟩:=ha
 obtain⟨t2,p2,k2⟩:=hb
 refine⟨_,Bq p p2,fun{n _ _ _ _ _ _} R Qd Q q h=>k (b:=n+c2) (R.pay (by omega)) _ _ q fun v w F1 H1 g1 r1 n1 ⟨c,ew,q1⟩=>?_⟩
 subst ew
 refine⟨c,iK r1,?_⟩
 cases c with
 | false=>exact k2 (b:=n) (R.gr g1) _ _ q1 fun v w F2 H2 g2 r2 n2 q2=>h v w F2 H2 (g1.tr g2) r2 (n2.back g1) q2
 | true=>exact h _ (.d _) F1 H1 (g1.pay (by omega)) (.bl true) trivial q1
theorem Ih.cb(h:Ih X al c e f):CB X al c e f:=by
 obtain⟨t,p,k⟩:=h
 exact⟨t,p.pt,k⟩
theorem B2{x1}(h:Ic X al c es fs):CV X al c (.Tuple es x1 pos) (xZ fs):=by
 obtain⟨t,p,k⟩:=h
 refine⟨_,oN p,fun R Qd Q q h=>k R _ _ q fun vs ws F1 H1 g1 r1 ⟨ds,e1,z,q1⟩=>?_⟩
 have rs:=cO r1 e1
 refine⟨by rw[rs.length];exact z,fun p hp=>?_⟩
 have g2:=g1.tr (Grow.data (a:=p) (o:=.tup vs) g1.sub g1.reel hp)
 exact h _ (.d (.tuple ds)) _ _ g2 (.tup (.inl (.inl ak)) (rs.mono (Grow.data (o:=.tup vs) g1.sub g1.reel hp).fs)) trivial q1
theorem B5(h:Ic X al c es fs):CV X al c (.List es pos) (Ar fs):=by
 obtain⟨t,p,k⟩:=h
 refine⟨_,tI p,fun R Qd Q q h=>k R _ _ q fun vs ws F1 H1 g1 r1 ⟨ds,e1,z,q1⟩=>?_⟩
 have rs:=cO r1 e1
 refine⟨by rw[rs.length];exact z,fun p hp=>?_⟩
 exact h _ (.ml ds) _ _ (g1.tr (Grow.laid (a:=p) (o:=.lst vs) g1.sub g1.reel hp)) (cx g1.sub g1.reel hp rs) (fun a ea=>by cases ea;exact g1.freeB hp) q1
theorem sy{g:List W->(W->Prop)->Prop}(vc:∀n,dZ X ⟨al,n⟩ r g)(ha:Ic X al c es fs){e:Expr}(hp:∀ta,PA X es ta->PE X e (Fi r ta)):CV X al c e (cA g fs):=by
 obtain⟨ta,p1,k1⟩:=ha
 refine⟨_,hp ta p1,fun{n _ _ _ _ _ _} R Qd Q q k=>k1 R _ _ q fun vs ws F1 H1 g1 r1 q1=>?_⟩
 exact vc n Qd Q g1.sub g1.reel r1 q1 fun v w F2 H2 g2 r2 n2 q2=>k v w F2 H2 (g1.tr g2) r2 (n2.back g1) q2
theorem lI{T:String}{x:Str}{g:List W->(W->Prop)->Prop}(hc:c_ X (.type T) r)(vc:∀n,dZ X ⟨al,n⟩ r g)(hm:X.mg x=none)(hv:LB x=some (.type T))(ha:Ic X al c (e::es) fs)(hg:Gl X x:=by rfl)(hn:x ≠ "__name__" := by decide)(hdb:(x==("__debug__" : Str))=false:=by decide)
 (he:IC (e::es) X.env=(false,eval e X.env)::IC es X.env:=by rfl)(hpl:(Kh pos (IC es X.env)).any (·.1)=false:=by rfl):CV X al c (.Call (.Name x p) (e::es) [] pos) (cA g fs) :=
 sy vc ha fun _ p1=>dL hc hg hm hv p1 hn hdb he hpl
theorem wX(hm:X.mg "tuple" = none)(ha:Ic X al c [a] fs)(hg:Gl X "tuple" := by rfl)(he:IC [a] X.env=(false,eval a X.env)::IC [] X.env:=by rfl)(hpl:(Kh pos (IC [] X.env)).any (·.1)=false:=by rfl) :
 CV X al c (.Call (.Name "tuple" p) [a] [] pos) (cA pC fs):=lI b9 (fun _=>sN) hm (by rfl) ha hg (by decide) (by decide) he hpl
theorem Ac(hm:X.mg "int" = none)(ha:Ic X al c [a] fs)(hg:Gl X "int" := by rfl)(he:IC [a] X.env=(false,eval a X.env)::IC [] X.env:=by rfl)(hpl:(Kh pos (IC [] X.env)).any (·.1)=false:=by rfl) :
 CV X al c (.Call (.Name "int" p) [a] [] pos) (cA pD fs):=lI ja (fun _=>m3) hm (by rfl) ha hg (by decide) (by decide) he hpl
theorem pS:Ig X al 0 [] uL:=GT fun _=>bW
theorem dq(h:CS X al c st t):Ig X al c [st] t:=by
 obtain⟨T,p,k⟩:=h
 exact⟨T,jE p,k⟩
theorem aC(h:CS X al c1 st t)(h2:Ig X al c2 rest u):Ig X al (c1+c2) (st::rest) (xq t u):=by
 obtain⟨T,p,k⟩:=h
 obtain⟨T2,p2,k2⟩:=h2
 refine⟨_,cF p p2,fun{n _ _ _ _ _ _} R Dv D ok q=>k (b:=n+c2) (R.pay (by omega)) {Dv with nx:=u Dv} {D with nx:=T2 D} ?_ q⟩
 have o2:=ok.pay (b:=n+c2) (by omega)
 exact⟨fun F H σ ρ s' R' q'=>k2 (b:=n) R' Dv D (ok.on s') q',o2.rt,o2.bk,o2.ct⟩
theorem t_(h:CV X al c e fa):CS X al c (.Return (some e) pos) (AU fa):=by
 obtain⟨t,p,k⟩:=h
 exact⟨_,kS p,fun R Dv D ok q=>k R _ _ q fun v w F1 H1 g1 r1 n1 q1=>ok.rt v w F1 H1 (R.g.tr g1) r1 (n1.back R.g) q1⟩
theorem wU{A B:List Stmt}(hc:CB X al c1 ec f)(ha:Ig X al c2 A t)(hb:Ig X al c3 B u):CS X al (c1+(c2+c3)) (.If ec A B pos) (As f t u):=by
 obtain⟨t0,p0,k0⟩:=hc
 obtain⟨t1,p1,k1⟩:=ha
 obtain⟨t2,p2,k2⟩:=hb
 refine⟨_,yN p0 p1 p2,fun{n _ _ _ _ _ _} R Dv D ok q=>k0 (b:=n+(c2+c3)) (R.pay (by omega)) _ _ q fun k F1 H1 g1 q1=>?_⟩
 cases k with
 | true=>exact k1 (b:=n) ((R.gr g1).pay (by omega)) Dv D (ok.on g1.fs) q1
 | false=>exact k2 (b:=n) ((R.gr g1).pay (by omega)) Dv D (ok.on g1.fs) q1
theorem VR.setC{K:W.Frag}{n':Nat}(r:VR K ⟨al,n⟩ F₀ H₀ F H σ ρ){H1 F1:Hp}(g:Grow ⟨al,n'⟩ F H F1 H1)(hn:n'<=n){w:W}(rw':cC K ⟨al,n'⟩ F1 H1 v w)(hw:cZ H v w)(hp:∀xs,w ≠ .pk xs)(i:Nat):VR K ⟨al,n'⟩ F₀ H₀ F1 H1 (σ.set i (some v)) (ρ.set i (some w)) :=
 (r.pay hn).set g rw' hw hp i
theorem cP(i:Nat){x:Str}(hN:X.N.Nodup)(he:CV X al c e fa)(hi:X.N[i]?=some x:=by rfl)(hx:Loc X.env.scope x:=by first|exact J8 rfl|exact Jw rfl)
 (hs:Ku e (some (.Name x pos')) pos.line X.env=pure false:=by rfl)(hf:X.fn x=true\/X.env.scope.names.lookup x=some .local:=by first|exact .inl rfl|exact .inr rfl) :
 CS X al c (.Assign [.Name x pos'] e pos) (nq i fa):=by
 obtain⟨t,p,k⟩:=he
 refine⟨_,fq hN hi hx p hs hf,fun R Dv D ok q=>k R _ _ q fun v w F1 H1 g1 r1 n1 ⟨d,ed,q1⟩=>?_⟩
 obtain⟨F2,g2,s2,r2⟩:=cC.fz g1 r1 n1
 rw[ed]at r2
 exact ok.nx _ _ _ _ g2.fs (R.setC g2 (by omega) r2 trivial (fun xs z=>by cases z) i) q1
theorem z0{g:Hf}(he:CV X al c e fa)(hg:∀n,HD X ⟨al,n⟩ tg g)(hs:Lp [tg] e pos.line X.env=pure false:=by rfl)(hw:Lq [tg] e X.env=pure none:=by rfl)
 (h1:(Ki [tg] X.env).map (·.2)=[Li tg X.env]:=by rfl):CS X al c (.Assign [tg] e pos) (Au fa g):=by
 obtain⟨t,p,k⟩:=he
 refine⟨_,iQ p (g:=fun v σ H Q=>∃n,Ja (hg n) v σ H Q) (fun pins s σ H v u Q I rv ⟨n,z⟩=>(Iq (hg n)).1 pins s σ H v u Q I rv z) hs hw h1,fun{n _ _ _ _ _ _} R Dv D ok q=>k R _ _ q fun v w F1 H1 g1 r1 n1 ⟨x,ew,q1⟩=>?_⟩
 subst ew
 exact⟨n,(Iq (hg n)).2 (R.gr g1) v x _ _ r1 q1 fun F2 H2 σ2 ρ2 s2 n2 R2 q2=>ok.nx _ _ _ _ (g1.fs.trans s2.fs) R2 q2⟩
theorem zZ(i:Nat){x:Str}{nm:Str}{id:String}{r:V->List V->Hp->VK->Prop}{g:List Im->List W->(List Im->Prop)->Prop}{apos cpos:Pos}(slot:Slot "list" nm id)(hty:typeOf (.builtin id)=pure (.type "method_descriptor"))(hm:HH X id r)(vm:∀n,Ca X.K ⟨al,n⟩ r g)(ha:Ic X al c (e::es) fs)
 (hN:X.N[i]?=some x:=by rfl)(hv:G6 X.env.scope x:=by first|exact J8 rfl|exact Jw (J8 rfl)|exact Jw (Jw rfl))
 (hd:(x==("__debug__" : Str))=false:=by decide)(hcd:(x==("__classdict__" : Str))=false:=by decide)
 (hbase:Me (.Name x px) nm X.env (eval (.Name x px) X.env)=eval (.Name x px) X.env:=by rfl)
 (hfew:((Kh cpos (IC (e::es) X.env)).all (fun x=>!x.1)&&(OW cpos (MT [] X.env)).all (fun x=>x.1.isSome)
  && decide ((e::es).length+([]:List MC).length+(if([]:List MC).isEmpty then 0 else 1)<30))=true:=by rfl)
 (hline:(apos.endLine==cpos.line)=true:=by rfl)(hs:IC (e::es) X.env=(false,eval e X.env)::IC es X.env:=by rfl)(hplain:(Kh cpos (IC es X.env)).any (·.1)=false:=by rfl)
 (hsw:Ku (.Call (.Attribute (.Name x px) nm apos) (e::es) [] cpos) none pos.line X.env=pure false:=by rfl) :
 CS X al c (.Expr (.Call (.Attribute (.Name x px) nm apos) (e::es) [] cpos) pos) (xr i g fs):=by
 obtain⟨t,p1,k⟩:=ha
 refine⟨_,oD (rn Ls slot hty hm (bH hN hv hd hcd) p1 hbase hfew hline hs hplain) hsw,fun{n F₀ H₀ F H σ ρ} R Dv D ok ⟨xs,e1,q⟩=>?_⟩
 obtain⟨v,h1,h2,h3⟩:=R.sl i _ e1
 obtain⟨a,vs,rfl,f,hr,hh,rs⟩:=(show eU X.K ⟨al,n+c⟩ F H v xs from h2)
 refine⟨.ref a,h1,.inl ⟨rfl,vs,.inl (.inl hh)⟩,k R _ _ q fun args ws F1 H1 g1 r1 q1=>?_⟩
 refine vm n _ _ g1.sub (g1.same a _ hh hr) (rs.mono g1.fs) r1 q1 fun us ys r2 q2=>?_
 exact ok.nx _ _ _ _ g1.fs ((R.gr g1).own e1 h1 r2) q2
theorem z9(i:Nat){x:Str}{apos cpos:Pos}(ha:Ic X al c [e] fs)(hN:X.N[i]?=some x:=by rfl)(hv:G6 X.env.scope x:=by first|exact J8 rfl|exact Jw (J8 rfl)|exact Jw (Jw rfl))
 (hd:(x==("__debug__" : Str))=false:=by decide)(hcd:(x==("__classdict__" : Str))=false:=by decide)
 (hbase:Me (.Name x px) "append" X.env (eval (.Name x px) X.env)=eval (.Name x px) X.env:=by rfl)
 (hfew:((Kh cpos (IC [e] X.env)).all (fun x=>!x.1)&&(OW cpos (MT [] X.env)).all (fun x=>x.1.isSome)
  && decide (([e]).length+([]:List MC).length+(if([]:List MC).isEmpty then 0 else 1)<30))=true:=by rfl)
 (hline:(apos.endLine==cpos.line)=true:=by rfl)(hs:IC [e] X.env=(false,eval e X.env)::IC [] X.env:=by rfl)(hplain:(Kh cpos (IC [] X.env)).any (·.1)=false:=by rfl)
 (hsw:Ku (.Call (.Attribute (.Name x px) "append" apos) [e] [] cpos) none pos.line X.env=pure false:=by rfl) :
 CS X al c (.Expr (.Call (.Attribute (.Name x px) "append" apos) [e] [] cpos) pos) (xr i zL fs) :=
 zZ i NA NB dN (fun _=>sL) ha hN hv hd hcd hbase hfew hline hs hplain hsw
end
theorem dF{i c:Nat}(h:i<n):(n-i)*c=(n-(i+1))*c+c:=by
 have:n-i=(n-(i+1))+1:=by omega
 rw[this,Pb]
def x9(n:Nat)(fl:List Nat)(fi:En->(List Im->Prop)->Prop)(g:Hf)(t:Ha):Ha:=fun D ρ=>fi ρ fun xs=>xs.length<=n/\bR fl g t xs D (fo fl ρ)
section
variable{X:Cx}{al:Option Addr}{c c1 c2 c3:Nat}{st:Stmt}{rest body:List Stmt}{t u:Ha}{a b e ec:Expr}{es:List Expr}{fa fb:TV}{fs:G_}{f:TB}{pos p:Pos}
theorem ua(n:Nat)(fl:List Nat){g:Hf}(hp:OS (Jb X.prog X.w) X.A X.env X.xe)(hc:X.calm=true)(hi:CI X al c1 tg iter fi)(hg:∀m,HD X ⟨al,m⟩ tg g)(hb:Ig X al c2 body t)
 (hs:∀x,Jd iter X.env x=pure x:=by intro _;rfl):CS X al (c1+n*c2) (.For tg iter body [] pos) (x9 n fl fi g t):=by
 obtain⟨wi,p0,k0⟩:=hi
 obtain⟨T,p2,k2⟩:=hb
 have p1:PG X tg (fun v σ H Q=>∃m,Ja (hg m) v σ H Q):=fun pins s σ H v u Q I rv ⟨m,z⟩=>(Iq (hg m)).1 pins s σ H v u Q I rv z
 refine⟨_,tE hp hc p0 p1 p2 hs,fun{b F₀ H₀ F H σ ρ} R Dv D ok q=>k0 (b:=b+n*c2) (R.pay (by omega)) _ _ q fun J xs F1 H1 g1 vi ⟨hn,q1⟩=>?_⟩
 refine⟨fun i m σ H=>m=xs.length-i/\i<=xs.length/\∃F ρ,bm F1 F/\VR X.K ⟨al,b+(n-i)*c2⟩ F₀ H₀ F H σ ρ/\bR fl g t (xs.drop i) Dv ρ,⟨xs.length,by simp,Jz _,F1,fo fl ρ,.refl _,(R.gr g1).le (d_ fl ρ),by simpa using q1⟩,?_⟩
 rintro i m σ H ⟨rfl,hi,F2,ρ2,s2,R2,j2⟩
 have sH:bm F1 H:=s2.trans R2.sub
 by_cases hlt:i<xs.length
 · have ei:xs[i]?=some xs[i]:=by simp[hlt]
   rw[J1 hlt]at j2
   have el:=dF (n:=n) (i:=i) (c:=c2) (by omega)
   refine .inr ⟨(vi 0).go i H _ ei sH,fun σ' H'=>∃F ρ,bm F1 F/\VR X.K ⟨al,b+(n-(i+1))*c2⟩ F₀ H₀ F H' σ' ρ/\bR fl g t (xs.drop (i+1)) Dv ρ,fun σ' H' z=>⟨xs.length-(i+1),by omega,rfl,hlt,z⟩,fun v H' y=>?_⟩
   obtain⟨Fy,gy,rv⟩:=(vi 0).yld i H v H' _ F2 ei s2 R2.sub R2.reel y
   refine⟨_,(Iq (hg (b+(n-i)*c2))).2 (R2.gr gy) v _ _ _ rv j2 fun F3 H3 σ3 ρ3 s3 n3 R3 q3=>?_⟩
   have s13:bm F1 F3:=s2.trans (gy.fs.trans s3.fs)
   have o2:=ok.pay (b:=b+(n-(i+1))*c2) (by omega)
   exact k2 (b:=b+(n-(i+1))*c2) (R3.pay (by omega)) {Dv with nx:=fun ρ'=>bR fl g t (xs.drop (i+1)) Dv (fo fl ρ'),ct:=fun ρ'=>bR fl g t (xs.drop (i+1)) Dv (fo fl ρ'),bk:=fun ρ'=>Dv.nx (fo fl ρ')} _
    ⟨fun F4 H4 σ4 ρ4 s4 R4 q4=>⟨F4,fo fl ρ4,s13.trans s4,R4.le (d_ fl ρ4),q4⟩,o2.rt,fun F4 H4 σ4 ρ4 s4 R4 q4=>o2.nx _ _ _ _ (g1.fs.trans (s13.trans s4)) (R4.le (d_ fl ρ4)) q4,fun F4 H4 σ4 ρ4 s4 R4 q4=>⟨F4,fo fl ρ4,s13.trans s4,R4.le (d_ fl ρ4),q4⟩⟩ q3
 · have e:i=xs.length:=by omega
   subst e
   rw[KN]at j2
   exact .inl ⟨(vi 0).stop _ H (ID _) sH,ok.nx _ _ _ _ (g1.fs.trans s2) (R2.pay (by omega)) j2⟩
def Eh(K:W.Frag)(al:Option Addr)(c:Nat)(P:List W->(Im->Prop)->Prop):Sp:=fun vs H Q _=>∃b F ws,bm F H/\Hq ⟨al,b+c⟩ F H/\dh K ⟨al,b+c⟩ F H vs ws/\ws.all cY=true/\P ws fun d=>∀v F' H',Grow ⟨al,b⟩ F H F' H'->Rep K F' v d->Q v H'
structure DfnC (P:IZ) (w:JN) (K:W.Frag) (mg:Str->Option Iw) (base:Heap) (al:Option Addr) (c:Nat) (x:Str) (ps:List Str) (k:Nat) (Pd:List W->(Im->Prop)->Prop):Prop where
 mono:∀ws Q Q',(∀d,Q d->Q' d)->Pd ws Q->Pd ws Q'
 ex:∃f fd,mg x=some (.ref f)/\W.keepIn K (.ref f)=true/\Binds K fd ps []/\FnOk P w K mg base Ib k f fd ps (Eh K al c Pd)
theorem bX{x:Str}{ps:List Str}{k:Nat}{Pd:List W->(Im->Prop)->Prop}(D:DfnC X.prog X.w X.K X.mg X.base al c2 x ps k Pd)(hr:Room k X.A)(ha:Ic X al c1 (e::es) fs)(hg:Gl X x:=by rfl)
 (hdb:(x==("__debug__" : Str))=false:=by decide)(he:IC (e::es) X.env=(false,eval e X.env)::IC es X.env:=by rfl)(hpl:(Kh pos (IC es X.env)).any (·.1)=false:=by rfl) :
 CV X al (c1+c2) (.Call (.Name x p) (e::es) [] pos) (AQ Pd fs):=by
 obtain⟨f,fd,hm,hk,hb,F⟩:=D.ex
 obtain⟨t,p1,kk⟩:=ha
 refine⟨_,d9 F hr hg hm hk hb .nil me p1 hdb he hpl,fun{n _ _ _ _ _ _} R Qd Q q h=>kk (b:=n+c2) (R.pay (by omega)) _ _ q fun vs ws F1 H1 g1 r1 ⟨ok,q1⟩=>?_⟩
 refine⟨n,F1,ws,g1.sub,g1.reel,by rw[JS];exact r1,ok,?_⟩
 exact D.mono ws _ _ (fun d qd v F2 H2 g2 r2=>h v (.d d) F2 H2 (g1.tr g2) r2 trivial qd) q1
end
section
variable{P:IZ}{w:JN}{K:W.Frag}{mg:Str->Option Iw}{base:Heap}{al:Option Addr}{c c0:Nat}{x:Str}{st:Stmt}{N ps:List Str}{k:Nat}{Pd:List W->(Im->Prop)->Prop}{t:Ha}
theorem DfnC.of(Fn:FnIn K mg x st ps)(S:FnScope N ps (defScope st))(mono:∀ws Q Q',(∀d,Q d->Q' d)->Pd ws Q->Pd ws Q')(len:∀ws Q,Pd ws Q->ws.length=ps.length)
 (hbody:∀{f:Addr}(cdv:Iw)(A:J4)(outer:List Env)(s:IB)(H:Hp)(E:XK),Room k (A.deeper (MR x (defScope st) s.heap.objs.size f cdv)) ->
  Ig (lA Ib P w K mg base N x (defScope st) f cdv A outer s H E).nox al c0 (defBody st) t)
 (hle:c0<=c)(hread:∀ws Q,Pd ws Q->t (lO Q) (cu N ws)):DfnC P w K mg base al c x ps (k+1) Pd:=by
 obtain⟨f,fd,hm,F,hb⟩:=Fn.ex
 refine⟨mono,f,fd,hm,F.kp,hb,?_⟩
 refine F.ok S (fun vs H Q E ⟨n,F,ws,_,_,r,_,q⟩=>(J6 r).trans (len ws _ q)) fun cdv A outer s H vs Q E hr h=>?_
 obtain⟨n,F1,ws,sm,ra,r,ok,q⟩:=h
 obtain⟨T,p,kk⟩:=hbody cdv A outer s H E hr
 refine⟨T,p,kk (b:=n) ((cD sm ra r ok).pay (by omega)) (lO _) _ ⟨?_,?_,fun _ _ _ _ _ _ z=>Jq z,fun _ _ _ _ _ _ z=>Jq z⟩ (hread ws _ q)⟩
 · intro F2 H2 σ1 ρ1 _ R1 q1
   exact q1 .non F2 H2 R1.g .non
 · rintro v w1 F2 H2 g1 r1 n1 ⟨d,ed,q1⟩
   obtain⟨F3,g2,s2,r2⟩:=cC.fz g1 r1 n1
   rw[ed]at r2
   exact q1 v F3 H2 g2 r2
end
def kE(n:Nat)(fi:En->(List Im->Prop)->Prop)(fr:List (Option Nat))(g:Hf)(ft:TB)(fe:TV):TV:=fun ρ Q=>fi ρ fun xs=>xs.length<=n/\kB (dB fr ρ) g ft fe xs [] fun ds=>Q (.ml ds)
def Ie(X:Cx)(al:Option Addr)(c:Nat)(ifs:List Expr)(f:TB):Prop:=∃t,Hu X ifs t/\∀{b:Nat}{F₀ H₀ F H:Hp}{σ:St}{ρ:En},VR X.K ⟨al,b+c⟩ F₀ H₀ F H σ ρ->∀(Qd:Bool->Prop)(Q:Bool->Hp->Prop),f ρ Qd ->
 (∀k F' H',Grow ⟨al,b⟩ F H F' H'->Qd k->Q k H')->t σ H Q
theorem zY{al:Option Addr}:Ie X al 0 [] (fun _ Q=>Q true):=⟨_,gY,fun R Qd Q q k=>k true _ _ (Grow.refl R.sub R.reel) q⟩
theorem zX{al:Option Addr}{c:Nat}{f:TB}(h:CB X al c e f):Ie X al c [e] f:=by
 obtain⟨t,p,k⟩:=h
 exact⟨t,vq p,k⟩
section
variable{X:Cx}{al:Option Addr}{c1 c2 c3:Nat}{elt tg iter:Expr}{ifs:List Expr}{scope:Scope}{pos:Pos}{fi:En->(List Im->Prop)->Prop}{g:Hf}{ft:TB}{fe:TV}
abbrev E8{Y:Cx}(hg:∀m,HD Y ⟨al,m⟩ tg g):TG:=fun v σ H Q=>∃m,Ja (hg m) v σ H Q
theorem yf{Y:Cx}(hg:∀m,HD Y ⟨al,m⟩ tg g):PG Y tg (E8 hg):=fun pins s σ H v u Q I rv ⟨m,z⟩=>(Iq (hg m)).1 pins s σ H v u Q I rv z
theorem li{N':List Str}{wi:TI}(n:Nat)(fr:List (Option Nat))(k0:∀{b:Nat}{F₀ H₀ F H:Hp}{σ:St}{ρ:En},VR X.K ⟨al,b+c1⟩ F₀ H₀ F H σ ρ->∀(Qd:List Im->Prop)(R:It->Hp->Prop),fi ρ Qd ->
 (∀J xs F' H',Grow ⟨al,b⟩ F H F' H'->(∀b',VIt X.K ⟨al,b'⟩ F' J xs)->Qd xs->R J H')->wi σ H R)
 (hg:∀y m,HD (blk X N' scope y) ⟨al,m⟩ tg g)(ht:∀y,Ie (blk X N' scope y) al c2 ifs ft)(he:∀y,CV (blk X N' scope y) al c3 elt fe)
 {b:Nat}(R:VR X.K ⟨al,b+(c1+n*(c2+c3))⟩ F₀ H₀ F H σ ρ)(Qd:W->Prop)(Q:VK)(q:kE n fi fr g ft fe ρ Qd)
 (k:∀v w F' H',Grow ⟨al,b⟩ F H F' H'->cC X.K ⟨al,b⟩ F' H' v w->cZ H v w->Qd w->Q v H'):qM wi fr (fun y=>E8 (hg y)) (fun y=>Ja (ht y)) (fun y=>Ja (he y)) σ H Q:=by
 refine k0 (b:=b+n*(c2+c3)) (R.pay (by omega)) _ _ q fun J xs F1 H1 g1 vi ⟨hn,q1⟩=>?_
 intro D hD
 have rD:al≠some D:=fun e=>by obtain⟨o,z⟩:=g1.reel.live e;rw[hD]at z;cases z
 have FD:F1 D=none:=g1.sub.free hD
 have gD:Grow ⟨al,b+n*(c2+c3)⟩ F1 H1 F1 (upd H1 D (.lst [])):=Grow.laid g1.sub g1.reel hD
 have R1:=R.gr g1
 have n0:mN (dB fr ρ):=de
 refine⟨fun i m acc σc Hc=>m=xs.length-i/\i<=xs.length/\∃Fc ds,VR X.K ⟨al,b+(n-i)*(c2+c3)⟩ F1 H1 Fc Hc σc (dB fr ρ)/\Hc D=some (.lst acc)/\Fc D=none/\Reps X.K Fc acc ds/\kB (dB fr ρ) g ft fe (xs.drop i) ds (fun ds=>Qd (.ml ds)),
  ⟨xs.length,by simp,Jz _,F1,[],eM R1 gD,ak,FD,.nil,by simpa using q1⟩,?_⟩
 rintro z i m acc σc Hc ⟨rfl,hi,Fc,ds,Rc,hDc,fDc,rs,q2⟩
 have sH:bm F1 Hc:=Rc.g.fs.trans Rc.sub
 by_cases hlt:i<xs.length
 · have ei:xs[i]?=some xs[i]:=by simp[hlt]
   have ed:xs.drop i=xs[i]::xs.drop (i+1):=J1 hlt
   rw[ed]at q2
   have el:=dF (n:=n) (i:=i) (c:=c2+c3) (by omega)
   refine .inr ⟨(vi 0).go i Hc _ ei sH,fun v H' y=>?_⟩
   obtain⟨Fy,gy,rv⟩:=(vi 0).yld i Hc v H' _ Fc ei Rc.g.fs Rc.sub Rc.reel y
   refine⟨_,(Iq (hg z _)).2 (Rc.gr gy) v _ _ _ rv q2 fun F3 H3 σ3 ρ3 g3 n3 R3 ⟨le3,q3⟩=>?_⟩
   obtain⟨_,kt⟩:=Iq (ht z)
   refine kt (b:=b+(n-(i+1))*(c2+c3)+c3) (R3.pay (by omega)) _ _ q3 fun k4 F4 H4 g4 q4=>?_
   have R4:=R3.gr g4
   have g34:=(gy.tr g3).tr g4
   have keepD:∀{m:Nat}{Fx Hx:Hp},Grow ⟨al,m⟩ Fc Hc Fx Hx->Hx D=some (.lst acc)/\Fx D=none:=fun gx=>⟨gx.same D _ hDc rD,by rw[gx.old D _ hDc];exact fDc⟩
   cases k4 with
   | false=>exact⟨xs.length-(i+1),by omega,rfl,hlt,F4,ds,(R4.pay (by omega)).le le3,(keepD g34).1,(keepD g34).2,rs.mono g34.fs,q4⟩
   | true =>
     obtain⟨_,kv⟩:=Iq (he z)
     refine kv (b:=b+(n-(i+1))*(c2+c3)) R4 _ _ q4 fun v5 w5 F5 H5 g5 r5 n5 ⟨d,ed5,hl,q5⟩=>?_
     obtain⟨F6,g6,s6,r6⟩:=cC.fz g5 r5 n5
     rw[ed5]at r6
     have g36:=g34.tr g6
     refine⟨(keepD g36).1,by rw[rs.length];exact hl,xs.length-(i+1),by omega,rfl,hlt,F6,ds++[d],((R4.gr g6).le le3).other n0 hD (keepD g36).2 rD,ak,(keepD g36).2,(rs.mono g36.fs).snoc r6,q5⟩
 · have e:i=xs.length:=by omega
   subst e
   rw[KN]at q2
   refine .inl ⟨(vi 0).stop _ Hc (ID _) sH,k _ (.ml ds) Fc Hc (g1.tr (Rc.g.pay (by omega))) ⟨D,acc,rfl,fDc,rD,hDc,rs⟩ (fun a ea=>by cases ea;exact g1.freeB hD) q2⟩
theorem wY(n:Nat)(N':List Str)(fr:List (Option Nat))(hc:X.calm=true)(hi:CI X al c1 tg iter fi)
 (hg:∀y m,HD (blk X N' scope y) ⟨al,m⟩ tg g)(ht:∀y,Ie (blk X N' scope y) al c2 ifs ft)(he:∀y,CV (blk X N' scope y) al c3 elt fe)
 (hfr:jQ fr N' X.N scope X.env.scope=true:=by rfl)(hsc:kM scope X.env.scope=true:=by rfl)
 (hs:∀x,Jd iter X.env x=pure x:=by intro _;rfl):CV X al (c1+n*(c2+c3)) (.ListComp elt [⟨tg,iter,ifs,0⟩] scope pos) (kE n fi fr g ft fe):=by
 obtain⟨wi,p0,k0⟩:=hi
 exact⟨_,dJ N' fr hc p0 hfr hsc (fun y=>yf (hg y)) (fun y=>(Iq (ht y)).1) (fun y=>(Iq (he y)).1) hs,fun R Qd Q q k=>li n fr k0 hg ht he R Qd Q q k⟩
theorem mJ(n:Nat)(i:Nat){b:Bool}{x:Str}{spos:Pos}(hN:X.N.Nodup)(N':List Str)(fr:List (Option Nat))(hc:X.calm=true)(hi:CI X al c1 tg iter fi)
 (hg:∀y m,HD (blk X N' scope y) ⟨al,m⟩ tg g)(ht:∀y,Ie (blk X N' scope y) al c2 ifs ft)(he:∀y,CV (blk X N' scope y) al c3 elt fe)
 (hsw:Ku (.ListComp elt [⟨tg,iter,ifs,0⟩] scope pos) (some (.Name x px)) spos.line X.env=pure b:=by rfl)
 (hix:X.N[i]?=some x:=by rfl)(hx:Loc X.env.scope x:=by first|exact J8 rfl|exact Jw rfl)(hf:X.fn x=true\/X.env.scope.names.lookup x=some .local:=by first|exact .inl rfl|exact .inr rfl)
 (hfr:jQ fr N' X.N scope X.env.scope=true:=by rfl)(hsc:kM scope X.env.scope=true:=by rfl)
 (hs:∀x,Jd iter X.env x=pure x:=by intro _;rfl):CS X al (c1+n*(c2+c3)) (.Assign [.Name x px] (.ListComp elt [⟨tg,iter,ifs,0⟩] scope pos) spos) (nq i (kE n fi fr g ft fe)):=by
 obtain⟨wi,p0,k0⟩:=hi
 refine⟨_,gt N' fr hc p0 hfr hsc (fun y=>yf (hg y)) (fun y=>(Iq (ht y)).1) (fun y=>(Iq (he y)).1) hN hix hx hf hsw hs,fun R Dv D ok q=>li n fr k0 hg ht he R _ _ q fun v w F1 H1 g1 r1 n1 ⟨d,ed,q1⟩=>?_⟩
 obtain⟨F2,g2,s2,r2⟩:=cC.fz g1 r1 n1
 rw[ed]at r2
 exact ok.nx _ _ _ _ g2.fs (R.setC g2 (by omega) r2 trivial (fun xs z=>by cases z) i) q1
end
def kC:HJ:=Lb "cell"
def kL:HJ:=Lb "left"
def kT:HJ:=Lb "turn"
theorem BC:¬kC=kL:=by decide +kernel
theorem BB:¬kC=kT:=by decide +kernel
theorem Az:¬kL=kT:=by decide +kernel
def bG(c l t:Int):List (HJ×V):=[(kC,.int c),(kL,.int l),(kT,.int t)]
theorem jo{p:HJ×V}{r:List (HJ×V)}{k:HJ}(e:¬p.1=k):eC (p::r) k=eC r k:=by
 unfold eC
 rw[JY]
 simp[e]
theorem yh(c l t:Int):eC (bG c l t) kC=some (.int c):=da rfl
theorem yg(c l t:Int):eC (bG c l t) kL=some (.int l):=by unfold bG;rw[jo BC];exact da rfl
theorem sX(c l t:Int):eC (bG c l t) kT=some (.int t):=by unfold bG;rw[jo BB,jo Az];exact da rfl
theorem F0{a b:HJ}(h:¬a=b):¬b=a:=fun e=>h e.symm
theorem Bn(c l t n:Int):cU (bG c l t) kL (.int n)=bG c n t:=by
 unfold cU bG
 rw[if_pos (by simp)]
 simp[BC,F0 Az]
theorem Bm(c l t n:Int):cU (bG c l t) kT (.int n)=bG c l n:=by
 unfold cU bG
 rw[if_pos (by simp)]
 simp[BB,Az]
theorem B8:(0:Int)+BM<2^59990:=by
 have h:BM<2^59990:=Lh (by decide) (by decide)
 rw[LM]
 exact_mod_cast h
theorem ReelOk.kv{r:Addr}(h:ReelOk n F H r):∃c l t:Int,H r=some (.dK (bG c l t))/\0<=l/\0<=t/\t+n<2^59990:=by
 obtain⟨o,e,c,l,t,rfl,q⟩:=h.ex
 exact⟨c,l,t,e,q⟩
theorem Hq.put{al:Option Addr}{n':Nat}{K:W.Frag}{r:Addr}{l t:Int}(R:VR K ⟨al,n⟩ F₀ H₀ F H σ ρ)(e:al=some r)(h:0<=l/\0<=t/\t+n'<2^59990):VR K ⟨al,n'⟩ F₀ H₀ F (upd H r (.dK (bG c l t))) σ ρ:=by
 have fr:F r=none:=(R.reel r e).1
 have neF:∀b u,F b=some u->b≠r:=fun b u q z=>by subst z;rw[fr]at q;cases q
 have g:Grow ⟨al,n'⟩ F H F (upd H r (.dK (bG c l t))):=by
  refine⟨fun b o q n=>by rw[ah (fun z=>n (by rw[z];exact e))];exact q,.refl F,fun b o q=>by rw[ah (neF b o q)];exact R.sub b o q,fun _ _ _=>rfl,fun y z=>?_⟩
  have:y=r:=Jh (z.symm.trans e)
  subst this
  exact⟨fr,⟨_,ak,c,l,t,rfl,h⟩⟩
 exact R.gr g
section
variable{X:Cx}{rl:RlT}{e:Expr}{fa:TV}{pos p p1 p2:Pos}{ρ:En}
def EV(i:Nat):TV:=fun ρ Q=>ρ[i]?=some (some .reel)/\∀n:Int,0<=n->Q (.d (.int n))
def EW(i:Nat):TV:=fun ρ Q=>ρ[i]?=some (some .reel)/\∀n:Int,Q (.d (.int n))
theorem nc{i:Nat}{x:Str}{k:Str}{j}(hr:Room 0 X.A)(hk:(Lb k:HJ)=kL\/(Lb k:HJ)=kT)(hN:X.N[i]?=some x:=by rfl)(hv:G6 X.env.scope x:=by first|exact J8 rfl|exact Jw (J8 rfl)|exact Jw (Jw rfl))
 (hd:(x==("__debug__" : Str))=false:=by decide)(hcd:(x==("__classdict__" : Str))=false:=by decide)(hs:ui (.Constant (.str k) j p2):=by exact fun _ _=>rfl):PV X rl (.Subscript (.Name x p1) (.Constant (.str k) j p2) pos) (EV i):=by
 refine⟨_,fy (mF hr) (bH hN hv hd hcd) dI hs,fun{F₀ H₀ F H σ ρ} R Qd Q ⟨e1,q⟩ h=>?_⟩
 obtain⟨v,s1,⟨r,er,ev⟩,_⟩:=R.sl i _ e1
 subst ev
 obtain⟨_,ok⟩:=R.reel r er
 obtain⟨c,l,t,hH,b2,b3,b4⟩:=ok.kv
 have go:∀n:Int,0<=n->eC (bG c l t) (Lb k)=some (.int n)->yn (qL i) (tC (.str k)) σ H Q:=fun n hn e=>by
  refine⟨.ref r,s1,r,.int n,rfl,?_,h _ (.d _) F H (Grow.refl R.sub R.reel) (.int n) trivial (q n hn)⟩
  have g:=xn.k (k:=(Lb k:HJ)) hH
  rw[e]at g
  exact g
 rcases hk with hk|hk
 · exact go l b2 (by rw[hk];exact yg c l t)
 · exact go t b3 (by rw[hk];exact sX c l t)
theorem uG{i:Nat}{x:Str}{j}(hr:Room 0 X.A)(hN:X.N[i]?=some x:=by rfl)(hv:G6 X.env.scope x:=by first|exact J8 rfl|exact Jw (J8 rfl)|exact Jw (Jw rfl))
 (hd:(x==("__debug__" : Str))=false:=by decide)(hcd:(x==("__classdict__" : Str))=false:=by decide)(hs:ui (.Constant (.str "cell") j p2):=by exact fun _ _=>rfl):PV X rl (.Subscript (.Name x p1) (.Constant (.str "cell") j p2) pos) (EW i):=by
 refine⟨_,fy (mF hr) (bH hN hv hd hcd) dI hs,fun{F₀ H₀ F H σ ρ} R Qd Q ⟨e1,q⟩ h=>?_⟩
 obtain⟨v,s1,⟨r,er,ev⟩,_⟩:=R.sl i _ e1
 subst ev
 obtain⟨_,ok⟩:=R.reel r er
 obtain⟨c,l,t,hH,b2,b3,b4⟩:=ok.kv
 refine⟨.ref r,s1,r,.int c,rfl,?_,h _ (.d _) F H (Grow.refl R.sub R.reel) (.int c) trivial (q c)⟩
 have g:=xn.k (k:=kC) hH
 rw[yh]at g
 exact g
def x5(i:Nat)(fa:TV):Ha:=fun D ρ=>fa ρ fun w=>∃n,w = .d (.int n)/\0<=n/\ρ[i]?=some (some .reel)/\D.nx ρ
theorem ut{i:Nat}{x:Str}{k:Str}{j}(hr:Room 0 X.A)(hk:(Lb k:HJ)=kL\/False)(ha:PV X rl e fa)(hN:X.N[i]?=some x:=by rfl)(hv:G6 X.env.scope x:=by first|exact J8 rfl|exact Jw (J8 rfl)|exact Jw (Jw rfl))
 (hd:(x==("__debug__" : Str))=false:=by decide)(hcd:(x==("__classdict__" : Str))=false:=by decide)(hsw:Ku e (some (.Subscript (.Name x p1) (.Constant (.str k) j p2) pos')) pos.line X.env=pure false:=by rfl) :
 Hw X rl (.Assign [.Subscript (.Name x p1) (.Constant (.str k) j p2) pos'] e pos) (x5 i fa):=by
 obtain⟨t,p3,kk⟩:=ha
 refine⟨_,jG (mF hr) (bH hN hv hd hcd) dI p3 hsw,fun{F₀ H₀ F H σ ρ} R Dv D ok q=>kk R _ _ q fun v w F1 H1 g1 r1 n1 ⟨n,ew,hn,e1,q1⟩=>?_⟩
 subst ew
 have ev:=ay r1
 subst ev
 have R1:=R.grow g1
 obtain⟨v,s1,⟨r,er,ev⟩,_⟩:=R1.sl i _ e1
 subst ev
 obtain⟨_,okr⟩:=R1.reel r er
 obtain⟨c,l,t,hH,b2,b3,b4⟩:=okr.kv
 refine⟨.ref r,s1,r,_,rfl,AK.k (k:=(Lb k:HJ)) hH (iz (by show 3<=1000;decide)),?_⟩
 have go:∀l' t':Int,0<=l'->0<=t'->t'+rl.b<2^59990->cU (bG c l t) (Lb k) (.int n)=bG c l' t'->D.nx σ (upd H1 r (.dK (cU (bG c l t) (Lb k) (.int n)))):=fun l' t' x2 x3 x4 e=>by
  rw[e]
  exact ok.nx _ _ _ _ g1.fs (Hq.put (al:=rl.a) (n:=rl.b) (n':=rl.b) R1 er ⟨x2,x3,x4⟩) q1
 rcases hk with hk|hk
 · exact go n t hn b3 b4 (by rw[hk];exact Bn c l t n)
 · exact hk.elim
def G0:W->Option Unit
 | .reel=>some ()
 | _=>none
theorem a_:G0 .reel=some ():=rfl
theorem Dc{i:Nat}:(((ρ[i]?).join).bind G0=some ())↔ρ[i]?=some (some .reel):=by
 constructor
 · intro h
   cases q:ρ[i]? with
   | none=>rw[q]at h;cases h
   | some o=>rw[q]at h;cases o with
     | none=>cases h
     | some w=>cases w<;>first|rfl|cases h
 · intro h;rw[h];rfl
theorem yw{i:Nat}{k:Unit->Mo β}{Q:β->Prop}:aL (((ρ[i]?).join).bind G0) k Q↔ρ[i]?=some (some .reel)/\k () Q:=by
 rw[ai]
 exact⟨fun⟨u,a,q⟩=>⟨Dc.mp a,q⟩,fun⟨a,q⟩=>⟨(),Dc.mpr a,q⟩⟩
theorem aY(i:Nat):EV i ρ=aL (((ρ[i]?).join).bind G0) fun _=>GW (anyM fun n:Int=>0<=n) fun n=>ret (.d (.int n)):=af fun Q=>(Iff.intro (fun⟨a,q⟩=>yw.mpr ⟨a,fun n h=>q n h⟩) fun h=>⟨(yw.mp h).1,fun n hn=>(yw.mp h).2 n hn⟩)
theorem aZ(i:Nat):EW i ρ=aL (((ρ[i]?).join).bind G0) fun _=>GW (anyM fun _:Int=>True) fun n=>ret (.d (.int n)):=af fun Q=>(Iff.intro (fun⟨a,q⟩=>yw.mpr ⟨a,fun n _=>q n⟩) fun h=>⟨(yw.mp h).1,fun n=>(yw.mp h).2 n trivial⟩)
theorem az(i:Nat):mS (x5 i fa) ρ=GW (fa ρ) fun w=>aL (asI w) fun n=>GC (0<=n) (aL (((ρ[i]?).join).bind G0) fun _=>ret (.nx ρ)):=by
 show(GW (fa ρ) fun w=>fun(Q:Fl->Prop)=>∃n,w = .d (.int n)/\0<=n/\ρ[i]?=some (some .reel)/\Q (.nx ρ))=_
 congr 1;funext w
 refine af fun Q=>?_
 simp only[ai (o:=asI w),cq,GC,yw,ret]
end
theorem mf(c l t:Int):dO [] [(kC,V.int c),(kL,.int l),(kT,.int t)]=bG c l t:=by
 unfold dO bG
 simp only[Mf,List.foldl_nil]
 have p0:cU ([]:List (HJ×V)) kC (V.int c)=[(kC,V.int c)]:=rfl
 rw[p0]
 unfold cU
 simp[BC,BB,Az]
section
variable{X:Cx}{s1 s2:Stmt}{t1 t2:Ha}{e1 e2 e3:Expr}{f1 f2 f3:TV}{pos dpos q1 q2 q3:Pos}{j1 j2 j3:Nat}
theorem nO(hs1:Hw X RlT.no s1 t1)(hs2:Hw X RlT.no s2 t2)(h1:PV X RlT.no e1 f1)(h2:PV X RlT.no e2 f2)(h3:PV X RlT.no e3 f3) :
 ∃ T,Hv X [s1,s2,.Return (some (.Dict [some (.Constant (.str "cell") j1 q1),some (.Constant (.str "left") j2 q2),some (.Constant (.str "turn") j3 q3)] [e1,e2,e3] dpos)) pos] T /\
   ∀ {F H:Hp}{σ:St}{ρ:En},VR X.K RlT.no F H F H σ ρ->∀D:Ends,(mS (xq t1 t2) ρ fun r=>∃ρ',r = .nx ρ'/\(GW (f1 ρ') fun w1=>GW (f2 ρ') fun w2=>GW (f3 ρ') fun w3=>ret (w1,w2,w3)) fun p=>∃c l t:Int,p=(.d (.int c),.d (.int l),.d (.int t))/\0<=l/\t=0) ->
     (∀r F' H',H r=none->Grow RlT.no F H F' H'->Hq (RlT.at' r BM) F' H'->D.rt (.ref r) H')->T D σ H:=by
 obtain⟨T1,p1,k1⟩:=hs1
 obtain⟨T2,p2,k2⟩:=hs2
 obtain⟨g1,pe1,ke1⟩:=h1
 obtain⟨g2,pe2,ke2⟩:=h2
 obtain⟨g3,pe3,ke3⟩:=h3
 refine⟨_,cF p1 (cF p2 (jE (kS (oP (cG dI pe1 (cG dI pe2 (cG dI pe3 oE))) rfl rfl (by intro z;cases z) (by show 3<=15;decide))))),fun{F H σ ρ} R D q fin=>?_⟩
 have qq:t1 ⟨fun ρ=>t2 ⟨fun ρ'=>(GW (f1 ρ') fun w1=>GW (f2 ρ') fun w2=>GW (f3 ρ') fun w3=>ret (w1,w2,w3)) fun p=>∃c l t:Int,p=(.d (.int c),.d (.int l),.d (.int t))/\0<=l/\t=0,fun _=>False,fun _=>False,fun _=>False⟩ ρ,fun _=>False,fun _=>False,fun _=>False⟩ ρ:=by
  simpa[mS,xq]using q
 refine k1 R ⟨_,fun _=>False,fun _=>False,fun _=>False⟩ _ ⟨fun F1 H1 σ1 ρ1 sm1 R1 qa=>?_,fun _ _ _ _ _ _ _ z=>Jq z,fun _ _ _ _ _ _ z=>Jq z,fun _ _ _ _ _ _ z=>Jq z⟩ qq
 refine k2 R1 ⟨_,fun _=>False,fun _=>False,fun _=>False⟩ _ ⟨fun F2 H2 σ2 ρ2 sm2 R2 qb=>?_,fun _ _ _ _ _ _ _ z=>Jq z,fun _ _ _ _ _ _ z=>Jq z,fun _ _ _ _ _ _ z=>Jq z⟩ qa
 intro p hp
 have gp:Grow RlT.no F2 H2 F2 (upd H2 p (.dK [])):=Grow.laid R2.sub R2.reel hp
 refine ke1 (R2.grow gp) _ _ qb fun v1 w1 F3 H3 g3' r1 n1 qc=>?_
 refine ke2 ((R2.grow gp).grow g3') _ _ qc fun v2 w2 F4 H4 g4 r2 n2 qd=>?_
 refine ke3 (((R2.grow gp).grow g3').grow g4) _ _ qd fun v3 w3 F5 H5 g5 r3 n3 qe=>?_
 obtain⟨c,l,t,e,hl,ht⟩:=qe
 cases e
 have a1:=ay r1
 have a2:=ay r2
 have a3:=ay r3
 subst a1 a2 a3
 have gg:Grow RlT.no (F2) (upd H2 p (.dK [])) F5 H5:=(g3'.trans g4).trans g5
 have hp5:H5 p=some (.dK []):=gg.same p _ ak (by simp)
 refine⟨hp5,[(kC,.int c),(kL,.int l),(kT,.int t)],rfl,(by show 3<=15;decide),?_⟩
 rw[mf]
 have h0:H p=none:=R2.g.freeB hp
 have f5:F5 p=none:=by rw[gg.old p _ ak];exact R2.sub.free hp
 have g0:Grow RlT.no F H F5 H5:=(R2.g.trans gp).trans gg
 refine fin p F5 _ h0 ⟨fun b o eb _=>by rw[ah (aH eb h0)];exact g0.same b o eb (by simp),g0.fs,fun b o eb=>?_,g0.old,fun _ z=>by cases z⟩ (fun r er=>?_)
 · have:b≠p:=fun z=>by subst z;rw[f5]at eb;cases eb
   rw[ah this]
   exact g0.sub b o eb
 · cases er
   subst ht
   exact⟨f5,⟨_,ak,c,l,0,rfl,hl,by omega,B8⟩⟩
end
def EU(m:Nat)(i:Nat):TV:=fun ρ Q=>ρ[i]?=some (some .reel)/\∀n:Int,0<=n->n+m<2^59990->Q (.d (.int n))
section
variable{X:Cx}{al:Option Addr}{m m' c:Nat}{rest:List Stmt}{u:Ha}{e:Expr}{fa:TV}{pos p p1 p2:Pos}{ρ:En}
theorem uF{i:Nat}{x:Str}{j}(hr:Room 0 X.A)(hN:X.N[i]?=some x:=by rfl)(hv:G6 X.env.scope x:=by first|exact J8 rfl|exact Jw (J8 rfl)|exact Jw (Jw rfl))
 (hd:(x==("__debug__" : Str))=false:=by decide)(hcd:(x==("__classdict__" : Str))=false:=by decide)(hs:ui (.Constant (.str "turn") j p2):=by exact fun _ _=>rfl):PV X ⟨al,m⟩ (.Subscript (.Name x p1) (.Constant (.str "turn") j p2) pos) (EU m i):=by
 refine⟨_,fy (mF hr) (bH hN hv hd hcd) dI hs,fun{F₀ H₀ F H σ ρ} R Qd Q ⟨e1,q⟩ h=>?_⟩
 obtain⟨v,s1,⟨r,er,ev⟩,_⟩:=R.sl i _ e1
 subst ev
 obtain⟨_,ok⟩:=R.reel r er
 obtain⟨c,l,t,hH,b2,b3,b4⟩:=ok.kv
 refine⟨.ref r,s1,r,.int t,rfl,?_,h _ (.d _) F H (Grow.refl R.sub R.reel) (.int t) trivial (q t b3 b4)⟩
 have g:=xn.k (k:=kT) hH
 rw[sX]at g
 exact g
def x_(i ih:Nat)(u:Ha):Ha:=fun D ρ=>ρ[ih]?=some (some .reel)/\i<ρ.length/\∀n:Int,0<=n->n<2^59990->u D (ρ.set i (some (.d (.int n))))
theorem wV(i ih:Nat){x h:Str}{j1 j2:Nat}{q1 q2 q3 q4 q5 q6 q7 q8 q9 q10 q11:Pos}(hr:Room 0 X.A)(hN:X.N.Nodup)(hne:i≠ih)(hrest:Ig X al c rest u)(hi:X.N[i]?=some x:=by rfl)(hih:X.N[ih]?=some h:=by rfl)
 (hx:Loc X.env.scope x:=by first|exact J8 rfl|exact Jw rfl)(hf:X.fn x=true\/X.env.scope.names.lookup x=some .local:=by first|exact .inl rfl|exact .inr rfl)
 (hv:G6 X.env.scope h:=by first|exact J8 rfl|exact Jw (J8 rfl)|exact Jw (Jw rfl))(hvx:G6 X.env.scope x:=by first|exact J8 rfl|exact Jw (J8 rfl)|exact Jw (Jw rfl))
 (hd:(h==("__debug__" : Str))=false:=by decide)(hcd:(h==("__classdict__" : Str))=false:=by decide)(hd':(x==("__debug__" : Str))=false:=by decide)(hcd':(x==("__classdict__" : Str))=false:=by decide)
 (hs:Ku (.BinOp (.Subscript (.Name h q1) (.Constant (.str "turn") j1 q2) q3) .Add (.Constant (.int 1) j2 q4) q5) (some (.Name x q6)) q7.line X.env=pure false:=by rfl)
 (hsw:Ku (.Name x q8) (some (.Subscript (.Name h q9) (.Constant (.str "turn") j1 q10) q11)) pos.line X.env=pure false:=by rfl)
 (hsl:ui (.Constant (.str "turn") j1 q2):=by exact fun _ _=>rfl) :
 Ig X al (1+c) (.Assign [.Name x q6] (.BinOp (.Subscript (.Name h q1) (.Constant (.str "turn") j1 q2) q3) .Add (.Constant (.int 1) j2 q4) q5) q7 :: .Assign [.Subscript (.Name h q9) (.Constant (.str "turn") j1 q10) q11] (.Name x q8) pos::rest) (x_ i ih u):=by
 obtain⟨T,pT,kR⟩:=hrest
 have s1:∀n,Hw X ⟨al,n⟩ (.Assign [.Name x q6] (.BinOp (.Subscript (.Name h q1) (.Constant (.str "turn") j1 q2) q3) .Add (.Constant (.int 1) j2 q4) q5) q7) (nq i (EY (GJ fun i j=>.int (i+j)) (EU n ih) (vC (.int 1)))):=fun n =>
  aD i hN (v_add (uF hr hih hv hd hcd hsl) aj) hi hx hs hf
 refine⟨_,cF (t:=fun D σ H=>∃n,Ja (s1 n) D σ H) (fun pins s σ H D I ⟨n,z⟩=>(Iq (s1 n)).1 pins s σ H D I z) (cF (jG (mF hr) (bH hih hv hd hcd) dI (bH hi hvx hd' hcd') hsw) pT),fun{b F₀ H₀ F H σ ρ} R Dv D ok ⟨e1,hlen,q⟩=>⟨b+(1+c),?_⟩⟩
 refine(Iq (s1 (b+(1+c)))).2 R {Dv with nx:=fun ρ'=>∃n:Int,(0<=n/\n+(b+c:Nat)<2^59990)/\ρ'=ρ.set i (some (.d (.int n)))} _ ⟨fun F1 H1 σ1 ρ1 sm R1 qn=>?_,fun v w F1 H1 g r n q=>(ok.pay (by omega)).rt v w F1 H1 g r n q,fun F1 H1 σ1 ρ1 sm R1 q=>(ok.pay (b:=b+(1+c)) (by omega)).bk F1 H1 σ1 ρ1 sm R1 q,fun F1 H1 σ1 ρ1 sm R1 q=>(ok.pay (b:=b+(1+c)) (by omega)).ct F1 H1 σ1 ρ1 sm R1 q⟩ ?_
 · obtain⟨n,⟨hn,hl⟩,rfl⟩:=qn
   obtain⟨v,s1',r1,_⟩:=R1.sl i (.d (.int n)) (by rw[IW hlen])
   have ev:=ay r1
   subst ev
   obtain⟨v2,s2,⟨r,er,ev2⟩,_⟩:=R1.sl ih .reel (by rw[IM hne];exact e1)
   subst ev2
   obtain⟨_,okr⟩:=R1.reel r er
   obtain⟨cc,l,t,hH,b2,b3,b4⟩:=okr.kv
   refine⟨.int n,s1',.ref r,s2,r,_,rfl,AK.k (k:=kT) hH (iz (by show 3<=1000;decide)),?_⟩
   rw[Bm]
   exact kR (b:=b) (Hq.put (n':=b+c) R1 er ⟨b2,hn,hl⟩) Dv D (ok.on sm) (q n hn (by omega))
 · refine⟨e1,fun n h0 h1=>?_⟩
   refine⟨n,1,rfl,rfl,.int (n+1),rfl,n+1,⟨by omega,by omega⟩,rfl⟩
theorem aB(i ih:Nat):mS (x_ i ih u) ρ=aL (((ρ[ih]?).join).bind G0) fun _=>GC (i<ρ.length) (GW (anyM fun n:Int=>0<=n/\n<2^59990) fun n=>mS u (ρ.set i (some (.d (.int n))))):=af fun Q=>(Iff.intro (fun⟨a,l,q⟩=>yw.mpr ⟨a,l,fun n hn=>q n hn.1 hn.2⟩) fun h=>⟨(yw.mp h).1,(yw.mp h).2.1,fun n h0 h1=>(yw.mp h).2.2 n ⟨h0,h1⟩⟩)
theorem wS(i:Nat){x f:Str}{ps:List Str}{k:Nat}{pre:List W->Prop}{fs:G_}{es:List Expr}{cpos:Pos}(D:DfnR X.prog X.w X.K X.mg X.base f ps k pre)(hr:Room k X.A)(hN:X.N.Nodup)(ha:Hs X RlT.no (e::es) fs)(hrest:∀r,Ig X (some r) c rest u)(hc:c<=BM)
 (hi:X.N[i]?=some x:=by rfl)(hx:Loc X.env.scope x:=by first|exact J8 rfl|exact Jw rfl)(hg:Gl X f:=by rfl)(hdb:(f==("__debug__" : Str))=false:=by decide)
 (he:IC (e::es) X.env=(false,eval e X.env)::IC es X.env:=by rfl)(hpl:(Kh cpos (IC es X.env)).any (·.1)=false:=by rfl)
 (hs:Ku (.Call (.Name f p) (e::es) [] cpos) (some (.Name x px)) pos.line X.env=pure false:=by rfl)(hf:X.fn x=true\/X.env.scope.names.lookup x=some .local:=by first|exact .inl rfl|exact .inr rfl) :
 jm X RlT.no (.Assign [.Name x px] (.Call (.Name f p) (e::es) [] cpos) pos::rest) (x6 i pre fs u):=by
 obtain⟨fa,fd,hm,hk,hb,F⟩:=D.ex
 obtain⟨ta,p1,k1⟩:=ha
 refine⟨_,cF (fq hN hi hx (d9 F hr hg hm hk hb .nil me p1 hdb he hpl) hs hf) (vB X rest),fun{F₀ H₀ F H σ ρ} R Dv D ok q=>k1 R _ _ q fun vs ws F1 H1 g1 r1 ⟨ao,pw,q1⟩=>?_⟩
 have R1:=R.grow g1
 refine⟨F1,ws,g1.sub,by rw[JS];exact r1,ao,pw,fun r F2 H2 hr2 g2 ra=>?_⟩
 intro pins s I
 obtain⟨T,pT,kT⟩:=hrest r
 have h0:H₀ r=none:=R1.g.freeB hr2
 refine pT pins s _ H2 D I (kT (b:=0) ((R1.into hr2 g2 ra i).pay (by omega)) _ D ⟨fun F3 H3 σ3 ρ3 s3 R3 q3=>?_,fun v w F3 H3 g3 r3 n3 q3=>?_,fun F3 H3 σ3 ρ3 s3 R3 q3=>?_,fun F3 H3 σ3 ρ3 s3 R3 q3=>?_⟩ q1)
 · exact ok.nx F3 H3 σ3 _ (g1.fs.trans (g2.fs.trans s3)) (R3.out h0) q3
 · exact ok.rt v w F3 H3 (ls g3 h0) (ox r3 q3.1) n3 q3.2
 · exact ok.bk F3 H3 σ3 _ (g1.fs.trans (g2.fs.trans s3)) (R3.out h0) q3
 · exact ok.ct F3 H3 σ3 _ (g1.fs.trans (g2.fs.trans s3)) (R3.out h0) q3
end
theorem aA(n:Nat)(fl:List Nat)(fi:En->(List Im->Prop)->Prop)(g:Hf)(t:Ha)(ρ:En):mS (x9 n fl fi g t) ρ=GW (fi ρ) fun xs=>GC (xs.length<=n) (bU fl (GY g t) xs (fo fl ρ)):=by
 refine af fun Q=>?_
 show(fi ρ fun xs=>xs.length<=n/\mS (bR fl g t xs) (fo fl ρ) Q)↔_
 simp only[jL]
 exact Mv
theorem av(n:Nat)(fi:En->(List Im->Prop)->Prop)(fr:List (Option Nat))(g:Hf)(ft:TB)(fe:TV)(ρ:En):kE n fi fr g ft fe ρ=GW (fi ρ) fun xs=>GC (xs.length<=n) (GW (bJ (Gq (dB fr ρ) g ft fe) xs []) fun ds=>ret (.ml ds)):=by
 refine af fun Q=>?_
 show(fi ρ fun xs=>xs.length<=n/\kB (dB fr ρ) g ft fe xs [] fun ds=>Q (.ml ds))↔_
 simp only[ib]
 exact Mv
def fr(q:Rat):Im:=.tuple [.int q.num,.int q.den]
theorem tV{r:Rat}(h:fr q=fr r):q=r:=by
 simp only[fr,Kf,J9,NP,and_true]at h
 exact Rat.ext h.1 (by omega)
theorem lc(n:Int)(d:Nat)(h:d≠0):xt n d=fr (NM n d h):=by
 unfold xt fr
 rw[Rat.normalize_eq]
 have g:(Kg n d:Int)=((n.natAbs.gcd d:Nat):Int):=by simp[Kg]
 have gp:0<n.natAbs.gcd d:=Nat.gcd_pos_of_pos_right _ (by omega)
 have e1:n.fdiv (Kg n d)=n / ((n.natAbs.gcd d:Nat):Int):=by rw[g,Ko _ (by omega)]
 have e2:(d:Int).fdiv (Kg n d)=((d / n.natAbs.gcd d:Nat):Int):=by rw[g,Ko _ (by omega),Int.natCast_ediv]
 rw[e1,e2]
theorem oY{a:Int}(hb:0<b):xt a b=fr ((a:Rat) / (b:Rat)):=by
 obtain⟨d,rfl⟩:=JC (show 0<=b by omega)
 rw[lc a d (by omega)]
 congr 1
 have:(NM a d (by omega))=mkRat a d:=by rw[Rat.normalize_eq_mkRat]
 rw[this,Rat.mkRat_eq_div]
 rfl
def FM(f:Rat->Rat->Im)(pre:Rat->Rat->Prop):List W->(Im->Prop)->Prop:=fun ws Q=>∃q r,ws=[.d (fr q),.d (fr r)]/\pre q r/\Q (f q r)
theorem FM.mono{f:Rat->Rat->Im}{pre:Rat->Rat->Prop}:∀ws (Q Q':Im->Prop),(∀d,Q d->Q' d)->FM f pre ws Q->FM f pre ws Q':=fun _ _ _ h ⟨q,r,e,p,x⟩=>⟨q,r,e,p,h _ x⟩
theorem FM.len{f:Rat->Rat->Im}{pre:Rat->Rat->Prop}:∀ws (Q:Im->Prop),FM f pre ws Q->ws.length=2:=fun _ _ ⟨_,_,e,_⟩=>by subst e;rfl
def FN(f:Rat->Im)(pre:Rat->Prop):List W->(Im->Prop)->Prop:=fun ws Q=>∃q,ws=[.d (fr q)]/\pre q/\Q (f q)
theorem FN.mono{f:Rat->Im}{pre:Rat->Prop}:∀ws (Q Q':Im->Prop),(∀d,Q d->Q' d)->FN f pre ws Q->FN f pre ws Q':=fun _ _ _ h ⟨q,e,p,x⟩=>⟨q,e,p,h _ x⟩
theorem FN.len{f:Rat->Im}{pre:Rat->Prop}:∀ws (Q:Im->Prop),FN f pre ws Q->ws.length=1:=fun _ _ ⟨_,e,_⟩=>by subst e;rfl
def FK(n:Nat)(q:Rat):Prop:=q.num.natAbs<2^n/\q.den<2^n
theorem FK.mono(h:FK n q)(hm:n<=m):FK m q:=⟨IG h.1 (Jm (by decide) hm),IG h.2 (Jm (by decide) hm)⟩
theorem wZ{i:Int}(h:i.natAbs<2^2000):Ii i:=IG h (Jm (by decide) (by decide))
theorem FK.bn(h:FK 2000 q):Ii q.num:=wZ h.1
inductive Sd where
 | to (t:Rat)|from(a b:Rat)|round (a b:Rat)
def Sd.last:Sd->Rat
 | .to t=>t | .from _ b=>b | .round _ b=>b
def Sd.first:Sd->Rat
 | .to t=>t | .from a _=>a | .round a _=>a
def Sd.word:Sd->Str
 | .to _ => "to" | .from _ _ => "from" | .round _ _ => "round"
def FC:Sd->Im
 | .to t=>.tuple [.str "to", fr t]
 | .from a b=>.tuple [.str "from", fr a,fr b]
 | .round a b=>.tuple [.str "round", fr a,fr b]
def mx(q r:Rat):Rat:=if q<r then r else q
def mn(q r:Rat):Rat:=if q<r then q else r
def Sd.Sm(s:Sd):Prop:=FK 60 s.first/\FK 60 s.last
theorem v7{n:Int}{d k:Nat}(hd:d≠0)(h1:n.natAbs<2^k)(h2:d<2^k):FK k (NM n d hd):=by
 rw[Rat.normalize_eq]
 refine⟨?_,K5 (Nat.div_le_self _ _) h2⟩
 show(n / ((n.natAbs.gcd d:Nat):Int)).natAbs<2^k
 have hdv:((n.natAbs.gcd d:Nat):Int)∣n:=Int.ofNat_dvd_left.mpr (Nat.gcd_dvd_left _ _)
 rw[Int.natAbs_ediv_of_dvd hdv,Int.natAbs_natCast]
 exact K5 (Nat.div_le_self _ _) h1
theorem FK.up(h:FK 60 q):FK 2000 q:=h.mono (by decide)
def BY{α:Type}(pre:α->Prop)(enc:α->Im)(f:α->Im):List W->(Im->Prop)->Prop:=fun ws Q=>∃a,ws=[.d (enc a)]/\pre a/\Q (f a)
theorem BY.mono{pre:α->Prop}{enc:α->Im}{f:α->Im}:∀ws (Q Q':Im->Prop),(∀d,Q d->Q' d)->BY pre enc f ws Q->BY pre enc f ws Q':=fun _ _ _ h ⟨a,e,p,q⟩=>⟨a,e,p,h _ q⟩
theorem BY.len{pre:α->Prop}{enc:α->Im}{f:α->Im}:∀ws (Q:Im->Prop),BY pre enc f ws Q->ws.length=1:=fun _ _ ⟨_,e,_⟩=>by subst e;rfl
def GF(x y:Rat)(b:Bool):Bool:=if b then !decide (y<x)else decide (x<y)
def GE:List W->(Im->Prop)->Prop:=fun ws Q=>∃x y b,ws=[.d (fr x),.d (fr y),.d (.bool b)]/\FK 2000 x/\FK 2000 y/\Q (.bool (GF x y b))
theorem GE.mono:∀ws (Q Q':Im->Prop),(∀d,Q d->Q' d)->GE ws Q->GE ws Q':=fun _ _ _ h ⟨a,b,c,e,p,p',q⟩=>⟨a,b,c,e,p,p',h _ q⟩
theorem GE.len:∀ws (Q:Im->Prop),GE ws Q->ws.length=3:=fun _ _ ⟨_,_,_,e,_⟩=>by subst e;rfl
def Gs(w:Str):Prop:=w = "half" \/ w = "shut" \/ w = "open"
def Ge(s:Sd)(w:Str)(x:Rat):Bool :=
 let ahead:=GF x s.last (decide (w = "shut"))
 let behind:=GF s.first x (!decide (w = "open"))
 match s with
 | .to _=>ahead
 | .from _ _=>behind&&ahead
 | .round _ _=>behind||ahead
def Gc:List W->(Im->Prop)->Prop:=fun ws Q=>∃x s w,ws=[.d (fr x),.d (FC s),.d (.str w)]/\FK 60 x/\s.Sm/\Gs w/\Q (.bool (Ge s w x))
theorem Gc.mono:∀ws (Q Q':Im->Prop),(∀d,Q d->Q' d)->Gc ws Q->Gc ws Q':=fun _ _ _ h ⟨a,b,c,e,p,p',p'',q⟩=>⟨a,b,c,e,p,p',p'',h _ q⟩
theorem Gc.len:∀ws (Q:Im->Prop),Gc ws Q->ws.length=3:=fun _ _ ⟨_,_,_,e,_⟩=>by subst e;rfl
def Bp(qs:List Rat):Rat:=qs.foldl (· * ·) 1
def FU:List W->(Im->Prop)->Prop:=fun ws Q=>∃qs:List Rat,ws=[.d (.list (qs.map fr))]/\qs.length<=4/\(∀q∈qs,FK 400 q)/\Q (fr (Bp qs))
theorem FU.mono:∀ws (Q Q':Im->Prop),(∀d,Q d->Q' d)->FU ws Q->FU ws Q':=fun _ _ _ h ⟨a,e,p,p',q⟩=>⟨a,e,p,p',h _ q⟩
theorem FU.len:∀ws (Q:Im->Prop),FU ws Q->ws.length=1:=fun _ _ ⟨_,e,_⟩=>by subst e;rfl
def xy(ss:List Sd):Im:=.tuple (ss.map FC)
def Cf(ss:List Sd):Prop:=1<=ss.length/\ss.length<=4/\∀s∈ss,s.Sm
def FQ(qs:List Rat):Im:=.tuple (qs.map fr)
def Dx(n:Nat)(qs:List Rat):Prop:=qs.length=n/\∀q∈qs,FK 60 q
def Gk(qs:List Rat)(ss:List Sd)(w:Str):Bool:=(qs.zip ss).all fun p=>Ge p.2 w p.1
def Gj:List W->(Im->Prop)->Prop:=fun ws Q=>∃qs ss w,ws=[.d (FQ qs),.d (xy ss),.d (.str w)]/\Dx ss.length qs/\Cf ss/\Gs w/\Q (.bool (Gk qs ss w))
theorem Gj.mono:∀ws (Q Q':Im->Prop),(∀d,Q d->Q' d)->Gj ws Q->Gj ws Q':=fun _ _ _ h ⟨a,b,c,e,p,p',p'',q⟩=>⟨a,b,c,e,p,p',p'',h _ q⟩
theorem Gj.len:∀ws (Q:Im->Prop),Gj ws Q->ws.length=3:=fun _ _ ⟨_,_,_,e,_⟩=>by subst e;rfl
def dC(ps:List (List Rat)):Im:=.tuple (ps.map FQ)
def Dy(n:Nat)(ps:List (List Rat)):Prop:=1<=ps.length/\ps.length<=40/\∀p∈ps,Dx n p
def GU(f:List (List Rat)->List Sd->Str->Im):List W->(Im->Prop)->Prop:=fun ws Q=>∃ps ss w,ws=[.d (dC ps),.d (xy ss),.d (.str w)]/\Dy ss.length ps/\Cf ss/\Gs w/\Q (f ps ss w)
theorem GU.mono{f:List (List Rat)->List Sd->Str->Im}:∀ws (Q Q':Im->Prop),(∀d,Q d->Q' d)->GU f ws Q->GU f ws Q':=fun _ _ _ h ⟨a,b,c,e,p,p',p'',q⟩=>⟨a,b,c,e,p,p',p'',h _ q⟩
theorem GU.len{f:List (List Rat)->List Sd->Str->Im}:∀ws (Q:Im->Prop),GU f ws Q->ws.length=3:=fun _ _ ⟨_,_,_,e,_⟩=>by subst e;rfl
def Gb(f:List (List Rat)->List Sd->Rat):List W->(Im->Prop)->Prop:=fun ws Q=>∃ps ss,ws=[.d (dC ps),.d (xy ss)]/\Dy ss.length ps/\Cf ss/\Q (fr (f ps ss))
theorem Gb.mono{f:List (List Rat)->List Sd->Rat}:∀ws (Q Q':Im->Prop),(∀d,Q d->Q' d)->Gb f ws Q->Gb f ws Q':=fun _ _ _ h ⟨a,b,e,p,p',q⟩=>⟨a,b,e,p,p',h _ q⟩
theorem Gb.len{f:List (List Rat)->List Sd->Rat}:∀ws (Q:Im->Prop),Gb f ws Q->ws.length=2:=fun _ _ ⟨_,_,e,_⟩=>by subst e;rfl
theorem kd{α β:Type}(f:α->Im)(g:β->Im):∀(xs:List α)(ys:List β),ie (xs.map f) (ys.map g)=(xs.zip ys).map fun p=>.tuple [f p.1,g p.2]
 | [],_=>by simp[ie]
 | _::_,[]=>by simp[ie]
 | x::xs,y::ys=>by
   show Ji [f x,g y]::ie (xs.map f) (ys.map g)=_
   rw[kd f g xs ys]
   rfl
theorem pd:∀qs:List Rat,Ke (qs.map fr)=true
 | []=>rfl
 | q::qs=>by simp[Ke,Ka,fr,pd qs]
theorem pK:∀qs:List Rat,Jn (qs.map fr)<=3
 | []=>by simp[Jn]
 | q::qs=>by
   have:=pK qs
   simp[Jn,JM,fr]at this ⊢
   omega
def F_:List W->(Im->Prop)->Prop:=fun ws Q=>ws=[.reel]/\∀q,FK 60 q->Q (fr q)
theorem F_.mono:∀ws (Q Q':Im->Prop),(∀d,Q d->Q' d)->F_ ws Q->F_ ws Q':=fun _ _ _ h ⟨e,q⟩=>⟨e,fun r hr=>h _ (q r hr)⟩
theorem F_.len:∀ws (Q:Im->Prop),F_ ws Q->ws.length=1:=fun _ _ ⟨e,_⟩=>by subst e;rfl
def GP:List W->(Im->Prop)->Prop:=fun ws Q=>∃qs:List Rat,ws=[.reel,.d (.list (qs.map fr))]/\(∀q∈qs,FK 60 q)/\qs.length<=40/\∀q,FK 60 q->Q (fr q)
theorem GP.mono:∀ws (Q Q':Im->Prop),(∀d,Q d->Q' d)->GP ws Q->GP ws Q':=fun _ _ _ h ⟨a,e,p,p',q⟩=>⟨a,e,p,p',fun r hr=>h _ (q r hr)⟩
theorem GP.len:∀ws (Q:Im->Prop),GP ws Q->ws.length=2:=fun _ _ ⟨_,e,_⟩=>by subst e;rfl
def D8(w:Str):Prop:=w = "to" \/ w = "from" \/ w = "round"
def FB:List W->(Im->Prop)->Prop:=fun ws Q=>∃(qs:List Rat)(w:Str),ws=[.reel,.d (.list (qs.map fr)),.d (.str w)]/\(∀q∈qs,FK 60 q)/\qs.length<=40/\D8 w/\∀s:Sd,s.Sm->Q (FC s)
theorem FB.mono:∀ws (Q Q':Im->Prop),(∀d,Q d->Q' d)->FB ws Q->FB ws Q':=fun _ _ _ h ⟨a,b,e,p,p',p'',q⟩=>⟨a,b,e,p,p',p'',fun r hr=>h _ (q r hr)⟩
theorem FB.len:∀ws (Q:Im->Prop),FB ws Q->ws.length=3:=fun _ _ ⟨_,_,e,_⟩=>by subst e;rfl
theorem zN{r:Rat}:fr q=fr r↔q=r:=⟨tV,fun h=>by rw[h]⟩
theorem u7{s t:Sd}:FC s=FC t↔s=t:=by
 constructor
 · intro h
   have n1:¬(Str.ofString "from" = Str.ofString "round"):=by decide +kernel
   cases s<;>cases t<;>simp[FC,zN,n1,L3 n1]at h ⊢ <;> first|exact h|exact(n1 h.1.symm).elim|exact(n1 h.1).elim
 · rintro rfl;rfl
theorem vw{a b:List Rat}:FQ a=FQ b↔a=b:=by
 unfold FQ
 rw[Kf,b_ fun _ _=>zN]
theorem uc{a b:List Sd}:xy a=xy b↔a=b:=by
 unfold xy
 rw[Kf,b_ fun _ _=>u7]
theorem iO{a b:List (List Rat)}:dC a=dC b↔a=b:=by
 unfold dC
 rw[Kf,b_ fun _ _=>vw]
theorem zM{a b:List Rat}:a.map fr=b.map fr↔a=b:=b_ fun _ _=>zN
theorem uT(a:List (List Rat)):tupD (dC a)=some (a.map FQ):=rfl
def qd(a b:Int):Rat:=(a:Rat) / (b:Rat)
theorem zu{a:Int}(hb:0<b):Ji [.int (a.fdiv (Kg a b)),.int (b.fdiv (Kg a b))]=fr (qd a b):=oY hb
theorem vj(q:Rat):qd q.num q.den=q:=by
 unfold qd
 have:=Rat.mkRat_self q
 rw[Rat.mkRat_eq_div]at this
 exact this
theorem zV(q:Rat):(0:Int)<(q.den:Int):=by have:=q.den_nz;omega
theorem Bi{a:Int}{k:Nat}(hb:0<b)(h1:a.natAbs<2^k)(h2:b.natAbs<2^k):FK k (qd a b):=by
 obtain⟨d,rfl⟩:=JC (show 0<=b by omega)
 have hd:d≠0:=by omega
 have e:qd a d=NM a d hd:=tV (by rw[<- lc,oY (by omega)];rfl)
 rw[e]
 exact v7 _ h1 (by simpa using h2)
def sg(x y:Rat):Int:=x.num*y.den-y.num*x.den
theorem o9:∀ps:List (List Rat),Ke (ps.map FQ)=true
 | []=>rfl
 | p::ps=>by simp[Ke,Ka,FQ,pd,o9 ps]
theorem pJ:∀ps:List (List Rat),Jn (ps.map FQ)<=5
 | []=>by simp[Jn]
 | p::ps=>by
   have:=pJ ps
   have:=pK p
   simp[Jn,JM,FQ]at *
   omega
def AJ(qs:List Rat):Prop:=∀q∈qs,0<=q/\q<1
def Ao(ps:List (List Rat)):Prop:=∀p∈ps,AJ p
theorem AJ.snoc{qs:List Rat}{r:Rat}(h:AJ qs)(hr:0<=r/\r<1):AJ (qs++[r]):=fun q hq=>by
 rcases JR.mp hq with h'|h'
 · exact h q h'
 · simp at h';rw[h'];exact hr
theorem Ao.snoc{ps:List (List Rat)}{r:List Rat}(h:Ao ps)(hr:AJ r):Ao (ps++[r]):=fun q hq=>by
 rcases JR.mp hq with h'|h'
 · exact h q h'
 · simp at h';rw[h'];exact hr
theorem Bj{a:Int}(hb:0<b)(h:0<=a):0<=qd a b:=by
 unfold qd
 have h1:(0:Rat)<=(a:Rat):=by exact_mod_cast h
 have h2:(0:Rat)<(b:Rat):=by exact_mod_cast hb
 rw[Rat.div_def]
 exact Rat.mul_nonneg h1 (Rat.le_of_lt (Rat.inv_pos.mpr h2))
theorem yI{a:Int}(hb:0<b)(h:a<b):qd a b<1:=by
 unfold qd
 have h1:(a:Rat)<(b:Rat):=by exact_mod_cast h
 have h2:(0:Rat)<(b:Rat):=by exact_mod_cast hb
 exact(Rat.div_lt_iff h2).mpr (by rw[Rat.one_mul];exact h1)
def fv(b:Int):List Int->Rat
 | []=>0
 | d::ds=>((d:Rat)+fv b ds) / (b:Rat)
def nv(b:Int):List Int->Int
 | []=>0
 | d::ds=>d+b*nv b ds
def tv(b:Int)(ds:List Int):Int:=ds.foldl (fun t d=>t*b+d) 0
def H0(b:Int)(ds:List Int):Prop:=∀d∈ds,0<=d/\d<b
theorem ia(b:Int):∀(ds:List Int)(t:Int),ds.foldl (fun t d=>t*b+d) t=t*b^ds.length+tv b ds
 | [],t=>by simp[tv]
 | d::ds,t=>by
   rw[Mf,ia b ds (t*b+d),show tv b (d::ds)=ds.foldl (fun t d=>t*b+d) (0*b+d)from rfl,ia b ds (0*b+d),Ju,K7]
   grind
theorem gR(b d:Int)(ds:List Int):tv b (d::ds)=d*b^ds.length+tv b ds:=by
 rw[show tv b (d::ds)=ds.foldl (fun t d=>t*b+d) (0*b+d)from rfl,ia];grind
theorem gm(h:0<b):(b:Rat)≠0:=by
 intro z
 have:b=0:=by exact_mod_cast z
 omega
theorem yc{b:Int}(hb:2<=b):∀ds:List Int,qd (tv b ds) (b^ds.length)=fv b ds
 | []=>by rw[show tv b []=0 from rfl,LF,Pi];show((0:Int):Rat) / ((1:Int):Rat)=0;rw[Rat.div_def,show((0:Int):Rat)=0 from rfl,Rat.zero_mul]
 | d::ds=>by
   have ih:=yc hb ds
   have h1:=gm (show 0<b by omega)
   have h2:=gm (show 0<b^ds.length from Kq (by omega))
   rw[gR,fv,<- ih,Ju,K7]
   unfold qd
   rw[Rat.intCast_add,M2,M2]
   grind
theorem nF{b:Int}(hb:2<=b):∀ds:List Int,H0 b ds->0<=tv b ds/\tv b ds<b^ds.length
 | [],_=>⟨Mu _,by simp[tv]⟩
 | d::ds,h=>by
   obtain⟨i1,i2⟩:=nF hb ds fun x m=>h x (Ir _ m)
   obtain⟨j1,j2⟩:=h d Iz
   have hp:0<b^ds.length:=Kq (by omega)
   rw[gR,Ju,K7,Nm (b^ds.length) b]
   have h1:0<=d*b^ds.length:=LA j1 (by omega)
   have h2:(d+1)*b^ds.length<=b*b^ds.length:=Lm (by omega) (by omega)
   rw[Int.add_mul,Int.one_mul]at h2
   omega
def Xp(b t B:Int)(ds:List Int):Prop:=H0 b ds/\t*b^ds.length=tv b ds*B
theorem Xp.nil{t B:Int}(h:Xp b t B []):t=0:=by
 have:=h.2
 simpa[tv]using this
theorem Xp.cons{b t B d:Int}{ds:List Int}(hb:2<=b)(hB:0<B)(h:Xp b t B (d::ds)):(t*b) / B=d/\Xp b (t*b%B) B ds:=by
 obtain⟨f,e⟩:=h
 have fd:H0 b ds:=fun x m=>f x (Ir _ m)
 obtain⟨s0,s1⟩:=nF hb ds fd
 rw[gR,Ju,K7]at e
 generalize hn:b^ds.length=n at *
 generalize hs:tv b ds=s at *
 have hn0:0<n:=by rw[<- hn];exact Kq (by omega)
 have e1:n*(t*b-d*B)=s*B:=by grind
 have r0:0<=t*b-d*B:=by
  by_cases z:0<=t*b-d*B
  · exact z
  · have:n*(t*b-d*B)<0:=Int.mul_neg_of_pos_of_neg hn0 (by omega)
    have:0<=s*B:=LA s0 (by omega)
    omega
 have r1:t*b-d*B<B:=by
  have h1:s*B<n*B:=LN s1 hB
  exact Int.lt_of_mul_lt_mul_left (e1▸h1) (by omega)
 have q:t*b / B=d:=by
  have:t*b=(t*b-d*B)+d*B:=by omega
  rw[this,Int.add_mul_ediv_right _ _ (by omega),Int.ediv_eq_zero_of_lt r0 r1,LM]
 have q2:t*b%B=t*b-d*B:=by rw[Int.emod_def,q,Nm B d]
 exact⟨q,fd,by rw[q2,hn,hs,Nm,e1]⟩
theorem E4{b:Int}(hb:2<=b):∀ds:List Int,H0 b ds->tv b ds=0->∀d∈ds,d=0
 | [],_,_,_,m=>nomatch m
 | d::ds,h,e,x,m=>by
   have fd:H0 b ds:=fun x m=>h x (Ir _ m)
   obtain⟨s0,s1⟩:=nF hb ds fd
   obtain⟨j1,j2⟩:=h d Iz
   have hp:0<b^ds.length:=Kq (by omega)
   rw[gR]at e
   have hd:d=0:=by
    by_cases z:d=0
    · exact z
    · have:0<d*b^ds.length:=Int.mul_pos (by omega) hp
      omega
   subst hd
   rw[Pj,LM]at e
   rcases Jf.mp m with rfl|m
   · rfl
   · exact E4 hb ds fd e x m
theorem FZ(b:Int)(f:Int->Int)(h0:f 0=0):∀ds:List Int,(∀d∈ds,d=0)->nv b (ds.map f)=0
 | [],_=>rfl
 | d::ds,h=>by
   rw[IP,nv,h d Iz,h0,FZ b f h0 ds fun x m=>h x (Ir _ m)];simp
theorem Xp.zero{B:Int}(hb:2<=b)(hB:0<B)(h:Xp b 0 B ds):∀d∈ds,d=0:=by
 have e:=h.2
 rw[Pj]at e
 have:tv b ds=0:=by
  rcases Int.mul_eq_zero.mp e.symm with z|z
  · exact z
  · omega
 exact E4 hb ds h.1 this
theorem Xp.uniq{b B:Int}(hb:2<=b)(hB:0<B)(f:Int->Int)(h0:f 0=0):∀(ds es:List Int)(t:Int),Xp b t B ds->Xp b t B es->nv b (ds.map f)=nv b (es.map f)
 | [],es,t,h,k=>by
   have:=h.nil
   subst this
   rw[FZ b f h0 es (k.zero hb hB)];rfl
 | d::ds,[],t,h,k=>by
   have:=k.nil
   subst this
   rw[FZ b f h0 (d::ds) (h.zero hb hB)];rfl
 | d::ds,e::es,t,h,k=>by
   obtain⟨a1,a2⟩:=h.cons hb hB
   obtain⟨b1,b2⟩:=k.cons hb hB
   rw[IP,IP,nv,nv,Xp.uniq hb hB f h0 ds es _ a2 b2,<- a1,<- b1]
def ix(p:List Int)(f:Int):Int:=(p.idxOf f:Int)
def Dz(b:Int)(q:Rat):Prop:=∃ds,Xp b q.num q.den ds
open Classical in
noncomputable def sC(b:Int)(p:List Int)(q:Rat):Option Int:=if h:Dz b q then some (nv b (h.choose.map (ix p)))else none
theorem Go{p:List Int}(ex:IsEx b p):ix p 0=0:=by
 cases p with
 | nil=>cases ex.zero
 | cons x p =>
   have:=ex.zero
   simp only[List.head?_cons,PM.injEq]at this
   subst this
   simp[ix,List.idxOf_cons_self]
theorem w6{p:List Int}(hb:2<=b)(ex:IsEx b p)(h:Xp b q.num q.den ds):sC b p q=some (nv b (ds.map (ix p))):=by
 have hx:Dz b q:=⟨ds,h⟩
 unfold sC
 rw[dif_pos hx,Xp.uniq hb (zV q) (ix p) (Go ex) _ ds q.num hx.choose_spec h]
def GR(b n:Int):List Int:=(digs b.toNat n.toNat).map fun(k:Nat)=>(k:Int)
theorem vZ{b:Nat}(hb:2<=b):∀n:Nat,nv (b:Int) ((digs b n).map fun(k:Nat)=>(k:Int))=n:=by
 intro n
 induction n using MY with
 | _ n ih =>
   by_cases h:0<n
   · rw[dS hb h,IP,nv,ih (n / b) (MX h (by omega))]
     have:=Nat.mod_add_div n b
     exact_mod_cast this
   · have:n=0:=by omega
     subst this
     rw[cW];rfl
theorem zj{n:Int}(hb:2<=b)(hn:0<=n):nv b (GR b n)=n:=by
 have:=vZ (b:=b.toNat) (by omega) n.toNat
 rw[J3 (by omega),J3 hn]at this
 exact this
theorem pH(hb:2<=b)(n:Int):H0 b (GR b n):=by
 intro d m
 obtain⟨k,mk,rfl⟩:=Jo.mp m
 have:=wQ (b:=b.toNat) (by omega) _ k mk
 omega
theorem kW(b:Int)(m:Nat):∀xs:List Int,nv b (xs++IH m 0)=nv b xs
 | []=>by
   show nv b (IH m 0)=0
   induction m with
   | zero=>rfl
   | succ m ih=>rw[JJ,nv,ih];simp
 | x::xs=>by rw[NO,nv,kW b m xs,nv]
theorem uP(b:Int)(ds:List Int)(d:Int):tv b (ds++[d])=tv b ds*b+d:=by simp[tv]
theorem iw(b:Int):∀xs:List Int,tv b xs.reverse=nv b xs
 | []=>rfl
 | x::xs=>by rw[LR,uP,iw b xs,nv];grind
theorem lg{b:Nat}(hb:2<=b):∀(k n:Nat),n<b^k->(digs b n).length<=k
 | k,n,h=>by
   by_cases hn:0<n
   · cases k with
     | zero=>simp at h;omega
     | succ k =>
       rw[dS hb hn,Ju]
       have:n / b<b^k:=by rw[Nat.div_lt_iff_lt_mul (by omega)];rw[Pg]at h;exact h
       have:=lg hb k (n / b) this
       omega
   · have:n=0:=by omega
     subst this
     rw[cW];simp
theorem jM{n:Int}{k:Nat}(hb:2<=b)(hn:0<=n)(h:n<b^k):(GR b n).length<=k:=by
 unfold GR
 rw[IE]
 refine lg (by omega) k _ ?_
 have:((n.toNat:Nat):Int)<((b.toNat^k:Nat):Int):=by
  rw[J3 hn,Int.natCast_pow,J3 (by omega)];exact h
 exact_mod_cast this
def FV(b c:Int)(k:Nat):List Int:=GR b c++IH (k-(GR b c).length) 0
theorem hE{k:Nat}(hb:2<=b)(hc:0<=c)(h:c<b^k):(FV b c k).length=k:=by
 have:=jM hb hc h
 simp[FV];omega
theorem jH{k:Nat}(hb:2<=b):H0 b (FV b c k):=by
 intro d m
 rcases JR.mp m with m|m
 · exact pH hb c d m
 · rw[(List.mem_replicate.mp m).2];omega
theorem y7{k:Nat}(hb:2<=b)(hc:0<=c):nv b (FV b c k)=c:=by
 unfold FV
 rw[kW,zj hb hc]
theorem yY{t B:Int}{k:Nat}(hb:2<=b)(hc:0<=c)(h:c<b^k)(e:c*B=t*b^k):Xp b t B (FV b c k).reverse:=by
 refine⟨fun d m=>jH hb d (NQ.mp m),?_⟩
 rw[Kt,hE hb hc h,iw,y7 hb hc,e]
theorem qS{a:Int}(hc:0<c):(qd a c).num*c=a*(qd a c).den:=by
 have h1:=gm hc
 have h2:=gm (zV (qd a c))
 have e:qd (qd a c).num (qd a c).den=qd a c:=vj _
 have e':((qd a c).num:Rat) / (((qd a c).den:Int):Rat)=(a:Rat) / (c:Rat):=e
 generalize (qd a c).num=x at *
 generalize ((qd a c).den:Int)=y at *
 have:(x:Rat)*(c:Rat)=(a:Rat)*(y:Rat):=by grind
 exact_mod_cast this
def GN(p:List Int)(a:Int):Int:=p.getD a.toNat 0
theorem zQ{p:List Int}(ex:IsEx b p){a:Int}(h0:0<=a)(h:a<b):0<=GN p a/\GN p a<b:=(wG ex (show a.toNat<b.toNat by omega)).2
theorem FT:∀(l r:List Int),l.Nodup->(∀x∈l,x∈r)->l.length<=r.length
 | [],r,_,_=>Jz _
 | x::l,r,nd,h=>by
   have hx:=h x Iz
   obtain⟨n1,n2⟩:=JX.mp nd
   have:=FT l (r.erase x) n2 fun y my=>(Ou (a:=y) (b:=x) (fun z=>n1 (by rw[<- z];exact my))).mpr (h y (Ir _ my))
   rw[L7 hx]at this
   have:=List.length_pos_of_mem hx
   simp only[Ju]
   omega
theorem zq{p:List Int}(ex:IsEx b p){f:Int}(h0:0<=f)(h:f<b):f∈p:=by
 by_cases m:f∈p
 · exact m
 · have:=FT (f::p) (xv 0 b.toNat) (JX.mpr ⟨m,ex.nd⟩) fun x mx=>by
     rw[rM]
     rcases Jf.mp mx with rfl|mx
     · omega
     · have:=ex.rng x mx;omega
   rw[fD,Ju,ex.len]at this
   omega
theorem BE{p:List Int}(ex:IsEx b p){f:Int}(h0:0<=f)(h:f<b):0<=ix p f/\ix p f<b:=by
 have:=List.idxOf_lt_length_of_mem (zq ex h0 h)
 rw[ex.len]at this
 unfold ix
 omega
def A2(b:Int)(p:List Int)(n:Int):Rat:=fv b ((GR b n).map (GN p))
theorem zP{p:List Int}(ex:IsEx b p)(f:H0 b ds):H0 b (ds.map (GN p)):=by
 intro d m
 obtain⟨a,ma,rfl⟩:=Jo.mp m
 exact zQ ex (f a ma).1 (f a ma).2
theorem tW{p:List Int}(ex:IsEx b p)(f:H0 b ds):H0 b (ds.map (ix p)):=by
 intro d m
 obtain⟨a,ma,rfl⟩:=Jo.mp m
 exact BE ex (f a ma).1 (f a ma).2
theorem vY{b:Int}(hb:2<=b):∀es:List Int,H0 b es->0<=nv b es
 | [],_=>Mu _
 | e::es,f=>by
   have h1:=vY hb es fun x m=>f x (Ir _ m)
   have h2:=(f e Iz).1
   have:=LA (show 0<=b by omega) h1
   rw[nv];omega
theorem zk(hb:2<=b)(es:List Int)(f:H0 b es):nv b es<b^es.length:=by
 have:=(nF hb es.reverse fun d m=>f d (NQ.mp m)).2
 rwa [iw,Kt]at this
theorem w_{p:List Int}{v:Int}(hb:2<=b)(ex:IsEx b p)(hx:Xp b q.num q.den ds)(h:sC b p q=some v):0<=v/\v<b^ds.length:=by
 rw[w6 hb ex hx]at h
 cases h
 have f:=tW ex hx.1
 have:=zk hb _ f
 rw[IE]at this
 exact⟨vY hb _ f,this⟩
theorem zU(b:Int):GR b 0=[]:=by unfold GR;rw[show(0:Int).toNat=0 from rfl,cW];rfl
theorem wR{n:Int}(hb:2<=b)(hn:0<n):GR b n=(n%b)::GR b (n / b):=by
 unfold GR
 rw[dS (show 2<=b.toNat by omega) (show 0<n.toNat by omega),IP]
 have m1:=rC (b:=b) (n:=n) (by omega) (by omega)
 have m2:=wP (b:=b) (n:=n) (by omega) (by omega)
 rw[m1,m2,JO]
theorem vE{n k:Int}(h2:2<=b)(h16:b<=16)(h0:0<=n)(hk:k<=1000)(h:n<b^k.toNat):n.toNat<2^4000:=by
 have h1:b^k.toNat<=16^k.toNat:=eO (by omega) h16 _
 have h3:(16:Int)^k.toNat<=16^1000:=db (by decide) (by omega)
 have h4:(16:Int)^1000=2^4000:=by rw[show(16:Int)=2^4 by decide,<- Int.pow_mul]
 have h5:n<2^4000:=by rw[<- h4];exact Nn h (Pf h1 h3)
 have:((n.toNat:Nat):Int)<((2^4000:Nat):Int):=by rw[J3 h0];exact_mod_cast h5
 exact_mod_cast this
theorem qW{k:Nat}(h2:2<=b)(h16:b<=16)(hk:k<=1000):(b^k).natAbs<2^8000:=by
 have h1:b^k<=16^k:=eO (by omega) h16 _
 have h3:(16:Int)^k<=16^1000:=db (by decide) (by omega)
 have h4:(16:Int)^1000=2^4000:=by rw[show(16:Int)=2^4 by decide,<- Int.pow_mul]
 have h5:b^k<=2^4000:=by rw[<- h4];exact Pf h1 h3
 have h0:0<b^k:=Kq (by omega)
 have h6:(b^k).natAbs<=2^4000:=by
  have:((b^k).natAbs:Int)<=((2^4000:Nat):Int):=by rw[MI (by omega)];exact_mod_cast h5
  exact_mod_cast this
 exact K5 h6 (Lh (by decide) (by decide))
def Fx(b:Int)(N:Nat)(q:Rat):Prop:=∃(T:Int)(k:Nat),q=qd T (b^k)/\0<=T/\T<b^k/\b^k<2^N
theorem Bk{a d:Int}(hb:0<b)(hd:0<d):qd a b*qd c d=qd (a*c) (b*d):=by
 have h1:=gm hb
 have h2:=gm hd
 unfold qd
 rw[M2,M2]
 grind
theorem Fx.nn(hb:2<=b)(h:Fx b N q):0<=q:=by
 obtain⟨T,k,rfl,h0,h1,_⟩:=h
 exact Bj (Kq (by omega)) h0
theorem Fx.lt(hb:2<=b)(h:Fx b N q):q<1:=by
 obtain⟨T,k,rfl,h0,h1,_⟩:=h
 exact yI (Kq (by omega)) h1
theorem qo{x:Int}(h0:0<=x)(h:x<2^N):x.natAbs<2^N:=by
 have:((x.natAbs:Nat):Int)<((2^N:Nat):Int):=by rw[MI h0];exact_mod_cast h
 exact_mod_cast this
theorem Fx.sm(hb:2<=b)(h:Fx b N q):FK N q:=by
 obtain⟨T,k,rfl,h0,h1,h2⟩:=h
 have hp:0<b^k:=Kq (by omega)
 exact Bi hp (qo h0 (by omega)) (qo (by omega) h2)
theorem Fx.mono{M:Nat}(h:Fx b N q)(hm:N<=M):Fx b M q:=by
 obtain⟨T,k,e,h0,h1,h2⟩:=h
 exact⟨T,k,e,h0,h1,Nn h2 (db (by decide) hm)⟩
theorem wa{x y:Int}{M:Nat}(x0:0<=x)(y0:0<y)(hx:x<2^N)(hy:y<2^M):x*y<2^(N+M):=by
 rw[NN]
 have h1:x*y<2^N*y:=LN hx y0
 have h2:(2:Int)^N*y<=2^N*2^M:=JV (by omega) (Ow (by decide))
 omega
theorem Fx.mul{M:Nat}{r:Rat}(hb:2<=b)(h:Fx b N q)(g:Fx b M r):Fx b (N+M) (q*r):=by
 obtain⟨T,k,rfl,h0,h1,h2⟩:=h
 obtain⟨S,m,rfl,g0,g1,g2⟩:=g
 have hp:0<b^k:=Kq (by omega)
 have gp:0<b^m:=Kq (by omega)
 refine⟨T*S,k+m,by rw[Bk hp gp,NN],LA h0 g0,?_,?_⟩
 · rw[NN]
   have a1:T*S<=T*b^m:=JV (by omega) h0
   have a2:T*b^m<b^k*b^m:=LN h1 gp
   omega
 · rw[NN];exact wa (by omega) gp h2 g2
theorem Fx.turn{p:List Int}{n:Int}(hb:2<=b)(h16:b<=16)(ex:IsEx b p)(h0:0<=n)(h1:n<=10^9+1):Fx b 40 (A2 b p n):=by
 have f:=zP ex (pH hb n)
 obtain⟨t0,t1⟩:=nF hb _ f
 refine⟨_,_,(yc hb _).symm,t0,t1,?_⟩
 rw[IE]
 by_cases hn:0<n
 · have h:=se (b:=b.toNat) (by omega) n.toNat (by omega)
   unfold GR
   rw[IE]
   have h':((b.toNat^(digs b.toNat n.toNat).length:Nat):Int)<=((b.toNat*n.toNat:Nat):Int):=by exact_mod_cast h
   rw[Int.natCast_pow,Oe,J3 (by omega),J3 (by omega)]at h'
   have h3:b*n<=16*n:=Lm h16 h0
   omega
 · have:n=0:=by omega
   subst this
   rw[zU,LF,Pi];decide
theorem Fx.xp(hb:2<=b)(h:Fx b N q):∃ds,Xp b q.num q.den ds/\b^ds.length<2^N:=by
 obtain⟨T,k,rfl,h0,h1,h2⟩:=h
 have hp:0<b^k:=Kq (by omega)
 refine⟨_,yY hb h0 h1 (qS hp).symm,?_⟩
 rw[Kt,hE hb h0 h1]
 exact h2
theorem Fx.back{p:List Int}(hb:2<=b)(ex:IsEx b p)(h:Fx b N q)(hN:N<=1000):∀v,sC b p q=some v->v.natAbs<2^1000:=by
 intro v e
 obtain⟨ds,hx,hl⟩:=h.xp hb
 obtain⟨v0,v1⟩:=w_ hb ex hx e
 exact IG (qo v0 (Int.lt_trans v1 hl)) (Jm (by decide) hN)
theorem t3(a b:Rat):Kk (fr a) (fr b)=decide (a=b):=by
 unfold fr
 simp only[Kk,MK]
 by_cases h:a=b
 · subst h;simp[Kk]
 · have:¬(a.num=b.num/\a.den=b.den):=fun z=>h (Rat.ext z.1 z.2)
   simp only[h,decide_false,Bool.and_true,Kk]
   rw[Bool.and_eq_false_iff]
   by_cases h1:a.num=b.num
   · right
     have:a.den≠b.den:=fun z=>this ⟨h1,z⟩
     simp;omega
   · left;simpa using h1
def q9:Rat:=⟨999999999998,999999999999,by decide,by decide⟩
def EO(b:Int)(p:List Int)(k c:Int):Int:=nv b ((FV b c k.toNat).reverse.map (ix p))
theorem xC{p:List Int}{k:Int}(hb:2<=b)(ex:IsEx b p)(h0:0<=c)(h1:c<b^k.toNat):0<=EO b p k c/\EO b p k c<b^k.toNat:=by
 have f:=tW ex (fun d m=>jH (c:=c) (k:=k.toNat) hb d (NQ.mp m))
 have:=zk hb _ f
 rw[IE,Kt,hE hb h0 h1]at this
 exact⟨vY hb _ f,this⟩
theorem jI{M s y:Int}(c:Kg M s=1):M*s∣y↔M∣y/\s∣y:=by
 constructor
 · intro h;exact⟨Int.dvd_trans (NF M s) h,Int.dvd_trans (Int.dvd_mul_left M s) h⟩
 · rintro⟨h1,h2⟩
   have:=OK.mul_dvd_of_dvd_of_dvd (show OK M.natAbs s.natAbs from c) (MA.mpr h1) (MA.mpr h2)
   exact MA.mp (by rwa [Int.natAbs_mul])
theorem rZ{n s w:Int}(w0:0<=w)(w1:w<s):s∣n-w↔n%s=w:=by
 rw[Int.dvd_iff_emod_eq_zero,<- Int.emod_eq_emod_iff_emod_sub_eq_zero,Ll w0 w1]
theorem so{M s r w h:Int}(hM:0<M)(hs:0<s)(c:Kg M s=1)(r0:0<=r)(r1:r<M)(w0:0<=w)(w1:w<s)(hh:s∣M*h-1) :
 0<=r+M*((w-r)*h%s)/\r+M*((w-r)*h%s)<M*s/\∀n,M*s∣n-(r+M*((w-r)*h%s))↔M∣n-r/\n%s=w:=by
 have x0:0<=(w-r)*h%s:=M3 _ (by omega)
 have x1:(w-r)*h%s<s:=Mk _ hs
 have dx:s∣(w-r)*h-(w-r)*h%s:=Int.dvd_self_sub_emod
 generalize (w-r)*h%s=x at *
 have m0:0<=M*x:=LA (by omega) x0
 have m1:M*x<=M*(s-1):=JV (by omega) (by omega)
 have m2:M*(s-1)=M*s-M:=by rw[Int.mul_sub,MQ]
 have dw:s∣r+M*x-w:=by
  obtain⟨u,hu⟩:=dx
  obtain⟨v,hv⟩:=hh
  refine⟨(w-r)*v-M*u,?_⟩
  have hx:x=(w-r)*h-s*u:=by omega
  have hMh:M*h=1+s*v:=by omega
  have:M*x=(w-r)*(M*h)-M*s*u:=by rw[hx];grind
  rw[hMh]at this
  rw[this];grind
 refine⟨by omega,by omega,fun n=>?_⟩
 rw[jI c,<- rZ w0 w1]
 constructor
 · rintro⟨a1,a2⟩
   refine⟨?_,?_⟩
   · have:=Int.dvd_add a1 (NF M x)
     rwa [show n-(r+M*x)+M*x=n-r by omega]at this
   · have:=Int.dvd_add a2 dw
     rwa [show n-(r+M*x)+(r+M*x-w)=n-w by omega]at this
 · rintro⟨a1,a2⟩
   refine⟨?_,?_⟩
   · have:=Int.dvd_sub a1 (NF M x)
     rwa [show n-r-M*x=n-(r+M*x) by omega]at this
   · have:=Int.dvd_sub a2 dw
     rwa [show n-w-(r+M*x-w)=n-(r+M*x) by omega]at this
structure Iv (a m f h r d:Int):Prop where
 r0:0<r
 d0:0<d
 c:Kg r d=1
 hh:m∣a*h-r
 hf:m∣a*f-d
 sg:(0<=h/\f<=0/\h*d-f*r=m)\/(h<=0/\0<=f/\f*r-h*d=m)
theorem Iv.start{a m:Int}(ha:0<a)(hm:0<m)(c:Kg a m=1):Iv a m 0 1 a m:=⟨ha,hm,c,by simp,by simp,.inl ⟨by decide,by decide,by omega⟩⟩
theorem Iv.step{a m f h r d:Int}(i:Iv a m f h r d)(r1:1<r):Iv a m h (f-d / r*h) (d-d / r*r) r/\(d-d / r*r).toNat<r.toNat:=by
 obtain⟨r0,d0,c,hh,hf,sg⟩:=i
 have e:d-d / r*r=d%r:=by rw[Int.emod_def,Nm]
 have m0:=M3 d (show r≠0 by omega)
 have m1:=Mk d r0
 have q0:0<=d / r:=M4 (by omega) (by omega)
 have c':Kg (d%r) r=1:=by
  rw[Nk,<- LW d (show 0<=r by omega),lu,Nk]
  exact c
 have nz:d%r≠0:=fun z=>by
  rw[z,Int.gcd_zero_left]at c'
  omega
 rw[e]
 have ed:d=d%r+d / r*r:=by omega
 refine⟨⟨by omega,r0,c',?_,hh,?_⟩,by omega⟩
 · obtain⟨u,hu⟩:=hh
   obtain⟨v,hv⟩:=hf
   refine⟨v-d / r*u,?_⟩
   rw[<- e]
   generalize d / r=q at *
   grind
 · rw[<- e]
   generalize d / r=q at *
   rcases sg with⟨a1,a2,a3⟩|⟨a1,a2,a3⟩
   · right
     have:=LA q0 a1
     exact⟨by omega,a1,by grind⟩
   · left
     have:=LA q0 (show 0 <= -h by omega)
     rw[Pv]at this
     exact⟨by omega,a1,by grind⟩
abbrev Pc:=(Int×List Int)×(Int×Int)
def Fp(z:Pc):Int:=z.1.1^z.2.1.toNat
def wz(z:Pc):Int:=EO z.1.1 z.1.2 z.2.1 z.2.2
def yO(zs:List Pc):Int:=zs.foldl (fun t z=>t*Fp z) 1
structure PcOk (z:Pc):Prop where
 b2:2<=z.1.1
 b16:z.1.1<=16
 ex:IsEx z.1.1 z.1.2
 k0:0<=z.2.1
 k8:z.2.1<=8
 c0:0<=z.2.2
 c1:z.2.2<z.1.1^z.2.1.toNat
theorem PcOk.st{z:Pc}(h:PcOk z):0<Fp z/\Fp z<=2^32:=by
 refine⟨Kq (by have:=h.b2;omega),?_⟩
 have h1:Fp z<=16^z.2.1.toNat:=eO (by have:=h.b2;omega) h.b16 _
 have h2:(16:Int)^z.2.1.toNat<=16^8:=db (by decide) (by have:=h.k8;omega)
 have h3:(16:Int)^8=2^32:=by decide
 omega
theorem PcOk.w{z:Pc}(h:PcOk z):0<=wz z/\wz z<Fp z:=xC h.b2 h.ex h.c0 h.c1
structure Ixs (zs:List Pc) (r M:Int):Prop where
 r0:0<=r
 r1:r<M
 M1:M=yO zs
 Mb:M<=2^(32*zs.length)
 iff:∀n,M∣n-r↔∀z∈zs,n%Fp z=wz z
theorem Ixs.nil:Ixs [] 0 1:=⟨by decide,by decide,rfl,by decide,fun n=>by simp⟩
theorem pA{a:Int}(h:Kg a b=1)(k:Nat):Kg a (b^k)=1:=by
 have:OK a.natAbs (b.natAbs^k):=OK.pow_right k h
 rw[Kg,Int.natAbs_pow];exact this
theorem Ixs.step{zs:List Pc}{r M h:Int}{z:Pc}(i:Ixs zs r M)(ok:PcOk z)(c:Kg M (Fp z)=1)(hh:Fp z∣M*h-1):Ixs (zs++[z]) (r+M*((wz z-r)*h%Fp z)) (M*Fp z):=by
 obtain⟨s0,s1⟩:=ok.st
 obtain⟨w0,w1⟩:=ok.w
 have M0:0<M:=by have:=i.r0;have:=i.r1;omega
 obtain⟨a0,a1,a2⟩:=so M0 s0 c i.r0 i.r1 w0 w1 hh
 refine⟨a0,a1,by rw[i.M1];simp[yO],?_,fun n=>?_⟩
 · rw[Jx,N7,Nat.mul_add,NN]
   exact Int.mul_le_mul i.Mb s1 (by omega) (Ow (by decide))
 · rw[a2 n,i.iff n]
   simp only[JR,K9]
   constructor
   · rintro⟨p,q⟩ y (hy|rfl)
     · exact p y hy
     · exact q
   · intro p
     exact⟨fun y hy=>p y (.inl hy),p z (.inr rfl)⟩
theorem Ixs.uniq{zs:List Pc}{r M r' M':Int}(i:Ixs zs r M)(j:Ixs zs r' M'):r=r'/\M=M':=by
 have e:M=M':=by rw[i.M1,j.M1]
 subst e
 refine⟨?_,rfl⟩
 have h:M∣r'-r:=(i.iff r').mpr ((j.iff r').mp (by simp))
 obtain⟨u,hu⟩:=h
 have:=i.r0;have:=i.r1;have:=j.r0;have:=j.r1
 have:u=0:=by
  rcases Int.lt_trichotomy u 0 with z|z|z
  · have:M*u<=M*(-1):=JV (by omega) (by omega)
    omega
  · exact z
  · have:M*1<=M*u:=JV (by omega) (by omega)
    omega
 subst this
 omega
def Al(rows:List (Int×List Int))(sm:List (Int×Int)):Prop:=IsRow rows/\sm.length=rows.length/\∀z∈rows.zip sm,PcOk z
theorem Al.len{rows:List (Int×List Int)}{sm:List (Int×Int)}(h:Al rows sm):(rows.zip sm).length=rows.length:=by rw[M5,h.2.1,Nat.min_self]
theorem Al.co{rows:List (Int×List Int)}{sm:List (Int×Int)}(h:Al rows sm){i:Nat}(hi:i<(rows.zip sm).length):∀z∈(rows.zip sm).take i,Kg (Fp z) (Fp (rows.zip sm)[i])=1:=by
 intro z mz
 obtain⟨j,hj,e⟩:=List.mem_iff_getElem.mp mz
 rw[JQ]at hj
 rw[List.getElem_take]at e
 have lr:=h.len
 have p:=List.pairwise_iff_getElem.mp h.1.co j i (by omega) (by omega) (by omega)
 subst e
 unfold Fp
 rw[NR,NR]
 have:=pA p (sm[i]'(by have:=h.2.1;omega)).1.toNat
 rw[Nk]at this
 have:=pA this (sm[j]'(by have:=h.2.1;omega)).1.toNat
 rw[Nk]
 exact this
noncomputable def tf(p:Prop):Bool:=@decide p (Classical.propDecidable p)
noncomputable def BF(b:Int)(d:Im):Bool:=tf (∃p,d=GO p/\IsEx b p)
noncomputable def Aj(bs:List Int):Bool:=tf (bs.Pairwise fun x y=>Kg x y=1)
theorem dk:∀{l m:List Int},l.Nodup->(∀x∈l,x∈m)->m.length<=l.length->l.Perm m
 | [],m,_,_,h=>by
   have:m=[]:=List.length_eq_zero_iff.mp (by simpa using h)
   rw[this]
 | x::l,m,nd,sub,h=>by
   have hx:x∈m:=sub x Iz
   obtain⟨n1,n2⟩:=JX.mp nd
   have p:=List.perm_cons_erase hx
   have hl:(m.erase x).length=m.length-1:=L7 hx
   have ih:=dk (l:=l) (m:=m.erase x) n2 (fun y hy=>(Ou (fun z=>n1 (by rw[<- z];exact hy))).mpr (sub y (Ir _ hy))) (by simp at h;omega)
   exact(Py.cons x ih).trans p.symm
theorem IsEx.perm{p:List Int}(h:IsEx b p):p.Perm (xv 0 b.toNat):=by
 refine dk h.nd (fun x hx=>rM.mpr ?_) (by rw[fD,h.len];exact ID _)
 have:=h.rng x hx
 omega
theorem lJ:∀{xs:List Im}{x:Im},x∈xs->x.bulk<=KH xs
 | y::ys,x,h=>by
   simp only[KH]
   rcases Jf.mp h with rfl|h
   · omega
   · have:=lJ h;omega
theorem i5:∀{xs:List Im}{x:Im},x∈xs->x.depth<=Jn xs
 | y::ys,x,h=>by
   simp only[Jn]
   rcases Jf.mp h with rfl|h
   · omega
   · have:=i5 h;omega
theorem kY:∀{xs:List Im}{x:Im},eA xs->x∈xs->xg x
 | y::ys,x,h,hx=>by
   rcases Jf.mp hx with rfl|hx
   · exact h.1
   · exact kY h.2 hx
theorem Ho.mem{x:Im}(h:Ho (.tuple xs))(hx:x∈xs):Ho x:=by
 obtain⟨a,b,c⟩:=h
 have h1:=lJ hx
 have h2:=i5 hx
 simp only[JM]at b
 simp only[LJ]at c
 exact⟨kY a hx,by omega,by omega⟩
theorem Sm.i{i:Int}(h:i.natAbs<2^1000):Sm 0 3 (.int i):=(Sm.int h).mono (by decide) (by decide)
theorem Sm.i2{i:Int}(h:i.natAbs<2^1000):Sm 2 68 (.int i):=(Sm.int h).mono (by decide) (by decide)
theorem u0{p:List Int}(h:∀x∈p,0<=x/\x<100):∀d∈p.map IJ,Sm 0 3 d:=fun d hd=>by
 obtain⟨i,hi,rfl⟩:=Jo.mp hd
 have:=h i hi
 exact .i (IG (show i.natAbs<2^7 by omega) (Jm (by decide) (by decide)))
theorem IsEx.sm{p:List Int}(h:IsEx b p)(hb:b<=16):∀d∈p.map IJ,Sm 0 3 d:=u0 fun x hx=>by have:=h.rng x hx;omega
theorem pR(xs:List Im)(l u:Option Int):(cutD xs l u).length<=xs.length:=by
 unfold cutD
 rw[JQ,KM]
 omega
theorem GlK.int{K:W.Frag}{x:Str}{a:Int}{t:Tok}(h1:W.nsIn K JI x=some (some (.int a t))):GlK K x (.int a):=⟨.int a,.int a t,h1,⟨t,rfl⟩,fun F=>.int a⟩
def B0:List W->(Im->Prop)->Prop:=fun ws Q=>∃b d,ws=[.d (.int b),.d d]/\2<=b/\b<=16/\Ho d/\Q (.bool (BF b d))
theorem B0.mono:∀ws (Q Q':Im->Prop),(∀d,Q d->Q' d)->B0 ws Q->B0 ws Q':=fun _ _ _ h ⟨b,d,e,x,y,z,q⟩=>⟨b,d,e,x,y,z,h _ q⟩
theorem B0.len:∀ws (Q:Im->Prop),B0 ws Q->ws.length=2:=fun _ _ ⟨_,_,e,_⟩=>by subst e;rfl
def G5:List W->(Im->Prop)->Prop:=fun ws Q=>∃bs:List Int,ws=[.d (.list (bs.map .int))]/\bs.length<=4/\(∀b∈bs,2<=b/\b<=16)/\Q (.bool (Aj bs))
theorem G5.mono:∀ws (Q Q':Im->Prop),(∀d,Q d->Q' d)->G5 ws Q->G5 ws Q':=fun _ _ _ h ⟨b,e,x,y,q⟩=>⟨b,e,x,y,h _ q⟩
theorem G5.len:∀ws (Q:Im->Prop),G5 ws Q->ws.length=1:=fun _ _ ⟨_,e,_⟩=>by subst e;rfl
def GV:List W->(Im->Prop)->Prop:=fun ws Q=>∃b p,ws=[.reel,.d (.tuple [.int b,GO p])]/\2<=b/\b<=16/\IsEx b p/\∀d,Sm 4 276 d->Q d
theorem GV.mono:∀ws (Q Q':Im->Prop),(∀d,Q d->Q' d)->GV ws Q->GV ws Q':=fun _ _ _ h ⟨b,p,e,x,y,z,q⟩=>⟨b,p,e,x,y,z,fun d hd=>h _ (q d hd)⟩
theorem GV.len:∀ws (Q:Im->Prop),GV ws Q->ws.length=2:=fun _ _ ⟨_,_,e,_⟩=>by subst e;rfl
def GX:List W->(Im->Prop)->Prop:=fun ws Q=>∃rows,ws=[.reel,.d (Aw rows)]/\IsRow rows/\∀d,Sm 8 2600 d->Q d
theorem GX.mono:∀ws (Q Q':Im->Prop),(∀d,Q d->Q' d)->GX ws Q->GX ws Q':=fun _ _ _ h ⟨p,e,x,q⟩=>⟨p,e,x,fun d hd=>h _ (q d hd)⟩
theorem GX.len:∀ws (Q:Im->Prop),GX ws Q->ws.length=2:=fun _ _ ⟨_,e,_⟩=>by subst e;rfl
def Tm(n:Nat)(d:Im):Prop:=d.canLay0=true/\d.depth<=n
theorem nM{n:Nat}:∀{xs:List Im},(∀x∈xs,Tm n x)->Ke xs=true/\Jn xs<=n
 | [],_=>⟨rfl,by simp[Jn]⟩
 | x::xs,h=>by
   obtain⟨a,b⟩:=nM fun y m=>h y (Ir x m)
   obtain⟨c,d⟩:=h x Iz
   simp[Ke,Jn,a,c]
   omega
theorem Tm.tup{n:Nat}{xs:List Im}(h:∀x∈xs,Tm n x):Tm (n+1) (.tuple xs):=by
 obtain⟨a,b⟩:=nM h
 exact⟨by simp[Ka,a],by simp[JM];omega⟩
theorem Tm.lst{n:Nat}{xs:List Im}(h:∀x∈xs,Tm n x):Tm (n+1) (.list xs):=by
 obtain⟨a,b⟩:=nM h
 exact⟨by simp[Ka,a],by simp[JM];omega⟩
theorem Tm.int(i:Int):Tm n (.int i):=⟨by simp[Ka],by simp[JM]⟩
theorem Tm.bool(i:Bool):Tm n (.bool i):=⟨by simp[Ka],by simp[JM]⟩
theorem Tm.none:Tm n .none:=⟨by simp[Ka],by simp[JM]⟩
theorem Tm.mono(h:Tm n d)(hm:n<=m):Tm m d:=⟨h.1,Jr h.2 hm⟩
end L2.VL
namespace L2
theorem mL{prog:IZ}{w:JN}{R:Pt->IB->Prop}{kx vx target:Expr}{it:Iw}{D:Addr}{env:Env}(I:Nat->IB->Prop)
 (turn:∀n s,I n s->IT (Jb prog w) A (MP it) (fun r s₁=>(r=none/\R (.ok .next) s₁)\/∃v,r=some v /\
  IT (Jb prog w) A (KI target it v) (fun _ s₂=>IT (Jb prog w) A (Li target env v) (fun _ s₃=>IT (Jb prog w) A (dz ifs env) (fun ok s₄ =>
   if ok=true then IT (Jb prog w) A (eval kx env) (fun x s₅=>IT (Jb prog w) A (eval vx env) (fun y s₆=>IT (Jb prog w) A (dictSet D x y) (fun _ s₇=>∃m,m<n/\I m s₇) (fun _ _=>False) s₆) (fun _ _=>False) s₅) (fun _ _=>False) s₄
   else ∃m,m<n/\I m s₄) (fun _ _=>False) s₃) (fun _ _=>False) s₂) (fun _ _=>False) s₁) (fun _ _=>False) s)
 (n:Nat)(h:I n s):KZ (Jb prog w) A (.compLoop (.DictComp kx vx [⟨target,iter,ifs,0⟩] scope pos) 0 it (.ref D) env) R s:=by
 refine N_ rfl I (fun n s hI=>?_) n h
 show IT _ A ((OX (.DictComp kx vx [⟨target,iter,ifs,0⟩] scope pos) 0 it (.ref D) env).onRaise (fun x=>do OY x env;MV x)) _ _ s
 refine OF ?_
 rw[compTurn_dict]
 refine Io (Ky (Io (Jl (turn n s hI) (fun r s₁ h₁=>?_) fun _ _ h'=>h'.elim)))
 rcases h₁ with⟨rfl,h₁⟩|⟨v,rfl,h₁⟩
 · exact IA h₁
 · refine Io (Jl h₁ (fun _ s₂ h₂=>Io (Jl h₂ (fun _ s₃ h₃=>Io (Jl h₃ (fun ok s₄ h₄=>?_) fun _ _ z=>z.elim)) fun _ _ z=>z.elim)) fun _ _ z=>z.elim)
   cases ok with
   | false=>exact IA ⟨rfl,h₄⟩
   | true=>exact Io (Io (Jl h₄ (fun x s₅ h₅=>Io (K4 (Jl h₅ (fun y s₆ h₆=>Io (Ky (K4 (Jl h₆ (fun _ s₇ h₇=>IA ⟨rfl,h₇⟩) fun _ _ z=>z.elim)))) fun _ _ z=>z.elim))) fun _ _ z=>z.elim))
def nQ(wi:TI)(fr:List (Option Nat))(g:CompA->TG)(tt:CompA->TT)(tk te:CompA->TE):TE:=fun σ H Q=>wi σ H fun J H1=>∀D,H1 D=none->∃Wv:Nat->Nat->List (HJ×V)->St->Hp->Prop,(∃m,Wv 0 m [] (jR fr σ) (upd H1 D (.dK []))) /\
 ∀ (z:CompA) i m acc σc H,Wv i m acc σc H->(J.stop i H/\Q (.ref D) H)\/(J.go i H/\∀x H',J.yld i H x H'->g z x σc H' fun σ2 H2=>tt z σ2 H2 fun b H3 =>
   if b=true then tk z σ2 H3 fun ky H4=>te z σ2 H4 fun y H5=>∃k:HJ,ky=kV k/\H5 D=some (.dK acc)/\acc.length<sizeLine/\∃m',m'<m/\Wv (i+1) m' (cU acc k y) σ2 (upd H5 D (.dK (cU acc k y)))else ∃m',m'<m/\Wv (i+1) m' acc σ2 H3)
theorem fK{kx vx:Expr}{g:TG}{tt:TT}{tk te:TE}{H3:Hp}{s3:IB}{D:Addr}{J:It}{Q:VK}
 {cl:List (Str×Addr)}(N':List Str)(fr:List (Option Nat))(hc:X.calm=true)(hkind:scope.kind = .function)(hcell:∀y∈scope.names,y.2 = .cell->scope.names.lookup y.1=some .cell)
 (hfree:∀y∈scope.names,y.2 = .free->X.env.kindOf y.1=some .cell\/X.env.kindOf y.1=some .free)(frl:fr.length=N'.length)
 (frg:∀(i j:Nat),fr[i]?=some (some j)->∃x,N'[i]?=some x/\X.N[j]?=some x/\scope.names.lookup x=some .free/\(X.env.scope.names.lookup x=some .cell\/X.env.scope.names.lookup x=some .free))
 (cl1:∀x c,cl.lookup x=some c->X.env.cells.lookup x=some c)(cl2:∀x,(x,JZ)∈scope.names->(cl.lookup x).isSome=true)
 (I3:Inv X pins σ H3 s3)(T:Turn X.prog X.w X.K tg J fp it tn)(tn3:tn 0 s3.heap)(fpD:∀b∈fp,H3 b=none)(fp3:∀b∈fp,b<s3.heap.objs.size)
 (fpk:∀b∈fp,b≠X.env.locals/\b∉X.fs/\(b∈X.ex\/X.s₀.heap.objs.size<=b)/\(∀x c,X.env.cells.lookup x=some c->c≠b)/\∀p∈X.pn++pins,p.1≠b)
 (hg:PG (ba X N' scope cl fp (X.pn++pins) s3 H3) tg g)(ht:Hu (ba X N' scope cl fp (X.pn++pins) s3 H3) ifs tt)(hk:PE (ba X N' scope cl fp (X.pn++pins) s3 H3) kx tk)(he:PE (ba X N' scope cl fp (X.pn++pins) s3 H3) vx te)
 {Wv:Nat->Nat->List (HJ×V)->St->Hp->Prop}{m0:Nat}(w0:Wv 0 m0 [] (jR fr σ) H3)
 (turn:∀i m acc σc H,Wv i m acc σc H->(J.stop i H/\Q (.ref D) H)\/(J.go i H/\∀x H',J.yld i H x H'->g x σc H' fun σ2 H2=>tt σ2 H2 fun b H3 =>
  if b=true then tk σ2 H3 fun ky H4=>te σ2 H4 fun y H5=>∃k:HJ,ky=kV k/\H5 D=some (.dK acc)/\acc.length<sizeLine/\∃m',m'<m/\Wv (i+1) m' (cU acc k y) σ2 (upd H5 D (.dK (cU acc k y)))else ∃m',m'<m/\Wv (i+1) m' acc σ2 H3))
 (fin:∀s5 H4 m,s5.heap.Ns s3.heap.objs.size m->(∀h',KP s3.heap.objs.size s5.heap h'->Inv X pins σ H4 {s5 with heap:=h' })->ji X pins H4 s3.heap.objs.size->Q (.ref D) H4->Rp s3.heap.objs.size (.ok .next) s5) :
 IT (Jb X.prog X.w) X.A (Mw scope X.env.globals cl [] X.env.qual none .none (some X.env)) (fun cenv s₄ =>
  KZ (Jb X.prog X.w) X.A (.compStart (.DictComp kx vx [⟨tg,iter,ifs,0⟩] scope pos) 0 (.ref it) (.ref D) {cenv with scope:=PK scope X.env})
   (Rp cenv.locals) s₄) X.xe s3:=by
 refine fA ?_
 have ok:=cellsFrom_ok scope.names (s3.heap.push {cls:=.type "dict", data:=.dict #[]}) (s3.heap.objs.size+1) [] ⟨fun _ _ hm=>(nomatch hm),Nz⟩ (by rw[J_];exact ID _)
 rw[J_]at ok
 have kp:∀b o,s3.heap.get? b=some o->(NC (s3.heap.push {cls:=.type "dict", data:=.dict #[]}) scope.names).get? b=some o:=fun b o e=>MW _ _ b o (Iu _ e)
 have hns₁:(NC (s3.heap.push {cls:=.type "dict", data:=.dict #[]}) scope.names).Ns s3.heap.objs.size (fun _=>none):=(Heap.Ns.new s3.heap (.type "dict")).keeps (MW _ _)
 generalize NC (s3.heap.push {cls:=.type "dict", data:=.dict #[]}) scope.names=h₁ at ok kp hns₁ ⊢
 have cs:∀x c,(J5 (s3.heap.objs.size+1) scope.names cl).lookup x=some c->(J5 (s3.heap.objs.size+1) scope.names []).lookup x=some c\/cl.lookup x=some c:=fun x c e=>by
  rw[aO,ca]at e
  cases q:(J5 (s3.heap.objs.size+1) scope.names []).lookup x with
  | none=>rw[q]at e;exact .inr (by simpa using e)
  | some c'=>rw[q]at e;exact .inl (by simpa using e)
 have own:∀x c,(J5 (s3.heap.objs.size+1) scope.names []).lookup x=some c->h₁.IsCell c none/\s3.heap.objs.size+1<=c:=fun x c e=>ok.empty x c (Jy e)
 have clt:∀x c,cl.lookup x=some c->c<s3.heap.objs.size:=fun x c e=>by
  obtain⟨v,o,ho,_⟩:=I3.cell x c (cl1 x c e)
  exact II ho
 have frn:∀x,scope.names.lookup x=some .free->(J5 (s3.heap.objs.size+1) scope.names []).lookup x=none:=fun x e=>by
  cases q:(J5 (s3.heap.objs.size+1) scope.names []).lookup x with
  | none=>rfl
  | some c =>
    have:=hcell (x,.cell) (bZ (Jy q)) rfl
    rw[e]at this
    cases this
 have notC:∀b o,s3.heap.get? b=some o->b≠s3.heap.objs.size:=fun b o e=>Jt (II e)
 have fpstk:∀b∈fp,b∉frs X.stack:=fun b hb z=>(Jf.mp (I3.stkSub b z)).elim (fpk b hb).1 (fpk b hb).2.1
 have cellK:∀c v,s3.heap.IsCell c v->h₁.IsCell c v:=fun c v ⟨o,ho,hd⟩=>⟨o,kp c o ho,hd⟩
 have IY:Inv (ba X N' scope cl fp (X.pn++pins) s3 H3) [] (jR fr σ) H3 {s3 with heap:=h₁}:=by
  refine⟨⟨I3.ok.mod,hkind,I3.ok.glob,I3.ok.blt,ID _,fun x y c e1 e2=>?_,fun x hx=>?_,fun x c _ e=>?_,I3.ok.hd,I3.ok.frames,.inl rfl,
   fun b hb=>⟨Jt (fp3 b hb),fun x c e=>?_⟩,I3.bs,Jr I3.ok.bsz I3.sz,fun b o e hb=>?_,fun b hb=>fpstk b hb,I3.stack,I3.stkFree⟩,
   rfl,I3.bare,Un.kept kp,⟨_,hns₁,fun i x v e1 e2 e3=>?_⟩,fun x c e=>?_,I3.hok.fresh (ID _),fun x c e=>?_,fun p hp=>?_,I3.hok.kept kp,?_⟩
  · rcases cs x c e1 with q1|q1<;>rcases cs y c e2 with q2|q2
    · exact O8 ok.apart (Jy q1) (Jy q2)
    · exact absurd (IG (clt y c q2) (Km (own x c q1).2)) (JL _)
    · exact absurd (IG (clt x c q1) (Km (own y c q2).2)) (JL _)
    · exact I3.ok.inj x y c (cl1 x c q1) (cl1 y c q2)
  · refine Kj.mp ?_
    show((J5 (s3.heap.objs.size+1) scope.names cl).lookup x).isSome=true
    rcases eG hx with q|q
    · exact W.cellsFrom_some _ _ _ (.inr (cl2 x q))
    · exact W.cellsFrom_some _ _ _ (.inl (hcell _ q rfl))
  · rename_i hfn
    rcases cs x c e with q|q
    · have:=(own x c q).2
      show s3.heap.objs.size<=c
      omega
    · have hfn:(scope.names.lookup x==some KG)=true:=hfn
      have hl:scope.names.lookup x=some .cell:=by simpa using hfn
      obtain⟨c',ec'⟩:=Kj.mp (W.cellsFrom_some scope.names (s3.heap.objs.size+1) [] (.inl hl))
      have e':(J5 (s3.heap.objs.size+1) scope.names cl).lookup x=some c:=e
      rw[aO,ca,ec']at e'
      simp at e'
      subst e'
      exact Km (own x c' ec').2
  · rcases cs x c e with q|q
    · exact fun z=>absurd (IG (fp3 b hb) (Km (by rw[<- z];exact(own x c q).2))) (JL _)
    · exact(fpk b hb).2.2.2.1 x c (cl1 x c q)
  · rcases(fpk b hb).2.2.1 with z|z
    · exact I3.ok.noex b o e z
    · exact absurd (IG (II e) (Jr I3.ok.bsz z)) (JL _)
  · have e2':(fr[i]?).map (fun o=>o.bind fun j=>(σ[j]?).join)=some (some v):=by unfold jR at e2;rw[Jj]at e2;exact e2
    cases ef:fr[i]? with
    | none=>rw[ef]at e2';cases e2'
    | some o =>
      cases o with
      | none=>rw[ef]at e2';cases e2'
      | some j =>
        rw[ef]at e2'
        have e3':(σ[j]?).join=some v:=Jh e2'
        have e4:σ[j]?=some (some v):=by
         cases q:σ[j]? with
         | none=>rw[q]at e3';cases e3'
         | some z=>rw[q]at e3';cases e3';rfl
        obtain⟨x',n1,n2,n3,n4⟩:=frg i j ef
        have ex:x'=x:=Jh (n1.symm.trans e1)
        subst ex
        obtain⟨m,hn,hl⟩:=I3.loc
        obtain⟨u,ru,lk⟩:=hl j x' v n2 e4 (n4.elim (fun z=>.inr (.inl z)) fun z=>.inr (.inr z))
        refine⟨u,ru,?_⟩
        rcases lk with⟨kl,_⟩|⟨_,c,ec,hcl⟩
        · exact absurd (show X.env.scope.names.lookup x'=some .local from kl) (by rcases n4 with z|z<;>rw[z]<;>decide)
        · obtain⟨c',ec'⟩:=Kj.mp (cl2 x' (gA n3))
          have:=cl1 x' c' ec'
          rw[ec]at this
          cases this
          refine .inr ⟨cT n3,c,?_,cellK _ _ hcl⟩
          show(J5 (s3.heap.objs.size+1) scope.names cl).lookup x'=some c
          rw[aO,ca,frn x' n3]
          simpa using ec'
  · rcases cs x c e with q|q
    · exact⟨_,(own x c q).1⟩
    · obtain⟨v,z⟩:=I3.cell x c (cl1 x c q)
      exact⟨v,cellK _ _ z⟩
  · rcases cs x c e with q|q
    · exact I3.hok.fresh (by have:=(own x c q).2;omega)
    · exact I3.freeC x c (cl1 x c q)
  · rw[JS]at hp
    obtain⟨e,n,ne,nf,d⟩:=I3.pin p hp
    exact⟨kp _ _ e,n,notC _ _ e,fun z=>(Jf.mp (I3.stkSub p.1 z)).elim ne nf,d⟩
  · unfold jR
    rw[IE]
    exact frl
 have loop:KZ (Jb X.prog X.w) X.A (.compLoop (.DictComp kx vx [⟨tg,iter,ifs,0⟩] scope pos) 0 (.ref it) (.ref D) {compEnvC scope cl s3.heap.objs.size X.env with cells:=J5 (s3.heap.objs.size+1) scope.names cl})
  (Rp s3.heap.objs.size) {s3 with heap:=h₁}:=by
  have stat:∀{H':Hp},(∀b∈fp,H' b=none)->∀b∈fp,ji (ba X N' scope cl fp (X.pn++pins) s3 H3) [] H' b:=fun hn b hb =>
   ⟨hn b hb,Jt (fp3 b hb),fpstk b hb,.inl hb,fun x c e=>(by
    rcases cs x c e with q|q
    · exact fun z=>absurd (IG (fp3 b hb) (Km (by rw[<- z];exact(own x c q).2))) (JL _)
    · exact(fpk b hb).2.2.2.1 x c (cl1 x c q)),fun p hp=>by rw[JS]at hp;exact(fpk b hb).2.2.2.2 p hp⟩
  refine mL (fun n s'=>∃i acc σ' H',Inv (ba X N' scope cl fp (X.pn++pins) s3 H3) [] σ' H' s'/\tn i s'.heap/\(∀b∈fp,H' b=none)/\Wv i n acc σ' H') ?_ m0
   ⟨0,[],_,_,IY,T.keep _ _ _ tn3 fun b _ o e=>kp b o e,fpD,w0⟩
  rintro n s4 ⟨i,acc,σ4,H4,I4,st4,fr4,w4⟩
  rcases turn i n acc σ4 H4 w4 with⟨stop,qn⟩|⟨go,step⟩
  · refine E7 (T.done (ba X N' scope cl fp (X.pn++pins) s3 H3) rfl rfl rfl hc i [] s4 σ4 H4 (fun _ _=>False) I4 (stat fr4) st4 stop) fun r s5 ⟨hr,I5⟩=>.inl ⟨hr,?_⟩
    obtain⟨m,hn,_⟩:=I5.loc
    refine fin s5 H4 m hn (fun h' hs'=>?_) (I3.fpOk (ID _) I5.free) qn
    have k':∀b o,b≠s3.heap.objs.size->s5.heap.get? b=some o->h'.get? b=some o:=fun b o nb e=>hs'.extBut b o nb e
    have u5:Un (frs X.stack) fp H3 H4 s3.heap s5.heap:=I5.base
    have un:Un (frs X.stack) fp H3 H4 s3.heap h' :=
     ⟨fun b o e n hb hx=>k' b o (notC b o e) (u5.keep b o e n hb hx),fun b o e n hb hx=>by obtain⟨sl,q⟩:=u5.slot b o e n hb hx;exact⟨sl,k' b _ (notC b o e) q⟩,u5.free,
      fun b o e hx=>by obtain⟨o',q⟩:=u5.there b o e hx;exact⟨o',k' b _ (notC b o e) q⟩,u5.tups,u5.frzs,u5.tbls⟩
    have nC:H4 s3.heap.objs.size=none:=I5.free
    have hok':HZ X.prog X.w H4 h':=fun b u e=>(I5.hok b u e).stay (fun c v hcv q=>k' c v (by
     rintro rfl
     rcases hcv with z|z
     · rw[<- z]at e;rw[nC]at e;cases e
     · rw[nC]at z;cases z) q) (fun _ q=>q) fun _ _ q=>q
    obtain⟨hh,g5,d5,t5,os5⟩:=s5
    have os':os5=s3.os:=I5.os
    subst os'
    have I':=Inv.call (s:=s3) (h':=h') (g':=g5) (d':=d5) (t':=t5) (ch:=fp) I3 un hok' I5.bare (fun b hb=>⟨(fpk b hb).2.2.1,(fpk b hb).1,(fpk b hb).2.2.2.1,(fpk b hb).2.2.2.2⟩)
    exact I'
  · refine E7 (T.item (ba X N' scope cl fp (X.pn++pins) s3 H3) rfl rfl rfl hc i [] s4 σ4 H4 (fun _ _=>False) I4 (stat fr4) st4 go) fun r s5 ⟨u,hr,h5⟩=>.inr ⟨u,hr,?_⟩
    refine E7 h5 fun _ s6 ⟨x,H6,I6,r6,y6,st6,fr6⟩=>?_
    have I6':=I6.pinned (stat fr6) (T.obj _ _ st6)
    have NV:∀{σ7:St}{H7:Hp}{s7:IB},Inv (ba X N' scope cl fp (X.pn++pins) s3 H3) ([]++eI fp s6.heap) σ7 H7 s7->∀{acc':List (HJ×V)}{m':Nat},m'<n->Wv (i+1) m' acc' σ7 H7 ->
     ∃m,m<n/\∃i acc σ' H',Inv (ba X N' scope cl fp (X.pn++pins) s3 H3) [] σ' H' s7/\tn i s7.heap/\(∀b∈fp,H' b=none)/\Wv i m acc σ' H':=fun{σ7 H7 s7} I7 {acc' m'} hm w7=>by
     refine⟨m',hm,i+1,acc',σ7,H7,I7.unpinned,T.keep _ _ _ st6 fun b hb o e=>(I7.pin (b,o) (IS _ (IS _ (bu hb e)))).1,fun b hb=>?_,w7⟩
     obtain⟨o,e,d⟩:=T.obj _ _ st6 b hb
     exact(I7.pin (b,o) (IS _ (IS _ (bu hb e)))).2.1
    refine E7 (hg _ s6 σ4 H6 x u _ I6' r6 (step x H6 y6)) fun _ s7 ⟨σ7,H7,I7,q7⟩=>?_
    refine E7 (ht _ s7 σ7 H7 _ I7 q7) fun ok s8 ⟨H8,I8,q8⟩=>?_
    cases ok with
    | false =>
      rw[if_neg Je]at q8 ⊢
      obtain⟨m',hm,w8⟩:=q8
      exact NV I8 hm w8
    | true =>
      rw[if_pos rfl]at q8 ⊢
      refine E7 (hk _ s8 σ7 H8 _ I8 q8) fun ku s9 ⟨ky,H9,I9,rk,q9⟩=>?_
      refine E7 (he _ s9 σ7 H9 _ I9 q9) fun y s10 ⟨yv,H10,I10,r10,k,ek,eD,hl,m',hm,w10⟩=>?_
      subst ek
      obtain⟨z,hd,vs,rel,dd⟩:=wO I10.hok eD
      have hz:vs.length<=sizeLine:=by rw[<- rel.length];exact z
      have hl2:(cU acc k yv).length<=sizeLine:=by have:=cL acc k yv;omega
      refine wpAny_dictSet_pairs (hsz:=hz) (mE rk) dd fun h' dd' hs=>?_
      have hex:∃q,h'.get? D=some q:=let ⟨q,_,_,hq,_⟩:=dd';⟨q,hq⟩
      exact NV (fH I10 (by rw[eD];exact MM) hs hex (dk_new hl2 hd (rel.put k r10) dd')) hm w10
 exact codeAny_compStart_dict loop (T.self X.A 0 _ _ _ (T.keep _ _ _ tn3 fun b _ o e=>kp b o e) loop)
section
variable{X:Cx}{kx vx tg iter:Expr}{ifs:List Expr}{scope:Scope}{pos:Pos}{wi:TI}{g:CompA->TG}{tt:CompA->TT}{tk te:CompA->TE}
theorem rm(N':List Str)(fr:List (Option Nat))(hc:X.calm=true)(hi:PI X tg iter wi)(hfr:jQ fr N' X.N scope X.env.scope=true)(hsc:kM scope X.env.scope=true)
 (hg:∀y,PG (blk X N' scope y) tg (g y))(ht:∀y,Hu (blk X N' scope y) ifs (tt y))(hk:∀y,PE (blk X N' scope y) kx (tk y))(he:∀y,PE (blk X N' scope y) vx (te y))
 (hs:∀x,Jd iter X.env x=pure x:=by intro _;rfl):PE X (.DictComp kx vx [⟨tg,iter,ifs,0⟩] scope pos) (nQ wi fr g tt tk te):=by
 intro pins s σ H Q I h
 obtain⟨sk,sn⟩:=IF.mp hsc
 have hkind:scope.kind = .function:=of_decide_eq_true sk
 have hall:=KA.mp sn
 have hcell:∀y∈scope.names,y.2 = .cell->scope.names.lookup y.1=some .cell:=fun y hy hl=>by
  rcases I0.mp (IF.mp (IF.mp (hall y hy)).1).1 with z|z
  · exact absurd hl (of_decide_eq_true z)
  · exact of_decide_eq_true z
 have hnames:∀y∈scope.names,y.2 = .local->scope.names.lookup y.1=some .local:=fun y hy hl=>by
  rcases I0.mp (IF.mp (IF.mp (hall y hy)).1).2 with z|z
  · exact absurd hl (of_decide_eq_true z)
  · exact of_decide_eq_true z
 have hfree:∀y∈scope.names,y.2 = .free->X.env.kindOf y.1=some .cell\/X.env.kindOf y.1=some .free:=fun y hy hl=>by
  rcases I0.mp (IF.mp (hall y hy)).2 with z|z
  · exact absurd hl (of_decide_eq_true z)
  · exact(I0.mp z).imp of_decide_eq_true of_decide_eq_true
 obtain⟨frl,frg⟩:=jQ.get hfr
 obtain⟨cl,hclos,cl1,cl2⟩:=cn (env:=X.env) (scope:=scope) fun y hy hl=>I.ok.has y.1 (hfree y hy hl)
 rw[arm_eval_DictComp]
 refine KL (use:=none) rfl hs hclos hkind hnames (E7 (hi pins s σ H _ I h) fun v s1 h1=>E7 h1 fun itv s2 h2=>?_)
 obtain⟨it,fp,tn,J,H2,e,I2,T,st2,f2,q2⟩:=h2
 subst e
 refine Jg ?_
 have hD:H2 s2.heap.objs.size=none:=I2.hok.fresh (ID _)
 have I3:Inv X pins σ (upd H2 s2.heap.objs.size (.dK [])) {s2 with heap:=s2.heap.push {cls:=.type "dict", data:=.dict #[]}} :=
  I2.laid (t':=s2.toks) (fun b u e=>Iu _ e) (ID _) (eS s2.heap I2.big)
 obtain⟨Wv,⟨m0,w0⟩,turn⟩:=q2 _ hD
 have tn3:tn 0 (s2.heap.push {cls:=.type "dict", data:=.dict #[]}):=T.keep _ _ _ st2 fun b _ o e=>Iu _ e
 have fpD:∀b∈fp,(upd H2 s2.heap.objs.size (.dK [])) b=none:=fun b hb=>by
  obtain⟨o,e,_⟩:=T.obj _ _ st2 b hb
  rw[ah (Jt (II e))]
  exact(f2 b hb).1
 have fp3:∀b∈fp,b<(s2.heap.push {cls:=.type "dict", data:=.dict #[]}).objs.size:=fun b hb=>by
  obtain⟨o,e,_⟩:=T.obj _ _ tn3 b hb
  exact II e
 exact fK N' fr hc hkind hcell hfree frl frg cl1 cl2 I3 T tn3 fpD fp3 (fun b hb=>(f2 b hb).2) (hg ⟨cl,fp,X.pn++pins,_,_⟩) (ht ⟨cl,fp,X.pn++pins,_,_⟩) (hk ⟨cl,fp,X.pn++pins,_,_⟩) (he ⟨cl,fp,X.pn++pins,_,_⟩) w0 (turn ⟨cl,fp,X.pn++pins,_,_⟩)
  (Rp:=Po (Jb X.prog X.w) X.A X.xe none (EP X pins σ Q) (.ref s2.heap.objs.size)) fun s5 H4 m hn k _ qn=>⟨m,hn,fun h' hs'=>⟨.ref _,H4,k h' hs',rfl,qn⟩⟩
theorem jF{b:Bool}{x:Str}{spos:Pos}{ix:Nat}(N':List Str)(fr:List (Option Nat))(hc:X.calm=true)(hi:PI X tg iter wi)(hfr:jQ fr N' X.N scope X.env.scope=true)(hsc:kM scope X.env.scope=true)
 (hg:∀y,PG (blk X N' scope y) tg (g y))(ht:∀y,Hu (blk X N' scope y) ifs (tt y))(hk:∀y,PE (blk X N' scope y) kx (tk y))(he:∀y,PE (blk X N' scope y) vx (te y))(hN:X.N.Nodup)(hix:X.N[ix]?=some x)(hx:Loc X.env.scope x)
 (hf:X.fn x=true\/X.env.scope.names.lookup x=some .local)(hsw:Ku (.DictComp kx vx [⟨tg,iter,ifs,0⟩] scope pos) (some (.Name x px)) spos.line X.env=pure b)
 (hs:∀x,Jd iter X.env x=pure x):PS X (.Assign [.Name x px] (.DictComp kx vx [⟨tg,iter,ifs,0⟩] scope pos) spos) (Av (nQ wi fr g tt tk te) (fZ ix)):=by
 cases b with
 | false=>exact fq hN hix hx (rm N' fr hc hi hfr hsc hg ht hk he hs) hsw hf
 | true =>
 intro pins s σ H DD I h
 obtain⟨sk,sn⟩:=IF.mp hsc
 have hkind:scope.kind = .function:=of_decide_eq_true sk
 have hall:=KA.mp sn
 have hcell:∀y∈scope.names,y.2 = .cell->scope.names.lookup y.1=some .cell:=fun y hy hl=>by
  rcases I0.mp (IF.mp (IF.mp (hall y hy)).1).1 with z|z
  · exact absurd hl (of_decide_eq_true z)
  · exact of_decide_eq_true z
 have hnames:∀y∈scope.names,y.2 = .local->scope.names.lookup y.1=some .local:=fun y hy hl=>by
  rcases I0.mp (IF.mp (IF.mp (hall y hy)).1).2 with z|z
  · exact absurd hl (of_decide_eq_true z)
  · exact of_decide_eq_true z
 have hfree:∀y∈scope.names,y.2 = .free->X.env.kindOf y.1=some .cell\/X.env.kindOf y.1=some .free:=fun y hy hl=>by
  rcases I0.mp (IF.mp (hall y hy)).2 with z|z
  · exact absurd hl (of_decide_eq_true z)
  · exact(I0.mp z).imp of_decide_eq_true of_decide_eq_true
 obtain⟨frl,frg⟩:=jQ.get hfr
 obtain⟨cl,hclos,cl1,cl2⟩:=cn (env:=X.env) (scope:=scope) fun y hy hl=>I.ok.has y.1 (hfree y hy hl)
 rw[Oa _ _ _ _ hsw]
 refine Io (Ky (Io ?_))
 show IT _ X.A (do let _ <- comprehension (.DictComp kx vx [⟨tg,iter,ifs,0⟩] scope pos) scope X.env _ newDict false (eval iter X.env) (some (Li (.Name x px) X.env))) _ _ s
 refine Io (Jl (KL (use:=some (Li (.Name x px) X.env)) (Q:=fun _ s'=>SP X pins DD .next s') rfl hs hclos hkind hnames
  (E7 (hi pins s σ H _ I h) fun v s1 h1=>E7 h1 fun itv s2 h2=>?_)) (fun _ s' hq=>IA (IA hq)) fun _ _ e=>e)
 obtain⟨it,fp,tn,J,H2,e,I2,T,st2,f2,q2⟩:=h2
 subst e
 refine Jg ?_
 have hD:H2 s2.heap.objs.size=none:=I2.hok.fresh (ID _)
 have I3:Inv X pins σ (upd H2 s2.heap.objs.size (.dK [])) {s2 with heap:=s2.heap.push {cls:=.type "dict", data:=.dict #[]}} :=
  I2.laid (t':=s2.toks) (fun b u e=>Iu _ e) (ID _) (eS s2.heap I2.big)
 obtain⟨Wv,⟨m0,w0⟩,turn⟩:=q2 _ hD
 have tn3:tn 0 (s2.heap.push {cls:=.type "dict", data:=.dict #[]}):=T.keep _ _ _ st2 fun b _ o e=>Iu _ e
 have fpD:∀b∈fp,(upd H2 s2.heap.objs.size (.dK [])) b=none:=fun b hb=>by
  obtain⟨o,e,_⟩:=T.obj _ _ st2 b hb
  rw[ah (Jt (II e))]
  exact(f2 b hb).1
 have fp3:∀b∈fp,b<(s2.heap.push {cls:=.type "dict", data:=.dict #[]}).objs.size:=fun b hb=>by
  obtain⟨o,e,_⟩:=T.obj _ _ tn3 b hb
  exact II e
 refine fK (Q:=fun v H1=>fZ ix v σ H1 DD.nx) N' fr hc hkind hcell hfree frl frg cl1 cl2 I3 T tn3 fpD fp3 (fun b hb=>(f2 b hb).2) (hg ⟨cl,fp,X.pn++pins,_,_⟩) (ht ⟨cl,fp,X.pn++pins,_,_⟩) (hk ⟨cl,fp,X.pn++pins,_,_⟩) (he ⟨cl,fp,X.pn++pins,_,_⟩) w0 (turn ⟨cl,fp,X.pn++pins,_,_⟩)
  (Rp:=Po (Jb X.prog X.w) X.A X.xe (some (Li (.Name x px) X.env)) (fun _ s'=>SP X pins DD .next s') (.ref s2.heap.objs.size)) fun s5 H4 m hn k fpo qn=>?_
 show IT _ X.A (Li (.Name x px) X.env (.ref s2.heap.objs.size)) _ _ s5
 have I5:Inv X pins σ H4 s5:=k s5.heap (ND _ _)
 obtain⟨f0,f1,f2',f3,f4,f5⟩:=fpo
 refine Nx (eY I5 hN hix hx (v:=.ref s2.heap.objs.size) rfl (fun s6 I6 sb=>?_) hf)
 obtain⟨a,sb,ha⟩:=sb
 have hne:(s2.heap.push {cls:=.type "dict", data:=.dict #[]}).objs.size≠a:=by
  rcases ha with rfl|ha
  · exact f1
  · exact fun z=>f4 x a ha z.symm
 refine⟨m,hn.at' fun o e=>sb.extBut _ o hne e,fun h' hs'=>?_⟩
 exact⟨_,H4,I6.turned (t':=s6.toks) (fun b o hb e=>hs'.extBut b o hb e) f0 f1 f3 f4 f5,qn⟩
end
section
variable{prog:IZ}{w:JN}{A:J4}{E:Iw->IB->Prop}
end
section
variable{X:Cx}
end
end L2
theorem L2.Room.un1{k:Nat}{A:PySem.Around}(r:L2.Room k A):A.units+1<PySem.cLine:=by have:=r.un;omega
namespace L2.VL
def mO(kvs:List (HJ×Im))(k:HJ):Option Im:=(kvs.find? fun kv=>decide (kv.1=k)).map (·.2)
def putF(kvs:List (HJ×Im))(k:HJ)(x:Im):List (HJ×Im) :=
 if(kvs.any fun kv=>decide (kv.1=k))=true then kvs.map (fun kv=>if kv.1=k then(kv.1,x)else kv)else kvs++[(k,x)]
section
variable{K:W.Frag}{F:Hp}{us:List (HJ×V)}{kvs:List (HJ×Im)}
theorem HL.val(r:HL K F us kvs)(k:HJ):(eC us k=none/\mO kvs k=none)\/∃v d,eC us k=some v/\mO kvs k=some d/\Rep K F v d:=by
 induction r with
 | nil=>exact .inl ⟨rfl,rfl⟩
 | @cons p q ps qs h t ih =>
   unfold eC mO at *
   rw[JY,JY,h.1]
   by_cases e:q.1=k
   · simp only[e,decide_true]
     exact .inr ⟨p.2,q.2,rfl,rfl,h.2⟩
   · simp only[e,decide_false]
     exact ih
theorem HL.any(r:HL K F us kvs)(k:HJ):(us.any fun kv=>decide (kv.1=k))=kvs.any fun kv=>decide (kv.1=k):=by
 induction r with
 | nil=>rfl
 | cons h t ih=>rw[LU,LU,ih,h.1]
theorem HL.keys(r:HL K F us kvs):us.map (·.1)=kvs.map (·.1):=by
 induction r with
 | nil=>rfl
 | cons h t ih=>rw[IP,IP,ih,h.1]
theorem HL.repl(r:HL K F us kvs)(k:HJ)(rv:Rep K F v d):HL K F (us.map fun kv=>if kv.1=k then(kv.1,v)else kv) (kvs.map fun kv=>if kv.1=k then(kv.1,d)else kv):=by
 induction r with
 | nil=>exact .nil
 | @cons p q ps qs h t ih =>
   refine .cons ?_ ih
   show(if p.1=k then(p.1,v)else p).1=(if q.1=k then(q.1,d)else q).1/\Rep K F (if p.1=k then(p.1,v)else p).2 (if q.1=k then(q.1,d)else q).2
   by_cases e:q.1=k
   · have e':p.1=k:=h.1.trans e
     rw[if_pos e,if_pos e']
     exact⟨h.1,rv⟩
   · have e':¬p.1=k:=fun z=>e (h.1.symm.trans z)
     rw[if_neg e,if_neg e']
     exact h
theorem HL.snoc(r:HL K F us kvs)(k:HJ)(rv:Rep K F v d):HL K F (us++[(k,v)]) (kvs++[(k,d)]):=by
 induction r with
 | nil=>exact .cons ⟨rfl,rv⟩ .nil
 | cons h t ih=>exact .cons h ih
theorem HL.put(r:HL K F us kvs)(k:HJ)(rv:Rep K F v d):HL K F (cU us k v) (putF kvs k d):=by
 unfold cU putF
 rw[r.any k]
 split
 · exact r.repl k rv
 · exact r.snoc k rv
theorem HL.mono{F':Hp}(s:bm F F')(r:HL K F us kvs):HL K F' us kvs:=Kn.mapP r fun _ _ z=>⟨z.1,z.2.mono s⟩
end
def jk:W->Option HJ
 | .d (.int i)=>some (.inl i)
 | .d (.str x)=>some (.inr x)
 | _=>none
theorem keyW_i(i:Int):jk (.d (.int i))=some (.inl i):=rfl
theorem keyW_s(x:Str):jk (.d (.str x))=some (.inr x):=rfl
theorem eP{K:W.Frag}{w:W}{k:HJ}(e:jk w=some k)(r:cC K rl F H v w):v=kV k:=by
 unfold jk at e
 split at e
 · cases e;exact ay r
 · cases e;exact fm r
 · cases e
def sV(ρ0:En)(g:Hf)(ft:TB)(fk fe:TV):List Im->List (HJ×Im)->(List (HJ×Im)->Prop)->Prop
 | [],acc,Q=>Q acc
 | x::xs,acc,Q=>g x ρ0 fun ρ2=>Le ρ0 ρ2/\ft ρ2 fun b=>if b=true then fk ρ2 fun wk=>∃k,jk wk=some k/\fe ρ2 fun w=>∃d,w.fz = .d d/\acc.length<sizeLine/\sV ρ0 g ft fk fe xs (putF acc k d) Q else sV ρ0 g ft fk fe xs acc Q
section
variable{X:Cx}{rl:RlT}{kx vx tg iter:Expr}{ifs:List Expr}{scope:Scope}{pos:Pos}{fi:En->(List Im->Prop)->Prop}{g:Hf}{ft:TB}{fk fe:TV}
end
def Gr(ρ0:En)(g:Hf)(ft:TB)(fk fe:TV)(x:Im):Mo (Option (HJ×Im)):=GW (g x ρ0) fun ρ2=>GC (Le ρ0 ρ2) (GW (ft ρ2) fun b=>if b=true then GW (fk ρ2) fun wk=>aL (jk wk) fun k=>GW (fe ρ2) fun w=>aL (asD w.fz) fun d=>ret (some (k,d))else ret none)
def dY(b:Im->Mo (Option (HJ×Im))):List Im->List (HJ×Im)->Mo (List (HJ×Im))
 | [],acc=>ret acc
 | x::xs,acc=>GW (b x) fun o=>match o with
   | some d=>GC (acc.length<sizeLine) (dY b xs (putF acc d.1 d.2))
   | none=>dY b xs acc
theorem lC(ρ0:En)(g:Hf)(ft:TB)(fk fe:TV):∀(xs:List Im)(acc:List (HJ×Im)),sV ρ0 g ft fk fe xs acc=dY (Gr ρ0 g ft fk fe) xs acc
 | [],acc=>rfl
 | x::xs,acc=>by
   refine af fun Q=>?_
   show(g x ρ0 fun ρ2=>Le ρ0 ρ2/\ft ρ2 fun b=>if b=true then fk ρ2 fun wk=>∃k,jk wk=some k/\fe ρ2 fun w=>∃d,w.fz = .d d/\acc.length<sizeLine/\sV ρ0 g ft fk fe xs (putF acc k d) Q else sV ρ0 g ft fk fe xs acc Q)↔(GW (Gr ρ0 g ft fk fe x) _) Q
   simp only[lC ρ0 g ft fk fe xs]
   have:∀(ρ2:En)(b:Bool),(if b=true then fk ρ2 fun wk=>∃k,jk wk=some k/\fe ρ2 fun w=>∃d,w.fz = .d d/\acc.length<sizeLine/\dY (Gr ρ0 g ft fk fe) xs (putF acc k d) Q else dY (Gr ρ0 g ft fk fe) xs acc Q)=(GW (if b=true then GW (fk ρ2) fun wk=>aL (jk wk) fun k=>GW (fe ρ2) fun w=>aL (asD w.fz) fun d=>ret (some (k,d))else ret none) fun o=>match o with
   | some d=>GC (acc.length<sizeLine) (dY (Gr ρ0 g ft fk fe) xs (putF acc d.1 d.2))
   | none=>dY (Gr ρ0 g ft fk fe) xs acc) Q:=by
     intro ρ2 b
     cases b with
     | false=>rfl
     | true =>
       rw[if_pos rfl,if_pos rfl]
       show _=fk ρ2 fun wk=>_
       congr 1
       funext wk
       refine propext ?_
       show _↔(GW (aL (jk wk) fun k=>GW (fe ρ2) fun w=>aL (asD w.fz) fun d=>ret (some (k,d))) _) Q
       rw[bnd_opt,ai]
       have e2:∀(k:HJ),(fe ρ2 fun w=>∃d,w.fz = .d d/\acc.length<sizeLine/\dY (Gr ρ0 g ft fk fe) xs (putF acc k d) Q)=(GW (GW (fe ρ2) fun w=>aL (asD w.fz) fun d=>ret (some (k,d))) fun o=>match o with
        | some d=>GC (acc.length<sizeLine) (dY (Gr ρ0 g ft fk fe) xs (putF acc d.1 d.2))
        | none=>dY (Gr ρ0 g ft fk fe) xs acc) Q:=fun k=>by
        show _=fe ρ2 fun w=>_
        congr 1
        funext w
        refine propext ?_
        show _↔(GW (aL (asD w.fz) fun d=>ret (some (k,d))) _) Q
        rw[bnd_opt,ai]
        simp only[fN]
        exact Mv
       simp only[e2]
   simp only[this]
   exact Mv
theorem qT(kvs:List (HJ×Im))(k:HJ)(x:Im):(putF kvs k x).length<=kvs.length+1:=by
 unfold putF;split<;>simp
section
variable{α:Type}{b:Im->Mo (Option (HJ×Im))}
theorem i8{enc:α->Im}(f:α->HJ×Im):∀(xs:List α)(acc:List (HJ×Im)),(∀x∈xs,b (enc x)=ret (some (f x)))->acc.length+xs.length<=sizeLine->dY b (xs.map enc) acc=ret ((xs.map f).foldl (fun a p=>putF a p.1 p.2) acc)
 | [],acc,_,_=>rfl
 | x::xs,acc,h,hl=>by
   show GW (b (enc x)) _=_
   rw[h x Iz,bnd_ret]
   show GC (acc.length<sizeLine) (dY b (xs.map enc) (putF acc (f x).1 (f x).2))=_
   simp only[Ju]at hl
   have:=qT acc (f x).1 (f x).2
   rw[ag (by omega),i8 f xs _ (fun y hy=>h y (Ir _ hy)) (by omega)]
   rfl
theorem wN{Q:β->Prop}{k:List (HJ×Im)->Mo β}{xs:List α}{enc:α->Im}(f:α->HJ×Im)(hx:xs'=xs.map enc)(h:∀x∈xs,b (enc x)=ret (some (f x)))(hl:xs.length<=sizeLine)
 (fin:k ((xs.map f).foldl (fun a p=>putF a p.1 p.2) []) Q):GW (dY b xs' []) k Q:=by
 subst hx
 rw[i8 f xs [] h (by simpa using hl)]
 exact fin
end
section
variable{X:Cx}{rl:RlT}{a c e o i:Expr}{es:List Expr}{fa fb:TV}{fs:G_}{pos p kpos:Pos}{ρ:En}
end
end L2.VL
namespace L2
end L2
namespace L2.VL
section
variable{X:Cx}{rl:RlT}{tg:Expr}{fa:TV}{ρ:En}
end
end L2.VL
namespace L2
variable{X:Cx}
end L2
namespace L2.VL
section
variable{X:Cx}{rl:RlT}{a e:Expr}{es:List Expr}{fs:G_}{pos:Pos}
end
theorem Dfn.never{w:JN}{K:W.Frag}{mg:Str->Option Iw}{x:Str}{st:Stmt}{ps:List Str}{k:Nat}{Pd:List W->(Im->Prop)->Prop}(Fn:FnIn K mg x st ps)(no:∀ws Q,Pd ws Q->False:=by exact fun _ _ z=>z):Dfn P w K mg base rl x ps k Pd:=by
 obtain⟨f,fd,hm,F,hb⟩:=Fn.ex
 exact⟨fun ws Q Q' _ z=>(no ws Q z).elim,f,fd,hm,F.kp,hb,⟨fun vs H Q E ⟨_,ws,_,_,_,_,z⟩=>(no ws _ z).elim,fun A outer s H args us vs Q E _ _ _ _ ⟨_,ws,_,_,_,_,z⟩=>(no ws _ z).elim⟩⟩
def sI(b:Nat):Im->Prop
 | .none=>True
 | .bool _=>True
 | .int i=>i.natAbs<2^1000
 | .str x=>Im.strOk x=true/\(Im.str x).bulk<=b
 | _=>False
def Lv(b:Nat):List Nat->Im->Prop
 | [],d=>sI b d
 | c::cs,d=>sI b d\/∃xs,(d = .tuple xs\/d = .list xs)/\xs.length<=c/\∀x∈xs,Lv b cs x
def Gf(b:Nat):List Nat->Nat
 | []=>b
 | c::cs=>(Gf b cs+1)*c
theorem sI.Sm{b:Nat}{d:Im}(h:sI b d):VL.Sm 0 b d:=by
 cases d with
 | none=>exact Sm.none.mono (ID _) (Jz _)
 | bool b=>exact Sm.bool.mono (ID _) (Jz _)
 | int i=>exact(Sm.int h).mono (ID _) (Jz _)
 | str x=>exact⟨h.1,by simp[JM],h.2⟩
 | list xs=>cases h
 | tuple xs=>cases h
 | dict xs=>cases h
theorem Lv.leaf{b:Nat}{cs:List Nat}(h:sI b d):Lv b cs d:=by cases cs with
 | nil=>exact h
 | cons c cs=>exact .inl h
theorem Lv.tup{b c:Nat}{cs:List Nat}{xs:List Im}(hl:xs.length<=c)(h:∀x∈xs,Lv b cs x):Lv b (c::cs) (.tuple xs):=.inr ⟨xs,.inl rfl,hl,h⟩
theorem Lv.lst{b c:Nat}{cs:List Nat}{xs:List Im}(hl:xs.length<=c)(h:∀x∈xs,Lv b cs x):Lv b (c::cs) (.list xs):=.inr ⟨xs,.inr rfl,hl,h⟩
def Gm:List Nat->List Nat->Bool
 | [],_=>true
 | _::_,[]=>false
 | a::as,b::bs=>decide (a<=b)&&Gm as bs
theorem Lv.mono{b:Nat}:∀{as bs:List Nat}{d:Im},Gm as bs=true->Lv b as d->Lv b bs d
 | [],_,_,_,h=>.leaf h
 | _::_,[],_,z,_=>by cases z
 | a::as,c::bs,d,z,h=>by
   simp only[Gm,MD,decide_eq_true_iff]at z
   rcases h with h|⟨xs,e,hl,h⟩
   · exact .inl h
   · exact .inr ⟨xs,e,Jr hl z.1,fun x mx=>Lv.mono z.2 (h x mx)⟩
theorem tP(b:Nat):∀cs:List Nat,(∀c∈cs,1<=c)->b<=Gf b cs
 | [],_=>ID _
 | c::cs,h=>by
   have h1:=tP b cs fun x m=>h x (Ir _ m)
   have h2:=h c Iz
   show b<=(Gf b cs+1)*c
   exact Jr (Jr h1 (Nat.le_succ _)) (NJ _ h2)
theorem Lv.Sm{b:Nat}:∀{cs:List Nat}{d:Im},(∀c∈cs,1<=c)->Lv b cs d->VL.Sm (2*cs.length) (Gf b cs) d
 | [],d,_,h=>sI.Sm h
 | c::cs,d,hc,h=>by
   rcases h with h|⟨xs,e,hl,h⟩
   · exact(sI.Sm h).mono (Jz _) (tP b _ hc)
   · have:=Sm.seq (n:=c) (fun x mx=>Lv.Sm (fun y m=>hc y (Ir _ m)) (h x mx)) hl
     rcases e with rfl|rfl
     · exact this.1
     · exact this.2
end L2.VL
namespace L2
section
variable{X:Cx}
theorem hW{ns:List Int}{its:List Iw}(r:bQ (ns.map V.int) its){i:Nat}{v:Iw}(e:its[i]?=some v):∃t,v = .int (ns.getD i 0) t:=by
 have hl:=r.length
 rw[IE]at hl
 have hi:i<ns.length:=by have:=(IR.mp e).1;omega
 have hb:(ns.map V.int)[i]?=some (.int ns[i]):=by simp[hi]
 obtain⟨u,hu,ru⟩:=r.get hb
 rw[e]at hu
 cases hu
 have:ns.getD i 0=ns[i]:=by simp[List.getD,hi]
 rw[this]
 exact ru
theorem preSum_eq(ns:List Int):preSum (fun i=>ns.getD i 0) ns.length=ns.sum:=by
 have key:∀k,k<=ns.length->preSum (fun i=>ns.getD i 0) k=(ns.take k).sum:=by
  intro k
  induction k with
  | zero=>intro _;rfl
  | succ k ih =>
    intro hk
    have hk':k<ns.length:=by omega
    show preSum _ k+ns.getD k 0=_
    rw[ih (by omega),Mn hk',Of]
    simp[List.getD,hk']
 rw[key _ (ID _),JH (ID _)]
theorem pZ(hc:X.calm=true):c_ X (.builtin "sum") (fun xs H Q=>∃(p:Addr)(ns:List Int),xs=[.ref p]/\Hj X.K H p (ns.map V.int)/\Q (.int ns.sum) H):=by
 intro pins s σ H xs us Q I r ⟨p,ns,ex,hq,q⟩
 subst ex
 obtain⟨u,rfl,ru⟩:=vals1 r
 cases ru
 obtain⟨its,rv,pl,hz⟩:=I.list hq
 have hl:=rv.length
 rw[IE]at hl
 refine call_sum_walkG (Ny pl.isList ?_)
 have ne:p≠s.heap.objs.size:=by obtain⟨o,ho,_⟩:=pl.isList;exact Jt (II ho)
 refine⟨s.heap.objs.size,_,_,_,_,_,fun i=>ns.getD i 0,rfl,Walks.list (A:=X.A.in1) (I.ok.hd hc) s.heap.objs.size p ne its.toArray,⟨⟨_,IL _ rfl,rfl,rfl⟩,pl.isList.push _⟩,?_,?_,?_⟩
 · intro b hb
   have hb:b=s.heap.objs.size\/b=p:=by simpa using hb
   show b<(Heap.push _ _).objs.size
   rw[J_]
   rcases hb with rfl|rfl
   · exact Nat.lt_succ_self _
   · obtain⟨o,ho,_⟩:=pl.isList;exact Nat.lt_succ_of_lt (II ho)
 · intro i v hP
   exact hW rv (by simpa using hP)
 · intro h' tk t' k
   have e:preSum (fun i=>ns.getD i 0) its.toArray.size=ns.sum:=by rw[IK,<- hl];exact preSum_eq ns
   rw[e]
   exact⟨.int _,H,I.kept (t':=tk) fun b o eb=>k b o (by simp;exact Jt (II eb)) (Iu _ eb),⟨t',rfl⟩,q⟩
end
end L2
namespace L2.VL
section
variable{X:Cx}{rl:RlT}{a:Expr}{fs:G_}{pos p:Pos}
def BS:List W->(W->Prop)->Prop:=fun ws Q=>∃(w:W)(ns:List Int),ws=[w]/\w.dat=some (.list (ns.map .int))/\Q (.d (.int ns.sum))
theorem xL:dZ X rl (fun xs H Q=>∃(p:Addr)(ns:List Int),xs=[.ref p]/\Hj X.K H p (ns.map V.int)/\Q (.int ns.sum) H) BS:=fun{F H vs ws} Qd Q s ra r ⟨w,ns,ew,ed,q⟩ k=>by
 subst ew
 obtain⟨v,rfl,r1⟩:=mP r
 obtain⟨a,us,rfl,sq,rs⟩:=r1.items s ed
 have e:=kO rs
 subst e
 exact⟨a,ns,rfl,sq,k _ (.d _) _ _ (Grow.refl s ra) (.int _) trivial q⟩
theorem v_sum(hm:X.mg "sum" = none)(ha:Hs X rl [a] fs)(hc:X.calm=true:=by rfl)(hg:Gl X "sum" := by rfl)(he:IC [a] X.env=(false,eval a X.env)::IC [] X.env:=by rfl)(hpl:(Kh pos (IC [] X.env)).any (·.1)=false:=by rfl) :
 PV X rl (.Call (.Name "sum" p) [a] [] pos) (cA BS fs):=dv (pZ hc) xL hm (by rfl) ha hg (by decide) (by decide) he hpl
def wB:Im->Option (List Int)
 | .list xs=>iW xs
 | _=>none
theorem AA{ns:List Int}:wB d=some ns↔d = .list (ns.map .int):=by
 constructor
 · intro h
   cases d with
   | list xs=>rw[lp h]
   | _=>cases h
 · rintro rfl;exact cB _
theorem m_gSum(w:W):BS [w]=aL (w.dat.bind wB) fun ns=>ret (.d (.int ns.sum)):=by
 refine af fun Q=>?_
 rw[ai]
 constructor
 · rintro⟨w',ns,e,ed,q⟩
   cases e
   exact⟨ns,by rw[ed];exact cB ns,q⟩
 · rintro⟨ns,e,q⟩
   cases ed:w.dat with
   | none=>rw[ed]at e;cases e
   | some d =>
     rw[ed]at e
     exact⟨w,ns,rfl,by rw[ed,AA.mp e],q⟩
theorem intsO_l(ns:List Int):wB (.list (ns.map .int))=some ns:=cB ns
def Ij:=Ip @m_gSum (@intsO_l)
end
theorem Reps.put{K:W.Frag}{ds:List Im}(k:Nat)(r:Reps K F vs ds)(h:Rep K F v d):Reps K F (vs.set k v) (ds.set k d):=by
 induction vs generalizing ds k with
 | nil=>cases r;exact .nil
 | cons x vs ih =>
   cases r with
   | cons r1 r2 =>
     cases k with
     | zero=>exact .cons h r2
     | succ k=>exact .cons r1 (ih k r2)
def qG(i:Nat)(fx fv:TV):Ha:=fun D ρ=>fv ρ fun w=>∃d,w.fz = .d d/\∃xs,ρ[i]?=some (some (.ml xs))/\fx ρ fun wx=>∃k:Int,wx = .d (.int k)/\0<=k/\k<(xs.length:Int)/\D.nx (ρ.set i (some (.ml (xs.set k.toNat d))))
section
variable{X:Cx}{rl:RlT}{ei e:Expr}{fx fv:TV}{pos p1 pos':Pos}{ρ:En}
theorem uu(i:Nat){x:Str}(hx:PV X rl ei fx)(hv:PV X rl e fv)(hN:X.N[i]?=some x:=by rfl)(hvis:G6 X.env.scope x:=by first|exact J8 rfl|exact Jw (J8 rfl)|exact Jw (Jw rfl))
 (hd:(x==("__debug__" : Str))=false:=by decide)(hcd:(x==("__classdict__" : Str))=false:=by decide)
 (ha:∀v,Li (.Subscript (.Name x p1) ei pos') X.env v=(do
  let ov <- NH [v] (eval (.Name x p1) X.env)
  let iv <- NH [v,ov] (eval ei X.env)
  OA pos'
  NH [v,ov,iv] (PJ ov iv v)
  release [v,ov,iv] []):=by intro _;rfl)
 (hs:Lp [.Subscript (.Name x p1) ei pos'] e pos.line X.env=pure false:=by rfl)(hw:Lq [.Subscript (.Name x p1) ei pos'] e X.env=pure none:=by rfl)
 (h1:(Ki [.Subscript (.Name x p1) ei pos'] X.env).map (·.2)=[Li (.Subscript (.Name x p1) ei pos') X.env]:=by rfl) :
 Hw X rl (.Assign [.Subscript (.Name x p1) ei pos'] e pos) (qG i fx fv):=by
 obtain⟨tv,pv,kv⟩:=hv
 obtain⟨tx,px,kx⟩:=hx
 refine⟨_,iQ pv (tH (bH hN hvis hd hcd) px kJ ha) hs hw h1,fun{F₀ H₀ F H σ ρ} R Dv D ok q=>kv R _ _ q fun v w F1 H1 g1 r1 n1 ⟨d,ed,xs,e1,q1⟩=>?_⟩
 obtain⟨F2,g2,s2,r2⟩:=cC.fz g1 r1 n1
 rw[ed]at r2
 have R1:=R.grow g2
 obtain⟨u,h1',h2,h3⟩:=R1.sl i _ e1
 obtain⟨a,vs,rfl,f,hr,hh,rs⟩:=(show eU X.K rl F2 H1 u xs from h2)
 refine⟨.ref a,h1',kx R1 _ _ q1 fun y wy F3 H3 g3 r3 n3 ⟨k,ek,k0,k1,q3⟩=>?_⟩
 subst ek
 have ey:=ay r3
 subst ey
 have R3:=R1.grow g3
 have vl:vs.length=xs.length:=rs.length
 refine⟨a,vs,k,k.toNat,rfl,rfl,g3.same a _ hh hr,?_,ok.nx _ _ _ _ (g2.fs.trans g3.fs) (R3.own e1 h1' (Reps.put k.toNat (rs.mono g3.fs) (Rep.mono g3.fs r2))) q3⟩
 obtain⟨n,rfl⟩:=JC k0
 unfold ixN
 simp
 omega
theorem tq(i:Nat):mS (qG i fx fv) ρ=GW (fv ρ) fun w=>aL (asD w.fz) fun d=>aL (Fw ρ i) fun xs=>GW (fx ρ) fun wx=>aL (asI wx) fun k=>GC (0<=k/\k<(xs.length:Int)) (ret (.nx (ρ.set i (some (.ml (xs.set k.toNat d)))))):=by
 refine af fun Q=>?_
 simp only[mS,qG,GW,ai,nT,fN,cq,GC,ret,and_assoc]
end
section
variable{X:Cx}{al:Option Addr}{c1 c2:Nat}{ei e:Expr}{fx fv:TV}{pos p1 pos':Pos}{ρ:En}
theorem wT(i:Nat){x:Str}(hx:CV X al c2 ei fx)(hv:CV X al c1 e fv)(hN:X.N[i]?=some x:=by rfl)(hvis:G6 X.env.scope x:=by first|exact J8 rfl|exact Jw (J8 rfl)|exact Jw (Jw rfl))
 (hd:(x==("__debug__" : Str))=false:=by decide)(hcd:(x==("__classdict__" : Str))=false:=by decide)
 (ha:∀v,Li (.Subscript (.Name x p1) ei pos') X.env v=(do
  let ov <- NH [v] (eval (.Name x p1) X.env)
  let iv <- NH [v,ov] (eval ei X.env)
  OA pos'
  NH [v,ov,iv] (PJ ov iv v)
  release [v,ov,iv] []):=by intro _;rfl)
 (hs:Lp [.Subscript (.Name x p1) ei pos'] e pos.line X.env=pure false:=by rfl)(hw:Lq [.Subscript (.Name x p1) ei pos'] e X.env=pure none:=by rfl)
 (h1:(Ki [.Subscript (.Name x p1) ei pos'] X.env).map (·.2)=[Li (.Subscript (.Name x p1) ei pos') X.env]:=by rfl) :
 CS X al (c1+c2) (.Assign [.Subscript (.Name x p1) ei pos'] e pos) (qG i fx fv):=by
 obtain⟨tv,pv,kv⟩:=hv
 obtain⟨tx,px,kx⟩:=hx
 refine⟨_,iQ pv (tH (bH hN hvis hd hcd) px kJ ha) hs hw h1,fun{b F₀ H₀ F H σ ρ} R Dv D ok q=>kv (b:=b+c2) (R.pay (by omega)) _ _ q fun v w F1 H1 g1 r1 n1 ⟨d,ed,xs,e1,q1⟩=>?_⟩
 obtain⟨F2,g2,s2,r2⟩:=cC.fz g1 r1 n1
 rw[ed]at r2
 have R1:=R.gr g2
 obtain⟨u,h1',h2,h3⟩:=R1.sl i _ e1
 obtain⟨a,vs,rfl,f,hr,hh,rs⟩:=(show eU X.K ⟨al,b+c2⟩ F2 H1 u xs from h2)
 refine⟨.ref a,h1',kx (b:=b) R1 _ _ q1 fun y wy F3 H3 g3 r3 n3 ⟨k,ek,k0,k1,q3⟩=>?_⟩
 subst ek
 have ey:=ay r3
 subst ey
 have R3:=R1.gr g3
 have vl:vs.length=xs.length:=rs.length
 refine⟨a,vs,k,k.toNat,rfl,rfl,g3.same a _ hh hr,?_,ok.nx _ _ _ _ (g2.fs.trans g3.fs) (R3.own e1 h1' (Reps.put k.toNat (rs.mono g3.fs) (Rep.mono g3.fs r2))) q3⟩
 obtain⟨n,rfl⟩:=JC k0
 unfold ixN
 simp
 omega
end
theorem Grow.other{D:Addr}{o:HO}(g:Grow rl F₀ H₀ F H)(h0:H₀ D=none)(f:F D=none)(hr:rl.a≠some D):Grow rl F₀ H₀ F (upd H D o):=by
 have neF:∀b u,F b=some u->b≠D:=fun b u q z=>by subst z;rw[f]at q;cases q
 refine⟨fun b o q1 n=>by rw[ah (aH q1 h0)];exact g.same b o q1 n,g.fs,fun b o q1=>by rw[ah (neF b o q1)];exact g.sub b o q1,g.old,fun y z=>?_⟩
 obtain⟨z1,⟨u,h1,h2⟩⟩:=g.reel y z
 exact⟨z1,⟨u,by rw[ah (fun q=>hr (by rw[<- q];exact z))];exact h1,h2⟩⟩
section
variable{X:Cx}{rl:RlT}{iter:Expr}{scope:Scope}{fi:En->(List Im->Prop)->Prop}{xk xl xh f:Str}{ps:List Str}{k:Nat}{Pd:List W->(Im->Prop)->Prop}{pk p1 p2 p3 p4 p5 p6 p7 p8 p9 p10 ap pc rp:Pos}
end
def sT(n il ih:Nat)(fi:En->(List Im->Prop)->Prop):Ha:=fun Dv ρ=>fi ρ fun xs=>xs.length<=n/\∃ys:List Im,ρ[il]?=some (some (.ml ys))/\ρ[ih]?=some (some .reel)/\xs.length<=ys.length/\ys.length<1000 /\
 ∀os:List Im,os.length=xs.length->(∀o∈os,o∈ys)->Dv.rt (.d (.tuple os))
section
variable{X:Cx}{al:Option Addr}{c1 c2:Nat}{iter:Expr}{scope:Scope}{fi:En->(List Im->Prop)->Prop}{xk xl xh f:Str}{ps:List Str}{k:Nat}{Pd:List W->(Im->Prop)->Prop}{pk p1 p2 p3 p4 p5 p6 p7 p8 p9 p10 ap pc rp:Pos}
theorem mK(n il ih:Nat)(hc:X.calm=true)(Dd:DfnC X.prog X.w X.K X.mg X.base al c2 f ps k Pd)(hP:∀(m:Int)(Q:Im->Prop),0<m->m<2^60->(∀j:Int,0<=j->j<m->Q (.int j))->Pd [.reel,.d (.int m)] Q)
 (hr:Room k X.A)(hml:X.mg "len" = none)(hmt:X.mg "tuple" = none)(hi:CI X al c1 (.Name xk pk) iter fi)(nd:([xk,xl,xh]:List Str).Nodup)
 (hgk:∀z,PG (blk X [xk,xl,xh] scope z) (.Name xk pk) (fZ 0))
 (he:∀z,(∀{t:TA},PA (blk X [xk,xl,xh] scope z) [.Name xh p4,.Call (.Name "len" p5) [.Name xl p6] [] p7] t->∀{sp:Sp}{fa:Addr}{fd:KO},FnOk X.prog X.w X.K X.mg X.base Ib k fa fd ps sp->X.mg f=some (.ref fa)->W.keepIn X.K (.ref fa)=true->Binds X.K fd ps [] ->
  PE (blk X [xk,xl,xh] scope z) (.Call (.Attribute (.Name xl p2) "pop" ap) [.Call (.Name f p3) [.Name xh p4,.Call (.Name "len" p5) [.Name xl p6] [] p7] [] p8] [] p9) (Fj X.K "list" oy (qL 1) (gS (uY sp [] E0 t) uX))))
 (hl:∀z,PA (blk X [xk,xl,xh] scope z) [.Name xh p4,.Call (.Name "len" p5) [.Name xl p6] [] p7] (gS (qL 2) (gS (Fi (fun xs H Q=>∃p ys,xs=[.ref p]/\(Hj X.K H p ys\/Hi X.K H p ys)/\Q (.int ys.length) H) (gS (qL 1) uX)) uX)))
 (hfr:jQ [none,some il,some ih] [xk,xl,xh] X.N scope X.env.scope=true:=by rfl)(hsc:kM scope X.env.scope=true:=by rfl)
 (hs:∀x,Jd iter X.env x=pure x:=by intro _;rfl)(hgt:Gl X "tuple" := by rfl)
 (hst:IC [(.ListComp (.Call (.Attribute (.Name xl p2) "pop" ap) [.Call (.Name f p3) [.Name xh p4,.Call (.Name "len" p5) [.Name xl p6] [] p7] [] p8] [] p9) [⟨.Name xk pk,iter,[],0⟩] scope pc)] X.env=(false,eval (.ListComp (.Call (.Attribute (.Name xl p2) "pop" ap) [.Call (.Name f p3) [.Name xh p4,.Call (.Name "len" p5) [.Name xl p6] [] p7] [] p8] [] p9) [⟨.Name xk pk,iter,[],0⟩] scope pc) X.env)::IC [] X.env:=by rfl) :
 CS X al (c1+n*c2) (.Return (some (.Call (.Name "tuple" p1) [.ListComp (.Call (.Attribute (.Name xl p2) "pop" ap) [.Call (.Name f p3) [.Name xh p4,.Call (.Name "len" p5) [.Name xl p6] [] p7] [] p8] [] p9) [⟨.Name xk pk,iter,[],0⟩] scope pc] [] p10)) rp) (sT n il ih fi):=by
 obtain⟨fa,fd,hm,hk,hb,Fo⟩:=Dd.ex
 obtain⟨wi,p0,k0⟩:=hi
 refine⟨_,kS (dL b9 hgt hmt (by rfl) (bT (dJ [xk,xl,xh] [none,some il,some ih] hc p0 hfr hsc hgk (fun z=>gY) (fun z=>he z (hl z) Fo hm hk hb) hs) dM hst) (by decide) (by decide) hst (by rfl)),fun{b F₀ H₀ F H σ ρ} R Dv D ok q=>?_⟩
 refine k0 (b:=b+n*c2) (R.pay (by omega)) _ _ q fun J xs F1 H1 g1 vi ⟨hn,ys,e1,e2,hxy,hyl,fin⟩=>?_
 intro DD hD
 have R1:=R.gr g1
 obtain⟨v,s1,⟨a,vs,ev,fa1,ra1,ha1,rs1⟩,nw1⟩:=R1.sl il _ e1
 subst ev
 obtain⟨v2,s2,⟨r,er,ev2⟩,_⟩:=R1.sl ih _ e2
 subst ev2
 have nD:DD≠a:=fun z=>by rw[z,ha1]at hD;cases hD
 have H0a:H₀ a=none:=nw1 a rfl
 have H0D:H₀ DD=none:=R1.g.freeB hD
 have rD:al≠some DD:=fun e=>by obtain⟨o,z⟩:=g1.reel.live e;rw[hD]at z;cases z
 have FD:F1 DD=none:=g1.sub.free hD
 have sz:=IQ
 have g10:Grow ⟨al,b+n*c2⟩ F₀ H₀ F1 (upd H1 DD (.lst [])):=R1.g.other H0D FD rD
 refine⟨fun i m acc σc Hc=>m=xs.length-i/\i<=xs.length/\∃Fc us zs ds,Grow ⟨al,b+(n-i)*c2⟩ F₀ H₀ Fc Hc/\bm F1 Fc/\Hc DD=some (.lst acc)/\Fc DD=none/\Reps X.K Fc acc ds/\ds.length=i/\(∀o∈ds,o∈ys)/\Hc a=some (.lst us)/\Fc a=none/\Reps X.K Fc us zs/\zs.length+i=ys.length/\(∀o∈zs,o∈ys)/\σc.length=3/\σc[1]?=some (some (.ref a))/\σc[2]?=some (some (.ref r)),
  ⟨xs.length,by simp,Jz _,F1,vs,ys,[],g10,.refl _,ak,FD,.nil,rfl,(fun o m=>nomatch m),by rw[ah (L3 nD)];exact ha1,fa1,rs1,rfl,(fun o m=>m),rfl,?_,?_⟩,?_⟩
 · show some (((σ[il]?).join))=_
   rw[s1];rfl
 · show some (((σ[ih]?).join))=_
   rw[s2];rfl
 rintro z i m acc σc Hc ⟨rfl,hi,Fc,us,zs,ds,gc,smc,hDc,fDc,rds,hdl,hds,hac,fac,ruz,hzl,hzs,sl3,sa,sr⟩
 have sH:bm F1 Hc:=smc.trans gc.sub
 by_cases hlt:i<xs.length
 · have ei:xs[i]?=some xs[i]:=by simp[hlt]
   have el:=dF (n:=n) (i:=i) (c:=c2) (by omega)
   refine .inr ⟨(vi 0).go i Hc _ ei sH,fun v H' y=>?_⟩
   obtain⟨Fy,gy,rv⟩:=(vi 0).yld i Hc v H' _ Fc ei smc gc.sub gc.reel y
   have hay:H' a=some (.lst us):=gy.same a _ hac ra1
   have hDy:H' DD=some (.lst acc):=gy.same DD _ hDc rD
   have fay:Fy a=none:=by rw[gy.old a _ hac];exact fac
   have fDy:Fy DD=none:=by rw[gy.old DD _ hDc];exact fDc
   unfold fZ
   dsimp only
   rw[if_pos rfl]
   have t1:(σc.set 0 (some v))[1]?=some (some (.ref a)):=by rw[IM (by decide)];exact sa
   have t2:(σc.set 0 (some v))[2]?=some (some (.ref r)):=by rw[IM (by decide)];exact sr
   have ul:us.length=zs.length:=ruz.length
   have upos:0<us.length:=by omega
   refine⟨.ref a,t1,.inl ⟨rfl,us,.inl (.inl hay)⟩,?_⟩
   refine⟨.ref r,t2,.ref a,t1,a,us,rfl,.inl (.inl (.inl hay)),?_⟩
   refine⟨b+(n-(i+1))*c2,Fy,[.reel,.d (.int us.length)],gy.sub,gy.reel.pay (by omega),.cons ⟨r,er,rfl⟩ (.cons (.int _) .nil),rfl,?_⟩
   refine hP us.length _ (by omega) (by omega) fun j j0 j1 v5 F5 H5 g5 r5=>?_
   have e5:=ay r5
   subst e5
   have ha5:H5 a=some (.lst us):=g5.same a _ hay ra1
   have hD5:H5 DD=some (.lst acc):=g5.same DD _ hDy rD
   have fa5:F5 a=none:=by rw[g5.old a _ hay];exact fay
   have fD5:F5 DD=none:=by rw[g5.old DD _ hDy];exact fDy
   have g05:=(gc.tr gy).tr g5
   have jl:j.toNat<us.length:=by omega
   obtain⟨d,hd,rd⟩:=(ruz.mono (gy.fs.trans g5.fs)).getV (i:=j.toNat) (v:=us[j.toNat]) (by simp[jl])
   refine⟨a,us,j,j.toNat,us[j.toNat],rfl,rfl,ha5,by omega,by omega,?_,by simp[jl],?_⟩
   · unfold OV
     have h1:(if j<0 then j+(us.length:Int)else j)=j:=if_neg (by omega)
     rw[h1]
     first|rw[if_pos (by omega)]|rw[if_neg (by omega)]|(simp;omega)
   · refine⟨by rw[ah nD];exact hD5,by rw[rds.length,hdl];omega,xs.length-(i+1),by omega,rfl,hlt,F5,us.eraseIdx j.toNat,zs.eraseIdx j.toNat,ds++[d],?_,smc.trans (gy.fs.trans g5.fs),ak,fD5,(rds.mono (gy.fs.trans g5.fs)).snoc rd,by simp[hdl],?_,by rw[ah (L3 nD),ak],fa5,(ruz.mono (gy.fs.trans g5.fs)).erase _,?_,?_,by simpa using sl3,t1,t2⟩
     · exact(g05.other H0a fa5 ra1).other H0D fD5 rD
     · intro o mo
       rcases JR.mp mo with mo|mo
       · exact hds o mo
       · have:o=d:=by simpa using mo
         subst this
         exact hzs o (LZ hd)
     · rw[Na (by omega)]
       omega
     · exact fun o mo=>hzs o (List.mem_of_mem_eraseIdx mo)
 · have ee:i=xs.length:=by omega
   refine .inl ⟨(vi 0).stop _ Hc (by omega) sH,?_⟩
   refine⟨DD,acc,rfl,.inl ⟨.inl (.inl hDc),fun l hl=>?_⟩⟩
   have g9:Grow ⟨al,b⟩ F₀ H₀ (upd Fc l (.tup acc)) (upd Hc l (.tup acc)):=(gc.tr (Grow.data gc.sub gc.reel hl)).pay (by omega)
   have sm9:bm Fc (upd Fc l (.tup acc)):=fun b o z=>by rw[ah (aH z (gc.sub.free hl))];exact z
   exact ok.rt (.ref l) (.d (.tuple ds)) _ _ g9 (Rep.tup (.inl (.inl ak)) (rds.mono sm9)) trivial (fin ds (by omega) hds)
end
section
variable{X:Cx}{rl:RlT}{e:Expr}{fa:TV}{pos dpos q1 q2 q3 q4 q5 q6 q7 q8:Pos}{ρ:En}{j1 j2 j3 j4 j5 j6 j7 j8:Nat}{a1 a2 a3 a4 x1 x2 x3 x4:Int}
def nu(ps:List (Int×Int))(fa:TV):TV:=fun ρ Q=>fa ρ fun w=>∃k,w = .d (.int k)/\∃v,ps.lookup k=some v/\Q (.d (.int v))
theorem m_(ps:List (Int×Int))(k:Int):eC (ps.map fun p=>((JK p.1:HJ),V.int p.2)) (JK k)=(ps.lookup k).map V.int:=by
 induction ps with
 | nil=>rfl
 | cons p ps ih =>
   unfold eC at ih ⊢
   rw[IP,JY,JU]
   by_cases h:p.1=k
   · simp[h]
   · have h1:(k==p.1)=false:=by simpa using fun z=>h z.symm
     have h2:decide ((JK p.1:HJ)=JK k)=false:=by simpa using h
     rw[h1]
     simp only[h2,Nj,if_false]
     exact ih
theorem uH(hr:Room 0 X.A)(hd:a1≠a2/\a1≠a3/\a1≠a4/\a2≠a3/\a2≠a4/\a3≠a4)(h:PV X rl e fa)(hs:ui e:=by exact fun _ _=>rfl) :
 PV X rl (.Subscript (.Dict [some (.Constant (.int a1) j1 q1),some (.Constant (.int a2) j2 q2),some (.Constant (.int a3) j3 q3),some (.Constant (.int a4) j4 q4)] [.Constant (.int x1) j5 q5,.Constant (.int x2) j6 q6,.Constant (.int x3) j7 q7,.Constant (.int x4) j8 q8] dpos) e pos) (nu [(a1,x1),(a2,x2),(a3,x3),(a4,x4)] fa):=by
 obtain⟨t,p,k⟩:=h
 obtain⟨d12,d13,d14,d23,d24,d34⟩:=hd
 refine⟨_,fy (mF hr) (oP (cG di di (cG di di (cG di di (cG di di oE)))) rfl rfl (by intro z;cases z) (by show 4<=15;decide)) p hs,fun{F₀ H₀ F H σ ρ} R Qd Q q h=>?_⟩
 intro d hd
 refine⟨ak,[(JK a1,.int x1),(JK a2,.int x2),(JK a3,.int x3),(JK a4,.int x4)],rfl,(by show 4<=15;decide),?_⟩
 have em:dO [] [((JK a1:HJ),V.int x1),(JK a2,.int x2),(JK a3,.int x3),(JK a4,.int x4)]=[(JK a1,.int x1),(JK a2,.int x2),(JK a3,.int x3),(JK a4,.int x4)]:=by
  unfold dO
  simp only[Mf,List.foldl_nil]
  have p0:cU ([]:List (HJ×V)) (JK a1) (V.int x1)=[(JK a1,V.int x1)]:=rfl
  rw[p0]
  unfold cU
  simp[d12,d13,d14,d23,d24,d34]
 rw[em,uO]
 have g0:Grow rl F H F (upd H d (.dK [(JK a1,.int x1),(JK a2,.int x2),(JK a3,.int x3),(JK a4,.int x4)])):=Grow.laid R.sub R.reel hd
 refine k (R.grow g0) _ _ q fun v w F1 H1 g1 r1 n1 ⟨kk,ew,vv,lk,q1⟩=>?_
 subst ew
 have ev:=ay r1
 subst ev
 have rd:rl.a≠some d:=fun z=>by obtain⟨o,zz⟩:=R.reel.live z;rw[hd]at zz;cases zz
 have hD:H1 d=some (.dK [(JK a1,.int x1),(JK a2,.int x2),(JK a3,.int x3),(JK a4,.int x4)]):=g1.same d _ ak rd
 have gd:=xn.k (k:=(JK kk:HJ)) hD
 have:eC [((JK a1:HJ),V.int x1),(JK a2,.int x2),(JK a3,.int x3),(JK a4,.int x4)] (JK kk)=some (.int vv):=by
  have z:=m_ [(a1,x1),(a2,x2),(a3,x3),(a4,x4)] kk
  rw[lk]at z
  exact z
 rw[this]at gd
 exact⟨d,.int vv,rfl,gd,h _ (.d (.int vv)) _ _ (g0.trans g1) (.int vv) trivial q1⟩
theorem hJ(ps:List (Int×Int)):nu ps fa ρ=GW (fa ρ) fun w=>aL (asI w) fun k=>aL (ps.lookup k) fun v=>ret (.d (.int v)):=by
 refine af fun Q=>?_
 simp only[nu,GW,ai,cq,ret]
end
end L2.VL
namespace L2.TI
section
variable{prog:IZ}{w:JN}{A:J4}{E:Iw->IB->Prop}{s:IB}{t:Addr}{vs:List Iw}{ns:List Int}{k:Int}{tok:Tok}{j:Nat}
theorem hW:∀{vs:List Iw}{ns:List Int}{i:Nat}{n:Int},OE vs ns->ns[i]?=some n->∃u,vs[i]?=some (.int n u)
 | _,_,_,_,.nil,e=>by simp at e
 | _,_,0,_,.cons n t r,e=>by simp at e;subst e;exact⟨t,rfl⟩
 | _,_,i+1,_,.cons n t r,e=>by
   obtain⟨u,h⟩:=hW (i:=i) r (by simpa using e)
   exact⟨u,by simpa using h⟩
theorem scan{Q:Option Fin×Unit->IB->Prop}(hI:OE vs ns)(hj:ns[j]?=some k)(hno:∀m,m<j->ns[m]?≠some k)(q:Q (some (.done (.ret (.int j s.toks))),()) {s with toks:=s.toks+1}) :
 ∀ len start:Nat,start<=j->j<start+len->IT (Jb prog w) A (forIn (List.range' start len) ((none,()):Option Fin×Unit) fun(i:Nat)(_:Option Fin×Unit) =>
   match vs.toArray[i]? with
   | some y=>do
     let b <- eqBool y (OO k tok)
     if b=true then do
      let r <- retInt (i:Int)
      pure (ForInStep.done (some r,()))
     else pure (LI (none,()))
   | _=>pure (LI (none,()))) Q E s
 | 0,start,h1,h2=>by omega
 | len+1,start,h1,h2=>by
   rw[List.range'_succ,Mh]
   have hl:start<ns.length:=by have:=(IR.mp hj).1;omega
   obtain⟨u,hu⟩:=hW (i:=start) (n:=ns[start]) hI (Iy hl)
   have hv:vs.toArray[start]?=some (.int ns[start] u):=by simpa using hu
   refine Io ?_
   rw[hv]
   refine Io (wpAny_eqBool_int ?_)
   by_cases e:ns[start]=k
   · have es:start=j:=by
       rcases Nat.lt_or_eq_of_le h1 with z|z
       · exact absurd (by rw[Iy hl,e]) (hno start z)
       · exact z
     subst es
     rw[if_pos (by simpa using e)]
     exact Io (Io (Pz (IA (IA (IA q)))))
   · rw[if_neg (by simpa using e)]
     refine IA ?_
     have ne:start≠j:=fun z=>by subst z;rw[Iy hl]at hj;exact e (Jh hj)
     exact scan hI hj hno q len (start+1) (by omega) (by omega)
theorem body{R:Pt->IB->Prop}(tp:N2 s.heap t vs.toArray)(hI:OE vs ns)(hj:ns[j]?=some k)(hno:∀m,m<j->ns[m]?≠some k)
 (q:R (.ok (.ret (.int j s.toks))) {s with toks:=s.toks+1}) :
 IT (Jb prog w) A.in1 (Builtin.«tuple.index» ⟨[.ref t,.int k tok],[]⟩) (fun fin s'=>match fin with | .done f=>R (.ok f) s' | .again c'=>c'.quiet=true/\KZ (Jb prog w) A c' R s') (fun e s'=>R (.error e) s') s:=by
 unfold Builtin.«tuple.index»
 show IT _ _ (do let z <- K3 (.ref t);_) _ _ s
 refine Io (Md tp ?_)
 refine Io (IA (Io (IA ?_)))
 dsimp only
 rw[Std.Legacy.Range.forIn_eq_forIn_range']
 have hl:j<vs.toArray.size:=by
  have h1:=(IR.mp hj).1
  have h2:=hI.length
  simp only[IK]
  omega
 refine Io (scan hI hj hno ?_ _ 0 (Jz _) ?_)
 · exact IA q
 · show j<0+Std.Legacy.Range.size _
   simp[Std.Legacy.Range.size]
   simpa using hl
end
end L2.TI
namespace L2
section
variable{X:Cx}
end
end L2
namespace L2.VL
section
variable{X:Cx}{rl:RlT}{a b c o e:Expr}{es:List Expr}{fa fb:TV}{fs:G_}{pos p apos cpos:Pos}{ρ:En}
end
end L2.VL
namespace L2.RT
theorem oR:Manifest.owners.lookup (String.ofList ['d','e','s','r','e','v','e','r'].reverse)=some Manifest.sig_reversed:=by kernel_rfl
theorem dH:Slot "reversed" "__next__" "reversed.__next__" :=
 .of (owner := "reversed") (n := "__next__") (by rw[Ml,K_];kernel_rfl) (by decide +kernel) (by decide +kernel) (by decide +kernel)
  (by first|exact .inl (by decide +kernel)|exact .inr (by decide +kernel)) (by rw[My];kernel_rfl)
theorem gE:entryFor table "reversed.__next__" = some Builtin.«reversed.__next__»:=entryFor_of_tree (by kernel_rfl)
theorem jf(a:Iw):argsOk "reversed.__next__" ⟨[a],[]⟩:=by
 unfold argsOk;rw[signature?_of (id := "reversed.__next__") (n:=['_','_','t','x','e','n','_','_']) (o:=['d','e','s','r','e','v','e','r']) (by kernel_rfl) oR];kernel_rfl
theorem iA:Slot "reversed" "__iter__" "reversed.__iter__" :=
 .of (owner := "reversed") (n := "__iter__") (by rw[Ml,K_];kernel_rfl) (by decide +kernel) (by decide +kernel) (by decide +kernel)
  (by first|exact .inl (by decide +kernel)|exact .inr (by decide +kernel)) (by rw[My];kernel_rfl)
theorem qm(a:Iw):argsOk "reversed.__iter__" ⟨[a],[]⟩:=by
 unfold argsOk;rw[signature?_of (id := "reversed.__iter__") (n:=['_','_','r','e','t','i','_','_']) (o:=['d','e','s','r','e','v','e','r']) (by kernel_rfl) oR];kernel_rfl
theorem mH:entryFor table "reversed.__iter__" = some Builtin.«dict_keyiterator.__iter__» :=
 entryFor_alias (id' := "dict_keyiterator.__iter__") (by kernel_rfl) (by first|rfl|decide +kernel|(unfold String.splitOn;simp +decide [String.splitOnAux])) (by decide +kernel) (by kernel_rfl)
theorem nS:Slot "reversed" "__init__" "object.__init__" :=
 .of (owner := "object") (n := "__init__") (by rw[Ml,K_];kernel_rfl) (by decide +kernel) (by decide +kernel) (by decide +kernel)
  (by first|exact .inl (by decide +kernel)|exact .inr (by decide +kernel)) (by rw[My];kernel_rfl)
theorem Ab:TypeCalled "reversed" "reversed.__new__" "object.__init__" :=
 ⟨by decide +kernel,by decide +kernel,⟨_,_,F.mro_reversed⟩,F.made_reversed,by decide +kernel,by rw[My];kernel_rfl,nS⟩
theorem nL:On (.type "tuple") "__reversed__" = pure none:=by rw[Ml,K_];kernel_rfl
theorem lR:isSubtype (.type "tuple") (.type "dict")=pure false:=by rw[My];kernel_rfl
def rObj(a:Addr)(i:Int):Obj:={cls:=.type "reversed", data:=.fields #[.ref a,Mq i]}
def IsRv(h:Heap)(r a:Addr)(i:Int):Prop:=∃o,h.get? r=some o/\o.cls = .type "reversed" /\ o.data = .fields #[.ref a,Mq i]
section
variable{prog:IZ}{w:JN}{A:J4}{E:Iw->IB->Prop}{s:IB}
theorem IsRv.typeIs{r:Addr}{i:Int}(x:IsRv s.heap r a i):s.TypeIs (.ref r) "reversed" := let ⟨o,ho,hc,_⟩:=x;⟨o,ho,hc⟩
theorem IsRv.at{r:Addr}{i:Int}(x:IsRv h r a i)(e:∀o,h.get? r=some o->h'.get? r=some o):IsRv h' r a i:=let ⟨o,ho,z⟩:=x;⟨o,e _ ho,z⟩
theorem oV(t:Addr)(xs:Array Iw)(hz:(xs.size:Int)<2^63) :
 Meets (Builtin.«reversed.__new__» ⟨[.type "reversed", .ref t],[]⟩) (fun _ R s=>N2 s.heap t xs/\∀tk,R (.ok (.ret (.ref s.heap.objs.size))) {s with heap:=s.heap.push (rObj t ((xs.size:Int)-1)),toks:=tk}) :=
 .of_wp fun prog w A R s h=>by
  obtain⟨ht,h⟩:=h
  unfold Builtin.«reversed.__new__»
  refine Io (Lc (newClass_reversed _) ?_)
  try dsimp only
  refine Io (Lc (a:=()) (by first|rfl|kernel_rfl) ?_)
  refine Io (Lc (a:=()) (by first|rfl|kernel_rfl) ?_)
  try dsimp only
  refine Io (MU ht.typeIs nL ?_)
  try dsimp only
  refine Io (Io (ME ht.typeIs lR ?_))
  refine Io (MU ht.typeIs F.slot_tuple_getitem.lookup ?_)
  try dsimp only
  rw[if_pos (by decide +kernel)]
  refine IA ?_
  try dsimp only
  rw[if_neg (by decide)]
  refine Io (len_tuple ht hz ?_)
  refine Io (Lc (a:=some (xs.size:Int)) rfl ?_)
  try dsimp only
  show IT _ _ (newObj (.type "reversed") (.fields #[.ref t,Mq ((xs.size:Int)-1)]) >>= _) _ _ _
  refine Io (Jg ?_ (by size_fits))
  exact IA ⟨_,rfl,h _⟩
theorem call_rev{t:Addr}{xs:Array Iw}(ht:N2 s.heap t xs)(hz:(xs.size:Int)<2^63)
 (h:∀tk,Q (.ref s.heap.objs.size) {s with heap:=s.heap.push (rObj t ((xs.size:Int)-1)),toks:=tk}):IT (Jb prog w) A (call (.type "reversed") [.ref t]) Q E s :=
 Ph Ab (by decide) (F.typeCall_reversed_1 _) (F.newCall_reversed_1 _) (fun u=>F.args_object_init_2 u _) F.entry_reversed_new (oV t xs hz) ⟨ht,fun tk=>⟨⟨_,IL _ rfl,rfl⟩,h tk⟩⟩
theorem next_item{r t:Addr}{i:Nat}{xs:Array Iw}{x:Iw}{Q:Option Iw->IB->Prop}(hr:IsRv s.heap r t (i:Int))(ht:N2 s.heap t xs)(hx:xs[i]?=some x)(hz:(xs.size:Int)<2^63)
 (hQ:∀h' tk,IsRv h' r t ((i:Int)-1)->KP r s.heap h'->Q (some x) {s with heap:=h',toks:=tk}):IT (Jb prog w) A (MP (.ref r)) Q E s:=by
 obtain⟨o,ho,hc,hd⟩:=id hr
 have hi:i<xs.size:=(Array.getElem?_eq_some_iff.mp hx).1
 unfold MP
 refine Io (LV (Jk (name:=Str.ofString "__next__") hr.typeIs dH
  (J7 dH hr.typeIs gE ?_ (jf _))))
 unfold Builtin.«reversed.__next__»
 refine Io (Lc (a:=(KR r,[])) rfl ?_)
 try dsimp only
 refine Io (Jv ho hd (x:=.ref t) rfl ?_)
 refine Io (Jv ho hd (x:=Mq (i:Int)) rfl ?_)
 show IT _ _ (if(i:Int)<0 then _ else _) _ _ s
 rw[if_neg (by omega)]
 refine Io (MU ht.typeIs F.slot_tuple_getitem.lookup ?_)
 rw[if_neg (by decide)]
 refine Io (Pz ?_)
 refine Io (LV (getItem_tuple (s:={s with toks:=s.toks+1}) ht (by omega) (by omega) (OC (by omega) (by omega)) (x:=x) (by rw[JO];exact hx) ?_))
 try dsimp only
 refine Io (Jv (s:={s with toks:=s.toks+1}) ho hd (x:=Mq (i:Int)) rfl ?_)
 show IT _ _ (setField (.ref r) 1 (Mq ((i:Int)-1)) >>= _) _ _ _
 refine Io (Mx (s:={s with toks:=s.toks+1}) ho hd (by simp) ?_)
 refine IA ⟨x,rfl,IA (hQ _ _ ?_ (Lu ..))⟩
 exact⟨_,LG _ ho (Mz (K8 hd _)),(Obj.cls_mapFields ..).trans hc,by
  rw[K8 hd];simp⟩
theorem next_end{r t:Addr}{Q:Option Iw->IB->Prop}(hh:A.handled=none)(hr:IsRv s.heap r t (-1))
 (hQ:∀h',OH r s.heap h'->Q none {s with heap:=h' }):IT (Jb prog w) A (MP (.ref r)) Q E s:=by
 obtain⟨o,ho,hc,hd⟩:=id hr
 unfold MP
 refine Io (LV (Jk (name:=Str.ofString "__next__") hr.typeIs dH
  (J7 dH hr.typeIs gE ?_ (jf _))))
 unfold Builtin.«reversed.__next__»
 refine Io (Lc (a:=(KR r,[])) rfl ?_)
 try dsimp only
 refine Io (Jv ho hd (x:=.ref t) rfl ?_)
 refine Io (Jv ho hd (x:=Mq (-1)) rfl ?_)
 show IT _ _ (if(-1:Int)<0 then _ else _) _ _ s
 rw[if_pos (by decide)]
 refine Io (LP ?_)
 refine Io (Io (Mx ho hd (by simp) ?_))
 have ho2:=LG (Mm (·.setIfInBounds 1 (Mq (-1)))) ho (Mz (K8 hd _))
 refine Mx (s:={s with heap:=s.heap.update r (Mm (·.setIfInBounds 1 (Mq (-1))))}) ho2 (K8 hd _) (by simp) ?_
 have eb:OH r s.heap ((s.heap.update r (Mm (·.setIfInBounds 1 (Mq (-1))))).update r (Mm (·.setIfInBounds 0 Lz))):=fun b o hb e=>(Lu ..).extBut b o hb ((Lu ..).extBut b o hb e)
 generalize ((s.heap.update r (Mm (·.setIfInBounds 1 (Mq (-1))))).update r (Mm (·.setIfInBounds 0 Lz)))=g at eb ⊢
 first
 | show IT _ _ (newExc (.type "StopIteration") [] >>= _) _ _ _
 | (refine Io ?_;show IT _ _ (newExc (.type "StopIteration") [] >>= _) _ _ _)
 refine Io ?_
 simp only[newExc,newTuple]
 refine Io (Jg ?_ (by size_fits))
 refine Io (m:=Nt _ _) (Lc (a:=Lz) (by first|rfl|(simp only[Nt];rfl)) ?_)
 refine Jg ?_ (by size_fits)
 simp only[raiseNew]
 refine Io (wpAny_handled ?_)
 first|rw[show A.in1.handled=none from hh]|rw[hh]
 refine Io (IA (wpAny_throw ?_))
 refine Io (ME (T := "StopIteration") (b:=true) ⟨_,IL _ rfl,rfl⟩ Ox ?_)
 exact IA (hQ _ ((eb.push _).push _))
theorem iter_self{r t:Addr}{i:Int}(hr:IsRv s.heap r t i)(h:Q (.ref r) s):IT (Jb prog w) A (O7 (.ref r)) Q E s:=by
 refine wpAny_pyIter_slot hr.typeIs iA (J7 iA hr.typeIs mH ?_ (qm _))
 show IT _ _ (ret (.ref r)) _ _ s
 exact IA ⟨_,rfl, "reversed", _,hr.typeIs,dH.lookup,h⟩
end
end L2.RT
namespace L2
def HP(K:W.Frag)(a:Addr)(n:Nat):It :=
 ⟨fun i H=>i<n/\∃xs,Hi K H a xs/\xs.length=n,fun i H x H'=>H'=H/\∀xs,Hi K H a xs->xs[n-1-i]?=some x,fun i H=>n<=i⟩
theorem nG{w:JN}{K:W.Frag}(a it:Addr)(n:Nat):Turn P w K tg (HP K a n) [it] it (fun i h=>RT.IsRv h it a ((n:Int)-1-(min i n:Nat))) where
 mem:=by simp
 obj:=fun i h st b hb=>by
  have e:b=it:=by simpa using hb
  subst e
  obtain⟨o,e,c,d⟩:=st
  exact⟨o,e,fun v z=>by rw[d]at z;cases z⟩
 keep:=fun i h h' st k=>st.at fun o e=>k it (by simp) o e
 item:=by
  intro X hP hw hK hc i pins s σ H E I hf st hg
  subst hP hw hK
  obtain⟨hi,xs,hq,hl⟩:=hg
  obtain⟨its,rv,p,hz⟩:=I.tuple hq
  have hx:xs[n-1-i]?=some xs[n-1-i]:=Iy (by omega)
  obtain⟨u,hu,ru⟩:=rv.get hx
  obtain⟨f0,f1,f2,f3,f4,f5⟩:=hf it (by simp)
  have e1:(n:Int)-1-(min i n:Nat)=((n-1-i:Nat):Int):=by omega
  rw[e1]at st
  have hl2:=rv.length
  have sz:=IQ
  refine RT.next_item st p (x:=u) (by simpa using hu) (by rw[IK];omega) fun h' tk st' sb=>?_
  have I1:Inv X pins σ H {s with heap:=h',toks:=tk}:=I.turned (t':=tk) (fun b o hb e=>(sb.2 b hb).trans e) f0 f1 f3 f4 f5
  have e2:((n-1-i:Nat):Int)-1=(n:Int)-1-(min (i+1) n:Nat):=by omega
  rw[e2]at st'
  obtain⟨o,e,c,d⟩:=id st'
  exact⟨u,rfl,mG (s:={s with heap:=h',toks:=tk}) e c d (by decide) ⟨_,H,I1,ru,⟨rfl,fun ys hy=>by rw[I.tuple_inj hy hq];exact hx⟩,st',fun b hb=>(hf b hb).1⟩⟩
 done:=by
  intro X hP hw hK hc i pins s σ H E I hf st hg
  subst hP hw hK
  have hg:n<=i:=hg
  obtain⟨f0,f1,f2,f3,f4,f5⟩:=hf it (by simp)
  have e1:(n:Int)-1-(min i n:Nat) = -1:=by omega
  rw[e1]at st
  exact RT.next_end (I.ok.hd hc) st fun h' eb=>⟨rfl,I.turned (t':=s.toks) (fun b o hb e=>eb b o hb e) f0 f1 f3 f4 f5⟩
 self:=fun _ _ _ _ _ st h=>RT.iter_self st h
section
variable{X:Cx}{tg e:Expr}{ta te:TE}{p p2 pos:Pos}
def BL(K:W.Frag)(t:TA):TI:=fun σ H R=>t σ H fun vs H1=>∃a xs,vs=[.ref a]/\Hi K H1 a xs/\R (HP K a xs.length) H1
theorem vH{a:Expr}{ta:TA}(hg:Gl X "reversed")(hm:X.mg "reversed" = none)(ha:PA X [a] ta)(hs:IC [a] X.env=[(false,eval a X.env)]:=by rfl):PI X tg (.Call (.Name "reversed" p) [a] [] pos) (BL X.K ta):=by
 intro pins s σ H R I h
 refine Call_ (dn I hg hm (by rfl) (JE (E7 (ha pos pins s σ H _ I h) fun us s1 ⟨vs,H1,I1,r1,q1⟩=>?_) hs rfl) (by decide) (by decide))
 obtain⟨a,xs,e,hq,q⟩:=q1
 subst e
 cases r1 with
 | cons r rr =>
   cases rr
   cases r
   obtain⟨its,rv,p,hz⟩:=I1.tuple hq
   have hl:=rv.length
   have sz:=IQ
   refine RT.call_rev p (by rw[IK];omega) fun tk=>?_
   refine RT.iter_self (r:=s1.heap.objs.size) (t:=a) (i:=(xs.length:Int)-1) ⟨_,IL _ rfl,rfl,by simp[hl,RT.rObj]⟩ ?_
   refine⟨s1.heap.objs.size,[s1.heap.objs.size],_,_,H1,rfl,I1.kept (t':=tk) fun b o e=>Iu _ e,nG a _ xs.length,?_,fun b hb=>?_,q⟩
   · exact⟨_,IL _ rfl,rfl,by simp[hl,RT.rObj]⟩
   · have e:b=s1.heap.objs.size:=by simpa using hb
     subst e
     exact I1.fpOk (ID _) (I1.hok.fresh (ID _))
end
end L2
namespace L2.VL
section
variable{X:Cx}{rl:RlT}{a b c e tg:Expr}{es:List Expr}{fa fb fc:TV}{fs:G_}{pos pos2 p p2 q:Pos}
def Dp(fs:G_):En->(List Im->Prop)->Prop:=fun ρ Q=>fs ρ fun ws=>∃xs,ws=[.d (.tuple xs)]/\Q xs.reverse
theorem im(hm:X.mg "reversed" = none)(ha:Hs X rl [a] fs)(hg:Gl X "reversed" := by rfl)(hs:IC [a] X.env=[(false,eval a X.env)]:=by rfl):HA X rl tg (.Call (.Name "reversed" p) [a] [] pos) (Dp fs):=by
 obtain⟨t,p1,k⟩:=ha
 refine⟨_,vH hg hm p1 hs,fun R Qd Q q h=>k R _ _ q fun vs ws F1 H1 g1 r1 ⟨xs,ew,q1⟩=>?_⟩
 subst ew
 obtain⟨v,rfl,rv⟩:=mP r1
 have rv:Rep X.K F1 v (.tuple xs):=rv
 obtain⟨a,vs,rfl,sq0,rs⟩:∃a vs,v = .ref a/\(∀H,bm F1 H->Hi X.K H a vs)/\Reps X.K F1 vs xs:=by
  cases rv with
  | @tup a vs _ sq rs=>exact⟨a,vs,rfl,fun H s=>dg s sq,rs⟩
 have sqH:∀H,bm F1 H->Hi X.K H a vs:=fun H s=>sq0 H s
 have hl:=rs.length
 refine⟨a,vs,rfl,sqH H1 g1.sub,h _ xs.reverse F1 H1 g1 (.of (fun i H x e s=>⟨?_,vs,sqH H s,rfl⟩) (fun i H hl' s=>?_) (fun i H v H' x e s y=>?_)) q1⟩
 · have:=(IR.mp e).1
   rw[Kt]at this
   omega
 · show vs.length<=i
   rw[Kt]at hl'
   omega
 · obtain⟨e',hy⟩:=y
   obtain⟨v',ev,rv'⟩:=rs.rev.get e
   have h1:=hy vs (sqH H s)
   have hi:i<vs.length:=by
    have:=(IR.mp ev).1
    simpa using this
   rw[List.getElem?_reverse hi,h1]at ev
   cases ev
   exact⟨e',rv'⟩
def Ay:List W->Option (List Im)
 | [.d (.tuple xs)]=>some xs
 | _=>none
theorem vV{ws:List W}:Ay ws=some xs↔ws=[.d (.tuple xs)]:=by
 constructor
 · intro h
   unfold Ay at h
   split at h
   · cases h;rfl
   · cases h
 · rintro rfl;rfl
theorem zr:Dp fs ρ=GW (fs ρ) fun ws=>aL (Ay ws) fun xs=>ret xs.reverse:=by
 show(GW (fs ρ) fun ws=>fun(Q:List Im->Prop)=>∃xs,ws=[.d (.tuple xs)]/\Q xs.reverse)=_
 congr 1;funext ws
 refine af fun Q=>?_
 simp only[ai,vV,ret]
end
end L2.VL
namespace L2
open L2.ZP
section
variable{X:Cx}{e1 e2:Expr}{elts:List Expr}{kt:Nat}{pt p pos:Pos}{ta:TA}
end
end L2
namespace L2.VL
section
variable{X:Cx}{rl:RlT}{a b:Expr}{elts:List Expr}{kt:Nat}{pt p pos:Pos}{fs:G_}
end
end L2.VL
namespace L2
abbrev Gn(elt t1 i1:Expr)(f1:List Expr)(t2 i2:Expr)(f2:List Expr)(scope:Scope)(pos:Pos):Expr:=.ListComp elt [⟨t1,i1,f1,0⟩,⟨t2,i2,f2,0⟩] scope pos
theorem uS(elt t1 i1:Expr)(f1:List Expr)(t2 i2:Expr)(f2:List Expr)(scope:Scope)(pos:Pos)(it acc:Iw)(env:Env) :
 OX (Gn elt t1 i1 f1 t2 i2 f2 scope pos) 0 it acc env=(OA i1.pos >>= fun _=>MP it >>= fun r=>match r with
  | none=>pure (.done .next)
  | some v=>KI t1 it v >>= fun _=>Li t1 env v >>= fun _=>dz f1 env >>= fun ok=>(if ok=true then
      (eval i2 env >>= fun x=>OA i2.pos >>= fun _=>Jd i2 env x >>= fun x=>NH [x] (O7 x) >>= fun y=>runOwn (.compStart (Gn elt t1 i1 f1 t2 i2 f2 scope pos) 1 y acc env) env >>= fun _=>NV (.compLoop (Gn elt t1 i1 f1 t2 i2 f2 scope pos) 0 it acc env))
      else NV (.compLoop (Gn elt t1 i1 f1 t2 i2 f2 scope pos) 0 it acc env))):=by rfl
theorem uR(elt t1 i1:Expr)(f1:List Expr)(t2 i2:Expr)(f2:List Expr)(scope:Scope)(pos:Pos)(it acc:Iw)(env:Env) :
 OX (Gn elt t1 i1 f1 t2 i2 f2 scope pos) 1 it acc env=(OA i2.pos >>= fun _=>MP it >>= fun r=>match r with
  | none=>pure (.done .next)
  | some v=>KI t2 it v >>= fun _=>Li t2 env v >>= fun _=>dz f2 env >>= fun ok=>(if ok=true then
      ((eval elt env >>= fun x=>call (.builtin "list.append") [acc,x] >>= fun _=>pure ()) >>= fun _=>NV (.compLoop (Gn elt t1 i1 f1 t2 i2 f2 scope pos) 1 it acc env))
      else NV (.compLoop (Gn elt t1 i1 f1 t2 i2 f2 scope pos) 1 it acc env))):=by rfl
section
variable{prog:IZ}{w:JN}{A:J4}{R:Pt->IB->Prop}{s:IB}{elt t1 i1 t2 i2:Expr}{f1 f2:List Expr}{scope:Scope}{pos:Pos}{it acc:Iw}{env:Env}
theorem wf(I:Nat->IB->Prop)(hs:∀x,Jd i2 env x=pure x)
 (turn:∀n s,I n s->IT (Jb prog w) A (MP it) (fun r s₁=>(r=none/\R (.ok .next) s₁)\/∃v,r=some v /\
  IT (Jb prog w) A (KI t1 it v) (fun _ s₂=>IT (Jb prog w) A (Li t1 env v) (fun _ s₃=>IT (Jb prog w) A (dz f1 env) (fun ok s₄ =>
   if ok=true then IT (Jb prog w) A (eval i2 env) (fun x s₅=>IT (Jb prog w) A (O7 x) (fun y s₆=>KZ (Jb prog w) A (.compStart (Gn elt t1 i1 f1 t2 i2 f2 scope pos) 1 y acc env) (fun r s₇=>r = .ok .next/\∃m,m<n/\I m s₇) s₆) (fun _ _=>False) s₅) (fun _ _=>False) s₄
   else ∃m,m<n/\I m s₄) (fun _ _=>False) s₃) (fun _ _=>False) s₂) (fun _ _=>False) s₁) (fun _ _=>False) s)
 (n:Nat)(h:I n s):KZ (Jb prog w) A (.compLoop (Gn elt t1 i1 f1 t2 i2 f2 scope pos) 0 it acc env) R s:=by
 refine N_ rfl I (fun n s hI=>?_) n h
 show IT _ A ((OX (Gn elt t1 i1 f1 t2 i2 f2 scope pos) 0 it acc env).onRaise (fun x=>do OY x env;MV x)) _ _ s
 refine OF ?_
 rw[uS]
 refine Io (Ky (Io (Jl (turn n s hI) (fun r s₁ h₁=>?_) fun _ _ h'=>h'.elim)))
 rcases h₁ with⟨rfl,h₁⟩|⟨v,rfl,h₁⟩
 · exact IA h₁
 · refine Io (Jl h₁ (fun _ s₂ h₂=>Io (Jl h₂ (fun _ s₃ h₃=>Io (Jl h₃ (fun ok s₄ h₄=>?_) fun _ _ z=>z.elim)) fun _ _ z=>z.elim)) fun _ _ z=>z.elim)
   cases ok with
   | false=>exact IA ⟨rfl,h₄⟩
   | true =>
     refine Io (Jl h₄ (fun x s₅ h₅=>Io (Ky (Io (Lc (hs x) (Io (K4 (Jl h₅ (fun y s₆ h₆=>?_) fun _ _ z=>z.elim))))))) fun _ _ z=>z.elim)
     refine Io (wpAny_runOwn (Nc h₆ fun r s₇ ⟨hr,h₇⟩=>?_))
     subst hr
     exact IA ⟨rfl,h₇⟩
theorem we(I:Nat->IB->Prop)
 (turn:∀n s,I n s->IT (Jb prog w) A (MP it) (fun r s₁=>(r=none/\R (.ok .next) s₁)\/∃v,r=some v /\
  IT (Jb prog w) A (KI t2 it v) (fun _ s₂=>IT (Jb prog w) A (Li t2 env v) (fun _ s₃=>IT (Jb prog w) A (dz f2 env) (fun ok s₄ =>
   if ok=true then IT (Jb prog w) A (eval elt env) (fun x s₅=>IT (Jb prog w) A (call (.builtin "list.append") [acc,x]) (fun _ s₆=>∃m,m<n/\I m s₆) (fun _ _=>False) s₅) (fun _ _=>False) s₄
   else ∃m,m<n/\I m s₄) (fun _ _=>False) s₃) (fun _ _=>False) s₂) (fun _ _=>False) s₁) (fun _ _=>False) s)
 (n:Nat)(h:I n s):KZ (Jb prog w) A (.compLoop (Gn elt t1 i1 f1 t2 i2 f2 scope pos) 1 it acc env) R s:=by
 refine N_ rfl I (fun n s hI=>?_) n h
 show IT _ A ((OX (Gn elt t1 i1 f1 t2 i2 f2 scope pos) 1 it acc env).onRaise (fun x=>do OY x env;MV x)) _ _ s
 refine OF ?_
 rw[uR]
 refine Io (Ky (Io (Jl (turn n s hI) (fun r s₁ h₁=>?_) fun _ _ h'=>h'.elim)))
 rcases h₁ with⟨rfl,h₁⟩|⟨v,rfl,h₁⟩
 · exact IA h₁
 · refine Io (Jl h₁ (fun _ s₂ h₂=>Io (Jl h₂ (fun _ s₃ h₃=>Io (Jl h₃ (fun ok s₄ h₄=>?_) fun _ _ z=>z.elim)) fun _ _ z=>z.elim)) fun _ _ z=>z.elim)
   cases ok with
   | false=>exact IA ⟨rfl,h₄⟩
   | true=>exact Io (Io (Jl h₄ (fun x s₅ h₅=>Io (Jl h₅ (fun _ s₆ h₆=>IA (IA ⟨rfl,h₆⟩)) fun _ _ z=>z.elim)) fun _ _ z=>z.elim))
theorem qN
 (h0:KZ (Jb prog w) A (.compLoop (Gn elt t1 i1 f1 t2 i2 f2 scope pos) 1 it acc env) R s)
 (h:IT (Jb prog w) A (O7 it) (fun it' s'=>KZ (Jb prog w) A (.compLoop (Gn elt t1 i1 f1 t2 i2 f2 scope pos) 1 it' acc env) R s') (notedBy (Jb prog w) A env fun x s'=>R (.error x) s') s) :
 KZ (Jb prog w) A (.compStart (Gn elt t1 i1 f1 t2 i2 f2 scope pos) 1 it acc env) R s:=by
 refine codeAny_of_tree ?_
 show IT _ _ ((compStart (Gn elt t1 i1 f1 t2 i2 f2 scope pos) 1 it acc env).onRaise (fun x=>do OY x env;OA theWindowsPlace)) _ _ s
 refine wpAny_notedAt ?_
 unfold compStart
 show IT _ _ (ask >>= _) _ _ s
 refine Io (wpAny_askSetting (wpAny_ite ?_))
 split
 · first
     | exact Io (IA (IA (Ip rfl h0)))
     | exact IA (Ip rfl h0)
 · first
     | exact Io (LP (Io (Ky (Io (Jl h (fun it' s' h'=>IA (Ip rfl h')) fun _ _ x=>x)))))
     | (refine Io (LP ?_);show IT _ _ (OA i2.pos >>= _) _ _ s;exact Io (Ky (Io (Jl h (fun it' s' h'=>IA (Ip rfl h')) fun _ _ x=>x))))
end
def Ff(wi:TI)(g:TG)(tt:TT)(te:TE)(D:Addr)(acc:List V)(σ:St)(H:Hp)(R:List V->St->Hp->Prop):Prop:=wi σ H fun J H1=>∃Wv:Nat->Nat->List V->St->Hp->Prop,(∃m,Wv 0 m acc σ H1) /\
 ∀ i m acc σc H,Wv i m acc σc H->(J.stop i H/\R acc σc H)\/(J.go i H/\∀x H',J.yld i H x H'->g x σc H' fun σ2 H2=>tt σ2 H2 fun b H3 =>
   if b=true then te σ2 H3 fun y H4=>H4 D=some (.lst acc)/\acc.length<sizeLine/\∃m',m'<m/\Wv (i+1) m' (acc++[y]) σ2 (upd H4 D (.lst (acc++[y])))else ∃m',m'<m/\Wv (i+1) m' acc σ2 H3)
section
variable{Y:Cx}{elt t1 i1 t2 i2:Expr}{f1 f2:List Expr}{scope:Scope}{pos:Pos}{wi:TI}{g:TG}{tt:TT}{te:TE}{D:Addr}
theorem zH(hc:Y.calm=true)(hx:Y.xe=fun _ _=>False)(hi:PI Y t2 i2 wi)(hg:PG Y t2 g)(ht:Hu Y f2 tt)(he:PE Y elt te){acc:List V}{R:List V->St->Hp->Prop}{Rp:IB->Prop}
 (I:Inv Y pins σ H s)(q:Ff wi g tt te D acc σ H R)(fin:∀acc σ5 H5 s5,Inv Y pins σ5 H5 s5->R acc σ5 H5->Rp s5) :
 IT (Jb Y.prog Y.w) Y.A (eval i2 Y.env) (fun x s₅=>IT (Jb Y.prog Y.w) Y.A (O7 x) (fun y s₆=>KZ (Jb Y.prog Y.w) Y.A (.compStart (Gn elt t1 i1 f1 t2 i2 f2 scope pos) 1 y (.ref D) Y.env) (fun r s₇=>r = .ok .next/\Rp s₇) s₆) (fun _ _=>False) s₅) (fun _ _=>False) s:=by
 have hi':=hi pins s σ H _ I q
 rw[hx]at hi'
 refine E7 hi' fun v s1 h1=>E7 h1 fun itv s2 h2=>?_
 obtain⟨it,fp,tn,J,H2,e,I2,T,st2,f2',Wv,⟨m0,w0⟩,turn⟩:=h2
 subst e
 have stat:∀{H':Hp},(∀b∈fp,H' b=none)->∀b∈fp,ji Y pins H' b:=fun hn b hb=>⟨hn b hb,(f2' b hb).2⟩
 have loop:KZ (Jb Y.prog Y.w) Y.A (.compLoop (Gn elt t1 i1 f1 t2 i2 f2 scope pos) 1 (.ref it) (.ref D) Y.env) (fun r s₇=>r = .ok .next/\Rp s₇) s2:=by
  refine we (fun n s'=>∃i acc σ' H',Inv Y pins σ' H' s'/\tn i s'.heap/\(∀b∈fp,H' b=none)/\Wv i n acc σ' H') ?_ m0 ⟨0,acc,σ,H2,I2,st2,fun b hb=>(f2' b hb).1,w0⟩
  rintro n s4 ⟨i,acc,σ4,H4,I4,st4,fr4,w4⟩
  rcases turn i n acc σ4 H4 w4 with⟨stop,qn⟩|⟨go,step⟩
  · exact E7 (T.done Y rfl rfl rfl hc i pins s4 σ4 H4 (fun _ _=>False) I4 (stat fr4) st4 stop) fun r s5 ⟨hr,I5⟩=>.inl ⟨hr,rfl,fin acc σ4 H4 s5 I5 qn⟩
  · refine E7 (T.item Y rfl rfl rfl hc i pins s4 σ4 H4 (fun _ _=>False) I4 (stat fr4) st4 go) fun r s5 ⟨u,hr,h5⟩=>.inr ⟨u,hr,?_⟩
    refine E7 h5 fun _ s6 ⟨x,H6,I6,r6,y6,st6,fr6⟩=>?_
    have I6':=I6.pinned (stat fr6) (T.obj _ _ st6)
    have NV:∀{σ7:St}{H7:Hp}{s7:IB},Inv Y (pins++eI fp s6.heap) σ7 H7 s7->∀{acc':List V}{m':Nat},m'<n->Wv (i+1) m' acc' σ7 H7 ->
     ∃m,m<n/\∃i acc σ' H',Inv Y pins σ' H' s7/\tn i s7.heap/\(∀b∈fp,H' b=none)/\Wv i m acc σ' H':=fun{σ7 H7 s7} I7 {acc' m'} hm w7=>by
     refine⟨m',hm,i+1,acc',σ7,H7,I7.unpinned,T.keep _ _ _ st6 fun b hb o e=>(I7.pin (b,o) (IS _ (IS _ (bu hb e)))).1,fun b hb=>?_,w7⟩
     obtain⟨o,e,d⟩:=T.obj _ _ st6 b hb
     exact(I7.pin (b,o) (IS _ (IS _ (bu hb e)))).2.1
    have h7:=hg _ s6 σ4 H6 x u _ I6' r6 (step x H6 y6)
    rw[hx]at h7
    refine E7 h7 fun _ s7 ⟨σ7,H7,I7,q7⟩=>?_
    have h8:=ht _ s7 σ7 H7 _ I7 q7
    rw[hx]at h8
    refine E7 h8 fun ok s8 ⟨H8,I8,q8⟩=>?_
    cases ok with
    | false =>
      rw[if_neg Je]at q8 ⊢
      obtain⟨m',hm,w8⟩:=q8
      exact NV I8 hm w8
    | true =>
      rw[if_pos rfl]at q8 ⊢
      have h9:=he _ s8 σ7 H8 _ I8 q8
      rw[hx]at h9
      refine E7 h9 fun y s9 ⟨yv,H9,I9,r9,eD,hl,m',hm,w9⟩=>?_
      have h10:=dN (X:=Y) _ s9 σ7 H9 (.ref D) [yv] (.ref D) [y] (fun _ H'=>H'=upd H9 D (.lst (acc++[yv]))) I9 rfl (.cons r9 .nil) ⟨D,acc,yv,rfl,rfl,eD,hl,rfl⟩
      rw[hx]at h10
      exact E7 h10 fun _ s10 ⟨_,H10,I10,_,e10⟩=>by subst e10;exact NV I10 hm w9
 exact qN loop (T.self Y.A 0 _ _ _ st2 loop)
end
def sY(wi:TI)(fr:List (Option Nat))(g:CompA->TG)(tt:CompA->TT)(wj:CompA->TI)(g2:CompA->TG)(tt2:CompA->TT)(te:CompA->TE):TE:=fun σ H Q=>wi σ H fun J H1=>∀D,H1 D=none->∃Wv:Nat->Nat->List V->St->Hp->Prop,(∃m,Wv 0 m [] (jR fr σ) (upd H1 D (.lst []))) /\
 ∀ (z:CompA) i m acc σc H,Wv i m acc σc H->(J.stop i H/\Q (.ref D) H)\/(J.go i H/\∀x H',J.yld i H x H'->g z x σc H' fun σ2 H2=>tt z σ2 H2 fun b H3 =>
   if b=true then Ff (wj z) (g2 z) (tt2 z) (te z) D acc σ2 H3 fun acc' σ5 H5=>∃m',m'<m/\Wv (i+1) m' acc' σ5 H5 else ∃m',m'<m/\Wv (i+1) m' acc σ2 H3)
section
variable{Y:Cx}{elt t1 i1 t2 i2:Expr}{f1 f2:List Expr}{scope:Scope}{pos:Pos}{wj:TI}{g g2:TG}{tt tt2:TT}{te:TE}{D:Addr}
theorem y8(hc:Y.calm=true)(hx:Y.xe=fun _ _=>False)(hg:PG Y t1 g)(ht:Hu Y f1 tt)(hj:PI Y t2 i2 wj)(hg2:PG Y t2 g2)(ht2:Hu Y f2 tt2)(he:PE Y elt te)(hs:∀x,Jd i2 Y.env x=pure x)
 {J:It}{Q:VK}(T:Turn Y.prog Y.w Y.K t1 J fp it tn)(I:Inv Y [] σ H s)(st0:tn 0 s.heap)(fp0:∀b∈fp,H b=none)(stat:∀{H':Hp},(∀b∈fp,H' b=none)->∀b∈fp,ji Y [] H' b)
 {Wv:Nat->Nat->List V->St->Hp->Prop}{m0:Nat}(w0:Wv 0 m0 [] σ H)
 (turn:∀i m acc σc H,Wv i m acc σc H->(J.stop i H/\Q (.ref D) H)\/(J.go i H/\∀x H',J.yld i H x H'->g x σc H' fun σ2 H2=>tt σ2 H2 fun b H3 =>
  if b=true then Ff wj g2 tt2 te D acc σ2 H3 fun acc' σ5 H5=>∃m',m'<m/\Wv (i+1) m' acc' σ5 H5 else ∃m',m'<m/\Wv (i+1) m' acc σ2 H3)) :
 KZ (Jb Y.prog Y.w) Y.A (.compStart (Gn elt t1 i1 f1 t2 i2 f2 scope pos) 0 (.ref it) (.ref D) Y.env) (fun r s5=>r = .ok .next/\∃σ5 H4,Inv Y [] σ5 H4 s5/\Q (.ref D) H4) s:=by
 have loop:KZ (Jb Y.prog Y.w) Y.A (.compLoop (Gn elt t1 i1 f1 t2 i2 f2 scope pos) 0 (.ref it) (.ref D) Y.env) (fun r s5=>r = .ok .next/\∃σ5 H4,Inv Y [] σ5 H4 s5/\Q (.ref D) H4) s:=by
  refine wf (fun n s'=>∃i acc σ' H',Inv Y [] σ' H' s'/\tn i s'.heap/\(∀b∈fp,H' b=none)/\Wv i n acc σ' H') hs ?_ m0 ⟨0,[],_,_,I,st0,fp0,w0⟩
  rintro n s4 ⟨i,acc,σ4,H4,I4,st4,fr4,w4⟩
  rcases turn i n acc σ4 H4 w4 with⟨stop,qn⟩|⟨go,step⟩
  · exact E7 (T.done Y rfl rfl rfl hc i [] s4 σ4 H4 (fun _ _=>False) I4 (stat fr4) st4 stop) fun r s5 ⟨hr,I5⟩=>.inl ⟨hr,rfl,σ4,H4,I5,qn⟩
  · refine E7 (T.item Y rfl rfl rfl hc i [] s4 σ4 H4 (fun _ _=>False) I4 (stat fr4) st4 go) fun r s5 ⟨u,hr,h5⟩=>.inr ⟨u,hr,?_⟩
    refine E7 h5 fun _ s6 ⟨x,H6,I6,r6,y6,st6,fr6⟩=>?_
    have I6':=I6.pinned (stat fr6) (T.obj _ _ st6)
    have NV:∀{σ7:St}{H7:Hp}{s7:IB},Inv Y ([]++eI fp s6.heap) σ7 H7 s7->∀{acc':List V}{m':Nat},m'<n->Wv (i+1) m' acc' σ7 H7 ->
     ∃m,m<n/\∃i acc σ' H',Inv Y [] σ' H' s7/\tn i s7.heap/\(∀b∈fp,H' b=none)/\Wv i m acc σ' H':=fun{σ7 H7 s7} I7 {acc' m'} hm w7=>by
     refine⟨m',hm,i+1,acc',σ7,H7,I7.unpinned,T.keep _ _ _ st6 fun b hb o e=>(I7.pin (b,o) (IS _ (IS _ (bu hb e)))).1,fun b hb=>?_,w7⟩
     obtain⟨o,e,d⟩:=T.obj _ _ st6 b hb
     exact(I7.pin (b,o) (IS _ (IS _ (bu hb e)))).2.1
    have h7:=hg _ s6 σ4 H6 x u _ I6' r6 (step x H6 y6)
    rw[hx]at h7
    refine E7 h7 fun _ s7 ⟨σ7,H7,I7,q7⟩=>?_
    have h8:=ht _ s7 σ7 H7 _ I7 q7
    rw[hx]at h8
    refine E7 h8 fun ok s8 ⟨H8,I8,q8⟩=>?_
    cases ok with
    | false =>
      rw[if_neg Je]at q8 ⊢
      obtain⟨m',hm,w8⟩:=q8
      exact NV I8 hm w8
    | true =>
      rw[if_pos rfl]at q8 ⊢
      exact zH hc hx hj hg2 ht2 he I8 q8 fun acc' σ9 H9 s9 I9 ⟨m',hm,w9⟩=>NV I9 hm w9
 exact NY loop (T.self Y.A 0 _ _ _ st0 loop)
end
section
variable{X:Cx}{elt t1 i1 t2 i2:Expr}{f1 f2:List Expr}{scope:Scope}{pos:Pos}{wi:TI}{wj:CompA->TI}{g g2:CompA->TG}{tt tt2:CompA->TT}{te:CompA->TE}
theorem kM.get{scope scX:Scope}(hsc:kM scope scX=true):scope.kind = .function/\(∀y∈scope.names,y.2 = .cell->scope.names.lookup y.1=some .cell)/\(∀y∈scope.names,y.2 = .local->scope.names.lookup y.1=some .local) /\
 ∀y∈scope.names,y.2 = .free->scX.names.lookup y.1=some .cell\/scX.names.lookup y.1=some .free:=by
 obtain⟨sk,sn⟩:=IF.mp hsc
 have hall:=KA.mp sn
 refine⟨of_decide_eq_true sk,fun y hy hl=>?_,fun y hy hl=>?_,fun y hy hl=>?_⟩
 · rcases I0.mp (IF.mp (IF.mp (hall y hy)).1).1 with z|z
   · exact absurd hl (of_decide_eq_true z)
   · exact of_decide_eq_true z
 · rcases I0.mp (IF.mp (IF.mp (hall y hy)).1).2 with z|z
   · exact absurd hl (of_decide_eq_true z)
   · exact of_decide_eq_true z
 · rcases I0.mp (IF.mp (hall y hy)).2 with z|z
   · exact absurd hl (of_decide_eq_true z)
   · exact(I0.mp z).imp of_decide_eq_true of_decide_eq_true
theorem oO(N':List Str)(fr:List (Option Nat))(hc:X.calm=true)(hi:PI X t1 i1 wi)(hfr:jQ fr N' X.N scope X.env.scope=true)(hsc:kM scope X.env.scope=true)
 (hg:∀y,PG (blk X N' scope y) t1 (g y))(ht:∀y,Hu (blk X N' scope y) f1 (tt y))(hj:∀y,PI (blk X N' scope y) t2 i2 (wj y))(hg2:∀y,PG (blk X N' scope y) t2 (g2 y))(ht2:∀y,Hu (blk X N' scope y) f2 (tt2 y))(he:∀y,PE (blk X N' scope y) elt (te y))
 (hs:∀x,Jd i1 X.env x=pure x:=by intro _;rfl)(hs2:∀y x,Jd i2 (blk X N' scope y).env x=pure x:=by intro _ _;rfl):PE X (Gn elt t1 i1 f1 t2 i2 f2 scope pos) (sY wi fr g tt wj g2 tt2 te):=by
 intro pins s σ H Q I h
 obtain⟨hkind,hcell,hnames,hfree⟩:=kM.get hsc
 obtain⟨frl,frg⟩:=jQ.get hfr
 obtain⟨cl,hclos,cl1,cl2⟩:=cn (env:=X.env) (scope:=scope) fun y hy hl=>I.ok.has y.1 (hfree y hy hl)
 rw[eval_ListComp]
 refine KL (use:=none) rfl hs hclos hkind hnames (E7 (hi pins s σ H _ I h) fun v s1 h1=>E7 h1 fun itv s2 h2=>?_)
 obtain⟨it,fp,tn,J,H2,e,I2,T,st2,f2,q2⟩:=h2
 subst e
 refine Jg ?_
 have hD:H2 s2.heap.objs.size=none:=I2.hok.fresh (ID _)
 have I3:Inv X pins σ (upd H2 s2.heap.objs.size (.lst [])) {s2 with heap:=s2.heap.push {cls:=.type "list", data:=.seq ([]:List Iw).toArray}} :=
  I2.laid (t':=s2.toks) (fun b u e=>Iu _ e) (ID _) ⟨by show 0<=sizeLine;exact Jz _,[],0,.nil,IL _ rfl⟩
 obtain⟨Wv,⟨m0,w0⟩,turn⟩:=q2 _ hD
 have tn3:tn 0 (s2.heap.push {cls:=.type "list", data:=.seq ([]:List Iw).toArray}):=T.keep _ _ _ st2 fun b _ o e=>Iu _ e
 have fpD:∀b∈fp,(upd H2 s2.heap.objs.size (.lst [])) b=none:=fun b hb=>by
  obtain⟨o,e,_⟩:=T.obj _ _ st2 b hb
  rw[ah (Jt (II e))]
  exact(f2 b hb).1
 have fp3:∀b∈fp,b<(s2.heap.push {cls:=.type "list", data:=.seq ([]:List Iw).toArray}).objs.size:=fun b hb=>by
  obtain⟨o,e,_⟩:=T.obj _ _ tn3 b hb
  exact II e
 exact fJ N' fr hc hkind hcell hfree frl frg cl1 cl2 I3 T tn3 fpD fp3 (fun b hb=>(f2 b hb).2)
  (fun s' IY tY stat=>y8 (Y:=blk X N' scope ⟨cl,fp,X.pn++pins,_,_⟩) hc rfl (hg ⟨cl,fp,X.pn++pins,_,_⟩) (ht ⟨cl,fp,X.pn++pins,_,_⟩) (hj ⟨cl,fp,X.pn++pins,_,_⟩) (hg2 ⟨cl,fp,X.pn++pins,_,_⟩) (ht2 ⟨cl,fp,X.pn++pins,_,_⟩) (he ⟨cl,fp,X.pn++pins,_,_⟩) (hs2 ⟨cl,fp,X.pn++pins,_,_⟩) T IY tY fpD stat w0 (turn ⟨cl,fp,X.pn++pins,_,_⟩))
  (Rp:=Po (Jb X.prog X.w) X.A X.xe none (EP X pins σ Q) (.ref s2.heap.objs.size)) fun s5 H4 m hn k _ qn=>⟨m,hn,fun h' hs'=>⟨.ref _,H4,k h' hs',rfl,qn⟩⟩
end
end L2
namespace L2.VL
def qH(ρ0:En)(g:Hf)(ft:TB)(fj:En->(List Im->Prop)->Prop)(g2:Hf)(ft2:TB)(fe:TV):List Im->List Im->(List Im->Prop)->Prop
 | [],acc,Q=>Q acc
 | x::xs,acc,Q=>g x ρ0 fun ρ2=>Le ρ0 ρ2/\ft ρ2 fun b=>if b=true then fj ρ2 fun ys=>kB ρ2 g2 ft2 fe ys acc fun acc'=>qH ρ0 g ft fj g2 ft2 fe xs acc' Q else qH ρ0 g ft fj g2 ft2 fe xs acc Q
def nE(fi:En->(List Im->Prop)->Prop)(fr:List (Option Nat))(g:Hf)(ft:TB)(fj:En->(List Im->Prop)->Prop)(g2:Hf)(ft2:TB)(fe:TV):TV:=fun ρ Q=>fi ρ fun xs=>qH (dB fr ρ) g ft fj g2 ft2 fe xs [] fun ds=>Q (.ml ds)
section
variable{X:Cx}{rl:RlT}{elt t1 i1 t2 i2:Expr}{f1 f2:List Expr}{scope:Scope}{pos:Pos}{fi fj:En->(List Im->Prop)->Prop}{g g2:Hf}{ft ft2:TB}{fe:TV}
theorem rH{N':List Str}{wi:TI}(fr:List (Option Nat))(k0:∀{F₀ H₀ F H:Hp}{σ:St}{ρ:En},VR X.K rl F₀ H₀ F H σ ρ->∀(Qd:List Im->Prop)(R:It->Hp->Prop),fi ρ Qd ->
 (∀J xs F' H',Grow rl F H F' H'->VIt X.K rl F' J xs->Qd xs->R J H')->wi σ H R)
 (hg:∀y,HD (blk X N' scope y) rl t1 g)(ht:∀y,qx (blk X N' scope y) rl f1 ft)(hj:∀y,HA (blk X N' scope y) rl t2 i2 fj)(hg2:∀y,HD (blk X N' scope y) rl t2 g2)(ht2:∀y,qx (blk X N' scope y) rl f2 ft2)(he:∀y,PV (blk X N' scope y) rl elt fe)
 (R:VR X.K rl F₀ H₀ F H σ ρ)(Qd:W->Prop)(Q:VK)(q:nE fi fr g ft fj g2 ft2 fe ρ Qd)
 (k:∀v w F' H',Grow rl F H F' H'->cC X.K rl F' H' v w->cZ H v w->Qd w->Q v H') :
 sY wi fr (fun y=>Ja (hg y)) (fun y=>Ja (ht y)) (fun y=>Ja (hj y)) (fun y=>Ja (hg2 y)) (fun y=>Ja (ht2 y)) (fun y=>Ja (he y)) σ H Q:=by
 refine k0 R _ _ q fun J xs F1 H1 g1 vi q1=>?_
 intro D hD
 have rD:rl.a≠some D:=fun e=>by obtain⟨o,z⟩:=g1.reel.live e;rw[hD]at z;cases z
 have FD:F1 D=none:=g1.sub.free hD
 have gD:Grow rl F1 H1 F1 (upd H1 D (.lst [])):=Grow.laid g1.sub g1.reel hD
 have R1:=R.grow g1
 have n0:mN (dB fr ρ):=de
 have keepD:∀{acc:List V}{Fc Hc Fx Hx:Hp},Hc D=some (.lst acc)->Fc D=none->Grow rl Fc Hc Fx Hx->Hx D=some (.lst acc)/\Fx D=none:=fun hDc fDc gx=>⟨gx.same D _ hDc rD,by rw[gx.old D _ hDc];exact fDc⟩
 refine⟨fun i m acc σc Hc=>m=xs.length-i/\i<=xs.length/\∃Fc ds,VR X.K rl F1 H1 Fc Hc σc (dB fr ρ)/\Hc D=some (.lst acc)/\Fc D=none/\Reps X.K Fc acc ds/\qH (dB fr ρ) g ft fj g2 ft2 fe (xs.drop i) ds (fun ds=>Qd (.ml ds)),
  ⟨xs.length,by simp,Jz _,F1,[],eM R1 gD,ak,FD,.nil,by simpa using q1⟩,?_⟩
 rintro z i m acc σc Hc ⟨rfl,hi,Fc,ds,Rc,hDc,fDc,rs,q2⟩
 have sH:bm F1 Hc:=Rc.g.fs.trans Rc.sub
 by_cases hlt:i<xs.length
 · have ei:xs[i]?=some xs[i]:=by simp[hlt]
   have ed:xs.drop i=xs[i]::xs.drop (i+1):=J1 hlt
   rw[ed]at q2
   refine .inr ⟨vi.go i Hc _ ei sH,fun v H' y=>?_⟩
   obtain⟨Fy,gy,rv⟩:=vi.yld i Hc v H' _ Fc ei Rc.g.fs Rc.sub Rc.reel y
   refine(Iq (hg z)).2 (Rc.grow gy) v _ _ _ rv q2 fun F3 H3 σ3 ρ3 g3 n3 R3 ⟨le3,q3⟩=>?_
   refine(Iq (ht z)).2 R3 _ _ q3 fun b F4 H4 g4 q4=>?_
   have R4:=R3.grow g4
   have g34:=(gy.trans g3).trans g4
   have nm3:mN ρ3:=n3 n0
   cases b with
   | false=>exact⟨xs.length-(i+1),by omega,rfl,hlt,F4,ds,R4.le le3,(keepD hDc fDc g34).1,(keepD hDc fDc g34).2,rs.mono g34.fs,q4⟩
   | true =>
     refine(Iq (hj z)).2 R4 _ _ q4 fun J2 ys F5 H5 g5 vi2 q5=>?_
     have g35:=g34.trans g5
     refine⟨fun j m acc σe He=>m=ys.length-j/\j<=ys.length/\∃Fe es,VR X.K rl F1 H1 Fe He σe ρ3/\bm F5 Fe/\He D=some (.lst acc)/\Fe D=none/\Reps X.K Fe acc es /\
      kB ρ3 g2 ft2 fe (ys.drop j) es (fun es=>qH (dB fr ρ) g ft fj g2 ft2 fe (xs.drop (i+1)) es (fun ds=>Qd (.ml ds))),
      ⟨ys.length,by simp,Jz _,F5,ds,R4.grow g5,.refl _,(keepD hDc fDc g35).1,(keepD hDc fDc g35).2,rs.mono g35.fs,by simpa using q5⟩,?_⟩
     rintro j m acc2 σe He ⟨rfl,hj',Fe,es,Re,s5,hDe,fDe,res,q6⟩
     have sHe:bm F5 He:=s5.trans Re.sub
     by_cases hlt2:j<ys.length
     · have ej:ys[j]?=some ys[j]:=by simp[hlt2]
       have edj:ys.drop j=ys[j]::ys.drop (j+1):=J1 hlt2
       rw[edj]at q6
       refine .inr ⟨vi2.go j He _ ej sHe,fun v2 H2' y2=>?_⟩
       obtain⟨Fy2,gy2,rv2⟩:=vi2.yld j He v2 H2' _ Fe ej s5 Re.sub Re.reel y2
       refine(Iq (hg2 z)).2 (Re.grow gy2) v2 _ _ _ rv2 q6 fun F7 H7 σ7 ρ7 g7 n7 R7 ⟨le7,q7⟩=>?_
       refine(Iq (ht2 z)).2 R7 _ _ q7 fun b2 F8 H8 g8 q8=>?_
       have R8:=R7.grow g8
       have g78:=(gy2.trans g7).trans g8
       cases b2 with
       | false=>exact⟨ys.length-(j+1),by omega,rfl,hlt2,F8,es,R8.le le7,s5.trans g78.fs,(keepD hDe fDe g78).1,(keepD hDe fDe g78).2,res.mono g78.fs,q8⟩
       | true =>
         refine(Iq (he z)).2 R8 _ _ q8 fun v9 w9 F9 H9 g9 r9 n9 ⟨d,ed9,hl,q9⟩=>?_
         obtain⟨F10,g10,s10,r10⟩:=cC.fz g9 r9 n9
         rw[ed9]at r10
         have g710:=g78.trans g10
         refine⟨(keepD hDe fDe g710).1,by rw[res.length];exact hl,ys.length-(j+1),by omega,rfl,hlt2,F10,es++[d],((R8.grow g10).le le7).other nm3 hD (keepD hDe fDe g710).2 rD,s5.trans g710.fs,ak,(keepD hDe fDe g710).2,(res.mono g710.fs).snoc r10,q9⟩
     · have e:j=ys.length:=by omega
       subst e
       rw[KN]at q6
       exact .inl ⟨vi2.stop _ He (ID _) sHe,xs.length-(i+1),by omega,rfl,hlt,Fe,es,Re.le le3,hDe,fDe,res,q6⟩
 · have e:i=xs.length:=by omega
   subst e
   rw[KN]at q2
   refine .inl ⟨vi.stop _ Hc (ID _) sH,k _ (.ml ds) Fc Hc (g1.trans Rc.g) ⟨D,acc,rfl,fDc,rD,hDc,rs⟩ (fun a ea=>by cases ea;exact g1.freeB hD) q2⟩
theorem qD(N':List Str)(fr:List (Option Nat))(hc:X.calm=true)(hi:HA X rl t1 i1 fi)
 (hg:∀y,HD (blk X N' scope y) rl t1 g)(ht:∀y,qx (blk X N' scope y) rl f1 ft)(hj:∀y,HA (blk X N' scope y) rl t2 i2 fj)(hg2:∀y,HD (blk X N' scope y) rl t2 g2)(ht2:∀y,qx (blk X N' scope y) rl f2 ft2)(he:∀y,PV (blk X N' scope y) rl elt fe)
 (hfr:jQ fr N' X.N scope X.env.scope=true:=by rfl)(hsc:kM scope X.env.scope=true:=by rfl)
 (hs:∀x,Jd i1 X.env x=pure x:=by intro _;rfl)(hs2:∀y x,Jd i2 (blk X N' scope y).env x=pure x:=by intro _ _;rfl):PV X rl (.ListComp elt [⟨t1,i1,f1,0⟩,⟨t2,i2,f2,0⟩] scope pos) (nE fi fr g ft fj g2 ft2 fe):=by
 obtain⟨wi,p0,k0⟩:=hi
 exact⟨_,oO N' fr hc p0 hfr hsc (fun y=>(Iq (hg y)).1) (fun y=>(Iq (ht y)).1) (fun y=>(Iq (hj y)).1) (fun y=>(Iq (hg2 y)).1) (fun y=>(Iq (ht2 y)).1) (fun y=>(Iq (he y)).1) hs hs2,
  fun R Qd Q q k=>rH fr k0 hg ht hj hg2 ht2 he R Qd Q q k⟩
end
def tT(ρ0:En)(g:Hf)(ft:TB)(fj:En->(List Im->Prop)->Prop)(g2:Hf)(ft2:TB)(fe:TV)(x:Im)(acc:List Im):Mo (List Im) :=
 GW (g x ρ0) fun ρ2=>GC (Le ρ0 ρ2) (GW (ft ρ2) fun b=>if b=true then GW (fj ρ2) fun ys=>bJ (Gq ρ2 g2 ft2 fe) ys acc else ret acc)
def dX(b:Im->List Im->Mo (List Im)):List Im->List Im->Mo (List Im)
 | [],acc=>ret acc
 | x::xs,acc=>GW (b x acc) (dX b xs)
theorem lD(ρ0:En)(g:Hf)(ft:TB)(fj:En->(List Im->Prop)->Prop)(g2:Hf)(ft2:TB)(fe:TV):∀(xs acc:List Im),qH ρ0 g ft fj g2 ft2 fe xs acc=dX (tT ρ0 g ft fj g2 ft2 fe) xs acc
 | [],acc=>rfl
 | x::xs,acc=>by
   refine af fun Q=>?_
   show(g x ρ0 fun ρ2=>Le ρ0 ρ2/\ft ρ2 fun b=>if b=true then fj ρ2 fun ys=>kB ρ2 g2 ft2 fe ys acc fun acc'=>qH ρ0 g ft fj g2 ft2 fe xs acc' Q else qH ρ0 g ft fj g2 ft2 fe xs acc Q)↔(GW (tT ρ0 g ft fj g2 ft2 fe x acc) (dX (tT ρ0 g ft fj g2 ft2 fe) xs)) Q
   simp only[lD ρ0 g ft fj g2 ft2 fe xs,ib]
   have:∀(ρ2:En)(b:Bool),(if b=true then fj ρ2 fun ys=>bJ (Gq ρ2 g2 ft2 fe) ys acc fun acc'=>dX (tT ρ0 g ft fj g2 ft2 fe) xs acc' Q else dX (tT ρ0 g ft fj g2 ft2 fe) xs acc Q)
    = (GW (if b=true then GW (fj ρ2) fun ys=>bJ (Gq ρ2 g2 ft2 fe) ys acc else ret acc) (dX (tT ρ0 g ft fj g2 ft2 fe) xs)) Q:=by
    intro ρ2 b
    cases b<;>rfl
   simp only[this]
   exact Mv
theorem m_comp2(fi:En->(List Im->Prop)->Prop)(fr:List (Option Nat))(g:Hf)(ft:TB)(fj:En->(List Im->Prop)->Prop)(g2:Hf)(ft2:TB)(fe:TV)(ρ:En) :
 nE fi fr g ft fj g2 ft2 fe ρ=GW (fi ρ) fun xs=>GW (dX (tT (dB fr ρ) g ft fj g2 ft2 fe) xs []) fun ds=>ret (.ml ds):=by
 refine af fun Q=>?_
 show(fi ρ fun xs=>qH (dB fr ρ) g ft fj g2 ft2 fe xs [] fun ds=>Q (.ml ds))↔_
 simp only[lD]
 exact Mv
section
variable{α β:Type}{b:Im->Mo (Option Im)}
theorem jW{c:Im->List Im->Mo (List Im)}{xs:List α}{enc:α->Im}(F:α->List Im)(h:∀x∈xs,∀acc:List Im,acc.length+(F x).length<=sizeLine->c (enc x) acc=ret (acc++F x)) :
 ∀acc:List Im,acc.length+(xs.flatMap F).length<=sizeLine->dX c (xs.map enc) acc=ret (acc++xs.flatMap F):=by
 induction xs with
 | nil=>intro acc _;show ret acc=_;simp
 | cons x xs ih =>
   intro acc hl
   rw[KQ,Jx]at hl
   show GW (c (enc x) acc) _=_
   rw[h x Iz acc (by omega),bnd_ret,ih (fun y my=>h y (Ir _ my)) (acc++F x) (by rw[Jx];omega),KQ,LS]
theorem B7{γ:Type}{c:Im->List Im->Mo (List Im)}{k:List Im->Mo γ}{Q:γ->Prop}{xs:List α}{enc:α->Im}(F:α->List Im)(hx:xs'=xs.map enc)
 (h:∀x∈xs,∀acc:List Im,acc.length+(F x).length<=sizeLine->c (enc x) acc=ret (acc++F x))(hl:(xs.flatMap F).length<=sizeLine)(fin:k (xs.flatMap F) Q):GW (dX c xs' []) k Q:=by
 subst hx
 rw[jW F h [] (by simpa using hl),bnd_ret]
 simpa using fin
end
def Il:=Ip @m_comp2 (@bnd_ret)
section
variable{X:Cx}{rl:RlT}{a b c o e:Expr}{es:List Expr}{fa fb:TV}{fs:G_}{pos p apos cpos:Pos}{ρ:En}
end
end L2.VL
namespace L2
theorem cJ:On (.type "tuple") (dunderI "add")=pure none:=by
 have e:dunderI "add" = "__iadd__" := by decide
 rw[e,Ml,K_];kernel_rfl
section
variable{prog:IZ}{w:JN}{A:J4}{E:Iw->IB->Prop}{s:IB}
theorem cN{T id:String}{B:Builtin}{a b:Iw}{S:PySem.Spec}(ha:s.TypeIs a T)(hb:s.TypeIs b T)(hno:On (.type T) (dunderI "add")=pure none)
 (hfill:fillsNumberSlot (.type T) "add" = pure false)(hseq:seqSlot? (.type T) "__add__" = pure (some (.builtin id)))(slot:Slot T "__add__" id)
 (entry:entryFor table id=some B)(args:argsOk id ⟨[a,b],[]⟩)(g:Meets (B ⟨[a,b],[]⟩) S)(h:S A (wants Q E) s):IT (Jb prog w) A (Pq .Add a b) Q E s :=
 wpAny_inplaceOp_concat ha hb hno hfill hseq (Mt slot ha entry args g h)
theorem rN{t b:Addr}{vs ws:List Iw}(ht:N2 s.heap t vs.toArray)(hb:N2 s.heap b ws.toArray)(hv:vs≠[])
 (h1:ws=[]->Q (.ref t) s)(h2:ws≠[]->Q (.ref s.heap.objs.size) {s with heap:=s.heap.push {cls:=.type "tuple", data:=.seq (vs++ws).toArray}})
 (hsz:vs.length+ws.length<=sizeLine):IT (Jb prog w) A (Pq .Add (.ref t) (.ref b)) Q E s:=by
 obtain⟨⟨cls,dd,data,sl⟩,ho,hc,n,hd⟩:=id ht
 obtain⟨⟨cls2,dd2,data2,sl2⟩,ho2,hc2,n2,hd2⟩:=id hb
 simp only at hc hd hc2 hd2
 subst hc hd hc2 hd2
 have e:vs.toArray++ws.toArray=(vs++ws).toArray:=by simp
 by_cases hw:ws=[]
 · exact cN ⟨_,ho,rfl⟩ ⟨_,ho2,rfl⟩ cJ Lw Mc KB Kz (Kv _ _)
     (tuple_addW1 t b vs.toArray ws.toArray n n2 dd dd2 sl sl2 (by simpa using hv) (by simp[hw])) ⟨ho,ho2,h1 hw⟩
 · refine cN ⟨_,ho,rfl⟩ ⟨_,ho2,rfl⟩ cJ Lw Mc KB Kz (Kv _ _)
     (tuple_addW2 t b vs.toArray ws.toArray n n2 dd dd2 sl sl2 (by simpa using hv) (by simpa using hw) (by rw[IK,IK];exact hsz)) ⟨ho,ho2,?_⟩
   rw[e]
   exact h2 hw
end
section
variable{X:Cx}
theorem wA:Hz X .Add (vh X.K):=by
 intro pins s σ H x y v u Q I rx ry h
 rcases h with h|h
 · obtain⟨a,b,xs,ys,rfl,rfl,ha,hb,hx,hz,q1,q2⟩:=h
   cases rx
   cases ry
   obtain⟨its,r1,p1,_⟩:=I.tuple ha
   obtain⟨its2,r2,p2,_⟩:=I.tuple hb
   refine rN p1 p2 (fun z=>hx (r1.nil_iff.mp z)) (fun z=>⟨.ref a,H,I,rfl,q1 (r2.nil_iff.mp z)⟩) (fun z=>?_) (by rw[<- r1.length,<- r2.length];exact hz)
   refine⟨.ref s.heap.objs.size,_,I.laid (t':=s.toks) (o:=.tup (xs++ys)) (fun b ob q=>Iu _ q) (ID _) ?_,rfl,q2 (fun w=>z (r2.nil_iff.mpr w)) _ (I.hok.fresh (ID _))⟩
   exact⟨by rw[Jx];exact hz,_,r1.append r2,qt.new _ _⟩
 · obtain⟨a,b,ys,rfl,rfl,ha,hb,q⟩:=h
   cases rx
   cases ry
   obtain⟨its,r1,p1,_⟩:=I.tuple ha
   obtain⟨its2,r2,p2,_⟩:=I.tuple hb
   cases r1
   obtain⟨⟨c1,d1,e1,sl1⟩,ho,hc,n,hd⟩:=p1
   obtain⟨⟨c2,d2,e2,sl2⟩,ho2,hc2,n2,hd2⟩:=p2
   cases hc;cases hd;cases hc2;cases hd2
   exact cN ⟨_,ho,rfl⟩ ⟨_,ho2,rfl⟩ cJ Lw Mc KB Kz (Kv _ _)
    (tuple_addW0 a b _ its2.toArray n n2 d1 d2 sl1 sl2 rfl) ⟨ho,ho2,⟨.ref b,H,I,rfl,q⟩⟩
end
end L2
namespace L2.VL
section
variable{X:Cx}{rl:RlT}{e:Expr}{fa:TV}{pos:Pos}{ρ:En}
def uN(i:Nat)(fa:TV):Ha:=fun D ρ=>∃xs,ρ[i]?=some (some (.d (.tuple xs)))/\fa ρ fun w=>∃ys,w = .d (.tuple ys)/\xs.length+ys.length<=sizeLine/\D.nx (ρ.set i (some (.d (.tuple (xs++ys)))))
theorem uv(i:Nat){x:Str}(hN:X.N.Nodup)(he:PV X rl e fa)(hi:X.N[i]?=some x:=by rfl)(hx:Loc X.env.scope x:=by first|exact J8 rfl|exact Jw rfl)
 (hf:X.fn x=true\/X.env.scope.names.lookup x=some .local:=by first|exact .inl rfl|exact .inr rfl):Hw X rl (.AugAssign (.Name x pos') .Add e pos) (uN i fa):=by
 obtain⟨t,p,k⟩:=he
 refine⟨_,tF hN hi hx p wA hf,fun{F₀ H₀ F H σ ρ} R Dv D ok ⟨xs,e1,q⟩=>?_⟩
 obtain⟨v,s1,r1,_⟩:=R.sl i _ e1
 refine⟨_,s1,k R _ _ q fun v2 w2 F1 H1 g1 r2 n1 ⟨ys,ew,hz,q1⟩=>?_⟩
 subst ew
 have R1:=R.grow g1
 refine mX (wx:=.d (.tuple xs)) (wy:=.d (.tuple ys)) (fun w=>w = .d (.tuple (xs++ys))) _ g1.sub R1.reel (r1.grow g1) r2 ⟨xs,ys,rfl,rfl,hz,rfl⟩ fun v' w' F2 H2 g2 r' n' ew=>?_
 subst ew
 exact ok.nx _ _ _ _ (g1.fs.trans g2.fs) (R1.set g2 r' n' (fun _ z=>by cases z) i) q1
def Fv(ρ:En)(i:Nat):Option (List Im):=((ρ[i]?).join).bind GZ
theorem yu{i:Nat}{n:List Im}:Fv ρ i=some n↔ρ[i]?=some (some (.d (.tuple n))):=by
 unfold Fv
 cases h:ρ[i]? with
 | none=>simp
 | some o=>cases o with
   | none=>simp
   | some w=>simp[gK]
theorem tw(i:Nat):mS (uN i fa) ρ=aL (Fv ρ i) fun n=>GW (fa ρ) fun w=>aL (GZ w) fun m=>GC (n.length+m.length<=sizeLine) (ret (.nx (ρ.set i (some (.d (.tuple (n++m))))))):=by
 refine af fun Q=>?_
 simp only[mS,uN,GW,ai,yu,gK,GC,ret]
end
section
variable{X:Cx}{rl:RlT}{a b e:Expr}{fa fb:TV}{pos:Pos}{ρ:En}
end
end L2.VL
namespace L2
section
variable{X:Cx}
end
end L2
namespace L2.VL
section
variable{X:Cx}{rl:RlT}{a e:Expr}{fs:G_}{pos p:Pos}
end
end L2.VL
namespace L2.ZP
section
variable{prog:IZ}{w:JN}{A:J4}{E:Iw->IB->Prop}{s:IB}{z it a:Addr}{k:Nat}{xs:Array Iw}{x p:Iw}{b:Bool}
abbrev e2(h:Heap)(b:Bool)(a:Addr):Heap:=(y1 h b a).push {cls:=.type "enumerate", data:=.fields #[.none,.bool false,.ref h.objs.size,Mq 0,.none,.none]}
theorem rY(b:Bool)(a:Addr)(o:Obj)(xs:Array Iw)(hr:∀h:Heap,h.get? a=some o->Hm b h a xs) :
 Meets (Builtin.«enumerate.__new__» ⟨[.type "enumerate", .ref a],[]⟩) (fun _ R s=>s.heap.get? a=some o/\R (.ok (.ret (.ref (y1 s.heap b a).objs.size))) {s with heap:=e2 s.heap b a}) :=
 .of_wp fun prog w A R s h=>by
  obtain⟨hp,g,d,tk,os⟩:=s
  obtain⟨l0,h⟩:=h
  have hsub:=sub_enumerate
  have k1:Hm b (Px ⟨hp,g,d,tk,os⟩) a xs:=hr _ l0
  wp_walk using L8 l0
  refine wpAny_stack_any fun st=>IA ?_
  split
  · rename_i c _ _ _ _ _
    cases(c==Iw.type "enumerate")<;>(wp_walk using L8 l0,rL k1;exact⟨_,rfl,h⟩)
  · wp_walk using L8 l0,rL k1
    exact⟨_,rfl,h⟩
theorem Hm.obj(q:Hm b h a xs):∃o,h.get? a=some o/\∀h':Heap,h'.get? a=some o->Hm b h' a xs:=by
 cases b with
 | true=>obtain⟨o,h1,r⟩:=(show h.IsTuple a xs from q);exact⟨o,h1,fun h' e=>⟨o,e,r⟩⟩
 | false=>obtain⟨o,h1,r⟩:=(show h.IsList a xs from q);exact⟨o,h1,fun h' e=>⟨o,e,r⟩⟩
theorem qh(q1:Hm b s.heap a xs)
 (done:∀g,PD g (s.heap.objs.size+1) s.heap.objs.size 0 .none->HX g s.heap.objs.size a xs 0->g.objs.size=s.heap.objs.size+2->(∀c o,s.heap.get? c=some o->g.get? c=some o)->Q (.ref (s.heap.objs.size+1)) {s with heap:=g}) :
 IT (Jb prog w) A (call (.type "enumerate") [.ref a]) Q E s:=by
 obtain⟨o,h1,hr⟩:=q1.obj
 refine Ph F.called_enumerate (by decide) (F.typeCall_enumerate_1 _) (F.newCall_enumerate_1 _) (fun u=>F.args_object_init_2 u _) F.entry_enumerate_new (rY b a o xs hr) ⟨h1,?_⟩
 have n1:(y1 s.heap b a).objs.size=s.heap.objs.size+1:=J_ ..
 have n2:(e2 s.heap b a).objs.size=s.heap.objs.size+2:=by rw[J_,n1]
 have pu:∀{h:Heap}{o u:Obj}{c:Addr},h.get? c=some u->(h.push o).get? c=some u:=fun e=>Iu _ e
 have kp:∀c o,s.heap.get? c=some o->(e2 s.heap b a).get? c=some o:=fun c o e=>pu (pu e)
 have f2:(e2 s.heap b a).get? (y1 s.heap b a).objs.size=some _:=IL _ rfl
 have f1:(e2 s.heap b a).get? s.heap.objs.size=some _:=pu (IL _ rfl)
 show _/\_
 rw[n1]at f2
 rw[n1]
 have mk:HX (e2 s.heap b a) s.heap.objs.size a xs 0:=by
  have e:=hr _ (kp _ _ h1)
  cases b with
  | true=>exact .inr ⟨⟨_,f1,rfl,rfl⟩,e⟩
  | false=>exact .inl ⟨⟨_,f1,rfl,rfl⟩,e⟩
 exact⟨⟨_,f2,rfl⟩,done _ f2 mk n2 kp⟩
theorem wM(oz:PD s.heap z it k p)(s1:HX s.heap it a xs k)(ex:xs[k]?=some x)(ne:z≠it)(nz:a≠z)(ni:a≠it)
 (done:∀g,IsEnumOut g z it ((k:Int)+1) x s.heap.objs.size->HX g it a xs (k+1)->g.get? s.heap.objs.size=some {cls:=.type "tuple", data:=.seq #[.int k s.toks,x]}->g.objs.size=s.heap.objs.size+1 ->
  (∀b o,b≠z->b≠it->s.heap.get? b=some o->g.get? b=some o)->Q (.ref s.heap.objs.size) {s with heap:=g,toks:=s.toks+1}) :
 IT (Jb prog w) A (Builtin.«enumerate.__next__» ⟨[.ref z],[]⟩) (fun r s'=>∃u,r = .done (.ret u)/\Q u s') E s:=by
 show IT _ _ (do let c <- Pw (.ref z) 2;_) _ _ _
 refine Io (Jv oz rfl (x:=.ref it) rfl ?_)
 refine Io (s1.item ni ex fun g1 s1a b1=>?_)
 have z1:PD g1 z it k p:=b1.extBut _ _ ne oz
 show IT _ _ (do let c <- Pw (.ref z) 3;_) _ _ _
 refine Io (Jv z1 rfl (x:=Mq k) rfl ?_)
 show IT _ _ (do let c <- Pw (.ref z) 4;_) _ _ _
 refine Io (Jv z1 rfl (x:=.none) rfl ?_)
 show IT _ _ (do let c <- mkInt k;_) _ _ _
 refine Io (Pz ?_)
 show IT _ _ (do setField (.ref z) 3 (Mq ((k:Int)+1));_) _ _ _
 refine Io (Kb z1 (by simp) fun g2 z2 b2=>?_)
 have z2:PD g2 z it ((k:Int)+1) p:=z2
 show IT _ _ (do setField (.ref z) 4 .none;_) _ _ _
 refine Io (Kb z2 (by simp) fun g3 z3 b3=>?_)
 have z3:PD g3 z it ((k:Int)+1) p:=z3
 have size:g3.objs.size=s.heap.objs.size:=by rw[b3.1,b2.1,b1.1]
 have s3:HX g3 it a xs (k+1):=(s1a.keep (SameBut.keep b2 ne.symm) (SameBut.keep b2 nz)).keep (SameBut.keep b3 ne.symm) (SameBut.keep b3 nz)
 have k3:∀b o,b≠z->b≠it->s.heap.get? b=some o->g3.get? b=some o:=fun b o n1 n2 e=>b3.extBut _ _ n1 (b2.extBut _ _ n1 (b1.extBut _ _ n2 e))
 have zl:z<g3.objs.size:=II z3
 show IT _ _ (do let c <- newTuple [.int k s.toks,x];_) _ _ _
 refine Io (wpAny_newTuple ?_)
 have z4:PD (g3.push {cls:=.type "tuple", data:=.seq #[.int k s.toks,x]}) z it ((k:Int)+1) p:=Iu _ z3
 show IT _ _ (do let c <- JT (.ref z);_) _ _ _
 refine Io ?_
 unfold JT
 refine Io (Jv z4 rfl (x:=Lz) rfl (IA ?_))
 simp only[if_true]
 refine Io (LP (Io (Jv z4 rfl (x:=p) rfl (Io (Kb z4 (by simp) fun g5 z5 b5=>?_)))))
 have z5:PD g5 z it ((k:Int)+1) x:=z5
 show IT _ _ (do Ks (.ref z) (.ref g3.objs.size);_) _ _ _
 refine Io ?_
 unfold Ks
 refine Io (Kb z5 (by simp) fun g6 z6 b6=>?_)
 have z6:IsEnumOut g6 z it ((k:Int)+1) x g3.objs.size:=z6
 refine Kb z6 (by simp) fun g7 z7 b7=>?_
 have z7:IsEnumOut g7 z it ((k:Int)+1) x g3.objs.size:=z7
 have up:∀b o,b≠z->g3.get? b=some o->g7.get? b=some o:=fun b o n e=>b7.extBut _ _ n (b6.extBut _ _ n (b5.extBut _ _ n (Iu _ e)))
 have t7:g7.get? g3.objs.size=some {cls:=.type "tuple", data:=.seq #[.int k s.toks,x]} :=
  b7.extBut _ _ (LC zl) (b6.extBut _ _ (LC zl) (b5.extBut _ _ (LC zl) (IL _ rfl)))
 have l7:g7.objs.size=g3.objs.size+1:=by rw[b7.1,b6.1,b5.1,J_]
 rw[size]at z7 t7 l7
 refine Io (OI (IA ⟨_,rfl,?_⟩))
 show Q (.ref g3.objs.size) _
 rw[size]
 exact done g7 z7 (s3.keep (fun o e=>up _ o ne.symm e) fun o e=>up _ o nz e) t7 l7 fun b o n1 n2 e=>up b o n1 (k3 b o n1 n2 e)
end
end L2.ZP
namespace L2
open PySem PySem.Spec PyProof.Rows L2.ZP
def HU(K:W.Frag)(b:Bool)(a:Addr):It :=
 ⟨fun i H=>∃xs x,Hl b K H a xs/\xs[i]?=some x,
  fun i H v H'=>∃x p,(∀xs,Hl b K H a xs->xs[i]?=some x)/\H p=none/\v = .ref p/\H'=upd H p (.tup [.int i,x]),
  fun i H=>∃xs,Hl b K H a xs/\xs.length<=i⟩
def ES(b:Bool)(z it a:Addr)(i:Nat)(h:Heap):Prop:=(∃p,PD h z it i p)/\HY b h it a i
theorem nI{w:JN}{K:W.Frag}{elts:List Expr}{kt:Nat}{pt:Pos}(b:Bool)(z it a:Addr)(ne:z≠it)(nz:a≠z)(ni:a≠it) :
 Turn P w K (.Tuple elts kt pt) (HU K b a) [z,it] z (ES b z it a) where
 mem:=by simp
 obj:=fun i h ⟨⟨p,h1⟩,h4⟩ c hb=>by
  simp at hb
  rcases hb with rfl|rfl
  · exact⟨_,h1,fun v c=>by cases c⟩
  · exact h4.obj
 keep:=fun i h h' ⟨⟨p,h1⟩,h4⟩ k=>⟨⟨p,k z (by simp) _ h1⟩,h4.keep fun o e=>k it (by simp) o e⟩
 item:=by
  intro X hP hw hK hc i pins s σ H E I hf st hg
  subst hP hw hK
  obtain⟨⟨p,h1⟩,h4⟩:=st
  obtain⟨xs,x,q1,ex⟩:=hg
  obtain⟨its,r1,t1⟩:=I.sqB q1
  obtain⟨u,hu,ru⟩:=r1.get ex
  have ty:s.TypeIs (.ref z) "enumerate" := ⟨_,h1,rfl⟩
  unfold MP
  refine Io (LV (Jk (name:=Str.ofString "__next__") ty F.slot_enumerate_next (J7 F.slot_enumerate_next ty F.entry_enumerate_next
   (wM h1 (h4.it1 t1) (by simpa using hu) ne nz ni fun g e1 e3 e5 e6 e7=>IA ?_) (F.args_enumerate_next_1 _))))
  have hz:s.heap.objs.size≠z:=LC (II h1)
  refine⟨.ref s.heap.objs.size,rfl,wpAny_letOwnedTupleGo_enum e1 fun g' f1 fb=>?_⟩
  have hp:H s.heap.objs.size=none:=I.hok.fresh (ID _)
  have I1:Inv X pins σ (upd H s.heap.objs.size (.tup [.int i,x])) {s with heap:=s.heap.push {cls:=.type "tuple", data:=.seq [.int i s.toks,u].toArray},toks:=s.toks+1} :=
   I.laid (t':=s.toks+1) (o:=.tup [.int i,x]) (fun b ob e=>Iu _ e) (ID _) ⟨(by show 2<=sizeLine;decide),[.int i s.toks,u],.cons ⟨_,rfl⟩ (.cons ru .nil),qt.new _ _⟩
  have ne':∀b∈[z,it],b≠s.heap.objs.size:=fun b hb e=>by
   simp at hb
   rcases hb with rfl|rfl
   · exact hz e.symm
   · obtain⟨o,ho,_⟩:=h4.obj
     exact absurd (II ho) (by rw[e];exact JL _)
  have kg:∀b o,b∉[z,it]->(s.heap.push {cls:=.type "tuple", data:=.seq [.int i s.toks,u].toArray}).get? b=some o->g'.get? b=some o:=fun b o hb e=>by
   simp at hb
   obtain⟨n1,n2⟩:=hb
   refine fb.extBut _ _ n1 ?_
   by_cases hbn:b=s.heap.objs.size
   · subst hbn
     rw[IL _ rfl]at e
     cases e
     exact e5
   · exact e7 b o n1 n2 (by rw[Heap.get?_push_ne _ _ _ hbn]at e;exact e)
  have fp1:∀b∈[z,it],ji X pins (upd H s.heap.objs.size (.tup [.int i,x])) b:=fun b hb=>by
   obtain⟨f0,fr⟩:=hf b hb
   exact⟨by rw[ah (ne' b hb)];exact f0,fr⟩
  have I2:Inv X pins σ (upd H s.heap.objs.size (.tup [.int i,x])) {s with heap:=g',toks:=s.toks+1}:=I1.turnedL (t':=s.toks+1) kg fp1
  have k8:∀b o,b≠z->g.get? b=some o->g'.get? b=some o:=fun b o n e=>fb.extBut _ _ n e
  have t1':Hm b g a its.toArray:=Hm.of t1 fun o e=>e7 _ o nz ni e
  refine⟨.ref s.heap.objs.size,_,I2,rfl,⟨x,_,fun xs' q'=>by rw[I.sqB_inj q' q1];exact ex,hp,rfl,rfl⟩,⟨⟨_,by simpa using f1⟩,(HX.ir e3 h4 t1').keep fun o e=>k8 _ o ne.symm e⟩,fun b hb=>(fp1 b hb).1⟩
 done:=by
  intro X hP hw hK hc i pins s σ H E I hf st hg
  subst hP hw hK
  obtain⟨⟨p,h1⟩,h4⟩:=st
  obtain⟨xs,q1,ex⟩:=hg
  obtain⟨its,r1,t1⟩:=I.sqB q1
  have l1:=r1.length
  have ty:s.TypeIs (.ref z) "enumerate" := ⟨_,h1,rfl⟩
  unfold MP
  refine Io (LV (Jk (name:=Str.ofString "__next__") ty F.slot_enumerate_next (J7 F.slot_enumerate_next ty F.entry_enumerate_next ?_ (F.args_enumerate_next_1 _))))
  show IT _ _ (do let c <- Pw (.ref z) 2;_) _ _ _
  refine Io (Jv h1 rfl (x:=.ref it) rfl ?_)
  refine Io ((h4.it1 t1).fin (I.ok.hd hc) (by simp;omega) fun g e kg ⟨o,ho,hoc⟩=>?_)
  refine Io (ME (T := "StopIteration") (b:=true) ⟨o,ho,hoc⟩ Ox (IA ⟨rfl,?_⟩))
  exact I.turnedL (t':=s.toks) (fun b o hb e=>by simp at hb;exact kg b o hb.2 e) hf
 self:=fun _ _ _ _ _ st h=>by
  obtain⟨⟨p,h1⟩,_⟩:=st
  exact wpAny_pyIter_enum h1 h
section
variable{X:Cx}{e1:Expr}{ta:TA}{elts:List Expr}{kt:Nat}{pt p pos:Pos}
def Ea(K:W.Frag)(b:Bool)(t:TA):TI:=fun σ H R=>t σ H fun vs H1=>∃a xs,vs=[.ref a]/\Hl b K H1 a xs/\R (HU K b a) H1
theorem vJ(b:Bool)(hg:Gl X "enumerate")(hm:X.mg "enumerate" = none)(ha:PA X [e1] ta)(hs:IC [e1] X.env=(false,eval e1 X.env)::IC [] X.env:=by rfl)(hpl:(Kh pos (IC [] X.env)).any (·.1)=false:=by rfl) :
 PI X (.Tuple elts kt pt) (.Call (.Name "enumerate" p) [e1] [] pos) (Ea X.K b ta):=by
 intro pins s σ H R I h
 refine Call_ (dn I hg hm (by rfl) (JE (E7 (ha pos pins s σ H _ I h) fun us s1 ⟨vs,H1,I1,r1,q1⟩=>?_) hs hpl) (by decide) (by decide))
 obtain⟨a,xs,ev,q1,q⟩:=q1
 subst ev
 cases r1 with
 | cons r rr =>
   cases rr
   cases r
   obtain⟨its,v1,t1⟩:=I1.sqB q1
   refine qh t1 fun g f1 f4 f6 kp=>wpAny_pyIter_enum f1 ?_
   have l1:a<s1.heap.objs.size:=by
    obtain⟨o,ho,_⟩:=t1.obj
    exact II ho
   have I2:Inv X pins σ H1 {s1 with heap:=g}:=I1.kept (t':=s1.toks) kp
   have ir:HY b g s1.heap.objs.size a 0:=by
    have r':=Hm.of t1 fun o e=>kp _ o e
    cases b with
    | true =>
      rcases f4 with⟨_,⟨o,e,c,_⟩⟩|⟨q,_⟩
      · obtain⟨o',e',c',_⟩:=(show g.IsTuple a _ from r')
        rw[e]at e';cases e';rw[c]at c';injection c' with z;exact absurd z (by decide)
      · exact q
    | false =>
      rcases f4 with⟨q,_⟩|⟨_,⟨o,e,c,_⟩⟩
      · exact q
      · obtain⟨o',e',c',_⟩:=(show g.IsList a _ from r')
        rw[e]at e';cases e';rw[c]at c';injection c' with z;exact absurd z (by decide)
   refine⟨_,[s1.heap.objs.size+1,s1.heap.objs.size],_,_,H1,rfl,I2,nI b _ _ a (by simp) (Jt (Nat.lt_succ_of_lt l1)) (Jt l1),⟨⟨_,f1⟩,ir⟩,fun b hb=>?_,q⟩
   have hb':s1.heap.objs.size<=b:=by
    simp at hb
    rcases hb with rfl|rfl
    · exact L1 _ 1
    · exact ID _
   exact I1.fpOk hb' (I1.hok.fresh hb')
end
end L2
namespace L2.VL
section
variable{X:Cx}{rl:RlT}{a:Expr}{elts:List Expr}{kt:Nat}{pt p pos:Pos}{fs:G_}
def fE(xs:List Im):List Im:=xs.zipIdx.map fun z=>.tuple [.int (z.2:Nat),z.1]
theorem iY{i:Nat}(h:(fE xs)[i]?=some d):∃x,xs[i]?=some x/\d = .tuple [.int (i:Nat),x]:=by
 unfold fE at h
 rw[Jj,List.getElem?_zipIdx]at h
 cases ex:xs[i]? with
 | none=>rw[ex]at h;cases h
 | some x=>rw[ex]at h;simp at h;exact⟨x,rfl,h.symm⟩
def Gz(b:Bool)(fs:G_):En->(List Im->Prop)->Prop:=fun ρ Q=>fs ρ fun ws=>∃dx xs,ws=[.d dx]/\eE dx=some xs/\dR dx=b/\Q (fE xs)
theorem uB(b:Bool)(hm:X.mg "enumerate" = none)(ha:Hs X rl [a] fs)(hg:Gl X "enumerate" := by rfl)(hs:IC [a] X.env=(false,eval a X.env)::IC [] X.env:=by rfl)(hpl:(Kh pos (IC [] X.env)).any (·.1)=false:=by rfl) :
 HA X rl (.Tuple elts kt pt) (.Call (.Name "enumerate" p) [a] [] pos) (Gz b fs):=by
 obtain⟨t,p1,k⟩:=ha
 refine⟨_,vJ b hg hm p1 hs hpl,fun R Qd Q q h=>k R _ _ q fun vs ws F1 H1 g1 r1 ⟨dx,xs,ew,e1,kb1,q1⟩=>?_⟩
 subst ew kb1
 obtain⟨v,rfl,rv⟩:=mP r1
 obtain⟨a1,vs,rfl,rs,sq1⟩:=ol rv e1
 refine⟨a1,vs,rfl,sq1 _ g1.sub,h _ (fE xs) F1 H1 g1 ⟨fun i H x e s=>?_,fun i H hl s=>?_,fun i H v H' x F2 e s s2 ra y=>?_⟩ q1⟩
 · obtain⟨x1,ex,_⟩:=iY e
   obtain⟨v1,ev1,_⟩:=rs.get ex
   exact⟨vs,v1,sq1 _ s,ev1⟩
 · refine⟨vs,sq1 _ s,?_⟩
   unfold fE at hl
   rw[IE,No]at hl
   rw[rs.length]
   omega
 · obtain⟨x1,ex,ed⟩:=iY e
   obtain⟨vx,pp,hx,hp,ev,eH⟩:=y
   obtain⟨v1,ev1,rv1⟩:=rs.get ex
   have h1:=hx vs (sq1 _ (s.trans s2))
   rw[ev1]at h1
   cases h1
   subst ev eH ed
   have g:=Grow.data (a:=pp) (o:=.tup [.int (i:Nat),vx]) s2 ra hp
   exact⟨_,g,.tup (.inl (.inl ak)) (.cons (.int _) (.cons ((rv1.mono s).mono g.fs) .nil))⟩
theorem dE(hm:X.mg "enumerate" = none)(ha:Hs X rl [a] fs)(hg:Gl X "enumerate" := by rfl)(hs:IC [a] X.env=(false,eval a X.env)::IC [] X.env:=by rfl)(hpl:(Kh pos (IC [] X.env)).any (·.1)=false:=by rfl) :
 HA X rl (.Tuple elts kt pt) (.Call (.Name "enumerate" p) [a] [] pos) (Gz true fs):=uB true hm ha hg hs hpl
end
def AG(ws:List W):Option (List Im):=match ws with
 | [.d (.tuple xs)]=>some (fE xs)
 | _=>none
theorem tO{fs:G_}:Gz true fs ρ=GW (fs ρ) fun ws=>aL (AG ws) ret:=by
 show(GW (fs ρ) fun ws=>fun(Q:List Im->Prop)=>∃dx xs,ws=[.d dx]/\eE dx=some xs/\dR dx=true/\Q (fE xs))=_
 congr 1;funext ws
 refine af fun Q=>?_
 simp only[ai,ret]
 constructor
 · rintro⟨dx,xs,rfl,a,b,q⟩
   cases dx with
   | tuple ys=>cases a;exact⟨_,rfl,q⟩
   | _=>cases b
 · rintro⟨zs,e,q⟩
   unfold AG at e
   split at e
   · cases e;exact⟨_,_,rfl,rfl,rfl,q⟩
   · cases e
theorem iX(xs:List α)(enc:α->Im):fE (xs.map enc)=xs.zipIdx.map fun z=>Ji [.int (z.2:Nat),enc z.1]:=by
 unfold fE
 rw[List.zipIdx_map,Jp]
 rfl
section
variable{α β:Type}{b:Im->Mo (Option Im)}
end
end L2.VL
namespace L2
theorem pI{w:JN}{o:Obj}(ok:HZ P w H h)(e:H a=some (.frz o (.dK us))) :
 us.length<=sizeLine/\(a==LO)=false/\∃vs es ep,KV us vs/\o.data = .dict es ep/\h.DictAt (bC P w) a vs ep:=by
 obtain⟨e1,z,hd,vs,rel,o',es,ep,ho,hx,hdat,r⟩:=ok a _ e
 rw[e1]at ho
 cases ho
 exact⟨z,hd,vs,es,ep,rel,hdat,o,es,e1,hx,hdat,r⟩
theorem zE{w:JN}{k:HJ}{v:Iw}(h:(bC P w).is k v=true):RelV (kV k) v:=by
 have h:jO k v=true:=h
 rcases bf h with⟨i,t,e1,e2⟩|⟨y,t,e1,e2⟩<;>subst e1 e2<;>exact⟨_,rfl⟩
def HW(a:Addr)(o:Obj)(us:List (HJ×V)):It :=
 ⟨fun i H=>i<us.length/\H a=some (.frz o (.dK us)),fun i H x H'=>H'=H/\∃p,us[i]?=some p/\x=kV p.1,fun i H=>us.length<=i/\H a=some (.frz o (.dK us))⟩
theorem BA{vs:List (HJ×Iw)}(r:KV us vs):∀{i:Nat}{p:HJ×V},us[i]?=some p->∃q,vs[i]?=some q/\p.1=q.1:=by
 unfold KV at r
 induction r with
 | nil=>intro i p e;simp at e
 | @cons p q ps qs h t ih =>
   intro i p' e
   cases i with
   | zero=>simp at e;subst e;exact⟨q,rfl,h.1⟩
   | succ j=>obtain⟨q',e1,e2⟩:=ih (i:=j) (p:=p') (by simpa using e);exact⟨q',by simpa using e1,e2⟩
theorem nK{w:JN}{K:W.Frag}(a it:Addr){o:Obj}{es:Array DictEntry}{ep:Nat}(hep:o.data = .dict es ep) :
 Turn P w K tg (HW a o us) [it] it (fun i h=>h.IsKeyIter it a i us.length ep) where
 mem:=by simp
 obj:=fun i h st b hb=>by
  have e:b=it:=by simpa using hb
  subst e
  obtain⟨o,e,c,d⟩:=st
  exact⟨o,e,fun v z=>by rw[d]at z;cases z⟩
 keep:=fun i h h' st k=>by
  obtain⟨o,e,r⟩:=st
  exact⟨o,k it (by simp) o e,r⟩
 item:=by
  intro X hP hw hK hc i pins s σ H E I hf st hg
  subst hP hw hK
  obtain⟨hi,ha⟩:=hg
  obtain⟨z,hd,vs,es',ep',rel,hdat,dd⟩:=pI I.hok ha
  rw[hep]at hdat
  cases hdat
  have hl:us.length=vs.length:=J6 rel
  have eu:us[i]?=some us[i]:=by simp[hi]
  obtain⟨⟨k,v⟩,ev,ek⟩:=BA rel eu
  obtain⟨f0,f1,f2,f3,f4,f5⟩:=hf it (by simp)
  rw[hl]at st
  refine wpAny_pyNext_dict_item st dd ev fun key h' hkey st' sb=>?_
  have I1:Inv X pins σ H {s with heap:=h' }:=I.turned (t':=s.toks) (fun b o hb e=>(sb.2 b hb).trans e) f0 f1 f3 f4 f5
  obtain⟨oi,e,c,d⟩:=id st'
  rw[<- hl]at st'
  exact⟨key,rfl,mG (s:={s with heap:=h' }) e c d (by decide) ⟨kV us[i].1,H,I1,by rw[ek];exact zE hkey,⟨rfl,_,eu,rfl⟩,st',fun b hb=>(hf b hb).1⟩⟩
 done:=by
  intro X hP hw hK hc i pins s σ H E I hf st hg
  subst hP hw hK
  obtain⟨hi,ha⟩:=hg
  obtain⟨z,hd,vs,es',ep',rel,hdat,dd⟩:=pI I.hok ha
  rw[hep]at hdat
  cases hdat
  have hl:us.length=vs.length:=J6 rel
  obtain⟨f0,f1,f2,f3,f4,f5⟩:=hf it (by simp)
  rw[hl]at st
  refine wpAny_pyNext_dict_end (I.ok.hd hc) st dd (by rw[LH];omega) fun h' sb=>⟨rfl,?_⟩
  exact I.turned (t':=s.toks) (fun b o hb e=>sb b o hb e) f0 f1 f3 f4 f5
 self:=fun A i s Q E st h=>by
  refine wpAny_pyIter_slot st.typeIs F.slot_dict_keyiterator_iter (J7 F.slot_dict_keyiterator_iter st.typeIs F.entry_dict_keyiterator_iter ?_ (F.args_dict_keyiterator_iter_1 _))
  show IT _ _ (ret (.ref it)) _ _ s
  exact IA ⟨_,rfl, "dict_keyiterator", _,st.typeIs,F.slot_dict_keyiterator_next.lookup,h⟩
section
variable{X:Cx}{e:Expr}{tg:Expr}{te:TE}
def zJ(t:TE):TI:=fun σ H R=>t σ H fun v H1=>∃a o us,v = .ref a/\H1 a=some (.frz o (.dK us))/\R (HW a o us) H1
theorem vK(he:PE X e te):PI X tg e (zJ te):=by
 intro pins s σ H R I h
 refine E7 (he pins s σ H _ I h) fun v s1 ⟨x,H1,I1,r1,q1⟩=>?_
 obtain⟨a,o,us,ev,ha,q⟩:=q1
 subst ev
 cases r1
 obtain⟨z,hd,vs,es,ep,rel,hdat,dd⟩:=pI I1.hok ha
 have hl:us.length=vs.length:=J6 rel
 refine wpAny_pyIter_dict hd dd ?_
 refine⟨s1.heap.objs.size,[s1.heap.objs.size],_,_,H1,rfl,I1.kept (t':=s1.toks) fun b o e=>Iu _ e,nK a _ hdat,⟨_,IL _ rfl,rfl,by rw[hl];rfl⟩,fun b hb=>?_,q⟩
 have e:b=s1.heap.objs.size:=by simpa using hb
 subst e
 exact I1.fpOk (ID _) (I1.hok.fresh (ID _))
def Bd(i:Nat)(T:TS):TS:=fun D σ H=>T {D with nx:=fun σ' H'=>∃a us,σ'[i]?=some (some (.ref a))/\H' a=some (.dK us)/\∀o,D.nx σ' (upd H' a (.frz o (.dK us)))} σ H
theorem vD{st:Stmt}{T:TS}(i:Nat)(h:PS X st T):PS X st (Bd i T):=fun pins s σ H D I q=>E7 (h pins s σ H _ I q) fun f s' z=>by
 cases f with
 | next =>
   obtain⟨σ',H',I',a,us,e1,e2,k⟩:=z
   obtain⟨z,hd,vs,rel,o,es,ep,ho,r⟩:=I'.hok a _ e2
   refine⟨σ',_,?_,k o⟩
   exact fH (t':=s'.toks) I' (by rw[e2];trivial) (ND _ _) ⟨o,ho⟩ ⟨ho,z,hd,vs,rel,o,es,ep,ho,r⟩
 | brk=>exact z
 | cont=>exact z
 | ret u=>exact z
end
end L2
namespace L2.VL
section
variable{X:Cx}{rl:RlT}{a b e o i':Expr}{es:List Expr}{fa fb:TV}{fs:G_}{pos p px apos cpos:Pos}{ρ:En}{st:Stmt}{t:Ha}
def asFw:W->Option (List (HJ×Im))
 | .fw kvs=>some kvs
 | _=>none
theorem asFw_f(kvs:List (HJ×Im)):asFw (.fw kvs)=some kvs:=rfl
theorem j9{w:W}{kvs:List (HJ×Im)}:asFw w=some kvs↔w = .fw kvs:=by
 constructor
 · intro h;unfold asFw at h;split at h<;>simp_all
 · rintro rfl;rfl
def asDp:W->Option (List (HJ×Im)×Im)
 | .dp kvs x=>some (kvs,x)
 | _=>none
theorem asDp_f(kvs:List (HJ×Im))(x:Im):asDp (.dp kvs x)=some (kvs,x):=rfl
theorem ql{w:W}{z:List (HJ×Im)×Im}:asDp w=some z↔w = .dp z.1 z.2:=by
 constructor
 · intro h;unfold asDp at h;split at h
   · cases h;rfl
   · cases h
 · rintro rfl;rfl
theorem vd{K:W.Frag}(k:HJ):Rep K F (kV k) (qu k):=by cases k<;>constructor
def wD(fa:TV):En->(List Im->Prop)->Prop:=fun ρ Q=>fa ρ fun w=>∃kvs,w = .fw kvs/\Q (kvs.map fun p=>qu p.1)
theorem wr{K:W.Frag}{kvs:List (HJ×Im)}(r:HL K F us kvs){i:Nat}{x:Im}(h:(kvs.map fun p=>qu p.1)[i]?=some x):∃p,us[i]?=some p/\x=qu p.1:=by
 have e:=congrArg (fun l=>(l.map qu)[i]?) r.keys
 simp only[Jp]at e
 rw[show(kvs.map (qu ∘ fun x=>x.1))=kvs.map fun p=>qu p.1 from rfl,h,Jj]at e
 cases q:us[i]? with
 | none=>rw[q]at e;cases e
 | some p=>rw[q]at e;exact⟨p,rfl,(Jh e).symm⟩
theorem mY(ha:PV X rl a fa):HA X rl tg a (wD fa):=by
 obtain⟨t,p1,k⟩:=ha
 refine⟨_,vK p1,fun R Qd Q q h=>k R _ _ q fun v w F1 H1 g1 r1 n1 ⟨kvs,ew,q1⟩=>?_⟩
 subst ew
 obtain⟨x,us,ob,rfl,hx,rk⟩:=r1
 have hl:us.length=kvs.length:=J6 rk
 refine⟨x,ob,us,rfl,g1.sub _ _ hx,h _ (kvs.map fun p=>qu p.1) F1 H1 g1 (VIt.of (fun i H y e s=>⟨?_,s _ _ hx⟩) (fun i H hl' s=>⟨by rw[IE]at hl';omega,s _ _ hx⟩) fun i H v H' y e s z=>?_) q1⟩
 · have:=(IR.mp e).1
   rw[IE]at this
   omega
 · obtain⟨e1,pp,e2,e3⟩:=z
   obtain⟨p',e4,e5⟩:=wr rk e
   rw[e2]at e4
   cases e4
   subst e3 e5
   exact⟨e1,vd _⟩
theorem m_iWalk:wD fa ρ=GW (fa ρ) fun w=>aL (asFw w) fun kvs=>ret (kvs.map fun p=>qu p.1):=by
 refine af fun Q=>?_
 simp only[wD,GW,ai,j9,ret]
def nB(fa fb:TV):TV:=fun ρ Q=>fa ρ fun x=>fb ρ fun y=>∃kvs k d,x = .fw kvs/\jk y=some k/\mO kvs k=some d/\Q (.d d)
theorem jr(hu:X.A.units+1<O1)(ho:PV X rl o fa)(hi:PV X rl i' fb)(hs:ui i':=by intro _ _;rfl):PV X rl (.Subscript o i' pos) (nB fa fb):=by
 obtain⟨t1,p1,k1⟩:=ho
 obtain⟨t2,p2,k2⟩:=hi
 refine⟨_,fy hu p1 p2 hs,fun R Qd Q q h=>k1 R _ _ q fun v w F1 H1 g1 r1 n1 q1=>k2 (R.grow g1) _ _ q1 fun v2 w2 F2 H2 g2 r2 n2 ⟨kvs,k,d,ex,ek,ed,q2⟩=>?_⟩
 subst ex
 obtain⟨x,us,ob,rfl,hx,rk⟩:=r1.grow g2
 have ev:=eP ek r2
 subst ev
 rcases rk.val k with⟨_,z⟩|⟨v3,d3,e1,e2,r3⟩
 · rw[ed]at z;cases z
 · rw[ed]at e2
   cases e2
   refine⟨x,v3,rfl,?_,h v3 (.d d) F2 H2 (g1.trans g2) r3 trivial q2⟩
   rw[<- e1]
   exact .inl ⟨us,k,.inr ⟨ob,g2.sub _ _ hx⟩,rfl,rfl⟩
theorem m_vDGetW:nB fa fb ρ=GW (fa ρ) fun x=>GW (fb ρ) fun y=>aL (asFw x) fun kvs=>aL (jk y) fun k=>aL (mO kvs k) fun d=>ret (.d d):=by
 refine af fun Q=>?_
 simp only[nB,GW,ai,j9,ret]
 constructor
 · intro h;refine cast ?_ h;congr 1;funext x;congr 1;funext y;exact propext ⟨fun⟨a,b,c,d,e,f,g⟩=>⟨a,d,b,e,c,f,g⟩,fun⟨a,d,b,e,c,f,g⟩=>⟨a,b,c,d,e,f,g⟩⟩
 · intro h;refine cast ?_ h;congr 1;funext x;congr 1;funext y;exact propext ⟨fun⟨a,d,b,e,c,f,g⟩=>⟨a,b,c,d,e,f,g⟩,fun⟨a,b,c,d,e,f,g⟩=>⟨a,d,b,e,c,f,g⟩⟩
def uM(fb fa:TV):TV:=fun ρ Q=>fb ρ fun y=>fa ρ fun x=>∃kvs k,x = .fw kvs/\jk y=some k/\Q (.d (.bool (mO kvs k).isSome))
theorem uE(hu:X.A.units+1<O1)(hi:PV X rl i' fb)(ho:PV X rl o fa)(hm:Kx .In o=false:=by rfl):PB X rl (.Compare i' [.In] [o] pos) (nl (uM fb fa)):=by
 obtain⟨t1,p1,k1⟩:=hi
 obtain⟨t2,p2,k2⟩:=ho
 refine⟨_,yL (yX hu p1 p2) hm,fun R Qd Q q h=>k1 R _ _ q fun v w F1 H1 g1 r1 n1 q1=>k2 (R.grow g1) _ _ q1 fun v2 w2 F2 H2 g2 r2 n2 ⟨kvs,k,ex,ek,c,ec,q2⟩=>?_⟩
 subst ex
 cases ec
 obtain⟨x,us,ob,rfl,hx,rk⟩:=r2
 have ev:=eP ek (r1.grow g2)
 subst ev
 refine⟨x,eC us k,rfl,.inl ⟨us,k,.inr ⟨ob,g2.sub _ _ hx⟩,rfl,rfl⟩,(mO kvs k).isSome,?_,h _ F2 H2 (g1.trans g2) q2⟩
 rcases rk.val k with⟨e1,z⟩|⟨v3,d3,e1,e2,r3⟩
 · rw[e1,z];rfl
 · rw[e1,e2];rfl
theorem m_vDInW:uM fb fa ρ=GW (fb ρ) fun y=>GW (fa ρ) fun x=>aL (asFw x) fun kvs=>aL (jk y) fun k=>ret (.d (.bool (mO kvs k).isSome)):=by
 refine af fun Q=>?_
 simp only[uM,GW,ai,j9,ret]
 constructor
 · intro h;refine cast ?_ h;congr 1;funext y;congr 1;funext x;exact propext ⟨fun⟨a,b,c,d,e⟩=>⟨a,c,b,d,e⟩,fun⟨a,c,b,d,e⟩=>⟨a,b,c,d,e⟩⟩
 · intro h;refine cast ?_ h;congr 1;funext y;congr 1;funext x;exact propext ⟨fun⟨a,c,b,d,e⟩=>⟨a,b,c,d,e⟩,fun⟨a,b,c,d,e⟩=>⟨a,c,b,d,e⟩⟩
def nw:TV:=fun _ Q=>Q (.mk [])
theorem qF:PV X rl (.Dict [] [] pos) nw:=by
 refine⟨_,rj,fun R Qd Q q h p hp=>?_⟩
 refine h _ (.mk []) _ _ (Grow.laid R.sub R.reel hp) ⟨p,[],rfl,R.sub.free hp,fun e=>?_,ak,.nil⟩ (fun a ea=>by cases ea;exact hp) q
 obtain⟨o,z⟩:=R.reel.live e
 rw[hp]at z
 cases z
theorem m_vDict0K:nw ρ=ret (.mk []):=nr rfl
theorem VR.ownK{K:W.Frag}{ρ:En}(r:VR K rl F₀ H₀ F H σ ρ){i:Nat}{xs ys:List (HJ×Im)}{a:Addr}(e:ρ[i]?=some (some (.mk xs)))(es:σ[i]?=some (some (.ref a)))(rs:HL K F us ys) :
 VR K rl F₀ H₀ F (upd H a (.dK us)) σ (ρ.set i (some (.mk ys))):=by
 obtain⟨v,h1,h2,h3⟩:=r.sl i _ e
 rw[es]at h1
 cases h1
 obtain⟨a',vs,ev,f,hr,hh,q⟩:=(show mQ K rl F H (.ref a) xs from h2)
 cases ev
 have n0:H₀ a=none:=h3 a rfl
 have hi:i<ρ.length:=(IR.mp e).1
 have neF:∀b u,F b=some u->b≠a:=fun b u q z=>by subst z;rw[f]at q;cases q
 have g:Grow rl F₀ H₀ F (upd H a (.dK us)):=by
  refine⟨fun b o q1 n=>by rw[ah (aH q1 n0)];exact r.g.same b o q1 n,r.g.fs,fun b o q1=>by rw[ah (neF b o q1)];exact r.sub b o q1,r.g.old,fun y z=>?_⟩
  obtain⟨z1,⟨u,h1,h2⟩⟩:=r.reel y z
  exact⟨z1,⟨u,by rw[ah (fun q=>hr (by rw[<- q];exact z))];exact h1,h2⟩⟩
 refine⟨g,fun j w e1=>?_,fun j k ys' zs u hjk e1 e2 w1 w2 s1 s2=>?_,fun j ys' z=>?_,by simp[r.len]⟩
 · by_cases hj:i=j
   · subst hj
     rw[IW hi]at e1
     cases e1
     exact⟨_,es,⟨a,us,rfl,f,hr,ak,rs⟩,h3⟩
   · rw[IM hj]at e1
     obtain⟨u,g1,g2,g3⟩:=r.sl j w e1
     refine⟨u,g1,?_,g3⟩
     have ap:w.own=true->∀b,u = .ref b->b≠a:=fun ow b eb z=>r.ap i j _ _ (.ref a) hj e e1 rfl ow es (by rw[g1,eb,z])
     cases w with
     | ml zs=>obtain⟨b,us',eb,f1,f2,f3,f4⟩:=(show eU K rl F H u zs from g2);exact⟨b,us',eb,f1,f2,by rw[ah (ap rfl b eb)];exact f3,f4⟩
     | md zs=>obtain⟨b,us',eb,f1,f2,f3,f4⟩:=(show uh K rl F H u zs from g2);exact⟨b,us',eb,f1,f2,by rw[ah (ap rfl b eb)];exact f3,f4⟩
     | mk zs=>obtain⟨b,us',eb,f1,f2,f3,f4⟩:=(show mQ K rl F H u zs from g2);exact⟨b,us',eb,f1,f2,by rw[ah (ap rfl b eb)];exact f3,f4⟩
     | pk zs=>exact absurd e1 (r.np j zs)
     | _=>exact g2
 · have nd:∀(j:Nat)(z:W),(ρ.set i (some (W.mk ys)))[j]?=some (some z)->z.own=true->∃z',ρ[j]?=some (some z')/\z'.own=true:=fun j zs z o=>by
     by_cases hj:i=j
     · subst hj
       exact⟨_,e,rfl⟩
     · rw[IM hj]at z
       exact⟨zs,z,o⟩
   obtain⟨_,d1,o1⟩:=nd j _ e1 w1
   obtain⟨_,d2,o2⟩:=nd k _ e2 w2
   exact r.ap j k _ _ u hjk d1 d2 o1 o2 s1 s2
 · rw[JP]at z
   split at z
   · first|cases z|(split at z<;>cases z)
   · exact r.np j ys' z
theorem VR.frzK{K:W.Frag}{ρ:En}(r:VR K rl F₀ H₀ F H σ ρ){i:Nat}{xs:List (HJ×Im)}{a:Addr}{ob:Obj}(e:ρ[i]?=some (some (.mk xs)))(es:σ[i]?=some (some (.ref a)))(hH:H a=some (.dK us))(rs:HL K F us xs) :
 bm F (upd F a (.frz ob (.dK us)))/\VR K rl F₀ H₀ (upd F a (.frz ob (.dK us))) (upd H a (.frz ob (.dK us))) σ (ρ.set i (some (.fw xs))):=by
 obtain⟨v,h1,h2,h3⟩:=r.sl i _ e
 rw[es]at h1
 cases h1
 obtain⟨a',vs,ev,f,hr,hh,q⟩:=(show mQ K rl F H (.ref a) xs from h2)
 cases ev
 have n0:H₀ a=none:=h3 a rfl
 have hi:i<ρ.length:=(IR.mp e).1
 have neF:∀b u,F b=some u->b≠a:=fun b u q z=>by subst z;rw[f]at q;cases q
 have fsm:bm F (upd F a (.frz ob (.dK us))):=fun b u z=>by rw[ah (neF b u z)];exact z
 have g:Grow rl F₀ H₀ (upd F a (.frz ob (.dK us))) (upd H a (.frz ob (.dK us))):=by
  refine⟨fun b o q1 n=>by rw[ah (aH q1 n0)];exact r.g.same b o q1 n,r.g.fs.trans fsm,fun b o q1=>?_,fun b o q1=>by rw[ah (aH q1 n0)];exact r.g.old b o q1,fun y z=>?_⟩
  · by_cases hb:b=a
    · subst hb;rw[ak]at q1 ⊢;exact q1
    · rw[ah hb]at q1 ⊢;exact r.sub b o q1
  · obtain⟨z1,⟨u,h1,h2⟩⟩:=r.reel y z
    have ny:y≠a:=fun q=>hr (by rw[<- q];exact z)
    exact⟨by rw[ah ny];exact z1,⟨u,by rw[ah ny];exact h1,RO.mono fsm h2⟩⟩
 refine⟨fsm,g,fun j w e1=>?_,fun j k ys' zs u hjk e1 e2 w1 w2 s1 s2=>?_,fun j ys' z=>?_,by simp[r.len]⟩
 · by_cases hj:i=j
   · subst hj
     rw[IW hi]at e1
     cases e1
     exact⟨_,es,⟨a,us,ob,rfl,ak,rs.mono fsm⟩,trivial⟩
   · rw[IM hj]at e1
     obtain⟨u,g1,g2,g3⟩:=r.sl j w e1
     refine⟨u,g1,?_,g3⟩
     have ap:w.own=true->∀b,u = .ref b->b≠a:=fun ow b eb z=>r.ap i j _ _ (.ref a) hj e e1 rfl ow es (by rw[g1,eb,z])
     cases w with
     | d x=>exact Rep.mono fsm g2
     | ml zs=>obtain⟨b,us',eb,f1,f2,f3,f4⟩:=(show eU K rl F H u zs from g2);exact⟨b,us',eb,by rw[ah (ap rfl b eb)];exact f1,f2,by rw[ah (ap rfl b eb)];exact f3,f4.mono fsm⟩
     | md zs=>obtain⟨b,us',eb,f1,f2,f3,f4⟩:=(show uh K rl F H u zs from g2);exact⟨b,us',eb,by rw[ah (ap rfl b eb)];exact f1,f2,by rw[ah (ap rfl b eb)];exact f3,Kn.mapP f4 fun _ _ z=>⟨z.1,z.2.mono fsm⟩⟩
     | mk zs=>obtain⟨b,us',eb,f1,f2,f3,f4⟩:=(show mQ K rl F H u zs from g2);exact⟨b,us',eb,by rw[ah (ap rfl b eb)];exact f1,f2,by rw[ah (ap rfl b eb)];exact f3,Kn.mapP f4 fun _ _ z=>⟨z.1,z.2.mono fsm⟩⟩
     | pk zs=>exact absurd e1 (r.np j zs)
     | reel=>exact g2
     | vv u=>exact g2
     | lk=>trivial
     | nt ds=>obtain⟨b,us,eb,f1,f2⟩:=g2;exact⟨b,us,eb,fsm _ _ f1,f2.mono fsm⟩
     | sc ns=>obtain⟨b,eb,f1⟩:=g2;exact⟨b,eb,iJ fsm f1⟩
     | fd kvs=>obtain⟨b,us,eb,f1,f2⟩:=g2;exact⟨b,us,eb,fsm _ _ f1,Kn.mapP f2 fun _ _ z=>⟨z.1,z.2.mono fsm⟩⟩
     | fw kvs=>obtain⟨b,us,o,eb,f1,f2⟩:=g2;exact⟨b,us,o,eb,fsm _ _ f1,Kn.mapP f2 fun _ _ z=>⟨z.1,z.2.mono fsm⟩⟩
     | xc _ _=>obtain⟨b,dx,us,C,eb,n,f1,f3,f2⟩:=g2;exact⟨b,dx,us,C,eb,n,fsm _ _ f1,fsm _ _ f3,Kn.mapP f2 fun _ _ z=>⟨z.1,z.2.mono fsm⟩⟩
     | dp _ _=>obtain⟨c,b,us,u,o,eb,f1,f3,f2,z⟩:=g2;exact⟨c,b,us,u,o,eb,fsm _ _ f1,fsm _ _ f3,Kn.mapP f2 fun _ _ z=>⟨z.1,z.2.mono fsm⟩,z.mono fsm⟩
 · have nd:∀(j:Nat)(y:W),(ρ.set i (some (W.fw xs)))[j]?=some (some y)->y.own=true->ρ[j]?=some (some y):=fun j y z o=>by
     by_cases hj:i=j
     · subst hj
       rw[IW hi]at z
       cases z
       cases o
     · rw[IM hj]at z
       exact z
   exact r.ap j k _ _ u hjk (nd j _ e1 w1) (nd k _ e2 w2) w1 w2 s1 s2
 · rw[JP]at z
   split at z
   · first|cases z|(split at z<;>cases z)
   · exact r.np j ys' z
def AH:W->Option (List (HJ×Im))
 | .mk kvs=>some kvs
 | _=>none
theorem asMk_m(kvs:List (HJ×Im)):AH (.mk kvs)=some kvs:=rfl
def Fz(ρ:En)(i:Nat):Option (List (HJ×Im)):=((ρ[i]?).join).bind AH
theorem s_{i:Nat}{kvs:List (HJ×Im)}:Fz ρ i=some kvs↔ρ[i]?=some (some (.mk kvs)):=by
 unfold Fz
 constructor
 · intro h
   cases q:ρ[i]? with
   | none=>rw[q]at h;cases h
   | some o=>rw[q]at h;cases o with
     | none=>cases h
     | some w =>
       have h:AH w=some kvs:=h
       unfold AH at h
       split at h
       · cases h;rfl
       · cases h
 · intro h;rw[h];rfl
def At(i:Nat):Ha:=fun D ρ=>∃kvs,ρ[i]?=some (some (.mk kvs))/\D.nx (ρ.set i (some (.fw kvs)))
theorem mU(i:Nat)(h:Hw X rl st t):Hw X rl st (xq t (At i)):=by
 obtain⟨T,p,k⟩:=h
 refine⟨_,vD i p,fun{F₀ H₀ F H σ ρ} R Dv D ok q=>k R {Dv with nx:=At i Dv} _ ⟨fun F' H' σ' ρ' s' R' z=>?_,ok.rt,ok.bk,ok.ct⟩ q⟩
 obtain⟨kvs,e,q'⟩:=z
 obtain⟨v,h1,h2,h3⟩:=R'.sl i _ e
 obtain⟨a,us,rfl,f,hr,hh,rs⟩:=(show mQ X.K rl F' H' v kvs from h2)
 refine⟨a,us,h1,hh,fun o=>?_⟩
 obtain⟨fsm,R2⟩:=R'.frzK (ob:=o) e h1 hh rs
 exact ok.nx _ _ _ _ (s'.trans fsm) R2 q'
theorem s_fzS(i:Nat):mS (At i) ρ=aL (Fz ρ i) fun kvs=>ret (.nx (ρ.set i (some (.fw kvs)))):=by
 refine af fun Q=>?_
 simp only[mS,At,ai,s_,ret]
def nA(i:Nat)(fk fx:TV):Ha:=fun D ρ=>∃kvs,ρ[i]?=some (some (.mk kvs))/\fx ρ fun wx=>fk ρ fun wk=>∃k x,jk wk=some k/\wx = .d x/\kvs.length<sizeLine/\D.nx (ρ.set i (some (.mk (putF kvs k x))))
theorem qA(i:Nat){x:Str}{f:Expr}{fk fx:TV}(hu:X.A.units+1<O1)(hk:PV X rl e fk)(hx:PV X rl f fx)(hN:X.N[i]?=some x:=by rfl)(hv:G6 X.env.scope x:=by first|exact J8 rfl|exact Jw (J8 rfl)|exact Jw (Jw rfl))
 (hd:(x==("__debug__" : Str))=false:=by decide)(hcd:(x==("__classdict__" : Str))=false:=by decide)(hs:Ku f (some (.Subscript (.Name x px) e pos')) pos.line X.env=pure false:=by rfl) :
 Hw X rl (.Assign [.Subscript (.Name x px) e pos'] f pos) (nA i fk fx):=by
 obtain⟨t,p1,k1⟩:=hk
 obtain⟨t2,p2,k2⟩:=hx
 refine⟨_,jG hu (bH hN hv hd hcd) p1 p2 hs,fun{F₀ H₀ F H σ ρ} R Dv D ok ⟨kvs,e1,q⟩=>?_⟩
 obtain⟨v,h1,h2,h3⟩:=R.sl i _ e1
 obtain⟨a,us,rfl,f0,hr,hh,rs⟩:=(show mQ X.K rl F H v kvs from h2)
 refine k2 R _ _ q fun v2 w2 F2 H2 g2 r2 n2 q2=>⟨.ref a,h1,k1 (R.grow g2) _ _ q2 fun v1 w1 F1 H1 g1 r1 n1 q3=>?_⟩
 obtain⟨k,d,ek,rfl,hz,q3⟩:=q3
 have ev:=eP ek r1
 subst ev
 have g:=g2.trans g1
 have hl:us.length=kvs.length:=J6 rs
 refine⟨a,_,rfl,.inl ⟨us,k,g.same a _ hh hr,rfl,by omega,rfl⟩,?_⟩
 have rs1:HL X.K F1 us kvs:=rs.mono g.fs
 exact ok.nx _ _ _ _ g.fs ((R.grow g).ownK e1 h1 (rs1.put k (Rep.mono g1.fs r2))) q3
theorem s_dputK(i:Nat){fk fx:TV}:mS (nA i fk fx) ρ=aL (Fz ρ i) fun kvs=>GW (fx ρ) fun wx=>GW (fk ρ) fun wk=>aL (jk wk) fun k=>aL (asD wx) fun x=>GC (kvs.length<sizeLine) (ret (.nx (ρ.set i (some (.mk (putF kvs k x)))))):=by
 refine af fun Q=>?_
 simp only[mS,nA,ai,s_,GW,GC,ret,fN]
 refine exists_congr fun kvs=>and_congr_right fun _=>?_
 constructor
 · intro h;refine cast ?_ h;congr 1;funext x;congr 1;funext y;exact propext ⟨fun⟨a,b,c,d,e⟩=>⟨a,c,b,d,e⟩,fun⟨a,c,b,d,e⟩=>⟨a,b,c,d,e⟩⟩
 · intro h;refine cast ?_ h;congr 1;funext x;congr 1;funext y;exact propext ⟨fun⟨a,c,b,d,e⟩=>⟨a,b,c,d,e⟩,fun⟨a,b,c,d,e⟩=>⟨a,c,b,d,e⟩⟩
def asFwD:List W->Option (List (HJ×Im)×Im)
 | [.fw kvs,.d x]=>some (kvs,x)
 | _=>none
theorem asFwD_f(kvs:List (HJ×Im))(x:Im):asFwD [.fw kvs,.d x]=some (kvs,x):=rfl
theorem sD{ws:List W}{z:List (HJ×Im)×Im}:asFwD ws=some z↔ws=[.fw z.1,.d z.2]:=by
 constructor
 · intro h;unfold asFwD at h;split at h
   · cases h;rfl
   · cases h
 · rintro rfl;rfl
def uJ(fs:G_):TV:=fun ρ Q=>fs ρ fun ws=>∃z:List (HJ×Im)×Im,ws=[.fw z.1,.d z.2]/\Q (.dp z.1 z.2)
theorem sP{x1}(h:Hs X rl es fs):PV X rl (.Tuple es x1 pos) (uJ fs):=by
 obtain⟨t,p,k⟩:=h
 refine⟨_,oN p,fun R Qd Q q h=>k R _ _ q fun vs ws F1 H1 g1 r1 ⟨z,ew,q1⟩=>?_⟩
 subst ew
 cases r1 with
 | cons ra rb =>
   cases rb with
   | @cons u2 _ _ _ rb rc =>
     cases rc
     obtain⟨b,us,o,rfl,hb,rk⟩:=ra
     refine⟨by rw[IQ];show 2<=16777216;decide,fun p hp=>?_⟩
     have gd:=Grow.data (a:=p) (o:=.tup [.ref b,u2]) g1.sub g1.reel hp
     exact h _ (.dp z.1 z.2) _ _ (g1.trans gd) ⟨p,b,us,_,o,rfl,ak,gd.fs _ _ hb,rk.mono gd.fs,Rep.mono gd.fs rb⟩ trivial q1
theorem m_vTupP:uJ fs ρ=GW (fs ρ) fun ws=>aL (asFwD ws) fun z=>ret (.dp z.1 z.2):=by
 refine af fun Q=>?_
 simp only[uJ,GW,ai,sD,ret]
def AC:W->W->(W->Prop)->Prop:=fun x y Q=>∃z:List (HJ×Im)×Im,x = .dp z.1 z.2/\y = .d (.int 1)/\Q (.d z.2)
theorem xH:G7 X rl (FH X.K) AC:=fun{F H x y wx wy} Qd Q s ra r1 r2 q k=>by
 obtain⟨z,rfl,rfl,q⟩:=q
 have ey:=ay r2
 subst ey
 obtain⟨a,b,us,u,o,rfl,h1,h2,rk,ru⟩:=r1
 exact .inr (.inl ⟨a,_,1,u,rfl,rfl,.inl (.inl (s _ _ h1)),rfl,k _ (.d _) _ _ (Grow.refl s ra) ru trivial q⟩)
theorem AN(ha:PV X rl a fa)(hb:PV X rl b fb)(hs:fQ b:=by exact fun _ _=>rfl):PV X rl (.Subscript a b pos) (EY AC fa fb):=ij xH ha hb fun _ _ p1 p2=>rg ll p1 p2 hs
def isOne:W->Option Unit
 | .d (.int 1)=>some ()
 | _=>none
theorem isOne_1:isOne (.d (.int 1))=some ():=rfl
theorem m_gIxP(x y:W):AC x y=aL (asDp x) fun z=>aL (isOne y) fun _=>ret (.d z.2):=by
 have key:∀u,isOne y=some u↔y = .d (.int 1):=fun u=>by
  constructor
  · intro h;unfold isOne at h;split at h
    · rfl
    · cases h
  · rintro rfl;rfl
 refine af fun Q=>?_
 simp only[AC,ai,ql,key,ret]
 exact exists_congr fun z=>and_congr_right fun _=>⟨fun h=>⟨(),h⟩,fun⟨_,h⟩=>h⟩
def AR(i j:Nat)(fa:TV):Ha:=fun D ρ=>fa ρ fun w=>∃z:List (HJ×Im)×Im,w = .dp z.1 z.2/\D.nx ((ρ.set i (some (.fw z.1))).set j (some (.d z.2)))
theorem xD(i j:Nat){x y:Str}{px py pt:Pos}{kt:Nat}(hc:X.calm=true)(hN:X.N.Nodup)(he:PV X rl e fa)(hi:X.N[i]?=some x:=by rfl)(hj:X.N[j]?=some y:=by rfl)
 (hx:Loc X.env.scope x:=by first|exact J8 rfl|exact Jw rfl)(hf:X.fn x=true\/X.env.scope.names.lookup x=some .local:=by first|exact .inl rfl|exact .inr rfl)
 (hy:Loc X.env.scope y:=by first|exact J8 rfl|exact Jw rfl)(hg:X.fn y=true\/X.env.scope.names.lookup y=some .local:=by first|exact .inl rfl|exact .inr rfl)
 (hs:Lp [.Tuple [.Name x px,.Name y py] kt pt] e pos.line X.env=pure false:=by rfl)(hw:Lq [.Tuple [.Name x px,.Name y py] kt pt] e X.env=pure none:=by rfl)
 (h1:(Ki [.Tuple [.Name x px,.Name y py] kt pt] X.env).map (·.2)=[Li (.Tuple [.Name x px,.Name y py] kt pt) X.env]:=by rfl)
 (hn:(Ki [.Name x px,.Name y py] X.env).length=2:=by rfl)(hst:(Ki [.Name x px,.Name y py] X.env).findIdx? (·.1)=none:=by rfl)
 (hs1:(Ki [.Name x px,.Name y py] X.env).map (·.2)=Li (.Name x px) X.env::(Ki [.Name y py] X.env).map (·.2):=by rfl)
 (hs2:(Ki [.Name y py] X.env).map (·.2)=Li (.Name y py) X.env::(Ki [] X.env).map (·.2):=by rfl) :
 Hw X rl (.Assign [.Tuple [.Name x px,.Name y py] kt pt] e pos) (AR i j fa):=by
 obtain⟨t,p,k⟩:=he
 refine⟨_,iQ p (tG hc (gZ (fu hN hi hx hf) (gZ (fu hN hj hy hg) oK hs2) hs1) hn hst) hs hw h1,fun R Dv D ok q=>k R _ _ q fun v w F1 H1 g1 r1 n1 ⟨z,ew,q1⟩=>?_⟩
 subst ew
 obtain⟨a,b,us,u,o,rfl,h1,h2,rk,ru⟩:=r1
 have R1:=(R.grow g1).set (w:=.fw z.1) (Grow.refl g1.sub g1.reel) (v:=.ref b) ⟨b,us,o,rfl,h2,rk⟩ trivial (fun _ z=>by cases z) i
 have R2:=R1.set (w:=.d z.2) (Grow.refl g1.sub g1.reel) ru trivial (fun _ z=>by cases z) j
 exact⟨a,_,rfl,.inl (.inl (g1.sub _ _ h1)),rfl,_,_,rfl,_,_,rfl,rfl,ok.nx _ _ _ _ g1.fs R2 q1⟩
theorem s_unP(i j:Nat):mS (AR i j fa) ρ=GW (fa ρ) fun w=>aL (asDp w) fun z=>ret (.nx ((ρ.set i (some (.fw z.1))).set j (some (.d z.2)))):=by
 refine af fun Q=>?_
 simp only[mS,AR,GW,ai,ql,ret]
end
def jt(fi:En->(List Im->Prop)->Prop)(fr:List (Option Nat))(g:Hf)(ft:TB)(fk fe:TV):TV:=fun ρ Q=>fi ρ fun xs=>sV (dB fr ρ) g ft fk fe xs [] fun kvs=>Q (.mk kvs)
section
variable{X:Cx}{rl:RlT}{kx vx tg iter:Expr}{ifs:List Expr}{scope:Scope}{pos:Pos}{fi:En->(List Im->Prop)->Prop}{g:Hf}{ft:TB}{fk fe:TV}
theorem sf{N':List Str}{wi:TI}(fr:List (Option Nat))(k0:∀{F₀ H₀ F H:Hp}{σ:St}{ρ:En},VR X.K rl F₀ H₀ F H σ ρ->∀(Qd:List Im->Prop)(R:It->Hp->Prop),fi ρ Qd ->
 (∀J xs F' H',Grow rl F H F' H'->VIt X.K rl F' J xs->Qd xs->R J H')->wi σ H R)
 (hg:∀y,HD (blk X N' scope y) rl tg g)(ht:∀y,qx (blk X N' scope y) rl ifs ft)(hk:∀y,PV (blk X N' scope y) rl kx fk)(he:∀y,PV (blk X N' scope y) rl vx fe)
 (R:VR X.K rl F₀ H₀ F H σ ρ)(Qd:W->Prop)(Q:VK)(q:jt fi fr g ft fk fe ρ Qd)
 (k:∀v w F' H',Grow rl F H F' H'->cC X.K rl F' H' v w->cZ H v w->Qd w->Q v H'):nQ wi fr (fun y=>Ja (hg y)) (fun y=>Ja (ht y)) (fun y=>Ja (hk y)) (fun y=>Ja (he y)) σ H Q:=by
 refine k0 R _ _ q fun J xs F1 H1 g1 vi q1=>?_
 intro D hD
 have rD:rl.a≠some D:=fun e=>by obtain⟨o,z⟩:=g1.reel.live e;rw[hD]at z;cases z
 have FD:F1 D=none:=g1.sub.free hD
 have gD:Grow rl F1 H1 F1 (upd H1 D (.dK [])):=Grow.laid g1.sub g1.reel hD
 have R1:=R.grow g1
 have n0:mN (dB fr ρ):=de
 refine⟨fun i m acc σc Hc=>m=xs.length-i/\i<=xs.length/\∃Fc ds,VR X.K rl F1 H1 Fc Hc σc (dB fr ρ)/\Hc D=some (.dK acc)/\Fc D=none/\HL X.K Fc acc ds/\sV (dB fr ρ) g ft fk fe (xs.drop i) ds (fun ds=>Qd (.mk ds)),
  ⟨xs.length,by simp,Jz _,F1,[],eM R1 gD,ak,FD,.nil,by simpa using q1⟩,?_⟩
 rintro z i m acc σc Hc ⟨rfl,hi,Fc,ds,Rc,hDc,fDc,rs,q2⟩
 have sH:bm F1 Hc:=Rc.g.fs.trans Rc.sub
 by_cases hlt:i<xs.length
 · have ei:xs[i]?=some xs[i]:=by simp[hlt]
   have ed:xs.drop i=xs[i]::xs.drop (i+1):=J1 hlt
   rw[ed]at q2
   refine .inr ⟨vi.go i Hc _ ei sH,fun v H' y=>?_⟩
   obtain⟨Fy,gy,rv⟩:=vi.yld i Hc v H' _ Fc ei Rc.g.fs Rc.sub Rc.reel y
   refine(Iq (hg z)).2 (Rc.grow gy) v _ _ _ rv q2 fun F3 H3 σ3 ρ3 g3 n3 R3 ⟨le3,q3⟩=>?_
   refine(Iq (ht z)).2 R3 _ _ q3 fun b F4 H4 g4 q4=>?_
   have R4:=R3.grow g4
   have g34:=(gy.trans g3).trans g4
   have keepD:∀{Fx Hx:Hp},Grow rl Fc Hc Fx Hx->Hx D=some (.dK acc)/\Fx D=none:=fun gx=>⟨gx.same D _ hDc rD,by rw[gx.old D _ hDc];exact fDc⟩
   cases b with
   | false=>exact⟨xs.length-(i+1),by omega,rfl,hlt,F4,ds,R4.le le3,(keepD g34).1,(keepD g34).2,rs.mono g34.fs,q4⟩
   | true =>
     refine(Iq (hk z)).2 R4 _ _ q4 fun vk wk Fk Hk gk rk nk ⟨kk,ekk,qk⟩=>?_
     have evk:=eP ekk rk
     have R5:=R4.grow gk
     refine(Iq (he z)).2 R5 _ _ qk fun v5 w5 F5 H5 g5 r5 n5 ⟨d,ed5,hl,q5⟩=>?_
     obtain⟨F6,g6,s6,r6⟩:=cC.fz g5 r5 n5
     rw[ed5]at r6
     have g36:=(g34.trans gk).trans g6
     have lds:acc.length=ds.length:=J6 rs
     refine⟨kk,evk,(keepD g36).1,by rw[lds];exact hl,xs.length-(i+1),by omega,rfl,hlt,F6,putF ds kk d,((R5.grow g6).le le3).other n0 hD (keepD g36).2 rD,ak,(keepD g36).2,(rs.mono g36.fs).put kk r6,q5⟩
 · have e:i=xs.length:=by omega
   subst e
   rw[KN]at q2
   refine .inl ⟨vi.stop _ Hc (ID _) sH,k _ (.mk ds) Fc Hc (g1.trans Rc.g) ⟨D,acc,rfl,fDc,rD,hDc,rs⟩ (fun a ea=>by cases ea;exact g1.freeB hD) q2⟩
theorem ii(i:Nat){b:Bool}{x:Str}{spos:Pos}(hN:X.N.Nodup)(N':List Str)(fr:List (Option Nat))(hc:X.calm=true)(hi:HA X rl tg iter fi)
 (hg:∀y,HD (blk X N' scope y) rl tg g)(ht:∀y,qx (blk X N' scope y) rl ifs ft)(hk:∀y,PV (blk X N' scope y) rl kx fk)(he:∀y,PV (blk X N' scope y) rl vx fe)
 (hsw:Ku (.DictComp kx vx [⟨tg,iter,ifs,0⟩] scope pos) (some (.Name x px)) spos.line X.env=pure b:=by rfl)
 (hix:X.N[i]?=some x:=by rfl)(hx:Loc X.env.scope x:=by first|exact J8 rfl|exact Jw rfl)(hf:X.fn x=true\/X.env.scope.names.lookup x=some .local:=by first|exact .inl rfl|exact .inr rfl)
 (hfr:jQ fr N' X.N scope X.env.scope=true:=by rfl)(hsc:kM scope X.env.scope=true:=by rfl)
 (hs:∀x,Jd iter X.env x=pure x:=by intro _;rfl):Hw X rl (.Assign [.Name x px] (.DictComp kx vx [⟨tg,iter,ifs,0⟩] scope pos) spos) (Aq i (jt fi fr g ft fk fe)):=by
 obtain⟨wi,p0,k0⟩:=hi
 refine⟨_,jF N' fr hc p0 hfr hsc (fun y=>(Iq (hg y)).1) (fun y=>(Iq (ht y)).1) (fun y=>(Iq (hk y)).1) (fun y=>(Iq (he y)).1) hN hix hx hf hsw hs,fun R Dv D ok q=>sf fr k0 hg ht hk he R _ _ q fun v w F1 H1 g1 r1 n1 ⟨hp,q1⟩=>?_⟩
 exact ok.nx _ _ _ _ g1.fs (R.set g1 r1 n1 (fun xs z=>by subst z;cases hp) i) q1
end
theorem m_compDK(fi:En->(List Im->Prop)->Prop)(fr:List (Option Nat))(g:Hf)(ft:TB)(fk fe:TV)(ρ:En):jt fi fr g ft fk fe ρ=GW (fi ρ) fun xs=>GW (dY (Gr (dB fr ρ) g ft fk fe) xs []) fun kvs=>ret (.mk kvs):=by
 refine af fun Q=>?_
 show(fi ρ fun xs=>sV (dB fr ρ) g ft fk fe xs [] fun ds=>Q (.mk ds))↔_
 simp only[lC]
 exact Mv
abbrev H_:=List (HJ×Im)×Im
def DL(K:W.Frag)(rl:RlT)(P:List W->(H_->Prop)->Prop):Sp:=fun vs H Q _=>∃F ws,bm F H/\Hq rl F H/\dh K rl F H vs ws/\ws.all cY=true/\P ws fun z=>∀v F' H',Grow rl F H F' H'->cC K rl F' H' v (.dp z.1 z.2)->Q v H'
def vM(Q:H_->Prop):VEnds:=⟨fun _=>False,fun w=>∃z:H_,w = .dp z.1 z.2/\Q z,fun _=>False,fun _=>False⟩
structure DfnP (P:IZ) (w:JN) (K:W.Frag) (mg:Str->Option Iw) (base:Heap) (rl:RlT) (x:Str) (ps:List Str) (k:Nat) (Pd:List W->(H_->Prop)->Prop):Prop where
 mono:∀ws Q Q',(∀d,Q d->Q' d)->Pd ws Q->Pd ws Q'
 ex:∃f fd,mg x=some (.ref f)/\W.keepIn K (.ref f)=true/\Binds K fd ps []/\FnOk P w K mg base Ib k f fd ps (DL K rl Pd)
section
variable{P:IZ}{w:JN}{K:W.Frag}{mg:Str->Option Iw}{base:Heap}{rl:RlT}{x:Str}{st:Stmt}{N ps:List Str}{k:Nat}{Pd:List W->(H_->Prop)->Prop}{t:Ha}
theorem DfnP.of(Fn:FnIn K mg x st ps)(S:FnScope N ps (defScope st))(mono:∀ws Q Q',(∀d,Q d->Q' d)->Pd ws Q->Pd ws Q')(len:∀ws Q,Pd ws Q->ws.length=ps.length)
 (hbody:∀{f:Addr}(cdv:Iw)(A:J4)(outer:List Env)(s:IB)(H:Hp)(E:XK),Room k (A.deeper (MR x (defScope st) s.heap.objs.size f cdv)) ->
  jm (lA Ib P w K mg base N x (defScope st) f cdv A outer s H E).nox rl (defBody st) t)
 (hread:∀ws Q,Pd ws Q->t (vM Q) (cu N ws)):DfnP P w K mg base rl x ps (k+1) Pd:=by
 obtain⟨f,fd,hm,F,hb⟩:=Fn.ex
 refine⟨mono,f,fd,hm,F.kp,hb,?_⟩
 refine F.ok S (fun vs H Q E ⟨F,ws,_,_,r,_,q⟩=>(J6 r).trans (len ws _ q)) fun cdv A outer s H vs Q E hr h=>?_
 obtain⟨F,ws,sm,ra,r,ok,q⟩:=h
 obtain⟨T,p,kk⟩:=hbody cdv A outer s H E hr
 refine⟨T,p,kk (cD sm ra r ok) (vM _) _ ⟨fun _ _ _ _ _ _ z=>Jq z,?_,fun _ _ _ _ _ _ z=>Jq z,fun _ _ _ _ _ _ z=>Jq z⟩ (hread ws _ q)⟩
 rintro v w1 F1 H1 g1 r1 n1 ⟨z,rfl,q1⟩
 exact q1 v F1 H1 g1 r1
def Dr(Q:H_->Prop):Fl->Prop
 | .rt w=>∃z:H_,w = .dp z.1 z.2/\Q z
 | _=>False
theorem qR{Q:H_->Prop}(h:mS t ρ (Dr Q)):t (vM Q) ρ:=h
theorem oh{Q:H_->Prop}{kvs:List (HJ×Im)}(h:Q (kvs,d)):ret (Fl.rt (.dp kvs d)) (Dr Q):=⟨(kvs,d),rfl,h⟩
end
section
variable{X:Cx}{rl:RlT}{e:Expr}{es:List Expr}{fs:G_}{pos p:Pos}{ρ:En}
def xY(Pd:List W->(H_->Prop)->Prop)(fs:G_):TV:=fun ρ Q=>fs ρ fun ws=>ws.all cY=true/\Pd ws fun z=>Q (.dp z.1 z.2)
theorem nh{x:Str}{ps:List Str}{k:Nat}{Pd:List W->(H_->Prop)->Prop}(D:DfnP X.prog X.w X.K X.mg X.base rl x ps k Pd)(hr:Room k X.A)(ha:Hs X rl (e::es) fs)(hg:Gl X x:=by rfl)
 (hdb:(x==("__debug__" : Str))=false:=by decide)(he:IC (e::es) X.env=(false,eval e X.env)::IC es X.env:=by rfl)(hpl:(Kh pos (IC es X.env)).any (·.1)=false:=by rfl) :
 PV X rl (.Call (.Name x p) (e::es) [] pos) (xY Pd fs):=by
 obtain⟨f,fd,hm,hk,hb,F⟩:=D.ex
 obtain⟨t,p1,kk⟩:=ha
 refine⟨_,d9 F hr hg hm hk hb .nil me p1 hdb he hpl,fun R Qd Q q h=>kk R _ _ q fun vs ws F1 H1 g1 r1 ⟨ok,q1⟩=>?_⟩
 refine⟨F1,ws,g1.sub,g1.reel,by rw[JS];exact r1,ok,?_⟩
 exact D.mono ws _ _ (fun z qd v F2 H2 g2 r2=>h v (.dp z.1 z.2) F2 H2 (g1.trans g2) r2 trivial qd) q1
theorem m_vUseP(Pd:List W->(H_->Prop)->Prop):xY Pd fs ρ=GW (fs ρ) fun ws=>GC (ws.all cY=true) (GW (Pd ws) fun z=>ret (.dp z.1 z.2)):=nr rfl
end
theorem fz_fw(kvs:List (HJ×Im)):(W.fw kvs).fz = .fw kvs:=rfl
theorem pk_fw(kvs:List (HJ×Im)):(W.fw kvs).peek = .fw kvs:=rfl
theorem isPk_fw(kvs:List (HJ×Im)):(W.fw kvs).isPk=false:=rfl
theorem isPk_mk(kvs:List (HJ×Im)):(W.mk kvs).isPk=false:=rfl
theorem isPk_dp(kvs:List (HJ×Im))(x:Im):(W.dp kvs x).isPk=false:=rfl
def Ik:=Ip @m_compDK (Ip @m_iWalk (Ip @m_vDGetW (Ip @m_vDInW (Ip @m_vDict0K (Ip @s_fzS (Ip @s_dputK (Ip @m_vTupP (Ip @m_gIxP (Ip @s_unP (Ip @m_vUseP (Ip @fz_fw (Ip @pk_fw (Ip @isPk_fw (Ip @isPk_mk (Ip @isPk_dp (Ip @asFw_f (Ip @asDp_f (Ip @asMk_m (Ip @asFwD_f (Ip @isOne_1 (Ip @keyW_i (@keyW_s))))))))))))))))))))))
end L2.VL
namespace L2.GA
def Cg(p a b:Int):Prop:=∃t,a=b+p*t
theorem Cg.refl{p:Int}(a:Int):Cg p a a:=⟨0,by omega⟩
theorem Cg.of{p a:Int}(h:a=b):Cg p a b:=h ▸ .refl a
theorem Cg.symm{p a:Int}(h:Cg p a b):Cg p b a:=let ⟨t,e⟩:=h;⟨-t,by grind⟩
theorem Cg.trans{p a:Int}(h:Cg p a b)(k:Cg p b c):Cg p a c:=let ⟨t,e⟩:=h;let ⟨u,f⟩:=k;⟨t+u,by grind⟩
theorem Cg.add{p a d:Int}(h:Cg p a b)(k:Cg p c d):Cg p (a+c) (b+d):=let ⟨t,e⟩:=h;let ⟨u,f⟩:=k;⟨t+u,by grind⟩
theorem Cg.sub{p a d:Int}(h:Cg p a b)(k:Cg p c d):Cg p (a-c) (b-d):=let ⟨t,e⟩:=h;let ⟨u,f⟩:=k;⟨t-u,by grind⟩
theorem Cg.mul{p a d:Int}(h:Cg p a b)(k:Cg p c d):Cg p (a*c) (b*d):=let ⟨t,e⟩:=h;let ⟨u,f⟩:=k;⟨t*d+b*u+p*t*u,by grind⟩
theorem Cg.mod{p:Int}(a:Int):Cg p (a.fmod p) a:=⟨-(a.fdiv p),by have:=Int.fmod_add_fdiv_mul a p;grind⟩
theorem Cg.eq{p a:Int}(h:Cg p a b)(a0:0<=a)(a1:a<p)(b0:0<=b)(b1:b<p):a=b:=by
 obtain⟨t,e⟩:=h
 have:a%p=b%p:=by rw[e,LY]
 rwa [Ll a0 a1,Ll b0 b1]at this
theorem Cg.iff{p a:Int}:Cg p a b↔a%p=b%p:=by
 constructor
 · rintro⟨t,e⟩;rw[e,LY]
 · intro h
   refine⟨a / p-b / p,?_⟩
   have h1:=MB a p
   have h2:=MB b p
   grind
theorem zO{p:Int}(hp:0<p)(a:Int):a.fmod p=a%p:=LW _ (by omega)
theorem fm_in{p:Int}(hp:0<p)(a:Int):0<=a.fmod p/\a.fmod p<p:=by rw[zO hp];exact⟨M3 _ (by omega),Mk _ hp⟩
theorem jT{p a:Int}(h0:0<=a)(h1:a<p):a.fmod p=a:=by rw[zO (by omega)];exact Ll h0 h1
def Sg(n:Nat)(f:Nat->Int):Int:=((IN n).map f).sum
theorem bP(n:Nat)(f:Nat->Int):Sg (n+1) f=Sg n f+f n:=by unfold Sg;rw[M6,Kc,Of];simp
theorem lM(n:Nat)(f g:Nat->Int):Sg n (fun k=>f k+g k)=Sg n f+Sg n g:=by
 induction n with
 | zero=>rfl
 | succ n ih=>rw[bP,bP,bP,ih];omega
theorem jh(n:Nat)(f:Nat->Int)(c:Int):Sg n (fun k=>c*f k)=c*Sg n f:=by
 induction n with
 | zero=>simp[Sg]
 | succ n ih=>rw[bP,bP,ih,Int.mul_add]
theorem fO(n:Nat):Sg n (fun _=>0)=0:=by
 induction n with
 | zero=>rfl
 | succ n ih=>rw[bP,ih];rfl
theorem xf(n m:Nat)(f:Nat->Nat->Int):Sg n (fun i=>Sg m fun k=>f i k)=Sg m fun k=>Sg n fun i=>f i k:=by
 induction n with
 | zero =>
   have e:(fun k=>Sg 0 fun i=>f i k)=fun _=>(0:Int):=by funext k;rfl
   rw[e,fO];rfl
 | succ n ih =>
   rw[bP,ih,<- lM]
   congr 1
   funext k
   rw[bP]
theorem fP(n:Nat){f g:Nat->Int}(h:∀k,k<n->f k=g k):Sg n f=Sg n g:=by
 unfold Sg
 congr 1
 exact Kl fun k mk=>h k (JB.mp mk)
theorem sG{p:Int}(n:Nat){f g:Nat->Int}(h:∀k,k<n->Cg p (f k) (g k)):Cg p (Sg n f) (Sg n g):=by
 induction n with
 | zero=>exact .refl _
 | succ n ih=>rw[bP,bP];exact(ih fun k hk=>h k (by omega)).add (h n (by omega))
theorem lL(n:Nat){a:Nat}(ha:a<n)(v:Int):Sg n (fun k=>if k=a then v else 0)=v:=by
 induction n with
 | zero=>omega
 | succ n ih =>
   rw[bP]
   by_cases e:a=n
   · subst e
     rw[fP (g:=fun _=>0) a fun k hk=>by rw[if_neg (by omega)],fO,if_pos rfl];omega
   · rw[ih (by omega),if_neg (by omega)];omega
def clr(p:Int)(r o:List Int)(c:Nat):List Int:=(r.zip o).map fun z=>(z.1-r.getD c 0*z.2).fmod p
def scl(p:Int)(r:List Int)(k:Int):List Int:=r.map fun x=>(k*x).fmod p
def uni(n a:Nat):List Int:=(IN n).map fun k=>if k=a then 1 else 0
def Fg(p:Int)(n:Nat)(r:List Int):Prop:=r.length=n/\∀k,k<n->0<=r.getD k 0/\r.getD k 0<p
theorem gD{xs:List Int}{k:Nat}(h:k<xs.length):xs.getD k 0=xs[k]:=by rw[Ix,Iy h];rfl
theorem clr_len{p:Int}{r:List Int}{c:Nat}(hr:r.length=n)(ho:o.length=n):(clr p r o c).length=n:=by unfold clr;simp[hr,ho]
theorem i9{p:Int}{r:List Int}{c k:Nat}(hr:r.length=n)(ho:o.length=n)(hk:k<n):(clr p r o c).getD k 0=(r.getD k 0-r.getD c 0*o.getD k 0).fmod p:=by
 rw[gD (by rw[clr_len hr ho];exact hk)]
 unfold clr
 rw[Ly,NR,gD (xs:=r) (k:=k) (by omega),gD (xs:=o) (k:=k) (by omega)]
theorem ub{p:Int}(hp:0<p){r:List Int}{c:Nat}(hr:r.length=n)(ho:o.length=n):Fg p n (clr p r o c):=⟨clr_len hr ho,fun k hk=>by rw[i9 hr ho hk];exact fm_in hp _⟩
theorem lE{p:Int}{r:List Int}{c k:Nat}(hr:r.length=n)(ho:o.length=n)(hk:k<n):Cg p ((clr p r o c).getD k 0) (r.getD k 0-r.getD c 0*o.getD k 0):=by rw[i9 hr ho hk];exact .mod _
theorem scl_len{p:Int}{r:List Int}{a:Int}:(scl p r a).length=r.length:=by unfold scl;simp
theorem nZ{p:Int}{r:List Int}{a:Int}{k:Nat}(hk:k<r.length):(scl p r a).getD k 0=(a*r.getD k 0).fmod p:=by
 rw[gD (by rw[scl_len];exact hk)]
 unfold scl
 rw[Ly,gD hk]
theorem uni_len(n a:Nat):(uni n a).length=n:=by unfold uni;simp
theorem kF{a k:Nat}(hk:k<n):(uni n a).getD k 0=if k=a then 1 else 0:=by
 rw[gD (by rw[uni_len];exact hk)];unfold uni;simp
theorem sF{xs ys:List Int}{k:Nat}(h:k<xs.length):(xs++ys).getD k 0=xs.getD k 0:=by
 rw[Ix,Ix,KF h]
theorem sE{xs ys:List Int}{k:Nat}:(xs++ys).getD (xs.length+k) 0=ys.getD k 0:=by
 rw[Ix,Ix,K0 (by omega)];congr 2;omega
theorem fF{xs:List Int}{c k:Nat}:(xs.drop c).getD k 0=xs.getD (c+k) 0:=by
 rw[Ix,Ix,List.getElem?_drop]
abbrev Kp:=List (Nat×List Int)
def KS(ks:Kp)(f:Nat×List Int->Int):Int:=(ks.map f).sum
theorem cr(z:Nat×List Int)(ks:Kp)(f:Nat×List Int->Int):KS (z::ks) f=f z+KS ks f:=by unfold KS;simp
theorem xj(z:Nat×List Int)(ks:Kp)(f:Nat×List Int->Int):KS (ks++[z]) f=KS ks f+f z:=by unfold KS;simp
theorem Am(ks:Kp)(g:Nat×List Int->Nat×List Int)(f:Nat×List Int->Int):KS (ks.map g) f=KS ks fun z=>f (g z):=by unfold KS;rw[Jp];rfl
theorem Ce{p:Int}{ks:Kp}{f g:Nat×List Int->Int}(h:∀z∈ks,Cg p (f z) (g z)):Cg p (KS ks f) (KS ks g):=by
 induction ks with
 | nil=>exact .refl _
 | cons z ks ih=>rw[cr,cr];exact(h z Iz).add (ih fun y hy=>h y (Ir _ hy))
theorem An(ks:Kp)(f g:Nat×List Int->Int):KS ks (fun z=>f z+g z)=KS ks f+KS ks g:=by
 induction ks with
 | nil=>rfl
 | cons z ks ih=>rw[cr,cr,cr,ih];omega
theorem uj(ks:Kp)(f:Nat×List Int->Int)(c:Int):KS ks (fun z=>f z*c)=KS ks f*c:=by
 induction ks with
 | nil=>simp[KS]
 | cons z ks ih=>rw[cr,cr,ih,Int.add_mul]
theorem xi{ks:Kp}{f:Nat×List Int->Int}(h:∀z∈ks,f z=0):KS ks f=0:=by
 induction ks with
 | nil=>rfl
 | cons z ks ih=>rw[cr,h z Iz,ih fun y hy=>h y (Ir _ hy)];rfl
theorem xm{ks:Kp}{f:Nat×List Int->Int}(nd:(ks.map (·.1)).Nodup){y:Nat×List Int}(hy:y∈ks)(h:∀z∈ks,z.1≠y.1->f z=0):KS ks f=f y:=by
 induction ks with
 | nil=>cases hy
 | cons z ks ih =>
   rw[cr]
   rw[IP,JX]at nd
   rcases Jf.mp hy with rfl|hy'
   · rw[xi fun x hx=>h x (Ir _ hx) fun e=>nd.1 (by rw[<- e];exact KY hx)];omega
   · rw[h z Iz fun e=>nd.1 (by rw[e];exact KY hy'),ih nd.2 hy' fun x hx=>h x (Ir _ hx)];omega
def clrs(p:Int)(r:List Int)(ks:Kp):List Int:=ks.foldl (fun r z=>clr p r z.2 z.1) r
def Gd(p:Int)(C R:Nat)(T:List (List Int))(r:List Int):Prop:=∀c,c<C->Cg p (r.getD c 0) (Sg R fun k=>r.getD (C+k) 0*(T.getD k []).getD c 0)
structure GI (p:Int) (C R:Nat) (T:List (List Int)) (n:Nat) (ks:Kp):Prop where
 len:ks.length=n
 nd:(ks.map (·.1)).Nodup
 lt:∀z∈ks,z.1<C
 fg:∀z∈ks,Fg p (C+R) z.2
 pv:∀z∈ks,∀y∈ks,y.2.getD z.1 0=if y.1=z.1 then 1 else 0
 gd:∀z∈ks,Gd p C R T z.2
 su:∀z∈ks,∀k,n<=k->k<R->z.2.getD (C+k) 0=0
 jj:∀i,i<n->∀c,c<C+R->Cg p ((T.getD i []++uni R i).getD c 0) (KS ks fun z=>(T.getD i []).getD z.1 0*z.2.getD c 0)
theorem GI.nil(p:Int)(C R:Nat)(T:List (List Int)):GI p C R T 0 []:=⟨rfl,.nil,fun _ h=>(nomatch h),fun _ h=>(nomatch h),fun _ h=>(nomatch h),fun _ h=>(nomatch h),fun _ h=>(nomatch h),fun _ h=>by omega⟩
theorem Gd.clr{p:Int}{C R:Nat}{r:List Int}{c:Nat}(hr:r.length=C+R)(ho:o.length=C+R)(g:Gd p C R T r)(g':Gd p C R T o):Gd p C R T (clr p r o c):=fun k hk=>by
 refine(lE hr ho (by omega)).trans ?_
 refine((g k hk).sub ((Cg.refl (r.getD c 0)).mul (g' k hk))).trans ?_
 rw[<- jh,Int.sub_eq_add_neg,<- Int.neg_one_mul,<- jh,<- lM]
 refine sG R fun j hj=>?_
 refine Cg.symm ?_
 refine((lE hr ho (k:=C+j) (by omega)).mul (.refl _)).trans (.of ?_)
 grind
theorem Gd.scl{p:Int}{C R:Nat}{r:List Int}{a:Int}(hr:r.length=C+R)(g:Gd p C R T r):Gd p C R T (scl p r a):=fun k hk=>by
 rw[nZ (by omega)]
 refine(Cg.mod _).trans (((Cg.refl a).mul (g k hk)).trans ?_)
 rw[<- jh]
 refine sG R fun j hj=>?_
 rw[nZ (by omega)]
 exact(((Cg.mod _).mul (.refl _)).trans (.of (by grind))).symm
theorem pX{p:Int}(hp:0<p){C R n:Nat}{T:List (List Int)}:∀{ks:Kp}{r:List Int},(ks.map (·.1)).Nodup->(∀z∈ks,z.1<C)->(∀z∈ks,Fg p (C+R) z.2)->(∀z∈ks,∀y∈ks,y.2.getD z.1 0=if y.1=z.1 then 1 else 0) ->
 (∀z∈ks,Gd p C R T z.2)->(∀z∈ks,∀k,n<=k->k<R->z.2.getD (C+k) 0=0)->Fg p (C+R) r->Gd p C R T r ->
 Fg p (C+R) (clrs p r ks)/\Gd p C R T (clrs p r ks)/\(∀c,c<C+R->Cg p ((clrs p r ks).getD c 0) (r.getD c 0-KS ks fun z=>r.getD z.1 0*z.2.getD c 0))/\∀k,n<=k->k<R->(clrs p r ks).getD (C+k) 0=r.getD (C+k) 0
 | [],r,_,_,_,_,_,_,fr,gr=>⟨fr,gr,fun c _=>.of (by simp[clrs,KS]),fun _ _ _=>rfl⟩
 | z::ks,r,nd,lt,fg,pv,gd,su,fr,gr=>by
   rw[IP,JX]at nd
   have fz:=fg z Iz
   have mm:∀{y},y∈ks->y∈z::ks:=fun h=>Ir _ h
   obtain⟨a1,a2,a3,a4⟩:=pX hp (C:=C) (R:=R) (n:=n) (T:=T) (ks:=ks) (r:=clr p r z.2 z.1) nd.2 (fun y hy=>lt y (mm hy)) (fun y hy=>fg y (mm hy)) (fun y hy x hx=>pv y (mm hy) x (mm hx)) (fun y hy=>gd y (mm hy)) (fun y hy=>su y (mm hy))
    (ub hp fr.1 fz.1) (Gd.clr fr.1 fz.1 gr (gd z Iz))
   refine⟨a1,a2,fun c hc=>(a3 c hc).trans ?_,fun k h1 h2=>(a4 k h1 h2).trans ?_⟩
   · rw[cr]
     have e:∀y∈ks,(clr p r z.2 z.1).getD y.1 0=r.getD y.1 0:=fun y hy=>by
      have hl:=lt y (mm hy)
      rw[i9 fr.1 fz.1 (by omega),pv y (mm hy) z Iz,if_neg fun e=>nd.1 (by rw[e];exact KY hy),Ln,Og]
      exact jT (fr.2 _ (by omega)).1 (fr.2 _ (by omega)).2
     have e2:(KS ks fun y=>(clr p r z.2 z.1).getD y.1 0*y.2.getD c 0)=KS ks fun y=>r.getD y.1 0*y.2.getD c 0:=by
      unfold KS;congr 1;exact Kl fun y hy=>by rw[e y hy]
     rw[e2]
     exact((lE fr.1 fz.1 hc).sub (.refl _)).trans (.of (by grind))
   · rw[i9 fr.1 fz.1 (by omega),su z Iz k h1 h2,Ln,Og]
     exact jT (fr.2 _ (by omega)).1 (fr.2 _ (by omega)).2
structure Hg (p:Int) (C:Nat) (T:List (List Int)) (h:List Int):Prop where
 fg:Fg p T.length h
 ne:∃k,k<T.length/\h.getD k 0≠0
 no:∀c,c<C->Cg p (Sg T.length fun k=>h.getD k 0*(T.getD k []).getD c 0) 0
def row0(R n:Nat)(fs:List Int):List Int:=fs++uni R n
section
variable{p:Int}{C:Nat}{T:List (List Int)}{n:Nat}{ks:Kp}
theorem va(p2:2<=p)(ht:∀t∈T,Fg p C t)(hn:n<T.length):Fg p (C+T.length) (row0 T.length n (T.getD n [])):=by
 have hT:Fg p C (T.getD n []):=by rw[Ix,Iy hn];exact ht _ (JA hn)
 refine⟨by unfold row0;rw[Jx,uni_len,hT.1],fun k hk=>?_⟩
 unfold row0
 by_cases h:k<C
 · rw[sF (by rw[hT.1];exact h)];exact hT.2 k h
 · obtain⟨j,rfl⟩:∃j,k=(T.getD n []).length+j:=⟨k-C,by rw[hT.1];omega⟩
   rw[sE,kF (by have:=hT.1;omega)]
   split<;>omega
theorem u_(ht:∀t∈T,Fg p C t)(hn:n<T.length):Gd p C T.length T (row0 T.length n (T.getD n [])):=fun c hc=>by
 have hT:(T.getD n []).length=C:=by rw[Ix,Iy hn];exact(ht _ (JA hn)).1
 unfold row0
 rw[sF (by rw[hT];exact hc)]
 refine .of ?_
 have e:∀k,k<T.length->(T.getD n []++uni T.length n).getD (C+k) 0*(T.getD k []).getD c 0=if k=n then(T.getD n []).getD c 0 else 0:=fun k hk=>by
  rw[<- hT,sE,kF hk]
  by_cases e:k=n
  · subst e;simp
  · rw[if_neg e,if_neg e,Pj]
 rw[fP _ e,lL _ hn]
theorem GI.row(p2:2<=p)(ht:∀t∈T,Fg p C t)(g:GI p C T.length T n ks)(hn:n<T.length) :
 Fg p (C+T.length) (clrs p (row0 T.length n (T.getD n [])) ks)/\Gd p C T.length T (clrs p (row0 T.length n (T.getD n [])) ks) /\
 (∀c,c<C+T.length->Cg p ((clrs p (row0 T.length n (T.getD n [])) ks).getD c 0) ((row0 T.length n (T.getD n [])).getD c 0-KS ks fun z=>(T.getD n []).getD z.1 0*z.2.getD c 0)) /\
 (∀z∈ks,(clrs p (row0 T.length n (T.getD n [])) ks).getD z.1 0=0)/\(clrs p (row0 T.length n (T.getD n [])) ks).getD (C+n) 0=1/\∀k,n<k->k<T.length->(clrs p (row0 T.length n (T.getD n [])) ks).getD (C+k) 0=0:=by
 have hT:(T.getD n []).length=C:=by rw[Ix,Iy hn];exact(ht _ (JA hn)).1
 obtain⟨a1,a2,a3,a4⟩:=pX (by omega) (n:=n) g.nd g.lt g.fg g.pv g.gd g.su (va p2 ht hn) (u_ ht hn)
 have e0:∀z∈ks,(row0 T.length n (T.getD n [])).getD z.1 0=(T.getD n []).getD z.1 0:=fun z hz=>by unfold row0;exact sF (by rw[hT];exact g.lt z hz)
 have ek:∀c,(KS ks fun z=>(row0 T.length n (T.getD n [])).getD z.1 0*z.2.getD c 0)=KS ks fun z=>(T.getD n []).getD z.1 0*z.2.getD c 0:=fun c=>by
  unfold KS;congr 1;exact Kl fun z hz=>by rw[e0 z hz]
 have er:∀k,k<T.length->(row0 T.length n (T.getD n [])).getD (C+k) 0=if k=n then 1 else 0:=fun k hk=>by unfold row0;rw[<- hT,sE,kF hk]
 refine⟨a1,a2,fun c hc=>by have:=a3 c hc;rwa [ek c]at this,fun z hz=>?_,?_,fun k h1 h2=>?_⟩
 · have hl:=g.lt z hz
   have q:=a3 z.1 (by omega)
   rw[ek,e0 z hz,xm g.nd hz fun y hy ne=>by rw[g.pv z hz y hy,if_neg ne,Ln],g.pv z hz z hz,if_pos rfl,MQ,Int.sub_self]at q
   exact q.eq (a1.2 _ (by omega)).1 (a1.2 _ (by omega)).2 (by omega) (by omega)
 · rw[a4 n (ID _) hn,er n hn,if_pos rfl]
 · rw[a4 k (by omega) h2,er k h2,if_neg (by omega)]
theorem GI.hang(p2:2<=p)(ht:∀t∈T,Fg p C t)(g:GI p C T.length T n ks)(hn:n<T.length)(h0:∀c,c<C->(clrs p (row0 T.length n (T.getD n [])) ks).getD c 0=0) :
 Hg p C T ((clrs p (row0 T.length n (T.getD n [])) ks).drop C):=by
 obtain⟨a1,a2,a3,a4,a5,a6⟩:=g.row p2 ht hn
 refine⟨⟨by rw[KM,a1.1];omega,fun k hk=>by rw[fF];exact a1.2 _ (by omega)⟩,⟨n,hn,by rw[fF,a5];decide⟩,fun c hc=>?_⟩
 have q:=a2 c hc
 rw[h0 c hc]at q
 refine Cg.symm (q.trans (.of (fP _ fun k hk=>by rw[fF])))
theorem GI.step(p2:2<=p)(ht:∀t∈T,Fg p C t)(g:GI p C T.length T n ks)(hn:n<T.length){v:Nat}(hv:v<C){a:Int}
 (ha:Cg p (a*(clrs p (row0 T.length n (T.getD n [])) ks).getD v 0) 1) :
 (∀z∈ks,z.1≠v)/\GI p C T.length T (n+1) (ks.map (fun z=>(z.1,clr p z.2 (scl p (clrs p (row0 T.length n (T.getD n [])) ks) a) v))++[(v,scl p (clrs p (row0 T.length n (T.getD n [])) ks) a)]):=by
 obtain⟨a1,a2,a3,a4,a5,a6⟩:=g.row p2 ht hn
 have hTl:∀i,i<T.length->(T.getD i []).length=C:=fun i hi=>by rw[Ix,Iy hi];exact(ht _ (JA hi)).1
 have a3':∀c,c<C+T.length->Cg p ((T.getD n []++uni T.length n).getD c 0) ((clrs p (row0 T.length n (T.getD n [])) ks).getD c 0+KS ks fun z=>(T.getD n []).getD z.1 0*z.2.getD c 0):=fun c hc =>
  Cg.symm (((a3 c hc).add (.refl _)).trans (.of (by unfold row0;grind)))
 generalize hw:clrs p (row0 T.length n (T.getD n [])) ks=w at *
 have sl:(scl p w a).length=C+T.length:=by rw[scl_len,a1.1]
 have sa:∀k,k<C+T.length->(scl p w a).getD k 0=(a*w.getD k 0).fmod p:=fun k hk=>nZ (by rw[a1.1];exact hk)
 have sv:(scl p w a).getD v 0=1:=by
  rw[sa v (by omega)]
  exact((Cg.mod _).trans ha).eq (fm_in (by omega) _).1 (fm_in (by omega) _).2 (by omega) (by omega)
 have sz:∀z∈ks,(scl p w a).getD z.1 0=0:=fun z hz=>by
  have:=g.lt z hz
  rw[sa z.1 (by omega),a4 z hz,Ln];exact jT (by omega) (by omega)
 have ne:∀z∈ks,z.1≠v:=fun z hz e=>by
  have:=a4 z hz
  rw[e]at this
  rw[this,Ln]at ha
  have:=ha.eq (by omega) (by omega) (by omega) (by omega)
  omega
 have cl:∀z∈ks,∀k,k<C+T.length->(clr p z.2 (scl p w a) v).getD k 0=(z.2.getD k 0-z.2.getD v 0*(scl p w a).getD k 0).fmod p:=fun z hz k hk=>i9 (g.fg z hz).1 sl hk
 have mem:∀y,y∈ks.map (fun z=>(z.1,clr p z.2 (scl p w a) v))++[(v,scl p w a)]->(∃z∈ks,y=(z.1,clr p z.2 (scl p w a) v))\/y=(v,scl p w a):=fun y hy=>by
  rcases JR.mp hy with h|h
  · obtain⟨z,hz,e⟩:=Jo.mp h;exact .inl ⟨z,hz,e.symm⟩
  · exact .inr (K9.mp h)
 refine⟨ne,by simp[g.len],?_,fun y hy=>?_,fun y hy=>?_,fun y hy x hx=>?_,fun y hy=>?_,fun y hy k h1 h2=>?_,fun i hi c hc=>?_⟩
 · rw[Kc,Jp]
   refine List.nodup_append.mpr ⟨g.nd,by simp,fun x hx y hy=>?_⟩
   obtain⟨z,hz,rfl⟩:=Jo.mp hx
   simp at hy
   subst hy
   exact ne z hz
 · rcases mem y hy with⟨z,hz,rfl⟩|rfl
   · exact g.lt z hz
   · exact hv
 · rcases mem y hy with⟨z,hz,rfl⟩|rfl
   · exact ub (by omega) (g.fg z hz).1 sl
   · exact⟨sl,fun k hk=>by rw[sa k hk];exact fm_in (by omega) _⟩
 · rcases mem y hy with⟨z,hz,rfl⟩|rfl
   · have zl:=g.lt z hz
     rcases mem x hx with⟨u,hu,rfl⟩|rfl
     · show(clr p u.2 (scl p w a) v).getD z.1 0=_
       rw[cl u hu z.1 (by omega),sz z hz,Ln,Og,g.pv z hz u hu]
       show _=if u.1=z.1 then(1:Int)else 0
       split<;>exact jT (by omega) (by omega)
     · show(scl p w a).getD z.1 0=if v=z.1 then(1:Int)else 0
       rw[sz z hz,if_neg (L3 (ne z hz))]
   · rcases mem x hx with⟨u,hu,rfl⟩|rfl
     · show(clr p u.2 (scl p w a) v).getD v 0=if u.1=v then(1:Int)else 0
       rw[cl u hu v (by omega),sv,MQ,Int.sub_self,if_neg (ne u hu)];exact jT (by omega) (by omega)
     · show(scl p w a).getD v 0=if v=v then(1:Int)else 0
       rw[sv,if_pos rfl]
 · rcases mem y hy with⟨z,hz,rfl⟩|rfl
   · exact Gd.clr (g.fg z hz).1 sl (g.gd z hz) (Gd.scl a1.1 a2)
   · exact Gd.scl a1.1 a2
 · have s0:(scl p w a).getD (C+k) 0=0:=by rw[sa (C+k) (by omega),a6 k (by omega) h2,Ln];exact jT (by omega) (by omega)
   rcases mem y hy with⟨z,hz,rfl⟩|rfl
   · show(clr p z.2 (scl p w a) v).getD (C+k) 0=0
     rw[cl z hz (C+k) (by omega),s0,g.su z hz k (by omega) h2,Ln,Og];exact jT (by omega) (by omega)
   · exact s0
 · -- every row is told by the kept ones
   have hil:i<T.length:=by omega
   obtain⟨q,hq⟩:∃q:Int,∀c,c<C+T.length->Cg p ((T.getD i []++uni T.length i).getD c 0) (KS ks (fun z=>(T.getD i []).getD z.1 0*z.2.getD c 0)+q*(scl p w a).getD c 0):=by
    by_cases e:i<n
    · exact⟨0,fun c hc=>(g.jj i e c hc).trans (.of (by omega))⟩
    · have e:i=n:=by omega
      subst e
      refine⟨w.getD v 0,fun c hc=>(a3' c hc).trans ?_⟩
      rw[Int.add_comm]
      refine(Cg.refl _).add ?_
      rw[sa c hc]
      refine Cg.symm (((Cg.refl _).mul (Cg.mod _)).trans ?_)
      refine Cg.trans (.of (show w.getD v 0*(a*w.getD c 0)=a*w.getD v 0*w.getD c 0 by grind)) ((ha.mul (.refl _)).trans (.of (by omega)))
   have qv:=hq v (by omega)
   rw[sF (by rw[hTl i hil];exact hv),sv,MQ]at qv
   refine(hq c hc).trans ?_
   rw[xj,Am]
   show Cg p _ ((KS ks fun z=>(T.getD i []).getD z.1 0*(clr p z.2 (scl p w a) v).getD c 0)+(T.getD i []).getD v 0*(scl p w a).getD c 0)
   refine Cg.symm (((Ce (g:=fun z=>(T.getD i []).getD z.1 0*z.2.getD c 0 + -((T.getD i []).getD z.1 0*z.2.getD v 0)*(scl p w a).getD c 0) fun z hz=>?_).add (qv.mul (.refl _))).trans ?_)
   · exact((Cg.refl _).mul (lE (g.fg z hz).1 sl hc)).trans (.of (by grind))
   · rw[An,uj]
     refine .of ?_
     have:(KS ks fun z=>-((T.getD i []).getD z.1 0*z.2.getD v 0)) = -(KS ks fun z=>(T.getD i []).getD z.1 0*z.2.getD v 0):=by
      have:=uj ks (fun z=>(T.getD i []).getD z.1 0*z.2.getD v 0) (-1)
      simp only[Pv,MQ]at this
      exact this
     rw[this]
     grind
def xrow(C R:Nat)(ks:Kp)(c:Nat):List Int:=match ks.find? (fun z=>decide (z.1=c))with
 | some z=>z.2.drop C
 | none=>IH R 0
theorem ot(R k:Nat):(IH R (0:Int)).getD k 0=0:=by
 rw[Ix,Ma];split<;>rfl
theorem kf{C R k:Nat}(f:Nat->Int):∀{ks:Kp},(ks.map (·.1)).Nodup->(∀z∈ks,z.1<C)->Sg C (fun c=>f c*(xrow C R ks c).getD k 0)=KS ks fun z=>f z.1*z.2.getD (C+k) 0
 | [],_,_=>by
   rw[fP (g:=fun _=>0) C fun c hc=>by show f c*(IH R 0).getD k 0=0;rw[ot,Ln],fO];rfl
 | z::ks,nd,lt=>by
   rw[IP,JX]at nd
   have lz:=lt z Iz
   rw[cr,<- kf f nd.2 fun y hy=>lt y (Ir _ hy)]
   rw[<- lL C lz (f z.1*z.2.getD (C+k) 0),<- lM]
   refine fP C fun c hc=>?_
   by_cases e:c=z.1
   · subst e
     rw[if_pos rfl]
     have e1:xrow C R (z::ks) z.1=z.2.drop C:=by unfold xrow;rw[JY];simp
     have e2:xrow C R ks z.1=IH R 0:=by
      unfold xrow
      have:ks.find? (fun y=>decide (y.1=z.1))=none:=by
       rw[List.find?_eq_none]
       intro y hy h
       exact nd.1 (by rw[<- of_decide_eq_true h];exact KY hy)
      rw[this]
     rw[e1,e2,ot,fF];omega
   · rw[if_neg e]
     have e1:xrow C R (z::ks) c=xrow C R ks c:=by unfold xrow;rw[JY];simp[L3 e]
     rw[e1];omega
def IsRi(p:Int)(C:Nat)(T X:List (List Int)):Prop:=X.length=C/\(∀r∈X,Fg p T.length r)/\∀i,i<T.length->∀k,k<T.length->Cg p (Sg C fun c=>(T.getD i []).getD c 0*(X.getD c []).getD k 0) (if k=i then 1 else 0)
theorem GI.ri(p2:2<=p)(ht:∀t∈T,Fg p C t)(g:GI p C T.length T T.length ks):IsRi p C T ((IN C).map fun c=>xrow C T.length ks c):=by
 refine⟨by simp,fun r hr=>?_,fun i hi k hk=>?_⟩
 · obtain⟨c,_,rfl⟩:=Jo.mp hr
   unfold xrow
   split
   · rename_i z e
     have fz:=g.fg z (Nu e)
     exact⟨by rw[KM,fz.1];omega,fun k hk=>by rw[fF];exact fz.2 _ (by omega)⟩
   · exact⟨by simp,fun k hk=>by rw[ot];omega⟩
 · have hT:(T.getD i []).length=C:=by rw[Ix,Iy hi];exact(ht _ (JA hi)).1
   have e:∀c,c<C->(T.getD i []).getD c 0*(((IN C).map fun c=>xrow C T.length ks c).getD c []).getD k 0=(T.getD i []).getD c 0*(xrow C T.length ks c).getD k 0:=fun c hc=>by
    congr 2
    rw[Ix,Iy (by simpa using hc)]
    simp
   rw[fP C e,kf _ g.nd g.lt]
   have j:=g.jj i hi (C+k) (by omega)
   rw[<- hT,sE,kF hk,hT]at j
   exact j.symm
def Ind(p:Int)(C:Nat)(T:List (List Int)):Prop:=∀f:Nat->Int,(∀c,c<C->Cg p (Sg T.length fun k=>f k*(T.getD k []).getD c 0) 0)->∀k,k<T.length->Cg p (f k) 0
theorem IsRi.ind{X:List (List Int)}(h:IsRi p C T X):Ind p C T:=fun f hf k hk=>by
 have e1:Cg p (Sg C fun c=>(Sg T.length fun i=>f i*(T.getD i []).getD c 0)*(X.getD c []).getD k 0) 0:=by
  refine(sG (g:=fun _=>0) C fun c hc=>((hf c hc).mul (.refl _)).trans (.of (by omega))).trans (.of (fO C))
 have e2:(Sg C fun c=>(Sg T.length fun i=>f i*(T.getD i []).getD c 0)*(X.getD c []).getD k 0)=Sg T.length fun i=>f i*Sg C fun c=>(T.getD i []).getD c 0*(X.getD c []).getD k 0:=by
  have a1:(fun c=>(Sg T.length fun i=>f i*(T.getD i []).getD c 0)*(X.getD c []).getD k 0)=fun c=>Sg T.length fun i=>f i*((T.getD i []).getD c 0*(X.getD c []).getD k 0):=by
   funext c
   rw[Nm,<- jh]
   congr 1
   funext i
   grind
  rw[a1,xf]
  congr 1
  funext i
  rw[jh]
 rw[e2]at e1
 have e3:Cg p (Sg T.length fun i=>f i*Sg C fun c=>(T.getD i []).getD c 0*(X.getD c []).getD k 0) (f k):=by
  refine(sG (g:=fun i=>if i=k then f k else 0) T.length fun i hi=>((Cg.refl (f i)).mul (h.2.2 i hi k hk)).trans (.of ?_)).trans (.of (lL T.length hk (f k)))
  by_cases e:i=k
  · subst e;simp
  · rw[if_neg (L3 e),if_neg e];simp
 exact e3.symm.trans e1
theorem Hg.not{h:List Int}(a:Hg p C T h):¬Ind p C T:=fun i=>by
 obtain⟨k,hk,ne⟩:=a.ne
 have:=i (fun k=>h.getD k 0) a.no k hk
 exact ne (this.eq (a.fg.2 k hk).1 (a.fg.2 k hk).2 (by omega) (by have:=a.fg.2 k hk;omega))
theorem v_:∀(C:Nat)(l:List Nat),l.Nodup->(∀x∈l,x<C)->l.length<=C
 | 0,l,_,h=>by
   cases l with
   | nil=>exact ID _
   | cons x l=>exact absurd (h x Iz) (by omega)
 | C+1,l,nd,h=>by
   by_cases m:C∈l
   · have:=v_ C (l.erase C) (nd.erase C) fun x hx=>by
       rw[nd.mem_erase_iff]at hx
       have:=h x hx.2
       omega
     rw[L7 m]at this
     omega
   · have:=v_ C l nd fun x hx=>by
       have h1:=h x hx
       have:x≠C:=fun e=>m (e▸hx)
       omega
     omega
theorem GI.le(g:GI p C T.length T n ks):n<=C:=by
 have:=v_ C (ks.map (·.1)) g.nd fun x hx=>by
  obtain⟨z,hz,rfl⟩:=Jo.mp hx
  exact g.lt z hz
 rw[IE,g.len]at this
 exact this
def lq{α:Type}(a:Nat)(v:α)(g:Nat->α)(k:Nat):α:=if k<a then g k else if k=a then v else g (k-1)
theorem uf{a:Nat}{v:Int}{g:Nat->Int}:∀n,a<=n->Sg (n+1) (lq a v g)=Sg n g+v
 | 0,h=>by
   obtain rfl:a=0:=by omega
   simp[Sg,lq]
 | n+1,h=>by
   rw[bP]
   by_cases e:a=n+1
   · subst e
     rw[fP (g:=g) (n+1) fun k hk=>by unfold lq;rw[if_pos hk]]
     simp[lq]
   · rw[uf n (by omega),bP]
     have:lq a v g (n+1)=g n:=by unfold lq;rw[if_neg (by omega),if_neg (by omega)];rfl
     rw[this];omega
theorem pq{T:List α}{row d:α}{a k:Nat}(ha:a<=T.length)(hk:k<T.length+1):(T.take a++row::T.drop a).getD k d=lq a row (fun k=>T.getD k d) k:=by
 unfold lq
 rw[Ix]
 have l:(T.take a).length=a:=by rw[JQ];omega
 by_cases h1:k<a
 · rw[KF (by omega),if_pos h1,L5 h1];exact(Ix).symm
 · rw[K0 (by omega),if_neg h1,l]
   by_cases h2:k=a
   · subst h2;simp
   · rw[if_neg h2]
     obtain⟨j,rfl⟩:∃j,k=a+1+j:=⟨k-a-1,by omega⟩
     rw[show a+1+j-a=j+1 by omega,NL,List.getElem?_drop]
     show T[a+j]?.getD d=T.getD (a+1+j-1) d
     rw[Ix,show a+1+j-1=a+j by omega]
theorem v6(p2:2<=p){row:List Int}{w:Nat->Int}{a:Nat}(ha:a<=T.length)(hw:∀c,c<C->Cg p (row.getD c 0) (Sg T.length fun k=>w k*(T.getD k []).getD c 0)):¬Ind p C (T.take a++row::T.drop a):=fun h=>by
 have ln:(T.take a++row::T.drop a).length=T.length+1:=by simp;omega
 have q:=h (lq a (-1) w) (fun c hc=>by
  rw[ln]
  have e:∀k,k<T.length+1->lq a (-1) w k*((T.take a++row::T.drop a).getD k []).getD c 0=lq a (-1*row.getD c 0) (fun k=>w k*(T.getD k []).getD c 0) k:=fun k hk=>by
   rw[pq ha hk]
   unfold lq
   split
   · rfl
   · split<;>rfl
  rw[fP _ e,uf _ ha]
  exact((hw c hc).symm.add (.refl _)).trans (.of (by omega))) a (by omega)
 have e:lq a (-1) w a = -1:=by unfold lq;rw[if_neg (by omega),if_pos rfl]
 rw[e,Cg.iff]at q
 have:(-1:Int)%p=p-1:=by rw[show(-1:Int)=p-1+p*(-1) by omega,LY];exact Ll (by omega) (by omega)
 rw[this,Int.zero_emod]at q
 omega
end
def Ci(p:Int)(C:Nat)(T:List (List Int)):Prop:=∀cs:List (Int×List Int),cs.map (·.2)=T->(∀c,c<C->Cg p (cs.map fun z=>z.1*z.2.getD c 0).sum 0)->∀z∈cs,Cg p z.1 0
theorem xb(cs:List α)(d:α)(g:α->Int):Sg cs.length (fun k=>g (cs.getD k d))=(cs.map g).sum:=by
 unfold Sg
 congr 1
 refine MF (by simp) fun k a b=>?_
 have hk:k<cs.length:=by simpa using b
 rw[Ly,Ly,Mj,Ix,Iy hk];rfl
theorem BH{p:Int}{C:Nat}:Ind p C T↔Ci p C T:=by
 constructor
 · intro h cs e hs z mz
   obtain⟨k,hk,rfl⟩:=M7 mz
   have hl:T.length=cs.length:=by rw[<- e,IE]
   have eT:∀k,T.getD k []=(cs.getD k (0,[])).2:=fun k=>by
    rw[<- e,Ix,Ix,Jj];cases cs[k]?<;>rfl
   have q:=h (fun k=>(cs.getD k (0,[])).1) (fun c hc=>by
    have:=hs c hc
    rw[<- xb cs (0,[]) fun z=>z.1*z.2.getD c 0]at this
    rw[hl]
    refine(Cg.of (fP _ fun k _=>?_)).trans this
    rw[eT]) k (by omega)
   have e1:cs.getD k (0,[])=cs[k]:=by rw[Ix,Iy hk];rfl
   have q:Cg p (cs.getD k (0,[])).1 0:=q
   rwa [e1]at q
 · intro h f hf k hk
   refine h ((IN T.length).map fun k=>(f k,T.getD k [])) ?_ (fun c hc=>?_) (f k,T.getD k []) (Jo.mpr ⟨k,JB.mpr hk,rfl⟩)
   · rw[Jp]
     refine MF (by simp) fun i a b=>?_
     have hi:i<T.length:=by simpa using a
     simp[Ix,Iy hi]
   · rw[Jp];exact hf c hc
theorem lift_perm:∀{T T':List β},T.Perm T'->∀cs:List (α×β),cs.map (·.2)=T->∃cs',cs.Perm cs'/\cs'.map (·.2)=T':=by
 intro T T' h
 induction h with
 | nil=>intro cs e;exact⟨cs,.refl _,e⟩
 | @cons x l₁ l₂ h ih =>
   intro cs e
   cases cs with
   | nil=>cases e
   | cons z cs =>
     rw[IP,J9]at e
     obtain⟨cs',h1,h2⟩:=ih cs e.2
     exact⟨z::cs',.cons z h1,by rw[IP,e.1,h2]⟩
 | swap x y l =>
   intro cs e
   cases cs with
   | nil=>cases e
   | cons z cs =>
     cases cs with
     | nil=>simp at e
     | cons z' cs =>
       simp only[IP,J9]at e
       exact⟨z'::z::cs,.swap z' z cs,by simp only[IP,e.1,e.2.1,e.2.2]⟩
 | trans _ _ ih1 ih2 =>
   intro cs e
   obtain⟨cs1,a1,b1⟩:=ih1 cs e
   obtain⟨cs2,a2,b2⟩:=ih2 cs1 b1
   exact⟨cs2,a1.trans a2,b2⟩
theorem re{l l':List Int}(h:l.Perm l'):l.sum=l'.sum:=by
 induction h with
 | nil=>rfl
 | cons x _ ih=>rw[J0,J0,ih]
 | swap x y l=>rw[J0,J0,J0,J0];omega
 | trans _ _ a b=>exact a.trans b
theorem Ci.perm{p:Int}{C:Nat}{T':List (List Int)}(h:T.Perm T')(i:Ci p C T):Ci p C T':=fun cs e hs z mz=>by
 obtain⟨cs',h1,h2⟩:=lift_perm h.symm cs e
 exact i cs' h2 (fun c hc=>by rw[re (h1.symm.map _)];exact hs c hc) z (h1.mem_iff.mp mz)
theorem rG{T':List (List Int)}(h:T'.Sublist T):∀cs:List (Int×List Int),cs.map (·.2)=T'->∃cs':List (Int×List Int),cs'.map (·.2)=T/\(∀z∈cs,z∈cs')/\∀c,(cs'.map fun z=>z.1*z.2.getD c 0).sum=(cs.map fun z=>z.1*z.2.getD c 0).sum:=by
 induction h with
 | slnil=>intro cs e;exact⟨cs,e,fun z h=>h,fun _=>rfl⟩
 | cons a h ih =>
   intro cs e
   obtain⟨cs',h1,h2,h3⟩:=ih cs e
   exact⟨(0,a)::cs',by rw[IP,h1],fun z hz=>Ir _ (h2 z hz),fun c=>by rw[IP,J0,h3];omega⟩
 | cons_cons a h ih =>
   intro cs e
   cases cs with
   | nil=>cases e
   | cons z cs =>
     rw[IP,J9]at e
     obtain⟨cs',h1,h2,h3⟩:=ih cs e.2
     refine⟨z::cs',by rw[IP,h1,e.1],fun y hy=>?_,fun c=>by rw[IP,IP,J0,J0,h3]⟩
     rcases Jf.mp hy with rfl|hy
     · exact Iz
     · exact Ir _ (h2 y hy)
theorem Ind.sub{p:Int}{C:Nat}{T':List (List Int)}(h:T'.Sublist T)(i:Ind p C T):Ind p C T':=BH.mpr fun cs e hs z mz=>by
 obtain⟨cs',h1,h2,h3⟩:=rG h cs e
 exact BH.mp i cs' h1 (fun c hc=>by rw[h3];exact hs c hc) z (h2 z mz)
theorem Ind.perm{p:Int}{C:Nat}{T T':List (List Int)}(h:T.Perm T')(i:Ind p C T):Ind p C T':=BH.mpr ((BH.mp i).perm h)
def jD(ts:List (List (List Int)))(ks:List Int):List (List Int):=(ts.zip ks).flatMap fun z=>z.1.take z.2.toNat
def Net(p:Int)(m:Nat)(ts:List (List (List Int)))(w:Int):Prop:=∀ks:List Int,ks.length=ts.length->(∀k∈ks,0<=k)->ks.sum=w->Ind p m (jD ts ks)
theorem Net.down{p:Int}{w:Int}(t1:1<=ts.length)(h:Net p m ts (w+1)):Net p m ts w:=fun ks kl k0 ksum=>by
 cases ts with
 | nil=>simp at t1
 | cons t ts =>
   cases ks with
   | nil=>simp at kl
   | cons k ks =>
     have k0':=k0 k Iz
     refine(h ((k+1)::ks) (by simpa using kl) (fun y hy=>?_) (by rw[J0]at ksum ⊢;omega)).sub ?_
     · rcases Jf.mp hy with rfl|hy
       · omega
       · exact k0 y (Ir _ hy)
     · unfold jD
       rw[La,KQ,La,KQ]
       refine List.Sublist.append ?_ (List.Sublist.refl _)
       show(t.take k.toNat).Sublist (t.take (k+1).toNat)
       have:t.take k.toNat=(t.take (k+1).toNat).take k.toNat:=by rw[List.take_take];congr 1;omega
       rw[this]
       exact List.take_sublist _ _
theorem Net.le{p:Int}{m:Nat}{ts:List (List (List Int))}(t1:1<=ts.length):∀(n:Nat){w:Int},Net p m ts (w+n)->Net p m ts w
 | 0,w,h=>by simpa using h
 | n+1,w,h=>Net.le t1 n (Net.down t1 (by rwa [show w+(n:Int)+1=w+((n+1:Nat):Int) by omega]))
def kOf:List Nat->List Int->Nat->Int
 | j::js,k::ks,i=>if i=j then k else kOf js ks i
 | _,_,_=>0
theorem tR:∀{js:List Nat}{ks:List Int}{i:Nat},i∉js->kOf js ks i=0
 | [],_,_,_=>by unfold kOf;rfl
 | j::js,[],_,_=>by unfold kOf;rfl
 | j::js,k::ks,i,h=>by
   rw[kOf,if_neg fun e=>h (by rw[e];exact Iz)]
   exact tR fun m=>h (Ir _ m)
theorem tS:∀{js:List Nat}{ks:List Int}(i:Nat),(∀k∈ks,0<=k)->0<=kOf js ks i
 | [],_,_,_=>by unfold kOf;exact Mu _
 | j::js,[],_,_=>by unfold kOf;exact Mu _
 | j::js,k::ks,i,h=>by
   rw[kOf]
   split
   · exact h k Iz
   · exact tS i fun y hy=>h y (Ir _ hy)
theorem lx{α:Type}{X:List α}{G:Nat->List α}{j:Nat}(h0:G j=[]):∀n,j<n->((IN n).flatMap fun i=>if i=j then X else G i).Perm (X++(IN n).flatMap G)
 | 0,h=>by omega
 | n+1,h=>by
   rw[M6,M8,M8]
   by_cases e:j=n
   · subst e
     have e1:((IN j).flatMap fun i=>if i=j then X else G i)=(IN j).flatMap G:=by
      rw[List.flatMap_def,List.flatMap_def]
      congr 1
      exact Kl fun i mi=>by rw[if_neg (by have:=JB.mp mi;omega)]
     rw[e1]
     simp only[KQ,List.flatMap_nil,JS,if_true,h0]
     exact List.perm_append_comm
   · have ih:=lx (X:=X) h0 n (by omega)
     simp only[KQ,List.flatMap_nil,JS]
     rw[if_neg (by omega),<- LS]
     exact ih.append_right _
theorem Ak{k:Int}{g:Nat->Int}(h0:g j=0)(n:Nat)(hj:j<n):Sg n (fun i=>if i=j then k else g i)=k+Sg n g:=by
 have h:Sg n (fun i=>if i=j then k else g i)=Sg n (fun i=>(if i=j then k else 0)+g i):=fP n fun i hi=>by
  by_cases e:i=j
  · subst e;rw[if_pos rfl,if_pos rfl,h0];omega
  · rw[if_neg e,if_neg e];omega
 rw[h,lM,lL n hj]
theorem kK{A:Nat->List (List Int)}{n:Nat}:∀(js:List Nat)(ks:List Int),js.Nodup->(∀j∈js,j<n)->js.length=ks.length ->
 ((js.zip ks).flatMap fun z=>(A z.1).take z.2.toNat).Perm ((IN n).flatMap fun i=>(A i).take (kOf js ks i).toNat)/\Sg n (kOf js ks)=ks.sum
 | [], [], _, _, _=>by
   refine⟨?_,?_⟩
   · have:((IN n).flatMap fun i=>(A i).take (kOf [] [] i).toNat)=[]:=by
       rw[List.flatMap_eq_nil_iff];intro i _;unfold kOf;simp
     rw[this];exact .refl _
   · rw[fP (g:=fun _=>0) n fun i _=>by unfold kOf;rfl,fO];rfl
 | j::js,k::ks,nd,lt,hl=>by
   rw[JX]at nd
   obtain⟨h1,h2⟩:=kK (A:=A) js ks nd.2 (fun x hx=>lt x (Ir _ hx)) (by simpa using hl)
   have hj:=lt j Iz
   have h0:kOf js ks j=0:=tR nd.1
   refine⟨?_,?_⟩
   · rw[La,KQ]
     have e:(fun i=>(A i).take (kOf (j::js) (k::ks) i).toNat)=fun i=>if i=j then(A j).take k.toNat else(A i).take (kOf js ks i).toNat:=by
      funext i
      rw[kOf]
      by_cases e:i=j
      · subst e;rw[if_pos rfl,if_pos rfl]
      · rw[if_neg e,if_neg e]
     rw[e]
     refine Py.trans ?_ (lx (G:=fun i=>(A i).take (kOf js ks i).toNat) (by show(A j).take (kOf js ks j).toNat=[];rw[h0];simp) n hj).symm
     exact Oh _ h1
   · have e:kOf (j::js) (k::ks)=fun i=>if i=j then k else kOf js ks i:=by funext i;rw[kOf]
     rw[e,Ak h0 n hj,h2,J0]
 | [],_::_,_,_,hl=>by simp at hl
 | _::_,[],_,_,hl=>by simp at hl
def sel(ts:List (List (List Int)))(js:List Nat):List (List (List Int)):=js.map fun j=>ts.getD j []
theorem ig{α β γ:Type}(f:α->β):∀(l:List α)(ks:List γ),(l.map f).zip ks=(l.zip ks).map fun z=>(f z.1,z.2)
 | [],_=>rfl
 | _::_,[]=>rfl
 | a::l,k::ks=>by rw[IP,La,La,IP,ig f l ks]
theorem kH(ts:List (List (List Int))):(IN ts.length).map (fun i=>ts.getD i [])=ts:=by
 refine MF (by simp) fun i a b=>?_
 rw[Ly,Mj,Ix,Iy b];rfl
theorem Net.sel{p:Int}{m:Nat}{ts:List (List (List Int))}{w:Int}{js:List Nat}(nd:js.Nodup)(lt:∀j∈js,j<ts.length)(h:Net p m ts w):Net p m (sel ts js) w:=fun ks kl k0 ksum=>by
 have kl':js.length=ks.length:=by rw[kl];unfold GA.sel;simp
 obtain⟨h1,h2⟩:=kK (A:=fun i=>ts.getD i []) js ks nd lt kl'
 have q:=h ((IN ts.length).map (kOf js ks)) (by simp) (fun k hk=>by obtain⟨i,_,rfl⟩:=Jo.mp hk;exact tS i k0) (by show Sg _ _=_;rw[h2];exact ksum)
 refine q.perm ?_
 have e1:jD ts ((IN ts.length).map (kOf js ks))=(IN ts.length).flatMap fun i=>(ts.getD i []).take (kOf js ks i).toNat:=by
  unfold jD
  have:ts.zip ((IN ts.length).map (kOf js ks))=(IN ts.length).map fun i=>(ts.getD i [],kOf js ks i):=by
   conv=>lhs;rw[<- kH ts]
   refine MF (by simp) fun i a b=>?_
   simp
  rw[this,List.flatMap_map]
 have e2:jD (GA.sel ts js) ks=(js.zip ks).flatMap fun z=>(ts.getD z.1 []).take z.2.toNat:=by
  unfold jD GA.sel
  rw[ig,List.flatMap_map]
 rw[e1,e2]
 exact h1.symm
theorem sel_len(ts:List (List (List Int)))(js:List Nat):(sel ts js).length=js.length:=by unfold sel;simp
theorem tN{α β:Type}{f:α->β}:∀{l:List α},(∀a∈l,∀b∈l,f a=f b->a=b)->l.Nodup->(l.map f).Nodup
 | [],_,_=>.nil
 | x::l,h,nd=>by
   rw[JX]at nd
   rw[IP,JX]
   refine⟨fun m=>?_,tN (fun a ha b hb=>h a (Ir _ ha) b (Ir _ hb)) nd.2⟩
   obtain⟨y,hy,e⟩:=Jo.mp m
   exact nd.1 (by rw[<- h y (Ir _ hy) x Iz e];exact hy)
theorem Net.order{p:Int}{w:Int}{js:List Nat}(pm:js.Perm (IN ts.length)):Net p m (GA.sel ts js) w↔Net p m ts w:=by
 have nd:js.Nodup:=pm.nodup_iff.mpr MG
 have ln:js.length=ts.length:=by rw[pm.length_eq];simp
 have lt:∀j∈js,j<ts.length:=fun j hj=>JB.mp (pm.mem_iff.mp hj)
 have all:∀i,i<ts.length->i∈js:=fun i hi=>pm.mem_iff.mpr (JB.mpr hi)
 refine⟨fun h=>?_,fun h=>h.sel nd lt⟩
 have at':∀i,i<ts.length->js.idxOf i<js.length/\js[js.idxOf i]?=some i:=fun i hi=>by
  have h1:=List.idxOf_lt_length_iff.mpr (all i hi)
  exact⟨h1,by rw[Iy h1];simp⟩
 have e:GA.sel (GA.sel ts js) ((IN ts.length).map fun i=>js.idxOf i)=ts:=by
  unfold GA.sel
  rw[Jp]
  conv=>rhs;rw[<- kH ts]
  refine Kl fun i mi=>?_
  have hi:=JB.mp mi
  obtain⟨h1,h2⟩:=at' i hi
  show(js.map fun j=>ts.getD j []).getD (js.idxOf i) []=ts.getD i []
  rw[Ix,Jj,h2];rfl
 rw[<- e]
 refine Net.sel (ts:=GA.sel ts js) ?_ (fun j hj=>?_) h
 · refine tN (fun a ha b hb e=>?_) MG
   have h1:=(at' a (JB.mp ha)).2
   have h2:=(at' b (JB.mp hb)).2
   rw[e,h2]at h1
   exact(Jh h1).symm
 · obtain⟨i,mi,rfl⟩:=Jo.mp hj
   rw[sel_len]
   exact(at' i (JB.mp mi)).1
structure Str (p:Int) (m:Nat) (ts:List (List (List Int))) (o:Int):Prop where
 o0:0<=o
 om:o<=m
 net:o≠0->Net p m ts o
 top:∀w,o<w->w<=m->¬Net p m ts w
theorem Str.all{p:Int}{o w:Int}(h:Str p m ts o)(t1:1<=ts.length)(w1:1<=w)(wo:w<=o):Net p m ts w:=by
 have q:=h.net (by omega)
 exact Net.le t1 (o-w).toNat (by rwa [show w+((o-w).toNat:Int)=o by omega])
theorem Str.le{p:Int}{ts':List (List (List Int))}{o o':Int}(h:Str p m ts o)(h':Str p m ts' o')(i:∀w,Net p m ts w->Net p m ts' w):o<=o':=by
 have:=h.o0;have:=h'.o0;have:=h.om
 rcases Int.lt_or_le o' o with z|z
 · exact absurd (i o (h.net (by omega))) (h'.top o z (by omega))
 · exact z
theorem Str.same{p:Int}{ts':List (List (List Int))}{o o':Int}(h:Str p m ts o)(h':Str p m ts' o')(i:∀w,Net p m ts w↔Net p m ts' w):o=o' :=
 Int.le_antisymm (h.le h' fun w=>(i w).mp) (h'.le h fun w=>(i w).mpr)
theorem two_same{p:Int}{t:List (List Int)}{o:Int}(p2:2<=p)(m2:2<=m)(ht:1<=t.length)(h:Str p m [t,t] o):o<=1:=by
 rcases Int.lt_or_le 1 o with z|z
 · have n2:Net p m [t,t] 2:=h.all (by simp) (by omega) (by omega)
   have i:=n2 [1,1] rfl (by simp) rfl
   have e:jD [t,t] [1,1]=([t[0]]:List (List Int)).take 0++t[0]::([t[0]]:List (List Int)).drop 0:=by
    have:t.take 1=[t[0]]:=by cases t with|nil=>simp at ht|cons a t=>simp
    show t.take 1++(t.take 1++[])=_
    rw[this];rfl
   rw[e]at i
   refine absurd i (v6 p2 (T:=[t[0]]) (w:=fun _=>1) (a:=0) (Jz _) fun c hc=>.of ?_)
   simp[Sg]
 · exact z
end L2.GA
namespace L2
section
variable{X:Cx}
end
end L2
namespace L2.VL
section
variable{X:Cx}{rl:RlT}{a e:Expr}{fs:G_}{pos p:Pos}
end
end L2.VL
namespace L2.TM
end L2.TM
namespace L2
section
variable{X:Cx}
end
end L2
namespace L2.VL
section
variable{X:Cx}{rl:RlT}{a b:Expr}{fa fb:TV}{pos:Pos}
end
section
variable{X:Cx}{al:Option Addr}{c:Nat}{a:Expr}{lo hi:Option Expr}{fa:TV}{fl fh:Hb}{pos p2:Pos}{tg:Expr}
end
theorem tX{α:Type}:∀{l:List α}{k:Nat}(h:k<l.length),(l[k]::l.eraseIdx k).Perm l
 | x::l,0,_=>.refl _
 | x::l,k+1,h=>by
   have h':k<l.length:=by simpa using h
   show(l[k]::x::l.eraseIdx k).Perm (x::l)
   exact(Py.swap x l[k] _).trans (.cons x (tX h'))
def Hr(ρ:En):Prop:=∀(i:Nat)(w:W),ρ[i]?=some (some w)->(∃d,w = .d d)\/w = .reel\/∃ns,w = .sc ns
def FR:Option W->Bool
 | some (.d _)=>true
 | some .reel=>true
 | some (.sc _)=>true
 | none=>true
 | _=>false
def FS(ρ:En):Bool:=ρ.all FR
theorem yQ(h:FS ρ=true):Hr ρ:=fun i w e=>by
 have:=KA.mp h (some w) (LZ e)
 cases w<;>first|exact .inl ⟨_,rfl⟩|exact .inr (.inl rfl)|exact .inr (.inr ⟨_,rfl⟩)|cases this
theorem VR.forget{K:W.Frag}(r:VR K rl F₀ H₀ F H σ ρ)(i:Nat):VR K rl F₀ H₀ F H σ (ρ.set i none):=by
 have nd:∀(j:Nat)(y:W),(ρ.set i none)[j]?=some (some y)->ρ[j]?=some (some y):=fun j y z=>by
  rw[JP]at z
  split at z
  · split at z<;>cases z
  · exact z
 exact⟨r.g,fun j w e=>r.sl j w (nd j w e),fun j k x y v n e1 e2=>r.ap j k x y v n (nd j x e1) (nd k y e2),fun j xs e=>r.np j xs (nd j _ e),by rw[N6];exact r.len⟩
theorem VR.moved{K:W.Frag}(r:VR K rl F₀ H₀ F H σ ρ)(n:Hr ρ)(g:Grow rl F₀ H₀ F' H')(s:bm F F'):VR K rl F₀ H₀ F' H' σ ρ:=by
 refine⟨g,fun i w e=>?_,r.ap,r.np,r.len⟩
 obtain⟨v,h1,h2,h3⟩:=r.sl i w e
 rcases n i w e with⟨d,rfl⟩|rfl|⟨ns,rfl⟩
 · exact⟨v,h1,Rep.mono s h2,h3⟩
 · exact⟨v,h1,h2,h3⟩
 · obtain⟨a,ea,q⟩:=h2
   exact⟨v,h1,⟨a,ea,iJ s q⟩,h3⟩
section
variable{X:Cx}{rl:RlT}{iter:Expr}{scope:Scope}{fi:En->(List Im->Prop)->Prop}{xk xl xh f:Str}{ps:List Str}{k:Nat}{Pd:List W->(Im->Prop)->Prop}{pk p1 p2 p3 p4 p5 p6 p7 p8 p9 p10 ap pc rp:Pos}
end
def eX(n io il ih:Nat)(fi:En->(List Im->Prop)->Prop):Ha:=fun Dv ρ=>fi ρ fun xs=>xs.length<=n/\∃ys:List Im,ρ[il]?=some (some (.ml ys))/\ρ[ih]?=some (some .reel)/\xs.length<=ys.length/\ys.length<1000/\FS (ρ.set il none)=true /\
 ∀os:List Im,os.length=xs.length->(∃zs,(os++zs).Perm ys)->Dv.nx ((ρ.set il none).set io (some (.d (.tuple os))))
section
variable{X:Cx}{al:Option Addr}{c1 c2:Nat}{iter:Expr}{scope:Scope}{fi:En->(List Im->Prop)->Prop}{xk xl xh f:Str}{ps:List Str}{k:Nat}{Pd:List W->(Im->Prop)->Prop}{pk p1 p2 p3 p4 p5 p6 p7 p8 p9 p10 ap pc rp:Pos}
theorem mI(n io il ih:Nat){x:Str}(hN:X.N.Nodup)(hc:X.calm=true)(Dd:DfnC X.prog X.w X.K X.mg X.base al c2 f ps k Pd)(hP:∀(m:Int)(Q:Im->Prop),0<m->m<2^60->(∀j:Int,0<=j->j<m->Q (.int j))->Pd [.reel,.d (.int m)] Q)
 (hr:Room k X.A)(hml:X.mg "len" = none)(hmt:X.mg "tuple" = none)(hi:CI X al c1 (.Name xk pk) iter fi)(nd:([xk,xl,xh]:List Str).Nodup)
 (hgk:∀z,PG (blk X [xk,xl,xh] scope z) (.Name xk pk) (fZ 0))
 (he:∀z,(∀{t:TA},PA (blk X [xk,xl,xh] scope z) [.Name xh p4,.Call (.Name "len" p5) [.Name xl p6] [] p7] t->∀{sp:Sp}{fa:Addr}{fd:KO},FnOk X.prog X.w X.K X.mg X.base Ib k fa fd ps sp->X.mg f=some (.ref fa)->W.keepIn X.K (.ref fa)=true->Binds X.K fd ps [] ->
  PE (blk X [xk,xl,xh] scope z) (.Call (.Attribute (.Name xl p2) "pop" ap) [.Call (.Name f p3) [.Name xh p4,.Call (.Name "len" p5) [.Name xl p6] [] p7] [] p8] [] p9) (Fj X.K "list" oy (qL 1) (gS (uY sp [] E0 t) uX))))
 (hl:∀z,PA (blk X [xk,xl,xh] scope z) [.Name xh p4,.Call (.Name "len" p5) [.Name xl p6] [] p7] (gS (qL 2) (gS (Fi (fun xs H Q=>∃p ys,xs=[.ref p]/\(Hj X.K H p ys\/Hi X.K H p ys)/\Q (.int ys.length) H) (gS (qL 1) uX)) uX)))
 (hio:X.N[io]?=some x:=by rfl)(hx:Loc X.env.scope x:=by first|exact J8 rfl|exact Jw rfl)
 (hsw:Ku (.Call (.Name "tuple" p1) [.ListComp (.Call (.Attribute (.Name xl p2) "pop" ap) [.Call (.Name f p3) [.Name xh p4,.Call (.Name "len" p5) [.Name xl p6] [] p7] [] p8] [] p9) [⟨.Name xk pk,iter,[],0⟩] scope pc] [] p10) (some (.Name x px)) rp.line X.env=pure false:=by rfl)(hf:X.fn x=true\/X.env.scope.names.lookup x=some .local:=by first|exact .inl rfl|exact .inr rfl)
 (hfr:jQ [none,some il,some ih] [xk,xl,xh] X.N scope X.env.scope=true:=by rfl)(hsc:kM scope X.env.scope=true:=by rfl)
 (hs:∀x,Jd iter X.env x=pure x:=by intro _;rfl)(hgt:Gl X "tuple" := by rfl)
 (hst:IC [(.ListComp (.Call (.Attribute (.Name xl p2) "pop" ap) [.Call (.Name f p3) [.Name xh p4,.Call (.Name "len" p5) [.Name xl p6] [] p7] [] p8] [] p9) [⟨.Name xk pk,iter,[],0⟩] scope pc)] X.env=(false,eval (.ListComp (.Call (.Attribute (.Name xl p2) "pop" ap) [.Call (.Name f p3) [.Name xh p4,.Call (.Name "len" p5) [.Name xl p6] [] p7] [] p8] [] p9) [⟨.Name xk pk,iter,[],0⟩] scope pc) X.env)::IC [] X.env:=by rfl) :
 CS X al (c1+n*c2) (.Assign [.Name x px] (.Call (.Name "tuple" p1) [.ListComp (.Call (.Attribute (.Name xl p2) "pop" ap) [.Call (.Name f p3) [.Name xh p4,.Call (.Name "len" p5) [.Name xl p6] [] p7] [] p8] [] p9) [⟨.Name xk pk,iter,[],0⟩] scope pc] [] p10) rp) (eX n io il ih fi):=by
 obtain⟨fa,fd,hm,hk,hb,Fo⟩:=Dd.ex
 obtain⟨wi,p0,k0⟩:=hi
 refine⟨_,fq hN hio hx (dL b9 hgt hmt (by rfl) (bT (dJ [xk,xl,xh] [none,some il,some ih] hc p0 hfr hsc hgk (fun z=>gY) (fun z=>he z (hl z) Fo hm hk hb) hs) dM hst) (by decide) (by decide) hst (by rfl)) hsw hf,fun{b F₀ H₀ F H σ ρ} R Dv D ok q=>?_⟩
 refine k0 (b:=b+n*c2) (R.pay (by omega)) _ _ q fun J xs F1 H1 g1 vi ⟨hn,ys,e1,e2,hxy,hyl,hpl,fin⟩=>?_
 intro DD hD
 have R1:=R.gr g1
 obtain⟨v,s1,⟨a,vs,ev,fa1,ra1,ha1,rs1⟩,nw1⟩:=R1.sl il _ e1
 subst ev
 obtain⟨v2,s2,⟨r,er,ev2⟩,_⟩:=R1.sl ih _ e2
 subst ev2
 have nD:DD≠a:=fun z=>by rw[z,ha1]at hD;cases hD
 have H0a:H₀ a=none:=nw1 a rfl
 have H0D:H₀ DD=none:=R1.g.freeB hD
 have rD:al≠some DD:=fun e=>by obtain⟨o,z⟩:=g1.reel.live e;rw[hD]at z;cases z
 have FD:F1 DD=none:=g1.sub.free hD
 have sz:=IQ
 have g10:Grow ⟨al,b+n*c2⟩ F₀ H₀ F1 (upd H1 DD (.lst [])):=R1.g.other H0D FD rD
 refine⟨fun i m acc σc Hc=>m=xs.length-i/\i<=xs.length/\∃Fc us zs ds,Grow ⟨al,b+(n-i)*c2⟩ F₀ H₀ Fc Hc/\bm F1 Fc/\Hc DD=some (.lst acc)/\Fc DD=none/\Reps X.K Fc acc ds/\ds.length=i/\(ds++zs).Perm ys/\Hc a=some (.lst us)/\Fc a=none/\Reps X.K Fc us zs/\zs.length+i=ys.length/\σc.length=3/\σc[1]?=some (some (.ref a))/\σc[2]?=some (some (.ref r)),
  ⟨xs.length,by simp,Jz _,F1,vs,ys,[],g10,.refl _,ak,FD,.nil,rfl,.refl _,by rw[ah (L3 nD)];exact ha1,fa1,rs1,rfl,rfl,?_,?_⟩,?_⟩
 · show some (((σ[il]?).join))=_
   rw[s1];rfl
 · show some (((σ[ih]?).join))=_
   rw[s2];rfl
 rintro z i m acc σc Hc ⟨rfl,hi,Fc,us,zs,ds,gc,smc,hDc,fDc,rds,hdl,hds,hac,fac,ruz,hzl,sl3,sa,sr⟩
 have sH:bm F1 Hc:=smc.trans gc.sub
 by_cases hlt:i<xs.length
 · have ei:xs[i]?=some xs[i]:=by simp[hlt]
   have el:=dF (n:=n) (i:=i) (c:=c2) (by omega)
   refine .inr ⟨(vi 0).go i Hc _ ei sH,fun v H' y=>?_⟩
   obtain⟨Fy,gy,rv⟩:=(vi 0).yld i Hc v H' _ Fc ei smc gc.sub gc.reel y
   have hay:H' a=some (.lst us):=gy.same a _ hac ra1
   have hDy:H' DD=some (.lst acc):=gy.same DD _ hDc rD
   have fay:Fy a=none:=by rw[gy.old a _ hac];exact fac
   have fDy:Fy DD=none:=by rw[gy.old DD _ hDc];exact fDc
   unfold fZ
   dsimp only
   rw[if_pos rfl]
   have t1:(σc.set 0 (some v))[1]?=some (some (.ref a)):=by rw[IM (by decide)];exact sa
   have t2:(σc.set 0 (some v))[2]?=some (some (.ref r)):=by rw[IM (by decide)];exact sr
   have ul:us.length=zs.length:=ruz.length
   have upos:0<us.length:=by omega
   refine⟨.ref a,t1,.inl ⟨rfl,us,.inl (.inl hay)⟩,?_⟩
   refine⟨.ref r,t2,.ref a,t1,a,us,rfl,.inl (.inl (.inl hay)),?_⟩
   refine⟨b+(n-(i+1))*c2,Fy,[.reel,.d (.int us.length)],gy.sub,gy.reel.pay (by omega),.cons ⟨r,er,rfl⟩ (.cons (.int _) .nil),rfl,?_⟩
   refine hP us.length _ (by omega) (by omega) fun j j0 j1 v5 F5 H5 g5 r5=>?_
   have e5:=ay r5
   subst e5
   have ha5:H5 a=some (.lst us):=g5.same a _ hay ra1
   have hD5:H5 DD=some (.lst acc):=g5.same DD _ hDy rD
   have fa5:F5 a=none:=by rw[g5.old a _ hay];exact fay
   have fD5:F5 DD=none:=by rw[g5.old DD _ hDy];exact fDy
   have g05:=(gc.tr gy).tr g5
   have jl:j.toNat<us.length:=by omega
   obtain⟨d,hd,rd⟩:=(ruz.mono (gy.fs.trans g5.fs)).getV (i:=j.toNat) (v:=us[j.toNat]) (by simp[jl])
   refine⟨a,us,j,j.toNat,us[j.toNat],rfl,rfl,ha5,by omega,by omega,?_,by simp[jl],?_⟩
   · unfold OV
     have h1:(if j<0 then j+(us.length:Int)else j)=j:=if_neg (by omega)
     rw[h1]
     first|rw[if_pos (by omega)]|rw[if_neg (by omega)]|(simp;omega)
   · refine⟨by rw[ah nD];exact hD5,by rw[rds.length,hdl];omega,xs.length-(i+1),by omega,rfl,hlt,F5,us.eraseIdx j.toNat,zs.eraseIdx j.toNat,ds++[d],?_,smc.trans (gy.fs.trans g5.fs),ak,fD5,(rds.mono (gy.fs.trans g5.fs)).snoc rd,by simp[hdl],?_,by rw[ah (L3 nD),ak],fa5,(ruz.mono (gy.fs.trans g5.fs)).erase _,?_,by simpa using sl3,t1,t2⟩
     · exact(g05.other H0a fa5 ra1).other H0D fD5 rD
     · have hj:j.toNat<zs.length:=by omega
       have ed:zs[j.toNat]=d:=by rw[Iy hj]at hd;exact Jh hd
       have hq:(d::zs.eraseIdx j.toNat).Perm zs:=by rw[<- ed];exact tX hj
       refine Py.trans ?_ hds
       rw[LS]
       exact Oh ds hq
     · rw[Na (by omega)]
       omega
 · have ee:i=xs.length:=by omega
   refine .inl ⟨(vi 0).stop _ Hc (by omega) sH,?_⟩
   refine⟨DD,acc,rfl,.inl ⟨.inl (.inl hDc),fun l hl=>?_⟩⟩
   have g9:Grow ⟨al,b⟩ F₀ H₀ (upd Fc l (.tup acc)) (upd Hc l (.tup acc)):=(gc.tr (Grow.data gc.sub gc.reel hl)).pay (by omega)
   have sm9:bm Fc (upd Fc l (.tup acc)):=fun b o z=>by rw[ah (aH z (gc.sub.free hl))];exact z
   have nm:Hr (ρ.set il none):=yQ hpl
   have R2:VR X.K ⟨al,b+n*c2⟩ F₀ H₀ F1 H1 σ (ρ.set il none):=R1.forget il
   have R3:=(R2.pay (show b<=b+n*c2 by omega)).moved nm g9 (smc.trans sm9)
   exact ok.nx _ _ _ _ ((g1.fs.trans smc).trans sm9) (R3.set (.refl g9.sub g9.reel) (w:=.d (.tuple ds)) (Rep.tup (.inl (.inl ak)) (rds.mono sm9)) trivial (fun xs z=>by cases z) io) (fin ds (by omega) ⟨zs,hds⟩)
theorem lW{io il ih:Nat}{Q:Fl->Prop}:mS (eX n io il ih fi) ρ Q=(fi ρ fun xs=>xs.length<=n/\∃ys:List Im,ρ[il]?=some (some (.ml ys))/\ρ[ih]?=some (some .reel)/\xs.length<=ys.length/\ys.length<1000/\FS (ρ.set il none)=true/\∀os:List Im,os.length=xs.length->(∃zs,(os++zs).Perm ys)->Q (.nx ((ρ.set il none).set io (some (.d (.tuple os)))))):=rfl
end
end L2.VL
namespace L2
def HV(hi:Int)(n:Nat):It:=⟨fun i _=>i<n,fun i H x H'=>H'=H/\x = .int (hi-i),fun i _=>n<=i⟩
theorem nJ{w:JN}{K:W.Frag}(it:Addr)(hi:Int)(n:Nat):Turn P w K tg (HV hi n) [it] it (fun i h=>OB h it (hi+(i:Nat)*(-1)) ((n:Int)-(i:Nat)) (-1)) where
 mem:=by simp
 obj:=fun i h st b hb=>by
  have e:b=it:=by simpa using hb
  subst e
  exact⟨_,st,fun v z=>by
   have z':Data.fields _=Data.cell v:=z
   cases z'⟩
 keep:=fun i h h' st k=>k it (by simp) _ st
 item:=by
  intro X hP hw hK hc i pins s σ H E I hf st hg
  subst hP hw hK
  obtain⟨f0,f1,f2,f3,f4,f5⟩:=hf it (by simp)
  have W:=Walks.range (prog:=X.prog) (w:=X.w) (I.ok.hd hc) it hi (-1) n
  refine W.item i s _ _ hg st fun v h' tk hv st' kk=>?_
  obtain⟨t,rfl⟩:=hv
  have I1:Inv X pins σ H {s with heap:=h',toks:=tk}:=I.turned (fun b o hb e=>kk b o (by simpa using hb) e) f0 f1 f3 f4 f5
  refine⟨_,rfl,mG (s:={s with heap:=h',toks:=tk}) (n := "range_iterator") st' rfl rfl (by decide) ⟨.int (hi-i),H,I1,⟨t,?_⟩,⟨rfl,rfl⟩,st',fun b hb=>(hf b hb).1⟩⟩
  congr 1
  omega
 done:=by
  intro X hP hw hK hc i pins s σ H E I hf st hg
  subst hP hw hK
  obtain⟨f0,f1,f2,f3,f4,f5⟩:=hf it (by simp)
  exact NT (I.ok.hd hc) st (by have:n<=i:=hg;omega) fun h' eb=>⟨rfl,I.turned (t':=s.toks) (fun b o hb e=>eb b o hb e) f0 f1 f3 f4 f5⟩
 self:=fun _ _ _ _ _ st h=>NU st h
theorem rangeSize_down(a b:Int):Lr a b (-1)=if b<a then a-b else 0:=by
 unfold Lr
 rw[if_neg (by decide)]
 simp only[show(-(-1):Int)=1 by decide,O_]
 by_cases h:b<a
 · rw[if_pos h,if_pos h];omega
 · rw[if_neg h,if_neg h]
theorem small_down{a:Int}(ha : -(2^61)<=a)(ha':a<2^61)(hb : -(2^61)<=b)(hb':b<2^61):OL a b (-1)=true:=by
 unfold OL
 rw[rangeSize_down]
 simp only[Builtin.Range.rangeFitsLong,MD,Bool.or_eq_true,decide_eq_true_eq,beq_iff_eq,show ¬((-1:Int)>0) by decide,if_false]
 split<;>omega
section
variable{X:Cx}{tg:Expr}
def BI(ta:TA):TI:=fun σ H R=>ta σ H fun vs H1=>∃i j:Int,vs=[.int i,.int j,.int (-1)]/\(-(2^61)<=i/\i<2^61 /\ -(2^61)<=j/\j<2^61)/\R (HV i (i-j).toNat) H1
theorem oH{a b c:Expr}{ta:TA}{p:Pos}(hg:Gl X "range")(hm:X.mg "range" = none)(ha:PA X [a,b,c] ta)(hs:IC [a,b,c] X.env=(false,eval a X.env)::IC [b,c] X.env:=by rfl)(hpl:(Kh pos (IC [b,c] X.env)).any (·.1)=false:=by rfl) :
 PI X tg (.Call (.Name "range" p) [a,b,c] [] pos) (BI ta):=by
 intro pins s σ H R I h
 refine Call_ (dn I hg hm O0 (JE (E7 (ha pos pins s σ H _ I h) fun us s1 ⟨vs,H1,I1,r1,q1⟩=>?_) hs hpl))
 obtain⟨i,j,e,⟨h1,h2,h3,h4⟩,q⟩:=q1
 subst e
 cases r1 with
 | cons r rr =>
   cases rr with
   | cons r' rr =>
     cases rr with
     | cons r'' rr =>
       cases rr
       obtain⟨t,rfl⟩:=r
       obtain⟨u,rfl⟩:=r'
       obtain⟨v,rfl⟩:=r''
       refine call_range_3 (by decide) ?_
       refine wpAny_pyIter_range (Pr ..) (small_down h1 h2 h3 h4) ?_
       have I2:Inv X pins σ H1 {s1 with heap:=s1.heap.push {cls:=.type "range", data:=.fields #[.int i t,.int j u,.int (-1) v]}}:=I1.kept (t':=s1.toks) fun b o e=>Iu _ e
       refine⟨(s1.heap.push {cls:=.type "range", data:=.fields #[.int i t,.int j u,.int (-1) v]}).objs.size,[(s1.heap.push {cls:=.type "range", data:=.fields #[.int i t,.int j u,.int (-1) v]}).objs.size],_,_,H1,rfl,
        I2.kept (t':=s1.toks) fun b o e=>Iu _ e,nJ _ i (i-j).toNat,?_,fun b hb=>?_,q⟩
       · have e1:i+((0:Nat):Int)*(-1)=i:=by simp
         have e2:(((i-j).toNat:Nat):Int)-((0:Nat):Int)=Lr i j (-1):=by rw[rangeSize_down];split<;>omega
         show OB _ _ (i+((0:Nat):Int)*(-1)) ((((i-j).toNat:Nat):Int)-((0:Nat):Int)) (-1)
         rw[e1,e2]
         exact IL _ rfl
       · have e:b=(s1.heap.push {cls:=.type "range", data:=.fields #[.int i t,.int j u,.int (-1) v]}).objs.size:=by simpa using hb
         subst e
         exact I2.fpOk (ID _) (I2.hok.fresh (ID _))
end
end L2
namespace L2.VL
section
variable{X:Cx}{rl:RlT}{a b c tg:Expr}{fs:G_}{pos p:Pos}{ρ:En}
def i4(hi:Int)(n:Nat):List Im:=(IN n).map fun(i:Nat)=>.int (hi-i)
theorem i3{hi:Int}{i:Nat}{x:Im}(h:(i4 hi n)[i]?=some x):i<n/\x = .int (hi-i):=by
 unfold i4 at h
 rw[Jj]at h
 by_cases q:i<n
 · rw[List.getElem?_range q]at h;cases h;exact⟨q,rfl⟩
 · rw[LH (by simpa using q)]at h;cases h
theorem iZ(hi:Int)(n:Nat):(i4 hi n).length=n:=by unfold i4;simp
theorem qB{K:W.Frag}(hi:Int)(n:Nat):VIt K rl F (HV hi n) (i4 hi n) :=
 .of (fun i H x e s=>(i3 e).1) (fun i H hl s=>by rw[iZ]at hl;exact hl) (fun i H v H' x e s y=>by
  obtain⟨e1,e2⟩:=y
  subst e2
  rw[(i3 e).2]
  exact⟨e1,.int _⟩)
def Gw(fs:G_):En->(List Im->Prop)->Prop:=fun ρ Q=>fs ρ fun ws=>∃i j:Int,ws=[.d (.int i),.d (.int j),.d (.int (-1))]/\(-(2^61)<=i/\i<2^61 /\ -(2^61)<=j/\j<2^61)/\Q (i4 i (i-j).toNat)
theorem mZ(hm:X.mg "range" = none)(ha:Hs X rl [a,b,c] fs)(hg:Gl X "range" := by rfl)(hs:IC [a,b,c] X.env=(false,eval a X.env)::IC [b,c] X.env:=by rfl)(hpl:(Kh pos (IC [b,c] X.env)).any (·.1)=false:=by rfl) :
 HA X rl tg (.Call (.Name "range" p) [a,b,c] [] pos) (Gw fs):=by
 obtain⟨t,p1,k⟩:=ha
 refine⟨_,oH hg hm p1 hs hpl,fun R Qd Q q h=>k R _ _ q fun vs ws F1 H1 g1 r1 ⟨i,j,ew,b,q1⟩=>?_⟩
 subst ew
 cases r1 with
 | cons ra r1 =>
   obtain⟨v,u,rfl,rv,ru⟩:=yE r1
   have e:=ay ra
   have e':=ay rv
   have e'':=ay ru
   subst e e' e''
   exact⟨i,j,rfl,b,h _ _ F1 H1 g1 (qB i _) q1⟩
def BG(ws:List W):Option (Int×Int):=match ws with
 | [.d (.int i),.d (.int j),.d (.int (-1))]=>some (i,j)
 | _=>none
theorem zG(i j:Int):BG [.d (.int i),.d (.int j),.d (.int (-1))]=some (i,j):=rfl
theorem Bv:Gw fs ρ=GW (fs ρ) fun ws=>aL (BG ws) fun z=>GC (-(2^61)<=z.1/\z.1<2^61 /\ -(2^61)<=z.2/\z.2<2^61) (ret (i4 z.1 (z.1-z.2).toNat)):=by
 show(GW (fs ρ) fun ws=>fun(Q:List Im->Prop)=>∃i j:Int,ws=[.d (.int i),.d (.int j),.d (.int (-1))]/\(-(2^61)<=i/\i<2^61 /\ -(2^61)<=j/\j<2^61)/\Q (i4 i (i-j).toNat))=_
 congr 1;funext ws
 refine af fun Q=>?_
 simp only[ai,GC,ret]
 constructor
 · rintro⟨i,j,rfl,h,q⟩;exact⟨(i,j),rfl,h,q⟩
 · rintro⟨⟨i,j⟩,e,h,q⟩
   unfold BG at e
   split at e
   · cases e;exact⟨i,j,rfl,h,q⟩
   · cases e
end
end L2.VL
namespace K71
open PySem PySem.Spec PyProof.Rows L2 L2.VL
local macro_rules | `(tactic| simp_arith only [$xs,*])=>`(tactic| simp (maxSteps:=2000000) (disch:=(first | assumption | omega | decide)) only [Cs,Cv,Cz,Cy,Cw,Co,Cn,Cr,Cq,Cp,Cu,Ct,AM,FA,Fw,dR,cu,dB,W.cap,Gh,List.replicate,id,↓reduceIte,if_true,Nat.reduceAdd,Nat.reduceSub,Nat.reduceLeDiff,Int.cast_ofNat_Int,Int.reduceBEq,Int.reduceSub,Int.reduceAdd,Int.reduceLT,Int.reduceLE,Int.reduceMul,Int.reduceNeg,reduceCtorEq,gC,$xs,*])
local macro_rules | `(tactic| simp_arith only [$xs,*] at $h:ident)=>`(tactic| simp only [List.cons.injEq,W.d.injEq,PyData.int.injEq,PyData.bool.injEq,PyData.str.injEq,PyData.list.injEq,PyData.tuple.injEq,kG,rE,qJ,cK,and_true,true_and,reduceCtorEq,$xs,*] at $h:ident)
section
variable{P:IZ}{w:JN}{K:Lo}{mg:Str->Option Iw}{base:Heap}{rl:RlT}{al:Option Addr}
def Ax(ws:List W):Prop:=∃(ns:List Int)(k:Int),ws=[.sc ns,.d (.int k)]/\ns.length<=63/\0<=k/\k<1000
theorem iG:FnScope ["_law_script", "_law_at", "_law_cell"] ["_law_script", "_law_at"] (defScope (top 37)):=⟨rfl,rfl,rfl,by decide +kernel,rfl,by decide +kernel,by decide +kernel⟩
theorem d__law_tape(Fn:FnIn K mg "_law_tape" (top 37) ["_law_script", "_law_at"])(Z:Bz mg):DfnR P w K mg base "_law_tape" ["_law_script", "_law_at"] 2 Ax:=by
 have sc:=iG
 obtain⟨f,fd,hm,F,hb⟩:=Fn.ex
 refine⟨f,fd,hm,F.kp,hb,?_⟩
 refine F.ok (k:=1) sc (fun vs H Q E h=>?_) (fun cdv A outer s H vs Q E hr h=>?_)
 · obtain⟨F,ws,_,r,_,⟨ns,k,rfl,_⟩,_⟩:=h
   have:=J6 r
   simpa using this
 · obtain⟨F,ws,sm,r,ao,⟨ns,k,rfl,hn,k0,k1⟩,fin⟩:=h
   obtain⟨T,p,kk⟩:=nO (X:=(lA Ib P w K mg base ["_law_script", "_law_at", "_law_cell"] "_law_tape" (defScope (top 37)) f cdv A outer s H E).nox) (aD 2 sc.nd (vn 1)) (dr (bh hG gM (aT _) (jp Z.len_ (aa (vn 0) ab)) aj) (ax (aD 2 sc.nd (v_add (xX (vn 0) (v_mod (vn 1) (jp Z.len_ (aa (vn 0) ab)))) (v_div (vn 1) (jp Z.len_ (aa (vn 0) ab)))))) bW) (vn 2) (xW Z.max_ (aa aj (aa (v_sub (vn 2) (v_pow aj aj)) ab))) aj
   refine⟨T,p,kk (cD sm (fun _ z=>by cases z) r ao) _ ?_ fin⟩
   simp_arith only[ae]
   by_cases h:(0:Int)<(ns.length:Int)
   · have hz:(ns.length:Int)≠0:=by omega
     obtain⟨z,hz'⟩:∃z,L2.atI ns (k.fmod (ns.length:Int))=some z:=by
      obtain⟨z,e,_⟩:=Ag (xs:=ns) (KC k h) (K6 k h)
      exact⟨z,e⟩
     have cd:ga k (ns.length:Int):=ga.of hz (by omega)
     rw[if_pos (by simpa using h)]
     simp_arith only[ag,ae,hz']
     refine⟨_,rfl,?_⟩
     simp_arith only[ae]
     refine⟨⟨by decide,by decide,by decide⟩,?_⟩
     exact⟨_,_,_,rfl,by omega,rfl⟩
   · rw[if_neg (by simpa using h)]
     refine⟨_,rfl,?_⟩
     simp_arith only[ae]
     refine⟨⟨by decide,by decide,by decide⟩,?_⟩
     exact⟨_,_,_,rfl,by omega,rfl⟩
def be:List W->(Im->Prop)->Prop:=fun ws Q=>∃(m:Int),ws=[.reel,.d (.int m)]/\((0<m)/\(m<2^60))/\∀k:Int,(0<=k/\k<m)->Q (.int k)
theorem be.mono:∀ws (Q Q':Im->Prop),(∀d,Q d->Q' d)->be ws Q->be ws Q':=fun _ _ _ h_ ⟨m,e_,p_,q_⟩=>⟨m,e_,p_,fun o_ ho_=>h_ _ (q_ o_ ho_)⟩
theorem be.len:∀ws (Q:Im->Prop),be ws Q->ws.length=2:=fun _ _ ⟨_,e_,_⟩=>by subst e_;rfl
theorem be.eq(m:Int)(hm:0<m)(hb:m<2^60):be [.reel,.d (.int m)]=GW (anyM fun k:Int=>0<=k/\k<m) fun k=>VL.ret (.int k:Im):=by
 refine af fun Q=>⟨?_,fun q_=>⟨m,rfl,⟨hm,hb⟩,q_⟩⟩
 rintro⟨m',e_,_,q_⟩
 simp_arith only[and_true]at e_
 obtain rfl:=e_
 exact q_
theorem iI:FnScope ["_law_tape_here", "_law_many", "_law_turn", "_law_found", "_law_stirred"] ["_law_tape_here", "_law_many"] (defScope (top 38)):=⟨rfl,rfl,rfl,by decide +kernel,rfl,by decide +kernel,by decide +kernel⟩
theorem d__law_pick(Fn:FnIn K mg "_law_pick" (top 38) ["_law_tape_here", "_law_many"])(Z:Bz mg)    : DfnC P w K mg base al 1 "_law_pick" ["_law_tape_here", "_law_many"] 1 be:=by
 have sc:=iI
 refine DfnC.of Fn sc (be.mono) (be.len) (fun cdv A outer s H E hr=>(wV 2 0 (hr.mono (Jz _)) sc.nd (by decide) (aC (cs fun _=>(dr (bh hG gM (aT _) (nc (i:=0) (hr.mono (Jz _)) (.inl rfl)) aj) (aq (aD 3 sc.nd (v_mod (nc (i:=0) (hr.mono (Jz _)) (.inl rfl)) (vn 1)))
  (aq (ut (i:=0) (hr.mono (Jz _)) (.inl rfl) (v_div (nc (i:=0) (hr.mono (Jz _)) (.inl rfl)) (vn 1)))
  (ax (aG (vn 3))))) bW))
  (aC (cs fun _=>(aD 4 sc.nd (v_mul (v_add (v_add (v_mod (uG (i:=0) (hr.mono (Jz _))) aj) (v_mul (v_mul aj (vn 2)) (vn 2))) aj) aj)))
  (aC (cs fun _=>(aD 4 sc.nd (v_mul (v_add (v_mod (vn 4) aj) (v_mul aj (vn 2))) aj)))
  (dq (cs fun _=>(aG (v_mod (v_div (v_mod (vn 4) aj) aj) (vn 1)))))))))) (by decide) ?_
 rintro ws Q ⟨m,rfl,⟨hm,hb⟩,hQ⟩
 have hm0:m≠0:=by omega
 have hmd:∀i:Int,ga i m:=fun i=>ga.of hm0 (by omega)
 refine aI ?_
 simp_arith only[ag,ae,aY,aZ,az,aB,a_,aA,av,ac]
 refine aw fun n hn=>?_
 have h59:n.natAbs<2^59990:=by
  have h1:=hn.2
  rw[<- MI hn.1]at h1
  exact_mod_cast h1
 have bn:Ii n:=IG h59 (Jm (by decide) (by decide))
 have c1:bV 31 n:=.lt (by decide)
 have bn2:Ii (31*n):=by
  unfold Ii at bn ⊢
  rw[Int.natAbs_mul]
  have h2:n.natAbs<2^59990:=h59
  have:(31:Int).natAbs*n.natAbs<2^5*2^59990:=Nat.mul_lt_mul'' (by decide) h2
  rw[<- Nat.pow_add]at this
  exact IG this (Jm (by decide) (by decide))
 have c2:bV (31*n) n:=.bb bn2 bn
 have c3:bV 7 n:=.lt (by decide)
 have c4:∀z:Int,bV z 48271:=fun z=>.rt (by decide)
 have c5:∀z:Int,bV z 69621:=fun z=>.rt (by decide)
 have d7:∀z:Int,ga z 7:=fun z=>ga.of (by decide) (by decide)
 (with_reducible (first|refine aw fun l hl=>?_|refine aE fun l hl=>?_))
 rw[sq_ite]
 refine cM (fun _=>?_) fun _=>?_
 · simp_arith only[ag,ae,aY,aZ,az,aB,a_,aA,av,ac]
   (with_reducible (first|refine aw fun l2 hl2=>?_|refine aE fun l2 hl2=>?_))
   try simp_arith only[ag,ae,aY,aZ,az,aB,a_,aA,av,ac]
   (with_reducible (first|refine aw fun l3 hl3=>?_|refine aE fun l3 hl3=>?_))
   have h0:=Int.fdiv_nonneg hl3 (show 0<=m by omega)
   try simp_arith only[ag,ae,aY,aZ,az,aB,a_,aA,av,ac]
   exact bI (hmd _) (aP (hQ _ ⟨KC _ hm,K6 _ hm⟩))
 · simp_arith only[ag,ae,aY,aZ,az,aB,a_,aA,av,ac]
   (with_reducible (first|refine aw fun z hz=>?_|refine aE fun z hz=>?_))
   try simp_arith only[ag,ae,aY,aZ,az,aB,a_,aA,av,ac]
   exact bI (c4 _) (bI (c5 _) (bI (d7 _) (aP (hQ _ ⟨KC _ hm,K6 _ hm⟩))))
def tbD(t:List (List Int)):Im:=.tuple (t.map aK)
def mR(p:Int)(r c:Nat)(t:List (List Int)):Prop:=t.length=r/\∀row∈t,row.length=c/\∀x∈row,0<=x/\x<p
theorem cf(xs:List Int):Ji (xs.map IJ)=aK xs:=rfl
def bO:List W->(Im->Prop)->Prop:=fun ws Q=>∃(p r c:Int),ws=[.reel,.d (.int p),.d (.int r),.d (.int c)]/\((2<=p)/\(p<=7)/\(1<=r)/\(r<=8)/\(1<=c)/\(c<=8))/\∀t:List (List Int),(mR p r.toNat c.toNat t)->Q (tbD t)
theorem bO.mono:∀ws (Q Q':Im->Prop),(∀d,Q d->Q' d)->bO ws Q->bO ws Q':=fun _ _ _ h_ ⟨p,r,c,e_,p_,q_⟩=>⟨p,r,c,e_,p_,fun o_ ho_=>h_ _ (q_ o_ ho_)⟩
theorem bO.len:∀ws (Q:Im->Prop),bO ws Q->ws.length=4:=fun _ _ ⟨_,_,_,e_,_⟩=>by subst e_;rfl
theorem bO.eq(p r c:Int)(p2:2<=p)(p7:p<=7)(r1:1<=r)(r8:r<=8)(c1:1<=c)(c8:c<=8):bO [.reel,.d (.int p),.d (.int r),.d (.int c)]=GW (anyM fun t:List (List Int)=>mR p r.toNat c.toNat t) fun t=>VL.ret (tbD t:Im):=by
 refine af fun Q=>⟨?_,fun q_=>⟨p,r,c,rfl,⟨p2,p7,r1,r8,c1,c8⟩,q_⟩⟩
 rintro⟨p',r',c',e_,_,q_⟩
 simp_arith only[and_true]at e_
 obtain⟨rfl,rfl,rfl⟩:=e_
 exact q_
theorem jB:FnScope ["_law_tape_here", "_law_p", "_law_rows", "_law_columns", "_law_few", "_law_found", "_law_i", "_law_row", "_law_k"] ["_law_tape_here", "_law_p", "_law_rows", "_law_columns"] (defScope (top 40)):=⟨rfl,rfl,rfl,by decide +kernel,rfl,by decide +kernel,by decide +kernel⟩
theorem d__law_any(Fn:FnIn K mg "_law_any" (top 40) ["_law_tape_here", "_law_p", "_law_rows", "_law_columns"])(Z:Bz mg)(d__law_pick:∀al,DfnC P w K mg base al 1 "_law_pick" ["_law_tape_here", "_law_many"] 1 be)   : DfnC P w K mg base al 8193 "_law_any" ["_law_tape_here", "_law_p", "_law_rows", "_law_columns"] 2 bO:=by
 have sc:=jB
 refine DfnC.of Fn sc (bO.mono) (bO.len) (fun cdv A outer s H E hr=>(aC (cP 4 sc.nd (bX (d__law_pick _) (hr.mono (by decide)) (ar (cv fun _=>(vn 0)) (ar (cv fun _=>aj) bg))))
  (aC (cs fun _=>(cQ 5 sc.nd (eK ab)))
  (aC (ua 64 [6,7,8] JF rfl (ci fun _=>(aS Z.range_ (aa (vn 2) ab))) (fun _=>(au 6 sc.nd)) (aC (cs fun _=>(cQ 7 sc.nd (eK ab)))
  (aC (ua 64 [8] JF rfl (ci fun _=>(aS Z.range_ (aa (vn 3) ab))) (fun _=>(au 8 sc.nd)) (dq (z9 7 (ar (B4 (bX (d__law_pick _) (hr.mono (by decide)) (ar (cv fun _=>(vn 0)) (ar (cv fun _=>(vn 1)) bg))) (Ac Z.int_ (ar (Ei (cv fun _=>(uI hG gM (aT _) (vn 4) aj)) (B3 (B6 (dj hr.units) (fun _=>ce) (aT _) (bX (d__law_pick _) (hr.mono (by decide)) (ar (cv fun _=>(vn 0)) (ar (cv fun _=>aj) bg))) (cv fun _=>aj)))) bg))) bg))))
  (dq (cs fun _=>(ge 5 (aa (bj Z.tuple_ (aa (vn 7) ab)) ab)))))))
  (dq (cs fun _=>(aG (bj Z.tuple_ (aa (vn 5) ab))))))))) (by decide) ?_
 rintro ws Q ⟨p,r,c,rfl,⟨p2,p7,r1,r8,c1,c8⟩,hQ⟩
 refine aI ?_
 have sz:=IQ
 have gr : -(2^62)<=r/\r<2^62:=by omega
 have gc : -(2^62)<=c/\c<2^62:=by omega
 simp_arith only[ag,ae,aY,aZ,az,aB,a_,aA,av,ac,be.eq]
 (with_reducible (first|refine aw fun f hf=>?_|refine aE fun f hf=>?_))
 try simp_arith only[ag,ae,aY,aZ,az,aB,a_,aA,av,ac]
 refine fB (fun i ρ=>∃t:List (List Int),mR p i c.toNat t/\ρ=[some .reel,some (.d (.int p)),some (.d (.int r)),some (.d (.int c)),some (.d (.int f)),some (.ml (t.map aK)),none,none,none]) ⟨[],⟨rfl,by simp⟩,rfl⟩ ?_ ?_
 · rintro i hi ρ ⟨t,ht,rfl⟩ K hK
   simp_arith only[ag,ae,aY,aZ,az,aB,a_,aA,av,ac]
   refine fB (fun j ρ=>∃row:List Int,(row.length=j/\∀x∈row,0<=x/\x<p)/\ρ=[some .reel,some (.d (.int p)),some (.d (.int r)),some (.d (.int c)),some (.d (.int f)),some (.ml (t.map aK)),some (.d (.int (0+i))),some (.ml (row.map .int)),none]) ⟨[],⟨rfl,by simp⟩,rfl⟩ ?_ ?_
   · rintro j hj ρ ⟨row,⟨hl,hx⟩,rfl⟩ K2 hK2
     simp_arith only[ag,ae,aY,aZ,az,aB,a_,aA,av,ac,be.eq]
     refine aw fun a ha=>?_
     have fin:∀x:Int,0<=x/\x<p->∀y:Int,K2 (Fl.nx [some W.reel,some (W.d (.int p)),some (W.d (.int r)),some (W.d (.int c)),some (W.d (.int f)),some (W.ml (t.map aK)),some (W.d (.int (0+(i:Int)))),some (W.ml (row.map IJ++[IJ x])),some (W.d (.int y))]):=fun x hxx y =>
      hK2 _ (dm ⟨row++[x],⟨by simp[hl],fun z hz=>by rcases JR.mp hz with h|h;exact hx z h;simp at h;rw[h];exact hxx⟩,by simp[fo,Kc]⟩)
     refine cM (fun _=>?_) fun _=>aw fun b hb=>?_
     · exact bI (.rt (by decide)) (fin _ (by omega) _)
     · refine bI (.rt (by split<;>decide)) (fin _ ?_ _)
       split<;>omega
   · rintro ρ ⟨row,⟨hl,hx⟩,rfl⟩
     have tl:t.length<sizeLine:=by have:=ht.1;omega
     simp_arith only[ag,ae,aY,aZ,az,aB,a_,aA,av,ac,cf]
     refine hK _ (dm ⟨t++[row],⟨by simp[ht.1],fun z hz=>?_⟩,by simp[fo,Kc,aK]⟩)
     rcases JR.mp hz with h|h
     · exact ht.2 z h
     · simp at h;subst h;exact⟨hl,hx⟩
 · rintro ρ ⟨t,ht,rfl⟩
   simp_arith only[ag,ae,aY,aZ,az,aB,a_,aA,av,ac]
   exact aP (hQ t ht)
def GQ(xs ys:List Int):Int:=((xs.zip ys).map fun z=>z.1*z.2).sum
def G4(p:Int)(t:List (List Int))(fs:List Int):List Int:=t.map fun row=>(GQ row fs).fmod p
theorem ka(xs ys:List Int):ie (xs.map IJ) (ys.map IJ)=(xs.zip ys).map fun z=>Ji [.int z.1,.int z.2]:=by
 induction xs generalizing ys with
 | nil=>rfl
 | cons x xs ih=>cases ys with
   | nil=>rfl
   | cons y ys=>rw[IP,IP,La,IP];show _::ie _ _=_;rw[ih]
def qp(xs:List Int):Prop:=xs.length<=8/\∀x∈xs,0<=x/\x<10
theorem jy(xs:List Int):eE (aK xs)=some (xs.map .int):=rfl
theorem cE(xs:List Int):tupD (aK xs)=some (xs.map .int):=rfl
def E9(k:Bool)(t:List (List Int)):Im:=bif k then .tuple (t.map aK)else .list (t.map aK)
def G9(p:Int)(t:List (List Int)):Prop:=t.length<=8/\∀row∈t,qp row
theorem A6{k k':Bool}{a b:List (List Int)}:E9 k a=E9 k' b↔k=k'/\a=b:=by
 have h:a.map aK=b.map aK↔a=b:=List.map_inj_right fun x y h=>kG.mp h
 cases k<;>cases k'
 · show M9 _=M9 _↔_
   rw[NE,h];simp
 · show M9 _=Ji _↔_
   simp
 · show Ji _=M9 _↔_
   simp
 · show Ji _=Ji _↔_
   rw[Kf,h];simp
theorem nN{a b:List (List Int)}:tbD a=tbD b↔a=b:=by
 have:=A6 (k:=true) (k':=true) (a:=a) (b:=b)
 show E9 true a=E9 true b↔_
 simpa using this
theorem tJ{c:Prop}[Decidable c]{x:α}{k:α->Mo β}{Q:β->Prop}(h:c)(q:k x Q):aL (if c then some x else none) k Q:=by rw[if_pos h];exact q
theorem ju(t:List (List Int)):tupD (tbD t)=some (t.map aK):=rfl
theorem df(l:List α)(f:α->Int):l.map (fun z=>IJ (f z))=(l.map f).map .int:=by rw[Jp];rfl
theorem la(l:List α)(f:α->List Int):l.map (fun z=>aK (f z))=(l.map f).map aK:=by rw[Jp];rfl
theorem pi(xs:List Int)(i:Int):VL.itemAt (aK xs) i=(atI xs i).map .int:=eh _ _ _
theorem jP(t:List (List Int))(i:Int):VL.itemAt (tbD t) i=(atI t i).map aK:=eh _ _ _
theorem jN(xs:List Int):wn (aK xs)=some xs.length:=by show some (xs.map IJ).length=_;rw[IE]
theorem hR(t:List (List Int)):wn (tbD t)=some t.length:=by show some (t.map aK).length=_;rw[IE]
theorem mR.t8{p:Int}{r c:Nat}{t:List (List Int)}(h:mR p r c t)(p7:p<=7)(r8:r<=8)(c8:c<=8):G9 p t:=⟨by rw[h.1];exact r8,fun row mr=>⟨by rw[(h.2 row mr).1];exact c8,fun x mx=>by have:=(h.2 row mr).2 x mx;omega⟩⟩
theorem pR(xs:List Im)(l u:Option Int):(VL.cutD xs l u).length<=xs.length:=by unfold VL.cutD;rw[JQ,KM];omega
def S(n:Nat)(f:Nat->Int):Int:=((IN n).map f).sum
theorem A1(ρ:En):E1 (.nx ρ)=VL.ret (.nx (nR ρ)):=rfl
theorem A0(x:Im):E1 (.rt (.d x))=VL.ret (.rt (.d x)):=af fun Q=>⟨fun⟨_,h⟩=>h,fun h=>⟨rfl,h⟩⟩
theorem Ax.eq{ns:List Int}{k:Int}(h:ns.length<=63)(k0:0<=k)(k1:k<1000):Ax [.sc ns,.d (.int k)]=True:=eq_true ⟨ns,k,rfl,h,k0,k1⟩
theorem po{a b:List Int}:a.map IJ=b.map IJ↔a=b:=cK
theorem zR{a b:List Int}:GO a=GO b↔a=b:=by unfold GO;rw[Kf];exact po
def aQ:List W->(Im->Prop)->Prop:=fun ws Q=>∃(i j:Int),ws=[.d (.int i),.d (.int j)]/\(True)/\Q (.int (Kg i j:Nat))
theorem aQ.mono:∀ws (Q Q':Im->Prop),(∀d,Q d->Q' d)->aQ ws Q->aQ ws Q':=fun _ _ _ h_ ⟨i,j,e_,p_,q_⟩=>⟨i,j,e_,p_,h_ _ q_⟩
theorem aQ.len:∀ws (Q:Im->Prop),aQ ws Q->ws.length=2:=fun _ _ ⟨_,_,e_,_⟩=>by subst e_;rfl
theorem aQ.eq(i j:Int)  : aQ [.d (.int i),.d (.int j)]=VL.ret (.int (Kg i j:Nat):Im):=by
 refine af fun Q=>⟨?_,fun q_=>⟨i,j,rfl,trivial,q_⟩⟩
 rintro⟨i',j',e_,_,q_⟩
 simp_arith only[and_true]at e_
 obtain⟨rfl,rfl⟩:=e_
 exact q_
theorem d6:FnScope ["one", "other"] ["one", "other"] (defScope (top 4)):=⟨rfl,rfl,rfl,by decide +kernel,rfl,by decide +kernel,by decide +kernel⟩
theorem d_common_divisor(Fn:FnIn K mg "common_divisor" (top 4) ["one", "other"])(Z:Bz mg)    : Dfn P w K mg base rl "common_divisor" ["one", "other"] 1 aQ:=by
 have sc:=d6
 refine Dfn.of Fn sc (aQ.mono) (aQ.len) (fun cdv A outer s H E hr=>(aq (eV [] JF (bh (iR hr.units) ce (aT _) (vn 1) aj) (ax (ki 0 1 rfl sc.nd (aa (vn 1) (aa (v_mod (vn 0) (vn 1)) ab)))))
  (ax (aG (AO Z.abs_ (aa (vn 0) ab)))))) ?_
 rintro ws Q ⟨i,j,rfl,_,hQ⟩
 refine aI ?_
 simp_arith only[ae]
 refine gL (σ:=Int×Int) (fun s=>[some (.d (.int s.1)),some (.d (.int s.2))]) (fun s=>!(s.2==0)) (fun s=>(s.2,s.1.fmod s.2)) (fun s=>s.2.natAbs) (fun s=>Kg s.1 s.2=Kg i j) (i,j) rfl rfl ?_ ?_ ?_
 · intro s _
   simp_arith only[ae]
 · intro s e c
   have hc:s.2≠0:=by simpa using c
   refine⟨by rw[lu];exact e,jS hc,_,?_,rfl⟩
   simp_arith only[ag,ae]
 · intro s e c
   have hc:s.2=0:=by simpa using c
   simp_arith only[ae]
   rw[hc,Int.gcd_zero_right]at e
   refine aP ?_
   have:(if s.1<0 then -s.1 else s.1)=((Kg i j:Nat):Int):=by rw[<- e];split<;>omega
   rw[this]
   exact hQ
def bN:List W->(Im->Prop)->Prop:=fun ws Q=>∃(a b:Int),ws=[.d (.int a),.d (.int b)]/\((0<b)/\(b.natAbs<2^8000))/\Q (fr (qd a b))
theorem bN.mono:∀ws (Q Q':Im->Prop),(∀d,Q d->Q' d)->bN ws Q->bN ws Q':=fun _ _ _ h_ ⟨a,b,e_,p_,q_⟩=>⟨a,b,e_,p_,h_ _ q_⟩
theorem bN.len:∀ws (Q:Im->Prop),bN ws Q->ws.length=2:=fun _ _ ⟨_,_,e_,_⟩=>by subst e_;rfl
theorem bN.eq(a b:Int)(hb:0<b)(hz:b.natAbs<2^8000):bN [.d (.int a),.d (.int b)]=VL.ret (fr (qd a b):Im):=by
 refine af fun Q=>⟨?_,fun q_=>⟨a,b,rfl,⟨hb,hz⟩,q_⟩⟩
 rintro⟨a',b',e_,_,q_⟩
 simp_arith only[and_true]at e_
 obtain⟨rfl,rfl⟩:=e_
 exact q_
theorem jA:FnScope ["top", "bottom", "divisor"] ["top", "bottom"] (defScope (top 5)):=⟨rfl,rfl,rfl,by decide +kernel,rfl,by decide +kernel,by decide +kernel⟩
theorem d_fraction(Fn:FnIn K mg "fraction" (top 5) ["top", "bottom"])(Z:Bz mg)(d_common_divisor:∀rl,Dfn P w K mg base rl "common_divisor" ["one", "other"] 1 aQ)   : Dfn P w K mg base rl "fraction" ["top", "bottom"] 2 bN:=by
 have sc:=jA
 refine Dfn.of Fn sc (bN.mono) (bN.len) (fun cdv A outer s H E hr=>(aq (dr (bh (dj hr.units) ce (aT _) (vn 1) aj) (ax qz) bW)
  (aq (aD 2 sc.nd (aM (d_common_divisor _) (hr.mono (by decide)) (aa (vn 0) (aa (vn 1) ab))))
  (aq (dr (bh vQ uy (aT _) (vn 1) aj) (ax (aD 2 sc.nd (xU (vn 2)))) bW)
  (ax (aG (fR (aa (v_div (vn 0) (vn 2)) (aa (v_div (vn 1) (vn 2)) ab))))))))) ?_
 rintro ws Q ⟨a,b,rfl,⟨hb,hz⟩,hQ⟩
 refine aI ?_
 have c1:ga a (Kg a b:Int):=pB hb hz _
 have c2:ga b (Kg a b:Int):=pB hb hz _
 have h0:(b==0)=false:=by simp;omega
 have h1:decide (b<0)=false:=by simp;omega
 simp_arith only[ag,ae,aQ.eq,h0,h1]
 rw[zu hb]
 exact aP hQ
def cV:List W->(Im->Prop)->Prop:=fun ws Q=>∃(b k:Int),ws=[.d (.int b),.d (.int k)]/\((2<=b)/\(b<=16)/\(0<=k)/\(k<=4000))/\Q (.int (b^k.toNat))
theorem cV.mono:∀ws (Q Q':Im->Prop),(∀d,Q d->Q' d)->cV ws Q->cV ws Q':=fun _ _ _ h_ ⟨b,k,e_,p_,q_⟩=>⟨b,k,e_,p_,h_ _ q_⟩
theorem cV.len:∀ws (Q:Im->Prop),cV ws Q->ws.length=2:=fun _ _ ⟨_,_,e_,_⟩=>by subst e_;rfl
theorem cV.eq(b k:Int)(h2:2<=b)(h16:b<=16)(h0:0<=k)(hk:k<=4000):cV [.d (.int b),.d (.int k)]=VL.ret (.int (b^k.toNat):Im):=by
 refine af fun Q=>⟨?_,fun q_=>⟨b,k,rfl,⟨h2,h16,h0,hk⟩,q_⟩⟩
 rintro⟨b',k',e_,_,q_⟩
 simp_arith only[and_true]at e_
 obtain⟨rfl,rfl⟩:=e_
 exact q_
theorem qP:FnScope ["base", "exponent", "product", "step"] ["base", "exponent"] (defScope (top 7)):=⟨rfl,rfl,rfl,by decide +kernel,rfl,by decide +kernel,by decide +kernel⟩
theorem d_power(Fn:FnIn K mg "power" (top 7) ["base", "exponent"])(Z:Bz mg)    : Dfn P w K mg base rl "power" ["base", "exponent"] 1 cV:=by
 have sc:=qP
 refine Dfn.of Fn sc (cV.mono) (cV.len) (fun cdv A outer s H E hr=>(aq (aD 2 sc.nd aj)
  (aq (bL [3] JF rfl (aS Z.range_ (aa (vn 1) ab)) (au 3 sc.nd) (ax (xF 2 sc.nd ww (vn 0))))
  (ax (aG (vn 2)))))) ?_
 rintro ws Q ⟨b,k,rfl,⟨h2,h16,h0,hk⟩,hQ⟩
 refine aI ?_
 simp_arith only[ag,ae]
 refine lw (fun i=>[some (.d (.int b)),some (.d (.int k)),some (.d (.int (b^i))),none]) (by rw[Pi]) ?_ ?_
 · intro i hi
   have c:bV (b^i) b:=.rt (by omega)
   refine⟨_,by(simp_arith only[ag,ae])<;>rfl,?_⟩
   simp_arith only[ae,K7]
 · simp_arith only[ae]
   exact aP hQ
def bA:List W->(Im->Prop)->Prop:=fun ws Q=>∃(b n:Int),ws=[.d (.int b),.d (.int n)]/\((2<=b)/\(b<=16)/\(0<=n)/\(n.toNat<2^4000))/\Q (.list ((GR b n).map .int))
theorem bA.mono:∀ws (Q Q':Im->Prop),(∀d,Q d->Q' d)->bA ws Q->bA ws Q':=fun _ _ _ h_ ⟨b,n,e_,p_,q_⟩=>⟨b,n,e_,p_,h_ _ q_⟩
theorem bA.len:∀ws (Q:Im->Prop),bA ws Q->ws.length=2:=fun _ _ ⟨_,_,e_,_⟩=>by subst e_;rfl
theorem bA.eq(b n:Int)(h2:2<=b)(h16:b<=16)(h0:0<=n)(hn:n.toNat<2^4000):bA [.d (.int b),.d (.int n)]=VL.ret (.list ((GR b n).map .int):Im):=by
 refine af fun Q=>⟨?_,fun q_=>⟨b,n,rfl,⟨h2,h16,h0,hn⟩,q_⟩⟩
 rintro⟨b',n',e_,_,q_⟩
 simp_arith only[zN,u7,vw,uc,iO,zM,zR,po]at e_
 obtain⟨rfl,rfl⟩:=e_
 exact q_
theorem gW:FnScope ["base", "n", "figures", "figure"] ["base", "n"] (defScope (top 8)):=⟨rfl,rfl,rfl,by decide +kernel,rfl,by decide +kernel,by decide +kernel⟩
theorem d_figures_of(Fn:FnIn K mg "figures_of" (top 8) ["base", "n"])(Z:Bz mg)    : Dfn P w K mg base rl "figures_of" ["base", "n"] 1 bA:=by
 have sc:=gW
 refine Dfn.of Fn sc (bA.mono) (bA.len) (fun cdv A outer s H E hr=>(aq (cQ 2 sc.nd (eK ab))
  (aq (eV [3] JF (bh hG gM (aT _) (vn 1) aj) (aq (sJ (qE Z.divmod_ (aa (vn 1) (aa (vn 0) ab))) (eB (n:=2) rfl (bi (au 1 sc.nd) (bi (au 3 sc.nd) cR))))
  (ax (ge 2 (aa (vn 3) ab)))))
  (ax (mV 2 (aG (vn 2))))))) ?_
 rintro ws Q ⟨b,n,rfl,⟨h2,h16,h0,hn⟩,hQ⟩
 refine aI ?_
 have sz:=IQ
 simp_arith only[ag,ae]
 refine gL (σ:=Int×List Int) (fun s=>[some (.d (.int b)),some (.d (.int s.1)),some (.ml (s.2.map .int)),none]) (fun s=>decide (0<s.1)) (fun s=>(s.1 / b,s.2++[s.1%b])) (fun s=>s.1.toNat) (fun s=>0<=s.1/\s.2++GR b s.1=GR b n) (n,[]) rfl ⟨h0,rfl⟩ ?_ ?_ ?_
 · intro s _
   simp_arith only[ae]
 · rintro⟨m,f⟩ ⟨i0,e⟩ c
   have hm:0<m:=by simpa using c
   have e:f++GR b m=GR b n:=e
   have hl:f.length<sizeLine:=by
    have h1:=congrArg List.length e
    rw[Jx]at h1
    have h3:(GR b n).length<=4000:=jM h2 h0 (by
     have e1:n<2^4000:=by
      have:((n.toNat:Nat):Int)<((2^4000:Nat):Int):=by exact_mod_cast hn
      rw[J3 h0]at this
      exact_mod_cast this
     exact Nn e1 (gi h2 4000))
    omega
   have b1:b<1073741824:=by omega
   have b0:0<b:=by omega
   refine⟨⟨M4 i0 (by omega),?_⟩,?_,_,by(simp_arith only[ag,ae])<;>rfl,?_⟩
   · rw[<- e,wR h2 hm];simp
   · have:=Int.ediv_lt_self_of_pos_of_ne_one hm (show b≠1 by omega)
     have h9:0<=m / b:=M4 i0 (by omega)
     show(m / b).toNat<m.toNat
     omega
   · simp_arith only[ae,Kc]
 · rintro⟨m, f⟩ ⟨i0, e⟩ c
   have hm : m = 0 := by have:¬0<m:=by simpa using c
                         omega
   subst hm
   rw[zU,JS]at e
   have e:f=GR b n:=e
   subst e
   simp_arith only[ag,ae]
   exact aP hQ
def bB:List W->(Im->Prop)->Prop:=fun ws Q=>∃(b n k:Int),ws=[.d (.int b),.d (.int n),.d (.int k)]/\((2<=b)/\(b<=16)/\(0<=n)/\(0<=k)/\(k<=1000)/\(n<b^k.toNat))/\Q (.list ((FV b n k.toNat).map .int))
theorem bB.mono:∀ws (Q Q':Im->Prop),(∀d,Q d->Q' d)->bB ws Q->bB ws Q':=fun _ _ _ h_ ⟨b,n,k,e_,p_,q_⟩=>⟨b,n,k,e_,p_,h_ _ q_⟩
theorem bB.len:∀ws (Q:Im->Prop),bB ws Q->ws.length=3:=fun _ _ ⟨_,_,_,e_,_⟩=>by subst e_;rfl
theorem bB.eq(b n k:Int)(h2:2<=b)(h16:b<=16)(h0:0<=n)(hk0:0<=k)(hk:k<=1000)(hn:n<b^k.toNat):bB [.d (.int b),.d (.int n),.d (.int k)]=VL.ret (.list ((FV b n k.toNat).map .int):Im):=by
 refine af fun Q=>⟨?_,fun q_=>⟨b,n,k,rfl,⟨h2,h16,h0,hk0,hk,hn⟩,q_⟩⟩
 rintro⟨b',n',k',e_,_,q_⟩
 simp_arith only[zN,u7,vw,uc,iO,zM,zR,po]at e_
 obtain⟨rfl,rfl,rfl⟩:=e_
 exact q_
theorem gX:FnScope ["base", "n", "k", "figures"] ["base", "n", "k"] (defScope (top 9)):=⟨rfl,rfl,rfl,by decide +kernel,rfl,by decide +kernel,by decide +kernel⟩
theorem d_figures_in(Fn:FnIn K mg "figures_in" (top 9) ["base", "n", "k"])(Z:Bz mg)(d_figures_of:∀rl,Dfn P w K mg base rl "figures_of" ["base", "n"] 1 bA)   : Dfn P w K mg base rl "figures_in" ["base", "n", "k"] 2 bB:=by
 have sc:=gX
 refine Dfn.of Fn sc (bB.mono) (bB.len) (fun cdv A outer s H E hr=>(aq (aD 3 sc.nd (aM (d_figures_of _) (hr.mono (by decide)) (aa (vn 0) (aa (vn 1) ab))))
  (ax (aG (sR (vn 3) (xT (eK (aa aj ab)) (v_sub (vn 2) (cS Z.len_ (aa (vn 3) ab))))))))) ?_
 rintro ws Q ⟨b,n,k,rfl,⟨h2,h16,h0,hk0,hk,hn⟩,hQ⟩
 refine aI ?_
 have sz:=IQ
 have l1:=jM h2 h0 hn
 have hb:n.toNat<2^4000:=vE h2 h16 h0 hk hn
 have e1:(k-((GR b n).length:Int)).toNat=k.toNat-(GR b n).length:=by omega
 have e2:(IH (k.toNat-(GR b n).length) [IJ 0]).flatten=IH (k.toNat-(GR b n).length) (IJ 0):=by simp
 have g2:(GR b n).length+(k.toNat-(GR b n).length)<=sizeLine:=by omega
 simp_arith only[ae,bA.eq,IE,e1,e2,N4]
 refine bI (by omega) ?_
 have e3:(GR b n).map IJ++IH (k.toNat-(GR b n).length) (IJ 0)=(FV b n k.toNat).map .int:=by unfold FV;rw[Kc,List.map_replicate]
 rw[e3]
 exact jC hQ
def Fm(p:Int):Int:=if p=2 then 5 else if p=3 then 3 else if p=5 then 2 else 1
theorem By{p:Int}(h:p=2\/p=3\/p=5\/p=7):List.lookup p [((2:Int),(5:Int)),(3,3),(5,2),(7,1)]=some (Fm p):=by rcases h with rfl|rfl|rfl|rfl<;>rfl
theorem sZ{p:Int}(h:p=2\/p=3\/p=5\/p=7):1<=Fm p/\Fm p<=5:=by rcases h with rfl|rfl|rfl|rfl<;>decide
def Pm(p m:Int):Prop:=(p=2\/p=3\/p=5\/p=7)/\1<=m/\m<=Fm p
def bF:List W->(Im->Prop)->Prop:=fun ws Q=>ws=[.reel]/\(True)/\∀z:Int×Int,(Pm z.1 z.2)->Q (.tuple [.int z.1,.int z.2])
theorem bF.mono:∀ws (Q Q':Im->Prop),(∀d,Q d->Q' d)->bF ws Q->bF ws Q':=fun _ _ _ h_ ⟨e_,p_,q_⟩=>⟨e_,p_,fun o_ ho_=>h_ _ (q_ o_ ho_)⟩
theorem bF.len:∀ws (Q:Im->Prop),bF ws Q->ws.length=1:=fun _ _ ⟨e_,_⟩=>by subst e_;rfl
theorem bF.eq   : bF [.reel]=GW (anyM fun z:Int×Int=>Pm z.1 z.2) fun z=>VL.ret (.tuple [.int z.1,.int z.2]:Im):=by
 refine af fun Q=>⟨?_,fun q_=>⟨rfl,trivial,q_⟩⟩
 rintro⟨e_,_,q_⟩
 simp_arith only[and_true]at e_
 exact q_
theorem iH:FnScope ["_law_tape_here", "_law_p"] ["_law_tape_here"] (defScope (top 39)):=⟨rfl,rfl,rfl,by decide +kernel,rfl,by decide +kernel,by decide +kernel⟩
theorem d__law_size(Fn:FnIn K mg "_law_size" (top 39) ["_law_tape_here"])(Z:Bz mg)(d__law_pick:∀al,DfnC P w K mg base al 1 "_law_pick" ["_law_tape_here", "_law_many"] 1 be)   : DfnC P w K mg base al 2 "_law_size" ["_law_tape_here"] 2 bF:=by
 have sc:=iH
 refine DfnC.of Fn sc (bF.mono) (bF.len) (fun cdv A outer s H E hr=>(aC (cP 1 sc.nd (Ej (cv fun _=>(eK (aa aj (aa aj (aa aj (aa aj (aa aj (aa aj (aa aj ab))))))))) (bX (d__law_pick _) (hr.mono (by decide)) (ar (cv fun _=>(vn 0)) (ar (cv fun _=>aj) bg)))))
  (dq (t_ (B2 (ar (cv fun _=>(vn 1)) (ar (Ae (cv fun _=>aj) (bX (d__law_pick _) (hr.mono (by decide)) (ar (cv fun _=>(vn 0)) (ar (cv fun _=>(uH (hr.mono (Jz _)) (by decide) (vn 1))) bg)))) bg))))))) (by decide) ?_
 rintro ws Q ⟨rfl,_,hQ⟩
 refine aI ?_
 have sz:=IQ
 simp_arith only[ag,ae,aY,aZ,az,aB,a_,aA,av,ac,be.eq,hJ]
 (with_reducible (first|refine aw fun a ha=>?_|refine aE fun a ha=>?_))
 try simp_arith only[ag,ae,aY,aZ,az,aB,a_,aA,av,ac,be.eq,hJ]
 refine Fq (mh (xs:=[2,2,2,3,3,5,7]) (enc:=IJ) (fun p=>p=2\/p=3\/p=5\/p=7) rfl ha.1 (by show a<7;omega) (by intro z hz;simp at hz;omega) fun p hp=>?_)
 have e1:=By hp
 obtain⟨s1,s5⟩:=sZ hp
 have g1:0<Fm p:=by omega
 have g2:Fm p<2^60:=by omega
 simp_arith only[ag,ae,aY,aZ,az,aB,a_,aA,av,ac,be.eq,hJ,e1]
 (with_reducible (first|refine aw fun m hm=>?_|refine aE fun m hm=>?_))
 exact aP (hQ (p,1+m) ⟨hp,by show 1<=1+m;omega,by show 1+m<=Fm p;omega⟩)
theorem nV(xs:List Int):eE (fY xs)=some (xs.map .int):=rfl
theorem vU(xs:List Int):Ay [.d (aK xs)]=some (xs.map .int):=rfl
theorem Ah(xs:List Int):GZ (.d (aK xs))=some (xs.map .int):=rfl
theorem vb(xs:List Int):W.d (.tuple (xs.map IJ).reverse) = .d (aK xs.reverse):=by rw[<- List.map_reverse];rfl
theorem wd(xs:List Int):lstD (fY xs)=some (xs.map .int):=rfl
def bo:List W->(Im->Prop)->Prop:=fun ws Q=>∃(p:Int)(xs ys:List Int),ws=[.d (.int p),.d (aK xs),.d (fY ys)]/\((2<=p)/\(qp xs)/\(qp ys))/\Q (.int ((GQ xs ys).fmod p))
theorem bo.mono:∀ws (Q Q':Im->Prop),(∀d,Q d->Q' d)->bo ws Q->bo ws Q':=fun _ _ _ h_ ⟨p,xs,ys,e_,p_,q_⟩=>⟨p,xs,ys,e_,p_,h_ _ q_⟩
theorem bo.len:∀ws (Q:Im->Prop),bo ws Q->ws.length=3:=fun _ _ ⟨_,_,_,e_,_⟩=>by subst e_;rfl
theorem bo.eq(p:Int)(xs ys:List Int)(p2:2<=p)(hx:qp xs)(hy:qp ys):bo [.d (.int p),.d (aK xs),.d (fY ys)]=VL.ret (.int ((GQ xs ys).fmod p):Im):=by
 refine af fun Q=>⟨?_,fun q_=>⟨p,xs,ys,rfl,⟨p2,hx,hy⟩,q_⟩⟩
 rintro⟨p',xs',ys',e_,_,q_⟩
 simp_arith only[and_true]at e_
 obtain⟨rfl,rfl,rfl⟩:=e_
 exact q_
theorem fT:FnScope ["p", "one", "other"] ["p", "one", "other"] (defScope (top 14)):=⟨rfl,rfl,rfl,by decide +kernel,rfl,by decide +kernel,by decide +kernel⟩
theorem d_product_sum(Fn:FnIn K mg "product_sum" (top 14) ["p", "one", "other"])(Z:Bz mg)    : Dfn P w K mg base rl "product_sum" ["p", "one", "other"] 1 bo:=by
 have sc:=fT
 refine Dfn.of Fn sc (bo.mono) (bo.len) (fun cdv A outer s H E hr=>(ax (aG (v_mod (v_sum Z.sum_ (aa (bv ["x", "y"] [none,none] rfl (qC Z.zip_ (aa (vn 1) (aa (vn 2) ab))) (fun _=>(eB (n:=2) rfl (bi (au 0 (show JW (["x", "y"]:List Str) by decide +kernel)) (bi (au 1 (show JW (["x", "y"]:List Str) by decide +kernel)) cR)))) (fun _=>bK) (fun _=>(v_mul (vn 0) (vn 1)))) ab)) (vn 0))))) ?_
 rintro ws Q ⟨p,xs,ys,rfl,⟨p2,hx,hy⟩,hQ⟩
 refine aI ?_
 have sz:=IQ
 have p0:p≠0:=by omega
 simp_arith only[ag,ae,jy,cE,nV,wd]
 refine tJ (by exact⟨rfl,rfl⟩) ?_
 rw[ka]
 refine cX (xs:=xs.zip ys) (enc:=fun z=>Ji [.int z.1,.int z.2]) (fun z=>.int (z.1*z.2)) rfl ?_ (by rw[M5];have:=hx.1;omega) ?_
 · rintro⟨a,b⟩ mz
   have ha:=hx.2 a (KW mz).1
   have cm:bV a b:=.lt (by omega)
   simp_arith only[ag,ae,Gq]
 · rw[df]
   simp_arith only[ag,ae,Ij]
   exact aP hQ
def ck:List W->(Im->Prop)->Prop:=fun ws Q=>∃(p:Int)(t:List (List Int))(fs:List Int),ws=[.d (.int p),.d (tbD t),.d (fY fs)]/\((2<=p)/\(G9 p t)/\(qp fs))/\Q (aK (G4 p t fs))
theorem ck.mono:∀ws (Q Q':Im->Prop),(∀d,Q d->Q' d)->ck ws Q->ck ws Q':=fun _ _ _ h_ ⟨p,t,fs,e_,p_,q_⟩=>⟨p,t,fs,e_,p_,h_ _ q_⟩
theorem ck.len:∀ws (Q:Im->Prop),ck ws Q->ws.length=3:=fun _ _ ⟨_,_,_,e_,_⟩=>by subst e_;rfl
theorem ck.eq(p:Int)(t:List (List Int))(fs:List Int)(p2:2<=p)(ht:G9 p t)(hf:qp fs):ck [.d (.int p),.d (tbD t),.d (fY fs)]=VL.ret (aK (G4 p t fs):Im):=by
 refine af fun Q=>⟨?_,fun q_=>⟨p,t,fs,rfl,⟨p2,ht,hf⟩,q_⟩⟩
 rintro⟨p',t',fs',e_,_,q_⟩
 simp_arith only[nN]at e_
 obtain⟨rfl,rfl,rfl⟩:=e_
 exact q_
theorem lV:FnScope ["p", "table", "figures"] ["p", "table", "figures"] (defScope (top 15)):=⟨rfl,rfl,rfl,by decide +kernel,rfl,by decide +kernel,by decide +kernel⟩
theorem d_applied(Fn:FnIn K mg "applied" (top 15) ["p", "table", "figures"])(Z:Bz mg)(d_product_sum:∀rl,Dfn P w K mg base rl "product_sum" ["p", "one", "other"] 1 bo)   : Dfn P w K mg base rl "applied" ["p", "table", "figures"] 2 ck:=by
 have sc:=lV
 refine Dfn.of Fn sc (ck.mono) (ck.len) (fun cdv A outer s H E hr=>(ax (aG (bj Z.tuple_ (aa (bv ["row", "p", "figures"] [none,some 0,some 2] rfl (gf (vn 1)) (fun _=>(au 0 (show JW (["row", "p", "figures"]:List Str) by decide +kernel))) (fun _=>bK) (fun _=>(aM (d_product_sum _) (hr.mono (by decide)) (aa (vn 1) (aa (vn 0) (aa (vn 2) ab)))))) ab))))) ?_
 rintro ws Q ⟨p,t,fs,rfl,⟨p2,ht,hf⟩,hQ⟩
 refine aI ?_
 have sz:=IQ
 have t8:=ht.1
 simp_arith only[ag,ae,ju]
 refine cX (xs:=t) (enc:=aK) (fun row=>.int ((GQ row fs).fmod p)) rfl ?_ (by omega) ?_
 · intro row mr
   have hr:=ht.2 row mr
   simp_arith only[ag,ae,Gq,bo.eq]
 · rw[df]
   simp_arith only[ag,ae,cf]
   exact aP hQ
def bD:List W->(Im->Prop)->Prop:=fun ws Q=>∃(b:Int)(xs:List Int),ws=[.d (.int b),.d (aK xs)]/\((0<=b)/\(b<=16))/\Q (.int (nv b xs))
theorem bD.mono:∀ws (Q Q':Im->Prop),(∀d,Q d->Q' d)->bD ws Q->bD ws Q':=fun _ _ _ h_ ⟨b,xs,e_,p_,q_⟩=>⟨b,xs,e_,p_,h_ _ q_⟩
theorem bD.len:∀ws (Q:Im->Prop),bD ws Q->ws.length=2:=fun _ _ ⟨_,_,e_,_⟩=>by subst e_;rfl
theorem bD.eq(b:Int)(xs:List Int)(h0:0<=b)(h16:b<=16):bD [.d (.int b),.d (aK xs)]=VL.ret (.int (nv b xs):Im):=by
 refine af fun Q=>⟨?_,fun q_=>⟨b,xs,rfl,⟨h0,h16⟩,q_⟩⟩
 rintro⟨b',xs',e_,_,q_⟩
 simp_arith only[and_true]at e_
 obtain⟨rfl,rfl⟩:=e_
 exact q_
theorem iD:FnScope ["base", "figures", "n", "figure"] ["base", "figures"] (defScope (top 10)):=⟨rfl,rfl,rfl,by decide +kernel,rfl,by decide +kernel,by decide +kernel⟩
theorem d_number_of(Fn:FnIn K mg "number_of" (top 10) ["base", "figures"])(Z:Bz mg)    : Dfn P w K mg base rl "number_of" ["base", "figures"] 1 bD:=by
 have sc:=iD
 refine Dfn.of Fn sc (bD.mono) (bD.len) (fun cdv A outer s H E hr=>(aq (aD 2 sc.nd aj)
  (aq (bL [3] JF rfl (im Z.reversed_ (aa (vn 1) ab)) (au 3 sc.nd) (ax (aD 2 sc.nd (v_add (v_mul (vn 2) (vn 0)) (vn 3)))))
  (ax (aG (vn 2)))))) ?_
 rintro ws Q ⟨b,xs,rfl,⟨h0,h16⟩,hQ⟩
 refine aI ?_
 have c:∀i,bV i b:=fun i=>.rt (by omega)
 simp_arith only[ag,ae,zr,vU]
 refine pG (xs:=xs.reverse) (enc:=IJ) (fun t:Int=>[some (.d (.int b)),some (.d (aK xs)),some (.d (.int t)),none]) (fun t a=>t*b+a) 0 (fun _=>True) rfl (by rw[List.map_reverse]) trivial ?_ ?_
 · intro x mx t _
   refine⟨trivial,_,by(simp_arith only[ag,ae,c])<;>rfl,?_⟩
   simp_arith only[ae]
 · have e:xs.reverse.foldl (fun t a=>t*b+a) 0=nv b xs:=iw b xs
   rw[e]
   simp_arith only[ae]
   exact aP hQ
def aU:List W->(Im->Prop)->Prop:=fun ws Q=>∃(p:Int)(t:List (List Int))(fs:List Int),ws=[.d (.int p),.d (tbD t),.d (fY fs)]/\((2<=p)/\(p<=7)/\(G9 p t)/\(qp fs))/\Q (fr (qd (tv p (G4 p t fs)) (p^t.length)))
theorem aU.mono:∀ws (Q Q':Im->Prop),(∀d,Q d->Q' d)->aU ws Q->aU ws Q':=fun _ _ _ h_ ⟨p,t,fs,e_,p_,q_⟩=>⟨p,t,fs,e_,p_,h_ _ q_⟩
theorem aU.len:∀ws (Q:Im->Prop),aU ws Q->ws.length=3:=fun _ _ ⟨_,_,_,e_,_⟩=>by subst e_;rfl
theorem aU.eq(p:Int)(t:List (List Int))(fs:List Int)(p2:2<=p)(p7:p<=7)(ht:G9 p t)(hf:qp fs):aU [.d (.int p),.d (tbD t),.d (fY fs)]=VL.ret (fr (qd (tv p (G4 p t fs)) (p^t.length)):Im):=by
 refine af fun Q=>⟨?_,fun q_=>⟨p,t,fs,rfl,⟨p2,p7,ht,hf⟩,q_⟩⟩
 rintro⟨p',t',fs',e_,_,q_⟩
 simp_arith only[nN]at e_
 obtain⟨rfl,rfl,rfl⟩:=e_
 exact q_
theorem e8:FnScope ["p", "table", "figures", "told"] ["p", "table", "figures"] (defScope (top 24)):=⟨rfl,rfl,rfl,by decide +kernel,rfl,by decide +kernel,by decide +kernel⟩
theorem d_table_number(Fn:FnIn K mg "table_number" (top 24) ["p", "table", "figures"])(Z:Bz mg)(d_applied:∀rl,Dfn P w K mg base rl "applied" ["p", "table", "figures"] 2 ck)(d_fraction:∀rl,Dfn P w K mg base rl "fraction" ["top", "bottom"] 2 bN)(d_number_of:∀rl,Dfn P w K mg base rl "number_of" ["base", "figures"] 1 bD)(d_power:∀rl,Dfn P w K mg base rl "power" ["base", "exponent"] 1 cV)   : Dfn P w K mg base rl "table_number" ["p", "table", "figures"] 3 aU:=by
 have sc:=e8
 refine Dfn.of Fn sc (aU.mono) (aU.len) (fun cdv A outer s H E hr=>(aq (aD 3 sc.nd (aM (d_applied _) (hr.mono (by decide)) (aa (vn 0) (aa (vn 1) (aa (vn 2) ab)))))
  (ax (aG (aM (d_fraction _) (hr.mono (by decide)) (aa (aM (d_number_of _) (hr.mono (by decide)) (aa (vn 0) (aa (xR (vn 3)) ab))) (aa (aM (d_power _) (hr.mono (by decide)) (aa (vn 0) (aa (cS Z.len_ (aa (vn 3) ab)) ab))) ab))))))) ?_
 rintro ws Q ⟨p,t,fs,rfl,⟨p2,p7,ht,hf⟩,hQ⟩
 refine aI ?_
 have sz:=IQ
 have t8:=ht.1
 have al:(G4 p t fs).length=t.length:=by unfold G4;rw[IE]
 have h00:0<=p:=by omega
 have h16:p<=16:=by omega
 have k0:(0:Int)<=(t.length:Int):=by omega
 have k4:((t.length:Nat):Int)<=4000:=by omega
 have hp:0<p^t.length:=Kq (by omega)
 have hz:(p^t.length).natAbs<2^8000:=by
  have:=qW p2 h16 (k:=t.length) (by omega)
  exact this
 have en:nv p (G4 p t fs).reverse=tv p (G4 p t fs):=by rw[<- iw,List.reverse_reverse]
 simp_arith only[ag,ae,ck.eq,bN.eq,bD.eq,cV.eq,jN,al,en,JO,cE,Ah,vb]
 exact aP hQ
theorem wu(xs:List Int)(i:Int):VL.itemAt (fY xs) i=(atI xs i).map .int:=eh _ _ _
def br:List W->(Im->Prop)->Prop:=fun ws Q=>∃(m:Int),ws=[.d (.int m)]/\((1<=m)/\(m<=5))/\Q (tbD ((IN m.toNat).map fun i:Nat=>(IN m.toNat).map fun k:Nat=>if(i:Int)+k=m-1 then(1:Int)else 0))
theorem br.mono:∀ws (Q Q':Im->Prop),(∀d,Q d->Q' d)->br ws Q->br ws Q':=fun _ _ _ h_ ⟨m,e_,p_,q_⟩=>⟨m,e_,p_,h_ _ q_⟩
theorem br.len:∀ws (Q:Im->Prop),br ws Q->ws.length=1:=fun _ _ ⟨_,e_,_⟩=>by subst e_;rfl
theorem br.eq(m:Int)(m1:1<=m)(m5:m<=5):br [.d (.int m)]=VL.ret (tbD ((IN m.toNat).map fun i:Nat=>(IN m.toNat).map fun k:Nat=>if(i:Int)+k=m-1 then(1:Int)else 0):Im):=by
 refine af fun Q=>⟨?_,fun q_=>⟨m,rfl,⟨m1,m5⟩,q_⟩⟩
 rintro⟨m',e_,_,q_⟩
 simp_arith only[and_true]at e_
 obtain rfl:=e_
 exact q_
theorem fW:FnScope ["_law_m"] ["_law_m"] (defScope (top 42)):=⟨rfl,rfl,rfl,by decide +kernel,rfl,by decide +kernel,by decide +kernel⟩
theorem d__law_mirror(Fn:FnIn K mg "_law_mirror" (top 42) ["_law_m"])(Z:Bz mg)    : Dfn P w K mg base rl "_law_mirror" ["_law_m"] 1 br:=by
 have sc:=fW
 refine Dfn.of Fn sc (br.mono) (br.len) (fun cdv A outer s H E hr=>(ax (aG (bj Z.tuple_ (aa (bv ["_law_i", "_law_m"] [none,some 0] rfl (aS Z.range_ (aa (vn 0) ab)) (fun _=>(au 0 (show JW (["_law_i", "_law_m"]:List Str) by decide +kernel))) (fun _=>bK) (fun _=>(bj Z.tuple_ (aa (bv ["_law_k", "_law_i", "_law_m"] [none,some 0,some 1] rfl (aS Z.range_ (aa (vn 1) ab)) (fun _=>(au 0 (show JW (["_law_k", "_law_i", "_law_m"]:List Str) by decide +kernel))) (fun _=>bK) (fun _=>(sQ Z.int_ (aa (uI (dj hr.units) ce (aT _) (v_add (vn 1) (vn 0)) (v_sub (vn 2) aj)) ab)))) ab)))) ab))))) ?_
 rintro ws Q ⟨m,rfl,⟨m1,m5⟩,hQ⟩
 refine aI ?_
 have sz:=IQ
 have g1 : -(2^62)<=m/\m<2^62:=by omega
 simp_arith only[ag,ae]
 refine ic (fun i=>aK ((IN m.toNat).map fun k:Nat=>if(i:Int)+k=m-1 then(1:Int)else 0)) ?_ (by omega) ?_
 · intro i hi
   simp_arith only[ag,ae,Gq]
   rw[i7 (fun k=>.int (if(i:Int)+k=m-1 then(1:Int)else 0)) ?_ (by omega),bnd_ret,df]
   · try simp_arith only[ag,ae,cf]
   · intro k hk
     simp_arith only[ag,ae,Gq]
     have e:(0+(i:Int)+(0+(k:Int))==m-1)=decide ((i:Int)+k=m-1):=by rw[LD,beq_iff_eq,decide_eq_true_iff];omega
     rw[e]
     simp only[decide_eq_true_eq]
 · rw[la]
   try simp_arith only[ag,ae]
   exact aP hQ
def aR:List W->(Im->Prop)->Prop:=fun ws Q=>∃(p m j:Int),ws=[.d (.int p),.d (.int m),.d (.int j)]/\((2<=p)/\(p<=7)/\(1<=m)/\(m<=5)/\(0<=j)/\(j<=7))/\∀t:List (List Int),(mR p m.toNat m.toNat t)->Q (tbD t)
theorem aR.mono:∀ws (Q Q':Im->Prop),(∀d,Q d->Q' d)->aR ws Q->aR ws Q':=fun _ _ _ h_ ⟨p,m,j,e_,p_,q_⟩=>⟨p,m,j,e_,p_,fun o_ ho_=>h_ _ (q_ o_ ho_)⟩
theorem aR.len:∀ws (Q:Im->Prop),aR ws Q->ws.length=3:=fun _ _ ⟨_,_,_,e_,_⟩=>by subst e_;rfl
theorem aR.eq(p m j:Int)(p2:2<=p)(p7:p<=7)(m1:1<=m)(m5:m<=5)(j0:0<=j)(j7:j<=7):aR [.d (.int p),.d (.int m),.d (.int j)]=GW (anyM fun t:List (List Int)=>mR p m.toNat m.toNat t) fun t=>VL.ret (tbD t:Im):=by
 refine af fun Q=>⟨?_,fun q_=>⟨p,m,j,rfl,⟨p2,p7,m1,m5,j0,j7⟩,q_⟩⟩
 rintro⟨p',m',j',e_,_,q_⟩
 simp_arith only[and_true]at e_
 obtain⟨rfl,rfl,rfl⟩:=e_
 exact q_
theorem d8:FnScope ["_law_p", "_law_m", "_law_j", "_law_found", "_law_i", "_law_row", "_law_k", "_law_above"] ["_law_p", "_law_m", "_law_j"] (defScope (top 41)):=⟨rfl,rfl,rfl,by decide +kernel,rfl,by decide +kernel,by decide +kernel⟩
theorem d__law_sum_table(Fn:FnIn K mg "_law_sum_table" (top 41) ["_law_p", "_law_m", "_law_j"])(Z:Bz mg)    : Dfn P w K mg base rl "_law_sum_table" ["_law_p", "_law_m", "_law_j"] 1 aR:=by
 have sc:=d8
 refine Dfn.of Fn sc (aR.mono) (aR.len) (fun cdv A outer s H E hr=>(aq (cQ 3 sc.nd (eK ab))
  (aq (bL [4,5,6,7] JF rfl (aS Z.range_ (aa (vn 1) ab)) (au 4 sc.nd) (aq (cQ 5 sc.nd (eK (aa (sQ Z.int_ (aa (uI (dj hr.units) ce (aT _) (vn 4) aj) ab)) ab)))
  (aq (bL [6,7] JF rfl (ip Z.range_ (aa aj (aa (vn 1) ab))) (au 6 sc.nd) (aq (aD 7 sc.nd (jq (bh hG gM (aT _) (vn 4) aj) (fS (fS (vn 3) (v_sub (vn 4) aj)) (v_sub (vn 6) aj)) aj))
  (ax (ge 5 (aa (v_mod (v_add (vn 7) (v_mul (vn 2) (fS (vn 5) (v_sub (vn 6) aj)))) (vn 0)) ab)))))
  (ax (mV 5 (ge 3 (aa (vn 5) ab)))))))
  (ax (mV 3 (aG (bj Z.tuple_ (aa (bv ["_law_row"] [none] rfl (gN (vn 3)) (fun _=>(au 0 (show JW (["_law_row"]:List Str) by decide +kernel))) (fun _=>bK) (fun _=>(bj Z.tuple_ (aa (vn 0) ab)))) ab)))))))) ?_
 rintro ws Q ⟨p,m,j,rfl,⟨p2,p7,m1,m5,j0,j7⟩,hQ⟩
 refine aI ?_
 have sz:=IQ
 have g1 : -(2^62)<=m/\m<2^62:=by omega
 simp_arith only[ag,ae]
 refine fB (fun i ρ=>∃t:List (List Int),mR p i m.toNat t/\ρ=[some (.d (.int p)),some (.d (.int m)),some (.d (.int j)),some (.ml (t.map fY)),none,none,none,none]) ⟨[],⟨rfl,by simp⟩,rfl⟩ ?_ ?_
 · rintro i hi ρ ⟨t,ht,rfl⟩ K hK
   simp_arith only[ag,ae]
   have cm:∀x,bV j x:=fun x=>.lt (by omega)
   have p0:p≠0:=by omega
   have tl:=ht.1
   have b0:0<=(if(0+(i:Int)==0)=true then(1:Int)else 0)/\(if(0+(i:Int)==0)=true then(1:Int)else 0)<p:=by split<;>omega
   generalize (if(0+(i:Int)==0)=true then(1:Int)else 0)=x0 at b0 ⊢
   refine fB (fun n ρ=>∃row:List Int,(row.length=n+1/\∀x∈row,0<=x/\x<p)/\ρ=[some (.d (.int p)),some (.d (.int m)),some (.d (.int j)),some (.ml (t.map fY)),some (.d (.int (0+(i:Int)))),some (.ml (row.map .int)),none,none]) ⟨[x0],⟨rfl,by intro x mx;cases K9.mp mx;exact b0⟩,rfl⟩ ?_ ?_
   · rintro n hn ρ ⟨row,⟨hl,hx⟩,rfl⟩ K2 hK2
     have a2:atI (row.map IJ) (1+(n:Int)-1)=some (.int (row[n]'(by omega))):=by
      rw[show 1+(n:Int)-1=(n:Int) by omega];exact cp (by rw[Jj,Iy (by omega)];rfl)
     have rl:row.length<sizeLine:=by omega
     have fin:∀u y z:Int,0<=z/\z<p->K2 (Fl.nx [some (.d (.int p)),some (.d (.int m)),some (.d (.int j)),some (.ml (t.map fY)),some (.d (.int (0+(i:Int)))),some (.ml (row.map IJ++[IJ z])),some (.d (.int u)),some (.d (.int y))]):=fun u y z hz =>
      hK2 _ (dm ⟨row++[z],⟨by simp[hl],fun w hw=>by rcases JR.mp hw with h|h;exact hx w h;simp at h;rw[h];exact hz⟩,by simp[fo,Kc]⟩)
     have fz:∀w:Int,0<=w.fmod p/\w.fmod p<p:=fun w=>⟨KC _ (by omega),K6 _ (by omega)⟩
     by_cases i0:i=0
     · have d0:decide ((0:Int)<0+(i:Int))=false:=by simp;omega
       simp_arith only[ag,ae,d0,a2]
       exact bI (cm _) (fin _ _ _ (fz _))
     · have d0:decide ((0:Int)<0+(i:Int))=true:=by simp;omega
       have it:i-1<t.length:=by omega
       have t0:=ht.2 _ (JA it)
       have a1:atI (t.map fY) (0+(i:Int)-1)=some (fY (t[i-1]'it)):=by
        rw[show 0+(i:Int)-1=((i-1:Nat):Int) by omega];exact cp (by rw[Jj,Iy it];rfl)
       have a3:VL.itemAt (fY (t[i-1]'it)) (1+(n:Int)-1)=some (.int ((t[i-1]'it)[n]'(by have:=t0.1;omega))):=by
        rw[wu,show 1+(n:Int)-1=(n:Int) by omega,cp (Iy (by have:=t0.1;omega))];rfl
       simp_arith only[ag,ae,d0,a1,a2,a3]
       exact bI (cm _) (fin _ _ _ (fz _))
   · rintro ρ ⟨row,⟨hl,hx⟩,rfl⟩
     have tz:t.length<sizeLine:=by omega
     simp_arith only[ag,ae]
     refine hK _ (dm ⟨t++[row],⟨by simp[tl],fun z hz=>?_⟩,by simp[fo,Kc,fY]⟩)
     rcases JR.mp hz with h|h
     · exact ht.2 z h
     · simp at h;subst h;exact⟨by omega,hx⟩
 · rintro ρ ⟨t,ht,rfl⟩
   have tl:=ht.1
   simp_arith only[ag,ae]
   refine cX (xs:=t) (enc:=fY) aK rfl ?_ (by omega) ?_
   · intro row mr
     have:=(ht.2 row mr).1
     simp_arith only[ag,ae,Gq,nV,cf]
   · try simp_arith only[ag,ae]
     exact aP (hQ t ht)
theorem t9(xs:List α)(f:α->Im){k:Int}(h:0<=k):VL.cutD (xs.map f) none (some k)=(xs.take k.toNat).map f:=by
 unfold VL.cutD
 rw[HT.sIx_none,ff h,Nr,IE,Nl,<- ML]
 congr 1
 by_cases z:k.toNat<=xs.length
 · rw[LL z]
 · rw[Lx (by omega),JH (by omega),JH (by omega)]
theorem lB(xs:List α)(f:α->Im){k:Int}(h:0<=k):VL.cutD (xs.map f) (some k) none=(xs.drop k.toNat).map f:=by
 unfold VL.cutD
 rw[HT.sIx_none,ff h,IE,<- List.map_drop,<- ML]
 congr 1
 by_cases z:k.toNat<=xs.length
 · rw[LL z,JH (by rw[KM];omega)]
 · rw[Lx (by omega),KE (by omega),KE (by omega)];simp
theorem og{il ih:Nat}{Q:Fl->Prop}:mS (sT n il ih fi) ρ Q=(fi ρ fun xs=>xs.length<=n/\∃ys:List Im,ρ[il]?=some (some (.ml ys))/\ρ[ih]?=some (some .reel)/\xs.length<=ys.length/\ys.length<1000/\∀os:List Im,os.length=xs.length->(∀o∈os,o∈ys)->Q (.rt (.d (.tuple os)))):=rfl
def tbsD(ts:List (List (List Int))):Im:=.tuple (ts.map tbD)
def f_(p:Int)(m:Nat)(ts:List (List (List Int))):Prop:=1<=ts.length/\ts.length<=4/\∀t∈ts,mR p m m t
def bq:List W->(Im->Prop)->Prop:=fun ws Q=>∃(p m:Int),ws=[.reel,.d (.int p),.d (.int m)]/\((Pm p m))/\∀ts:List (List (List Int)),(f_ p m.toNat ts)->Q (tbsD ts)
theorem bq.mono:∀ws (Q Q':Im->Prop),(∀d,Q d->Q' d)->bq ws Q->bq ws Q':=fun _ _ _ h_ ⟨p,m,e_,p_,q_⟩=>⟨p,m,e_,p_,fun o_ ho_=>h_ _ (q_ o_ ho_)⟩
theorem bq.len:∀ws (Q:Im->Prop),bq ws Q->ws.length=3:=fun _ _ ⟨_,_,e_,_⟩=>by subst e_;rfl
theorem bq.eq(p m:Int)(pm:Pm p m):bq [.reel,.d (.int p),.d (.int m)]=GW (anyM fun ts:List (List (List Int))=>f_ p m.toNat ts) fun ts=>VL.ret (tbsD ts:Im):=by
 refine af fun Q=>⟨?_,fun q_=>⟨p,m,rfl,pm,q_⟩⟩
 rintro⟨p',m',e_,_,q_⟩
 simp_arith only[and_true]at e_
 obtain⟨rfl,rfl⟩:=e_
 exact q_
theorem fV:FnScope ["_law_tape_here", "_law_p", "_law_m", "_law_way", "_law_s", "_law_found", "_law_j", "_law_i", "_law_k", "_law_row", "_law_left"] ["_law_tape_here", "_law_p", "_law_m"] (defScope (top 43)):=⟨rfl,rfl,rfl,by decide +kernel,rfl,by decide +kernel,by decide +kernel⟩
theorem d__law_tables(Fn:FnIn K mg "_law_tables" (top 43) ["_law_tape_here", "_law_p", "_law_m"])(Z:Bz mg)(d__law_pick:∀al,DfnC P w K mg base al 1 "_law_pick" ["_law_tape_here", "_law_many"] 1 be)(d__law_sum_table:∀rl,Dfn P w K mg base rl "_law_sum_table" ["_law_p", "_law_m", "_law_j"] 1 aR)(d__law_any:∀al,DfnC P w K mg base al 8193 "_law_any" ["_law_tape_here", "_law_p", "_law_rows", "_law_columns"] 2 bO)(d__law_mirror:∀rl,Dfn P w K mg base rl "_law_mirror" ["_law_m"] 1 br)   : DfnC P w K mg base al 524422 "_law_tables" ["_law_tape_here", "_law_p", "_law_m"] 3 bq:=by
 have sc:=fV
 refine DfnC.of Fn sc (bq.mono) (bq.len) (fun cdv A outer s H E hr=>(aC (cP 3 sc.nd (bX (d__law_pick _) (hr.mono (by decide)) (ar (cv fun _=>(vn 0)) (ar (cv fun _=>aj) bg))))
  (aC (cP 4 sc.nd (Ae (cv fun _=>aj) (bX (d__law_pick _) (hr.mono (by decide)) (ar (cv fun _=>(vn 0)) (ar (cv fun _=>aj) bg)))))
  (aC (wU (cb fun _=>(bh (dj hr.units) ce (aT _) (vn 3) aj)) (dq (t_ (wX Z.tuple_ (ar (wY 64 ["_law_j", "_law_tape_here", "_law_p", "_law_m"] [none,some 0,some 1,some 2] rfl (ci fun _=>(aS Z.range_ (aa (vn 4) ab))) (fun _ _=>(au 0 (show JW (["_law_j", "_law_tape_here", "_law_p", "_law_m"]:List Str) by decide +kernel))) (fun _=>zY) (fun _=>(bX (d__law_any _) (hr.mono (by decide)) (ar (cv fun _=>(vn 1)) (ar (cv fun _=>(vn 2)) (ar (cv fun _=>(vn 3)) (ar (cv fun _=>(vn 3)) bg))))))) bg)))) pS)
  (aC (cs fun _=>(jn 5 sc.nd ["_law_j", "_law_p", "_law_m"] [none,some 1,some 2] rfl (aS Z.range_ (aa (xV Z.min_ (aa (vn 4) (aa (vn 1) ab))) ab)) (fun _=>(au 0 (show JW (["_law_j", "_law_p", "_law_m"]:List Str) by decide +kernel))) (fun _=>bK) (fun _=>(aM (d__law_sum_table _) (hr.mono (by decide)) (aa (vn 1) (aa (vn 2) (aa (vn 0) ab)))))))
  (aC (cs fun _=>(dr (HE.pb (sO (bh hG gM (aT _) (vn 3) aj) (m9 (bh vQ uy (aT _) (cS Z.len_ (aa (vn 5) ab)) aj)))) (ax (cQ 5 sc.nd (sR (eK (aa (aM (d__law_mirror _) (hr.mono (by decide)) (aa (vn 2) ab)) ab)) (vn 5)))) bW))
  (aC (wU (cb fun _=>(bh (dj hr.units) ce (aT _) (v_mod (vn 3) aj) aj)) (aC (cP 6 sc.nd (bX (d__law_pick _) (hr.mono (by decide)) (ar (cv fun _=>(vn 0)) (ar (cv fun _=>(cS Z.len_ (aa (vn 5) ab))) bg))))
  (aC (cP 7 sc.nd (bX (d__law_pick _) (hr.mono (by decide)) (ar (cv fun _=>(vn 0)) (ar (cv fun _=>(vn 2)) bg))))
  (aC (cP 8 sc.nd (bX (d__law_pick _) (hr.mono (by decide)) (ar (cv fun _=>(vn 0)) (ar (cv fun _=>(vn 2)) bg))))
  (aC (cs fun _=>(cQ 9 sc.nd (kz Z.list_ (aa (fS (fS (vn 5) (vn 6)) (vn 7)) ab))))
  (aC (wT 9 (cv fun _=>(vn 8)) (bX (d__law_pick _) (hr.mono (by decide)) (ar (cv fun _=>(vn 0)) (ar (cv fun _=>(vn 1)) bg))))
  (dq (cs fun _=>(uu 5 (vn 6) (kA (kA (lN (fS (vn 5) (vn 6)) du (dt (vn 7))) (fR (aa (bj Z.tuple_ (aa (vn 9) ab)) ab))) (lN (fS (vn 5) (vn 6)) (dt (v_add (vn 7) aj)) du)))))))))) pS)
  (aC (cs fun _=>(cQ 10 sc.nd (kz Z.list_ (aa (vn 5) ab))))
  (dq (mK 64 10 0 rfl (d__law_pick _) (fun m Q h1 h2 h3=>⟨m,rfl,⟨h1,h2⟩,fun j hj=>h3 j hj.1 hj.2⟩) (hr.mono (by decide)) Z.len_ Z.tuple_ (ci fun _=>(aS Z.range_ (aa (cS Z.len_ (aa (vn 5) ab)) ab))) (show JW (["_law_j", "_law_left", "_law_tape_here"]:List Str) by decide +kernel) (fun z=>fu (show JW (["_law_j", "_law_left", "_law_tape_here"]:List Str) by decide +kernel) rfl (.inl rfl))
  (fun z _ pa _ _ _ F hm hk hb=>rn Ls Oi Oj k_ (bH (i:=1) rfl (by first|exact J8 rfl|exact Jw (J8 rfl)|exact Jw (Jw rfl))) (bT (d9 F (hr.mono (by decide)) rfl hm hk hb .nil me pa) dM))
  (fun z=>bT (bH (i:=2) rfl (by first|exact J8 rfl|exact Jw (J8 rfl)|exact Jw (Jw rfl))) (bT (g_ cy rfl Z.len_ rfl (bT (bH (i:=1) rfl (by first|exact J8 rfl|exact Jw (J8 rfl)|exact Jw (Jw rfl))) dM)) dM)))))))))))) (by decide) ?_
 rintro ws Q ⟨p,m,rfl,pm,hQ⟩
 refine aI ?_
 have sz:=IQ
 obtain⟨hp,m1,ms⟩:=pm
 have s5:=(sZ hp).2
 have p2:2<=p:=by omega
 have p7:p<=7:=by omega
 have m5:m<=5:=by omega
 have m8:m<=8:=by omega
 simp_arith only[ag,ae,aY,aZ,az,aB,a_,aA,av,ac,be.eq]
 (with_reducible (first|refine aw fun w hw=>?_|refine aE fun w hw=>?_))
 try simp_arith only[ag,ae,aY,aZ,az,aB,a_,aA,av,ac,be.eq]
 (with_reducible (first|refine aw fun s0 hs0=>?_|refine aE fun s0 hs0=>?_))
 try simp_arith only[ag,ae,aY,aZ,az,aB,a_,aA,av,ac,be.eq]
 refine cM (fun _=>?_) fun _=>?_
 · refine Ft (lH (fun d=>∃t,mR p m.toNat m.toNat t/\d=tbD t) ?_ (by omega) ?_)
   · intro j hj K2 hK2
     simp_arith only[ag,ae,Gq,bO.eq]
     (with_reducible (first|refine aw fun t ht=>?_|refine aE fun t ht=>?_))
     exact hK2 _ ⟨t,ht,rfl⟩
   · intro ds hl hds
     obtain⟨ts,rfl,tl,ht⟩:=dU hds
     simp_arith only[ag,ae]
     exact aP (hQ ts ⟨by omega,by omega,ht⟩)
 · refine Ft (lH (fun d=>∃t,mR p m.toNat m.toNat t/\d=tbD t) ?_ (by omega) ?_)
   · intro j hj K2 hK2
     simp_arith only[ag,ae,Gq,aR.eq]
     (with_reducible (first|refine aw fun t ht=>?_|refine aE fun t ht=>?_))
     exact hK2 _ ⟨t,ht,rfl⟩
   · intro ds hl hds
     obtain⟨ts,rfl,tl,ht⟩:=dU hds
     have tn:1<=ts.length/\ts.length<=4:=by omega
     clear tl hl hds
     simp_arith only[ag,ae,aY,aZ,az,aB,a_,aA,av,ac,br.eq]
     obtain⟨us,eu,hu⟩:∃us:List (List (List Int)),(if(decide (2<w)&&decide ((ts.length:Int)<4))=true then W.ml (tbD ((IN m.toNat).map fun i:Nat=>(IN m.toNat).map fun k:Nat=>if(i:Int)+k=m-1 then(1:Int)else 0)::ts.map tbD)else W.ml (ts.map tbD))=W.ml (us.map tbD)/\f_ p m.toNat us:=by
      split
      · rename_i h
        refine⟨_::ts,rfl,by simp,by simp at h ⊢;omega,fun t mt=>?_⟩
        rcases Jf.mp mt with rfl|mt
        · refine⟨by simp,fun row mr=>?_⟩
          obtain⟨i,_,rfl⟩:=Jo.mp mr
          refine⟨by simp,fun x mx=>?_⟩
          obtain⟨k,_,rfl⟩:=Jo.mp mx
          split<;>omega
        · exact ht t mt
      · exact⟨ts,rfl,tn.1,tn.2,ht⟩
     simp only[eu]
     clear eu ht tn
     have u4:=hu.2.1
     have u1:=hu.1
     refine cM (fun _=>?_) fun _=>?_
     · simp_arith only[ag,ae,aY,aZ,az,aB,a_,aA,av,ac,be.eq]
       have mb:m<2^60:=by omega
       have pb:p<2^60:=by omega
       have m0:0<m:=by omega
       have pp:0<p:=by omega
       (with_reducible (first|refine aw fun j hj=>?_|refine aE fun j hj=>?_))
       try simp_arith only[ag,ae,aY,aZ,az,aB,a_,aA,av,ac,be.eq]
       (with_reducible (first|refine aw fun i hi=>?_|refine aE fun i hi=>?_))
       try simp_arith only[ag,ae,aY,aZ,az,aB,a_,aA,av,ac,be.eq]
       (with_reducible (first|refine aw fun k hk=>?_|refine aE fun k hk=>?_))
       have hj':j.toNat<us.length:=by omega
       have ej:atI (us.map tbD) j=some (tbD (us[j.toNat]'hj')):=by rw[eh,lK hj.1 hj.2];rfl
       have ht:=hu.2.2 _ (JA hj')
       generalize us[j.toNat]'hj'=t at ej ht
       have tl:=ht.1
       have hi':i.toNat<t.length:=by omega
       have ei':VL.itemAt (tbD t) i=some (aK (t[i.toNat]'hi')):=by rw[jP,lK hi.1 (by omega)];rfl
       have hr:=ht.2 _ (JA hi')
       generalize t[i.toNat]'hi'=row at ei' hr
       have kg:0<=k/\k<((row.map IJ).length:Int):=by rw[IE];omega
       try simp_arith only[ag,ae,aY,aZ,az,aB,a_,aA,av,ac,be.eq,tq,ej,ei',jy,ju]
       (with_reducible (first|refine aw fun x hx=>?_|refine aE fun x hx=>?_))
       have c1:=t9 t aK hi.1
       have c2:=lB t aK (show 0<=i+1 by omega)
       have rs:(row.map IJ).set k.toNat (.int x)=(row.set k.toNat x).map .int:=by rw[List.map_set]
       have jg:0<=j/\j<((us.map tbD).length:Int):=by rw[IE];exact hj
       have q1:(t.take i.toNat).length+1<=sizeLine:=by rw[JQ];omega
       have q2:((t.take i.toNat).map aK++[aK (row.set k.toNat x)]).length+(t.drop (i+1).toNat).length<=sizeLine:=by simp;omega
       simp only[rs]
       simp_arith only[ag,ae,aY,aZ,az,aB,a_,aA,av,ac,tq,ej,c1,c2,ju,cf]
       obtain⟨vs,ev,hu'⟩:∃vs:List (List (List Int)),(us.map tbD).set j.toNat (Ji ((t.take i.toNat).map aK++[aK (row.set k.toNat x)]++(t.drop (i+1).toNat).map aK))=vs.map tbD/\f_ p m.toNat vs:=by
        refine⟨us.set j.toNat (t.take i.toNat++[row.set k.toNat x]++t.drop (i+1).toNat),by rw[List.map_set];simp[tbD,Kc],by simp;exact u1,by simp;exact u4,fun z mz=>?_⟩
        rcases Nv mz with h|h
        · exact hu.2.2 z h
        · subst h
          refine⟨by simp;omega,fun y my=>?_⟩
          rcases JR.mp my with h|h
          · rcases JR.mp h with h|h
            · exact ht.2 y (MJ h)
            · cases K9.mp h
              refine⟨by rw[N6];exact hr.1,fun v mv=>?_⟩
              rcases Nv mv with h|h
              · exact hr.2 v h
              · subst h;exact hx
          · exact ht.2 y (List.mem_of_mem_drop h)
       simp only[ev]
       have v4:=hu'.2.1
       have v1:=hu'.1
       rw[og]
       have gu : -(2^62)<=(vs.length:Int)/\(vs.length:Int)<2^62:=by omega
       have ei:Gy (iu (cA xw (iu (xo 5) sU)) sU) [some W.reel,some (W.d (.int p)),some (W.d (.int m)),some (W.d (.int w)),some (W.d (.int (1+s0))),some (W.ml (vs.map tbD)),some (W.d (.int j)),some (W.d (.int i)),some (W.d (.int k)),some (W.ml ((row.set k.toNat x).map IJ)),some (W.ml (vs.map tbD))]=VL.ret (aN 0 vs.length):=by
        simp_arith only[ag,ae]
       rw[ei]
       refine⟨by rw[ac];omega,vs.map tbD,rfl,rfl,by rw[ac,IE];omega,by rw[IE];omega,fun os hl hm=>?_⟩
       obtain⟨ws,rfl,wl,hv⟩:=dU (enc:=tbD) (P:=fun t=>mR p m.toNat m.toNat t) (fun d md=>by obtain⟨t,mt,rfl⟩:=Jo.mp (hm d md);exact⟨t,hu'.2.2 t mt,rfl⟩)
       rw[ac,IE]at hl
       exact aP (hQ ws ⟨by omega,by omega,hv⟩)
     · simp_arith only[ag,ae,aY,aZ,az,aB,a_,aA,av,ac]
       rw[og]
       have gu : -(2^62)<=(us.length:Int)/\(us.length:Int)<2^62:=by omega
       have ei:Gy (iu (cA xw (iu (xo 5) sU)) sU) [some W.reel,some (W.d (.int p)),some (W.d (.int m)),some (W.d (.int w)),some (W.d (.int (1+s0))),some (W.ml (us.map tbD)),none,none,none,none,some (W.ml (us.map tbD))]=VL.ret (aN 0 us.length):=by
        simp_arith only[ag,ae]
       rw[ei]
       refine⟨by rw[ac];omega,us.map tbD,rfl,rfl,by rw[ac,IE];omega,by rw[IE];omega,fun os hl hm=>?_⟩
       obtain⟨ws,rfl,wl,hv⟩:=dU (enc:=tbD) (P:=fun t=>mR p m.toNat m.toNat t) (fun d md=>by obtain⟨t,mt,rfl⟩:=Jo.mp (hm d md);exact⟨t,hu.2.2 t mt,rfl⟩)
       rw[ac,IE]at hl
       exact aP (hQ ws ⟨by omega,by omega,hv⟩)
def zm(p:Int)(t:List (List Int))(fs:List Int):Rat:=qd (tv p (G4 p t fs)) (p^t.length)
def FP(p:Int)(m:Nat)(ts:List (List (List Int)))(n:Int):List Rat:=ts.map fun t=>zm p t (FV p n m)
def ptsT(p:Int)(m:Nat)(ts:List (List (List Int))):List (List Rat):=(IN (p^m).toNat).map fun n=>FP p m ts (n:Nat)
theorem qX{p m:Int}(h:Pm p m):p^m.toNat<=40/\2<=p/\p<=7/\1<=m/\m<=5:=by
 obtain⟨hp,m1,ms⟩:=h
 rcases hp with rfl|rfl|rfl|rfl<;>simp[Fm]at ms
 · obtain rfl|rfl|rfl|rfl|rfl:m=1\/m=2\/m=3\/m=4\/m=5:=by omega
   all_goals decide
 · obtain rfl|rfl|rfl:m=1\/m=2\/m=3:=by omega
   all_goals decide
 · obtain rfl|rfl:m=1\/m=2:=by omega
   all_goals decide
 · obtain rfl:m=1:=by omega
   decide
theorem hU(ts:List (List (List Int)))(i:Int):VL.itemAt (tbsD ts) i=(atI ts i).map tbD:=eh _ _ _
theorem qK(ts:List (List (List Int))):tupD (tbsD ts)=some (ts.map tbD):=rfl
theorem dQ(ts:List (List (List Int))):wn (tbsD ts)=some ts.length:=by show some (ts.map tbD).length=_;rw[IE]
theorem kI{a b:List (List (List Int))}:tbsD a=tbsD b↔a=b:=by
 unfold tbsD;rw[Kf];exact List.map_inj_right fun x y h=>nN.mp h
theorem yZ{p:Int}{n:Int}(p2:2<=p)(p7:p<=7)(m8:m<=8)(h0:0<=n)(h1:n<p^m):qp (FV p n m) :=
 ⟨by rw[hE p2 h0 h1];exact m8,fun x mx=>by have:=jH (k:=m) (c:=n) p2 x mx;omega⟩
def aJ:List W->(Im->Prop)->Prop:=fun ws Q=>∃(p:Int)(ts:List (List (List Int))),ws=[.d (.int p),.d (tbsD ts)]/\((∃m:Int,Pm p m/\f_ p m.toNat ts/\m.toNat=(ts.headD []).length))/\Q (dC (ptsT p (ts.headD []).length ts))
theorem aJ.mono:∀ws (Q Q':Im->Prop),(∀d,Q d->Q' d)->aJ ws Q->aJ ws Q':=fun _ _ _ h_ ⟨p,ts,e_,p_,q_⟩=>⟨p,ts,e_,p_,h_ _ q_⟩
theorem aJ.len:∀ws (Q:Im->Prop),aJ ws Q->ws.length=2:=fun _ _ ⟨_,_,e_,_⟩=>by subst e_;rfl
theorem aJ.eq(p:Int)(ts:List (List (List Int)))(hm:∃m:Int,Pm p m/\f_ p m.toNat ts/\m.toNat=(ts.headD []).length):aJ [.d (.int p),.d (tbsD ts)]=VL.ret (dC (ptsT p (ts.headD []).length ts):Im):=by
 refine af fun Q=>⟨?_,fun q_=>⟨p,ts,rfl,hm,q_⟩⟩
 rintro⟨p',ts',e_,_,q_⟩
 simp_arith only[kI]at e_
 obtain⟨rfl,rfl⟩:=e_
 exact q_
theorem dA:FnScope ["p", "tables", "m", "points", "n", "figures"] ["p", "tables"] (defScope (top 25)):=⟨rfl,rfl,rfl,by decide +kernel,rfl,by decide +kernel,by decide +kernel⟩
theorem d_points_of_tables(Fn:FnIn K mg "points_of_tables" (top 25) ["p", "tables"])(Z:Bz mg)(d_power:∀rl,Dfn P w K mg base rl "power" ["base", "exponent"] 1 cV)(d_figures_in:∀rl,Dfn P w K mg base rl "figures_in" ["base", "n", "k"] 2 bB)(d_table_number:∀rl,Dfn P w K mg base rl "table_number" ["p", "table", "figures"] 3 aU)   : Dfn P w K mg base rl "points_of_tables" ["p", "tables"] 4 aJ:=by
 have sc:=dA
 refine Dfn.of Fn sc (aJ.mono) (aJ.len) (fun cdv A outer s H E hr=>(aq (aD 2 sc.nd (cS Z.len_ (aa (fS (vn 1) aj) ab)))
  (aq (cQ 3 sc.nd (eK ab))
  (aq (bL [4,5] JF rfl (aS Z.range_ (aa (aM (d_power _) (hr.mono (by decide)) (aa (vn 0) (aa (vn 2) ab))) ab)) (au 4 sc.nd) (aq (aD 5 sc.nd (aM (d_figures_in _) (hr.mono (by decide)) (aa (vn 0) (aa (vn 4) (aa (vn 2) ab)))))
  (ax (ge 3 (aa (bj Z.tuple_ (aa (bv ["table", "p", "figures"] [none,some 0,some 5] rfl (gf (vn 1)) (fun _=>(au 0 (show JW (["table", "p", "figures"]:List Str) by decide +kernel))) (fun _=>bK) (fun _=>(aM (d_table_number _) (hr.mono (by decide)) (aa (vn 1) (aa (vn 0) (aa (vn 2) ab)))))) ab)) ab)))))
  (ax (aG (bj Z.tuple_ (aa (vn 3) ab)))))))) ?_
 rintro ws Q ⟨p,ts,rfl,hm,hQ⟩
 refine aI ?_
 have sz:=IQ
 obtain⟨m,pm,ht,hh⟩:=hm
 obtain⟨w40,p2,p7,m1,m5⟩:=qX pm
 obtain⟨t1,t4,ht⟩:=ht
 rw[<- hh]at hQ
 have h16:p<=16:=by omega
 have e0:atI ts 0=some (ts.headD []):=by
  cases ts with
  | nil=>simp at t1
  | cons a l=>exact cp (j:=0) rfl
 have hp:0<p^m.toNat:=Kq (by omega)
 have m4:((m.toNat:Nat):Int)<=4000:=by omega
 have mk:((m.toNat:Nat):Int)<=1000:=by omega
 have g1 : -(2^62)<=p^m.toNat/\p^m.toNat<2^62:=by omega
 simp_arith only[ag,ae,hU,e0,hR,cV.eq,<- hh]
 refine lw (fun i=>[some (.d (.int p)),some (.d (tbsD ts)),some (.d (.int (m.toNat:Nat))),some (.ml ((IN i).map fun n=>FQ (FP p m.toNat ts (n:Nat)))),none,none]) rfl ?_ ?_
 · intro i hi
   have h0:0<=0+(i:Int):=by omega
   have hn:0+(i:Int)<p^m.toNat:=by omega
   have hn':0+(i:Int)<p^((m.toNat:Nat):Int).toNat:=by rw[JO];exact hn
   have hf:qp (FV p (0+(i:Int)) m.toNat):=yZ p2 p7 (by omega) h0 hn
   have cm:∀(b:Im->Mo (Option Im)),(∀t∈ts,b (tbD t)=VL.ret (some (fr (zm p t (FV p (0+(i:Int)) m.toNat)))))->bJ b (ts.map tbD) []=VL.ret ((FP p m.toNat ts (0+(i:Int))).map fr):=fun b hb=>by
    rw[comp_map (enc:=tbD) (fun t=>fr (zm p t (FV p (0+(i:Int)) m.toNat))) hb (by omega)]
    unfold FP
    rw[Jp]
    rfl
   refine⟨[some (.d (.int p)),some (.d (tbsD ts)),some (.d (.int (m.toNat:Nat))),some (.ml ((IN i).map (fun n=>FQ (FP p m.toNat ts (n:Nat)))++[FQ (FP p m.toNat ts (0+(i:Int)))])),some (.d (.int (0+(i:Int)))),some (.d (fY (FV p (0+(i:Int)) m.toNat)))],?_,?_⟩
   · simp_arith only[ag,ae,bB.eq,qK,JO]
     rw[cm _ ?_]
     · have l4:(FP p m.toNat ts (0+(i:Int))).length<=sizeLine:=by unfold FP;rw[IE];omega
       have l5:(IN i).length<sizeLine:=by rw[Lk];omega
       simp_arith only[ag,ae]
       rfl
     · intro t mt
       have tb:=ht t mt
       have t8:G9 p t:=tb.t8 p7 (by omega) (by omega)
       have et:aU [W.d (.int p),W.d (tbD t),W.d (M9 ((FV p (0+(i:Int)) m.toNat).map IJ))]=VL.ret (fr (zm p t (FV p (0+(i:Int)) m.toNat))):=aU.eq p t _ p2 p7 t8 hf
       simp_arith only[ag,ae,Gq,et]
   · simp only[fo,M6,Kc,LM]
     rfl
 · simp_arith only[ae]
   have e2:Ji ((IN (p^m.toNat).toNat).map fun n=>FQ (FP p m.toNat ts (n:Nat)))=dC (ptsT p m.toNat ts):=by
    unfold dC ptsT;rw[Jp];rfl
   rw[e2]
   exact aP hQ
theorem i6{a p:Int}(hp:p=2\/p=3\/p=5\/p=7)(a1:1<=a)(ap:a<p):∃u v:Int,u*a+v*p=1:=by
 rcases hp with rfl|rfl|rfl|rfl
 · obtain rfl:a=1:=by omega
   exact⟨1,0,by decide⟩
 · rcases(show a=1\/a=2 by omega)with rfl|rfl
   · exact⟨1,0,by decide⟩
   · exact⟨2,-1,by decide⟩
 · rcases(show a=1\/a=2\/a=3\/a=4 by omega)with rfl|rfl|rfl|rfl
   · exact⟨1,0,by decide⟩
   · exact⟨3,-1,by decide⟩
   · exact⟨2,-1,by decide⟩
   · exact⟨4,-3,by decide⟩
 · rcases(show a=1\/a=2\/a=3\/a=4\/a=5\/a=6 by omega)with rfl|rfl|rfl|rfl|rfl|rfl
   · exact⟨1,0,by decide⟩
   · exact⟨4,-1,by decide⟩
   · exact⟨5,-2,by decide⟩
   · exact⟨2,-1,by decide⟩
   · exact⟨3,-2,by decide⟩
   · exact⟨6,-5,by decide⟩
def optN:Option Nat->Im
 | none=>.none
 | some v=>.int (v:Int)
def optT:Option (List Int)->Im
 | none=>.none
 | some v=>aK v
def optTb:Option (List (List Int))->Im
 | none=>.none
 | some v=>tbD v
theorem wL(xs:List Int):AG [.d (aK xs)]=some (xs.zipIdx.map fun z=>Ji [.int (z.2:Nat),.int z.1]):=by
 show some (fE (xs.map IJ))=_
 rw[iX]
theorem wK(t:List (List Int)):AG [.d (tbD t)]=some (t.zipIdx.map fun z=>Ji [.int (z.2:Nat),aK z.1]):=by
 show some (fE (t.map aK))=_
 rw[iX]
def eR(ks:GA.Kp):List (HJ×Im):=ks.map fun z=>(JK (z.1:Int),aK z.2)
theorem kw{ks:GA.Kp}(nd:(ks.map (·.1)).Nodup){z:Nat×List Int}(hz:z∈ks):mO (eR ks) (JK (z.1:Int))=some (aK z.2):=by
 unfold mO eR
 induction ks with
 | nil=>cases hz
 | cons y ks ih =>
   rw[IP,JX]at nd
   rw[IP,JY]
   by_cases e:y.1=z.1
   · have:y=z:=by
       rcases Jf.mp hz with h|h
       · exact h.symm
       · exact absurd (by rw[e];exact KY h) nd.1
     subst this
     simp
   · have:decide ((JK (y.1:Int):HJ)=JK (z.1:Int))=false:=decide_eq_false fun h=>e (by have:=NG h;omega)
     rw[this]
     rcases Jf.mp hz with h|h
     · exact absurd (by rw[h]) e
     · exact ih nd.2 h
theorem kQ{kvs:List (HJ×Im)}{k:HJ}{x:Im}(h:∀kv∈kvs,kv.1≠k):VL.putF kvs k x=kvs++[(k,x)]:=by
 unfold VL.putF
 have:(kvs.any fun kv=>decide (kv.1=k))=false:=by
  rw[List.any_eq_false]
  intro kv hk
  simp[h kv hk]
 rw[this,if_neg (by decide)]
theorem lv:∀(ks:GA.Kp)(acc:List (HJ×Im)),(ks.map (·.1)).Nodup->(∀z∈ks,∀kv∈acc,kv.1≠(JK (z.1:Int):HJ))->(eR ks).foldl (fun a p=>VL.putF a p.1 p.2) acc=acc++eR ks
 | [],acc,_,_=>by simp[eR]
 | z::ks,acc,nd,h=>by
   rw[IP,JX]at nd
   show(eR ks).foldl _ (VL.putF acc _ _)=_
   rw[kQ (h z Iz),lv ks _ nd.2 fun y hy kv hk=>?_]
   · simp[eR]
   · rcases JR.mp hk with hk|hk
     · exact h y (Ir _ hy) kv hk
     · rw[K9.mp hk]
       intro e
       have:z.1=y.1:=by have:=NG e;omega
       exact nd.1 (by rw[this];exact KY hy)
theorem uk{p:Int}{r:List Int}(h:GA.Fg p n r):∀x∈r,0<=x/\x<p:=fun x mx=>by
 obtain⟨k,hk,rfl⟩:=M7 mx
 have:=h.2 k (by have:=h.1;omega)
 rwa [GA.gD hk]at this
theorem Cj{p:Int}{r:List Int}(hl:r.length=n)(h:∀x∈r,0<=x/\x<p):GA.Fg p n r:=⟨hl,fun k hk=>by rw[GA.gD (by omega)];exact h _ (JA _)⟩
def bx:List W->(Im->Prop)->Prop:=fun ws Q=>∃(a m:Int),ws=[.d (.int a),.d (.int m)]/\((1<=a)/\(a<m)/\(m<2^60)/\(∃u v:Int,u*a+v*m=1))/\∀o:Int,(GA.Cg m (o*a) 1)->Q (.int o)
theorem bx.mono:∀ws (Q Q':Im->Prop),(∀d,Q d->Q' d)->bx ws Q->bx ws Q':=fun _ _ _ h_ ⟨a,m,e_,p_,q_⟩=>⟨a,m,e_,p_,fun o_ ho_=>h_ _ (q_ o_ ho_)⟩
theorem bx.len:∀ws (Q:Im->Prop),bx ws Q->ws.length=2:=fun _ _ ⟨_,_,e_,_⟩=>by subst e_;rfl
theorem bx.eq(a m:Int)(a1:1<=a)(am:a<m)(m60:m<2^60)(cop:∃u v:Int,u*a+v*m=1):bx [.d (.int a),.d (.int m)]=GW (anyM fun o:Int=>GA.Cg m (o*a) 1) fun o=>VL.ret (.int o:Im):=by
 refine af fun Q=>⟨?_,fun q_=>⟨a,m,rfl,⟨a1,am,m60,cop⟩,q_⟩⟩
 rintro⟨a',m',e_,_,q_⟩
 simp_arith only[and_true]at e_
 obtain⟨rfl,rfl⟩:=e_
 exact q_
theorem gU:FnScope ["one", "modulus", "former", "here", "rest", "divisor", "quotient"] ["one", "modulus"] (defScope (top 12)):=⟨rfl,rfl,rfl,by decide +kernel,rfl,by decide +kernel,by decide +kernel⟩
theorem d_inverse_of(Fn:FnIn K mg "inverse_of" (top 12) ["one", "modulus"])(Z:Bz mg)    : Dfn P w K mg base rl "inverse_of" ["one", "modulus"] 1 bx:=by
 have sc:=gU
 refine Dfn.of Fn sc (bx.mono) (bx.len) (fun cdv A outer s H E hr=>(aq (sJ (fR (aa aj (aa aj ab))) (eB (n:=2) rfl (bi (au 2 sc.nd) (bi (au 3 sc.nd) cR))))
  (aq (ki 4 5 rfl sc.nd (aa (vn 0) (aa (vn 1) ab)))
  (aq (eV [6] JF (bh hG gM (aT _) (vn 4) aj) (aq (aD 6 sc.nd (v_div (vn 5) (vn 4)))
  (aq (ki 2 3 rfl sc.nd (aa (vn 3) (aa (v_sub (vn 2) (v_mul (vn 6) (vn 3))) ab)))
  (ax (ki 5 4 rfl sc.nd (aa (vn 4) (aa (v_sub (vn 5) (v_mul (vn 6) (vn 4))) ab)))))))
  (ax (aG (vn 3))))))) ?_
 rintro ws Q ⟨a,m,rfl,⟨a1,am,m60,cop⟩,hQ⟩
 refine aI ?_
 simp_arith only[ag,ae]
 refine gL (σ:=Int×Int×Int×Int) (fun s=>[some (.d (.int a)),some (.d (.int m)),some (.d (.int s.1)),some (.d (.int s.2.1)),some (.d (.int s.2.2.1)),some (.d (.int s.2.2.2)),none]) (fun s=>decide (1<s.2.2.1)) (fun s=>(s.2.1,s.1-s.2.2.2.fdiv s.2.2.1*s.2.1,s.2.2.2-s.2.2.2.fdiv s.2.2.1*s.2.2.1,s.2.2.1)) (fun s=>s.2.2.1.toNat)
  (fun s=>1<=s.2.2.1/\s.2.2.1<s.2.2.2/\s.2.2.2<2^60/\(∃u v:Int,u*s.2.2.1+v*s.2.2.2=1)/\GA.Cg m (s.2.1*a) s.2.2.1/\GA.Cg m (s.1*a) s.2.2.2) (0,1,a,m) rfl ⟨a1,am,m60,cop,.of (by show 1*a=a;omega),⟨-1,by show 0*a=m+m * -1;omega⟩⟩ ?_ ?_ ?_
 · intro s _
   simp_arith only[ae]
 · rintro⟨f,h,r,d⟩ ⟨r1,rd,d60,⟨u,v,bz⟩,c1,c2⟩ c
   dsimp only at *
   have r2:1<r:=by simpa using c
   have q0:0<=d.fdiv r:=by rw[Ko _ (by omega)];exact M4 (by omega) (by omega)
   have q1:d.fdiv r<=d:=by rw[Ko _ (by omega)];exact Int.ediv_le_self _ (by omega)
   have em:d-d.fdiv r*r=d%r:=by rw[Ko _ (by omega)];have:=MB d r;grind
   have m0:=M3 d (show r≠0 by omega)
   have m1:=Mk d (show 0<r by omega)
   have cd:ga d r:=ga.of (by omega) (by omega)
   have cm1:bV (d.fdiv r) h:=.lt (by omega)
   have cm2:bV (d.fdiv r) r:=.lt (by omega)
   have mp:1<=d%r:=by
    rcases Int.lt_or_eq_of_le m0 with z|z
    · omega
    · exfalso
      have h1:(u*r+v*d)%r=0:=by rw[Int.add_emod,Int.mul_emod_left,Int.mul_emod,<- z];simp
      rw[bz,Ll (by omega) (by omega)]at h1
      omega
   refine⟨⟨by rw[em];exact mp,by rw[em];exact m1,by omega,⟨v,u+v*d.fdiv r,by grind⟩,?_,c1⟩,by rw[em];omega,[some (.d (.int a)),some (.d (.int m)),some (.d (.int h)),some (.d (.int (f-d.fdiv r*h))),some (.d (.int (d-d.fdiv r*r))),some (.d (.int r)),some (.d (.int (d.fdiv r)))],?_,rfl⟩
   · exact GA.Cg.trans (.of (by grind)) (c2.sub ((GA.Cg.refl (d.fdiv r)).mul c1))
   · simp_arith only[ag,ae]
 · rintro⟨f,h,r,d⟩ ⟨r1,rd,d60,⟨u,v,bz⟩,c1,c2⟩ c
   dsimp only at *
   have r2:¬1<r:=by simpa using c
   have:r=1:=by omega
   subst this
   simp_arith only[ae]
   exact aP (hQ h c1)
def bc:List W->(Im->Prop)->Prop:=fun ws Q=>∃(n a:Int),ws=[.d (.int n),.d (.int a)]/\((0<=n)/\(n<=16)/\(0<=a))/\Q (aK (GA.uni n.toNat a.toNat))
theorem bc.mono:∀ws (Q Q':Im->Prop),(∀d,Q d->Q' d)->bc ws Q->bc ws Q':=fun _ _ _ h_ ⟨n,a,e_,p_,q_⟩=>⟨n,a,e_,p_,h_ _ q_⟩
theorem bc.len:∀ws (Q:Im->Prop),bc ws Q->ws.length=2:=fun _ _ ⟨_,_,e_,_⟩=>by subst e_;rfl
theorem bc.eq(n a:Int)(n0:0<=n)(n16:n<=16)(a0:0<=a):bc [.d (.int n),.d (.int a)]=VL.ret (aK (GA.uni n.toNat a.toNat):Im):=by
 refine af fun Q=>⟨?_,fun q_=>⟨n,a,rfl,⟨n0,n16,a0⟩,q_⟩⟩
 rintro⟨n',a',e_,_,q_⟩
 simp_arith only[and_true]at e_
 obtain⟨rfl,rfl⟩:=e_
 exact q_
theorem eZ:FnScope ["many", "place"] ["many", "place"] (defScope (top 16)):=⟨rfl,rfl,rfl,by decide +kernel,rfl,by decide +kernel,by decide +kernel⟩
theorem d_unit_figures(Fn:FnIn K mg "unit_figures" (top 16) ["many", "place"])(Z:Bz mg)    : Dfn P w K mg base rl "unit_figures" ["many", "place"] 1 bc:=by
 have sc:=eZ
 refine Dfn.of Fn sc (bc.mono) (bc.len) (fun cdv A outer s H E hr=>(ax (aG (bj Z.tuple_ (aa (bv ["k", "place"] [none,some 1] rfl (aS Z.range_ (aa (vn 0) ab)) (fun _=>(au 0 (show JW (["k", "place"]:List Str) by decide +kernel))) (fun _=>bK) (fun _=>(jq (bh (dj hr.units) ce (aT _) (vn 0) (vn 1)) aj aj))) ab))))) ?_
 rintro ws Q ⟨n,a,rfl,⟨n0,n16,a0⟩,hQ⟩
 refine aI ?_
 have sz:=IQ
 have g1 : -(2^62)<=n/\n<2^62:=by omega
 simp_arith only[ag,ae]
 refine ic (fun k=>.int (if k=a.toNat then 1 else 0)) ?_ (by omega) ?_
 · intro k hk
   have e:((0+(k:Int))==a)=decide (k=a.toNat):=by rw[LD];simp;omega
   simp_arith only[ag,ae,Gq,e]
   by_cases h:k=a.toNat
   · simp[h];try rfl
   · simp[h];try rfl
 · rw[df]
   simp_arith only[ag,ae,cf]
   exact aP hQ
def bd:List W->(Im->Prop)->Prop:=fun ws Q=>∃(xs:List Int),ws=[.d (aK xs)]/\((xs.length<=16))/\∀o:Option Nat,(match o with|none=>∀k,k<xs.length->xs.getD k 0=0|some v=>v<xs.length/\xs.getD v 0≠0)->Q (optN o)
theorem bd.mono:∀ws (Q Q':Im->Prop),(∀d,Q d->Q' d)->bd ws Q->bd ws Q':=fun _ _ _ h_ ⟨xs,e_,p_,q_⟩=>⟨xs,e_,p_,fun o_ ho_=>h_ _ (q_ o_ ho_)⟩
theorem bd.len:∀ws (Q:Im->Prop),bd ws Q->ws.length=1:=fun _ _ ⟨_,e_,_⟩=>by subst e_;rfl
theorem bd.eq(xs:List Int)(hl:xs.length<=16):bd [.d (aK xs)]=GW (anyM fun o:Option Nat=>match o with|none=>∀k,k<xs.length->xs.getD k 0=0|some v=>v<xs.length/\xs.getD v 0≠0) fun o=>VL.ret (optN o:Im):=by
 refine af fun Q=>⟨?_,fun q_=>⟨xs,rfl,hl,q_⟩⟩
 rintro⟨xs',e_,_,q_⟩
 simp_arith only[and_true]at e_
 obtain rfl:=e_
 exact q_
theorem e9:FnScope ["figures", "place", "figure"] ["figures"] (defScope (top 17)):=⟨rfl,rfl,rfl,by decide +kernel,rfl,by decide +kernel,by decide +kernel⟩
theorem d_first_filled(Fn:FnIn K mg "first_filled" (top 17) ["figures"])(Z:Bz mg)    : Dfn P w K mg base rl "first_filled" ["figures"] 1 bd:=by
 have sc:=e9
 refine Dfn.of Fn sc (bd.mono) (bd.len) (fun cdv A outer s H E hr=>(aq (bL [1,2] JF rfl (dE Z.enumerate_ (aa (vn 0) ab)) (eB (n:=2) rfl (bi (au 1 sc.nd) (bi (au 2 sc.nd) cR))) (ax (dr (bh (iR hr.units) ce (aT _) (vn 2) aj) (ax (aG (vn 1))) bW)))
  (ax (aG gq)))) ?_
 rintro ws Q ⟨xs,rfl,hl,hQ⟩
 refine aI ?_
 have sz:=IQ
 simp_arith only[ag,ae,tO,wL]
 refine wI (xs:=xs.zipIdx) (enc:=fun z=>Ji [.int (z.2:Nat),.int z.1]) (fun z=>z.1 != 0) (fun z=>.d (.int (z.2:Nat))) rfl ?_ ?_ ?_
 · rintro⟨x,k⟩ mz
   refine⟨fun h=>?_,fun h=>?_⟩
   · have e:(x==0)=false:=by simpa using h
     simp_arith only[ag,ae,e]
   · have e:(x==0)=true:=by simpa using h
     refine⟨[some (.d (aK xs)),some (.d (.int (k:Nat))),some (.d (.int x))],?_,rfl⟩
     simp_arith only[ag,ae,e]
 · rintro⟨x,k⟩ mz h
   have hk:=List.mem_zipIdx mz
   refine aP (hQ (some k) ⟨by omega,?_⟩)
   rw[GA.gD (by omega)]
   have:x=xs[k]:=by have:=hk.2.2;simpa using this
   rw[<- this]
   simpa using h
 · intro h
   simp_arith only[ae]
   refine aP (hQ none fun k hk=>?_)
   have:=h (xs[k],k) (by rw[List.mem_zipIdx_iff_getElem?];simp[hk])
   rw[GA.gD hk]
   simpa using this
def cI:List W->(Im->Prop)->Prop:=fun ws Q=>∃(p:Int)(xs:List Int)(k:Int),ws=[.d (.int p),.d (aK xs),.d (.int k)]/\((2<=p)/\(xs.length<=16)/\(∀x∈xs,0<=x/\x<10))/\Q (aK (GA.scl p xs k))
theorem cI.mono:∀ws (Q Q':Im->Prop),(∀d,Q d->Q' d)->cI ws Q->cI ws Q':=fun _ _ _ h_ ⟨p,xs,k,e_,p_,q_⟩=>⟨p,xs,k,e_,p_,h_ _ q_⟩
theorem cI.len:∀ws (Q:Im->Prop),cI ws Q->ws.length=3:=fun _ _ ⟨_,_,_,e_,_⟩=>by subst e_;rfl
theorem cI.eq(p:Int)(xs:List Int)(k:Int)(p2:2<=p)(hl:xs.length<=16)(hx:∀x∈xs,0<=x/\x<10):cI [.d (.int p),.d (aK xs),.d (.int k)]=VL.ret (aK (GA.scl p xs k):Im):=by
 refine af fun Q=>⟨?_,fun q_=>⟨p,xs,k,rfl,⟨p2,hl,hx⟩,q_⟩⟩
 rintro⟨p',xs',k',e_,_,q_⟩
 simp_arith only[and_true]at e_
 obtain⟨rfl,rfl,rfl⟩:=e_
 exact q_
theorem n8:FnScope ["p", "row", "often"] ["p", "row", "often"] (defScope (top 18)):=⟨rfl,rfl,rfl,by decide +kernel,rfl,by decide +kernel,by decide +kernel⟩
theorem d_scaled(Fn:FnIn K mg "scaled" (top 18) ["p", "row", "often"])(Z:Bz mg)    : Dfn P w K mg base rl "scaled" ["p", "row", "often"] 1 cI:=by
 have sc:=n8
 refine Dfn.of Fn sc (cI.mono) (cI.len) (fun cdv A outer s H E hr=>(ax (aG (bj Z.tuple_ (aa (bv ["x", "often", "p"] [none,some 2,some 0] rfl (gf (vn 1)) (fun _=>(au 0 (show JW (["x", "often", "p"]:List Str) by decide +kernel))) (fun _=>bK) (fun _=>(v_mod (v_mul (vn 1) (vn 0)) (vn 2)))) ab))))) ?_
 rintro ws Q ⟨p,xs,k,rfl,⟨p2,hl,hx⟩,hQ⟩
 refine aI ?_
 have sz:=IQ
 have p0:p≠0:=by omega
 simp_arith only[ag,ae,cE]
 refine cX (xs:=xs) (enc:=IJ) (fun x=>.int ((k*x).fmod p)) rfl ?_ (by omega) ?_
 · intro x mx
   have:=hx x mx
   have cm:bV k x:=.rt (by omega)
   simp_arith only[ag,ae,Gq]
 · rw[df]
   simp_arith only[ag,ae,cf]
   exact aP hQ
def cj:List W->(Im->Prop)->Prop:=fun ws Q=>∃(p:Int)(xs ys:List Int)(c:Int),ws=[.d (.int p),.d (aK xs),.d (aK ys),.d (.int c)]/\((2<=p)/\(xs.length<=16)/\(ys.length<=16)/\(0<=c)/\(c<xs.length)/\(∀y∈ys,0<=y/\y<10))/\Q (aK (GA.clr p xs ys c.toNat))
theorem cj.mono:∀ws (Q Q':Im->Prop),(∀d,Q d->Q' d)->cj ws Q->cj ws Q':=fun _ _ _ h_ ⟨p,xs,ys,c,e_,p_,q_⟩=>⟨p,xs,ys,c,e_,p_,h_ _ q_⟩
theorem cj.len:∀ws (Q:Im->Prop),cj ws Q->ws.length=4:=fun _ _ ⟨_,_,_,_,e_,_⟩=>by subst e_;rfl
theorem cj.eq(p:Int)(xs ys:List Int)(c:Int)(p2:2<=p)(xl:xs.length<=16)(yl:ys.length<=16)(c0:0<=c)(cl:c<xs.length)(hy:∀y∈ys,0<=y/\y<10):cj [.d (.int p),.d (aK xs),.d (aK ys),.d (.int c)]=VL.ret (aK (GA.clr p xs ys c.toNat):Im):=by
 refine af fun Q=>⟨?_,fun q_=>⟨p,xs,ys,c,rfl,⟨p2,xl,yl,c0,cl,hy⟩,q_⟩⟩
 rintro⟨p',xs',ys',c',e_,_,q_⟩
 simp_arith only[and_true]at e_
 obtain⟨rfl,rfl,rfl,rfl⟩:=e_
 exact q_
theorem lU:FnScope ["p", "row", "other", "column", "often"] ["p", "row", "other", "column"] (defScope (top 19)):=⟨rfl,rfl,rfl,by decide +kernel,rfl,by decide +kernel,by decide +kernel⟩
theorem d_cleared(Fn:FnIn K mg "cleared" (top 19) ["p", "row", "other", "column"])(Z:Bz mg)    : Dfn P w K mg base rl "cleared" ["p", "row", "other", "column"] 1 cj:=by
 have sc:=lU
 refine Dfn.of Fn sc (cj.mono) (cj.len) (fun cdv A outer s H E hr=>(aq (aD 4 sc.nd (fS (vn 1) (vn 3)))
  (ax (aG (bj Z.tuple_ (aa (bv ["x", "y", "often", "p"] [none,none,some 4,some 0] rfl (kj Z.zip_ (aa (vn 1) (aa (vn 2) ab))) (fun _=>(eB (n:=2) rfl (bi (au 0 (show JW (["x", "y", "often", "p"]:List Str) by decide +kernel)) (bi (au 1 (show JW (["x", "y", "often", "p"]:List Str) by decide +kernel)) cR)))) (fun _=>bK) (fun _=>(v_mod (v_sub (vn 0) (v_mul (vn 2) (vn 1))) (vn 3)))) ab)))))) ?_
 rintro ws Q ⟨p,xs,ys,c,rfl,⟨p2,xl,yl,c0,cl,hy⟩,hQ⟩
 refine aI ?_
 have sz:=IQ
 have p0:p≠0:=by omega
 have e:VL.itemAt (aK xs) c=some (.int (xs.getD c.toNat 0)):=by rw[pi,lK c0 cl,GA.gD (by omega)];rfl
 simp_arith only[ag,ae,e,jy]
 refine tJ (by exact⟨rfl,rfl⟩) ?_
 rw[ka]
 refine cX (xs:=xs.zip ys) (enc:=fun z=>Ji [.int z.1,.int z.2]) (fun z=>.int ((z.1-xs.getD c.toNat 0*z.2).fmod p)) rfl ?_ (by rw[M5];omega) ?_
 · rintro⟨x,y⟩ mz
   have:=hy y (KW mz).2
   have cm:bV (xs.getD c.toNat 0) y:=.rt (by omega)
   simp_arith only[ag,ae,Gq]
 · rw[df]
   simp_arith only[ag,ae,cf]
   exact aP hQ
theorem za:optN none = .none:=rfl
theorem y_(v:Nat):optN (some v) = .int (v:Int):=rfl
theorem tL:optT none = .none:=rfl
theorem tK(v:List Int):optT (some v)=aK v:=rfl
theorem Aa(xs ys:List Int):Ji (xs.map IJ++ys.map IJ)=aK (xs++ys):=by unfold aK;rw[Kc]
theorem Eg(xs:List α)(f:α->Im)(k:Nat):VL.cutD (xs.map f) none (some (k:Int))=(xs.take k).map f:=by
 unfold VL.cutD
 rw[HT.sIx_none,HT.sIx_nat,Nr,IE,Nl,<- ML]
 congr 1
 by_cases z:k<=xs.length
 · rw[LL z]
 · rw[Lx (by omega),JH (by omega),JH (by omega)]
theorem Ds(xs:List α)(f:α->Im)(k:Nat):VL.cutD (xs.map f) (some (k:Int)) none=(xs.drop k).map f:=by
 unfold VL.cutD
 rw[HT.sIx_none,HT.sIx_nat,IE,<- List.map_drop,<- ML]
 congr 1
 by_cases z:k<=xs.length
 · rw[LL z,JH (by rw[KM];omega)]
 · rw[Lx (by omega),KE (by omega),KE (by omega)];simp
def ue(p:Int)(t:List (List Int)):Prop:=1<=t.length/\t.length<=8/\(t.getD 0 []).length<=8/\∀r∈t,GA.Fg p (t.getD 0 []).length r
def Cc(p:Int)(t:List (List Int))(z:GA.Kp×Option (List Int)):Prop:=match z.2 with
 | none=>GA.GI p (t.getD 0 []).length t.length t t.length z.1
 | some h=>GA.Hg p (t.getD 0 []).length t h
def bS:List W->(H_->Prop)->Prop:=fun ws Q=>∃(p:Int)(t:List (List Int)),ws=[.d (.int p),.d (tbD t)]/\((p=2\/p=3\/p=5\/p=7)/\(ue p t))/\∀z:GA.Kp×Option (List Int),(Cc p t z)->Q ((eR z.1,optT z.2))
theorem bS.mono:∀ws (Q Q':H_->Prop),(∀d,Q d->Q' d)->bS ws Q->bS ws Q':=fun _ _ _ h_ ⟨p,t,e_,p_,q_⟩=>⟨p,t,e_,p_,fun o_ ho_=>h_ _ (q_ o_ ho_)⟩
theorem bS.len:∀ws (Q:H_->Prop),bS ws Q->ws.length=2:=fun _ _ ⟨_,_,e_,_⟩=>by subst e_;rfl
theorem bS.eq(p:Int)(t:List (List Int))(hp:p=2\/p=3\/p=5\/p=7)(ht:ue p t):bS [.d (.int p),.d (tbD t)]=GW (anyM fun z:GA.Kp×Option (List Int)=>Cc p t z) fun z=>VL.ret ((eR z.1,optT z.2):H_):=by
 refine af fun Q=>⟨?_,fun q_=>⟨p,t,rfl,⟨hp,ht⟩,q_⟩⟩
 rintro⟨p',t',e_,_,q_⟩
 simp_arith only[nN]at e_
 obtain⟨rfl,rfl⟩:=e_
 exact q_
theorem lT:FnScope ["p", "table", "columns", "kept", "number", "figures", "row", "column", "pivot"] ["p", "table"] (defScope (top 20)):=⟨rfl,rfl,rfl,by decide +kernel,rfl,by decide +kernel,by decide +kernel⟩
theorem d_reduced(Fn:FnIn K mg "reduced" (top 20) ["p", "table"])(Z:Bz mg)(d_first_filled:∀rl,Dfn P w K mg base rl "first_filled" ["figures"] 1 bd)(d_scaled:∀rl,Dfn P w K mg base rl "scaled" ["p", "row", "often"] 1 cI)(d_unit_figures:∀rl,Dfn P w K mg base rl "unit_figures" ["many", "place"] 1 bc)(d_cleared:∀rl,Dfn P w K mg base rl "cleared" ["p", "row", "other", "column"] 1 cj)(d_inverse_of:∀rl,Dfn P w K mg base rl "inverse_of" ["one", "modulus"] 1 bx)   : DfnP P w K mg base rl "reduced" ["p", "table"] 2 bS:=by
 have sc:=lT
 refine DfnP.of Fn sc (bS.mono) (bS.len) (fun cdv A outer s H E hr=>(aq (aD 2 sc.nd (cS Z.len_ (aa (fS (vn 1) aj) ab)))
  (aq (mU 3 (cQ 3 sc.nd qF))
  (aq (bL [4,5,6,7,8] JF rfl (dE Z.enumerate_ (aa (vn 1) ab)) (eB (n:=2) rfl (bi (au 4 sc.nd) (bi (au 5 sc.nd) cR))) (aq (aD 6 sc.nd (kA (vn 5) (aM (d_unit_figures _) (hr.mono (by decide)) (aa (cS Z.len_ (aa (vn 1) ab)) (aa (vn 4) ab)))))
  (aq (bL [7] JF rfl (mY (vn 3)) (au 7 sc.nd) (ax (aD 6 sc.nd (aM (d_cleared _) (hr.mono (by decide)) (aa (vn 0) (aa (vn 6) (aa (jr hr.un1 (vn 3) (vn 7)) (aa (vn 7) ab))))))))
  (aq (aD 8 sc.nd (aM (d_first_filled _) (hr.mono (by decide)) (aa (lN (vn 6) du (dt (vn 2))) ab)))
  (aq (dr (bh zg xJ (aT _) (vn 8) gq) (ax (aG (sP (aa (vn 3) (aa (lN (vn 6) (dt (vn 2)) du) ab))))) bW)
  (aq (aD 6 sc.nd (aM (d_scaled _) (hr.mono (by decide)) (aa (vn 0) (aa (vn 6) (aa (aM (d_inverse_of _) (hr.mono (by decide)) (aa (fS (vn 6) (vn 8)) (aa (vn 0) ab))) ab)))))
  (aq (ii 3 sc.nd ["column", "p", "kept", "row", "pivot"] [none,some 0,some 3,some 6,some 8] rfl (mY (vn 3)) (fun _=>(au 0 (show JW (["column", "p", "kept", "row", "pivot"]:List Str) by decide +kernel))) (fun _=>bK) (fun _=>(vn 0)) (fun _=>(aM (d_cleared _) (hr.mono (by decide)) (aa (vn 1) (aa (jr hr.un1 (vn 2) (vn 0)) (aa (vn 3) (aa (vn 4) ab)))))))
  (ax (mU 3 (qA 3 hr.un1 (vn 8) (vn 6)))))))))))
  (ax (aG (sP (aa (vn 3) (aa gq ab))))))))) ?_
 rintro ws Q ⟨p,t,rfl,⟨hp,ht⟩,hQ⟩
 refine qR ?_
 have sz:=IQ
 have p2:2<=p:=by omega
 have p7:p<=7:=by omega
 obtain⟨t1,t8,c8,hf⟩:=ht
 generalize hC:(t.getD 0 []).length=C at *
 have e0:atI t 0=some (t.getD 0 []):=by rw[show(0:Int)=((0:Nat):Int)from rfl,cp (Iy t1),Ix,Iy t1];rfl
 simp_arith only[ag,ae,Ik,Fz,jP,e0,jN,hC,tO,wK]
 refine lm (xs:=t.zipIdx) (enc:=fun z=>Ji [.int (z.2:Nat),aK z.1]) (fun i ρ=>∃ks,ρ=[some (.d (.int p)),some (.d (tbD t)),some (.d (.int (C:Int))),some (.fw (eR ks)),none,none,none,none,none]/\GA.GI p C t.length t i ks) rfl ⟨[],rfl,GA.GI.nil p C t.length t⟩ ?_ ?_
 · rintro i hi ρ ⟨ks,rfl,g⟩ K hK
   have it:i<t.length:=by rw[No]at hi;exact hi
   have ez:t.zipIdx[i]=(t[i],i):=by simp
   rw[ez]
   have hti:=hf _ (JA it)
   have eti:t.getD i []=t[i]:=by rw[Ix,Iy it];rfl
   have gl:t[i].length+(GA.uni t.length i).length<=sizeLine:=by rw[GA.uni_len,hti.1];omega
   simp_arith only[ag,ae,Ik,Fz,hR,bc.eq,cE,Aa,JO]
   have hk:(eR ks).map (fun p=>qu p.1)=ks.map fun z=>IJ (z.1:Int):=by unfold eR;rw[Jp];rfl
   refine pG (xs:=ks) (enc:=fun z=>IJ (z.1:Int)) (fun r:List Int=>[some (.d (.int p)),some (.d (tbD t)),some (.d (.int (C:Int))),some (.fw (eR ks)),some (.d (.int (i:Int))),some (.d (aK t[i])),some (.d (aK r)),none,none]) (fun r z=>GA.clr p r z.2 z.1) (t[i]++GA.uni t.length i) (fun r=>r.length=C+t.length) rfl hk (by rw[Jx,GA.uni_len,hti.1]) ?_ ?_
   · intro z hz r hr
     have fz:=g.fg z hz
     have lz:=g.lt z hz
     have vz:=kw g.nd hz
     have q1:r.length<=16:=by omega
     have q2:z.2.length<=16:=by have:=fz.1;omega
     have q3:(z.1:Int)<(r.length:Int):=by omega
     have q4:∀y∈z.2,0<=y/\y<10:=fun y my=>by have:=uk fz y my;omega
     refine⟨GA.clr_len hr fz.1,[some (.d (.int p)),some (.d (tbD t)),some (.d (.int (C:Int))),some (.fw (eR ks)),some (.d (.int (i:Int))),some (.d (aK t[i])),some (.d (aK (GA.clr p r z.2 z.1))),some (.d (.int (z.1:Int))),none],?_,rfl⟩
     simp_arith only[ag,ae,Ik,Fz,vz,cj.eq,JO]
   have er:ks.foldl (fun r z=>GA.clr p r z.2 z.1) (t[i]++GA.uni t.length i)=GA.clrs p (GA.row0 t.length i (t.getD i [])) ks:=by rw[eti];rfl
   rw[er]
   obtain⟨a1,a2,a3,a4,a5,a6⟩:=g.row p2 hf it
   have gh:=g.hang p2 hf it
   have gs:=fun(v:Nat)(hv:v<C)(a:Int)=>g.step p2 hf it (v:=v) hv (a:=a)
   generalize GA.clrs p (GA.row0 t.length i (t.getD i [])) ks=w at *
   have wt:(w.take C).length<=16:=by rw[JQ];omega
   have tl:(w.take C).length=C:=by rw[JQ,a1.1];omega
   have tk:∀k,k<C->(w.take C).getD k 0=w.getD k 0:=fun k hk=>by rw[Ix,Ix,L5 hk]
   simp_arith only[ag,ae,Ik,Fz,bd.eq,cE,Eg,cf]
   (with_reducible (first|refine aw fun o ho=>?_|refine aE fun o ho=>?_))
   cases o with
   | none =>
     simp_arith only[ag,ae,Ik,Fz,za,cE,Ds,cf]
     refine hK _ (oX (oh (hQ (ks,some (w.drop C)) ?_)))
     show GA.Hg p (t.getD 0 []).length t _
     rw[hC]
     exact gh fun c hc=>by rw[<- tk c hc];exact ho c (by omega)
   | some v =>
     have hv:v<C:=by have:=ho.1;omega
     have hw:w.getD v 0≠0:=by have:=ho.2;rwa [tk v hv]at this
     have wv:=a1.2 v (by omega)
     have ev:VL.itemAt (aK w) (v:Int)=some (.int (w.getD v 0)):=by rw[pi,cp (Iy (by have:=a1.1;omega)),GA.gD (by have:=a1.1;omega)];rfl
     have b1:1<=w.getD v 0:=by omega
     have b2:w.getD v 0<p:=wv.2
     have b3:p<2^60:=by omega
     have b4:=i6 hp b1 b2
     have wl:w.length<=16:=by have:=a1.1;omega
     have wx:∀x∈w,0<=x/\x<10:=fun x mx=>by have:=uk a1 x mx;omega
     simp_arith only[ag,ae,Ik,Fz,y_,ev,bx.eq]
     (with_reducible (first|refine aw fun a ha=>?_|refine aE fun a ha=>?_))
     obtain⟨ne,g2⟩:=gs v hv a ha
     have sl:(GA.scl p w a).length=C+t.length:=by rw[GA.scl_len,a1.1]
     have s16:(GA.scl p w a).length<=16:=by omega
     have sx:∀x∈GA.scl p w a,0<=x/\x<10:=fun x mx=>by
      obtain⟨y,_,rfl⟩:=Jo.mp mx
      have:=GA.fm_in (show 0<p by omega) (a*y);omega
     simp_arith only[ag,ae,Ik,Fz,cI.eq]
     refine Ft (wN (xs:=ks) (enc:=fun z=>IJ (z.1:Int)) (fun z=>(JK (z.1:Int),aK (GA.clr p z.2 (GA.scl p w a) v))) hk ?_ (by have:=g.len;omega) ?_)
     · intro z hz
       have fz:=g.fg z hz
       have vz:=kw g.nd hz
       have q2:z.2.length<=16:=by have:=fz.1;omega
       have q3:(v:Int)<(z.2.length:Int):=by have:=fz.1;omega
       simp_arith only[ag,ae,Ik,Fz,Gr,vz,cj.eq,JO]
     have ec:(ks.map fun z=>((JK (z.1:Int):HJ),aK (GA.clr p z.2 (GA.scl p w a) v)))=eR (ks.map fun z=>(z.1,GA.clr p z.2 (GA.scl p w a) v)):=by unfold eR;rw[Jp];rfl
     have nd2:((ks.map fun z=>(z.1,GA.clr p z.2 (GA.scl p w a) v)).map (·.1)).Nodup:=by rw[Jp];exact g.nd
     rw[ec,lv _ [] nd2 (fun _ _ _ h=>nomatch h),Mg]
     have el:(eR (ks.map fun z=>(z.1,GA.clr p z.2 (GA.scl p w a) v))).length<sizeLine:=by unfold eR;rw[IE,IE,g.len];omega
     have ep:VL.putF (eR (ks.map fun z=>(z.1,GA.clr p z.2 (GA.scl p w a) v))) (JK (v:Int)) (aK (GA.scl p w a))=eR (ks.map (fun z=>(z.1,GA.clr p z.2 (GA.scl p w a) v))++[(v,GA.scl p w a)]):=by
      rw[kQ]
      · unfold eR;rw[Kc];rfl
      · intro kv hk
        unfold eR at hk
        obtain⟨y,my,rfl⟩:=Jo.mp hk
        obtain⟨z,mz,rfl⟩:=Jo.mp my
        intro e
        exact ne z mz (by have:=NG e;omega)
     simp_arith only[ag,ae,Ik,Fz,ep]
     exact hK _ (dm ⟨_,rfl,g2⟩)
 · rintro ρ ⟨ks,rfl,g⟩
   rw[No]at g
   simp_arith only[ag,ae,Ik,Fz]
   exact oh (hQ (ks,none) (by show GA.GI p (t.getD 0 []).length _ _ _ _;rw[hC];exact g))
theorem na(ks:GA.Kp)(c:Nat):mO (eR ks) (JK (c:Int))=(ks.find? fun z=>decide (z.1=c)).map fun z=>aK z.2:=by
 unfold mO eR
 induction ks with
 | nil=>rfl
 | cons y ks ih =>
   rw[IP,JY,JY]
   have:decide ((JK (y.1:Int):HJ)=JK (c:Int))=decide (y.1=c):=by
    by_cases e:y.1=c
    · rw[decide_eq_true e,decide_eq_true (by rw[e])]
    · rw[decide_eq_false e,decide_eq_false fun h=>e (by have:=NG h;omega)]
   dsimp only
   rw[this]
   cases decide (y.1=c)with
   | true=>rfl
   | false=>exact ih
def Ch(p:Int)(t:List (List Int))(o:Option (List (List Int))):Prop:=match o with
 | none=>∃h,GA.Hg p (t.getD 0 []).length t h
 | some x=>GA.IsRi p (t.getD 0 []).length t x/\t.length<=(t.getD 0 []).length
def Cm(p:Int)(t:List (List Int))(o:Option (List Int)):Prop:=match o with
 | none=>∃x,GA.IsRi p (t.getD 0 []).length t x
 | some h=>GA.Hg p (t.getD 0 []).length t h
theorem ve{p:Int}{t:List (List Int)}{z:GA.Kp×Option (List Int)}(p2:2<=p)(ht:ue p t)(h:Cc p t z):Cm p t z.2:=by
 obtain⟨ks,o⟩:=z
 cases o with
 | none=>exact⟨_,GA.GI.ri p2 ht.2.2.2 (show GA.GI p _ t.length t t.length ks from h)⟩
 | some x=>exact h
theorem yC(n:Nat):Ji (IH n (IJ 0))=aK (IH n 0):=by unfold aK;rw[List.map_replicate]
def bp:List W->(Im->Prop)->Prop:=fun ws Q=>∃(p:Int)(t:List (List Int)),ws=[.d (.int p),.d (tbD t)]/\((p=2\/p=3\/p=5\/p=7)/\(ue p t))/\∀o:Option (List Int),(Cm p t o)->Q (optT o)
theorem bp.mono:∀ws (Q Q':Im->Prop),(∀d,Q d->Q' d)->bp ws Q->bp ws Q':=fun _ _ _ h_ ⟨p,t,e_,p_,q_⟩=>⟨p,t,e_,p_,fun o_ ho_=>h_ _ (q_ o_ ho_)⟩
theorem bp.len:∀ws (Q:Im->Prop),bp ws Q->ws.length=2:=fun _ _ ⟨_,_,e_,_⟩=>by subst e_;rfl
theorem bp.eq(p:Int)(t:List (List Int))(hp:p=2\/p=3\/p=5\/p=7)(ht:ue p t):bp [.d (.int p),.d (tbD t)]=GW (anyM fun o:Option (List Int)=>Cm p t o) fun o=>VL.ret (optT o:Im):=by
 refine af fun Q=>⟨?_,fun q_=>⟨p,t,rfl,⟨hp,ht⟩,q_⟩⟩
 rintro⟨p',t',e_,_,q_⟩
 simp_arith only[nN]at e_
 obtain⟨rfl,rfl⟩:=e_
 exact q_
theorem fU:FnScope ["p", "table"] ["p", "table"] (defScope (top 22)):=⟨rfl,rfl,rfl,by decide +kernel,rfl,by decide +kernel,by decide +kernel⟩
theorem d_combination(Fn:FnIn K mg "combination" (top 22) ["p", "table"])(Z:Bz mg)(d_reduced:∀rl,DfnP P w K mg base rl "reduced" ["p", "table"] 2 bS)   : Dfn P w K mg base rl "combination" ["p", "table"] 3 bp:=by
 have sc:=fU
 refine Dfn.of Fn sc (bp.mono) (bp.len) (fun cdv A outer s H E hr=>(ax (aG (AN (nh (d_reduced _) (hr.mono (by decide)) (aa (vn 0) (aa (vn 1) ab))) aj)))) ?_
 rintro ws Q ⟨p,t,rfl,⟨hp,ht⟩,hQ⟩
 refine aI ?_
 simp_arith only[ag,ae,Ik,Fz,bS.eq]
 (with_reducible (first|refine aw fun z hz=>?_|refine aE fun z hz=>?_))
 try simp_arith only[ag,ae,Ik,Fz]
 exact aP (hQ z.2 (ve (by omega) ht hz))
def aX:List W->(Im->Prop)->Prop:=fun ws Q=>∃(p:Int)(t:List (List Int)),ws=[.d (.int p),.d (tbD t)]/\((p=2\/p=3\/p=5\/p=7)/\(ue p t))/\∀o:Option (List (List Int)),(Ch p t o)->Q (optTb o)
theorem aX.mono:∀ws (Q Q':Im->Prop),(∀d,Q d->Q' d)->aX ws Q->aX ws Q':=fun _ _ _ h_ ⟨p,t,e_,p_,q_⟩=>⟨p,t,e_,p_,fun o_ ho_=>h_ _ (q_ o_ ho_)⟩
theorem aX.len:∀ws (Q:Im->Prop),aX ws Q->ws.length=2:=fun _ _ ⟨_,_,e_,_⟩=>by subst e_;rfl
theorem aX.eq(p:Int)(t:List (List Int))(hp:p=2\/p=3\/p=5\/p=7)(ht:ue p t):aX [.d (.int p),.d (tbD t)]=GW (anyM fun o:Option (List (List Int))=>Ch p t o) fun o=>VL.ret (optTb o:Im):=by
 refine af fun Q=>⟨?_,fun q_=>⟨p,t,rfl,⟨hp,ht⟩,q_⟩⟩
 rintro⟨p',t',e_,_,q_⟩
 simp_arith only[nN]at e_
 obtain⟨rfl,rfl⟩:=e_
 exact q_
theorem eL:FnScope ["p", "table", "kept", "hanging", "columns", "noughts"] ["p", "table"] (defScope (top 21)):=⟨rfl,rfl,rfl,by decide +kernel,rfl,by decide +kernel,by decide +kernel⟩
theorem d_right_inverse(Fn:FnIn K mg "right_inverse" (top 21) ["p", "table"])(Z:Bz mg)(d_reduced:∀rl,DfnP P w K mg base rl "reduced" ["p", "table"] 2 bS)   : Dfn P w K mg base rl "right_inverse" ["p", "table"] 3 aX:=by
 have sc:=eL
 refine Dfn.of Fn sc (aX.mono) (aX.len) (fun cdv A outer s H E hr=>(aq (xD 2 3 rfl sc.nd (nh (d_reduced _) (hr.mono (by decide)) (aa (vn 0) (aa (vn 1) ab))))
  (aq (dr (bh oS mW (aT _) (vn 3) gq) (ax (aG gq)) bW)
  (aq (aD 4 sc.nd (cS Z.len_ (aa (fS (vn 1) aj) ab)))
  (aq (aD 5 sc.nd (xS (fR (aa aj ab)) (cS Z.len_ (aa (vn 1) ab))))
  (ax (aG (bj Z.tuple_ (aa (bv ["column", "kept", "columns", "noughts"] [none,some 2,some 4,some 5] rfl (aS Z.range_ (aa (vn 4) ab)) (fun _=>(au 0 (show JW (["column", "kept", "columns", "noughts"]:List Str) by decide +kernel))) (fun _=>bK) (fun _=>(jq (uE hr.un1 (vn 0) (vn 1)) (lN (jr hr.un1 (vn 1) (vn 0)) (dt (vn 2)) du) (vn 3)))) ab))))))))) ?_
 rintro ws Q ⟨p,t,rfl,⟨hp,ht⟩,hQ⟩
 refine aI ?_
 have sz:=IQ
 have p2:2<=p:=by omega
 simp_arith only[ag,ae,Ik,Fz,bS.eq]
 (with_reducible (first|refine aw fun z hz=>?_|refine aE fun z hz=>?_))
 obtain⟨ks,o⟩:=z
 cases o with
 | some h =>
   simp_arith only[ag,ae,Ik,Fz,tK]
   exact aP (hQ none ⟨h,hz⟩)
 | none =>
   obtain⟨t1,t8,c8,hf⟩:=ht
   have g:GA.GI p (t.getD 0 []).length t.length t t.length ks:=hz
   have ri:Ch p t (some ((IN (t.getD 0 []).length).map fun c=>GA.xrow (t.getD 0 []).length t.length ks c)):=⟨GA.GI.ri p2 hf g,g.le⟩
   generalize hC:(t.getD 0 []).length=C at *
   have e0:atI t 0=some (t.getD 0 []):=by rw[show(0:Int)=((0:Nat):Int)from rfl,cp (Iy t1),Ix,Iy t1];rfl
   have g1 : -(2^62)<=(C:Int)/\(C:Int)<2^62:=by omega
   simp_arith only[ag,ae,Ik,Fz,tL,jP,e0,jN,hR,hC]
   have rf:Ji (IH t.length [IJ 0]).flatten=aK (IH t.length 0):=by
    rw[<- yC];congr 1
    generalize t.length=n
    induction n with
    | zero=>rfl
    | succ n ih=>rw[JJ,JJ,Kw,ih];rfl
   rw[rf]
   refine bI ⟨by simp,by omega,by omega⟩ ?_
   refine ic (fun c=>aK (GA.xrow C t.length ks c)) ?_ (by omega) ?_
   · intro c hc
     have ek:(0+(c:Int))=(c:Int):=LM _
     have vf:=na ks c
     cases hf:ks.find? (fun z=>decide (z.1=c))with
     | none =>
       rw[hf]at vf
       have ex:GA.xrow C t.length ks c=IH t.length 0:=by unfold GA.xrow;rw[hf]
       simp_arith only[ag,ae,Ik,Fz,Gq,ek,vf,Option.map_none,Option.isSome_none,ex]
     | some z =>
       rw[hf]at vf
       have ex:GA.xrow C t.length ks c=z.2.drop C:=by unfold GA.xrow;rw[hf]
       simp_arith only[ag,ae,Ik,Fz,Gq,ek,vf,Option.map_some,Ng,ex,cE,Ds,cf]
   · rw[la]
     exact aP (hQ _ ri)
def shp:Nat->Nat->List (List Int)
 | 0,_=>[]
 | 1,w=>[[(w:Int)]]
 | m+2,w=>(IN (w+1)).flatMap fun f=>(shp (m+1) (w-f)).map fun r=>(f:Int)::r
theorem yp{c:Nat}{f:Nat->Nat}(h:∀i,i<n->f i<=c):((IN n).map f).sum<=n*c:=by
 induction n with
 | zero=>simp
 | succ n ih =>
   rw[M6,Kc,Of]
   have h1:=ih fun i hi=>h i (by omega)
   have h2:=h n (by omega)
   simp[Pb]
   omega
theorem jw:∀(m w:Nat),w<=5->(shp (m+1) w).length<=6^m
 | 0,w,_=>by simp[shp]
 | m+1,w,h=>by
   rw[shp,OM]
   refine Jr (yp (c:=6^m) fun f _=>?_) ?_
   · rw[IE];exact jw m (w-f) (by omega)
   · rw[Pg,N8];exact OG _ (by omega)
theorem jv:∀(m w:Nat)(r:List Int),r∈shp (m+1) w->r.length=m+1/\(∀k∈r,0<=k)/\r.sum=w
 | 0,w,r,h=>by
   simp[shp]at h
   subst h
   simp
 | m+1,w,r,h=>by
   rw[shp,NS]at h
   obtain⟨f,hf,h⟩:=h
   rw[JB]at hf
   obtain⟨q,mq,rfl⟩:=Jo.mp h
   obtain⟨a,b,c⟩:=jv m (w-f) q mq
   refine⟨by rw[Ju,a],fun k mk=>?_,?_⟩
   · rcases Jf.mp mk with rfl|mk
     · omega
     · exact b k mk
   · rw[J0,c];omega
def aF:Nat->List W->(Im->Prop)->Prop
 | 0,_,_=>False
 | n+1,ws,Q=>∃m w:Int,ws=[.d (.int m),.d (.int w)]/\(1<=m/\m<=n+1/\n<=3/\0<=w/\w<=5)/\Q (.list ((shp m.toNat w.toNat).map aK))
theorem aF.mono:∀n ws (Q Q':Im->Prop),(∀d,Q d->Q' d)->aF n ws Q->aF n ws Q'
 | 0,_,_,_,_,z=>z
 | _+1,_,_,_,h,⟨m,w,e,p,q⟩=>⟨m,w,e,p,h _ q⟩
theorem aF.len:∀n ws (Q:Im->Prop),aF n ws Q->ws.length=2
 | 0,_,_,z=>z.elim
 | _+1,_,_,⟨_,_,e,_⟩=>by subst e;rfl
theorem aF.eqn(n:Nat)(m w:Int)(h:1<=m/\m<=n+1/\n<=3/\0<=w/\w<=5):aF (n+1) [.d (.int m),.d (.int w)]=VL.ret (M9 ((shp m.toNat w.toNat).map aK)):=by
 refine af fun Q=>⟨?_,fun q=>⟨m,w,rfl,h,q⟩⟩
 rintro⟨m',w',e,_,q⟩
 simp only[J9,W.d.injEq,NP,and_true]at e
 obtain⟨rfl,rfl⟩:=e
 exact q
theorem iC:FnScope ["many", "w"] ["many", "w"] (defScope (top 26)):=⟨rfl,rfl,rfl,by decide +kernel,rfl,by decide +kernel,by decide +kernel⟩
theorem bY(n:Nat)(Fn:FnIn K mg "shapes_of" (top 26) ["many", "w"])(Z:Bz mg)(d_shapes_of:∀rl,Dfn P w K mg base rl "shapes_of" ["many", "w"] (0+n) (aF n)):Dfn P w K mg base rl "shapes_of" ["many", "w"] (0+n+1) (aF (n+1)):=by
 have sc:=iC
 refine Dfn.of Fn sc (aF.mono _) (aF.len _) (fun cdv A outer s H E hr=>(aq (dr (bh (dj hr.units) ce (aT _) (vn 0) aj) (ax (aG (eK (aa (fR (aa (vn 1) ab)) ab)))) bW)
  (ax (aG (qD ["first", "rest", "many", "w"] [none,none,some 0,some 1] rfl (aS Z.range_ (aa (v_add (vn 1) aj) ab)) (fun _=>(au 0 (show JW (["first", "rest", "many", "w"]:List Str) by decide +kernel))) (fun _=>bK) (fun _=>(gN (aM (d_shapes_of _) (hr.mono (by omega)) (aa (v_sub (vn 2) aj) (aa (v_sub (vn 3) (vn 0)) ab))))) (fun _=>(au 1 (show JW (["first", "rest", "many", "w"]:List Str) by decide +kernel))) (fun _=>bK) (fun _=>(kA (fR (aa (vn 0) ab)) (vn 1)))))))) ?_
 rintro ws Q ⟨m,w,rfl,⟨m1,mn,n3,w0,w5⟩,hQ⟩
 refine aI ?_
 have sz:=IQ
 by_cases h1:m=1
 · subst h1
   have e:(shp (Int.toNat 1) w.toNat).map aK=[Ji [.int w]]:=by
    show [aK [((w.toNat:Nat):Int)]]=_
    rw[J3 w0];rfl
   rw[e]at hQ
   simp_arith only[ag,ae]
   exact jC hQ
 · have t1:(m==1)=false:=by simpa using h1
   obtain⟨n',rfl⟩:∃n',n=n'+1:=⟨n-1,by omega⟩
   obtain⟨j,ej⟩:∃j:Nat,m.toNat=j+2:=⟨m.toNat-2,by omega⟩
   have g1 : -(2^62)<=w+1/\w+1<2^62:=by omega
   have lb:=jw (j+1) w.toNat (by omega)
   have j2:j<=2:=by omega
   have l216:(shp (j+1+1) w.toNat).length<=216:=Jr lb (Jr (Jm (by decide) (show j+1<=3 by omega)) (by decide))
   have eF:(IN (w+1).toNat).flatMap (fun k:Nat=>(shp (j+1) (w.toNat-k)).map fun r=>aK ((k:Int)::r))=(shp m.toNat w.toNat).map aK:=by
    rw[ej,shp,List.map_flatMap,show(w+1).toNat=w.toNat+1 by omega]
    congr 1
    funext f
    rw[Jp]
    rfl
   simp_arith only[ag,ae,Il,t1]
   refine B7 (xs:=IN (w+1).toNat) (enc:=fun k:Nat=>IJ (0+(k:Int))) (fun k=>(shp (j+1) (w.toNat-k)).map fun r=>aK ((k:Int)::r)) rfl ?_ ?_ ?_
   · intro k mk acc hl
     have hk:k<(w+1).toNat:=JB.mp mk
     have en:=aF.eqn n' (m-1) (w-(0+(k:Int))) (by omega)
     rw[show(m-1).toNat=j+1 by omega,show(w-(0+(k:Int))).toNat=w.toNat-k by omega]at en
     have ml:=jv j (w.toNat-k)
     simp_arith only[ag,ae,tT,en]
     rw[IE]at hl
     have hc:=dW (b:=Gq [some (W.d (IJ (0+(k:Int)))),none,some (W.d (IJ m)),some (W.d (IJ w))] (wE 1) (fun x Q=>Q true) (EY pE (xZ (iu (xo 0) sU)) (xo 1))) (enc:=aK) (fun r=>some (aK ((k:Int)::r))) (shp (j+1) (w.toNat-k)) acc ?_ hl
     · rw[hc,N0]
     · intro r mr
       obtain⟨r1,_⟩:=ml r mr
       have ek:(0+(k:Int))=(k:Int):=LM _
       have rz:1+r.length<=sizeLine:=by omega
       simp_arith only[ag,ae,Gq,cE]
       rw[ek]
       rfl
   · rw[eF,IE,ej];show(shp (j+1+1) w.toNat).length<=_;omega
   · rw[eF]
     exact jC hQ
theorem d_shapes_of(Fn:FnIn K mg "shapes_of" (top 26) ["many", "w"])(Z:Bz mg)    : Dfn P w K mg base rl "shapes_of" ["many", "w"] 4 (aF 4):=by
 have d0:∀rl,Dfn P w K mg base rl "shapes_of" ["many", "w"] 0 (aF 0):=fun rl=>Dfn.never Fn
 have d1:∀rl,Dfn P w K mg base rl "shapes_of" ["many", "w"] 1 (aF 1):=fun rl=>bY 0 Fn Z    d0
 have d2:∀rl,Dfn P w K mg base rl "shapes_of" ["many", "w"] 2 (aF 2):=fun rl=>bY 1 Fn Z    d1
 have d3:∀rl,Dfn P w K mg base rl "shapes_of" ["many", "w"] 3 (aF 3):=fun rl=>bY 2 Fn Z    d2
 have d4:∀rl,Dfn P w K mg base rl "shapes_of" ["many", "w"] 4 (aF 4):=fun rl=>bY 3 Fn Z    d3
 exact d4 rl
def rowsT(ts:List (List (List Int)))(ks:List Int):List (List Int):=(ts.zip ks).flatMap fun z=>z.1.take z.2.toNat
theorem xB(ts:List (List (List Int)))(ks:List Int):ie (ts.map tbD) (ks.map IJ)=(ts.zip ks).map fun z=>Ji [tbD z.1,.int z.2]:=kd tbD IJ ts ks
theorem yo{ks:List Int}(h:∀x∈ks,0<=x):0<=ks.sum:=by
 induction ks with
 | nil=>simp
 | cons a l ihl=>rw[J0];have:=ihl fun y my=>h y (Ir _ my);have:=h a Iz;omega
theorem zW(f:α->Im)(xs:List α){k:Int}(h:0<=k):VL.cutD (xs.map f) none (some k)=(xs.take k.toNat).map f:=by
 unfold VL.cutD
 rw[ff h,IE]
 show(((xs.map f).drop 0).take (min k.toNat xs.length-0))=_
 rw[Nr,Nl,<- ML]
 congr 1
 rw[List.take_eq_take_iff]
 omega
theorem y9{o:Option α}{a:α}{k:α->Mo β}{Q:β->Prop}(e:o=some a)(h:k a Q):aL o k Q:=by rw[e,opt_some];exact h
def cg:List W->(Im->Prop)->Prop:=fun ws Q=>∃(ts:List (List (List Int)))(ks:List Int),ws=[.d (tbsD ts),.d (aK ks)]/\((ts.length<=4)/\(∀t∈ts,t.length<=8)/\(∀k∈ks,0<=k))/\Q (tbD (rowsT ts ks))
theorem cg.mono:∀ws (Q Q':Im->Prop),(∀d,Q d->Q' d)->cg ws Q->cg ws Q':=fun _ _ _ h_ ⟨ts,ks,e_,p_,q_⟩=>⟨ts,ks,e_,p_,h_ _ q_⟩
theorem cg.len:∀ws (Q:Im->Prop),cg ws Q->ws.length=2:=fun _ _ ⟨_,_,e_,_⟩=>by subst e_;rfl
theorem cg.eq(ts:List (List (List Int)))(ks:List Int)(t4:ts.length<=4)(t8:∀t∈ts,t.length<=8)(hk:∀k∈ks,0<=k):cg [.d (tbsD ts),.d (aK ks)]=VL.ret (tbD (rowsT ts ks):Im):=by
 refine af fun Q=>⟨?_,fun q_=>⟨ts,ks,rfl,⟨t4,t8,hk⟩,q_⟩⟩
 rintro⟨ts',ks',e_,_,q_⟩
 simp_arith only[kI]at e_
 obtain⟨rfl,rfl⟩:=e_
 exact q_
theorem lS:FnScope ["tables", "shape", "rows", "table", "k"] ["tables", "shape"] (defScope (top 27)):=⟨rfl,rfl,rfl,by decide +kernel,rfl,by decide +kernel,by decide +kernel⟩
theorem d_rows_of(Fn:FnIn K mg "rows_of" (top 27) ["tables", "shape"])(Z:Bz mg)    : Dfn P w K mg base rl "rows_of" ["tables", "shape"] 1 cg:=by
 have sc:=lS
 refine Dfn.of Fn sc (cg.mono) (cg.len) (fun cdv A outer s H E hr=>(aq (aD 2 sc.nd (fR ab))
  (aq (bL [3,4] JF rfl (kj Z.zip_ (aa (vn 0) (aa (vn 1) ab))) (eB (n:=2) rfl (bi (au 3 sc.nd) (bi (au 4 sc.nd) cR))) (ax (uv 2 sc.nd (lN (vn 3) du (dt (vn 4))))))
  (ax (aG (vn 2)))))) ?_
 rintro ws Q ⟨ts,ks,rfl,⟨t4,t8,hk⟩,hQ⟩
 refine aI ?_
 have sz:=IQ
 have zo:(if(match tbsD ts with|Ji xs=>true|x=>false)=true/\(match aK ks with|Ji xs=>true|x=>false)=true then(eE (tbsD ts)).bind fun xs=>Option.map (fun ys=>ie xs ys) (eE (aK ks))else none)=some ((ts.zip ks).map fun z=>Ji [tbD z.1,.int z.2]):=by
  show some (ie (ts.map tbD) (ks.map IJ))=_
  rw[xB]
 simp_arith only[ag,ae,tw,Fv]
 refine Fq (y9 zo ?_)
 have zl:(ts.zip ks).length<=4:=by rw[M5];omega
 refine lm (xs:=ts.zip ks) (enc:=fun z=>Ji [tbD z.1,.int z.2]) (fun i ρ=>ρ=[some (.d (tbsD ts)),some (.d (aK ks)),some (.d (.tuple (((ts.zip ks).take i).flatMap fun z=>(z.1.take z.2.toNat).map aK))),none,none]) rfl rfl ?_ ?_
 · rintro i hi ρ rfl K hK
   obtain⟨m1,m2⟩:((ts.zip ks)[i]).1∈ts/\((ts.zip ks)[i]).2∈ks:=KW (JA hi)
   have k0:=hk _ m2
   have l8:=t8 _ m1
   have ec:VL.cutD (((ts.zip ks)[i]).1.map aK) none (some ((ts.zip ks)[i]).2)=(((ts.zip ks)[i]).1.take ((ts.zip ks)[i]).2.toNat).map aK:=zW aK _ k0
   have lb:(((ts.zip ks).take i).flatMap fun z=>(z.1.take z.2.toNat).map aK).length<=32:=by
    rw[OM]
    have hs:∀n (l:List (List (List Int)×Int)),(∀z∈l,z.1.length<=8)->l.length<=n->(l.map fun z=>((z.1.take z.2.toNat).map aK).length).sum<=8*n:=by
     intro n l
     induction l generalizing n with
     | nil=>intro _ _;simp
     | cons a l ih =>
       intro h1 h2
       rw[Ju]at h2
       obtain⟨n',rfl⟩:∃n',n=n'+1:=⟨n-1,by omega⟩
       have q1:=ih n' (fun z mz=>h1 z (Ir _ mz)) (by omega)
       have q2:=h1 a Iz
       rw[IP,J0,IE,JQ]
       omega
    exact hs 4 _ (fun z mz=>t8 _ (KW (MJ mz)).1) (by rw[JQ];omega)
   have eT:tbD ((ts.zip ks)[i]).1 = .tuple (((ts.zip ks)[i]).1.map aK):=rfl
   have es:(((ts.zip ks).take i).flatMap fun z=>(z.1.take z.2.toNat).map aK)++(((ts.zip ks)[i]).1.take ((ts.zip ks)[i]).2.toNat).map aK=((ts.zip ks).take (i+1)).flatMap fun z=>(z.1.take z.2.toNat).map aK:=by
    rw[Mn hi,M8]
    simp
   have l2:((((ts.zip ks)[i]).1.take ((ts.zip ks)[i]).2.toNat).map aK).length<=8:=by rw[IE,JQ];omega
   have lz:(((ts.zip ks).take i).flatMap fun z=>(z.1.take z.2.toNat).map aK).length+(((ts.zip ks)[i]).1.take ((ts.zip ks)[i]).2.toNat).length<=sizeLine:=by rw[JQ];omega
   simp_arith only[ag,ae,tw,Fv,eT,ec,es]
   exact hK _ (dm rfl)
 · rintro ρ rfl
   rw[JH (ID _)]
   have er:Ji ((ts.zip ks).flatMap fun z=>(z.1.take z.2.toNat).map aK)=tbD (rowsT ts ks):=by
    unfold tbD rowsT;rw[List.map_flatMap]
   simp_arith only[ag,ae,er]
   exact aP hQ
theorem tQ:∀{ks:List Int},(∀x∈ks,0<=x)->∀k∈ks,k<=ks.sum
 | [],_,k,mk=>by simp at mk
 | a::l,h,k,mk=>by
   rw[J0]
   have s0:0<=l.sum:=yo fun x mx=>h x (Ir _ mx)
   have a0:=h a Iz
   rcases Jf.mp mk with rfl|mk
   · omega
   · have:=tQ (fun x mx=>h x (Ir _ mx)) k mk
     omega
theorem kN:∀(ts:List (List (List Int)))(ks:List Int)(m:Nat),(∀t∈ts,t.length=m)->ks.length=ts.length->(∀k∈ks,0<=k/\k<=m)->((rowsT ts ks).length:Int)=ks.sum
 | [],[],m,_,_,_=>rfl
 | [],_::_,_,_,h,_=>by simp at h
 | _::_,[],_,_,h,_=>by simp at h
 | t::ts,k::ks,m,ht,hl,hk=>by
   have ih:=kN ts ks m (fun u mu=>ht u (Ir _ mu)) (by simpa using hl) (fun x mx=>hk x (Ir _ mx))
   obtain⟨k0,km⟩:=hk k Iz
   have tl:=ht t Iz
   show((t.take k.toNat++rowsT ts ks).length:Int)=_
   rw[Jx,JQ,J0]
   omega
theorem qQ{ks:List Int}{row:List Int}(h:row∈rowsT ts ks):∃t∈ts,row∈t:=by
 obtain⟨z,mz,hr⟩:=NS.mp h
 exact⟨z.1,(KW mz).1,MJ hr⟩
theorem nU:∀(n w:Nat)(r:List Int),r.length=n+1->(∀k∈r,0<=k)->r.sum=w->r∈shp (n+1) w
 | 0,w,r,hl,h0,hs=>by
   obtain⟨a,rfl⟩:∃a,r=[a]:=by cases r with|nil=>simp at hl|cons a r=>cases r with|nil=>exact⟨a,rfl⟩|cons b r=>simp at hl
   simp at hs
   subst hs
   simp[shp]
 | n+1,w,r,hl,h0,hs=>by
   cases r with
   | nil=>simp at hl
   | cons a r =>
     rw[J0]at hs
     have a0:=h0 a Iz
     have r0:∀k∈r,0<=k:=fun k hk=>h0 k (Ir _ hk)
     have s0:0<=r.sum:=by
      clear hl hs h0
      induction r with
      | nil=>exact Mu _
      | cons x r ih=>rw[J0];have:=r0 x Iz;have:=ih (fun k hk=>r0 k (Ir _ hk));omega
     rw[shp,NS]
     refine⟨a.toNat,JB.mpr (by omega),Jo.mpr ⟨r,nU n (w-a.toNat) r (by simpa using hl) r0 (by omega),?_⟩⟩
     rw[J3 a0]
abbrev hdM(ts:List (List (List Int))):Nat:=(ts.headD []).length
theorem u8{p:Int}{ks:List Int}(ht:f_ p m ts)(m5:m<=5)(kl:ks.length=ts.length)(k0:∀k∈ks,0<=k)(w1:1<=ks.sum)(wm:ks.sum<=m):ue p (rowsT ts ks)/\((rowsT ts ks).getD 0 []).length=m:=by
 have km:∀k∈ks,0<=k/\k<=(m:Int):=fun k mk=>⟨k0 k mk,by have:=tQ k0 k mk;omega⟩
 have rl:=kN ts ks m (fun t mt=>(ht.2.2 t mt).1) kl km
 have al:∀r∈rowsT ts ks,GA.Fg p m r:=fun r mr=>by
  obtain⟨t,mt,hr⟩:=qQ mr
  exact Cj ((ht.2.2 t mt).2 r hr).1 ((ht.2.2 t mt).2 r hr).2
 have l0:0<(rowsT ts ks).length:=by omega
 have e0:((rowsT ts ks).getD 0 []).length=m:=by rw[Ix,Iy l0];exact(al _ (JA l0)).1
 exact⟨⟨l0,by omega,by omega,by rw[e0];exact al⟩,e0⟩
def Dw(p:Int)(ts:List (List (List Int)))(w:Int)(d:Im):Prop:=(GA.Net p (hdM ts) ts w/\∃x,d = .tuple [.str "net", x])\/(¬GA.Net p (hdM ts) ts w/\∃x y,d = .tuple [.str "none", x,y])
theorem Pm.pr{p m:Int}(h:Pm p m):p=2\/p=3\/p=5\/p=7:=h.1
def bw:List W->(Im->Prop)->Prop:=fun ws Q=>∃(p:Int)(ts:List (List (List Int)))(w:Int),ws=[.d (.int p),.d (tbsD ts),.d (.int w)]/\((∃m:Int,Pm p m/\f_ p m.toNat ts/\m.toNat=hdM ts/\1<=w/\w<=m))/\∀d:Im,(Dw p ts w d)->Q (d)
theorem bw.mono:∀ws (Q Q':Im->Prop),(∀d,Q d->Q' d)->bw ws Q->bw ws Q':=fun _ _ _ h_ ⟨p,ts,w,e_,p_,q_⟩=>⟨p,ts,w,e_,p_,fun o_ ho_=>h_ _ (q_ o_ ho_)⟩
theorem bw.len:∀ws (Q:Im->Prop),bw ws Q->ws.length=3:=fun _ _ ⟨_,_,_,e_,_⟩=>by subst e_;rfl
theorem bw.eq(p:Int)(ts:List (List (List Int)))(w:Int)(hm:∃m:Int,Pm p m/\f_ p m.toNat ts/\m.toNat=hdM ts/\1<=w/\w<=m):bw [.d (.int p),.d (tbsD ts),.d (.int w)]=GW (anyM fun d:Im=>Dw p ts w d) fun d=>VL.ret (d:Im):=by
 refine af fun Q=>⟨?_,fun q_=>⟨p,ts,w,rfl,hm,q_⟩⟩
 rintro⟨p',ts',w',e_,_,q_⟩
 simp_arith only[kI]at e_
 obtain⟨rfl,rfl,rfl⟩:=e_
 exact q_
theorem iE:FnScope ["p", "tables", "w", "inverses", "shape", "rows", "hanging"] ["p", "tables", "w"] (defScope (top 29)):=⟨rfl,rfl,rfl,by decide +kernel,rfl,by decide +kernel,by decide +kernel⟩
theorem d_net_paper(Fn:FnIn K mg "net_paper" (top 29) ["p", "tables", "w"])(Z:Bz mg)(d_shapes_of:∀rl,Dfn P w K mg base rl "shapes_of" ["many", "w"] 4 (aF 4))(d_rows_of:∀rl,Dfn P w K mg base rl "rows_of" ["tables", "shape"] 1 cg)(d_combination:∀rl,Dfn P w K mg base rl "combination" ["p", "table"] 3 bp)(d_right_inverse:∀rl,Dfn P w K mg base rl "right_inverse" ["p", "table"] 3 aX)   : Dfn P w K mg base rl "net_paper" ["p", "tables", "w"] 5 bw:=by
 have sc:=iE
 refine Dfn.of Fn sc (bw.mono) (bw.len) (fun cdv A outer s H E hr=>(aq (cQ 3 sc.nd (eK ab))
  (aq (bL [4,5,6] JF rfl (gN (aM (d_shapes_of _) (hr.mono (by decide)) (aa (cS Z.len_ (aa (vn 1) ab)) (aa (vn 2) ab)))) (au 4 sc.nd) (aq (aD 5 sc.nd (aM (d_rows_of _) (hr.mono (by decide)) (aa (vn 1) (aa (vn 4) ab))))
  (aq (aD 6 sc.nd (aM (d_combination _) (hr.mono (by decide)) (aa (vn 0) (aa (vn 5) ab))))
  (aq (dr (bh oS mW (aT _) (vn 6) gq) (ax (aG (fR (aa iN (aa (vn 4) (aa (vn 6) ab)))))) bW)
  (ax (ge 3 (aa (aM (d_right_inverse _) (hr.mono (by decide)) (aa (vn 0) (aa (vn 5) ab))) ab)))))))
  (ax (aG (fR (aa iN (aa (bj Z.tuple_ (aa (vn 3) ab)) ab)))))))) ?_
 rintro ws Q ⟨p,ts,w,rfl,hm,hQ⟩
 refine aI ?_
 have sz:=IQ
 obtain⟨m,pm,ht,hh,w1,wm⟩:=hm
 obtain⟨w40,p2,p7,m1,m5⟩:=qX pm
 have hp:=pm.pr
 obtain⟨t1,t4,htt⟩:=id ht
 have t8:∀t∈ts,t.length<=8:=fun t mt=>by have:=(htt t mt).1;omega
 have en:aF 4 [.d (.int (ts.length:Int)),.d (.int w)]=_:=aF.eqn 3 (ts.length:Int) w (by omega)
 rw[JO]at en
 have en0:ts.length=(ts.length-1)+1:=by omega
 have sm:∀ks∈shp ts.length w.toNat,ks.length=ts.length/\(∀k∈ks,0<=k)/\ks.sum=w:=fun ks mk=>by
  rw[en0]at mk
  obtain⟨a,b,c⟩:=jv _ _ ks mk
  exact⟨by omega,b,by omega⟩
 have l216:(shp ts.length w.toNat).length<=216:=by
  rw[en0]
  exact Jr (jw (ts.length-1) w.toNat (by omega)) (Jr (Jm (by decide) (show ts.length-1<=3 by omega)) (by decide))
 simp_arith only[ag,ae,dQ,en]
 refine lm (xs:=shp ts.length w.toNat) (enc:=aK) (fun i ρ=>∃xs:List Im,(xs.length<=i/\∀j (h:j<(shp ts.length w.toNat).length),j<i->GA.Ind p m.toNat (rowsT ts (shp ts.length w.toNat)[j]))/\ρ=[some (.d (.int p)),some (.d (tbsD ts)),some (.d (.int w)),some (.ml xs),none,none,none]) rfl ⟨[],⟨Jz _,fun j _ h=>by omega⟩,rfl⟩ ?_ ?_
 · rintro i hi ρ ⟨xs,⟨xl,hx⟩,rfl⟩ K hK
   have mks:=JA hi
   obtain⟨kl,k0,ksum⟩:=sm _ mks
   generalize hks:(shp ts.length w.toNat)[i]=ks at *
   obtain⟨ok,c0⟩:=u8 ht (by omega) kl k0 (by omega) (by omega)
   have xz:xs.length<sizeLine:=by omega
   simp_arith only[ag,ae,cg.eq,bp.eq]
   (with_reducible (first|refine aw fun o ho=>?_|refine aE fun o ho=>?_))
   cases o with
   | some h =>
     have ho:GA.Hg p _ (rowsT ts ks) h:=ho
     simp_arith only[ag,ae,tK]
     refine cM (fun _=>?_) fun z=>absurd (show(!false)=true from rfl) z
     refine hK _ (oX (aP (hQ _ (.inr ⟨fun n=>?_,_,_,rfl⟩))))
     rw[<- hh]at n
     rw[c0]at ho
     exact ho.not (n ks kl k0 ksum)
   | none =>
     obtain⟨x,hx'⟩:=ho
     simp_arith only[ag,ae,tL,aX.eq]
     (with_reducible (first|refine aw fun q hq=>?_|refine aE fun q hq=>?_))
     refine hK _ (dm ⟨xs++[optTb q],⟨by simp;omega,fun j hj hji=>?_⟩,by simp[fo]⟩)
     by_cases e:j=i
     · subst e
       rw[hks]
       have:=hx'.ind
       rwa [c0]at this
     · exact hx j hj (by omega)
 · rintro ρ ⟨xs,⟨xl,hx⟩,rfl⟩
   simp_arith only[ag,ae]
   refine aP (hQ _ (.inl ⟨fun ks kl k0 ksum=>?_,_,rfl⟩))
   have mk:ks∈shp ts.length w.toNat:=by rw[en0];exact nU _ _ ks (by omega) k0 (by omega)
   obtain⟨j,hj,rfl⟩:=M7 mk
   rw[<- hh]
   exact hx j hj hj
def bM:List W->(Im->Prop)->Prop:=fun ws Q=>∃(p:Int)(ts:List (List (List Int))),ws=[.d (.int p),.d (tbsD ts)]/\((∃m:Int,Pm p m/\f_ p m.toNat ts/\m.toNat=hdM ts))/\∀o:Int,(GA.Str p (hdM ts) ts o)->Q (.int o)
theorem bM.mono:∀ws (Q Q':Im->Prop),(∀d,Q d->Q' d)->bM ws Q->bM ws Q':=fun _ _ _ h_ ⟨p,ts,e_,p_,q_⟩=>⟨p,ts,e_,p_,fun o_ ho_=>h_ _ (q_ o_ ho_)⟩
theorem bM.len:∀ws (Q:Im->Prop),bM ws Q->ws.length=2:=fun _ _ ⟨_,_,e_,_⟩=>by subst e_;rfl
theorem bM.eq(p:Int)(ts:List (List (List Int)))(hm:∃m:Int,Pm p m/\f_ p m.toNat ts/\m.toNat=hdM ts):bM [.d (.int p),.d (tbsD ts)]=GW (anyM fun o:Int=>GA.Str p (hdM ts) ts o) fun o=>VL.ret (.int o:Im):=by
 refine af fun Q=>⟨?_,fun q_=>⟨p,ts,rfl,hm,q_⟩⟩
 rintro⟨p',ts',e_,_,q_⟩
 simp_arith only[kI]at e_
 obtain⟨rfl,rfl⟩:=e_
 exact q_
theorem jz:FnScope ["p", "tables", "w"] ["p", "tables"] (defScope (top 31)):=⟨rfl,rfl,rfl,by decide +kernel,rfl,by decide +kernel,by decide +kernel⟩
theorem d_strength(Fn:FnIn K mg "strength" (top 31) ["p", "tables"])(Z:Bz mg)(d_net_paper:∀rl,Dfn P w K mg base rl "net_paper" ["p", "tables", "w"] 5 bw)   : Dfn P w K mg base rl "strength" ["p", "tables"] 6 bM:=by
 have sc:=jz
 refine Dfn.of Fn sc (bM.mono) (bM.len) (fun cdv A outer s H E hr=>(aq (bL [2] JF rfl (mZ Z.range_ (aa (cS Z.len_ (aa (fS (vn 1) aj) ab)) (aa aj (aa (xU aj) ab)))) (au 2 sc.nd) (ax (dr (bh Bs xK (aT _) (fS (aM (d_net_paper _) (hr.mono (by decide)) (aa (vn 0) (aa (vn 1) (aa (vn 2) ab)))) aj) iN) (ax (aG (vn 2))) bW)))
  (ax (aG aj)))) ?_
 rintro ws Q ⟨p,ts,rfl,hm,hQ⟩
 refine aI ?_
 have sz:=IQ
 obtain⟨m,pm,ht,hh⟩:=hm
 obtain⟨w40,p2,p7,m1,m5⟩:=qX pm
 obtain⟨t1,t4,htt⟩:=id ht
 have e0:atI ts 0=some (ts.headD []):=by
  cases ts with
  | nil=>simp at t1
  | cons a l=>exact cp (j:=0) rfl
 have g1 : -(2^61)<=((hdM ts:Nat):Int)/\((hdM ts:Nat):Int)<2^61 /\ -(2^61)<=(0:Int)/\(0:Int)<2^61:=by omega
 simp_arith only[ag,ae,Bv,zG,hU,e0,hR]
 have hM:(m.toNat:Nat)=hdM ts:=hh
 refine lm (xs:=IN (((hdM ts:Nat):Int)-0).toNat) (enc:=fun i:Nat=>IJ (((hdM ts:Nat):Int)-(i:Int))) (fun i ρ=>(∀j:Nat,j<i->¬GA.Net p (hdM ts) ts (((hdM ts:Nat):Int)-(j:Int)))/\ρ=[some (.d (.int p)),some (.d (tbsD ts)),none]) rfl ⟨fun j h=>by omega,rfl⟩ ?_ ?_
 · rintro i hi ρ ⟨hn,rfl⟩ K hK
   rw[Lk]at hi
   rw[Mj]
   have hm':∃m:Int,Pm p m/\f_ p m.toNat ts/\m.toNat=hdM ts/\1<=((hdM ts:Nat):Int)-(i:Int)/\((hdM ts:Nat):Int)-(i:Int)<=m:=⟨m,pm,ht,hh,by omega,by omega⟩
   simp_arith only[ag,ae,bw.eq]
   (with_reducible (first|refine aw fun d hd=>?_|refine aE fun d hd=>?_))
   rcases hd with⟨hnet,x,rfl⟩|⟨hnet,x,y,rfl⟩
   · simp_arith only[ag,ae]
     try rw[if_pos (by decide)]
     refine hK _ (oX (aP (hQ _ ⟨by omega,by omega,fun _=>hnet,fun w h1 h2=>?_⟩)))
     have:=hn ((hdM ts:Int)-w).toNat (by omega)
     rwa [show((hdM ts:Nat):Int)-((((hdM ts:Nat):Int)-w).toNat:Int)=w by omega]at this
   · simp_arith only[ag,ae]
     try rw[if_neg (by decide)]
     refine hK _ (dm ⟨fun j hj=>?_,rfl⟩)
     by_cases e:j=i
     · subst e;exact hnet
     · exact hn j (by omega)
 · rintro ρ ⟨hn,rfl⟩
   rw[Lk]at hn
   simp_arith only[ag,ae]
   refine aP (hQ 0 ⟨Mu _,by omega,fun h=>absurd rfl h,fun w h1 h2=>?_⟩)
   have:=hn ((hdM ts:Int)-w).toNat (by omega)
   rwa [show((hdM ts:Nat):Int)-((((hdM ts:Nat):Int)-w).toNat:Int)=w by omega]at this
def cw:List W->(Im->Prop)->Prop:=fun ws Q=>∃(ps:List (List Rat))(js:List Int),ws=[.d (dC ps),.d (aK js)]/\((ps.length<=40)/\(js.length<=4)/\(∀p∈ps,∀j∈js,0<=j/\j<(p.length:Int)))/\Q (dC (ps.map fun p=>js.map fun j=>p.getD j.toNat 0))
theorem cw.mono:∀ws (Q Q':Im->Prop),(∀d,Q d->Q' d)->cw ws Q->cw ws Q':=fun _ _ _ h_ ⟨ps,js,e_,p_,q_⟩=>⟨ps,js,e_,p_,h_ _ q_⟩
theorem cw.len:∀ws (Q:Im->Prop),cw ws Q->ws.length=2:=fun _ _ ⟨_,_,e_,_⟩=>by subst e_;rfl
theorem cw.eq(ps:List (List Rat))(js:List Int)(l40:ps.length<=40)(j4:js.length<=4)(hj:∀p∈ps,∀j∈js,0<=j/\j<(p.length:Int)):cw [.d (dC ps),.d (aK js)]=VL.ret (dC (ps.map fun p=>js.map fun j=>p.getD j.toNat 0):Im):=by
 refine af fun Q=>⟨?_,fun q_=>⟨ps,js,rfl,⟨l40,j4,hj⟩,q_⟩⟩
 rintro⟨ps',js',e_,_,q_⟩
 simp_arith only[iO]at e_
 obtain⟨rfl,rfl⟩:=e_
 exact q_
theorem n_:FnScope ["points", "sides"] ["points", "sides"] (defScope (top 33)):=⟨rfl,rfl,rfl,by decide +kernel,rfl,by decide +kernel,by decide +kernel⟩
theorem d_picked(Fn:FnIn K mg "picked" (top 33) ["points", "sides"])(Z:Bz mg)    : Dfn P w K mg base rl "picked" ["points", "sides"] 1 cw:=by
 have sc:=n_
 refine Dfn.of Fn sc (cw.mono) (cw.len) (fun cdv A outer s H E hr=>(ax (aG (bj Z.tuple_ (aa (bv ["point", "sides"] [none,some 1] rfl (gf (vn 0)) (fun _=>(au 0 (show JW (["point", "sides"]:List Str) by decide +kernel))) (fun _=>bK) (fun _=>(bj Z.tuple_ (aa (bv ["side", "point"] [none,some 0] rfl (gf (vn 1)) (fun _=>(au 0 (show JW (["side", "point"]:List Str) by decide +kernel))) (fun _=>bK) (fun _=>(fS (vn 1) (vn 0)))) ab)))) ab))))) ?_
 rintro ws Q ⟨ps,js,rfl,⟨l40,j4,hj⟩,hQ⟩
 refine aI ?_
 have sz:=IQ
 simp_arith only[ag,ae,uT]
 refine cX (xs:=ps) (enc:=FQ) (fun p=>FQ (js.map fun j=>p.getD j.toNat 0)) rfl ?_ (by omega) ?_
 · intro p mp
   simp_arith only[ag,ae,Gq,cE]
   rw[comp_map (xs:=js) (enc:=IJ) (fun j=>fr (p.getD j.toNat 0)) ?_ (by omega),bnd_ret]
   · try simp_arith only[ag,ae]
     unfold FQ
     rw[Jp]
     rfl
   · intro j mj
     obtain⟨j0,j1⟩:=hj p mp j mj
     have e:VL.itemAt (FQ p) j=some (fr (p.getD j.toNat 0)):=by
      show VL.itemAt (.tuple (p.map fr)) j=_
      have hn:j.toNat<p.length:=by omega
      rw[show VL.itemAt (.tuple (p.map fr)) j=atI (p.map fr) j from rfl,lK j0 (by rw[IE];exact j1),Ly,Ix,Iy hn];rfl
     simp_arith only[ag,ae,Gq,e]
 · have ep:Ji (ps.map fun p=>FQ (js.map fun j=>p.getD j.toNat 0))=dC (ps.map fun p=>js.map fun j=>p.getD j.toNat 0):=by unfold dC;rw[Jp];rfl
   simp_arith only[ag,ae,ep]
   exact aP hQ
def bE:List W->(Im->Prop)->Prop:=fun ws Q=>∃(ps:List (List Rat))(js:List Int),ws=[.d (dC ps),.d (aK js)]/\((ps.length<=40)/\(js.length<=4)/\(∀p∈ps,∀j∈js,0<=j/\j<(p.length:Int)))/\Q (dC (ps.map fun p=>js.map fun j=>p.getD j.toNat 0))
theorem bE.mono:∀ws (Q Q':Im->Prop),(∀d,Q d->Q' d)->bE ws Q->bE ws Q':=fun _ _ _ h_ ⟨ps,js,e_,p_,q_⟩=>⟨ps,js,e_,p_,h_ _ q_⟩
theorem bE.len:∀ws (Q:Im->Prop),bE ws Q->ws.length=2:=fun _ _ ⟨_,_,e_,_⟩=>by subst e_;rfl
theorem bE.eq(ps:List (List Rat))(js:List Int)(l40:ps.length<=40)(j4:js.length<=4)(hj:∀p∈ps,∀j∈js,0<=j/\j<(p.length:Int)):bE [.d (dC ps),.d (aK js)]=VL.ret (dC (ps.map fun p=>js.map fun j=>p.getD j.toNat 0):Im):=by
 refine af fun Q=>⟨?_,fun q_=>⟨ps,js,rfl,⟨l40,j4,hj⟩,q_⟩⟩
 rintro⟨ps',js',e_,_,q_⟩
 simp_arith only[iO]at e_
 obtain⟨rfl,rfl⟩:=e_
 exact q_
theorem iF:FnScope ["points", "order"] ["points", "order"] (defScope (top 34)):=⟨rfl,rfl,rfl,by decide +kernel,rfl,by decide +kernel,by decide +kernel⟩
theorem d_exchanged(Fn:FnIn K mg "exchanged" (top 34) ["points", "order"])(Z:Bz mg)(d_picked:∀rl,Dfn P w K mg base rl "picked" ["points", "sides"] 1 cw)   : Dfn P w K mg base rl "exchanged" ["points", "order"] 2 bE:=by
 have sc:=iF
 refine Dfn.of Fn sc (bE.mono) (bE.len) (fun cdv A outer s H E hr=>(ax (aG (aM (d_picked _) (hr.mono (by decide)) (aa (vn 0) (aa (vn 1) ab)))))) ?_
 rintro ws Q ⟨ps,js,rfl,⟨l40,j4,hj⟩,hQ⟩
 refine aI ?_
 simp_arith only[ag,ae,cw.eq]
 exact aP hQ
def cH:List W->(Im->Prop)->Prop:=fun ws Q=>∃(ps:List (List Rat))(js:List Int),ws=[.d (dC ps),.d (aK js)]/\((ps.length<=40)/\(js.length<=4)/\(∀p∈ps,∀j∈js,0<=j/\j<(p.length:Int)))/\Q (dC (ps.map fun p=>js.map fun j=>p.getD j.toNat 0))
theorem cH.mono:∀ws (Q Q':Im->Prop),(∀d,Q d->Q' d)->cH ws Q->cH ws Q':=fun _ _ _ h_ ⟨ps,js,e_,p_,q_⟩=>⟨ps,js,e_,p_,h_ _ q_⟩
theorem cH.len:∀ws (Q:Im->Prop),cH ws Q->ws.length=2:=fun _ _ ⟨_,_,e_,_⟩=>by subst e_;rfl
theorem cH.eq(ps:List (List Rat))(js:List Int)(l40:ps.length<=40)(j4:js.length<=4)(hj:∀p∈ps,∀j∈js,0<=j/\j<(p.length:Int)):cH [.d (dC ps),.d (aK js)]=VL.ret (dC (ps.map fun p=>js.map fun j=>p.getD j.toNat 0):Im):=by
 refine af fun Q=>⟨?_,fun q_=>⟨ps,js,rfl,⟨l40,j4,hj⟩,q_⟩⟩
 rintro⟨ps',js',e_,_,q_⟩
 simp_arith only[iO]at e_
 obtain⟨rfl,rfl⟩:=e_
 exact q_
theorem n6:FnScope ["points", "sides"] ["points", "sides"] (defScope (top 35)):=⟨rfl,rfl,rfl,by decide +kernel,rfl,by decide +kernel,by decide +kernel⟩
theorem d_shadow(Fn:FnIn K mg "shadow" (top 35) ["points", "sides"])(Z:Bz mg)(d_picked:∀rl,Dfn P w K mg base rl "picked" ["points", "sides"] 1 cw)   : Dfn P w K mg base rl "shadow" ["points", "sides"] 2 cH:=by
 have sc:=n6
 refine Dfn.of Fn sc (cH.mono) (cH.len) (fun cdv A outer s H E hr=>(ax (aG (aM (d_picked _) (hr.mono (by decide)) (aa (vn 0) (aa (vn 1) ab)))))) ?_
 rintro ws Q ⟨ps,js,rfl,⟨l40,j4,hj⟩,hQ⟩
 refine aI ?_
 simp_arith only[ag,ae,cw.eq]
 exact aP hQ
theorem pU{b:Im->Mo (Option Im)}{enc:α->Im}{Q:List Im->Prop}:∀(xs:List α)(acc:List Im),(∀x∈xs,∀k:Option Im->Prop,k none->k (some (enc x))->b (enc x) k)->acc.length+xs.length<=sizeLine->(∀ys:List α,ys.Sublist xs->Q (acc++ys.map enc))->bJ b (xs.map enc) acc Q:=by
 intro xs
 induction xs with
 | nil=>intro acc _ _ fin;have:=fin [] .slnil;rw[Nh,JS]at this;exact this
 | cons x xs ih =>
   intro acc h hl fin
   rw[Ju]at hl
   refine h x Iz _ ?_ ?_
   · exact ih acc (fun y hy=>h y (Ir _ hy)) (by omega) fun ys hy=>fin ys (.cons x hy)
   · refine⟨by omega,ih (acc++[enc x]) (fun y hy=>h y (Ir _ hy)) (by simp;omega) fun ys hy=>?_⟩
     have:=fin (x::ys) (.cons_cons x hy)
     simpa using this
theorem sj{b:Im->Mo (Option Im)}{k:List Im->Mo β}{Q:β->Prop}(h:∀j,j<n->∀k:Option Im->Prop,k none->k (some (.int (0+(j:Int))))->b (.int (0+(j:Int))) k)(hl:n<=sizeLine)(fin:∀js:List Nat,js.Sublist (IN n)->k ((js.map fun j:Nat=>(j:Int)).map .int) Q):GW (bJ b (aN 0 n) []) k Q:=by
 show bJ b (aN 0 n) [] _
 refine pU (enc:=fun j:Nat=>IJ (0+(j:Int))) (IN n) [] (fun x mx=>h x (JB.mp mx)) (by simpa using hl) fun js hj=>?_
 have e:js.map (fun j:Nat=>IJ (0+(j:Int)))=(js.map fun j:Nat=>(j:Int)).map IJ:=by rw[Jp];exact Kl fun j _=>by show IJ (0+(j:Int))=IJ j;rw[LM]
 rw[Mg,e]
 exact fin js hj
theorem yr{m:Mo Fl}{k:En->Mo Fl}{Q:Fl->Prop}(P:α->Prop)(g:α->Fl)(h:∀Q':Fl->Prop,(∀a,P a->Q' (g a))->m Q')(fin:∀a,P a->sq (VL.ret (g a)) k Q):sq m k Q:=h _ fun a ha=>fin a ha
theorem jx{io il ih:Nat}{k:En->Mo Fl}{Q:Fl->Prop}(ei:fi ρ=VL.ret xs)(hn:xs.length<=n)(ys:List Im)(h1:ρ[il]?=some (some (.ml ys)))(h2:ρ[ih]?=some (some .reel))(h3:xs.length<=ys.length)(h4:ys.length<1000)(h5:FS (ρ.set il none)=true)
 (fin:∀os:List Im,os.length=xs.length->(∃zs,(os++zs).Perm ys)->k ((ρ.set il none).set io (some (.d (.tuple os)))) Q):sq (mS (eX n io il ih fi) ρ) k Q:=by
 unfold sq GW
 rw[lW,ei]
 exact⟨hn,ys,h1,h2,h3,h4,h5,fun os a b=>fin os a b⟩
theorem t3(q:Rat):Kk (fr q) (fr q)=true:=by unfold fr;simp[Kk,MK]
theorem zS(p:List Rat):Kk (FQ p) (FQ p)=true:=by
 unfold FQ
 induction p with
 | nil=>rfl
 | cons x xs ih=>have:=t3 x;simp[Kk,MK]at *;exact⟨this,ih⟩
theorem tZ(ps:List (List Rat)):Kk (dC ps) (dC ps)=true:=by
 unfold dC
 induction ps with
 | nil=>rfl
 | cons x xs ih=>have:=zS x;simp[Kk,MK]at *;exact⟨this,ih⟩
theorem tj(ps:List (List Rat)):KJ (dC ps)=true:=by
 have:=pJ ps
 unfold dC
 simp[KJ,Ka,JM,o9]
 omega
theorem vN{ds zs:List Im}(dl:ds.length=n)(h:(ds++zs).Perm (aN 0 n)):∃js:List Nat,ds=(js.map fun j:Nat=>(j:Int)).map .int/\js.Perm (IN n):=by
 have hz:zs=[]:=by
  have:=h.length_eq
  rw[Jx,ac]at this
  exact List.eq_nil_of_length_eq_zero (by omega)
 subst hz
 rw[JS]at h
 obtain⟨cs',h1,h2⟩:=GA.lift_perm h.symm ((IN n).map fun j:Nat=>(j,IJ (0+(j:Int)))) (by rw[Jp];rfl)
 refine⟨cs'.map (·.1),?_,?_⟩
 · rw[<- h2,Jp,Jp]
   refine Kl fun z mz=>?_
   obtain⟨j,_,rfl⟩:=Jo.mp (h1.mem_iff.mpr mz)
   show IJ (0+(j:Int))=IJ (j:Int)
   rw[LM]
 · have:=(h1.map (·.1)).symm
   rw[Jp]at this
   have e:(IN n).map ((fun z:Nat×Im=>z.1) ∘ fun j:Nat=>(j,IJ (0+(j:Int))))=IN n:=by
    conv=>rhs;rw[<- List.map_id (IN n)]
    rfl
   rwa [e]at this
theorem DN(a b:List (List Int)):Ji [tbD a,tbD b]=tbsD [a,b]:=rfl
theorem tm{p:Int}{js:List Nat}(ht:f_ p m ts)(l1:1<=js.length)(l4:js.length<=4)(lt:∀j∈js,j<ts.length):f_ p m (GA.sel ts js)/\m=hdM (GA.sel ts js):=by
 have a:f_ p m (GA.sel ts js):=⟨by rw[GA.sel_len];exact l1,by rw[GA.sel_len];exact l4,fun t mt=>by
  obtain⟨j,mj,rfl⟩:=Jo.mp mt
  have hj:=lt j mj
  rw[Ix,Iy hj]
  exact ht.2.2 _ (JA hj)⟩
 refine⟨a,?_⟩
 cases e:GA.sel ts js with
 | nil=>have:=GA.sel_len ts js;rw[e]at this;simp at this;omega
 | cons t l=>rw[e]at a;exact(a.2.2 t Iz).1.symm
theorem nX{p:Int}{js:List Nat}(lt:∀j∈js,j<ts.length):ptsT p m (GA.sel ts js)=(ptsT p m ts).map fun pt=>(js.map fun j:Nat=>(j:Int)).map fun j=>pt.getD j.toNat 0:=by
 unfold ptsT
 rw[Jp]
 refine Kl fun n _=>?_
 unfold FP GA.sel
 show(js.map fun j=>ts.getD j []).map _=(js.map fun j:Nat=>(j:Int)).map _
 rw[Jp,Jp]
 refine Kl fun j mj=>?_
 have hj:=lt j mj
 show zm p (ts.getD j []) _=(ts.map _).getD (Int.toNat (j:Int)) 0
 rw[JO,Ix,Ix,Jj,Iy hj];rfl
theorem vt(p:Int)(m:Nat)(ts:List (List (List Int))):(ptsT p m ts).length=(p^m).toNat:=by unfold ptsT;rw[IE,Lk]
theorem tD{p:Int}{q:List Rat}(h:q∈ptsT p m ts):q.length=ts.length:=by
 obtain⟨n,_,rfl⟩:=Jo.mp h
 unfold FP;rw[IE]
theorem nW(ts:List (List (List Int)))(js:List Nat):Ji (js.map fun j=>tbD (ts.getD j []))=tbsD (GA.sel ts js):=by unfold tbsD GA.sel;rw[Jp];rfl
theorem hV(h:j<ts.length):VL.itemAt (tbsD ts) (j:Int)=some (tbD (ts.getD j [])):=by
 rw[hU,cp (Iy h),Ix,Iy h];rfl
def zI(js:List Nat):List Int:=js.map fun j:Nat=>(j:Int)
def Js(n:Nat)(js:List Nat):Prop:=js.Nodup/\(∀j∈js,j<n)/\1<=js.length/\js.length<=4
theorem yy:FnScope ["_law_script", "_law_k", "_law_tape_here", "_law_p", "_law_m", "_law_tables_here", "_law_told", "_law_strong", "_law_some", "_law_few", "_law_left", "_law_order", "_law_other", "_law_w"] ["_law_script"] (defScope (top 44)):=⟨rfl,rfl,rfl,by decide +kernel,rfl,by decide +kernel,by decide +kernel⟩
theorem rK(Z:Bz mg)(d__law_tape:DfnR P w K mg base "_law_tape" ["_law_script", "_law_at"] 2 Ax)(d__law_size:∀al,DfnC P w K mg base al 2 "_law_size" ["_law_tape_here"] 2 bF)(d__law_tables:∀al,DfnC P w K mg base al 524422 "_law_tables" ["_law_tape_here", "_law_p", "_law_m"] 3 bq)(d_points_of_tables:∀rl,Dfn P w K mg base rl "points_of_tables" ["p", "tables"] 4 aJ)(d_strength:∀rl,Dfn P w K mg base rl "strength" ["p", "tables"] 6 bM)(d__law_pick:∀al,DfnC P w K mg base al 1 "_law_pick" ["_law_tape_here", "_law_many"] 1 be)(d_shadow:∀rl,Dfn P w K mg base rl "shadow" ["points", "sides"] 2 cH)(d_exchanged:∀rl,Dfn P w K mg base rl "exchanged" ["points", "order"] 2 bE)(d_net_paper:∀rl,Dfn P w K mg base rl "net_paper" ["p", "tables", "w"] 5 bw){f:Addr}(F:Fun K "law" "law" (top 44) f fd):FnOk P w K mg base Ib 8 f fd ["_law_script"] (gj K):=by
 have sc:=yy
 refine vW F sc (fun cdv A outer s H E hr=>(aq (bL [1,2,3,4,5,6,7,8,9,10,11,12,13] JF rfl (aS Z.range_ (aa (v_add aj (cS Z.len_ (aa (xQ (vn 0) du (dt aj)) ab))) ab)) (au 1 sc.nd) (wS 2 d__law_tape (hr.mono (by decide)) sc.nd (aa (vn 0) (aa (vn 1) ab)) (fun r=>(aC (z0 (bX (d__law_size _) (hr.mono (by decide)) (ar (cv fun _=>(vn 2)) bg)) (fun _=>(eB (n:=2) rfl (bi (au 3 sc.nd) (bi (au 4 sc.nd) cR)))))
  (aC (cP 5 sc.nd (bX (d__law_tables _) (hr.mono (by decide)) (ar (cv fun _=>(vn 2)) (ar (cv fun _=>(vn 3)) (ar (cv fun _=>(vn 4)) bg)))))
  (aC (cs fun _=>(aD 6 sc.nd (aM (d_points_of_tables _) (hr.mono (by decide)) (aa (vn 3) (aa (vn 5) ab)))))
  (aC (cs fun _=>(aD 7 sc.nd (aM (d_strength _) (hr.mono (by decide)) (aa (vn 3) (aa (vn 5) ab)))))
  (aC (mJ 4 8 sc.nd ["_law_j", "_law_tape_here"] [none,some 2] rfl (ci fun _=>(aS Z.range_ (aa (cS Z.len_ (aa (vn 5) ab)) ab))) (fun _ _=>(au 0 (show JW (["_law_j", "_law_tape_here"]:List Str) by decide +kernel))) (fun _=>zX (z_ (dj hr.units) (fun _=>ce) (aT _) (bX (d__law_pick _) (hr.mono (by decide)) (ar (cv fun _=>(vn 1)) (ar (cv fun _=>aj) bg))) (cv fun _=>aj))) (fun _=>(cv fun _=>(vn 0))))
  (aC (wU (cb fun _=>(bh (dj hr.units) ce (aT _) (vn 8) (eK ab))) (dq (cP 8 sc.nd (B5 (ar (bX (d__law_pick _) (hr.mono (by decide)) (ar (cv fun _=>(vn 2)) (ar (cv fun _=>(cS Z.len_ (aa (vn 5) ab))) bg))) bg)))) pS)
  (aC (cs fun _=>(aD 9 sc.nd (bj Z.tuple_ (aa (bv ["_law_j", "_law_tables_here"] [none,some 5] rfl (gN (vn 8)) (fun _=>(au 0 (show JW (["_law_j", "_law_tables_here"]:List Str) by decide +kernel))) (fun _=>bK) (fun _=>(fS (vn 1) (vn 0)))) ab))))
  (aC (cs fun _=>(dr (HE.pb (uD (bh vQ uy (aT _) (aM (d_strength _) (hr.mono (by decide)) (aa (vn 3) (aa (vn 9) ab))) (vn 7)) (m7 (bh (iR hr.units) ce (aT _) (aM (d_points_of_tables _) (hr.mono (by decide)) (aa (vn 3) (aa (vn 9) ab))) (aM (d_shadow _) (hr.mono (by decide)) (aa (vn 6) (aa (bj Z.tuple_ (aa (vn 8) ab)) ab))))))) (ax (aG oB)) bW))
  (aC (cs fun _=>(cQ 10 sc.nd (ng Z.list_ Z.range_ (aa (cS Z.len_ (aa (vn 5) ab)) ab))))
  (aC (mI 4 11 10 2 sc.nd rfl (d__law_pick _) (fun m Q h1 h2 h3=>⟨m,rfl,⟨h1,h2⟩,fun j hj=>h3 j hj.1 hj.2⟩) (hr.mono (by decide)) Z.len_ Z.tuple_ (ci fun _=>(aS Z.range_ (aa (cS Z.len_ (aa (vn 5) ab)) ab))) (show JW (["_law_j", "_law_left", "_law_tape_here"]:List Str) by decide +kernel) (fun z=>fu (show JW (["_law_j", "_law_left", "_law_tape_here"]:List Str) by decide +kernel) rfl (.inl rfl))
  (fun z _ pa _ _ _ F hm hk hb=>rn Ls Oi Oj k_ (bH (i:=1) rfl (by first|exact J8 rfl|exact Jw (J8 rfl)|exact Jw (Jw rfl))) (bT (d9 F (hr.mono (by decide)) rfl hm hk hb .nil me pa) dM))
  (fun z=>bT (bH (i:=2) rfl (by first|exact J8 rfl|exact Jw (J8 rfl)|exact Jw (Jw rfl))) (bT (g_ cy rfl Z.len_ rfl (bT (bH (i:=1) rfl (by first|exact J8 rfl|exact Jw (J8 rfl)|exact Jw (Jw rfl))) dM)) dM)))
  (aC (cs fun _=>(aD 12 sc.nd (bj Z.tuple_ (aa (bv ["_law_j", "_law_tables_here"] [none,some 5] rfl (gf (vn 11)) (fun _=>(au 0 (show JW (["_law_j", "_law_tables_here"]:List Str) by decide +kernel))) (fun _=>bK) (fun _=>(fS (vn 1) (vn 0)))) ab))))
  (aC (cs fun _=>(dr (HE.pb (uD (bh (iR hr.units) ce (aT _) (aM (d_strength _) (hr.mono (by decide)) (aa (vn 3) (aa (vn 12) ab))) (vn 7)) (m7 (bh (iR hr.units) ce (aT _) (aM (d_points_of_tables _) (hr.mono (by decide)) (aa (vn 3) (aa (vn 12) ab))) (aM (d_exchanged _) (hr.mono (by decide)) (aa (vn 6) (aa (vn 11) ab))))))) (ax (aG oB)) bW))
  (aC (cs fun _=>(bL [13] JF rfl (ip Z.range_ (aa aj (aa (v_add (vn 7) aj) ab))) (au 13 sc.nd) (ax (dr (HE.pb (uD (bh zf sK (aT _) (fS (aM (d_net_paper _) (hr.mono (by decide)) (aa (vn 3) (aa (vn 9) (aa (vn 13) ab)))) aj) iN) (m7 (bh zf sK (aT _) (fS (aM (d_net_paper _) (hr.mono (by decide)) (aa (vn 3) (aa (vn 12) (aa (vn 13) ab)))) aj) iN)))) (ax (aG oB)) bW))))
  (dq (cs fun _=>(dr (HE.pb (sO (bh hG gM (aT _) (vn 4) aj) (m9 (bh hG gM (aT _) (aM (d_strength _) (hr.mono (by decide)) (aa (vn 3) (aa (fR (aa (fS (vn 5) aj) (aa (fS (vn 5) aj) ab))) ab))) aj)))) (ax (aG oB)) bW))))))))))))))))) (by decide +kernel)))
  (ax (aG oB)))) ?_
 intro ns hn
 have sz:=IQ
 have cl:(VL.cutD (ns.map IJ) none (some 1)).length<=63:=Jr (pR _ _ _) (by rw[IE];exact hn)
 have g0 : -(2^62)<=1+((VL.cutD (ns.map IJ) none (some 1)).length:Int)/\1+((VL.cutD (ns.map IJ) none (some 1)).length:Int)<2^62:=by omega
 simp_arith only[ag,ae,aY,aZ,az,aB,a_,aA,av,ac]
 refine ly ?_ ?_
 · intro i hi K hK
   have pt:=Ax.eq hn (show 0<=0+(i:Int) by omega) (show 0+(i:Int)<1000 by omega)
   simp_arith only[ag,ae,aY,aZ,az,aB,a_,aA,av,ac,pt,bF.eq,A1,A0]
   refine(show sq _ _ (fun fl=>E1 fl K)from ?_)
   have hend:∀ρ,fo [1,2,3,4,5,6,7,8,9,10,11,12,13] (nR ρ)=[some (.sc ns),none,none,none,none,none,none,none,none,none,none,none,none,none]->(fun fl=>E1 fl K) (.nx ρ):=fun ρ e=>hK _ (dm e)
   generalize (fun fl=>E1 fl K)=K' at hend ⊢
   (with_reducible (first|refine aw fun z pm=>?_|refine aE fun z pm=>?_))
   obtain⟨p,m⟩:=z
   have pm:Pm p m:=pm
   obtain⟨w40,p2,p7,m1,m5⟩:=qX pm
   try simp_arith only[ag,ae,aY,aZ,az,aB,a_,aA,av,ac,bq.eq]
   (with_reducible (first|refine aw fun ts ht=>?_|refine aE fun ts ht=>?_))
   obtain⟨t1,t4,htt⟩:=id ht
   have hh:m.toNat=hdM ts:=by
    cases ts with
    | nil=>simp at t1
    | cons a l=>exact(htt a Iz).1.symm
   have hm:∃m:Int,Pm p m/\f_ p m.toNat ts/\m.toNat=hdM ts:=⟨m,pm,ht,hh⟩
   try simp_arith only[ag,ae,aY,aZ,az,aB,a_,aA,av,ac,aJ.eq,bM.eq]
   (with_reducible (first|refine aw fun o ho=>?_|refine aE fun o ho=>?_))
   try simp_arith only[ag,ae,aY,aZ,az,aB,a_,aA,av,ac,dQ]
   refine Ft (sj ?_ (by omega) ?_)
   · intro j hj K2 k1 k2
     simp_arith only[ag,ae,Gq,be.eq]
     (with_reducible (first|refine aw fun x hx=>?_|refine aE fun x hx=>?_))
     exact cM (fun _=>k2) fun _=>k1
   intro js0 sub
   have si:=shaped_ints (js0.map fun j:Nat=>(j:Int))
   have q1:(0:Int)<(ts.length:Int):=by omega
   have q2:(ts.length:Int)<2^60:=by omega
   rw[sq_nx,s_seq]
   refine yr (Js ts.length) (fun js=>.nx [some (.sc ns),some (.d (.int (0+(i:Int)))),some .reel,some (.d (.int p)),some (.d (.int m)),some (.d (tbsD ts)),some (.d (dC (ptsT p (ts.headD []).length ts))),some (.d (.int o)),some (.d (.list ((zI js).map .int))),none,none,none,none,none]) ?_ ?_
   · intro Q' hQ'
     simp_arith only[ag,ae,aY,aZ,az,aB,a_,aA,av,ac,si,be.eq,dQ,wJ]
     refine cM (fun _=>?_) fun hne=>?_
     · (with_reducible (first|refine aw fun j hj=>?_|refine aE fun j hj=>?_))
       have:=hQ' [j.toNat] ⟨by simp,fun x mx=>by rw[K9.mp mx];omega,by simp,by simp⟩
       have ej:((j.toNat:Nat):Int)=j:=J3 hj.1
       have e1:(zI [j.toNat]).map IJ=[IJ j]:=by simp[zI,ej]
       rw[e1]at this
       exact this
     · refine hQ' js0 ⟨MG.sublist sub,fun j mj=>JB.mp (sub.subset mj),?_,?_⟩
       · cases js0 with
         | nil=>simp at hne
         | cons a l=>simp
       · have:=sub.length_le;rw[Lk]at this;omega
   rintro js ⟨nd,lt,l1,l4⟩
   have hM:hdM ts=m.toNat:=hh.symm
   obtain⟨fts,fM⟩:=tm ht l1 l4 lt
   have hmf:∃m:Int,Pm p m/\f_ p m.toNat (GA.sel ts js)/\m.toNat=hdM (GA.sel ts js):=⟨m,pm,fts,fM⟩
   have hzj:(zI js).map IJ=js.map fun j:Nat=>IJ (j:Int):=by unfold zI;rw[Jp];rfl
   simp_arith only[ag,ae,aY,aZ,az,aB,a_,aA,av,ac]
   refine Ft (cX (xs:=js) (enc:=fun j:Nat=>IJ (j:Int)) (fun j=>tbD (ts.getD j [])) hzj ?_ (by omega) ?_)
   · intro j mj
     have ej:=hV (lt j mj)
     simp_arith only[ag,ae,Gq,ej]
   rw[nW]
   have pl40:(ptsT p (hdM ts) ts).length<=40:=by rw[vt,hM];omega
   have zl:(zI js).length<=4:=by unfold zI;rw[IE];exact l4
   have zb:∀q∈ptsT p (hdM ts) ts,∀j∈zI js,0<=j/\j<(q.length:Int):=fun q mq j mj=>by
    obtain⟨a,ma,rfl⟩:=Jo.mp mj
    rw[tD mq]
    have:=lt a ma
    omega
   have ef:(ptsT p (hdM ts) ts).map (fun q=>(zI js).map fun j=>q.getD j.toNat 0)=ptsT p (hdM (GA.sel ts js)) (GA.sel ts js):=by rw[<- fM,hM];exact(nX lt).symm
   have s1:=tj (ptsT p (hdM (GA.sel ts js)) (GA.sel ts js))
   have s2:=tZ (ptsT p (hdM (GA.sel ts js)) (GA.sel ts js))
   simp_arith only[ag,ae,aY,aZ,az,aB,a_,aA,av,ac,bM.eq,aJ.eq,cH.eq,cf,ef,s1,s2]
   (with_reducible (first|refine aw fun o1 h1=>?_|refine aE fun o1 h1=>?_))
   have c1:decide (o1<o)=false:=by
    rw[hM]at ho
    rw[<- fM]at h1
    have:=ho.le h1 fun w hw=>hw.sel nd lt
    simpa using this
   simp_arith only[ag,ae,aY,aZ,az,aB,a_,aA,av,ac,c1,aJ.eq,cH.eq,cf,ef,s1,s2,dQ]
   refine jx (xs:=aN 0 ts.length) ?_ (by rw[ac];exact t4) (aN 0 ts.length) rfl rfl (ID _) (by rw[ac];omega) rfl ?_
   · have gz : -(2^62)<=(ts.length:Int)/\(ts.length:Int)<2^62:=by omega
     simp_arith only[ag,ae,aY,aZ,az,aB,a_,aA,av,ac,dQ]
   intro ds dl ⟨zs,dp⟩
   rw[ac]at dl
   obtain⟨os,rfl,pmu⟩:=vN dl dp
   clear dp dl
   have ond:os.Nodup:=pmu.nodup_iff.mpr MG
   have oln:os.length=ts.length:=by rw[pmu.length_eq];simp
   have olt:∀j∈os,j<ts.length:=fun j mj=>JB.mp (pmu.mem_iff.mp mj)
   obtain⟨ots,oM⟩:=tm ht (js:=os) (by omega) (by omega) olt
   have hmo:∃m:Int,Pm p m/\f_ p m.toNat (GA.sel ts os)/\m.toNat=hdM (GA.sel ts os):=⟨m,pm,ots,oM⟩
   have hzo:(os.map fun j:Nat=>(j:Int)).map IJ=os.map fun j:Nat=>IJ (j:Int):=by rw[Jp];rfl
   simp_arith only[ag,ae,aY,aZ,az,aB,a_,aA,av,ac]
   refine Ft (cX (xs:=os) (enc:=fun j:Nat=>IJ (j:Int)) (fun j=>tbD (ts.getD j [])) hzo ?_ (by omega) ?_)
   · intro j mj
     have ej:=hV (olt j mj)
     simp_arith only[ag,ae,Gq,ej]
   rw[nW]
   have ozl:(os.map fun j:Nat=>(j:Int)).length<=4:=by rw[IE];omega
   have ozb:∀q∈ptsT p (hdM ts) ts,∀j∈os.map (fun j:Nat=>(j:Int)),0<=j/\j<(q.length:Int):=fun q mq j mj=>by
    obtain⟨a,ma,rfl⟩:=Jo.mp mj
    rw[tD mq]
    have:=olt a ma
    omega
   have oef:(ptsT p (hdM ts) ts).map (fun q=>(os.map fun j:Nat=>(j:Int)).map fun j=>q.getD j.toNat 0)=ptsT p (hdM (GA.sel ts os)) (GA.sel ts os):=by rw[<- oM,hM];exact(nX olt).symm
   have os1:=tj (ptsT p (hdM (GA.sel ts os)) (GA.sel ts os))
   have os2:=tZ (ptsT p (hdM (GA.sel ts os)) (GA.sel ts os))
   simp_arith only[ag,ae,aY,aZ,az,aB,a_,aA,av,ac,bM.eq,aJ.eq,bE.eq,cf,oef,os1,os2]
   (with_reducible (first|refine aw fun o2 h2=>?_|refine aE fun o2 h2=>?_))
   have eo:o2=o:=by
    rw[hM]at ho
    rw[<- oM]at h2
    exact h2.same ho fun w=>GA.Net.order pmu
   subst eo
   have c2:(o2==o2)=true:=by simp
   simp_arith only[ag,ae,aY,aZ,az,aB,a_,aA,av,ac,c2,aJ.eq,bE.eq,cf,oef,os1,os2]
   have o0:=ho.o0
   have om:=ho.om
   have oa:∀w:Int,1<=w->w<=o2->GA.Net p (hdM ts) ts w:=fun w a b=>ho.all t1 a b
   refine bI ⟨by decide,by decide,by omega,by omega⟩ (ly ?_ ?_)
   · intro j hj K2 hK2
     have w1:1<=1+(j:Int):=by omega
     have w2:1+(j:Int)<=m:=by omega
     have nt:=oa (1+(j:Int)) w1 (by omega)
     have hwf:∃m:Int,Pm p m/\f_ p m.toNat (GA.sel ts js)/\m.toNat=hdM (GA.sel ts js)/\1<=1+(j:Int)/\1+(j:Int)<=m:=⟨m,pm,fts,fM,w1,w2⟩
     have hwo:∃m:Int,Pm p m/\f_ p m.toNat (GA.sel ts os)/\m.toNat=hdM (GA.sel ts os)/\1<=1+(j:Int)/\1+(j:Int)<=m:=⟨m,pm,ots,oM,w1,w2⟩
     simp_arith only[ag,ae,aY,aZ,az,aB,a_,aA,av,ac,bw.eq]
     (with_reducible (first|refine aw fun d1 hd1=>?_|refine aE fun d1 hd1=>?_))
     rcases hd1 with⟨_,x,rfl⟩|⟨nn,_⟩
     · try simp_arith only[ag,ae,aY,aZ,az,aB,a_,aA,av,ac,bw.eq]
       try rw[if_neg (by decide)]
       (with_reducible (first|refine aw fun d2 hd2=>?_|refine aE fun d2 hd2=>?_))
       rcases hd2 with⟨_,y,rfl⟩|⟨nn,_⟩
       · try simp_arith only[ag,ae,aY,aZ,az,aB,a_,aA,av,ac]
         try rw[if_neg (by decide)]
         exact hK2 _ (dm rfl)
       · refine absurd ?_ nn
         rw[<- oM,<- hM]
         exact GA.Net.order pmu |>.mpr nt
     · refine absurd ?_ nn
       rw[<- fM,<- hM]
       exact nt.sel nd lt
   have e0:VL.itemAt (tbsD ts) 0=some (tbD (ts.getD 0 [])):=hV (j:=0) (by omega)
   simp_arith only[ag,ae,aY,aZ,az,aB,a_,aA,av,ac,e0,DN]
   by_cases hm1:1<m
   · have c3:decide (1<m)=true:=by simpa using hm1
     have g0t:ts.getD 0 []=ts[0]:=by rw[Ix,Iy t1];rfl
     have tt:=htt _ (JA t1)
     rw[<- g0t]at tt
     have hmt:∃m:Int,Pm p m/\f_ p m.toNat [ts.getD 0 [],ts.getD 0 []]/\m.toNat=hdM [ts.getD 0 [],ts.getD 0 []]:=⟨m,pm,⟨by simp,by simp,fun t mt=>by simp at mt;rw[mt];exact tt⟩,tt.1.symm⟩
     simp_arith only[ag,ae,aY,aZ,az,aB,a_,aA,av,ac,c3,bM.eq]
     (with_reducible (first|refine aw fun o3 h3=>?_|refine aE fun o3 h3=>?_))
     have l3:o3<=1:=GA.two_same p2 (by show 2<=(ts.getD 0 []).length;rw[tt.1];omega) (by rw[tt.1];omega) h3
     have c4:decide (1<o3)=false:=by simpa using l3
     try simp_arith only[ag,ae,aY,aZ,az,aB,a_,aA,av,ac,c4]
     exact hend _ rfl
   · have c3:decide (1<m)=false:=by simpa using hm1
     simp_arith only[ag,ae,aY,aZ,az,aB,a_,aA,av,ac,c3]
     exact hend _ rfl
 · simp_arith only[ae,aY,aZ,az,aB,a_,aA,av,ac]
   exact wq
structure Txt (K:Lo) (mg:Str->Option Iw):Prop where
 bz:Bz mg
 f__law_tape:FnIn K mg "_law_tape" (top 37) ["_law_script", "_law_at"]
 f__law_pick:FnIn K mg "_law_pick" (top 38) ["_law_tape_here", "_law_many"]
 f__law_any:FnIn K mg "_law_any" (top 40) ["_law_tape_here", "_law_p", "_law_rows", "_law_columns"]
 f_common_divisor:FnIn K mg "common_divisor" (top 4) ["one", "other"]
 f_fraction:FnIn K mg "fraction" (top 5) ["top", "bottom"]
 f_power:FnIn K mg "power" (top 7) ["base", "exponent"]
 f_figures_of:FnIn K mg "figures_of" (top 8) ["base", "n"]
 f_figures_in:FnIn K mg "figures_in" (top 9) ["base", "n", "k"]
 f__law_size:FnIn K mg "_law_size" (top 39) ["_law_tape_here"]
 f_product_sum:FnIn K mg "product_sum" (top 14) ["p", "one", "other"]
 f_applied:FnIn K mg "applied" (top 15) ["p", "table", "figures"]
 f_number_of:FnIn K mg "number_of" (top 10) ["base", "figures"]
 f_table_number:FnIn K mg "table_number" (top 24) ["p", "table", "figures"]
 f__law_mirror:FnIn K mg "_law_mirror" (top 42) ["_law_m"]
 f__law_sum_table:FnIn K mg "_law_sum_table" (top 41) ["_law_p", "_law_m", "_law_j"]
 f__law_tables:FnIn K mg "_law_tables" (top 43) ["_law_tape_here", "_law_p", "_law_m"]
 f_points_of_tables:FnIn K mg "points_of_tables" (top 25) ["p", "tables"]
 f_inverse_of:FnIn K mg "inverse_of" (top 12) ["one", "modulus"]
 f_unit_figures:FnIn K mg "unit_figures" (top 16) ["many", "place"]
 f_first_filled:FnIn K mg "first_filled" (top 17) ["figures"]
 f_scaled:FnIn K mg "scaled" (top 18) ["p", "row", "often"]
 f_cleared:FnIn K mg "cleared" (top 19) ["p", "row", "other", "column"]
 f_reduced:FnIn K mg "reduced" (top 20) ["p", "table"]
 f_combination:FnIn K mg "combination" (top 22) ["p", "table"]
 f_right_inverse:FnIn K mg "right_inverse" (top 21) ["p", "table"]
 f_shapes_of:FnIn K mg "shapes_of" (top 26) ["many", "w"]
 f_rows_of:FnIn K mg "rows_of" (top 27) ["tables", "shape"]
 f_net_paper:FnIn K mg "net_paper" (top 29) ["p", "tables", "w"]
 f_strength:FnIn K mg "strength" (top 31) ["p", "tables"]
 f_picked:FnIn K mg "picked" (top 33) ["points", "sides"]
 f_exchanged:FnIn K mg "exchanged" (top 34) ["points", "order"]
 f_shadow:FnIn K mg "shadow" (top 35) ["points", "sides"]
theorem zi{f:Addr}(F:Fun K "law" "law" (top 44) f fd)(T:Txt K mg)  : FnOk P w K mg base Ib 8 f fd ["_law_script"] (gj K):=by
 have d__law_tape:DfnR P w K mg base "_law_tape" ["_law_script", "_law_at"] 2 Ax:=K71.d__law_tape T.f__law_tape T.bz   
 have d__law_pick:∀al,DfnC P w K mg base al 1 "_law_pick" ["_law_tape_here", "_law_many"] 1 be:=fun rl=>K71.d__law_pick T.f__law_pick T.bz   
 have d__law_any:∀al,DfnC P w K mg base al 8193 "_law_any" ["_law_tape_here", "_law_p", "_law_rows", "_law_columns"] 2 bO:=fun rl=>K71.d__law_any T.f__law_any T.bz d__law_pick  
 have d_common_divisor:∀rl,Dfn P w K mg base rl "common_divisor" ["one", "other"] 1 aQ:=fun rl=>K71.d_common_divisor T.f_common_divisor T.bz   
 have d_fraction:∀rl,Dfn P w K mg base rl "fraction" ["top", "bottom"] 2 bN:=fun rl=>K71.d_fraction T.f_fraction T.bz d_common_divisor  
 have d_power:∀rl,Dfn P w K mg base rl "power" ["base", "exponent"] 1 cV:=fun rl=>K71.d_power T.f_power T.bz   
 have d_figures_of:∀rl,Dfn P w K mg base rl "figures_of" ["base", "n"] 1 bA:=fun rl=>K71.d_figures_of T.f_figures_of T.bz   
 have d_figures_in:∀rl,Dfn P w K mg base rl "figures_in" ["base", "n", "k"] 2 bB:=fun rl=>K71.d_figures_in T.f_figures_in T.bz d_figures_of  
 have d__law_size:∀al,DfnC P w K mg base al 2 "_law_size" ["_law_tape_here"] 2 bF:=fun rl=>K71.d__law_size T.f__law_size T.bz d__law_pick  
 have d_product_sum:∀rl,Dfn P w K mg base rl "product_sum" ["p", "one", "other"] 1 bo:=fun rl=>K71.d_product_sum T.f_product_sum T.bz   
 have d_applied:∀rl,Dfn P w K mg base rl "applied" ["p", "table", "figures"] 2 ck:=fun rl=>K71.d_applied T.f_applied T.bz d_product_sum  
 have d_number_of:∀rl,Dfn P w K mg base rl "number_of" ["base", "figures"] 1 bD:=fun rl=>K71.d_number_of T.f_number_of T.bz   
 have d_table_number:∀rl,Dfn P w K mg base rl "table_number" ["p", "table", "figures"] 3 aU:=fun rl=>K71.d_table_number T.f_table_number T.bz d_applied d_fraction d_number_of d_power  
 have d__law_mirror:∀rl,Dfn P w K mg base rl "_law_mirror" ["_law_m"] 1 br:=fun rl=>K71.d__law_mirror T.f__law_mirror T.bz   
 have d__law_sum_table:∀rl,Dfn P w K mg base rl "_law_sum_table" ["_law_p", "_law_m", "_law_j"] 1 aR:=fun rl=>K71.d__law_sum_table T.f__law_sum_table T.bz   
 have d__law_tables:∀al,DfnC P w K mg base al 524422 "_law_tables" ["_law_tape_here", "_law_p", "_law_m"] 3 bq:=fun rl=>K71.d__law_tables T.f__law_tables T.bz d__law_pick d__law_sum_table d__law_any d__law_mirror  
 have d_points_of_tables:∀rl,Dfn P w K mg base rl "points_of_tables" ["p", "tables"] 4 aJ:=fun rl=>K71.d_points_of_tables T.f_points_of_tables T.bz d_power d_figures_in d_table_number  
 have d_inverse_of:∀rl,Dfn P w K mg base rl "inverse_of" ["one", "modulus"] 1 bx:=fun rl=>K71.d_inverse_of T.f_inverse_of T.bz   
 have d_unit_figures:∀rl,Dfn P w K mg base rl "unit_figures" ["many", "place"] 1 bc:=fun rl=>K71.d_unit_figures T.f_unit_figures T.bz   
 have d_first_filled:∀rl,Dfn P w K mg base rl "first_filled" ["figures"] 1 bd:=fun rl=>K71.d_first_filled T.f_first_filled T.bz   
 have d_scaled:∀rl,Dfn P w K mg base rl "scaled" ["p", "row", "often"] 1 cI:=fun rl=>K71.d_scaled T.f_scaled T.bz   
 have d_cleared:∀rl,Dfn P w K mg base rl "cleared" ["p", "row", "other", "column"] 1 cj:=fun rl=>K71.d_cleared T.f_cleared T.bz   
 have d_reduced:∀rl,DfnP P w K mg base rl "reduced" ["p", "table"] 2 bS:=fun rl=>K71.d_reduced T.f_reduced T.bz d_first_filled d_scaled d_unit_figures d_cleared d_inverse_of  
 have d_combination:∀rl,Dfn P w K mg base rl "combination" ["p", "table"] 3 bp:=fun rl=>K71.d_combination T.f_combination T.bz d_reduced  
 have d_right_inverse:∀rl,Dfn P w K mg base rl "right_inverse" ["p", "table"] 3 aX:=fun rl=>K71.d_right_inverse T.f_right_inverse T.bz d_reduced  
 have d_shapes_of:∀rl,Dfn P w K mg base rl "shapes_of" ["many", "w"] 4 (aF 4):=fun rl=>K71.d_shapes_of T.f_shapes_of T.bz   
 have d_rows_of:∀rl,Dfn P w K mg base rl "rows_of" ["tables", "shape"] 1 cg:=fun rl=>K71.d_rows_of T.f_rows_of T.bz   
 have d_net_paper:∀rl,Dfn P w K mg base rl "net_paper" ["p", "tables", "w"] 5 bw:=fun rl=>K71.d_net_paper T.f_net_paper T.bz d_shapes_of d_rows_of d_combination d_right_inverse  
 have d_strength:∀rl,Dfn P w K mg base rl "strength" ["p", "tables"] 6 bM:=fun rl=>K71.d_strength T.f_strength T.bz d_net_paper  
 have d_picked:∀rl,Dfn P w K mg base rl "picked" ["points", "sides"] 1 cw:=fun rl=>K71.d_picked T.f_picked T.bz   
 have d_exchanged:∀rl,Dfn P w K mg base rl "exchanged" ["points", "order"] 2 bE:=fun rl=>K71.d_exchanged T.f_exchanged T.bz d_picked  
 have d_shadow:∀rl,Dfn P w K mg base rl "shadow" ["points", "sides"] 2 cH:=fun rl=>K71.d_shadow T.f_shadow T.bz d_picked  
 exact rK T.bz d__law_tape d__law_size d__law_tables d_points_of_tables d_strength d__law_pick d_shadow d_exchanged d_net_paper   F
end
theorem aV{K:Lo}{mg:Str->Option Iw}(X:K.In h)(G:h.Ns JI mg){x:Str}{st:Stmt}{ps:List Str}{f:Addr}{oc kV dc pm cd ct:Iw}{od an:Option Addr}{sl:Array (Option Iw)}(a:Pk K JI x=some (some (.ref f)))(l:K.lookup f=some ⟨oc,od,.func (Pl x x (defArgs st) (defBody st) (defScope st) .none kV dc pm an cd ct),sl⟩)(c:IU K cd x=true)(k:IV K (.ref f)=true)(hb:∀(kV doc pm:Iw)(an:Option Addr)(cdv ct:Iw)(us:List Iw),us.length=ps.length->bindArgs (Pl x x (defArgs st) (defBody st) (defScope st) .none kV doc pm an cdv ct) ⟨us,[]⟩=pure (ps.zip us)):FnIn K mg x st ps:=⟨⟨f,_,PySem.W.mg_of X G a,pF l c k,(pF l c k).binds hb⟩⟩
abbrev NI(K:Lo)(x:Str)(f:Addr):Prop:=Pk K JI x=some (some (.ref f))
abbrev NZ(K:Lo)(x:Str):Prop:=Pk K JI x=some none
abbrev LK(K:Lo)(x:Str)(st:Stmt)(f:Addr)(oc:Iw)(od:Option Addr)(kV dc pm:Iw)(an:Option Addr)(cd ct:Iw)(sl:Array (Option Iw)):Prop:=K.lookup f=some ⟨oc,od,.func (Pl x x (defArgs st) (defBody st) (defScope st) .none kV dc pm an cd ct),sl⟩
theorem all_mk{l:Ol}{w:JN}{K:Lo}{mg:Str->Option Iw}{fa:Addr}(X:K.In h)(G:h.Ns JI mg)(hfa:mg "law" = some (.ref fa))
 {f1 f2 f3 f4 f5 f6 f7 f8 f9 f10 f11 f12 f13 f14 f15 f16 f17 f18 f19 f20 f21 f22 f23 f24 f25 f26 f27 f28 f29 f30 f31 f32 f33:Addr}{od1 an1 od2 an2 od3 an3 od4 an4 od5 an5 od6 an6 od7 an7 od8 an8 od9 an9 od10 an10 od11 an11 od12 an12 od13 an13 od14 an14 od15 an15 od16 an16 od17 an17 od18 an18 od19 an19 od20 an20 od21 an21 od22 an22 od23 an23 od24 an24 od25 an25 od26 an26 od27 an27 od28 an28 od29 an29 od30 an30 od31 an31 od32 an32 od33 an33:Option Addr}{sl1 sl2 sl3 sl4 sl5 sl6 sl7 sl8 sl9 sl10 sl11 sl12 sl13 sl14 sl15 sl16 sl17 sl18 sl19 sl20 sl21 sl22 sl23 sl24 sl25 sl26 sl27 sl28 sl29 sl30 sl31 sl32 sl33:Array (Option Iw)}{oc1 kV1 dc1 pm1 cd1 ct1 oc2 kV2 dc2 pm2 cd2 ct2 oc3 kV3 dc3 pm3 cd3 ct3 oc4 kV4 dc4 pm4 cd4 ct4 oc5 kV5 dc5 pm5 cd5 ct5 oc6 kV6 dc6 pm6 cd6 ct6 oc7 kV7 dc7 pm7 cd7 ct7 oc8 kV8 dc8 pm8 cd8 ct8 oc9 kV9 dc9 pm9 cd9 ct9 oc10 kV10 dc10 pm10 cd10 ct10 oc11 kV11 dc11 pm11 cd11 ct11 oc12 kV12 dc12 pm12 cd12 ct12 oc13 kV13 dc13 pm13 cd13 ct13 oc14 kV14 dc14 pm14 cd14 ct14 oc15 kV15 dc15 pm15 cd15 ct15 oc16 kV16 dc16 pm16 cd16 ct16 oc17 kV17 dc17 pm17 cd17 ct17 oc18 kV18 dc18 pm18 cd18 ct18 oc19 kV19 dc19 pm19 cd19 ct19 oc20 kV20 dc20 pm20 cd20 ct20 oc21 kV21 dc21 pm21 cd21 ct21 oc22 kV22 dc22 pm22 cd22 ct22 oc23 kV23 dc23 pm23 cd23 ct23 oc24 kV24 dc24 pm24 cd24 ct24 oc25 kV25 dc25 pm25 cd25 ct25 oc26 kV26 dc26 pm26 cd26 ct26 oc27 kV27 dc27 pm27 cd27 ct27 oc28 kV28 dc28 pm28 cd28 ct28 oc29 kV29 dc29 pm29 cd29 ct29 oc30 kV30 dc30 pm30 cd30 ct30 oc31 kV31 dc31 pm31 cd31 ct31 oc32 kV32 dc32 pm32 cd32 ct32 oc33 kV33 dc33 pm33 cd33 ct33:Iw}
 (a1:NI K "_law_tape" f1)(l1:LK K "_law_tape" (top 37) f1 oc1 od1 kV1 dc1 pm1 an1 cd1 ct1 sl1)(c1:IU K cd1 "_law_tape" = true)(k1:IV K (.ref f1)=true)(a2:NI K "_law_pick" f2)(l2:LK K "_law_pick" (top 38) f2 oc2 od2 kV2 dc2 pm2 an2 cd2 ct2 sl2)(c2:IU K cd2 "_law_pick" = true)(k2:IV K (.ref f2)=true)(a3:NI K "_law_any" f3)(l3:LK K "_law_any" (top 40) f3 oc3 od3 kV3 dc3 pm3 an3 cd3 ct3 sl3)(c3:IU K cd3 "_law_any" = true)(k3:IV K (.ref f3)=true)(a4:NI K "common_divisor" f4)(l4:LK K "common_divisor" (top 4) f4 oc4 od4 kV4 dc4 pm4 an4 cd4 ct4 sl4)(c4:IU K cd4 "common_divisor" = true)(k4:IV K (.ref f4)=true)(a5:NI K "fraction" f5)(l5:LK K "fraction" (top 5) f5 oc5 od5 kV5 dc5 pm5 an5 cd5 ct5 sl5)(c5:IU K cd5 "fraction" = true)(k5:IV K (.ref f5)=true)(a6:NI K "power" f6)(l6:LK K "power" (top 7) f6 oc6 od6 kV6 dc6 pm6 an6 cd6 ct6 sl6)(c6:IU K cd6 "power" = true)(k6:IV K (.ref f6)=true)(a7:NI K "figures_of" f7)(l7:LK K "figures_of" (top 8) f7 oc7 od7 kV7 dc7 pm7 an7 cd7 ct7 sl7)(c7:IU K cd7 "figures_of" = true)(k7:IV K (.ref f7)=true)(a8:NI K "figures_in" f8)(l8:LK K "figures_in" (top 9) f8 oc8 od8 kV8 dc8 pm8 an8 cd8 ct8 sl8)(c8:IU K cd8 "figures_in" = true)(k8:IV K (.ref f8)=true)(a9:NI K "_law_size" f9)(l9:LK K "_law_size" (top 39) f9 oc9 od9 kV9 dc9 pm9 an9 cd9 ct9 sl9)(c9:IU K cd9 "_law_size" = true)(k9:IV K (.ref f9)=true)(a10:NI K "product_sum" f10)(l10:LK K "product_sum" (top 14) f10 oc10 od10 kV10 dc10 pm10 an10 cd10 ct10 sl10)(c10:IU K cd10 "product_sum" = true)(k10:IV K (.ref f10)=true)(a11:NI K "applied" f11)(l11:LK K "applied" (top 15) f11 oc11 od11 kV11 dc11 pm11 an11 cd11 ct11 sl11)(c11:IU K cd11 "applied" = true)(k11:IV K (.ref f11)=true)(a12:NI K "number_of" f12)(l12:LK K "number_of" (top 10) f12 oc12 od12 kV12 dc12 pm12 an12 cd12 ct12 sl12)(c12:IU K cd12 "number_of" = true)(k12:IV K (.ref f12)=true)(a13:NI K "table_number" f13)(l13:LK K "table_number" (top 24) f13 oc13 od13 kV13 dc13 pm13 an13 cd13 ct13 sl13)(c13:IU K cd13 "table_number" = true)(k13:IV K (.ref f13)=true)(a14:NI K "_law_mirror" f14)(l14:LK K "_law_mirror" (top 42) f14 oc14 od14 kV14 dc14 pm14 an14 cd14 ct14 sl14)(c14:IU K cd14 "_law_mirror" = true)(k14:IV K (.ref f14)=true)(a15:NI K "_law_sum_table" f15)(l15:LK K "_law_sum_table" (top 41) f15 oc15 od15 kV15 dc15 pm15 an15 cd15 ct15 sl15)(c15:IU K cd15 "_law_sum_table" = true)(k15:IV K (.ref f15)=true)(a16:NI K "_law_tables" f16)(l16:LK K "_law_tables" (top 43) f16 oc16 od16 kV16 dc16 pm16 an16 cd16 ct16 sl16)(c16:IU K cd16 "_law_tables" = true)(k16:IV K (.ref f16)=true)(a17:NI K "points_of_tables" f17)(l17:LK K "points_of_tables" (top 25) f17 oc17 od17 kV17 dc17 pm17 an17 cd17 ct17 sl17)(c17:IU K cd17 "points_of_tables" = true)(k17:IV K (.ref f17)=true)(a18:NI K "inverse_of" f18)(l18:LK K "inverse_of" (top 12) f18 oc18 od18 kV18 dc18 pm18 an18 cd18 ct18 sl18)(c18:IU K cd18 "inverse_of" = true)(k18:IV K (.ref f18)=true)(a19:NI K "unit_figures" f19)(l19:LK K "unit_figures" (top 16) f19 oc19 od19 kV19 dc19 pm19 an19 cd19 ct19 sl19)(c19:IU K cd19 "unit_figures" = true)(k19:IV K (.ref f19)=true)(a20:NI K "first_filled" f20)(l20:LK K "first_filled" (top 17) f20 oc20 od20 kV20 dc20 pm20 an20 cd20 ct20 sl20)(c20:IU K cd20 "first_filled" = true)(k20:IV K (.ref f20)=true)(a21:NI K "scaled" f21)(l21:LK K "scaled" (top 18) f21 oc21 od21 kV21 dc21 pm21 an21 cd21 ct21 sl21)(c21:IU K cd21 "scaled" = true)(k21:IV K (.ref f21)=true)(a22:NI K "cleared" f22)(l22:LK K "cleared" (top 19) f22 oc22 od22 kV22 dc22 pm22 an22 cd22 ct22 sl22)(c22:IU K cd22 "cleared" = true)(k22:IV K (.ref f22)=true)(a23:NI K "reduced" f23)(l23:LK K "reduced" (top 20) f23 oc23 od23 kV23 dc23 pm23 an23 cd23 ct23 sl23)(c23:IU K cd23 "reduced" = true)(k23:IV K (.ref f23)=true)(a24:NI K "combination" f24)(l24:LK K "combination" (top 22) f24 oc24 od24 kV24 dc24 pm24 an24 cd24 ct24 sl24)(c24:IU K cd24 "combination" = true)(k24:IV K (.ref f24)=true)(a25:NI K "right_inverse" f25)(l25:LK K "right_inverse" (top 21) f25 oc25 od25 kV25 dc25 pm25 an25 cd25 ct25 sl25)(c25:IU K cd25 "right_inverse" = true)(k25:IV K (.ref f25)=true)(a26:NI K "shapes_of" f26)(l26:LK K "shapes_of" (top 26) f26 oc26 od26 kV26 dc26 pm26 an26 cd26 ct26 sl26)(c26:IU K cd26 "shapes_of" = true)(k26:IV K (.ref f26)=true)(a27:NI K "rows_of" f27)(l27:LK K "rows_of" (top 27) f27 oc27 od27 kV27 dc27 pm27 an27 cd27 ct27 sl27)(c27:IU K cd27 "rows_of" = true)(k27:IV K (.ref f27)=true)(a28:NI K "net_paper" f28)(l28:LK K "net_paper" (top 29) f28 oc28 od28 kV28 dc28 pm28 an28 cd28 ct28 sl28)(c28:IU K cd28 "net_paper" = true)(k28:IV K (.ref f28)=true)(a29:NI K "strength" f29)(l29:LK K "strength" (top 31) f29 oc29 od29 kV29 dc29 pm29 an29 cd29 ct29 sl29)(c29:IU K cd29 "strength" = true)(k29:IV K (.ref f29)=true)(a30:NI K "picked" f30)(l30:LK K "picked" (top 33) f30 oc30 od30 kV30 dc30 pm30 an30 cd30 ct30 sl30)(c30:IU K cd30 "picked" = true)(k30:IV K (.ref f30)=true)(a31:NI K "exchanged" f31)(l31:LK K "exchanged" (top 34) f31 oc31 od31 kV31 dc31 pm31 an31 cd31 ct31 sl31)(c31:IU K cd31 "exchanged" = true)(k31:IV K (.ref f31)=true)(a32:NI K "shadow" f32)(l32:LK K "shadow" (top 35) f32 oc32 od32 kV32 dc32 pm32 an32 cd32 ct32 sl32)(c32:IU K cd32 "shadow" = true)(k32:IV K (.ref f32)=true)(a33:NI K "law" f33)(l33:LK K "law" (top 44) f33 oc33 od33 kV33 dc33 pm33 an33 cd33 ct33 sl33)(c33:IU K cd33 "law" = true)(k33:IV K (.ref f33)=true)
 (z_int:NZ K "int")(z_bool:NZ K "bool")(z_str:NZ K "str")(z_list:NZ K "list")(z_tuple:NZ K "tuple")(z_dict:NZ K "dict")(z_isinstance:NZ K "isinstance")(z_len:NZ K "len")(z_abs:NZ K "abs")(z_repr:NZ K "repr")(z_range:NZ K "range")(z_all:NZ K "all")(z_any:NZ K "any")(z_sum:NZ K "sum")(z_min:NZ K "min")(z_max:NZ K "max")(z_sorted:NZ K "sorted")(z_zip:NZ K "zip")(z_enumerate:NZ K "enumerate")(z_reversed:NZ K "reversed")(z_divmod:NZ K "divmod")(z_set:NZ K "set")   :
 ∃fd:KO,(∀(s:IB)(v:Iw),Pu s fd ⟨[v],[]⟩ [("_law_script", v)])/\∀base:Heap,K.In base->base.Ns JI mg->FnOk l.prog w K mg base Ib 8 fa fd ["_law_script"] (gj K):=by
 have e:=hfa.symm.trans (PySem.W.mg_of X G a33)
 cases e
 have B:Bz mg:=⟨I_ X G z_int,I_ X G z_bool,I_ X G z_str,I_ X G z_list,I_ X G z_tuple,I_ X G z_dict,I_ X G z_isinstance,I_ X G z_len,I_ X G z_abs,I_ X G z_repr,I_ X G z_range,I_ X G z_all,I_ X G z_any,I_ X G z_sum,I_ X G z_min,I_ X G z_max,I_ X G z_sorted,I_ X G z_zip,I_ X G z_enumerate,I_ X G z_reversed,I_ X G z_divmod,I_ X G z_set⟩
 have T:Txt K mg:=⟨B,(aV X G a1 l1 c1 k1 fun _ _ _ _ _ _ us hl=>match us,hl with | [_,_],_=>rfl),(aV X G a2 l2 c2 k2 fun _ _ _ _ _ _ us hl=>match us,hl with | [_,_],_=>rfl),(aV X G a3 l3 c3 k3 fun _ _ _ _ _ _ us hl=>match us,hl with | [_,_,_,_],_=>rfl),(aV X G a4 l4 c4 k4 fun _ _ _ _ _ _ us hl=>match us,hl with | [_,_],_=>rfl),(aV X G a5 l5 c5 k5 fun _ _ _ _ _ _ us hl=>match us,hl with | [_,_],_=>rfl),(aV X G a6 l6 c6 k6 fun _ _ _ _ _ _ us hl=>match us,hl with | [_,_],_=>rfl),(aV X G a7 l7 c7 k7 fun _ _ _ _ _ _ us hl=>match us,hl with | [_,_],_=>rfl),(aV X G a8 l8 c8 k8 fun _ _ _ _ _ _ us hl=>match us,hl with | [_,_,_],_=>rfl),(aV X G a9 l9 c9 k9 fun _ _ _ _ _ _ us hl=>match us,hl with | [_],_=>rfl),(aV X G a10 l10 c10 k10 fun _ _ _ _ _ _ us hl=>match us,hl with | [_,_,_],_=>rfl),(aV X G a11 l11 c11 k11 fun _ _ _ _ _ _ us hl=>match us,hl with | [_,_,_],_=>rfl),(aV X G a12 l12 c12 k12 fun _ _ _ _ _ _ us hl=>match us,hl with | [_,_],_=>rfl),(aV X G a13 l13 c13 k13 fun _ _ _ _ _ _ us hl=>match us,hl with | [_,_,_],_=>rfl),(aV X G a14 l14 c14 k14 fun _ _ _ _ _ _ us hl=>match us,hl with | [_],_=>rfl),(aV X G a15 l15 c15 k15 fun _ _ _ _ _ _ us hl=>match us,hl with | [_,_,_],_=>rfl),(aV X G a16 l16 c16 k16 fun _ _ _ _ _ _ us hl=>match us,hl with | [_,_,_],_=>rfl),(aV X G a17 l17 c17 k17 fun _ _ _ _ _ _ us hl=>match us,hl with | [_,_],_=>rfl),(aV X G a18 l18 c18 k18 fun _ _ _ _ _ _ us hl=>match us,hl with | [_,_],_=>rfl),(aV X G a19 l19 c19 k19 fun _ _ _ _ _ _ us hl=>match us,hl with | [_,_],_=>rfl),(aV X G a20 l20 c20 k20 fun _ _ _ _ _ _ us hl=>match us,hl with | [_],_=>rfl),(aV X G a21 l21 c21 k21 fun _ _ _ _ _ _ us hl=>match us,hl with | [_,_,_],_=>rfl),(aV X G a22 l22 c22 k22 fun _ _ _ _ _ _ us hl=>match us,hl with | [_,_,_,_],_=>rfl),(aV X G a23 l23 c23 k23 fun _ _ _ _ _ _ us hl=>match us,hl with | [_,_],_=>rfl),(aV X G a24 l24 c24 k24 fun _ _ _ _ _ _ us hl=>match us,hl with | [_,_],_=>rfl),(aV X G a25 l25 c25 k25 fun _ _ _ _ _ _ us hl=>match us,hl with | [_,_],_=>rfl),(aV X G a26 l26 c26 k26 fun _ _ _ _ _ _ us hl=>match us,hl with | [_,_],_=>rfl),(aV X G a27 l27 c27 k27 fun _ _ _ _ _ _ us hl=>match us,hl with | [_,_],_=>rfl),(aV X G a28 l28 c28 k28 fun _ _ _ _ _ _ us hl=>match us,hl with | [_,_,_],_=>rfl),(aV X G a29 l29 c29 k29 fun _ _ _ _ _ _ us hl=>match us,hl with | [_,_],_=>rfl),(aV X G a30 l30 c30 k30 fun _ _ _ _ _ _ us hl=>match us,hl with | [_,_],_=>rfl),(aV X G a31 l31 c31 k31 fun _ _ _ _ _ _ us hl=>match us,hl with | [_,_],_=>rfl),(aV X G a32 l32 c32 k32 fun _ _ _ _ _ _ us hl=>match us,hl with | [_,_],_=>rfl)⟩
 have FL:=pF (st:=top 44) l33 c33 k33
 exact⟨_,fun s v=>.of_eq rfl,fun base _ _=>zi FL T ⟩
theorem walk{l:Ol}{q:IZ}{loose:List Str}{XP:(Str->Option Iw)->Heap->Prop}{YP:JN->Heap->Prop}{d:DefRec}{K:PF->Lo}(hn:l.most=some 63)(hdf:d.params.defaults=[])
 (hY:∀(w:JN)(h:Heap),YP w h->(K w.params).In h)
 (F:∀(w:JN)(mg:Str->Option Iw)(fa:Addr)(h:Heap),(K w.params).In h->h.Ns JI mg->mg d.name=some (.ref fa) ->
  ∃fd:KO,(∀(s:IB)(u:Iw),Pu s fd ⟨[u],[]⟩ [("_law_script", u)])/\∀base:Heap,(K w.params).In base->base.Ns JI mg->FnOk l.prog w (K w.params) mg base Ib 8 fa fd ["_law_script"] (gj (K w.params))) :
 PySem.W.WalkO q loose XP YP l.row.toRowW d [] (fun f vs=>PySem.call f vs) :=
 L2.walk_of (n:=63) (k:=8) (x := "_law_script") (CX:=fun _=>Ib) (sp:=fun w=>gj (K w.params)) hn (by decide) hdf ⟨rfl,by decide,by decide,rfl⟩ hY F (fun _ _ a ns hl _ hS=>⟨a,ns,rfl,hS,hl,fun _=>rfl⟩) fun _ _ _ _ _ z=>z
end K71
def PySem.W.Fast.tw13833697744733264400:PySem.Params->Lo:=K71.heapK
theorem PySem.W.Fast.te13833697744733264400:K71.heapK=PySem.W.Fast.tw13833697744733264400:=rfl
open PySem PySem.W PyProof.Rows
set_option maxRecDepth 100000 in
set_option maxHeartbeats 0 in
theorem PySem.Challenge.cw_evenpoints_k71_whole_fewer_sides_holds : PySem.Challenge.rw_evenpoints_k71_whole_fewer_sides.Holds := by
 refine(congrArg Ol.Holds K71.rw_eq).mpr ?_
 w_on;o_law
 refine holds_open (loose:=[]) (XP:=XL K71.zview []) (YP:=Hook.says (kHook K71.heapK K71.heapA K71.heapE)) K71.zleft
  (Hook.of _) (Hook.keeps _) (fun s e=>xl_of s (IF.mp e).1)
  XL.keeps (by rfl) (by rfl) (by rfl) (fun s e=>recFacts_of (IF.mp e).2) (by rfl)
  (by first|assumption|decide +kernel) (by decide +kernel) ⟨rfl,rfl,rfl,rfl,rfl,by decide +kernel⟩ ?hw ?hc
 (case hw=>w_witness2)
 k_fill
 refine K71.walk (l:=K71.rwN) rfl rfl (fun w h Y=>PySem.W.kIn_of (as:=K71.heapA) (e:=K71.heapE) Y) ?F
 case F =>
  intro w mg fa h KX G hmg
  refine' K71.all_mk KX G hmg ?a1 ?l1 ?c1 ?k1 ?a2 ?l2 ?c2 ?k2 ?a3 ?l3 ?c3 ?k3 ?a4 ?l4 ?c4 ?k4 ?a5 ?l5 ?c5 ?k5 ?a6 ?l6 ?c6 ?k6 ?a7 ?l7 ?c7 ?k7 ?a8 ?l8 ?c8 ?k8 ?a9 ?l9 ?c9 ?k9 ?a10 ?l10 ?c10 ?k10 ?a11 ?l11 ?c11 ?k11 ?a12 ?l12 ?c12 ?k12 ?a13 ?l13 ?c13 ?k13 ?a14 ?l14 ?c14 ?k14 ?a15 ?l15 ?c15 ?k15 ?a16 ?l16 ?c16 ?k16 ?a17 ?l17 ?c17 ?k17 ?a18 ?l18 ?c18 ?k18 ?a19 ?l19 ?c19 ?k19 ?a20 ?l20 ?c20 ?k20 ?a21 ?l21 ?c21 ?k21 ?a22 ?l22 ?c22 ?k22 ?a23 ?l23 ?c23 ?k23 ?a24 ?l24 ?c24 ?k24 ?a25 ?l25 ?c25 ?k25 ?a26 ?l26 ?c26 ?k26 ?a27 ?l27 ?c27 ?k27 ?a28 ?l28 ?c28 ?k28 ?a29 ?l29 ?c29 ?k29 ?a30 ?l30 ?c30 ?k30 ?a31 ?l31 ?c31 ?k31 ?a32 ?l32 ?c32 ?k32 ?a33 ?l33 ?c33 ?k33 ?zint ?zbool ?zstr ?zlist ?ztuple ?zdict ?zisinstance ?zlen ?zabs ?zrepr ?zrange ?zall ?zany ?zsum ?zmin ?zmax ?zsorted ?zzip ?zenumerate ?zreversed ?zdivmod ?zset  
  all_goals (try change _=_)
  (case a1=>k_is);(case l1=>k_is);(case c1=>k_is);(case k1=>k_is)
  (case a2=>k_is);(case l2=>k_is);(case c2=>k_is);(case k2=>k_is)
  (case a3=>k_is);(case l3=>k_is);(case c3=>k_is);(case k3=>k_is)
  (case a4=>k_is);(case l4=>k_is);(case c4=>k_is);(case k4=>k_is)
  (case a5=>k_is);(case l5=>k_is);(case c5=>k_is);(case k5=>k_is)
  (case a6=>k_is);(case l6=>k_is);(case c6=>k_is);(case k6=>k_is)
  (case a7=>k_is);(case l7=>k_is);(case c7=>k_is);(case k7=>k_is)
  (case a8=>k_is);(case l8=>k_is);(case c8=>k_is);(case k8=>k_is)
  (case a9=>k_is);(case l9=>k_is);(case c9=>k_is);(case k9=>k_is)
  (case a10=>k_is);(case l10=>k_is);(case c10=>k_is);(case k10=>k_is)
  (case a11=>k_is);(case l11=>k_is);(case c11=>k_is);(case k11=>k_is)
  (case a12=>k_is);(case l12=>k_is);(case c12=>k_is);(case k12=>k_is)
  (case a13=>k_is);(case l13=>k_is);(case c13=>k_is);(case k13=>k_is)
  (case a14=>k_is);(case l14=>k_is);(case c14=>k_is);(case k14=>k_is)
  (case a15=>k_is);(case l15=>k_is);(case c15=>k_is);(case k15=>k_is)
  (case a16=>k_is);(case l16=>k_is);(case c16=>k_is);(case k16=>k_is)
  (case a17=>k_is);(case l17=>k_is);(case c17=>k_is);(case k17=>k_is)
  (case a18=>k_is);(case l18=>k_is);(case c18=>k_is);(case k18=>k_is)
  (case a19=>k_is);(case l19=>k_is);(case c19=>k_is);(case k19=>k_is)
  (case a20=>k_is);(case l20=>k_is);(case c20=>k_is);(case k20=>k_is)
  (case a21=>k_is);(case l21=>k_is);(case c21=>k_is);(case k21=>k_is)
  (case a22=>k_is);(case l22=>k_is);(case c22=>k_is);(case k22=>k_is)
  (case a23=>k_is);(case l23=>k_is);(case c23=>k_is);(case k23=>k_is)
  (case a24=>k_is);(case l24=>k_is);(case c24=>k_is);(case k24=>k_is)
  (case a25=>k_is);(case l25=>k_is);(case c25=>k_is);(case k25=>k_is)
  (case a26=>k_is);(case l26=>k_is);(case c26=>k_is);(case k26=>k_is)
  (case a27=>k_is);(case l27=>k_is);(case c27=>k_is);(case k27=>k_is)
  (case a28=>k_is);(case l28=>k_is);(case c28=>k_is);(case k28=>k_is)
  (case a29=>k_is);(case l29=>k_is);(case c29=>k_is);(case k29=>k_is)
  (case a30=>k_is);(case l30=>k_is);(case c30=>k_is);(case k30=>k_is)
  (case a31=>k_is);(case l31=>k_is);(case c31=>k_is);(case k31=>k_is)
  (case a32=>k_is);(case l32=>k_is);(case c32=>k_is);(case k32=>k_is)
  (case a33=>k_is);(case l33=>k_is);(case c33=>k_is);(case k33=>k_is)
  (case zint=>k_is)
  (case zbool=>k_is)
  (case zstr=>k_is)
  (case zlist=>k_is)
  (case ztuple=>k_is)
  (case zdict=>k_is)
  (case zisinstance=>k_is)
  (case zlen=>k_is)
  (case zabs=>k_is)
  (case zrepr=>k_is)
  (case zrange=>k_is)
  (case zall=>k_is)
  (case zany=>k_is)
  (case zsum=>k_is)
  (case zmin=>k_is)
  (case zmax=>k_is)
  (case zsorted=>k_is)
  (case zzip=>k_is)
  (case zenumerate=>k_is)
  (case zreversed=>k_is)
  (case zdivmod=>k_is)
  (case zset=>k_is)
