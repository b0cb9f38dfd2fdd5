import PyProof.Rows.All
import Wide.All
import OpenK.AllK
import Wide.FinOn
import Lean
import PyProof.EqAt
import PyProof.EqKinds
import PyProof.TupleCall
import KE.KDictSum
import KE.KMinKey
import PyProof.Rows.CallKwBuiltin
import PyProof.SumWalkG
import PyProof.WalksMore
import PyProof.AutoSeq1
import KE.KTabLook
import PySem.Challenge.RW_evenpoints_k33_papers_for_fewer_boxes
set_option Elab.async false
set_option linter.all false
set_option maxRecDepth 100000
set_option maxHeartbeats 4000000
open And renaming intro->Hz, imp_right->HA
open Array renaming all_eq_true_iff_forall_mem->KZ, length_toList->Lh, mk->MA
open Bool renaming and_eq_true_iff->Ib, false_ne_true->Iu, or_eq_true_iff->Jh, false_eq_true->Jz, and_eq_true->Kh, eq_iff_iff->Kn, not_false->Ms, not_true->MN
open Classical renaming choose_spec->Ik, choose->L5
open Exists renaming imp->HD
open False renaming elim->Jm
open ForInStep renaming yield->Lk
open Iff renaming rfl->MT
open Int renaming natAbs_natCast->Iq, natCast_inj->Ir, fmod_nonneg_of_pos->Jn, gcd->Ju, eq_ofNat_of_zero_le->JA, toNat->JK, toNat_natCast->JS, fmod_lt_of_pos->J0, natAbs_mul->J4, natCast_mul->KU, fdiv_eq_ediv_of_nonneg->Lw, fmod_add_mul_fdiv->Mg, ofNat_inj->MP
open List renaming length_map->HM, replicate->HR, size_toArray->HU, lookup_cons->HX, getElem?_set_ne->HY, getElem?_eq_getElem->HZ, getElem?_eq_some_iff->H0, getElem?_set_self->Ia, mem_cons_of_mem->Ic, getD_eq_getElem?_getD->Ig, length_append->Ij, mem_cons_self->Iw, getElem?_map->Ix, mem_cons->IC, length_take->IJ, mem_append_right->IK, mem_map->IM, replicate_succ->IP, map_append->IS, Nodup->IT, map_cons->IW, getElem?_set->Ja, map_map->Jd, take_of_length_le->Je, range->Jj, mem_singleton->Jl, mem_or_eq_of_mem_set->Jp, all_eq_true->Jq, getElem_mem->Jr, mem_append->Jw, of_mem_zip->Jx, find?_cons->Jy, not_mem_nil->JC, take_succ_eq_append_getElem->JD, flatten_cons->JH, length_replicate->JJ, map_inj_right->JN, length_cons->JP, mem_of_getElem?->JQ, length_drop->JX, length_singleton->JZ, mem_of_mem_take->J5, append_nil->J9, nodup_cons->J_, foldl_cons->Kb, nil_append->Ko, length_filter_le->Kr, append_assoc->Kt, getElem?_append_left->Kz, cons_append->KB, filterMap_cons->KE, length_pos_iff->KF, eq_of_mem_replicate->KM, mem_filter->KO, set_eq_take_append_cons_drop->KY, drop_of_length_le->K3, foldl->K5, mem_range->K6, map_nil->K7, countP_cons->La, countP_eq_length_filter->Ld, forIn_cons->Ll, getElem_of_mem->Lo, map_congr_left->Lp, getElem?_append_right->Ls, set_cons_zero->Lz, set_cons_succ->LA, drop_eq_getElem_cons->LG, getElem?_replicate->LS, drop_length->L4, getElem_cons_zero->L7, getElem_cons_succ->L8, length_nil->Md, all_map->Mh, length_zip->Mk, mem_append_left->Mp, mem_of_mem_drop->Mq, foldl_nil->Mt, any_cons->MM, map_take->MO, map_set->MY, getD->M7, map_id->Nc, take->Nd
open List.cons renaming injEq->Il
open Nat renaming lt_of_lt_of_le->HJ, pow_le_pow_right->HP, le_refl->HS, zero_le->Ip, ne_of_lt->Iz, lt_irrefl->Jf, le_trans->JI, not_lt_zero->JL, lt_of_le_of_lt->Kl, ne_of_gt->Km, le_of_succ_le->Kv, le_add_right->KC, min_eq_right->L3, min_eq_left->Mi, mul_ne_zero->Mj, le_of_lt->MU, pow_succ->MX
open Nat.succ renaming inj->K8
open Ne renaming symm->Mw
open Option renaming isSome_iff_exists->Ka, map_eq_some_iff->K0
open Option.some renaming inj->Ii
open Or renaming inr->Jg, inl->JM
open Prod.mk renaming injEq->LP
open PyProof.Rows renaming slot_tuple_getitem->ID, callWith_type1->JV, assignInOrder_cons->Lx, tupleItemsOf_->LV, subscriptTail_builtinR->L6, envOfC->Mb, AllBare->Mv, subscriptTail->ML, IsTup->Nf, IntsAre->Nj
open PySem renaming PyData->Hy, wpAny_bind->HB, Value->HE, Shared->HH, starEach->HL, wpAny_pure->HQ, sizeLine_eq->HV, Program->Ie, wpAny->Im, mainGlobals->Iv, model->IH, World->II, wpAny_callSpecial?_slot->IL, wpAny_field->IR, wpAny_setField_rec->IU, mem_of_lookup->IV, Paired->I0, Around->Jb, wpAny_newObj_type->Jk, compareOp->Js, backTo->Jv, cellsFrom->JE, wpAny_truthy_bool->JF, foldedSetIterable->JG, wpAny_call_entry->JO, swapsWith->JU, wpAny_mono->JW, strKind->J1, wpAny_seqItems->J3, importedModules->J6, wpAny_passesOwn->J8, bootBuiltins->Kc, binaryOp->Ke, FuncData->Kf, assignEach->Ki, wpAny_pyIter_list->Ks, sysModules->KH, behindInMarks->KP, NameKind->KQ, argBest->KW, sliceBounds->K4, wpAny_updateSeq_pair->Lb, attributeBase->Lc, wpAny_rule->Lf, call_meets->Lg, wpAny_execs_nil->Li, letOwnedTupleGo->Lj, IsPair->Ln, wpAny_Call_Name_kw->Ly, Keyword->LB, wpAny_binaryOp_repeat_ref->LC, newFunctionEnv->LF, wpAny_sequenceKey->LL, wpAny_comprehension_free->LO, swapsWithSole->LQ, swappedStores->LR, getItem->LU, keywordEach->LW, wpAny_onRaise->LY, wpAny_attempt->LZ, noFill_tuple_add->L1, codeAny->L_, codeAny_mono->Ma, wpAny_typeOf->Mc, valueAt->Me, typeIs_int->Mm, intBits_le_iff->Mr, subscripted->Mx, wpAny_letGo->Mz, tupleKind->MD, assign->ME, assignInOrder->MF, wpAny_standAt->MG, PassesOwn->MH, cLine->MI, seq_tuple_add->MJ, IsPart->MK, builtinsNs->MQ, callerA->MR, IsZip->MS, concat_meets->MV, backToKw->M1, treeTable->M3, rawInt->M4, BindsTo->M5, pushCells->M6, wpAny_of_eq->M8, field->M9, IsEnum->Na, Params->Ng, pyNext->Nh, CmpOp->Nl, atKey->Nm
open PySem.AutoSeq1 renaming wpAny_loadPart'->KL
open PySem.Builtin.List renaming listFitsIndex->Kx, listTooLong->KJ
open PySem.Builtin.Slice renaming slicePlaces->J2, sliceAdjust->KA, sliceApplied->Lu
open PySem.Builtin.SmallTypes renaming nextOf->Iy, ownedTupleIsFree->IF, ownedTupleHandOut->Jo
open PySem.Builtin.Tuple renaming tupleExact->Jt, tupleIsExact->Ky, tupleItemsOf->Lv
open PySem.Calls renaming Name_function_global->Lr
open PySem.F renaming args_tuple_add_2->KI, entry_tuple_add->KR, slot_tuple_add->K1, slot_dict_getitem->LD, slot_list_append->LM, type_list_append->LN, plainAttrs_list->LX
open PySem.Heap renaming get?_push_of_some->HK, lt_size->HN, get?_push_size->HW, size_push->Ji, SameBut->JY
open PySem.Heap.SameBut renaming update->My
open PySem.NameKind renaming free->IQ, cell->JR
open PySem.Paired renaming length->KN
open PySem.PassesOwn renaming never->I_
open PySem.PyData renaming eqv->HC, canLayAll0->Ih, int->Io, depthAll->IE, canLay0->IG, tuple->Jc, depth->JB, bool->Kg, leavesShort->KS, showable->Lm, bulk->Lq, leavesShortAll->Mf, str->Mn, bulkAll->Mu, strOk->MW
open PySem.PyData.int renaming injEq->K9
open PySem.PyData.list renaming injEq->Kw
open PySem.PyData.str renaming injEq->K_
open PySem.PyData.tuple renaming injEq->IB
open PySem.SeqAt renaming shaped->HI, canLay_of_shaped->Kk
open PySem.Shared renaming heap->M_
open PySem.Str renaming ofString->Hw
open PySem.Value renaming ref->J7, none->KG, bool->LJ, int->MB, str->MC
open PySem.W renaming codeIn->HF, keepIn->HG, mg_none_of->H_, boot_heap->IZ, Frag->Kd, boot_drawn->LI, boot_toks->L9, OpenLaw->Ml, nsIn->MZ, fnOf->M0, SharedT->M2, OpenLaw->Ni
open Rat renaming le_trans->IN, not_lt->Kj, div_def->Kp, le_of_lt->Kq, mul_nonneg->LH, normalize->L0, le_refl->Nb
open Sum renaming inr->IA, inl->JT
open True renaming intro->Ku
open PySem PySem.Spec PyProof.Rows
variable{loose N:List Str}{α:Type}{m t' i j n:Nat}{xs xs':List Hy}{us:List HE}{a b it r:Addr}{P:Ie}{w:II}{h h':Heap}{x qual:Str}{A:Jb}{E Q:HE->HH->Prop}{u:HE}{s:HH}{pos px:Pos}{pins:List (Addr×Obj)}{tg iter:Expr}{fp:List Addr}{f:Fin 3}{op:Nl}{fd:Kf}{ps:List (List Rat)}{mg:Str->Option HE}{scope:Scope}{XP:(Str->Option HE)->Heap->Prop}{d:Hy}{n':Nat×List Int}{xss:List (List Hy)}{q:Rat}{D:List (Str×Option Str)}
noncomputable section
namespace L2
open PySem
noncomputable def pe(s:Stmt)(j:Nat):Stmt:=match s with
 | .ClassDef _ _ _ body _ _ _ _ _ _ _=>body.getD j (.Pass ⟨0,0,0,0⟩)
 | _=>.Pass ⟨0,0,0,0⟩
noncomputable def defArgs(s:Stmt):Arguments:=match s with
 | .FunctionDef _ a _ _ _ _ _ _ _ _=>a
 | _=>{posonlyargs:=[],args:=[],vararg:=none,kwonlyargs:=[],kw_defaults:=[],kwarg:=none,defaults:=[]}
noncomputable def defBody(s:Stmt):List Stmt:=match s with
 | .FunctionDef _ _ b _ _ _ _ _ _ _=>b
 | _=>[]
noncomputable def defScope(s:Stmt):Scope:=match s with
 | .FunctionDef _ _ _ _ _ _ sc _ _ _=>sc
 | _=>{kind:=.function,names:=[],isGenerator:=false,isCoroutine:=false}
end L2
namespace L2.TT
open PySem PySem.W
noncomputable def FQ(tb:String->Option Builtin)(p:Ie)(w:II)(m:Nat)(ann:Option HE):Nat->M2->Thread->Option M2
 | 0,_,_=>none
 | n+1,s,t=>match through t with
   | true=>some s
   | false=>match stepOk m ann t with
     | false=>none
     | true=>match stepT (denote tb) p w s t with
       | some r=>FQ tb p w m ann n r.1 r.2
       | none=>none
theorem tf{tb:String->Option Builtin}{p:Ie}{w:II}{m:Nat}{ann:Option HE}:∀{n:Nat}{s s':M2}{t:Thread},FQ tb p w m ann n s t=some s'->topRun tb p w m ann n s.abs t=some s'.abs
 | 0,_,_,_,h=>by cases h
 | n+1,s,s',t,h=>by
   unfold FQ at h
   unfold topRun
   cases he:through t with
   | true=>rw[he]at h;cases h;rfl
   | false =>
     rw[he]at h
     cases hk:stepOk m ann t with
     | false=>rw[hk]at h;cases h
     | true =>
       rw[hk]at h
       cases hs:stepT (denote tb) p w s t with
       | none=>rw[hs]at h;cases h
       | some r=>rw[hs]at h;rw[stepT_spec hs];exact tf h
noncomputable def bt(os:List Obj):Nat->Nat->Nat->BT
 | 0,_,_=>.nil
 | f+1,a,b=>match os[b]? with
   | some o=>.node o (bt os f (2*a) (a+b)) (bt os f (2*a) (2*a+b))
   | none=>.nil
theorem boot_abs(P:Ng):absHeap (bt (IZ P).objs.toList 12 1 0) (IZ P).objs.size (IZ P).life=IZ P:=by kernel_rfl
abbrev u7(p q:Ie)(loose:List Str)(Xt:HH->Bool){α:Type}(Yf:HH->α)(h₀:Heap)(s:HH) :=
 (staticsOk (J6 p.main.body) h₀ s.heap&&namesBound p s.heap&&gensDone s&&laidKept h₀ s.heap,openSeen q loose (J6 p.main.body) Xt true s,Yf s)
theorem left_of{p q:Ie}{Xt:HH->Bool}{Yf:HH->α}{Ya:II->α}{N M:Nat}{ann:Option HE}
 (e:opening p=plainProg p.main.scope.names)(hN:Nat.ble 600 N=true)(f:∀s,fenceModules? p s=some s)(le:Nat.ble M N=true)
 (size:∀w:II,((IZ w.params).isNs Iv,(IZ w.params).objs.size,(IZ w.params).nsMap Iv "__annotations__")=(true,m,ann))
 (run:∀(w:II)(os:OsState),(FQ M3 p w m ann M ⟨bt (IZ w.params).objs.toList 12 1 0,(IZ w.params).objs.size,(IZ w.params).life,MA [],LI,L9,os⟩ (topStub p)).map (fun s=>u7 p q loose Xt Yf (IZ w.params) s.abs)=some (true,openGood q loose,Ya w)) :
 LeftO p q loose Xt Yf Ya N:=fun w=>by
 obtain⟨⟨h,gs,d,k,os⟩,eo,e'⟩:=K0.mp (boot_open e hN f w)
 obtain⟨rfl,rfl,rfl,rfl⟩:h=IZ w.params/\gs=MA []/\d=LI/\k=L9:=by simpa using e'
 obtain⟨z1,z2,z3⟩:_/\_/\_:=by simpa only[LP]using size w
 obtain⟨s',r,l⟩:=K0.mp (run w os)
 obtain⟨l1,l2,l3⟩:_/\_/\_:=by simpa only[u7,LP]using l
 have r:=tf r
 have hb:M2.abs ⟨bt (IZ w.params).objs.toList 12 1 0,(IZ w.params).objs.size,(IZ w.params).life,MA [],LI,L9,os⟩=⟨IZ w.params,MA [],LI,L9,os⟩:=by
  show HH.mk (absHeap _ _ _) _ _ _ _=_
  rw[boot_abs]
 rw[hb]at r
 have r:=topRun_mono (N-M) _ _ _ _ r
 rw[show M+(N-M)=N by have:=Nat.le_of_ble_eq_true le;omega]at r
 have t:topFrom M3 p w N ⟨IZ w.params,MA [],LI,L9,os⟩=some s'.abs:=by
  unfold topFrom
  dsimp only
  rw[z1,z2,z3,r]
  show(match staticsOk (J6 p.main.body) (IZ w.params) s'.abs.heap&&namesBound p s'.abs.heap&&gensDone s'.abs&&laidKept (IZ w.params) s'.abs.heap with|true=>_|false=>_)=_
  rw[l1]
 unfold openEnds
 rw[eo]
 show(topFrom M3 p w N _).map _=_
 rw[t]
 exact congrArg some (Prod.ext l2 l3)
open PySem PySem.W PySem.Calls PyProof.Rows
noncomputable abbrev runOf(p:Ie)(m:Nat)(ann:Option HE)(M:Nat)(w:II)(os:OsState):Option M2:=FQ M3 p w m ann M ⟨bt (IZ w.params).objs.toList 12 1 0,(IZ w.params).objs.size,(IZ w.params).life,MA [],LI,L9,os⟩ (topStub p)
section
variable(p q:Ie)(loose:List Str)
abbrev seen1{α:Type}(Yf:HH->α)(h₀:Heap)(s:HH):=(staticsOk (J6 p.main.body) h₀ s.heap&&namesBound p s.heap&&gensDone s&&laidKept h₀ s.heap,s.heap.bltView,clsSeenW q loose s,Yf s)
abbrev good1{α:Type}(Y:α):=(true,bltViewBooted,clsGoodW q loose,Y)
abbrev seen5(s:HH):=(tabsOk q s,pinSeenD q (drecsOf q) s)
abbrev good5:=(true,pinGoodD (drecsOf q))
abbrev seen6(s:HH):=(plainSeenE q (looseW q loose) s,plainSeenD q loose s)
abbrev good6:=(plainGoodE q (looseW q loose),plainGoodD q loose)
abbrev seen2(s:HH):=seen ((recsOf q).map (·.name)) (ownsOf q) [] {s with gens:=#[]}
abbrev seen3(Xt:HH->Bool)(s:HH):=s.heap.keysOk (looseW q loose) ((recsOf q).map (·.name)) ((litsOf q).map (·.1)) ((clssOf q (looseW q loose)).map (·.name))&&s.heap.accountedOkI (J6 p.main.body)&&s.heap.isNs Iv&&s.heap.isNs MQ&&tablesOk q s.heap&&Xt s&&(if true then s.gens.size==0 else !leftWithCleanup s.gens)
theorem run6{p q:Ie}{loose:List Str}{Xt:HH->Bool}{Yf:HH->α}{Y:α}{h₀:Heap}{o:Option M2}(g1:o.map (fun s=>seen1 p q loose Yf h₀ s.abs)=some (good1 q loose Y))(g2:o.map (fun s=>seen2 q s.abs)=some (expectedOf q))
 (g3:o.map (fun s=>seen3 p q loose Xt s.abs)=some true)(g4:o.map (fun s=>wideSeen q s.abs)=some (wideGood q))(g5:o.map (fun s=>seen5 q s.abs)=some (good5 q))(g6:o.map (fun s=>seen6 q loose s.abs)=some (good6 q loose)) :
 o.map (fun s=>u7 p q loose Xt Yf h₀ s.abs)=some (true,openGood q loose,Y):=by
 cases o with
 | none=>cases g2
 | some s =>
   have g1:=Ii g1
   have g2:=Ii g2
   have g3:=Ii g3
   have g4:=Ii g4
   have g5:=Ii g5
   have g6:=Ii g6
   simp only[LP]at g1 g5 g6
   obtain⟨a1,a2,a3,a4⟩:=g1
   obtain⟨a5,a6⟩:=g5
   obtain⟨a7,a8⟩:=g6
   have e:openSeen q loose (J6 p.main.body) Xt true s.abs=(seen2 q s.abs,s.abs.heap.bltView,seen3 p q loose Xt s.abs,tabsOk q s.abs,pinSeenD q (drecsOf q) s.abs,plainSeenE q (looseW q loose) s.abs,plainSeenD q loose s.abs,wideSeen q s.abs,clsSeenW q loose s.abs):=rfl
   show some (_,openSeen q loose (J6 p.main.body) Xt true s.abs,_)=_
   dsimp only at g2 g3 g4
   rw[e,a1,a2,a3,a4,a5,a6,a7,a8,g2,g3,g4]
   rfl
theorem tri{σ β γ:Type}{o:Option σ}{a:σ->α}{b:σ->β}{c:σ->γ}{x:α}{y:β}{z:γ}(h:o.map (fun s=>(a s,b s,c s))=some (x,y,z)):o.map a=some x/\o.map b=some y/\o.map c=some z:=by
 cases o with
 | none=>cases h
 | some s =>
   have h:=Ii h
   simp only[LP]at h
   obtain⟨h1,h2,h3⟩:=h
   exact⟨congrArg some h1,congrArg some h2,congrArg some h3⟩
end
end L2.TT
namespace K33
open PySem
def Ed(i:Nat):Stmt:=PySem.Challenge.pw_evenpoints_k33_papers_for_fewer_boxes.main.body.getD i (.Pass ⟨0,0,0,0⟩)
end K33
noncomputable def PySem.W.Fast.tw1532146896418382987:PySem.Program:=PySem.Challenge.pw_evenpoints_k33_papers_for_fewer_boxes
theorem PySem.W.Fast.te1532146896418382987:PySem.Challenge.pw_evenpoints_k33_papers_for_fewer_boxes=PySem.W.Fast.tw1532146896418382987:=rfl
namespace K33
open PySem PySem.W L2
def Dt:Stmt:=Ed 0
def Ds:Stmt:=Ed 1
def Dr:Stmt:=Ed 2
def Dq:Stmt:=Ed 3
def Dp:Stmt:=Ed 4
def Do:Stmt:=Ed 5
def Dn:Stmt:=Ed 6
def Dl:Stmt:=Ed 7
def Dk:Stmt:=Ed 8
def Dj:Stmt:=Ed 9
def B6:Stmt:=Ed 10
def B5:Stmt:=Ed 11
def B4:Stmt:=Ed 12
def B3:Stmt:=Ed 13
def B0:Stmt:=Ed 14
def BZ:Stmt:=Ed 15
def BY:Stmt:=Ed 16
def BX:Stmt:=Ed 17
def BW:Stmt:=Ed 18
def CB:Stmt:=Ed 19
def BV:Stmt:=Ed 20
def BU:Stmt:=Ed 21
def BS:Stmt:=Ed 22
def BR:Stmt:=Ed 23
def BQ:Stmt:=Ed 24
def BP:Stmt:=Ed 25
def CA:Stmt:=Ed 26
def BO:Stmt:=Ed 27
def BN:Stmt:=Ed 28
def BM:Stmt:=Ed 29
def BL:Stmt:=Ed 30
def BK:Stmt:=Ed 31
def BJ:Stmt:=Ed 32
def BI:Stmt:=Ed 33
def BH:Stmt:=Ed 34
def BG:Stmt:=Ed 35
def BF:Stmt:=Ed 36
def Cz:Stmt:=Ed 37
def BE:Stmt:=Ed 38
def Cy:Stmt:=Ed 39
def BD:Stmt:=Ed 40
def BC:Stmt:=Ed 41
def BB:Stmt:=Ed 42
def BA:Stmt:=Ed 43
def By:Stmt:=Ed 44
def Bx:Stmt:=Ed 45
def Bw:Stmt:=Ed 46
def Cw:Stmt:=Ed 47
def Bv:Stmt:=Ed 48
def Bu:Stmt:=Ed 49
def Cv:Stmt:=Ed 50
def Bt:Stmt:=Ed 51
def Bs:Stmt:=Ed 52
def Br:Stmt:=Ed 53
def Bq:Stmt:=Ed 54
def Bp:Stmt:=Ed 55
def Bo:Stmt:=Ed 56
def Bn:Stmt:=Ed 57
def Bm:Stmt:=Ed 58
def Bl:Stmt:=Ed 59
def Bk:Stmt:=Ed 60
def Bj:Stmt:=Ed 61
def Bi:Stmt:=Ed 62
def Bh:Stmt:=Ed 63
def Bg:Stmt:=Ed 64
def Bf:Stmt:=Ed 65
def Be:Stmt:=Ed 66
def Bd:Stmt:=Ed 67
def Bc:Stmt:=Ed 68
def Bb:Stmt:=Ed 69
def Ba:Stmt:=Ed 70
def A_:Stmt:=Ed 71
def A9:Stmt:=Ed 72
def A8:Stmt:=Ed 73
def A7:Stmt:=Ed 74
def A6:Stmt:=Ed 75
def A5:Stmt:=Ed 76
def ER:Ie:={PySem.Challenge.pw_evenpoints_k33_papers_for_fewer_boxes with main:={PySem.Challenge.pw_evenpoints_k33_papers_for_fewer_boxes.main with body:=[Dt,Ds,Dr,Dq,Dp,Do,Dn,Dl,Dk,Dj,B6,B5,B4,B3,B0,BZ,BY,BX,BW,CB,BV,BU,BS,BR,BQ,BP,CA,BO,BN,BM,BL,BK,BJ,BI,BH,BG,BF,Cz,BE,Cy,BD,BC,BB,BA,By,Bx,Bw,Cw,Bv,Bu,Cv,Bt,Bs,Br,Bq,Bp,Bo,Bn,Bm,Bl,Bk,Bj,Bi,Bh,Bg,Bf,Be,Bd,Bc,Bb,Ba,A_,A9,A8,A7,A6,A5]}}
def rwN:Ni:={PySem.Challenge.rw_evenpoints_k33_papers_for_fewer_boxes with prog:=ER}
noncomputable def zview:Ie:={PySem.Challenge.pw_evenpoints_k33_papers_for_fewer_boxes with main:={PySem.Challenge.pw_evenpoints_k33_papers_for_fewer_boxes.main with body:=[Ds,Dr,Dq,Do,Dn,Dl,Dk,Dj,B6,B5,B4,B3,B0,BZ,BY,BX,BW,BV,BU,BS,BR,BQ,BP,BO,BN,BM,BL,BK,BJ,BI,BH,BG,BF,BE,BD,BC,BB,BA,By,Bx,Bw,Bv,Bu,Bt,Bs,Br,Bq,Bp,Bo,Bn,Bm,Bl,Bk,Bj,Bi,Bh,Bg,Bf,Be,Bd,Bc,Bb,Ba,A_,A9,A8,A7,A6,A5]}}
theorem rw_eq:PySem.Challenge.rw_evenpoints_k33_papers_for_fewer_boxes=rwN:=rfl
noncomputable def DI(P:Ng)(x:Str)(t:Nat)(v:HE):DictEntry:=⟨Hy.keyHash P x,.str x t,v⟩
noncomputable def DH(n q:Str)(s:Stmt)(pm cd:HE):Obj:=⟨.type "function", none,.func (fnOf n q (defArgs s) (defBody s) (defScope s) .none .none .none pm none cd .none),#[]⟩
noncomputable def DK(n q:Str)(a b c:Nat)(l x y:Int)(r:Nat)(z:Int)(r2:Nat)(v1 v2 v3:HE)(r3:Nat)(u:Int)(c2:Nat):Obj:=⟨.type "code", none,.fields #[.str n a,.str q b,.str "/claim/cut.py" c,.int l 0,.int x 0,.int 0 0,.int 0 0,.int y 0,.ref r,.bool true,.int z 0,.ref r2,v1,v2,v3,.ref r3,.int u 0,.int l 0,.str "/claim/cut.py" c2],#[]⟩
noncomputable def DF:HE:=.str "evenpoints.errors" 187
noncomputable def DE:HE:=.str "evenpoints.fractions" 259
noncomputable def DC:HE:=.str "evenpoints.boxes" 365
noncomputable def DB:HE:=.str "evenpoints.cells" 414
noncomputable def DA:HE:=.str "evenpoints.points" 505
noncomputable def Dz:HE:=.str "evenpoints.evenchecker" 514
noncomputable def Dy:HE:=.str "evenpoints.evenpapers" 579
noncomputable def Dx:HE:=.str "law_evenpoints_k33_papers_for_fewer_boxes" 600
abbrev DG(n:Str):=DH n n
abbrev DJ(n:Str):=DK n n
noncomputable def heapK(P:Ng):Frag :=
 (nat_lit 2,(.mk .none none (.dict #[] 0) #[])) ::
 (nat_lit 3,(.mk (.type "dict") none (.dict #[DI P "__name__" 165 (.str "law_evenpoints_k33_papers_for_fewer_boxes" 600),DI P "__doc__" 166 .none,DI P "__package__" 167 .none,DI P "__loader__" 168 (.builtin "__main__.__loader__#opaque"),DI P "__spec__" 169 .none,DI P "__annotations__" 170 (.ref 6),DI P "__builtins__" 171 (.ref 4),DI P "__file__" 173 (.str "/claim/cut.py" 172),DI P "__cached__" 174 .none,DI P "EvenError" 206 (.ref 24),DI P "Nought" 231 (.ref 44),DI P "NoPaper" 258 (.ref 63),DI P "ZERO" 263 (.ref 66),DI P "ONE" 266 (.ref 67),DI P "is_whole" 273 (.ref 74),DI P "is_place" 281 (.ref 81),DI P "common_divisor" 289 (.ref 88),DI P "is_fraction" 298 (.ref 95),DI P "fraction" 307 (.ref 102),DI P "plus" 315 (.ref 109),DI P "less" 323 (.ref 116),DI P "times" 331 (.ref 123),DI P "product_of" 340 (.ref 130),DI P "is_below" 348 (.ref 137),DI P "lesser" 356 (.ref 144),DI P "greater" 364 (.ref 151),DI P "side_size" 375 (.ref 158),DI P "size_of" 381 (.ref 163),DI P "goes_ahead" 390 (.ref 170),DI P "lies" 401 (.ref 177),DI P "lies_in" 407 (.ref 182),DI P "inside" 413 (.ref 187),DI P "WIDEST" 421 (.ref 190),DI P "FIRST_WORDS" 430 (.ref 191),DI P "least_side" 438 (.ref 198),DI P "most_side" 446 (.ref 205),DI P "cell_told" 452 (.ref 210),DI P "first_cell" 461 (.ref 217),DI P "exchanged_side" 470 (.ref 224),DI P "worded" 479 (.ref 231),DI P "ranged" 491 (.ref 238),DI P "cells_below" 504 (.ref 245),DI P "sides_of" 513 (.ref 252),DI P "DEEPEST" 517 (.int 36 516),DI P "is_node" 527 (.ref 259),DI P "is_within" 535 (.ref 266),DI P "leaf_fault" 541 (.ref 271),DI P "node_fault" 553 (.ref 278),DI P "walk" 568 (.ref 285),DI P "lets_even" 578 (.ref 292),DI P "even_inner" 586 (.ref 297),DI P "even_corner" 599 (.ref 304),DI P "_law_feed" 608 (.ref 311),DI P "_law_draw" 620 (.ref 318),DI P "_law_frac" 630 (.ref 325),DI P "_law_cmp" 640 (.ref 332),DI P "_law_number" 653 (.ref 339),DI P "_law_points" 659 (.ref 344),DI P "_law_side_size" 665 (.ref 349),DI P "_law_side_told" 680 (.ref 356),DI P "_law_ends" 692 (.ref 363),DI P "_law_product" 700 (.ref 370),DI P "_law_cell_told" 706 (.ref 375),DI P "_law_first" 716 (.ref 382),DI P "_law_behind" 732 (.ref 389),DI P "_law_needs" 745 (.ref 396),DI P "_law_need" 751 (.ref 401),DI P "_law_cuts" 757 (.ref 406),DI P "_law_tree" 763 (.ref 411),DI P "_law_is_frac" 769 (.ref 416),DI P "_law_below" 777 (.ref 423),DI P "_law_kind" 787 (.ref 430),DI P "_law_word" 793 (.ref 435),DI P "_law_fault" 808 (.ref 442),DI P "_law_due" 819 (.ref 449),DI P "_law_tree_world" 832 (.ref 456),DI P "_law_right" 842 (.ref 463),DI P "law" 860 (.ref 470)] 78) #[])) ::
 (nat_lit 6,(.mk (.type "dict") none (.dict #[] 0) #[])) ::
 (nat_lit 15,(.mk (.type "tuple") none (.seq #[(.type "ValueError")] 0) #[])) ::
 (nat_lit 22,(.mk (.type "tuple") none (.seq #[] 0) #[])) ::
 (nat_lit 23,(.mk (.type "dict") none (.dict #[DI P "__module__" 196 (.str "evenpoints.errors" 187),DI P "__firstlineno__" 200 (.int 2 199),DI P "__static_attributes__" 201 (.ref 22),DI P "__weakref__" 203 (.ref 25),DI P "__doc__" 204 .none] 3) #[])) ::
 (nat_lit 24,(.mk (.type "type") none (.cls (.mk "EvenError" [(.type "ValueError")] [(.ref 24),(.type "ValueError"),(.type "Exception"),(.type "BaseException"),(.type "object")] 23 "EvenError" true [] [(.ref 44),(.ref 63)] false none false)) #[(some (.ref 15)),none,(some (.str "EvenError" 189)),(some (.str "EvenError" 197)),(some (.builtin "ValueError.__new__")),(some (.bool true))])) ::
 (nat_lit 25,(.mk (.type "getset_descriptor") none (.fields #[(.str "__weakref__" 202),(.ref 24),(.builtin "ExceptionGroup.__weakref__"),.none]) #[])) ::
 (nat_lit 28,(.mk (.type "tuple") none (.seq #[(.ref 24)] 0) #[])) ::
 (nat_lit 40,DK "__init__" "Nought.__init__" 219 220 221 6 2 3 35 181 36 .none (.ref 37) (.ref 38) 39 224 225) ::
 (nat_lit 41,DH "__init__" "Nought.__init__" (pe (Ed 2) 0) DF (.ref 40)) ::
 (nat_lit 42,(.mk (.type "tuple") none (.seq #[(.str "word" 227)] 0) #[])) ::
 (nat_lit 43,(.mk (.type "dict") none (.dict #[DI P "__module__" 214 (.str "evenpoints.errors" 187),DI P "__firstlineno__" 218 (.int 4 217),DI P "__init__" 226 (.ref 41),DI P "__static_attributes__" 228 (.ref 42),DI P "__doc__" 229 .none] 2) #[])) ::
 (nat_lit 44,(.mk (.type "type") none (.cls (.mk "Nought" [(.ref 24)] [(.ref 44),(.ref 24),(.type "ValueError"),(.type "Exception"),(.type "BaseException"),(.type "object")] 43 "Nought" true [] [] false none false)) #[(some (.ref 28)),none,(some (.str "Nought" 207)),(some (.str "Nought" 215)),(some (.builtin "ValueError.__new__")),(some (.bool true))])) ::
 (nat_lit 47,(.mk (.type "tuple") none (.seq #[(.ref 24)] 0) #[])) ::
 (nat_lit 59,DK "__init__" "NoPaper.__init__" 244 245 246 10 3 3 54 181 55 .none (.ref 56) (.ref 57) 58 250 251) ::
 (nat_lit 60,DH "__init__" "NoPaper.__init__" (pe (Ed 3) 0) DF (.ref 59)) ::
 (nat_lit 61,(.mk (.type "tuple") none (.seq #[(.str "path" 253),(.str "word" 254)] 0) #[])) ::
 (nat_lit 62,(.mk (.type "dict") none (.dict #[DI P "__module__" 239 (.str "evenpoints.errors" 187),DI P "__firstlineno__" 243 (.int 8 242),DI P "__init__" 252 (.ref 60),DI P "__static_attributes__" 255 (.ref 61),DI P "__doc__" 256 .none] 2) #[])) ::
 (nat_lit 63,(.mk (.type "type") none (.cls (.mk "NoPaper" [(.ref 24)] [(.ref 63),(.ref 24),(.type "ValueError"),(.type "Exception"),(.type "BaseException"),(.type "object")] 62 "NoPaper" true [] [] false none false)) #[(some (.ref 47)),none,(some (.str "NoPaper" 232)),(some (.str "NoPaper" 240)),(some (.builtin "ValueError.__new__")),(some (.bool true))])) ::
 (nat_lit 66,(.mk (.type "tuple") none (.seq #[(.int 0 261),(.int 1 262)] 0) #[])) ::
 (nat_lit 67,(.mk (.type "tuple") none (.seq #[(.int 1 264),(.int 1 265)] 0) #[])) ::
 (nat_lit 73,DJ "is_whole" 267 268 269 16 1 3 68 181 69 .none (.ref 70) (.ref 71) 72 271 272) ::
 (nat_lit 74,DG "is_whole" (Ed 7) DE (.ref 73)) ::
 (nat_lit 80,DJ "is_place" 274 275 276 18 2 3 75 181 76 .none (.ref 77) (.ref 78) 79 279 280) ::
 (nat_lit 81,DG "is_place" (Ed 8) DE (.ref 80)) ::
 (nat_lit 87,DJ "common_divisor" 282 283 284 20 2 3 82 181 83 .none (.ref 84) (.ref 85) 86 287 288) ::
 (nat_lit 88,DG "common_divisor" (Ed 9) DE (.ref 87)) ::
 (nat_lit 94,DJ "is_fraction" 290 291 292 24 1 3 89 181 90 .none (.ref 91) (.ref 92) 93 296 297) ::
 (nat_lit 95,DG "is_fraction" (Ed 10) DE (.ref 94)) ::
 (nat_lit 101,DJ "fraction" 299 300 301 31 2 3 96 181 97 .none (.ref 98) (.ref 99) 100 305 306) ::
 (nat_lit 102,DG "fraction" (Ed 11) DE (.ref 101)) ::
 (nat_lit 108,DJ "plus" 308 309 310 38 2 3 103 181 104 .none (.ref 105) (.ref 106) 107 313 314) ::
 (nat_lit 109,DG "plus" (Ed 12) DE (.ref 108)) ::
 (nat_lit 115,DJ "less" 316 317 318 40 2 3 110 181 111 .none (.ref 112) (.ref 113) 114 321 322) ::
 (nat_lit 116,DG "less" (Ed 13) DE (.ref 115)) ::
 (nat_lit 122,DJ "times" 324 325 326 42 2 3 117 181 118 .none (.ref 119) (.ref 120) 121 329 330) ::
 (nat_lit 123,DG "times" (Ed 14) DE (.ref 122)) ::
 (nat_lit 129,DJ "product_of" 332 333 334 44 1 3 124 181 125 .none (.ref 126) (.ref 127) 128 338 339) ::
 (nat_lit 130,DG "product_of" (Ed 15) DE (.ref 129)) ::
 (nat_lit 136,DJ "is_below" 341 342 343 49 2 3 131 181 132 .none (.ref 133) (.ref 134) 135 346 347) ::
 (nat_lit 137,DG "is_below" (Ed 16) DE (.ref 136)) ::
 (nat_lit 143,DJ "lesser" 349 350 351 51 2 3 138 181 139 .none (.ref 140) (.ref 141) 142 354 355) ::
 (nat_lit 144,DG "lesser" (Ed 17) DE (.ref 143)) ::
 (nat_lit 150,DJ "greater" 357 358 359 53 2 3 145 181 146 .none (.ref 147) (.ref 148) 149 362 363) ::
 (nat_lit 151,DG "greater" (Ed 18) DE (.ref 150)) ::
 (nat_lit 157,DJ "side_size" 367 368 369 56 1 3 152 181 153 .none (.ref 154) (.ref 155) 156 373 374) ::
 (nat_lit 158,DG "side_size" (Ed 20) DC (.ref 157)) ::
 (nat_lit 162,DJ "size_of" 376 377 378 64 1 3 159 181 160 .none .none .none 161 379 380) ::
 (nat_lit 163,DG "size_of" (Ed 21) DC (.ref 162)) ::
 (nat_lit 169,DJ "goes_ahead" 382 383 384 66 3 3 164 181 165 .none (.ref 166) (.ref 167) 168 388 389) ::
 (nat_lit 170,DG "goes_ahead" (Ed 22) DC (.ref 169)) ::
 (nat_lit 176,DJ "lies" 391 392 393 70 3 3 171 181 172 .none (.ref 173) (.ref 174) 175 399 400) ::
 (nat_lit 177,DG "lies" (Ed 23) DC (.ref 176)) ::
 (nat_lit 181,DJ "lies_in" 402 403 404 78 3 3 178 181 179 .none .none .none 180 405 406) ::
 (nat_lit 182,DG "lies_in" (Ed 24) DC (.ref 181)) ::
 (nat_lit 186,DJ "inside" 408 409 410 80 3 3 183 181 184 .none .none .none 185 411 412) ::
 (nat_lit 187,DG "inside" (Ed 25) DC (.ref 186)) ::
 (nat_lit 188,(.mk (.type "tuple") none (.seq #[(.int (Neg.neg 1) 417),(.int 1 418)] 0) #[])) ::
 (nat_lit 189,(.mk (.type "tuple") none (.seq #[(.int 1 419),(.int 1 420)] 0) #[])) ::
 (nat_lit 190,(.mk (.type "tuple") none (.seq #[(.ref 188),(.ref 189)] 0) #[])) ::
 (nat_lit 191,(.mk (.type "dict") none (.dict #[DI P "corner" 422 (.str "to" 423),DI P "inner" 424 (.str "from" 425),DI P "round" 426 .none] 3) #[])) ::
 (nat_lit 197,DJ "least_side" 431 432 433 85 2 3 192 181 193 .none (.ref 194) (.ref 195) 196 436 437) ::
 (nat_lit 198,DG "least_side" (Ed 29) DB (.ref 197)) ::
 (nat_lit 204,DJ "most_side" 439 440 441 89 2 3 199 181 200 .none (.ref 201) (.ref 202) 203 444 445) ::
 (nat_lit 205,DG "most_side" (Ed 30) DB (.ref 204)) ::
 (nat_lit 209,DJ "cell_told" 447 448 449 93 2 3 206 181 207 .none .none .none 208 450 451) ::
 (nat_lit 210,DG "cell_told" (Ed 31) DB (.ref 209)) ::
 (nat_lit 216,DJ "first_cell" 453 454 455 99 2 3 211 181 212 .none (.ref 213) (.ref 214) 215 459 460) ::
 (nat_lit 217,DG "first_cell" (Ed 32) DB (.ref 216)) ::
 (nat_lit 223,DJ "exchanged_side" 462 463 464 102 3 3 218 181 219 .none (.ref 220) (.ref 221) 222 468 469) ::
 (nat_lit 224,DG "exchanged_side" (Ed 33) DB (.ref 223)) ::
 (nat_lit 230,DJ "worded" 471 472 473 104 3 3 225 181 226 .none (.ref 227) (.ref 228) 229 477 478) ::
 (nat_lit 231,DG "worded" (Ed 34) DB (.ref 230)) ::
 (nat_lit 237,DJ "ranged" 480 481 482 106 4 3 232 181 233 .none (.ref 234) (.ref 235) 236 489 490) ::
 (nat_lit 238,DG "ranged" (Ed 35) DB (.ref 237)) ::
 (nat_lit 244,DJ "cells_below" 492 493 494 109 2 3 239 181 240 .none (.ref 241) (.ref 242) 243 502 503) ::
 (nat_lit 245,DG "cells_below" (Ed 36) DB (.ref 244)) ::
 (nat_lit 251,DJ "sides_of" 507 508 509 116 1 3 246 181 247 .none (.ref 248) (.ref 249) 250 511 512) ::
 (nat_lit 252,DG "sides_of" (Ed 38) DA (.ref 251)) ::
 (nat_lit 258,DJ "is_node" 518 519 520 120 3 3 253 181 254 .none (.ref 255) (.ref 256) 257 525 526) ::
 (nat_lit 259,DG "is_node" (Ed 41) Dz (.ref 258)) ::
 (nat_lit 265,DJ "is_within" 528 529 530 129 2 3 260 181 261 .none (.ref 262) (.ref 263) 264 533 534) ::
 (nat_lit 266,DG "is_within" (Ed 42) Dz (.ref 265)) ::
 (nat_lit 270,DJ "leaf_fault" 536 537 538 131 3 3 267 181 268 .none .none .none 269 539 540) ::
 (nat_lit 271,DG "leaf_fault" (Ed 43) Dz (.ref 270)) ::
 (nat_lit 277,DJ "node_fault" 542 543 544 141 4 3 272 181 273 .none (.ref 274) (.ref 275) 276 551 552) ::
 (nat_lit 278,DG "node_fault" (Ed 44) Dz (.ref 277)) ::
 (nat_lit 284,DJ "walk" 554 555 556 148 6 3 279 181 280 .none (.ref 281) (.ref 282) 283 566 567) ::
 (nat_lit 285,DG "walk" (Ed 45) Dz (.ref 284)) ::
 (nat_lit 291,DJ "lets_even" 569 570 571 159 4 3 286 181 287 .none (.ref 288) (.ref 289) 290 576 577) ::
 (nat_lit 292,DG "lets_even" (Ed 46) Dz (.ref 291)) ::
 (nat_lit 296,DJ "even_inner" 581 582 583 163 1 3 293 181 294 .none .none .none 295 584 585) ::
 (nat_lit 297,DG "even_inner" (Ed 48) Dy (.ref 296)) ::
 (nat_lit 303,DJ "even_corner" 587 588 589 169 1 3 298 181 299 .none (.ref 300) (.ref 301) 302 597 598) ::
 (nat_lit 304,DG "even_corner" (Ed 49) Dy (.ref 303)) ::
 (nat_lit 310,DJ "_law_feed" 602 603 604 177 1 3 305 181 306 .none (.ref 307) (.ref 308) 309 606 607) ::
 (nat_lit 311,DG "_law_feed" (Ed 51) Dx (.ref 310)) ::
 (nat_lit 317,DJ "_law_draw" 609 610 611 179 2 3 312 181 313 .none (.ref 314) (.ref 315) 316 618 619) ::
 (nat_lit 318,DG "_law_draw" (Ed 52) Dx (.ref 317)) ::
 (nat_lit 324,DJ "_law_frac" 621 622 623 196 2 3 319 181 320 .none (.ref 321) (.ref 322) 323 628 629) ::
 (nat_lit 325,DG "_law_frac" (Ed 53) Dx (.ref 324)) ::
 (nat_lit 331,DJ "_law_cmp" 631 632 633 201 2 3 326 181 327 .none (.ref 328) (.ref 329) 330 638 639) ::
 (nat_lit 332,DG "_law_cmp" (Ed 54) Dx (.ref 331)) ::
 (nat_lit 338,DJ "_law_number" 641 642 643 205 3 3 333 181 334 .none (.ref 335) (.ref 336) 337 651 652) ::
 (nat_lit 339,DG "_law_number" (Ed 55) Dx (.ref 338)) ::
 (nat_lit 343,DJ "_law_points" 654 655 656 217 3 3 340 181 341 .none .none .none 342 657 658) ::
 (nat_lit 344,DG "_law_points" (Ed 56) Dx (.ref 343)) ::
 (nat_lit 348,DJ "_law_side_size" 660 661 662 231 1 3 345 181 346 .none .none .none 347 663 664) ::
 (nat_lit 349,DG "_law_side_size" (Ed 57) Dx (.ref 348)) ::
 (nat_lit 355,DJ "_law_side_told" 666 667 668 240 3 3 350 181 351 .none (.ref 352) (.ref 353) 354 678 679) ::
 (nat_lit 356,DG "_law_side_told" (Ed 58) Dx (.ref 355)) ::
 (nat_lit 362,DJ "_law_ends" 681 682 683 251 2 3 357 181 358 .none (.ref 359) (.ref 360) 361 690 691) ::
 (nat_lit 363,DG "_law_ends" (Ed 59) Dx (.ref 362)) ::
 (nat_lit 369,DJ "_law_product" 693 694 695 257 2 3 364 181 365 .none (.ref 366) (.ref 367) 368 698 699) ::
 (nat_lit 370,DG "_law_product" (Ed 60) Dx (.ref 369)) ::
 (nat_lit 374,DJ "_law_cell_told" 701 702 703 259 2 3 371 181 372 .none .none .none 373 704 705) ::
 (nat_lit 375,DG "_law_cell_told" (Ed 61) Dx (.ref 374)) ::
 (nat_lit 381,DJ "_law_first" 707 708 709 271 2 3 376 181 377 .none (.ref 378) (.ref 379) 380 714 715) ::
 (nat_lit 382,DG "_law_first" (Ed 62) Dx (.ref 381)) ::
 (nat_lit 388,DJ "_law_behind" 717 718 719 275 2 3 383 181 384 .none (.ref 385) (.ref 386) 387 730 731) ::
 (nat_lit 389,DG "_law_behind" (Ed 63) Dx (.ref 388)) ::
 (nat_lit 395,DJ "_law_needs" 733 734 735 286 2 3 390 181 391 .none (.ref 392) (.ref 393) 394 743 744) ::
 (nat_lit 396,DG "_law_needs" (Ed 64) Dx (.ref 395)) ::
 (nat_lit 400,DJ "_law_need" 746 747 748 290 3 3 397 181 398 .none .none .none 399 749 750) ::
 (nat_lit 401,DG "_law_need" (Ed 65) Dx (.ref 400)) ::
 (nat_lit 405,DJ "_law_cuts" 752 753 754 296 3 3 402 181 403 .none .none .none 404 755 756) ::
 (nat_lit 406,DG "_law_cuts" (Ed 66) Dx (.ref 405)) ::
 (nat_lit 410,DJ "_law_tree" 758 759 760 303 4 3 407 181 408 .none .none .none 409 761 762) ::
 (nat_lit 411,DG "_law_tree" (Ed 67) Dx (.ref 410)) ::
 (nat_lit 415,DJ "_law_is_frac" 764 765 766 315 1 3 412 181 413 .none .none .none 414 767 768) ::
 (nat_lit 416,DG "_law_is_frac" (Ed 68) Dx (.ref 415)) ::
 (nat_lit 422,DJ "_law_below" 770 771 772 321 2 3 417 181 418 .none (.ref 419) (.ref 420) 421 775 776) ::
 (nat_lit 423,DG "_law_below" (Ed 69) Dx (.ref 422)) ::
 (nat_lit 429,DJ "_law_kind" 778 779 780 323 3 3 424 181 425 .none (.ref 426) (.ref 427) 428 785 786) ::
 (nat_lit 430,DG "_law_kind" (Ed 70) Dx (.ref 429)) ::
 (nat_lit 434,DJ "_law_word" 788 789 790 334 6 3 431 181 432 .none .none .none 433 791 792) ::
 (nat_lit 435,DG "_law_word" (Ed 71) Dx (.ref 434)) ::
 (nat_lit 441,DJ "_law_fault" 794 795 796 349 6 3 436 181 437 .none (.ref 438) (.ref 439) 440 806 807) ::
 (nat_lit 442,DG "_law_fault" (Ed 72) Dx (.ref 441)) ::
 (nat_lit 448,DJ "_law_due" 809 810 811 360 4 3 443 181 444 .none (.ref 445) (.ref 446) 447 817 818) ::
 (nat_lit 449,DG "_law_due" (Ed 73) Dx (.ref 448)) ::
 (nat_lit 455,DJ "_law_tree_world" 820 821 822 363 3 3 450 181 451 .none (.ref 452) (.ref 453) 454 830 831) ::
 (nat_lit 456,DG "_law_tree_world" (Ed 74) Dx (.ref 455)) ::
 (nat_lit 462,DJ "_law_right" 833 834 835 369 4 3 457 181 458 .none (.ref 459) (.ref 460) 461 840 841) ::
 (nat_lit 463,DG "_law_right" (Ed 75) Dx (.ref 462)) ::
 (nat_lit 469,DJ "law" 843 844 845 371 1 3 464 181 465 .none (.ref 466) (.ref 467) 468 858 859) ::
 (nat_lit 470,DG "law" (Ed 76) Dx (.ref 469))::[]
noncomputable def heapA:List Addr:=nat_lit 2::nat_lit 3::nat_lit 6::nat_lit 15::nat_lit 22::nat_lit 23::nat_lit 24::nat_lit 25::nat_lit 28::nat_lit 40::nat_lit 41::nat_lit 42::nat_lit 43::nat_lit 44::nat_lit 47::nat_lit 59::nat_lit 60::nat_lit 61::nat_lit 62::nat_lit 63::nat_lit 66::nat_lit 67::nat_lit 73::nat_lit 74::nat_lit 80::nat_lit 81::nat_lit 87::nat_lit 88::nat_lit 94::nat_lit 95::nat_lit 101::nat_lit 102::nat_lit 108::nat_lit 109::nat_lit 115::nat_lit 116::nat_lit 122::nat_lit 123::nat_lit 129::nat_lit 130::nat_lit 136::nat_lit 137::nat_lit 143::nat_lit 144::nat_lit 150::nat_lit 151::nat_lit 157::nat_lit 158::nat_lit 162::nat_lit 163::nat_lit 169::nat_lit 170::nat_lit 176::nat_lit 177::nat_lit 181::nat_lit 182::nat_lit 186::nat_lit 187::nat_lit 188::nat_lit 189::nat_lit 190::nat_lit 191::nat_lit 197::nat_lit 198::nat_lit 204::nat_lit 205::nat_lit 209::nat_lit 210::nat_lit 216::nat_lit 217::nat_lit 223::nat_lit 224::nat_lit 230::nat_lit 231::nat_lit 237::nat_lit 238::nat_lit 244::nat_lit 245::nat_lit 251::nat_lit 252::nat_lit 258::nat_lit 259::nat_lit 265::nat_lit 266::nat_lit 270::nat_lit 271::nat_lit 277::nat_lit 278::nat_lit 284::nat_lit 285::nat_lit 291::nat_lit 292::nat_lit 296::nat_lit 297::nat_lit 303::nat_lit 304::nat_lit 310::nat_lit 311::nat_lit 317::nat_lit 318::nat_lit 324::nat_lit 325::nat_lit 331::nat_lit 332::nat_lit 338::nat_lit 339::nat_lit 343::nat_lit 344::nat_lit 348::nat_lit 349::nat_lit 355::nat_lit 356::nat_lit 362::nat_lit 363::nat_lit 369::nat_lit 370::nat_lit 374::nat_lit 375::nat_lit 381::nat_lit 382::nat_lit 388::nat_lit 389::nat_lit 395::nat_lit 396::nat_lit 400::nat_lit 401::nat_lit 405::nat_lit 406::nat_lit 410::nat_lit 411::nat_lit 415::nat_lit 416::nat_lit 422::nat_lit 423::nat_lit 429::nat_lit 430::nat_lit 434::nat_lit 435::nat_lit 441::nat_lit 442::nat_lit 448::nat_lit 449::nat_lit 455::nat_lit 456::nat_lit 462::nat_lit 463::nat_lit 469::nat_lit 470::[]
theorem heapE:∀P,heapA=(heapK P).map (·.1):=fun _=>rfl
theorem ze:∀w:II,((IZ w.params).isNs Iv,(IZ w.params).objs.size,(IZ w.params).nsMap Iv "__annotations__")=(true,11,some (.ref 6)):=fun w=>by kernel_rfl
noncomputable def DM(w:II):Prop:=∀os:OsState,(L2.TT.runOf ER 11 (some (.ref 6)) 6204 w os).map (fun s=>(L2.TT.seen1 ER zview ["FIRST_WORDS"] (Hook.obs (kHook heapK heapA heapE)) (IZ w.params) s.abs,L2.TT.seen2 zview s.abs,L2.TT.seen3 ER zview ["FIRST_WORDS"] (fun s=>xlAt zview [] s&&recOk (RowW.records rwN.row.toRowW) s) s.abs))=some (L2.TT.good1 zview ["FIRST_WORDS"] ((Hook.val (kHook heapK heapA heapE)) w),PyProof.Rows.expectedOf zview,true)
set_option maxHeartbeats 0 in
theorem DQ:∀w:II,DM (w.withFollow "special-get-raises" false):=fun w os=>by kernel_rfl
set_option maxHeartbeats 0 in
theorem DP:∀w:II,DM (w.withFollow "special-get-raises" true):=fun w os=>by kernel_rfl
theorem Dw:∀w:II,DM w:=byRow2 "special-get-raises" DQ DP
noncomputable def DL(w:II):Prop:=∀os:OsState,(L2.TT.runOf ER 11 (some (.ref 6)) 6204 w os).map (fun s=>(wideSeen zview s.abs,L2.TT.seen5 zview s.abs,L2.TT.seen6 zview ["FIRST_WORDS"] s.abs))=some (wideGood zview,L2.TT.good5 zview,L2.TT.good6 zview ["FIRST_WORDS"])
set_option maxHeartbeats 0 in
theorem DO:∀w:II,DL (w.withFollow "special-get-raises" false):=fun w os=>by kernel_rfl
set_option maxHeartbeats 0 in
theorem DN:∀w:II,DL (w.withFollow "special-get-raises" true):=fun w os=>by kernel_rfl
theorem Du:∀w:II,DL w:=byRow2 "special-get-raises" DO DN
set_option maxHeartbeats 0 in
theorem zleft:LeftO ER zview ["FIRST_WORDS"] (fun s=>xlAt zview [] s&&recOk (RowW.records rwN.row.toRowW) s) (Hook.obs (kHook heapK heapA heapE)) (Hook.val (kHook heapK heapA heapE)) 6204 :=
 L2.TT.left_of (M:=6204) (by kernel_rfl) rfl (fun s=>by kernel_rfl) rfl ze fun w os=>L2.TT.run6 (L2.TT.tri (Dw w os)).1 (L2.TT.tri (Dw w os)).2.1 (L2.TT.tri (Dw w os)).2.2 (L2.TT.tri (Du w os)).1 (L2.TT.tri (Du w os)).2.1 (L2.TT.tri (Du w os)).2.2
end K33
namespace L2
abbrev G6:=Sum Int Str
noncomputable def mK:G6->HE->Bool
 | .inl k,v=>HE.isInt k v
 | .inr x,v=>HE.isStrOf x v
noncomputable def C5(w:II):G6->Int
 | .inl k=>hashInt k
 | .inr x=>hashStr w x
theorem bT:∀{k:G6}{v:HE},mK k v=true->(∃i t,k=JT i/\v=MB i t)\/(∃x t,k=IA x/\v=MC x t)
 | .inl i,v,h=>by
   obtain⟨t,e⟩:=HE.isInt_shape (k:=i) (v:=v) h
   exact .inl ⟨i,t,rfl,e⟩
 | .inr x,v,h=>by
   obtain⟨t,e⟩:=HE.isStrOf_shape (x:=x) (v:=v) h
   exact .inr ⟨x,t,rfl,e⟩
theorem oZ(i:Int)(t:Tok):mK (.inl i) (.int i t)=true:=by simp[mK,HE.isInt]
theorem oY(x:Str)(t:Tok):mK (.inr x) (.str x t)=true:=by simp[mK,HE.isStrOf]
theorem yd(a b:Int):decide ((JT a:G6)=JT b)=(a==b):=by
 by_cases e:a=b
 · subst e;simp
 · have h:¬(JT a:G6)=JT b:=fun q=>e (JT.inj q)
   rw[decide_eq_false h]
   exact(beq_eq_false_iff_ne.mpr e).symm
theorem ya(a b:Str):decide ((IA a:G6)=IA b)=decide (a=b):=by
 by_cases e:a=b
 · subst e;simp
 · have h:¬(IA a:G6)=IA b:=fun q=>e (IA.inj q)
   rw[decide_eq_false h,decide_eq_false e]
theorem yc(a:Int)(b:Str):decide ((JT a:G6)=IA b)=false:=decide_eq_false (fun q=>nomatch q)
theorem yb(a:Str)(b:Int):decide ((IA a:G6)=JT b)=false:=decide_eq_false (fun q=>nomatch q)
noncomputable def cE(prog:Ie)(w:II):PySem.KeyKind prog w G6 where
 is:=mK
 hash:=C5 w
 inj:=fun v a b ha hb=>by
  rcases bT ha with⟨i,t,rfl,rfl⟩|⟨x,t,rfl,rfl⟩
  · rcases bT hb with⟨j,u,rfl,e⟩|⟨y,u,rfl,e⟩
    · injection e with e1 _;rw[e1]
    · exact nomatch e
  · rcases bT hb with⟨j,u,rfl,e⟩|⟨y,u,rfl,e⟩
    · exact nomatch e
    · injection e with e1 _;rw[e1]
 byValue:=fun k v h=>by
   rcases bT h with⟨i,t,rfl,rfl⟩|⟨x,t,rfl,rfl⟩<;>rfl
 pyHash:=fun hv h=>by
  rcases bT hv with⟨i,t,rfl,rfl⟩|⟨x,t,rfl,rfl⟩
  · exact wpAny_pyHash_int h
  · exact wpAny_pyHash_str h
 eqBool:=fun hu hv h=>by
  rcases bT hu with⟨i,t,rfl,rfl⟩|⟨x,t,rfl,rfl⟩
  · rcases bT hv with⟨j,u,rfl,rfl⟩|⟨y,u,rfl,rfl⟩
    · rw[yd]at h;exact wpAny_eqBool_int h
    · rw[yc]at h;exact SeqAt.EqAt.int_str i t y u _ _ _ _ h
  · rcases bT hv with⟨j,u,rfl,rfl⟩|⟨y,u,rfl,rfl⟩
    · rw[yb]at h;exact SeqAt.EqAt.str_int x t j u _ _ _ _ h
    · rw[ya]at h;exact wpAny_eqBool_str h
 «strs»:=fun k x t v h=>by
  rcases bT h with⟨i,u,rfl,e⟩|⟨y,u,rfl,e⟩
  · exact nomatch e
  · injection e with e1 _
    subst e1
    cases v<;>rfl
theorem kX(prog:Ie)(w:II)(i:Int)(t:Tok):(cE prog w).is (.inl i) (.int i t)=true:=oZ i t
theorem kW(prog:Ie)(w:II)(x:Str)(t:Tok):(cE prog w).is (.inr x) (.str x t)=true:=oY x t
inductive V where
 | non|bl (b:Bool)|int (i:Int)|str (x:Str)|byt (b:Array UInt8)|flt (b:UInt64)|ref (a:Addr)|ty (n:String)
 deriving DecidableEq
noncomputable def RelV:V->HE->Prop
 | .non,u=>u=KG
 | .bl b,u=>u=LJ b
 | .int i,u=>∃t,u=MB i t
 | .str x,u=>∃t,u=MC x t
 | .byt b,u=>∃t,u=HE.bytes b t
 | .flt b,u=>∃t,u=HE.float b t
 | .ref a,u=>u=J7 a
 | .ty n,u=>u=HE.type n
abbrev dq:List V->List HE->Prop:=I0 RelV
theorem dq.length{xs:List V}(r:dq xs us):xs.length=us.length:=KN r
theorem dq.get:∀{xs:List V}{us:List HE}{i:Nat}{x:V},dq xs us->xs[i]?=some x->∃u,us[i]?=some u/\RelV x u
 | _,_,_,_,.nil,e=>by simp at e
 | _,_,0,_,.cons r _,e=>by simp at e;subst e;exact⟨_,rfl,r⟩
 | _,_,i+1,x,.cons _ t,e=>by
   obtain⟨u,h1,h2⟩:=dq.get (i:=i) (x:=x) t (by simpa using e)
   exact⟨u,by simpa using h1,h2⟩
theorem dq.append:∀{xs ys:List V}{us ws:List HE},dq xs us->dq ys ws->dq (xs++ys) (us++ws)
 | _,_,_,_,.nil,s=>s
 | _,_,_,_,.cons r t,s=>.cons r (dq.append t s)
theorem dq.take:∀{xs:List V}{us:List HE}(n:Nat),dq xs us->dq (xs.take n) (us.take n)
 | _,_,0,_=>.nil
 | _,_,_+1,.nil=>.nil
 | _,_,n+1,.cons r t=>.cons r (dq.take n t)
theorem dq.drop:∀{xs:List V}{us:List HE}(n:Nat),dq xs us->dq (xs.drop n) (us.drop n)
 | _,_,0,r=>r
 | _,_,_+1,.nil=>.nil
 | _,_,n+1,.cons _ t=>dq.drop n t
noncomputable def vU:Option V->Option HE->Prop
 | some v,some u=>RelV v u
 | none,none=>True
 | _,_=>False
noncomputable def KV{κ:Type}:List (κ×V)->List (κ×HE)->Prop:=I0 fun(p:κ×V)(q:κ×HE)=>p.1=q.1/\RelV p.2 q.2
noncomputable def kV:G6->V
 | .inl i=>.int i
 | .inr x=>.str x
inductive HO where
 | lst (xs:List V)
 | tup (xs:List V)
 | dK (kvs:List (G6×V))|dT (kvs:List (List G6×V))
 | set (S:Int->Bool) (n:Nat)
 | ins (C dx:Addr) (fs:List (Str×V))
 | own (x:Addr)
 | xd (fs:List (Str×V))
 | met (f x:Addr)
 | rng (lo hi:Int)
 | frz (o:Obj) (u:HO)
 | tbl (ps:Array HE)
 | ext (φ:Heap->Prop)
abbrev Hp:=Addr->Option HO
noncomputable def upd(H:Hp)(a:Addr)(o:HO):Hp:=fun b=>if b=a then some o else H b
theorem aJ{H:Hp}{o:HO}:upd H a o a=some o:=by unfold upd;rw[if_pos rfl]
theorem aA{H:Hp}{o:HO}(h:b≠a):upd H a o b=H b:=by unfold upd;rw[if_neg h]
theorem ub{H:Hp}{o u:HO}:upd (upd H a o) a u=upd H a u:=by
 funext b;unfold upd;split<;>rfl
theorem Ae{H:Hp}{o u:HO}(h:H a=some o)(h':H b=some u)(d:o≠u):a≠b:=by
 intro e;subst e;rw[h]at h';exact d (Ii h')
theorem bA{H:Hp}{o:HO}(h:H a=some o)(h':H b=none):a≠b:=by
 intro e;subst e;rw[h]at h';cases h'
section
variable(P:Ie)(w:II)
noncomputable def qh(h:Heap)(a:Addr)(items:Array HE):Prop:=∃o,h.get? a=some o/\o.cls = .type "tuple" /\ (∃n,o.data = .seq items n)/\o.dict=none
theorem qh.tup{h:Heap}{a:Addr}{items:Array HE}(x:qh h a items):Nf h a items:=let ⟨o,e1,e2,e3,_⟩:=x;⟨o,e1,e2,e3⟩
theorem qh.new(h:Heap)(items:Array HE):qh (h.push {cls:=.type "tuple", data:=.seq items}) h.objs.size items:=⟨_,HW _ rfl,rfl,⟨_,rfl⟩,rfl⟩
noncomputable def dU(H:Hp)(h:Heap)(a:Addr):HO->Prop
 | .lst xs=>xs.length<=sizeLine/\∃(its:List HE)(n:Nat),dq xs its/\h.get? a=some {cls:=.type "list", data:=.seq its.toArray n}
 | .tup xs=>xs.length<=sizeLine/\∃its:List HE,dq xs its/\qh h a its.toArray
 | .dK kvs=>kvs.length<=sizeLine/\(a==KH)=false/\∃vs,KV kvs vs/\h.DictOf (cE P w) a vs
 | .dT kvs=>kvs.length<=sizeLine/\(a==KH)=false/\∃xs:List (List G6×Addr×HE),
     I0 (fun(p:List G6×V)(q:List G6×Addr×HE)=>p.1=q.1/\H q.2.1=some (.tup (p.1.map kV))/\RelV p.2 q.2.2) kvs xs /\
     ∃o es ep,h.get? a=some o/\o.ExactDict/\o.data = .dict es ep/\es.toList=xs.map (entryOfKey (MD (cE P w)))/\(xs.map (·.1)).Nodup
 | .set S n=>h.SetOf (intKind P w) a S n
 | .ins C dx fs=>H dx=some (.own a)/\fs.length<=1000/\dx≠a/\h.get? a=some (W.instObj C dx) /\
     ∃mA,h.Ns1 dx mA/\(∀f,vU (fs.lookup f) (mA f))/\PySem.Within mA (fs.map (·.1))
 | .own _=>∃o,h.get? a=some o
 | .xd fs=>∃mA,h.Ns1 a mA/\∀f,vU (fs.lookup f) (mA f)
 | .rng lo hi=>∃t u v,h.get? a=some {cls:=.type "range", data:=.fields #[.int lo t,.int hi u,.int 1 v]}
 | .frz o u=>h.get? a=some o/\dU H h a u
 | .tbl ps=>h.get? a=some {cls:=.none,data:=.fields ps}
 | .met f x=>h.get? a=some (W.methodObj (.ref f) (.ref x))
 | .ext φ=>φ h/\(∃o,h.get? a=some o)/\∀h1 h2:Heap,φ h1->(∀o,h1.get? a=some o->h2.get? a=some o)->φ h2
noncomputable def Hl(H:Hp)(h:Heap):Prop:=∀a o,H a=some o->dU P w H h a o
end
section
variable{P:Ie}{w:II}{H H':Hp}{h h':Heap}{a:Addr}{o:HO}
theorem dU.lt(x:dU P w H h a o):a<h.objs.size:=by
 cases o with
 | lst xs=>obtain⟨_,_,_,_,e⟩:=x;exact HN e
 | tup xs=>obtain⟨_,_,_,p⟩:=x;exact p.tup.lt
 | dK kvs=>obtain⟨_,_,_,_,o,_,_,e,_⟩:=x;exact HN e
 | dT kvs=>obtain⟨_,_,_,_,o,_,_,e,_⟩:=x;exact HN e
 | set S n=>obtain⟨o,_,_,_,e,_⟩:=x;exact HN e
 | ins C dx fs=>obtain⟨_,_,_,e,_⟩:=x;exact HN e
 | own y=>obtain⟨_,e⟩:=x;exact HN e
 | xd fs=>obtain⟨_,⟨_,_,_,e,_⟩,_⟩:=x;exact HN e
 | rng lo hi=>obtain⟨_,_,_,e⟩:=x;exact HN e
 | frz ob u=>obtain⟨e,_⟩:=x;exact HN e
 | tbl ps=>exact HN (show h.get? a=some _ from x)
 | met f y=>exact HN (show h.get? a=some _ from x)
 | ext φ=>obtain⟨_,⟨_,e⟩,_⟩:=x;exact HN e
theorem I0.mapP{α β:Type}{F G:α->β->Prop}:∀{l₁:List α}{l₂:List β},I0 F l₁ l₂->(∀a b,F a b->G a b)->I0 G l₁ l₂
 | _,_,.nil,_=>.nil
 | _,_,.cons r t,f=>.cons (f _ _ r) (I0.mapP t f)
theorem dU.stay(x:dU P w H h a o)(k:∀b u,(b=a\/H b=some (.own a))->h.get? b=some u->h'.get? b=some u)
 (ho:∀b,H b=some (.own a)->H' b=some (.own a))(ht:∀b xs,H b=some (.tup xs)->H' b=some (.tup xs)):dU P w H' h' a o:=by
 induction o with
 | lst xs=>obtain⟨z,its,n,r,e⟩:=x;exact⟨z,its,n,r,k _ _ (.inl rfl) e⟩
 | tup xs=>obtain⟨z,its,r,ob,e,c⟩:=x;exact⟨z,its,r,ob,k _ _ (.inl rfl) e,c⟩
 | dK kvs=>obtain⟨z,y,vs,r,ob,es,ep,e,c⟩:=x;exact⟨z,y,vs,r,ob,es,ep,k _ _ (.inl rfl) e,c⟩
 | dT kvs =>
   obtain⟨z,y,xs,r,ob,es,ep,e,c⟩:=x
   exact⟨z,y,xs,I0.mapP r fun p q z=>⟨z.1,ht _ _ z.2.1,z.2.2⟩,ob,es,ep,k _ _ (.inl rfl) e,c⟩
 | set S n=>obtain⟨ob,es,ep,t,e,c⟩:=x;exact⟨ob,es,ep,t,k _ _ (.inl rfl) e,c⟩
 | ins C dx fs =>
   obtain⟨d,z,ne,e,mA,⟨od,es,ep,e2,c⟩,r⟩:=x
   exact⟨ho _ d,z,ne,k _ _ (.inl rfl) e,mA,⟨od,es,ep,k _ _ (.inr d) e2,c⟩,r⟩
 | own y=>obtain⟨ob,e⟩:=x;exact⟨ob,k _ _ (.inl rfl) e⟩
 | xd fs=>obtain⟨mA,⟨od,es,ep,e,c⟩,r⟩:=x;exact⟨mA,⟨od,es,ep,k _ _ (.inl rfl) e,c⟩,r⟩
 | rng lo hi=>obtain⟨t,u,v,e⟩:=x;exact⟨t,u,v,k _ _ (.inl rfl) e⟩
 | frz ob u ih=>obtain⟨e,q⟩:=x;exact⟨k _ _ (.inl rfl) e,ih q⟩
 | tbl ps =>
   have e:h.get? a=some {cls:=.none,data:=.fields ps}:=x
   show h'.get? a=some {cls:=.none,data:=.fields ps}
   exact k a _ (.inl rfl) e
 | met f y =>
   have e:h.get? a=some (W.methodObj (.ref f) (.ref y)):=x
   show h'.get? a=some (W.methodObj (.ref f) (.ref y))
   exact k a _ (.inl rfl) e
 | ext φ=>obtain⟨p,⟨o,e⟩,st⟩:=x;exact⟨st _ _ p fun o q=>k _ _ (.inl rfl) q,⟨o,k _ _ (.inl rfl) e⟩,st⟩
theorem Hl.lt(x:Hl P w H h)(e:H a=some o):a<h.objs.size:=(x a o e).lt
theorem Hl.fresh(x:Hl P w H h)(e:h.objs.size<=a):H a=none:=by
 cases q:H a with
 | none=>rfl
 | some u=>exact absurd (HJ (x.lt q) e) (Jf _)
theorem Hl.kept(x:Hl P w H h)(k:∀b u,h.get? b=some u->h'.get? b=some u):Hl P w H h':=fun a o e =>
 (x a o e).stay (fun b u _ q=>k b u q) (fun _ q=>q) fun _ _ q=>q
theorem Hl.laid(x:Hl P w H h)(k:∀b u,h.get? b=some u->h'.get? b=some u)(hp:h.objs.size<=a)(new:dU P w (upd H a o) h' a o):Hl P w (upd H a o) h':=fun b u e=>by
 have hn:=x.fresh hp
 by_cases hb:b=a
 · subst hb;rw[aJ]at e;cases e;exact new
 · rw[aA hb]at e
   exact(x b u e).stay (fun c v _ q=>k c v q) (fun c q=>by rw[aA (bA q hn)];exact q) fun c xs q=>by rw[aA (bA q hn)];exact q
end
noncomputable def Rd(H:Hp)(a:Addr)(u:HO):Prop:=H a=some u\/∃o,H a=some (.frz o u)
theorem Rd.ok{H:Hp}{u:HO}(r:Rd H a u)(x:Hl P w H h):dU P w H h a u:=by
 rcases r with r|⟨o,r⟩
 · exact x a u r
 · obtain⟨_,q⟩:=x a _ r
   exact q
noncomputable def G3:Option HO->Prop
 | some (.lst _)=>True
 | some (.dK _)=>True
 | some (.dT _)=>True
 | some (.set _ _)=>True
 | some (.ins _ _ _)=>True
 | some (.ext _)=>True
 | _=>False
section
variable{P:Ie}{w:II}{H:Hp}{h h':Heap}{x e:Addr}{o':HO}
theorem Hl.write(ok:Hl P w H h)(mu:G3 (H x))(he:e=x\/H e=some (.own x))(k:∀b u,b≠e->h.get? b=some u->h'.get? b=some u)(heo:∃u,h'.get? e=some u)
 (new:dU P w (upd H x o') h' x o'):Hl P w (upd H x o') h':=fun b u q=>by
 have nown:∀c y,H c=some (.own y)->c≠x:=fun c y r z=>by subst z;rw[r]at mu;exact mu
 have ntup:∀c xs,H c=some (.tup xs)->c≠x:=fun c xs r z=>by subst z;rw[r]at mu;exact mu
 by_cases hb:b=x
 · subst hb;rw[aJ]at q;cases q;exact new
 · rw[aA hb]at q
   by_cases hbe:b=e
   · have q':H b=some (.own x):=by
       rcases he with z|z
       · exact absurd (hbe.trans z) hb
       · rw[hbe];exact z
     rw[q]at q';cases q'
     obtain⟨v,hv⟩:=heo
     exact⟨v,by rw[hbe];exact hv⟩
   · refine(ok b u q).stay (fun c v hc r=>k c v ?_ r) (fun c r=>by rw[aA (nown c b r)];exact r) fun c xs r=>by rw[aA (ntup c xs r)];exact r
     rcases hc with rfl|hc
     · exact hbe
     · rintro rfl
       rcases he with z|z
       · exact nown c b hc z
       · rw[hc]at z;cases z;exact hb rfl
end
structure Un (fs ex:List Addr) (H H':Hp) (h h':Heap):Prop where
 keep:∀b o,h.get? b=some o->H b=none->b∉fs->b∉ex->h'.get? b=some o
 slot:∀b o,h.get? b=some o->H b=none->b∈fs->b∉ex->∃sl,h'.get? b=some {o with slots:=sl}
 free:∀b o,h.get? b=some o->H b=none->b∉ex->H' b=none
 there:∀b o,h.get? b=some o->b∉ex->∃o',h'.get? b=some o'
 tups:∀b xs,H b=some (.tup xs)->H' b=some (.tup xs)
 frzs:∀b o u,H b=some (.frz o u)->H' b=some (.frz o u)
 tbls:∀b ps,H b=some (.tbl ps)->∃more,H' b=some (.tbl (ps++more))
section
variable{fs fs' ex ex':List Addr}{H H1 H2:Hp}{h h1 h2 h':Heap}{a x e:Addr}{o:HO}
theorem Un.any(u:Un fs ex H H1 h h1){ob:Obj}(q:h.get? b=some ob)(n:H b=none)(hx:b∉ex):∃sl,h1.get? b=some {ob with slots:=sl}:=by
 by_cases hb:b∈fs
 · exact u.slot b ob q n hb hx
 · exact⟨ob.slots,u.keep b ob q n hb hx⟩
theorem Un.kept(k:∀b u,h.get? b=some u->h'.get? b=some u):Un fs ex H H h h' :=
 ⟨fun b ob q _ _ _=>k b ob q,fun b ob q _ _ _=>⟨ob.slots,k b ob q⟩,fun _ _ _ n _=>n,fun b ob q _=>⟨ob,k b ob q⟩,fun _ _ q=>q,fun _ _ _ q=>q,fun _ ps q=>⟨#[],by rw[q];simp⟩⟩
theorem Un.refl:Un fs ex H H h h:=Un.kept fun _ _ q=>q
theorem Un.laid(k:∀b u,h.get? b=some u->h'.get? b=some u)(hp:h.objs.size<=a)(hn:H a=none):Un fs ex H (upd H a o) h h' where
 keep:=fun b u q _ _ _=>k b u q
 slot:=fun b u q _ _ _=>⟨u.slots,k b u q⟩
 free:=fun b u q n _=>by rw[aA (Iz (HJ (HN q) hp))];exact n
 there:=fun b u q _=>⟨u,k b u q⟩
 tups:=fun b xs q=>by rw[aA (bA q hn)];exact q
 frzs:=fun b u xs q=>by rw[aA (bA q hn)];exact q
 tbls:=fun b ps q=>⟨#[],by rw[aA (bA q hn),q];simp⟩
theorem Un.write(mu:G3 (H x))(he:e=x\/H e=some (.own x))(k:∀b u,b≠e->h.get? b=some u->h'.get? b=some u)(heo:∃u,h'.get? e=some u):Un fs ex H (upd H x o) h h':=by
 have hx:∀b,H b=none->b≠x:=fun b n z=>by subst z;rw[n]at mu;exact mu
 have hb:∀b,H b=none->b≠e:=fun b n z=>by
  subst z
  rcases he with r|r
  · exact hx b n r
  · rw[n]at r;cases r
 have hm:∀b u,H b=some u->¬G3 (some u)->b≠x:=fun b u q nm z=>by subst z;rw[q]at mu;exact nm mu
 refine⟨fun b u q n _ _=>k b u (hb b n) q,fun b u q n _ _=>⟨u.slots,k b u (hb b n) q⟩,fun b u q n _=>by rw[aA (hx b n)];exact n,fun b u q _=>?_,
  fun b xs q=>by rw[aA (hm b _ q fun z=>z)];exact q,fun b u xs q=>by rw[aA (hm b _ q fun z=>z)];exact q,fun b ps q=>⟨#[],by rw[aA (hm b _ q fun z=>z),q];simp⟩⟩
 by_cases hbe:b=e
 · subst hbe;exact heo
 · exact⟨u,k b u hbe q⟩
end
noncomputable def Eb(h:Heap)(H:Hp):List Addr:=(Jj h.objs.size).filter fun a=>(H a).isSome
noncomputable def rB(h:Heap)(H:Hp):Heap:=W.hideAll h (Eb h H)
theorem pz(h:Heap)(H:Hp):(rB h H).objs.size=h.objs.size:=W.hideAll_size _ _
theorem rA{H:Hp}{o:Obj}(e:h.get? b=some o)(n:H b=none):(rB h H).get? b=some o :=
 W.hideAll_get _ e fun hm=>by
  have q:(H b).isSome=true:=(KO.mp hm).2
  rw[n]at q;simp at q
theorem uQ{H:Hp}{o:Obj}(e:(rB h H).get? b=some o):h.get? b=some o/\H b=none:=by
 have e':h.get? b=some o:=W.of_hideAll (Eb h H) e
 refine⟨e',?_⟩
 cases q:H b with
 | none=>rfl
 | some x =>
   have hm:b∈Eb h H:=KO.mpr ⟨K6.mpr (HN e'),by simp[q]⟩
   have z:(rB h H).get? b=none:=W.hideAll_none (Eb h H) hm
   rw[z]at e;cases e
noncomputable def vN(g h:Heap)(L:Addr):List (Addr×Obj):=(Jj h.objs.size).filterMap fun a=>if a=L\/(g.get? a).isSome=true then none else(h.get? a).map fun o=>(a,o)
noncomputable def rest(g h:Heap)(L d:Addr):List (Addr×Obj):=(vN g h L).filter fun p=>decide (p.1≠d)
structure Mod (K:W.Frag) (mg:Str->Option HE) (base:Heap):Prop where
 kin:K.In base
 glob:base.Ns Iv mg
 blt:∃mb,base.Ns MQ mb/\∀x:Str,x ≠ "__name__" -> mb x=Kc x
 nolimit:base.NoLimit
structure Cx where
 prog:Ie
 w:II
 K:W.Frag
 mg:Str->Option HE
 base:Heap
 A:Jb
 N:List Str
 s₀:HH
 H₀:Hp
 env:Env
 outer:List Env
 stack:List Env
 ex:List Addr
 fn:Str->Bool
 calm:Bool
 pn:List (Addr×Obj)
 xe:HE->HH->Prop
noncomputable def frs(l:List Env):List Addr:=l.filterMap (·.frame)
abbrev Cx.fs(X:Cx):List Addr:=frs X.outer
noncomputable def Gv(sc:Scope)(x:Str):Prop:=sc.names.lookup x=some .local\/sc.names.lookup x=some .cell\/sc.names.lookup x=some .free
noncomputable def Loc(sc:Scope)(x:Str):Prop:=sc.names.lookup x=some .local\/sc.names.lookup x=some .cell
noncomputable def Look(env:Env)(h:Heap)(m:Str->Option HE)(x:Str)(u:HE):Prop :=
 (env.kindOf x=some .local/\m x=some u)\/((env.kindOf x=some .cell\/env.kindOf x=some .free)/\∃c,env.cells.lookup x=some c/\h.IsCell c (some u))
structure Cx.Ok (X:Cx):Prop where
 mod:Mod X.K X.mg X.base
 kind:X.env.scope.kind = .function
 glob:X.env.globals=Iv
 blt:X.env.builtins=MQ
 above:X.s₀.heap.objs.size<=X.env.locals
 inj:∀x y c,X.env.cells.lookup x=some c->X.env.cells.lookup y=some c->x=y
 has:∀x,(X.env.kindOf x=some .cell\/X.env.kindOf x=some .free)->∃c,X.env.cells.lookup x=some c
 cab:∀x c,X.fn x=true->X.env.cells.lookup x=some c->X.s₀.heap.objs.size<=c
 hd:X.calm=true->X.A.handled=none
 frames:X.A.frames=some X.stack
 stk:X.stack=X.outer\/(X.stack=X.env::X.outer/\X.env.frame=some X.env.locals)
 exf:∀b∈X.ex,b≠X.env.locals/\∀x c,X.env.cells.lookup x=some c->c≠b
 bs:∀b o,X.base.get? b=some o->X.s₀.heap.get? b=some o/\X.H₀ b=none
 bsz:X.base.objs.size<=X.s₀.heap.objs.size
 noex:∀b o,X.base.get? b=some o->b∉X.ex
 exfs:∀b∈X.ex,b∉X.fs
 funs:X.s₀.heap.FunFrames X.base X.outer
 frf:∀b∈X.fs,X.H₀ b=none
structure Inv (X:Cx) (pins:List (Addr×Obj)) (σ:List (Option V)) (H:Hp) (s:HH):Prop where
 ok:X.Ok
 os:s.os=X.s₀.os
 bare:Mv s.gens
 base:Un X.fs X.ex X.H₀ H X.s₀.heap s.heap
 loc:∃m,s.heap.Ns X.env.locals m/\∀(i:Nat)(x:Str)(v:V),X.N[i]?=some x->σ[i]?=some (some v)->Gv X.env.scope x->∃u,RelV v u/\Look X.env s.heap m x u
 cell:∀x c,X.env.cells.lookup x=some c->∃v,s.heap.IsCell c v
 free:H X.env.locals=none
 freeC:∀x c,X.env.cells.lookup x=some c->H c=none
 pin:∀p∈X.pn++pins,s.heap.get? p.1=some p.2/\H p.1=none/\p.1≠X.env.locals/\p.1∉X.fs/\∀v,p.2.data ≠ .cell v
 hok:Hl X.prog X.w H s.heap
 len:σ.length=X.N.length
section
variable{X:Cx}{pins:List (Addr×Obj)}{σ:List (Option V)}{H H':Hp}{s:HH}{h':Heap}
theorem Cx.Ok.nofr(ok:X.Ok){o:Obj}(e:X.base.get? b=some o):b∉X.fs:=fun hb=>by
 have:=(ok.funs.mem hb).1
 rw[e]at this;cases this
theorem Inv.bs(I:Inv X pins σ H s):∀b o,X.base.get? b=some o->s.heap.get? b=some o/\H b=none:=fun b o e =>
 ⟨I.base.keep b o (I.ok.bs b o e).1 (I.ok.bs b o e).2 (I.ok.nofr e) (I.ok.noex b o e),I.base.free b o (I.ok.bs b o e).1 (I.ok.bs b o e).2 (I.ok.noex b o e)⟩
theorem Inv.bk(I:Inv X pins σ H s):∀b o,X.base.get? b=some o->s.heap.get? b=some o:=fun b o e=>(I.bs b o e).1
theorem Inv.mod(I:Inv X pins σ H s):Mod X.K X.mg X.base:=I.ok.mod
theorem Inv.kIn(I:Inv X pins σ H s):X.K.In s.heap:=I.ok.mod.kin.keeps I.bk
theorem Inv.lt(I:Inv X pins σ H s):X.env.locals<s.heap.objs.size:=let ⟨_,hn,_⟩:=I.loc;hn.lt
theorem Inv.sz(I:Inv X pins σ H s):X.s₀.heap.objs.size<=s.heap.objs.size:=JI I.ok.above (MU I.lt)
theorem Inv.nofs(I:Inv X pins σ H s)(h:s.heap.objs.size<=a):a∉X.fs:=fun hb=>by
 obtain⟨_,o,ho,_⟩:=I.ok.funs.mem hb
 exact absurd (HJ (HN ho) (JI I.sz h)) (Jf _)
theorem Inv.cne(I:Inv X pins σ H s):∀x c,X.env.cells.lookup x=some c->c≠X.env.locals:=fun x c e z=>by
 obtain⟨v,o,ho,hd⟩:=I.cell x c e
 obtain⟨m,⟨o',es,ep,ho',hd',_⟩,_⟩:=I.loc
 rw[z,ho']at ho;cases ho;rw[hd']at hd;cases hd
theorem Inv.funs(I:Inv X pins σ H s):s.heap.FunFrames X.base X.outer:=by
 have all:∀(l:List Env),(∀b∈frs l,b∈X.fs)->X.s₀.heap.FunFrames X.base l->s.heap.FunFrames X.base l:=by
  intro l
  induction l with
  | nil=>intro _ _;trivial
  | cons env r ih =>
    intro hs hl
    obtain⟨hk,⟨L,o,hf,hn,ho,hd⟩,hr⟩:=hl
    have hL:L∈X.fs:=hs L (by unfold frs;rw[KE,hf];exact Iw)
    obtain⟨sl,e⟩:=I.base.slot L o ho (I.ok.frf L hL) hL fun z=>I.ok.exfs L z hL
    exact⟨hk,⟨L,_,hf,hn,e,hd⟩,ih (fun b hb=>hs b (by unfold frs;rw[KE,hf];exact Ic _ hb)) hr⟩
 exact all X.outer (fun _ hb=>hb) I.ok.funs
theorem Inv.stack(I:Inv X pins σ H s):s.heap.FunFrames X.base X.stack:=by
 rcases I.ok.stk with e|⟨e,hf⟩
 · rw[e];exact I.funs
 · rw[e]
   obtain⟨m,hn,_⟩:=I.loc
   refine .cons (by rw[I.ok.kind];decide) hf hn ?_ I.funs
   exact Heap.get?_none_of_le (JI I.ok.bsz I.ok.above)
theorem Inv.stkSub(I:Inv X pins σ H s):∀b∈frs X.stack,b∈X.env.locals::X.fs:=fun b hb=>by
 rcases I.ok.stk with e|⟨e,hf⟩
 · rw[e]at hb;exact Ic _ hb
 · rw[e]at hb
   unfold frs at hb
   rw[KE,hf]at hb
   exact hb
theorem Inv.stkFree(I:Inv X pins σ H s):∀b∈frs X.stack,H b=none:=fun b hb=>by
 rcases IC.mp (I.stkSub b hb)with e|hb
 · rw[e];exact I.free
 · obtain⟨_,o,ho,_⟩:=I.ok.funs.mem hb
   exact I.base.free b o ho (I.ok.frf b hb) fun z=>I.ok.exfs b z hb
theorem Inv.step{g':Array GenState}{d':Drawn}{ch:List Addr}(I:Inv X pins σ H s)
 (hch:∀b∈ch,(b∈X.ex\/X.s₀.heap.objs.size<=b)/\b≠X.env.locals/\(∀x c,X.env.cells.lookup x=some c->c≠b)/\∀p∈X.pn++pins,p.1≠b)
 (keep:∀b o,b≠X.env.locals->b∉X.fs->b∉ch->s.heap.get? b=some o->H b=none->h'.get? b=some o)
 (slot:∀b o,b≠X.env.locals->b∈X.fs->b∉ch->s.heap.get? b=some o->H b=none->∃sl,h'.get? b=some {o with slots:=sl})(free:∀b o,b∉ch->s.heap.get? b=some o->H b=none->H' b=none)
 (there:∀b o,b∉ch->s.heap.get? b=some o->∃o',h'.get? b=some o')
 (tups:∀b xs,H b=some (.tup xs)->H' b=some (.tup xs))(frzs:∀b o u,H b=some (.frz o u)->H' b=some (.frz o u))(tbls:∀b ps,H b=some (.tbl ps)->∃more,H' b=some (.tbl (ps++more)))
 (ns:∀m,s.heap.Ns X.env.locals m->h'.Ns X.env.locals m)(hok:Hl X.prog X.w H' h')(hg:Mv g') :
 Inv X pins σ H' {s with heap:=h',gens:=g',drawn:=d',toks:=t' }:=by
 have neL:∀b o,X.s₀.heap.get? b=some o->b≠X.env.locals:=fun b o e=>Iz (HJ (HN e) I.ok.above)
 have neC:∀b o,X.s₀.heap.get? b=some o->b∉X.ex->b∉ch:=fun b o e hx hb=>by
  rcases(hch b hb).1 with z|z
  · exact hx z
  · exact absurd (HJ (HN e) z) (Jf _)
 have cellK:∀x c,X.env.cells.lookup x=some c->∀v,s.heap.IsCell c v->h'.IsCell c v:=fun x c e v ⟨o,ho,hd⟩=>by
  have nch:c∉ch:=fun z=>(hch c z).2.2.1 x c e rfl
  by_cases hc:c∈X.fs
  · obtain⟨sl,q⟩:=slot c o (I.cne x c e) hc nch ho (I.freeC x c e)
    exact⟨_,q,hd⟩
  · exact⟨o,keep c o (I.cne x c e) hc nch ho (I.freeC x c e),hd⟩
 refine⟨I.ok,I.os,hg,⟨fun b o e n hb hx=>?_,fun b o e n hb hx=>?_,fun b o e n hx=>?_,fun b o e hx=>?_,fun b xs e=>tups b xs (I.base.tups b xs e),fun b o xs e=>frzs b o xs (I.base.frzs b o xs e),fun b ps e=>?_⟩,?_,fun x c e=>?_,?_,fun x c e=>?_,fun p hp=>?_,hok,I.len⟩
 · exact keep b o (neL b o e) hb (neC b o e hx) (I.base.keep b o e n hb hx) (I.base.free b o e n hx)
 · obtain⟨sl,e1⟩:=I.base.slot b o e n hb hx
   obtain⟨sl',e2⟩:=slot b _ (neL b o e) hb (neC b o e hx) e1 (I.base.free b o e n hx)
   exact⟨sl',e2⟩
 · obtain⟨o',e1⟩:=I.base.there b o e hx
   exact free b o' (neC b o e hx) e1 (I.base.free b o e n hx)
 · obtain⟨o',e1⟩:=I.base.there b o e hx
   exact there b o' (neC b o e hx) e1
 · obtain⟨m1,e1⟩:=I.base.tbls b ps e
   obtain⟨m2,e2⟩:=tbls b _ e1
   exact⟨m1++m2,by rw[e2,Array.append_assoc]⟩
 · obtain⟨m,hn,hl⟩:=I.loc
   refine⟨m,ns m hn,fun i x v e1 e2 e3=>?_⟩
   obtain⟨u,r,l⟩:=hl i x v e1 e2 e3
   refine⟨u,r,?_⟩
   rcases l with l|⟨k,c,e,z⟩
   · exact .inl l
   · exact .inr ⟨k,c,e,cellK x c e _ z⟩
 · obtain⟨v,z⟩:=I.cell x c e
   exact⟨v,cellK x c e v z⟩
 · obtain⟨m,⟨o,_,_,ho,_⟩,_⟩:=I.loc
   exact free _ o (fun z=>(hch _ z).2.1 rfl) ho I.free
 · obtain⟨v,o,ho,hd⟩:=I.cell x c e
   exact free c o (fun z=>(hch c z).2.2.1 x c e rfl) ho (I.freeC x c e)
 · obtain⟨e,n,ne,nf,d⟩:=I.pin p hp
   have nch:p.1∉ch:=fun z=>(hch p.1 z).2.2.2 p hp rfl
   exact⟨keep p.1 p.2 ne nf nch e n,free p.1 p.2 nch e n,ne,nf,d⟩
theorem Inv.un(I:Inv X pins σ H s)(u:Un X.fs [] H H' s.heap h')(hok:Hl X.prog X.w H' h'):Inv X pins σ H' {s with heap:=h',toks:=t' }:=by
 obtain⟨m,⟨o,es,ep,ho,r⟩,_⟩:=id I.loc
 obtain⟨sl,hL⟩:=u.any ho I.free (by simp)
 exact I.step (g':=s.gens) (d':=s.drawn) (ch:=[]) (fun _ z=>nomatch z) (fun b o _ hb _ e n=>u.keep b o e n hb (by simp)) (fun b o _ hb _ e n=>u.slot b o e n hb (by simp)) (fun b o _ e n=>u.free b o e n (by simp)) (fun b o _ e=>u.there b o e (by simp)) u.tups u.frzs u.tbls (fun m' hm=>by
  obtain⟨o',es',ep',ho',r'⟩:=hm
  rw[ho]at ho';cases ho'
  exact⟨_,es',ep',hL,r'⟩) hok I.bare
theorem Inv.call{g':Array GenState}{d':Drawn}{ch:List Addr}(I:Inv X pins σ H s)(u:Un (frs X.stack) ch H H' s.heap h')(hok:Hl X.prog X.w H' h')(hg:Mv g')
 (hch:∀b∈ch,(b∈X.ex\/X.s₀.heap.objs.size<=b)/\b≠X.env.locals/\(∀x c,X.env.cells.lookup x=some c->c≠b)/\∀p∈X.pn++pins,p.1≠b) :
 Inv X pins σ H' {s with heap:=h',gens:=g',drawn:=d',toks:=t' }:=by
 obtain⟨m,⟨o,es,ep,ho,r⟩,_⟩:=id I.loc
 obtain⟨sl,hL⟩:=u.any ho I.free fun z=>(hch _ z).2.1 rfl
 exact I.step (ch:=ch) hch (fun b o hL hb hc e n=>u.keep b o e n (fun z=>(IC.mp (I.stkSub b z)).elim hL hb) hc) (fun b o _ _ hc e n=>u.any e n hc) (fun b o hc e n=>u.free b o e n hc) (fun b o hc e=>u.there b o e hc) u.tups u.frzs u.tbls (fun m' hm=>by
  obtain⟨o',es',ep',ho',r'⟩:=hm
  rw[ho]at ho';cases ho'
  exact⟨_,es',ep',hL,r'⟩) hok hg
theorem Inv.turned(I:Inv X pins σ H s)(k:∀b o,b≠it->s.heap.get? b=some o->h'.get? b=some o)(hn:H it=none)(hL:it≠X.env.locals)
 (h1:it∈X.ex\/X.s₀.heap.objs.size<=it)(h2:∀x c,X.env.cells.lookup x=some c->c≠it)(h3:∀p∈X.pn++pins,p.1≠it):Inv X pins σ H {s with heap:=h',toks:=t' }:=by
 have nit:∀b u,H b=some u->b≠it:=fun b u e z=>by rw[z,hn]at e;cases e
 refine I.step (g':=s.gens) (d':=s.drawn) (ch:=[it]) (fun b hb=>?_) (fun b o _ _ hc e _=>k b o (fun z=>hc (by simp[z])) e) (fun b o _ _ hc e _=>⟨o.slots,k b o (fun z=>hc (by simp[z])) e⟩) (fun _ _ _ _ n=>n)
  (fun b o hc e=>⟨o,k b o (fun z=>hc (by simp[z])) e⟩) (fun _ _ e=>e) (fun _ _ _ e=>e) (fun b ps e=>⟨#[],by rw[e];simp⟩) (fun m hm=>?_) (fun b u e=>?_) I.bare
 · have e:b=it:=by simpa using hb
   subst e
   exact⟨h1,hL,h2,h3⟩
 · obtain⟨o,es,ep,ho,r⟩:=hm
   exact⟨o,es,ep,k _ o (Mw hL) ho,r⟩
 · refine(I.hok b u e).stay (fun c v hc q=>k c v ?_ q) (fun _ q=>q) fun _ _ q=>q
   rcases hc with z|z
   · rw[z];exact nit b u e
   · exact nit c _ z
theorem Inv.tok(I:Inv X pins σ H s)(t:Nat):Inv X pins σ H {s with toks:=t}:=I.un (h':=s.heap) (t':=t) Un.refl I.hok
theorem Inv.kept{t':Nat}(I:Inv X pins σ H s)(k:∀b u,s.heap.get? b=some u->h'.get? b=some u):Inv X pins σ H {s with heap:=h',toks:=t' }:=I.un (Un.kept k) (I.hok.kept k)
theorem Inv.laid{a:Addr}{o:HO}{t':Nat}(I:Inv X pins σ H s)(k:∀b u,s.heap.get? b=some u->h'.get? b=some u)(hp:s.heap.objs.size<=a)(new:dU X.prog X.w (upd H a o) h' a o) :
 Inv X pins σ (upd H a o) {s with heap:=h',toks:=t' }:=I.un (Un.laid k hp (I.hok.fresh hp)) (I.hok.laid k hp new)
theorem Inv.write{x e:Addr}{o:HO}{t':Nat}(I:Inv X pins σ H s)(mu:G3 (H x))(he:e=x\/H e=some (.own x))(k:∀b u,b≠e->s.heap.get? b=some u->h'.get? b=some u)(heo:∃u,h'.get? e=some u)
 (new:dU X.prog X.w (upd H x o) h' x o):Inv X pins σ (upd H x o) {s with heap:=h',toks:=t' }:=I.un (Un.write mu he k heo) (I.hok.write mu he k heo new)
theorem Inv.pins_of{pins':List (Addr×Obj)}(I:Inv X pins σ H s)(h:∀p∈pins',s.heap.get? p.1=some p.2/\H p.1=none/\p.1≠X.env.locals/\p.1∉X.fs/\∀v,p.2.data ≠ .cell v):Inv X pins' σ H s :=
 ⟨I.ok,I.os,I.bare,I.base,I.loc,I.cell,I.free,I.freeC,fun p hp=>(Jw.mp hp).elim (fun z=>I.pin p (Mp _ z)) (h p),I.hok,I.len⟩
theorem lK(hN:N.Nodup)(a:N[i]?=some x)(b:N[j]?=some x):i=j:=by
 obtain⟨h1,e1⟩:=H0.mp a
 obtain⟨h2,e2⟩:=H0.mp b
 exact(List.getElem_inj hN).mp (e1.trans e2.symm)
theorem jy{M:Model}{v:V}{Q:Unit->HH->Prop}(I:Inv X pins σ H s)(hN:X.N.Nodup)(hi:X.N[i]?=some x)(hx:Loc X.env.scope x)(r:RelV v u)
 (h:∀s',Inv X pins (σ.set i (some v)) H s'->(∃a,JY a s.heap s'.heap/\(a=X.env.locals\/X.env.cells.lookup x=some a))->Q () s')(hf:X.fn x=true\/X.env.scope.names.lookup x=some .local:=by first|exact .inl rfl|exact .inr rfl|assumption):Im M A (storeName X.env x u) Q E s:=by
 obtain⟨m,hn,hl⟩:=id I.loc
 have hcls:(X.env.scope.kind == .class||(X.env.scope.kind == .module&&X.env.locals != X.env.globals))=false:=by rw[I.ok.kind];rfl
 have hiσ:i<σ.length:=by rw[I.len];exact(H0.mp hi).1
 have cne:=I.cne
 have tracked:∀{a:Addr}{h':Heap},(∃o,s.heap.get? a=some o/\H a=none)->JY a s.heap h'->Hl X.prog X.w H h':=fun{a h'} ha hs b ob e=>by
  obtain⟨_,_,hfree⟩:=ha
  refine(I.hok b ob e).stay (fun c w' hc q=>(hs.2 c ?_).trans q) (fun _ q=>q) fun _ _ q=>q
  rintro rfl
  rcases hc with rfl|hc
  · rw[hfree]at e;cases e
  · rw[hfree]at hc;cases hc
 rcases hx with hk|hk
 · refine wpAny_storeName_local hk hn (fun h' hn' hs=>?_) hcls
   obtain⟨oL,_,_,hoL,_⟩:=id hn
   refine h _ ⟨I.ok,I.os,I.bare,⟨fun b o e n hb hx=>?_,fun b o e n hb hx=>?_,I.base.free,fun b o e hx=>?_,I.base.tups,I.base.frzs,I.base.tbls⟩,⟨_,hn',fun j y v' e1 e2 e3=>?_⟩,fun y c e=>?_,I.free,I.freeC,fun p hp=>?_,tracked ⟨oL,hoL,I.free⟩ hs,by simpa using I.len⟩ ⟨_,hs,.inl rfl⟩
   · exact(hs.2 b (Iz (HJ (HN e) I.ok.above))).trans (I.base.keep b o e n hb hx)
   · obtain⟨sl,e1⟩:=I.base.slot b o e n hb hx
     exact⟨sl,(hs.2 b (Iz (HJ (HN e) I.ok.above))).trans e1⟩
   · obtain⟨o',e1⟩:=I.base.there b o e hx
     exact⟨o',(hs.2 b (Iz (HJ (HN e) I.ok.above))).trans e1⟩
   · by_cases hj:j=i
     · subst hj
       rw[hi]at e1;cases e1
       rw[Ia hiσ]at e2
       cases e2
       exact⟨u,r,.inl ⟨hk,by simp⟩⟩
     · rw[HY (Mw hj)]at e2
       obtain⟨u',r',q⟩:=hl j y v' e1 e2 e3
       refine⟨u',r',?_⟩
       rcases q with⟨k,e⟩|⟨k,c,e,z⟩
       · refine .inl ⟨k,?_⟩
         have:y≠x:=fun e=>hj (lK hN e1 (e▸hi))
         simp[this,e]
       · exact .inr ⟨k,c,e,z.sameBut hs (cne y c e)⟩
   · obtain⟨w',z⟩:=I.cell y c e
     exact⟨w',z.sameBut hs (cne y c e)⟩
   · obtain⟨e,n,ne,nf,d⟩:=I.pin p hp
     exact⟨(hs.2 p.1 ne).trans e,n,ne,nf,d⟩
 · have hfn:X.fn x=true:=by
     rcases hf with z|z
     · exact z
     · rw[z]at hk;cases hk
   obtain⟨c,hc⟩:=I.ok.has x (.inl hk)
   obtain⟨w',z⟩:=I.cell x c hc
   refine wpAny_storeName_cell I.ok.kind hk hc z (fun h' hc' hs=>?_)
   obtain⟨oc,hoc,hocd⟩:=id z
   refine h {s with heap:=h' } ⟨I.ok,I.os,I.bare,⟨fun b o e n hb hx=>?_,fun b o e n hb hx=>?_,I.base.free,fun b o e hx=>?_,I.base.tups,I.base.frzs,I.base.tbls⟩,⟨m,hn.sameBut hs (Mw (cne x c hc)),fun j y v' e1 e2 e3=>?_⟩,fun y c' e=>?_,I.free,I.freeC,fun p hp=>?_,tracked ⟨oc,hoc,I.freeC x c hc⟩ hs,by simpa using I.len⟩ ⟨c,hs,.inr hc⟩
   · exact(hs.2 b (Iz (HJ (HN e) (I.ok.cab x c hfn hc)))).trans (I.base.keep b o e n hb hx)
   · obtain⟨sl,e1⟩:=I.base.slot b o e n hb hx
     exact⟨sl,(hs.2 b (Iz (HJ (HN e) (I.ok.cab x c hfn hc)))).trans e1⟩
   · obtain⟨o',e1⟩:=I.base.there b o e hx
     exact⟨o',(hs.2 b (Iz (HJ (HN e) (I.ok.cab x c hfn hc)))).trans e1⟩
   · by_cases hj:j=i
     · subst hj
       rw[hi]at e1;cases e1
       rw[Ia hiσ]at e2
       cases e2
       exact⟨u,r,.inr ⟨.inl hk,c,hc,hc'⟩⟩
     · rw[HY (Mw hj)]at e2
       obtain⟨u',r',q⟩:=hl j y v' e1 e2 e3
       refine⟨u',r',?_⟩
       rcases q with q|⟨k,c',e,z'⟩
       · exact .inl q
       · refine .inr ⟨k,c',e,z'.sameBut hs ?_⟩
         rintro rfl
         exact hj (lK hN e1 (I.ok.inj _ _ _ e hc▸hi))
   · by_cases hcc:c'=c
     · subst hcc;exact⟨_,hc'⟩
     · obtain⟨w2,z2⟩:=I.cell y c' e
       exact⟨w2,z2.sameBut hs hcc⟩
   · obtain⟨e,n,ne,nf,d⟩:=I.pin p hp
     refine⟨(hs.2 p.1 ?_).trans e,n,ne,nf,d⟩
     intro q
     rw[q,hoc]at e
     have q':oc=p.2:=Ii e
     exact d w' (by rw[<- q'];exact hocd)
theorem f_{M:Model}{v:V}{Q:Unit->HH->Prop}(I:Inv X pins σ H s)(hN:X.N.Nodup)(hi:X.N[i]?=some x)(hx:Loc X.env.scope x)(r:RelV v u)
 (h:∀s',Inv X pins (σ.set i (some v)) H s'->Q () s')(hf:X.fn x=true\/X.env.scope.names.lookup x=some .local:=by first|exact .inl rfl|exact .inr rfl|assumption):Im M A (storeName X.env x u) Q E s :=
 jy I hN hi hx r (fun s' I' _=>h s' I') hf
end
abbrev XK:=HE->Option Addr->Hp->Prop
abbrev St:=List (Option V)
abbrev VK:=V->Hp->Prop
abbrev TE:=St->Hp->VK->Prop
abbrev TT:=St->Hp->(Bool->Hp->Prop)->Prop
abbrev TA:=St->Hp->(List V->Hp->Prop)->Prop
structure Ends where
 nx:St->Hp->Prop
 rt:VK
 bk:St->Hp->Prop:=fun _ _=>False
 ct:St->Hp->Prop:=fun _ _=>False
abbrev TS:=Ends->St->Hp->Prop
noncomputable def EP(X:Cx)(pins:List (Addr×Obj))(σ:St)(Q:VK)(u:HE)(s':HH):Prop:=∃v H',Inv X pins σ H' s'/\RelV v u/\Q v H'
noncomputable def TP(X:Cx)(pins:List (Addr×Obj))(σ:St)(Q:Bool->Hp->Prop)(b:Bool)(s':HH):Prop:=∃H',Inv X pins σ H' s'/\Q b H'
noncomputable def AP(X:Cx)(pins:List (Addr×Obj))(σ:St)(Q:List V->Hp->Prop)(us:List HE)(s':HH):Prop:=∃vs H',Inv X pins σ H' s'/\dq vs us/\Q vs H'
noncomputable def SP(X:Cx)(pins:List (Addr×Obj))(D:Ends)(f:Flow)(s':HH):Prop :=
 match f with
 | .next=>∃σ' H',Inv X pins σ' H' s'/\D.nx σ' H'
 | .brk=>∃σ' H',Inv X pins σ' H' s'/\D.bk σ' H'
 | .cont=>∃σ' H',Inv X pins σ' H' s'/\D.ct σ' H'
 | .ret u=>∃v σ' H',Inv X pins σ' H' s'/\RelV v u/\D.rt v H'
noncomputable def PE(X:Cx)(e:Expr)(t:TE):Prop :=
 ∀(pins:List (Addr×Obj))(s:HH)(σ:St)(H:Hp)(Q:VK),Inv X pins σ H s->t σ H Q->Im (IH X.prog X.w) X.A (eval e X.env) (EP X pins σ Q) X.xe s
noncomputable def PT(X:Cx)(e:Expr)(t:TT):Prop :=
 ∀(pins:List (Addr×Obj))(s:HH)(σ:St)(H:Hp)(Q:Bool->Hp->Prop),Inv X pins σ H s->t σ H Q->Im (IH X.prog X.w) X.A (isTrue e X.env (eval e X.env)) (TP X pins σ Q) X.xe s
noncomputable def PW(X:Cx)(e:Expr)(t:TT):Prop :=
 ∀(whole:Sem HE)(pins:List (Addr×Obj))(s:HH)(σ:St)(H:Hp)(Q:Bool->Hp->Prop),Inv X pins σ H s->t σ H Q->Im (IH X.prog X.w) X.A (isTrue e X.env whole) (TP X pins σ Q) X.xe s
theorem PW.pt{X:Cx}{e:Expr}{t:TT}(h:PW X e t):PT X e t:=h _
noncomputable def PA(X:Cx)(es:List Expr)(t:TA):Prop :=
 ∀(pos:Pos)(pins:List (Addr×Obj))(s:HH)(σ:St)(H:Hp)(Q:List V->Hp->Prop),Inv X pins σ H s->t σ H Q->Im (IH X.prog X.w) X.A (spliced (Jv pos (HL es X.env))) (AP X pins σ Q) X.xe s
noncomputable def PS(X:Cx)(st:Stmt)(t:TS):Prop :=
 ∀(pins:List (Addr×Obj))(s:HH)(σ:St)(H:Hp)(D:Ends),Inv X pins σ H s->t D σ H->Im (IH X.prog X.w) X.A (exec st X.env) (SP X pins D) X.xe s
noncomputable def GS(X:Cx)(st:List Stmt)(t:TS):Prop :=
 ∀(pins:List (Addr×Obj))(s:HH)(σ:St)(H:Hp)(D:Ends),Inv X pins σ H s->t D σ H->Im (IH X.prog X.w) X.A (execs st X.env) (SP X pins D) X.xe s
theorem Eg{t:Sem α}{Q Q':α->HH->Prop}{M:Model}(h:Im M A t Q E s)(hQ:∀a s,Q a s->Q' a s):Im M A t Q' E s:=JW h hQ fun _ _ x=>x
section
variable{X:Cx}
noncomputable def zB(i:Nat):TE:=fun σ H Q=>∃v,σ[i]?=some (some v)/\Q v H
noncomputable def tC(v:V):TE:=fun _ H Q=>Q v H
theorem dW(hN:X.N[i]?=some x)(hv:Gv X.env.scope x)(hd:(x==("__debug__" : Str))=false:=by decide)(hcd:(x==("__classdict__" : Str))=false:=by decide):PE X (.Name x pos) (zB i):=by
 intro pins s σ H Q I h
 obtain⟨v,e,h⟩:=h
 obtain⟨m,hn,hl⟩:=I.loc
 obtain⟨u,r,l⟩:=hl i x v hN e hv
 have fin:EP X pins σ Q u s:=⟨v,H,I,r,h⟩
 rcases l with⟨hk,hm⟩|⟨hk,c,hc,hcell⟩
 · exact wpAny_Name (wpAny_loadName_local I.ok.kind hk hn hm fin) hd
 · rcases hk with hk|hk
   · exact wpAny_Name (wpAny_loadName_cell I.ok.kind hk hc hcell fin) hd
   · exact wpAny_Name (wpAny_loadName_free I.ok.kind hk hc hcell fin hcd) hd
theorem iq{i j pos}:PE X (.Constant (.int i) j pos) (tC (.int i)):=fun _ _ _ H _ I h=>wpAny_Constant_int ⟨.int i,H,I.tok _,⟨_,rfl⟩,h⟩
theorem Aa{b j pos}:PE X (.Constant (.bool b) j pos) (tC (.bl b)):=fun _ _ _ H _ I h=>Constant_bool ⟨.bl b,H,I,rfl,h⟩
theorem xE{j pos}:PE X (.Constant .none j pos) (tC .non):=fun _ _ _ H _ I h=>Constant_none ⟨.non,H,I,rfl,h⟩
theorem dD{x j pos}:PE X (.Constant (.str x) j pos) (tC (.str x)):=fun _ _ _ H _ I h=>Calls.Constant_str ⟨.str x,H,I.tok _,⟨_,rfl⟩,h⟩
noncomputable def Gl(X:Cx)(x:Str):Prop:=X.env.kindOf x=some .globalImplicit
theorem oV{σ:St}{H:Hp}(I:Inv X pins σ H s)(hg:Gl X x)(hm:X.mg x=some u)(h:Q u s)
 (hd:(x==("__debug__" : Str))=false:=by decide):Im (IH X.prog X.w) X.A (eval (.Name x pos) X.env) Q E s :=
 Lr I.ok.kind hg (Calls.loadGlobal_global (by rw[I.ok.glob];exact I.mod.glob.keeps I.bk) hm h) hd
theorem iB{σ:St}{H:Hp}(I:Inv X pins σ H s)(hg:Gl X x)(hm:X.mg x=none)(hv:Kc x=some u)(h:Q u s)
 (hn:x ≠ "__name__" := by decide)(hd:(x==("__debug__" : Str))=false:=by decide):Im (IH X.prog X.w) X.A (eval (.Name x pos) X.env) Q E s:=by
 obtain⟨mb,h1,h2⟩:=I.mod.blt
 exact Lr I.ok.kind hg (Calls.loadGlobal_builtin (by rw[I.ok.glob];exact I.mod.glob.keeps I.bk) hm (by rw[I.ok.blt];exact h1.keeps I.bk) ((h2 x hn).trans hv) h) hd
theorem oq{v:V}(hg:Gl X x)(hm:X.mg x=some u)(r:RelV v u)(hd:(x==("__debug__" : Str))=false:=by decide):PE X (.Name x pos) (tC v) :=
 fun _ _ _ H _ I h=>oV I hg hm ⟨v,H,I,r,h⟩ hd
theorem uH{v:V}(hg:Gl X x)(hm:X.mg x=none)(hv:Kc x=some u)(r:RelV v u)(hn:x ≠ "__name__" := by decide)(hd:(x==("__debug__" : Str))=false:=by decide):PE X (.Name x pos) (tC v) :=
 fun _ _ _ H _ I h=>iB I hg hm hv ⟨v,H,I,r,h⟩ hn hd
variable{a b:Expr}{ta tb:TE}{pos:Pos}
noncomputable def tB(t:TE):TT:=fun σ H Q=>t σ H fun x H1=>∃c,x = .bl c/\Q c H1
theorem xt{e:Expr}{t:TE}(h:PE X e t)(he:∀whole,isTrue e X.env whole=(do let v <- whole;standAt e.pos;holding [v] (truthy v)):=by intro _;rfl):PT X e (tB t):=by
 intro pins s σ H Q I hw
 refine isTrue_plain (Eg (h pins s σ H _ I hw) fun v s1 ⟨x,H1,I1,r1,q1⟩=>?_) (he _)
 obtain⟨d,rfl,q⟩:=q1
 cases r1
 exact JF ⟨H1,I1,q⟩
variable{tA tB':TT}{rest:List Expr}
noncomputable def CQ(t u:TT):TT:=fun σ H Q=>t σ H fun c H1=>if c=true then u σ H1 Q else Q false H1
noncomputable def Ek(t u:TT):TT:=fun σ H Q=>t σ H fun c H1=>if c=true then Q true H1 else u σ H1 Q
noncomputable def CL(t:TT):TT:=fun σ H Q=>t σ H fun c H1=>Q (!c) H1
theorem ur(ha:PT X a tA):PW X (.BoolOp .And [a] pos) tA:=by
 intro wh pins s σ H Q I h
 refine isTrue_and (Eg (ha pins s σ H Q I h) fun c s1 e=>?_)
 cases c with
 | true=>exact isTrue_and_nil e
 | false=>exact e
theorem xq(ha:PT X a tA):PW X (.BoolOp .Or [a] pos) tA:=by
 intro wh pins s σ H Q I h
 refine isTrue_or (Eg (ha pins s σ H Q I h) fun c s1 e=>?_)
 cases c with
 | false=>exact isTrue_or_nil e
 | true=>exact e
theorem xr(ha:PT X a tA)(hb:PW X (.BoolOp .And (b::rest) pos) tB'):PW X (.BoolOp .And (a::b::rest) pos) (CQ tA tB'):=by
 intro wh pins s σ H Q I h
 refine isTrue_and (Eg (ha pins s σ H _ I h) fun c s1 ⟨H1,I1,q1⟩=>?_)
 cases c with
 | true=>exact hb wh pins s1 σ H1 Q I1 q1
 | false=>exact⟨H1,I1,q1⟩
theorem zT(ha:PT X a tA)(hb:PW X (.BoolOp .Or (b::rest) pos) tB'):PW X (.BoolOp .Or (a::b::rest) pos) (Ek tA tB'):=by
 intro wh pins s σ H Q I h
 refine isTrue_or (Eg (ha pins s σ H _ I h) fun c s1 ⟨H1,I1,q1⟩=>?_)
 cases c with
 | true=>exact⟨H1,I1,q1⟩
 | false=>exact hb wh pins s1 σ H1 Q I1 q1
theorem xu(ha:PT X a tA):PT X (.UnaryOp .Not a pos) (CL tA):=by
 intro pins s σ H Q I h
 exact isTrue_not (ha pins s σ H (fun c H1=>Q (!c) H1) I h)
noncomputable def zL(ta tb:TE):TE:=fun σ H Q=>ta σ H fun x H1=>∃c,x = .bl c/\if c=true then tb σ H1 Q else Q (.bl false) H1
noncomputable def CK(ta tb:TE):TE:=fun σ H Q=>ta σ H fun x H1=>∃c,x = .bl c/\if c=true then Q (.bl true) H1 else tb σ H1 Q
noncomputable def zE(ta:TE):TE:=fun σ H Q=>ta σ H fun x H1=>∃c,x = .bl c/\Q (.bl (!c)) H1
theorem xC{op}{t:TE}(h:PE X a t):PE X (.BoolOp op [a] pos) t:=fun pins s σ H Q I hw=>BoolOp_one (h pins s σ H Q I hw)
theorem xH(ha:PE X a ta)(hb:PE X (.BoolOp .And (b::rest) pos) tb):PE X (.BoolOp .And (a::b::rest) pos) (zL ta tb):=by
 intro pins s σ H Q I h
 refine BoolOp_and (Eg (ha pins s σ H _ I h) fun v s1 ⟨x,H1,I1,r1,q1⟩=>?_)
 obtain⟨c,rfl,q1⟩:=q1
 cases r1
 refine JF ?_
 cases c with
 | true=>exact hb pins s1 σ H1 Q I1 q1
 | false=>exact⟨.bl false,H1,I1,rfl,q1⟩
theorem z9(ha:PE X a ta)(hb:PE X (.BoolOp .Or (b::rest) pos) tb):PE X (.BoolOp .Or (a::b::rest) pos) (CK ta tb):=by
 intro pins s σ H Q I h
 refine BoolOp_or (Eg (ha pins s σ H _ I h) fun v s1 ⟨x,H1,I1,r1,q1⟩=>?_)
 obtain⟨c,rfl,q1⟩:=q1
 cases r1
 refine JF ?_
 cases c with
 | false=>exact hb pins s1 σ H1 Q I1 q1
 | true=>exact⟨.bl true,H1,I1,rfl,q1⟩
theorem xD(ha:PE X a ta):PE X (.UnaryOp .Not a pos) (zE ta):=by
 intro pins s σ H Q I h
 refine UnaryOp_ (Eg (ha pins s σ H _ I h) fun v s1 ⟨x,H1,I1,r1,q1⟩=>?_)
 obtain⟨c,rfl,q1⟩:=q1
 cases r1
 exact not_of (JF ⟨.bl (!c),H1,I1,rfl,q1⟩)
noncomputable def Em(t:TT)(ta tb:TE):TE:=fun σ H Q=>t σ H fun c H1=>if c=true then ta σ H1 Q else tb σ H1 Q
theorem qS{c:Expr}(hc:PT X c tA)(ha:PE X a ta)(hb:PE X b tb):PE X (.IfExp c a b pos) (Em tA ta tb):=by
 intro pins s σ H Q I h
 refine wpAny_IfExp (Eg (hc pins s σ H _ I h) fun d s1 ⟨H1,I1,q1⟩=>?_)
 cases d with
 | true=>exact ha pins s1 σ H1 Q I1 q1
 | false=>exact hb pins s1 σ H1 Q I1 q1
end
noncomputable def GF(K:W.Frag)(H:Hp)(a:Addr)(xs:List V):Prop :=
 Rd H a (.lst xs) \/
  ∃(o:Obj)(its:Array HE)(n:Nat),K.lookup a=some o/\o.cls = .type "list" /\ o.dict=none/\o.data = .seq its n/\its.size<=sizeLine/\dq xs its.toList
noncomputable def GE(K:W.Frag)(H:Hp)(a:Addr)(xs:List V):Prop :=
 Rd H a (.tup xs) \/
  ∃(o:Obj)(its:Array HE)(n:Nat),K.lookup a=some o/\o.cls = .type "tuple" /\ o.data = .seq its n/\its.size<=sizeLine/\dq xs its.toList/\o.dict=none
noncomputable def Dc:HE->Option V
 | .none=>some .non
 | .bool b=>some (.bl b)
 | .int i _=>some (.int i)
 | .str x _=>some (.str x)
 | .bytes b _=>some (.byt b)
 | .float b _=>some (.flt b)
 | .ref a=>some (.ref a)
 | .type n=>some (.ty n)
 | _=>none
theorem RelV.abs{x:V}(r:RelV x u):Dc u=some x:=by
 cases x with
 | non=>cases r;rfl
 | bl _=>cases r;rfl
 | int _=>obtain⟨t,rfl⟩:=r;rfl
 | str _=>obtain⟨t,rfl⟩:=r;rfl
 | byt _=>obtain⟨t,rfl⟩:=r;rfl
 | flt _=>obtain⟨t,rfl⟩:=r;rfl
 | ref _=>cases r;rfl
 | ty _=>cases r;rfl
theorem RelV.inj{x y:V}(r:RelV x u)(q:RelV y u):x=y:=Ii (r.abs.symm.trans q.abs)
theorem dq.inj:∀{xs ys:List V}{us:List HE},dq xs us->dq ys us->xs=ys
 | _,_,_,.nil,.nil=>rfl
 | _,_,_,.cons r t,.cons r' t'=>by rw[r.inj r',dq.inj t t']
section
variable{X:Cx}{pins:List (Addr×Obj)}{σ:St}{H:Hp}{s:HH}{a:Addr}{xs ys:List V}
theorem Inv.list(I:Inv X pins σ H s)(h:GF X.K H a xs):∃its:List HE,dq xs its/\PlainL s.heap a its.toArray/\xs.length<=sizeLine:=by
 rcases h with h|⟨o,its,n,hk,hc,hd,hs,hz,r⟩
 · obtain⟨z,its,n,r,e⟩:=h.ok I.hok
   exact⟨its,r,⟨_,n,e,rfl,rfl,rfl⟩,z⟩
 · refine⟨its.toList,r,⟨o,n,I.kIn a o hk,hc,hd,by simpa using hs⟩,?_⟩
   have e:=r.length
   simp only[Lh]at e
   omega
theorem Inv.tuple(I:Inv X pins σ H s)(h:GE X.K H a xs):∃its:List HE,dq xs its/\Nf s.heap a its.toArray/\xs.length<=sizeLine:=by
 rcases h with h|⟨o,its,n,hk,hc,hs,hz,r,hd⟩
 · obtain⟨z,its,r,p⟩:=h.ok I.hok
   exact⟨its,r,p.tup,z⟩
 · refine⟨its.toList,r,⟨o,I.kIn a o hk,hc,n,by simpa using hs⟩,?_⟩
   have e:=r.length
   simp only[Lh]at e
   omega
theorem Inv.list_inj(I:Inv X pins σ H s)(h:GF X.K H a xs)(h':GF X.K H a ys):xs=ys:=by
 obtain⟨its,r,⟨o,n,e,_,_,d⟩,_⟩:=I.list h
 obtain⟨its',r',⟨o',n',e',_,_,d'⟩,_⟩:=I.list h'
 rw[e]at e';cases e'
 rw[d]at d'
 injection d' with d1 _
 have:its=its':=by simpa using congrArg Array.toList d1
 subst this
 exact r.inj r'
theorem Inv.tupleD(I:Inv X pins σ H s)(h:GE X.K H a xs):∃ob,s.heap.get? a=some ob/\ob.cls = .type "tuple" /\ ob.dict=none:=by
 rcases h with h|⟨o,its,n,hk,hc,hs,hz,r,hd⟩
 · obtain⟨z,its,r,⟨o,e1,e2,_,e3⟩⟩:=h.ok I.hok
   exact⟨o,e1,e2,e3⟩
 · exact⟨o,I.kIn a o hk,hc,hd⟩
theorem Inv.tuple_inj(I:Inv X pins σ H s)(h:GE X.K H a xs)(h':GE X.K H a ys):xs=ys:=by
 obtain⟨its,r,⟨o,e,_,n,d⟩,_⟩:=I.tuple h
 obtain⟨its',r',⟨o',e',_,n',d'⟩,_⟩:=I.tuple h'
 rw[e]at e';cases e'
 rw[d]at d'
 injection d' with d1 _
 have:its=its':=by simpa using congrArg Array.toList d1
 subst this
 exact r.inj r'
end
abbrev Cx.wish(X:Cx)(E:HE->HH->Prop):Cx:={X with xe:=E}
abbrev Cx.nox(X:Cx):Cx:=X.wish fun _ _=>False
theorem Cx.Ok.wish{X:Cx}(ok:X.Ok)(E:HE->HH->Prop):(X.wish E).Ok :=
 ⟨ok.mod,ok.kind,ok.glob,ok.blt,ok.above,ok.inj,ok.has,ok.cab,ok.hd,ok.frames,ok.stk,ok.exf,ok.bs,ok.bsz,ok.noex,ok.exfs,ok.funs,ok.frf⟩
theorem Cx.Ok.unwish{X:Cx}(ok:(X.wish E).Ok):X.Ok :=
 ⟨ok.mod,ok.kind,ok.glob,ok.blt,ok.above,ok.inj,ok.has,ok.cab,ok.hd,ok.frames,ok.stk,ok.exf,ok.bs,ok.bsz,ok.noex,ok.exfs,ok.funs,ok.frf⟩
section
variable{X:Cx}{pins:List (Addr×Obj)}{σ:St}{H:Hp}{s:HH}{E:HE->HH->Prop}
theorem Inv.wish(I:Inv X pins σ H s)(E:HE->HH->Prop):Inv (X.wish E) pins σ H s:=⟨I.ok.wish E,I.os,I.bare,I.base,I.loc,I.cell,I.free,I.freeC,I.pin,I.hok,I.len⟩
theorem Inv.unwish(I:Inv (X.wish E) pins σ H s):Inv X pins σ H s:=⟨I.ok.unwish,I.os,I.bare,I.base,I.loc,I.cell,I.free,I.freeC,I.pin,I.hok,I.len⟩
theorem SP.unwish{D:Ends}{f:Flow}{s':HH}(h:SP (X.wish E) pins D f s'):SP X pins D f s':=by
 cases f with
 | next=>obtain⟨σ',H',I,q⟩:=h;exact⟨σ',H',I.unwish,q⟩
 | brk=>obtain⟨σ',H',I,q⟩:=h;exact⟨σ',H',I.unwish,q⟩
 | cont=>obtain⟨σ',H',I,q⟩:=h;exact⟨σ',H',I.unwish,q⟩
 | ret u=>obtain⟨v,σ',H',I,r,q⟩:=h;exact⟨v,σ',H',I.unwish,r,q⟩
theorem GS.nox{st:List Stmt}{t:TS}(h:GS X.nox st t):GS X st t:=fun pins s σ H D I hw =>
 JW (h pins s σ H D (I.wish _) hw) (fun _ _ q=>q.unwish) fun _ _ z=>Jm z
end
section
variable{X:Cx}{st:Stmt}{rest:List Stmt}{t u:TS}{e:Expr}{te:TE}{pos:Pos}
noncomputable def zF:TS:=fun D σ H=>D.nx σ H
noncomputable def CH(t u:TS):TS:=fun D σ H=>t {D with nx:=u D} σ H
theorem oh:GS X [] zF:=fun _ _ σ H _ I h=>Li ⟨σ,H,I,h⟩
theorem ge(h1:PS X st t)(h2:GS X rest u):GS X (st::rest) (CH t u):=by
 intro pins s σ H D I h
 refine wpAny_execs_cons (Eg (h1 pins s σ H {D with nx:=u D} I h) fun f s1 q=>?_)
 cases f with
 | next =>
   obtain⟨σ',H',I',q⟩:=q
   exact h2 pins s1 σ' H' D I' q
 | ret v=>exact q
 | brk=>exact q
 | cont=>exact q
theorem og(h1:PS X st t):GS X [st] t:=by
 intro pins s σ H D I h
 refine wpAny_execs_cons (Eg (h1 pins s σ H D I h) fun f s1 q=>?_)
 cases f with
 | next=>exact Li q
 | ret v=>exact q
 | brk=>exact q
 | cont=>exact q
theorem Inv.quiet{σ:St}{H:Hp}(I:Inv X pins σ H s):interactive X.env=false:=by simp[interactive,I.ok.kind]
noncomputable def zG(te:TE):TS:=fun D σ H=>te σ H fun _ H1=>D.nx σ H1
theorem kM(he:PE X e te)(hs:JU e none pos.line X.env=pure false:=by rfl):PS X (.Expr e pos) (zG te):=by
 intro pins s σ H D I h
 exact wpAny_Expr_any (Eg (he pins s σ H _ I h) fun v s1 ⟨x,H1,I1,r1,q1⟩=>⟨σ,H1,I1,q1⟩) I.quiet hs
noncomputable def CI(te:TE):TS:=fun D σ H=>te σ H D.rt
theorem sR(he:PE X e te):PS X (.Return (some e) pos) (CI te):=by
 intro pins s σ H D I h
 exact wpAny_Return_some (Eg (he pins s σ H _ I h) fun v s1 ⟨x,H1,I1,r1,q1⟩=>⟨x,σ,H1,I1,r1,q1⟩)
noncomputable def CO(c:TT)(t u:TS):TS:=fun D σ H=>c σ H fun b H1=>if b=true then t D σ H1 else u D σ H1
theorem zX{c:Expr}{a b:List Stmt}{tc:TT}(hc:PT X c tc)(ha:GS X a t)(hb:GS X b u):PS X (.If c a b pos) (CO tc t u):=by
 intro pins s σ H D I h
 refine wpAny_If (Eg (hc pins s σ H _ I h) fun d s1 ⟨H1,I1,q1⟩=>?_)
 cases d with
 | true=>exact ha pins s1 σ H1 D I1 q1
 | false=>exact hb pins s1 σ H1 D I1 q1
noncomputable def wL:TS:=fun _ _ _=>False
theorem qO:PS X st wL:=fun _ _ _ _ _ _ h=>h.elim
end
abbrev TG:=V->St->Hp->(St->Hp->Prop)->Prop
abbrev GD:=List V->St->Hp->(St->Hp->Prop)->Prop
noncomputable def PG(X:Cx)(target:Expr)(t:TG):Prop :=
 ∀ (pins:List (Addr×Obj))(s:HH)(σ:St)(H:Hp)(v:V)(u:HE)(Q:St->Hp->Prop),Inv X pins σ H s->RelV v u->t v σ H Q ->
   Im (IH X.prog X.w) X.A (ME target X.env u) (fun _ s'=>∃σ' H',Inv X pins σ' H' s'/\Q σ' H') X.xe s
noncomputable def GY(X:Cx)(ts:List Expr)(t:GD):Prop :=
 ∀ (pins:List (Addr×Obj))(s:HH)(σ:St)(H:Hp)(vs:List V)(us:List HE)(Q:St->Hp->Prop),Inv X pins σ H s->dq vs us->t vs σ H Q ->
   Im (IH X.prog X.w) X.A (MF ((Ki ts X.env).map (·.2)) us) (fun _ s'=>∃σ' H',Inv X pins σ' H' s'/\Q σ' H') X.xe s
section
variable{X:Cx}{pos:Pos}
noncomputable def rK(i:Nat):TG:=fun v σ H Q=>Q (σ.set i (some v)) H
theorem uE(hN:X.N.Nodup)(hi:X.N[i]?=some x)(hx:Loc X.env.scope x)(hf:X.fn x=true\/X.env.scope.names.lookup x=some .local:=by first|exact .inl rfl|exact .inr rfl|assumption):PG X (.Name x pos) (rK i):=by
 intro pins s σ H v u Q I r h
 exact wpAny_assign_Name (f_ I hN hi hx r (fun s' I'=>⟨_,H,I',h⟩) hf)
noncomputable def C_:GD:=fun vs σ H Q=>vs=[]/\Q σ H
noncomputable def Ay(t:TG)(u:GD):GD:=fun vs σ H Q=>∃v r,vs=v::r/\t v σ H fun σ' H'=>u r σ' H' Q
theorem uD:GY X [] C_:=by
 intro pins s σ H vs us Q I r h
 obtain⟨e,h⟩:=h
 subst e
 cases r
 exact assignInOrder_nil ⟨σ,H,I,h⟩
theorem qR{e:Expr}{es:List Expr}{t:TG}{u:GD}(h1:PG X e t)(h2:GY X es u)
 (hs:(Ki (e::es) X.env).map (·.2)=ME e X.env::(Ki es X.env).map (·.2):=by rfl):GY X (e::es) (Ay t u):=by
 intro pins s σ H vs us Q I r h
 obtain⟨v,vr,e1,h⟩:=h
 subst e1
 cases r with
 | cons r rr =>
   rw[hs]
   refine Lx (Eg (h1 pins s σ H _ _ _ I r h) fun _ s1 ⟨σ1,H1,I1,q1⟩=>?_)
   exact h2 pins s1 σ1 H1 _ _ Q I1 rr q1
noncomputable def C9(K:W.Frag)(n:Nat)(t:GD):TG:=fun v σ H Q=>∃a xs,v = .ref a/\GE K H a xs/\xs.length=n/\t xs σ H Q
theorem xz{es:List Expr}{k:Nat}{t:GD}(hc:X.calm=true)(h:GY X es t)
 (hn:(Ki es X.env).length=n:=by rfl)(hst:(Ki es X.env).findIdx? (·.1)=none:=by rfl):PG X (.Tuple es k pos) (C9 X.K n t):=by
 intro pins s σ H v u Q I r hw
 obtain⟨a,xs,e1,hq,hl,hw⟩:=hw
 subst e1
 cases r
 obtain⟨its,rv,ht,hz⟩:=I.tuple hq
 refine assign_Tuple_tuple (I.ok.hd hc) ht (by simp[hn,<- hl,rv.length]) hst fun h' hx=>?_
 have I1:Inv X pins σ H {s with heap:=h' }:=I.kept (t':=s.toks) fun b o e=>hx b o (Iz (HN e)) e
 exact h pins _ σ H xs _ Q I1 (by simpa using rv) hw
noncomputable def zK(te:TE)(g:TG):TS:=fun D σ H=>te σ H fun x H1=>g x σ H1 D.nx
theorem xw{e:Expr}{te:TE}{g:TG}(he:PE X e te)(hg:PG X tg g)(hs:LQ [tg] e pos.line X.env=pure false:=by rfl)(hw:LR [tg] e X.env=pure none:=by rfl)
 (h1:(Ki [tg] X.env).map (·.2)=[ME tg X.env]:=by rfl):PS X (.Assign [tg] e pos) (zK te g):=by
 intro pins s σ H D I h
 refine wpAny_Assign_stores (Eg (he pins s σ H _ I h) fun v s1 ⟨x,H1,I1,r1,q1⟩=>?_) hs hw
 rw[h1]
 exact Eg (hg pins s1 σ H1 x v _ I1 r1 q1) fun _ s2 q=>q
theorem jS{e:Expr}{te:TE}{pos':Pos}(hN:X.N.Nodup)(hi:X.N[i]?=some x)(hx:Loc X.env.scope x)(he:PE X e te)(hs:JU e (some (.Name x pos')) pos.line X.env=pure false:=by rfl)(hf:X.fn x=true\/X.env.scope.names.lookup x=some .local:=by first|exact .inl rfl|exact .inr rfl|assumption) :
 PS X (.Assign [.Name x pos'] e pos) (zK te (rK i)):=by
 intro pins s σ H D I h
 refine wpAny_Assign_Name (Eg (he pins s σ H _ I h) fun v s1 ⟨y,H1,I1,r1,q1⟩=>?_) hs
 exact f_ I1 hN hi hx r1 (fun s2 I2=>⟨_,H1,I2,q1⟩) hf
noncomputable def CJ(i j:Nat)(ta:TA):TS:=fun D σ H=>ta σ H fun vs H1=>∃v w,vs=[v,w]/\D.nx ((σ.set i (some v)).set j (some w)) H1
theorem xv{y:Str}{a b:Expr}{ta:TA}{py pt:Pos}{kt k2 pt2}(hc:X.calm=true)(hN:X.N.Nodup)(hi:X.N[i]?=some x)(hj:X.N[j]?=some y)(hij:i≠j)
 (hx:X.env.scope.names.lookup x=some .local)(hy:X.env.scope.names.lookup y=some .local)(ha:PA X [a,b] ta)
 (hw:LR [.Tuple [.Name x px,.Name y py] kt pt] (.Tuple [a,b] k2 pt2) X.env=pure (some [x,y]))
 (hs:LQ [.Tuple [.Name x px,.Name y py] kt pt] (.Tuple [a,b] k2 pt2) pos.line X.env=pure false:=by rfl) :
 PS X (.Assign [.Tuple [.Name x px,.Name y py] kt pt] (.Tuple [a,b] k2 pt2) pos) (CJ i j ta):=by
 intro pins s σ H D I h
 rw[exec_Assign_arm]
 refine HB (MG ?_)
 rw[hs]
 refine HB (HQ ?_)
 rw[if_neg (by decide)]
 refine HB (Tuple_ (Eg (ha _ pins s σ H _ I h) fun us s1 ⟨vs,H1,I1,r1,q1⟩=>?_))
 obtain⟨v,w,e1,q1⟩:=q1
 subst e1
 obtain⟨u1,u2,rfl,rv,rw'⟩:∃u1 u2,us=[u1,u2]/\RelV v u1/\RelV w u2:=by
  cases r1 with
  | cons p q =>
    cases q with
    | cons p' q' =>
      cases q'
      exact⟨_,_,rfl,p,p'⟩
 refine Jk ?_ (by show 2<=sizeLine;decide)
 have I2:Inv X pins σ H1 {s1 with heap:=s1.heap.push {cls:=.type "tuple", data:=.seq [u1,u2].toArray}}:=I1.kept (t':=s1.toks) fun b o e=>HK _ e
 rw[hw]
 refine HB (HQ ?_)
 show Im (IH X.prog X.w) X.A (do rule "assign.swapped-stores"; let items <- unpackItems (.ref s1.heap.objs.size) 2 none;MF [fun v=>bindName X.env y v,fun v=>bindName X.env x v] items.reverse;pure Flow.next) _ _ _
 refine HB (Lf (HB (unpackItems_tuple (items:=#[u1,u2]) (I.ok.hd hc) (Nf.new s1.heap _) fun h' hx'=>?_)))
 have I3:=I2.kept (h':=h') (t':=s1.toks) fun b o e=>hx' b o (Iz (HN e)) e
 show Im _ _ (MF [fun v=>bindName X.env y v,fun v=>bindName X.env x v] [u2,u1] >>= fun _=>pure Flow.next) _ _ _
 refine HB (Lx (wpAny_bindName (f_ I3 hN hj (.inl hy) rw' (fun s2 I4=>?_) (.inr hy))))
 refine Lx (wpAny_bindName (f_ I4 hN hi (.inl hx) rv (fun s3 I5=>assignInOrder_nil (HQ ?_)) (.inr hx)))
 rw[List.set_comm _ _ (Mw hij)]at I5
 exact⟨_,H1,I5,q1⟩
end
section
variable{X:Cx}{pos:Pos}
noncomputable def wK(c:TT)(tb:TS):TS:=fun D σ H=>∃W:Nat->St->Hp->Prop,(∃m,W m σ H)/\∀m σ H,W m σ H ->
 c σ H fun b H1=>if b=true then ∃N:St->Hp->Prop,(∀σ' H',N σ' H'->∃m',m'<m/\W m' σ' H')/\tb {D with nx:=N,ct:=N,bk:=D.nx} σ H1 else D.nx σ H1
theorem qN{c:Expr}{body:List Stmt}{tc:TT}{tb:TS}(hp:MH (IH X.prog X.w) X.A X.env X.xe)(hc:PT X c tc)(hb:GS X body tb):PS X (.While c body [] pos) (wK tc tb):=by
 intro pins s σ H D I h
 obtain⟨W,⟨m0,w0⟩,turn⟩:=h
 refine wpAny_While (codeAny_whileLoop (fun n s'=>∃σ' H',Inv X pins σ' H' s'/\W n σ' H') ?_ m0 ⟨σ,H,I,w0⟩)
 rintro n s1 ⟨σ1,H1,I1,w1⟩
 refine J8 hp (Eg (hc pins s1 σ1 H1 _ I1 (turn n σ1 H1 w1)) fun b s2 ⟨H2,I2,q2⟩=>?_)
 cases b with
 | true =>
   obtain⟨N,hN,q2⟩:=q2
   rw[if_pos rfl]
   refine J8 hp (Eg (hb pins s2 σ1 H2 _ I2 q2) fun f s3 q3=>?_)
   cases f with
   | next =>
     obtain⟨σ3,H3,I3,n3⟩:=q3
     obtain⟨m',hm,w3⟩:=hN σ3 H3 n3
     exact⟨m',hm,σ3,H3,I3,w3⟩
   | cont =>
     obtain⟨σ3,H3,I3,n3⟩:=q3
     obtain⟨m',hm,w3⟩:=hN σ3 H3 n3
     exact⟨m',hm,σ3,H3,I3,w3⟩
   | brk=>exact q3
   | ret v=>exact q3
 | false =>
   rw[if_neg Iu]
   exact Li ⟨σ1,H2,I2,q2⟩
end
structure It where
 go:Nat->Hp->Prop
 yld:Nat->Hp->V->Hp->Prop
 stop:Nat->Hp->Prop
noncomputable def mP(X:Cx)(pins:List (Addr×Obj))(H:Hp)(b:Addr):Prop :=
 H b=none/\b≠X.env.locals/\b∉X.fs/\(b∈X.ex\/X.s₀.heap.objs.size<=b)/\(∀x c,X.env.cells.lookup x=some c->c≠b)/\∀p∈X.pn++pins,p.1≠b
theorem Inv.fpOk{X:Cx}{σ:St}{H H':Hp}(I:Inv X pins σ H s)(hb:s.heap.objs.size<=b)(hn:H' b=none):mP X pins H' b:=by
 refine⟨hn,Km (HJ I.lt hb),I.nofs hb,.inr (JI I.sz hb),fun x c e z=>?_,fun p hp z=>?_⟩
 · obtain⟨v,q⟩:=I.cell x c e
   exact absurd (HJ q.lt (by rw[z];exact hb)) (Jf _)
 · exact absurd (HJ (HN (I.pin p hp).1) (by rw[z];exact hb)) (Jf _)
structure Turn (P:Ie) (w:II) (K:W.Frag) (tg:Expr) (J:It) (fp:List Addr) (it:Addr) (tn:Nat->Heap->Prop):Prop where
 mem:it∈fp
 obj:∀i h,tn i h->∀b∈fp,∃o,h.get? b=some o/\∀v,o.data ≠ .cell v
 keep:∀i h h',tn i h->(∀b∈fp,∀o,h.get? b=some o->h'.get? b=some o)->tn i h'
 item:∀(X:Cx),X.prog=P->X.w=w->X.K=K->X.calm=true->∀(i:Nat)(pins:List (Addr×Obj))(s:HH)(σ:St)(H:Hp)(E:HE->HH->Prop),Inv X pins σ H s->(∀b∈fp,mP X pins H b)->tn i s.heap->J.go i H ->
  Im (IH P w) X.A (Nh (.ref it)) (fun r s1=>∃u,r=some u /\
   Im (IH P w) X.A (Lj tg (.ref it) u) (fun _ s2=>∃x H',Inv X pins σ H' s2/\RelV x u/\J.yld i H x H'/\tn (i+1) s2.heap/\∀b∈fp,H' b=none) E s1) E s
 done:∀(X:Cx),X.prog=P->X.w=w->X.K=K->X.calm=true->∀(i:Nat)(pins:List (Addr×Obj))(s:HH)(σ:St)(H:Hp)(E:HE->HH->Prop),Inv X pins σ H s->(∀b∈fp,mP X pins H b)->tn i s.heap->J.stop i H ->
  Im (IH P w) X.A (Nh (.ref it)) (fun r s1=>r=none/\Inv X pins σ H s1) E s
 self:∀(A:Jb)(i:Nat)(s:HH)(Q:HE->HH->Prop)(E:HE->HH->Prop),tn i s.heap->Q (.ref it) s->Im (IH P w) A (pyIter (.ref it)) Q E s
abbrev TI:=St->Hp->(It->Hp->Prop)->Prop
noncomputable def GX(X:Cx)(pins:List (Addr×Obj))(σ:St)(tg:Expr)(R:It->Hp->Prop)(itv:HE)(s2:HH):Prop :=
 ∃(it:Addr)(fp:List Addr)(tn:Nat->Heap->Prop)(J:It)(H':Hp),itv = .ref it/\Inv X pins σ H' s2/\Turn X.prog X.w X.K tg J fp it tn/\tn 0 s2.heap/\(∀b∈fp,mP X pins H' b)/\R J H'
noncomputable def PI(X:Cx)(tg iter:Expr)(wi:TI):Prop :=
 ∀ (pins:List (Addr×Obj))(s:HH)(σ:St)(H:Hp)(R:It->Hp->Prop),Inv X pins σ H s->wi σ H R ->
   Im (IH X.prog X.w) X.A (eval iter X.env) (fun v s1=>Im (IH X.prog X.w) X.A (pyIter v) (GX X pins σ tg R) X.xe s1) X.xe s
theorem vq{M:Model}{o:Obj}{n:String}{vs:Array HE}{Q:Unit->HH->Prop}(ho:s.heap.get? it=some o)(hc:o.cls = .type n)(hd:o.data = .fields vs)
 (hn:["enumerate", "zip", "dict_itemiterator", "dict_reverseitemiterator", "odict_iterator", "itertools.zip_longest", "itertools.pairwise"].contains n=false)(hQ:Q () s):Im M A (Lj tg (.ref it) u) Q E s:=by
 unfold Lj
 cases tg<;>first
  | exact HQ hQ
  | (cases u<;>first
      | exact HQ hQ
      | (refine HB (wpAny_load ho ?_)
         rw[hc,hd]
         show Im M A (if(["enumerate", "zip", "dict_itemiterator", "dict_reverseitemiterator", "odict_iterator", "itertools.zip_longest", "itertools.pairwise"].contains n&&vs[0]?==some (M4 _))=true then _ else _) Q E s
         rw[if_neg (by intro h;rw[hn,Bool.false_and]at h;cases h)]
         exact HQ hQ))
noncomputable def He(K:W.Frag)(a:Addr):It :=
 ⟨fun i H=>∃xs x,GF K H a xs/\xs[i]?=some x,fun i H x H'=>H'=H/\∀xs,GF K H a xs->xs[i]?=some x,fun i H=>∃xs,GF K H a xs/\xs.length<=i⟩
noncomputable def Ha(K:W.Frag)(a:Addr):It :=
 ⟨fun i H=>∃xs x,GE K H a xs/\xs[i]?=some x,fun i H x H'=>H'=H/\∀xs,GE K H a xs->xs[i]?=some x,fun i H=>∃xs,GE K H a xs/\xs.length<=i⟩
noncomputable def Hb(lo:Int)(n:Nat):It:=⟨fun i _=>i<n,fun i H x H'=>H'=H/\x = .int (lo+i),fun i _=>n<=i⟩
theorem nj{K:W.Frag}(a it:Addr):Turn P w K tg (He K a) [it] it (fun i h=>h.IsListIter it a i) where
 mem:=by simp
 obj:=fun i h st b hb=>by
  have e:b=it:=by simpa using hb
  subst e
  obtain⟨o,e,c,d⟩:=st
  exact⟨o,e,fun v z=>by rw[d]at z;cases z⟩
 keep:=fun i h h' st k=>st.at fun o e=>k it (by simp) o e
 item:=by
  intro X hP hw hK hc i pins s σ H E I hf st hg
  subst hP hw hK
  obtain⟨xs,x,hq,hx⟩:=hg
  obtain⟨its,rv,p,hz⟩:=I.list hq
  obtain⟨u,hu,ru⟩:=rv.get hx
  obtain⟨f0,f1,f2,f3,f4,f5⟩:=hf it (by simp)
  refine wpAny_pyNext_list_item st p.isList (x:=u) (by simpa using hu) fun h' st' sb=>?_
  have I1:Inv X pins σ H {s with heap:=h' }:=I.turned (t':=s.toks) (fun b o hb e=>(sb.2 b hb).trans e) f0 f1 f3 f4 f5
  obtain⟨o,e,c,d⟩:=id st'
  exact⟨u,rfl,vq (s:={s with heap:=h' }) e c d (by decide) ⟨x,H,I1,ru,⟨rfl,fun ys hy=>by rw[I.list_inj hy hq];exact hx⟩,st',fun b hb=>(hf b hb).1⟩⟩
 done:=by
  intro X hP hw hK hc i pins s σ H E I hf st hg
  subst hP hw hK
  obtain⟨xs,hq,hx⟩:=hg
  obtain⟨its,rv,p,hz⟩:=I.list hq
  obtain⟨f0,f1,f2,f3,f4,f5⟩:=hf it (by simp)
  have hl:=rv.length
  exact wpAny_pyNext_list_end (I.ok.hd hc) st p.isList (by simp;omega) fun h' eb=>⟨rfl,I.turned (t':=s.toks) (fun b o hb e=>eb b o hb e) f0 f1 f3 f4 f5⟩
 self:=fun _ _ _ _ _ st h=>wpAny_pyIter_listiter st h
theorem l_{K:W.Frag}(a it:Addr):Turn P w K tg (Ha K a) [it] it (fun i h=>h.IsTupleIter it a i) where
 mem:=by simp
 obj:=fun i h st b hb=>by
  have e:b=it:=by simpa using hb
  subst e
  obtain⟨o,e,c,d⟩:=st
  exact⟨o,e,fun v z=>by rw[d]at z;cases z⟩
 keep:=fun i h h' st k=>st.at fun o e=>k it (by simp) o e
 item:=by
  intro X hP hw hK hc i pins s σ H E I hf st hg
  subst hP hw hK
  obtain⟨xs,x,hq,hx⟩:=hg
  obtain⟨its,rv,p,hz⟩:=I.tuple hq
  obtain⟨u,hu,ru⟩:=rv.get hx
  obtain⟨f0,f1,f2,f3,f4,f5⟩:=hf it (by simp)
  refine wpAny_pyNext_tuple_item st (show s.heap.IsTuple a its.toArray from p) (x:=u) (by simpa using hu) fun h' st' sb=>?_
  have I1:Inv X pins σ H {s with heap:=h' }:=I.turned (t':=s.toks) (fun b o hb e=>(sb.2 b hb).trans e) f0 f1 f3 f4 f5
  obtain⟨o,e,c,d⟩:=id st'
  exact⟨u,rfl,vq (s:={s with heap:=h' }) e c d (by decide) ⟨x,H,I1,ru,⟨rfl,fun ys hy=>by rw[I.tuple_inj hy hq];exact hx⟩,st',fun b hb=>(hf b hb).1⟩⟩
 done:=by
  intro X hP hw hK hc i pins s σ H E I hf st hg
  subst hP hw hK
  obtain⟨xs,hq,hx⟩:=hg
  obtain⟨its,rv,p,hz⟩:=I.tuple hq
  obtain⟨f0,f1,f2,f3,f4,f5⟩:=hf it (by simp)
  have hl:=rv.length
  exact wpAny_pyNext_tuple_end (I.ok.hd hc) st (show s.heap.IsTuple a its.toArray from p) (by simp;omega) fun h' eb=>⟨rfl,I.turned (t':=s.toks) (fun b o hb e=>eb b o hb e) f0 f1 f3 f4 f5⟩
 self:=fun _ _ _ _ _ st h=>wpAny_pyIter_tupleiter st h
theorem mf{K:W.Frag}(it:Addr)(lo:Int)(n:Nat):Turn P w K tg (Hb lo n) [it] it (fun i h=>IsRangeIter h it (lo+(i:Nat)*1) ((n:Int)-(i:Nat)) 1) where
 mem:=by simp
 obj:=fun i h st b hb=>by
  have e:b=it:=by simpa using hb
  subst e
  exact⟨_,st,fun v z=>by
   have z':Data.fields _=Data.cell v:=z
   cases z'⟩
 keep:=fun i h h' st k=>k it (by simp) _ st
 item:=by
  intro X hP hw hK hc i pins s σ H E I hf st hg
  subst hP hw hK
  obtain⟨f0,f1,f2,f3,f4,f5⟩:=hf it (by simp)
  have W:=Walks.range (prog:=X.prog) (w:=X.w) (I.ok.hd hc) it lo 1 n
  refine W.item i s _ _ hg st fun v h' tk hv st' kk=>?_
  obtain⟨t,rfl⟩:=hv
  have I1:Inv X pins σ H {s with heap:=h',toks:=tk}:=I.turned (fun b o hb e=>kk b o (by simpa using hb) e) f0 f1 f3 f4 f5
  refine⟨_,rfl,vq (s:={s with heap:=h',toks:=tk}) (n := "range_iterator") st' rfl rfl (by decide) ⟨.int (lo+i),H,I1,⟨t,?_⟩,⟨rfl,rfl⟩,st',fun b hb=>(hf b hb).1⟩⟩
  rw[Int.mul_one]
 done:=by
  intro X hP hw hK hc i pins s σ H E I hf st hg
  subst hP hw hK
  obtain⟨f0,f1,f2,f3,f4,f5⟩:=hf it (by simp)
  exact wpAny_pyNext_range_end (I.ok.hd hc) st (by have:n<=i:=hg;omega) fun h' eb=>⟨rfl,I.turned (t':=s.toks) (fun b o hb e=>eb b o hb e) f0 f1 f3 f4 f5⟩
 self:=fun _ _ _ _ _ st h=>wpAny_pyIter_rangeiter st h
section
variable{X:Cx}{tg:Expr}
noncomputable def Ar(K:W.Frag)(tl:TE):TI:=fun σ H R=>tl σ H fun x H1=>∃a,x = .ref a/\(∃xs,GF K H1 a xs)/\R (He K a) H1
noncomputable def C7(K:W.Frag)(tl:TE):TI:=fun σ H R=>tl σ H fun x H1=>∃a,x = .ref a/\(∃xs,GE K H1 a xs)/\R (Ha K a) H1
theorem uB{l:Expr}{tl:TE}(hl:PE X l tl):PI X tg l (Ar X.K tl):=by
 intro pins s σ H R I h
 refine Eg (hl pins s σ H _ I h) fun v s1 ⟨x,H1,I1,r1,q1⟩=>?_
 obtain⟨a,e,⟨xs,hq⟩,q⟩:=q1
 subst e
 cases r1
 obtain⟨its,rv,p,hz⟩:=I1.list hq
 refine Ks p.isList ?_
 refine⟨s1.heap.objs.size,[s1.heap.objs.size],_,_,H1,rfl,I1.kept (t':=s1.toks) fun b o e=>HK _ e,nj a _,⟨_,HW _ rfl,rfl,rfl⟩,fun b hb=>?_,q⟩
 have e:b=s1.heap.objs.size:=by simpa using hb
 subst e
 exact I1.fpOk (HS _) (I1.hok.fresh (HS _))
theorem xy{l:Expr}{tl:TE}(hl:PE X l tl):PI X tg l (C7 X.K tl):=by
 intro pins s σ H R I h
 refine Eg (hl pins s σ H _ I h) fun v s1 ⟨x,H1,I1,r1,q1⟩=>?_
 obtain⟨a,e,⟨xs,hq⟩,q⟩:=q1
 subst e
 cases r1
 obtain⟨its,rv,p,hz⟩:=I1.tuple hq
 refine wpAny_pyIter_tuple (show s1.heap.IsTuple a its.toArray from p) ?_
 refine⟨s1.heap.objs.size,[s1.heap.objs.size],_,_,H1,rfl,I1.kept (t':=s1.toks) fun b o e=>HK _ e,l_ a _,⟨_,HW _ rfl,rfl,rfl⟩,fun b hb=>?_,q⟩
 have e:b=s1.heap.objs.size:=by simpa using hb
 subst e
 exact I1.fpOk (HS _) (I1.hok.fresh (HS _))
theorem qL{σ:St}{H:Hp}{R:It->Hp->Prop}{lo hi:Int}{t u v:Tok}{tk:Nat}(I:Inv X pins σ H s)(h1 : -(2^62)<=lo)(h2:lo<2^62)(h3 : -(2^62)<=hi)(h4:hi<2^62)
 (q:R (Hb lo (hi-lo).toNat) H):Im (IH X.prog X.w) X.A (pyIter (.ref s.heap.objs.size)) (GX X pins σ tg R) E {s with heap:=s.heap.push {cls:=.type "range", data:=.fields #[.int lo t,.int hi u,.int 1 v]},toks:=tk}:=by
 refine wpAny_pyIter_range (IsRange.new ..) (small_one h1 h2 h3 h4) ?_
 have I1:Inv X pins σ H {s with heap:=s.heap.push {cls:=.type "range", data:=.fields #[.int lo t,.int hi u,.int 1 v]},toks:=tk}:=I.kept fun b o e=>HK _ e
 refine⟨(s.heap.push {cls:=.type "range", data:=.fields #[.int lo t,.int hi u,.int 1 v]}).objs.size,[(s.heap.push {cls:=.type "range", data:=.fields #[.int lo t,.int hi u,.int 1 v]}).objs.size],_,_,H,rfl,
  I1.kept (t':=tk) fun b o e=>HK _ e,mf _ lo (hi-lo).toNat,?_,fun b hb=>?_,q⟩
 · have e1:lo+((0:Nat):Int)*1=lo:=by simp
   have e2:(((hi-lo).toNat:Nat):Int)-((0:Nat):Int)=Builtin.Range.rangeSize lo hi 1:=by rw[rangeSize_one];split<;>omega
   show IsRangeIter _ _ (lo+((0:Nat):Int)*1) ((((hi-lo).toNat:Nat):Int)-((0:Nat):Int)) 1
   rw[e1,e2]
   exact HW _ rfl
 · have e:b=(s.heap.push {cls:=.type "range", data:=.fields #[.int lo t,.int hi u,.int 1 v]}).objs.size:=by simpa using hb
   subst e
   exact I1.fpOk (HS _) (I1.hok.fresh (HS _))
noncomputable def Aq(ta:TA):TI:=fun σ H R=>ta σ H fun vs H1=>∃j:Int,vs=[.int j] /\ -(2^62)<=j/\j<2^62/\R (Hb 0 j.toNat) H1
theorem om{a:Expr}{ta:TA}{p:Pos}(hg:Gl X "range")(hm:X.mg "range" = none)(ha:PA X [a] ta)(hs:HL [a] X.env=[(false,eval a X.env)]:=by rfl):PI X tg (.Call (.Name "range" p) [a] [] pos) (Aq ta):=by
 intro pins s σ H R I h
 refine Call_ (iB I hg hm boot_range (JV (Eg (ha pos pins s σ H _ I h) fun us s1 ⟨vs,H1,I1,r1,q1⟩=>?_) hs rfl))
 obtain⟨j,e,q1,q2,q⟩:=q1
 subst e
 cases r1 with
 | cons r rr =>
   cases rr
   obtain⟨t,rfl⟩:=r
   exact call_range_1 (qL I1 (by omega) (by omega) q1 q2 (by simpa using q))
noncomputable def CP(wi:TI)(g:TG)(tb:TS):TS:=fun D σ H=>wi σ H fun J H1=>∃W:Nat->Nat->St->Hp->Prop,(∃m,W 0 m σ H1)/\∀i m σ H,W i m σ H ->
 (J.stop i H/\D.nx σ H)\/(J.go i H/\∃N:St->Hp->Prop,(∀σ' H',N σ' H'->∃m',m'<m/\W (i+1) m' σ' H')/\∀x H',J.yld i H x H'->g x σ H' fun σ2 H2=>tb {D with nx:=N,ct:=N,bk:=D.nx} σ2 H2)
noncomputable def jV(fp:List Addr)(h:Heap):List (Addr×Obj):=fp.filterMap fun b=>(h.get? b).map fun o=>(b,o)
theorem el{o:Obj}(hb:b∈fp)(e:h.get? b=some o):(b,o)∈jV fp h:=List.mem_filterMap.mpr ⟨b,hb,by rw[e];rfl⟩
theorem oG{p:Addr×Obj}(hp:p∈jV fp h):p.1∈fp/\h.get? p.1=some p.2:=by
 obtain⟨b,hb,e⟩:=List.mem_filterMap.mp hp
 cases q:h.get? b with
 | none=>rw[q]at e;cases e
 | some o =>
   rw[q]at e
   have e':(b,o)=p:=Ii e
   subst e'
   exact⟨hb,q⟩
theorem Inv.pinned{σ:St}{H:Hp}(I:Inv X pins σ H s)(hf:∀b∈fp,mP X pins H b)(ho:∀b∈fp,∃o,s.heap.get? b=some o/\∀v,o.data ≠ .cell v):Inv X (pins++jV fp s.heap) σ H s :=
 I.pins_of fun p hp=>(Jw.mp hp).elim (fun z=>I.pin p (IK _ z)) fun z=>by
  obtain⟨hb,e⟩:=oG z
  obtain⟨f0,f1,f2,_⟩:=hf p.1 hb
  obtain⟨o,e',d⟩:=ho p.1 hb
  rw[e]at e';cases e'
  exact⟨e,f0,f1,f2,d⟩
theorem Inv.unpinned{pl:List (Addr×Obj)}{σ:St}{H:Hp}(I:Inv X (pins++pl) σ H s):Inv X pins σ H s:=I.pins_of fun p hp=>I.pin p (IK _ (Mp _ hp))
theorem sS{body:List Stmt}{wi:TI}{g:TG}{tb:TS}(hp:MH (IH X.prog X.w) X.A X.env X.xe)(hc:X.calm=true)(hi:PI X tg iter wi)(hg:PG X tg g)(hb:GS X body tb)
 (hs:∀x,JG iter X.env x=pure x:=by intro _;rfl):PS X (.For tg iter body [] pos) (CP wi g tb):=by
 intro pins s σ H D I h
 refine wpAny_For (Eg (hi pins s σ H _ I h) fun v s1 h1=>Eg h1 fun itv s2 h2=>?_) hs
 obtain⟨it,fp,tn,J,H2,e,I2,T,st2,f2,W,⟨m0,w0⟩,turn⟩:=h2
 subst e
 have stat:∀{H':Hp},(∀b∈fp,H' b=none)->∀b∈fp,mP X pins H' b:=fun hn b hb=>⟨hn b hb,(f2 b hb).2⟩
 refine codeAny_forLoop_any (fun n s'=>∃i σ' H',Inv X pins σ' H' s'/\tn i s'.heap/\(∀b∈fp,H' b=none)/\W i n σ' H') ?_ m0 ⟨0,σ,H2,I2,st2,fun b hb=>(f2 b hb).1,w0⟩
 rintro n s3 ⟨i,σ3,H3,I3,st3,fr3,w3⟩
 rcases turn i n σ3 H3 w3 with⟨stop,qn⟩|⟨go,N,hN,step⟩
 · refine J8 hp (Eg (T.done X rfl rfl rfl hc i pins s3 σ3 H3 X.xe I3 (stat fr3) st3 stop) fun r s4 ⟨hr,I4⟩=>?_)
   subst hr
   exact Li ⟨σ3,H3,I4,qn⟩
 · refine J8 hp (Eg (T.item X rfl rfl rfl hc i pins s3 σ3 H3 X.xe I3 (stat fr3) st3 go) fun r s4 ⟨u,hr,h4⟩=>?_)
   subst hr
   refine J8 hp (Eg h4 fun _ s5 ⟨x,H5,I5,r5,y5,st5,fr5⟩=>?_)
   have I5':=I5.pinned (stat fr5) (T.obj _ _ st5)
   refine J8 hp (Eg (hg _ s5 σ3 H5 x u _ I5' r5 (step x H5 y5)) fun _ s6 ⟨σ6,H6,I6,q6⟩=>?_)
   refine J8 hp (Eg (hb _ s6 σ6 H6 _ I6 q6) fun f s7 q7=>?_)
   have again:∀{σ7:St}{H7:Hp},Inv X (pins++jV fp s5.heap) σ7 H7 s7->N σ7 H7->∃m,m<n/\∃i σ' H',Inv X pins σ' H' s7/\tn i s7.heap/\(∀b∈fp,H' b=none)/\W i m σ' H':=fun{σ7 H7} I7 n7=>by
    obtain⟨m',hm,w7⟩:=hN σ7 H7 n7
    refine⟨m',hm,i+1,σ7,H7,I7.unpinned,T.keep _ _ _ st5 fun b hb o e=>(I7.pin (b,o) (IK _ (IK _ (el hb e)))).1,fun b hb=>?_,w7⟩
    obtain⟨o,e,d⟩:=T.obj _ _ st5 b hb
    exact(I7.pin (b,o) (IK _ (IK _ (el hb e)))).2.1
   cases f with
   | next=>obtain⟨σ7,H7,I7,n7⟩:=q7;exact again I7 n7
   | cont=>obtain⟨σ7,H7,I7,n7⟩:=q7;exact again I7 n7
   | brk=>obtain⟨σ7,H7,I7,q7⟩:=q7;exact⟨σ7,H7,I7.unpinned,q7⟩
   | ret v=>obtain⟨x7,σ7,H7,I7,r7,q7⟩:=q7;exact⟨x7,σ7,H7,I7.unpinned,r7,q7⟩
end
abbrev R2:=V->V->Hp->VK->Prop
noncomputable def G1(X:Cx)(f:HE->HE->Sem HE)(r:R2):Prop :=
 ∀ (pins:List (Addr×Obj))(s:HH)(σ:St)(H:Hp)(x y:V)(v u:HE)(Q:VK),Inv X pins σ H s->RelV x v->RelV y u->r x y H Q ->
   Im (IH X.prog X.w) X.A (f v u) (EP X pins σ Q) X.xe s
noncomputable def Gx(X:Cx)(f:HE->Sem HE)(r:V->Hp->VK->Prop):Prop :=
 ∀ (pins:List (Addr×Obj))(s:HH)(σ:St)(H:Hp)(x:V)(v:HE)(Q:VK),Inv X pins σ H s->RelV x v->r x H Q ->
   Im (IH X.prog X.w) X.A (f v) (EP X pins σ Q) X.xe s
noncomputable def eE(X:Cx)(f:HE)(r:List V->Hp->VK->Prop):Prop :=
 ∀ (pins:List (Addr×Obj))(s:HH)(σ:St)(H:Hp)(xs:List V)(us:List HE)(Q:VK),Inv X pins σ H s->dq xs us->r xs H Q ->
   Im (IH X.prog X.w) X.A (call f us) (EP X pins σ Q) X.xe s
noncomputable def El(r:R2)(ta tb:TE):TE:=fun σ H Q=>ta σ H fun x H1=>tb σ H1 fun y H2=>r x y H2 Q
noncomputable def Ei(r:V->Hp->VK->Prop)(ta:TE):TE:=fun σ H Q=>ta σ H fun x H1=>r x H1 Q
noncomputable def rI(C:Int->Int->Prop)(g:Int->Int->V):R2:=fun x y H Q=>∃i j,x = .int i/\y = .int j/\C i j/\Q (g i j) H
noncomputable def EJ(g:Int->Int->V):R2:=fun x y H Q=>∃i j,x = .int i/\y = .int j/\Q (g i j) H
noncomputable def rU(g:Int->V):V->Hp->VK->Prop:=fun x H Q=>∃i,x = .int i/\Q (g i) H
section
variable{X:Cx}{a b c:Expr}{ta tb tc:TE}{pos:Pos}
theorem AI(ha:PE X a ta)(hb:PE X b tb){σ:St}{H:Hp}{R:V->V->Hp->Prop}(I:Inv X pins σ H s)
 (h:ta σ H fun x H1=>tb σ H1 fun y H2=>R x y H2){f:HE->HE->Sem HE}
 (hf:∀v u s2 x y H2,Inv X pins σ H2 s2->RelV x v->RelV y u->R x y H2->Im (IH X.prog X.w) X.A (f v u) Q X.xe s2) :
 Im (IH X.prog X.w) X.A (eval a X.env) (fun v s₁=>Im (IH X.prog X.w) X.A (eval b X.env) (fun u s₂=>Im (IH X.prog X.w) X.A (f v u) Q X.xe s₂) X.xe s₁) X.xe s:=by
 refine Eg (ha pins s σ H _ I h) fun v s1 ⟨x,H1,I1,r1,q1⟩=>?_
 refine Eg (hb pins s1 σ H1 _ I1 q1) fun u s2 ⟨y,H2,I2,r2,q2⟩=>?_
 exact hf v u s2 x y H2 I2 r1 r2 q2
theorem z_{op:Operator}{r:R2}(ho:G1 X (Ke op) r)(ha:PE X a ta)(hb:PE X b tb):PE X (.BinOp a op b pos) (El r ta tb):=by
 intro pins s σ H Q I h
 exact wpAny_BinOp (AI ha hb I h fun v u s2 x y H2 I2 rx ry q=>ho pins s2 σ H2 x y v u Q I2 rx ry q)
theorem zZ{op:UnaryOp}{r:V->Hp->VK->Prop}(ho:Gx X (unaryOp op) r)(ha:PE X a ta):PE X (.UnaryOp op a pos) (Ei r ta):=by
 intro pins s σ H Q I h
 exact UnaryOp_ (Eg (ha pins s σ H _ I h) fun v s1 ⟨x,H1,I1,r1,q1⟩=>ho pins s1 σ H1 x v Q I1 r1 q1)
theorem EY{f:HE->HE->Sem HE}{C:Int->Int->Prop}{g:Int->Int->Int}
 (rule:∀(i j:Int)(t u:Tok)(s:HH)(Q:HE->HH->Prop)(E:HE->HH->Prop),C i j->Q (.int (g i j) s.toks) {s with toks:=s.toks+1}->Im (IH X.prog X.w) X.A (f (.int i t) (.int j u)) Q E s) :
 G1 X f (rI C fun i j=>.int (g i j)):=by
 intro pins s σ H x y v u Q I rx ry h
 obtain⟨i,j,rfl,rfl,hc,q⟩:=h
 obtain⟨t,rfl⟩:=rx
 obtain⟨t',rfl⟩:=ry
 exact rule i j t t' s _ _ hc ⟨.int (g i j),H,I.tok _,⟨_,rfl⟩,q⟩
theorem Cm{f:HE->HE->Sem HE}{g:Int->Int->Int}
 (rule:∀(i j:Int)(t u:Tok)(s:HH)(Q:HE->HH->Prop)(E:HE->HH->Prop),Q (.int (g i j) s.toks) {s with toks:=s.toks+1}->Im (IH X.prog X.w) X.A (f (.int i t) (.int j u)) Q E s) :
 G1 X f (EJ fun i j=>.int (g i j)):=by
 intro pins s σ H x y v u Q I rx ry h
 obtain⟨i,j,rfl,rfl,q⟩:=h
 obtain⟨t,rfl⟩:=rx
 obtain⟨t',rfl⟩:=ry
 exact rule i j t t' s _ _ ⟨.int (g i j),H,I.tok _,⟨_,rfl⟩,q⟩
theorem yO{f:HE->HE->Sem HE}{g:Int->Int->Bool}
 (rule:∀(i j:Int)(t u:Tok)(s:HH)(Q:HE->HH->Prop)(E:HE->HH->Prop),Q (.bool (g i j)) s->Im (IH X.prog X.w) X.A (f (.int i t) (.int j u)) Q E s) :
 G1 X f (EJ fun i j=>.bl (g i j)):=by
 intro pins s σ H x y v u Q I rx ry h
 obtain⟨i,j,rfl,rfl,q⟩:=h
 obtain⟨t,rfl⟩:=rx
 obtain⟨t',rfl⟩:=ry
 exact rule i j t t' s _ _ ⟨.bl (g i j),H,I,rfl,q⟩
noncomputable def zd(i j:Int):Prop:=0<=j/\j<=1000000/\i.natAbs<2^64
theorem xQ:G1 X (Ke .Add) (EJ fun i j=>.int (i+j)):=Cm fun _ _ _ _ _ _ _ q=>add_int q
theorem xK:G1 X (Ke .Sub) (EJ fun i j=>.int (i-j)):=Cm fun _ _ _ _ _ _ _ q=>sub_int q
theorem uL:G1 X (Ke .Mod) (rI (fun _ j=>j≠0) fun i j=>.int (i.fmod j)):=EY fun _ _ _ _ _ _ _ hc q=>mod_int' hc q
theorem xM:G1 X (Ke .Pow) (rI zd fun i j=>.int (i^j.toNat)):=EY fun _ _ _ _ _ _ _ hc q=>pow_int_small hc.1 hc.2.1 hc.2.2 q
theorem D6{f:HE->Sem HE}{g:Int->Int}
 (rule:∀(i:Int)(t:Tok)(s:HH)(Q:HE->HH->Prop)(E:HE->HH->Prop),Q (.int (g i) s.toks) {s with toks:=s.toks+1}->Im (IH X.prog X.w) X.A (f (.int i t)) Q E s) :
 Gx X f (rU fun i=>.int (g i)):=by
 intro pins s σ H x v Q I rx h
 obtain⟨i,rfl,q⟩:=h
 obtain⟨t,rfl⟩:=rx
 exact rule i t s _ _ ⟨.int (g i),H,I.tok _,⟨_,rfl⟩,q⟩
theorem wA:Gx X (unaryOp .USub) (rU fun i=>.int (-i)):=D6 fun _ _ _ _ _ q=>neg_int q
end
noncomputable def Cc:V->V->Bool
 | .non,.non=>true | .non,.int _=>true | .int _,.non=>true | .non,.bl _=>true | .bl _,.non=>true | .non,.str _=>true | .str _,.non=>true
 | .int _,.int _=>true | .bl _,.bl _=>true | .str _,.str _=>true | .byt _,.byt _=>true
 | .int _,.str _=>true | .str _,.int _=>true | .bl _,.str _=>true | .str _,.bl _=>true
 | _,_=>false
noncomputable def EK:R2:=fun x y H Q=>Cc x y=true/\Q (.bl (decide (x=y))) H
noncomputable def EH:R2:=fun x y H Q=>Cc x y=true/\Q (.bl (!decide (x=y))) H
theorem pH{i j:Int}:decide (V.int i=V.int j)=(i==j):=by
 rw[Kn]
 simp
theorem tq{i j:Bool}:decide (V.bl i=V.bl j)=(i==j):=by
 rw[Kn]
 simp
theorem pG{i j:Str}:decide (V.str i=V.str j)=(i==j):=by
 rw[Kn]
 simp
theorem pI{i j:Array UInt8}:decide (V.byt i=V.byt j)=(i.toList==j.toList):=by
 rw[Kn]
 cases i
 cases j
 simp
section
variable{X:Cx}{a b c:Expr}{ta tb tc:TE}{pos:Pos}
theorem bv{σ:St}{H:Hp}{Q:VK}{k k':Bool}(I:Inv X pins σ H s)(q:Q (.bl k) H)(e:k=k'):EP X pins σ Q (.bool k') s:=by
 subst e
 exact⟨.bl k,H,I,rfl,q⟩
theorem dv:G1 X (Js .Eq) EK:=by
 intro pins s σ H x y v u Q I rx ry h
 obtain⟨hs,q⟩:=h
 cases x with
 | non =>
   cases rx
   cases y with
   | non=>cases ry;exact PySem.EqNone.eq_none_none (bv I q (by simp))
   | bl j=>cases ry;exact PySem.EqNone.eq_none_bool (bv I q (by simp))
   | int j=>obtain⟨t',rfl⟩:=ry;exact PySem.EqNone.eq_none_int (bv I q (by simp))
   | str j=>obtain⟨t',rfl⟩:=ry;exact PySem.EqNone.eq_none_str (bv I q (by simp))
   | _=>exact absurd (show false=true from hs) Iu
 | bl i =>
   cases rx
   cases y with
   | non=>cases ry;exact PySem.EqNone.eq_bool_none (bv I q (by simp))
   | bl j=>cases ry;exact eq_bool (bv I q tq)
   | str j=>obtain⟨t',rfl⟩:=ry;exact PySem.EqMixed.eq_bool_str (bv I q (by simp))
   | _=>exact absurd (show false=true from hs) Iu
 | int i =>
   obtain⟨t,rfl⟩:=rx
   cases y with
   | non=>cases ry;exact PySem.EqNone.eq_int_none (bv I q (by simp))
   | int j=>obtain⟨t',rfl⟩:=ry;exact eq_int (bv I q pH)
   | str j=>obtain⟨t',rfl⟩:=ry;exact PySem.EqMixed.eq_int_str (bv I q (by simp))
   | _=>exact absurd (show false=true from hs) Iu
 | str i =>
   obtain⟨t,rfl⟩:=rx
   cases y with
   | non=>cases ry;exact PySem.EqNone.eq_str_none (bv I q (by simp))
   | bl j=>cases ry;exact PySem.EqMixed.eq_str_bool (bv I q (by simp))
   | int j=>obtain⟨t',rfl⟩:=ry;exact PySem.EqMixed.eq_str_int (bv I q (by simp))
   | str j=>obtain⟨t',rfl⟩:=ry;exact eq_str (bv I q pG)
   | _=>exact absurd (show false=true from hs) Iu
 | byt i =>
   obtain⟨t,rfl⟩:=rx
   cases y with
   | byt j=>obtain⟨t',rfl⟩:=ry;exact W.eq_bytes (bv I q pI)
   | _=>exact absurd (show false=true from hs) Iu
 | _=>cases y<;>exact absurd (show false=true from hs) Iu
theorem mG:G1 X (Js .NotEq) EH:=by
 intro pins s σ H x y v u Q I rx ry h
 obtain⟨hs,q⟩:=h
 cases x with
 | non =>
   cases rx
   cases y with
   | non=>cases ry;exact PySem.EqNone.ne_none_none (bv I q (by simp))
   | bl j=>cases ry;exact PySem.EqNone.ne_none_bool (bv I q (by simp))
   | int j=>obtain⟨t',rfl⟩:=ry;exact PySem.EqNone.ne_none_int (bv I q (by simp))
   | str j=>obtain⟨t',rfl⟩:=ry;exact PySem.EqNone.ne_none_str (bv I q (by simp))
   | _=>exact absurd (show false=true from hs) Iu
 | bl i =>
   cases rx
   cases y with
   | non=>cases ry;exact PySem.EqNone.ne_bool_none (bv I q (by simp))
   | bl j=>cases ry;exact ne_bool (bv I q (congrArg not tq))
   | str j=>obtain⟨t',rfl⟩:=ry;exact PySem.EqMixed.ne_bool_str (bv I q (by simp))
   | _=>exact absurd (show false=true from hs) Iu
 | int i =>
   obtain⟨t,rfl⟩:=rx
   cases y with
   | non=>cases ry;exact PySem.EqNone.ne_int_none (bv I q (by simp))
   | int j=>obtain⟨t',rfl⟩:=ry;exact ne_int (bv I q (congrArg not pH))
   | str j=>obtain⟨t',rfl⟩:=ry;exact PySem.EqMixed.ne_int_str (bv I q (by simp))
   | _=>exact absurd (show false=true from hs) Iu
 | str i =>
   obtain⟨t,rfl⟩:=rx
   cases y with
   | non=>cases ry;exact PySem.EqNone.ne_str_none (bv I q (by simp))
   | bl j=>cases ry;exact PySem.EqMixed.ne_str_bool (bv I q (by simp))
   | int j=>obtain⟨t',rfl⟩:=ry;exact PySem.EqMixed.ne_str_int (bv I q (by simp))
   | str j=>obtain⟨t',rfl⟩:=ry;exact ne_str (bv I q (congrArg not pG))
   | _=>exact absurd (show false=true from hs) Iu
 | byt i =>
   obtain⟨t,rfl⟩:=rx
   cases y with
   | byt j=>obtain⟨t',rfl⟩:=ry;exact W.ne_bytes (bv I q (congrArg not pI))
   | _=>exact absurd (show false=true from hs) Iu
 | _=>cases y<;>exact absurd (show false=true from hs) Iu
theorem dE:G1 X (Js .Lt) (EJ fun i j=>.bl (decide (i<j))):=yO fun _ _ _ _ _ _ _ q=>lt_int q
theorem oE:G1 X (Js .LtE) (EJ fun i j=>.bl (decide (i<=j))):=yO fun _ _ _ _ _ _ _ q=>le_int q
theorem jb:G1 X (Js .Gt) (EJ fun i j=>.bl (decide (j<i))):=yO fun _ _ _ _ _ _ _ q=>gt_int q
theorem Ac:G1 X (Js .GtE) (EJ fun i j=>.bl (decide (j<=i))):=yO fun _ _ _ _ _ _ _ q=>ge_int q
theorem jX:G1 X (Js .Is) (fun x y H Q=>y = .non/\Q (.bl (decide (x = .non))) H):=by
 intro pins s σ H x y v u Q I rx ry h
 obtain⟨rfl,q⟩:=h
 cases ry
 refine is_none_gen (bv I q ?_)
 cases x<;>first
  | (cases rx;rfl)
  | (obtain⟨t,rfl⟩:=rx;rfl)
theorem oD:G1 X (Js .IsNot) (fun x y H Q=>y = .non/\Q (.bl (!decide (x = .non))) H):=by
 intro pins s σ H x y v u Q I rx ry h
 obtain⟨rfl,q⟩:=h
 cases ry
 refine isnot_none_gen (bv I q ?_)
 cases x<;>first
  | (cases rx;rfl)
  | (obtain⟨t,rfl⟩:=rx;rfl)
theorem aw(b:Expr)(h:op ≠ .In:=by decide)(h2:op ≠ .NotIn:=by decide):KP op b=false:=by
 have e1:(op==Nl.In)=false:=by cases op<;>first|rfl|exact absurd rfl h
 have e2:(op==Nl.NotIn)=false:=by cases op<;>first|rfl|exact absurd rfl h2
 cases b<;>simp[KP,e1,e2]
theorem uG{r:R2}(ho:G1 X (Js op) r)(ha:PE X a ta)(hb:PE X b tb)(hm:KP op b=false):PE X (.Compare a [op] [b] pos) (El r ta tb):=by
 intro pins s σ H Q I h
 exact wpAny_Compare1 (AI ha hb I h fun v u s2 x y H2 I2 rx ry q=>ho pins s2 σ H2 x y v u Q I2 rx ry q) hm
noncomputable def zC(t:TE):TT:=fun σ H Q=>t σ H fun x H'=>∃k,x = .bl k/\Q k H'
theorem uw{r:R2}(ho:G1 X (Js op) r)(ha:PE X a ta)(hb:PE X b tb)(hm:KP op b=false):PT X (.Compare a [op] [b] pos) (zC (El r ta tb)):=by
 intro pins s σ H Q I h
 refine wpAny_isTrue_Compare1 (Eg (ha pins s σ H _ I h) fun v s1 ⟨x,H1,I1,r1,q1⟩=>Eg (hb pins s1 σ H1 _ I1 q1) fun u s2 ⟨y,H2,I2,r2,q2⟩ =>
  Eg (ho pins s2 σ H2 x y v u _ I2 r1 r2 q2) fun c s3 ⟨z,H3,I3,r3,k,e,q3⟩=>?_) hm
 subst e
 cases r3
 exact JF ⟨H3,I3,q3⟩
noncomputable def wN(r r':R2)(ta tb tc:TE):TE:=fun σ H Q=>ta σ H fun x H1=>tb σ H1 fun y H2=>r x y H2 fun z H3=>∃k,z = .bl k /\
 (if k=true then tc σ H3 fun w' H4=>r' y w' H4 Q else Q (.bl false) H3)
theorem qT{op':Nl}{r r':R2}(ho:G1 X (Js op) r)(ho':G1 X (Js op') r')(ha:PE X a ta)(hb:PE X b tb)(hc:PE X c tc)
 (hm:lastMarks [op,op'] [b,c]=false:=by with_unfolding_all rfl):PE X (.Compare a [op,op'] [b,c] pos) (wN r r' ta tb tc):=by
 intro pins s σ H Q I h
 refine Compare_chain (Eg (ha pins s σ H _ I h) fun v s1 ⟨x,H1,I1,r1,q1⟩=>chain_link (Eg (hb pins s1 σ H1 _ I1 q1) fun u s2 ⟨y,H2,I2,r2,q2⟩ =>
  Eg (ho pins s2 σ H2 x y v u _ I2 r1 r2 q2) fun d s3 ⟨z,H3,I3,r3,k,e,q3⟩=>?_)) hm
 subst e
 cases r3
 refine JF ?_
 cases k with
 | false=>exact ite_ff ⟨.bl false,H3,I3,rfl,q3⟩
 | true=>exact ite_tt (chain_last (Eg (hc pins s3 σ H3 _ I3 q3) fun w' s4 ⟨z',H4,I4,r4,q4⟩=>ho' pins s4 σ H4 y z' u w' Q I4 r2 r4 q4))
theorem lO:(sizeLine:Nat)<2^63:=by rw[sizeLine_eq];decide
theorem vals1{x:V}(r:dq [x] us):∃u,us=[u]/\RelV x u:=by
 cases r with
 | cons r1 r2=>cases r2;exact⟨_,rfl,r1⟩
theorem vals2{x y:V}(r:dq [x,y] us):∃u w',us=[u,w']/\RelV x u/\RelV y w':=by
 cases r with
 | cons r1 r2 =>
   cases r2 with
   | cons r3 r4=>cases r4;exact⟨_,_,rfl,r1,r3⟩
theorem sr:eE X (.builtin "abs") (fun xs H Q=>∃i,xs=[.int i]/\Q (.int (if i<0 then -i else i)) H):=by
 intro pins s σ H xs us Q I r h
 obtain⟨i,rfl,q⟩:=h
 obtain⟨u,rfl,t,rfl⟩:=vals1 r
 exact call_abs_int fun u tk=>⟨.int (if i<0 then -i else i),H,I.tok _,⟨_,rfl⟩,q⟩
theorem pX(hc:X.calm=true):eE X (.builtin "max") (fun xs H Q=>∃i j,xs=[.int i,.int j]/\Q (.int (if j>i then j else i)) H):=by
 intro pins s σ H xs us Q I r h
 obtain⟨i,j,rfl,q⟩:=h
 obtain⟨u,w',rfl,⟨t,rfl⟩,⟨t',rfl⟩⟩:=vals2 r
 refine max_two_ints (I.ok.hd hc) fun h' tk k=>⟨_,H,I.kept k,?_,q⟩
 by_cases hj:j>i
 · rw[if_pos hj,if_pos hj];exact⟨_,rfl⟩
 · rw[if_neg hj,if_neg hj];exact⟨_,rfl⟩
theorem pW(hc:X.calm=true):eE X (.builtin "min") (fun xs H Q=>∃i j,xs=[.int i,.int j]/\Q (.int (if j<i then j else i)) H):=by
 intro pins s σ H xs us Q I r h
 obtain⟨i,j,rfl,q⟩:=h
 obtain⟨u,w',rfl,⟨t,rfl⟩,⟨t',rfl⟩⟩:=vals2 r
 refine min_two_ints (I.ok.hd hc) fun h' tk k=>⟨_,H,I.kept k,?_,q⟩
 by_cases hj:j<i
 · rw[if_pos hj,if_pos hj];exact⟨_,rfl⟩
 · rw[if_neg hj,if_neg hj];exact⟨_,rfl⟩
theorem pY:eE X (.type "int") (fun xs H Q=>(∃i,xs=[.int i]/\Q (.int i) H)\/∃k,xs=[.bl k]/\Q (.int (if k then 1 else 0)) H):=by
 intro pins s σ H xs us Q I r h
 rcases h with⟨i,rfl,q⟩|⟨k,rfl,q⟩
 · obtain⟨u,rfl,t,rfl⟩:=vals1 r
   exact call_int_int ⟨.int i,H,I,⟨_,rfl⟩,q⟩
 · obtain⟨u,rfl,r1⟩:=vals1 r
   cases r1
   exact call_int_bool ⟨.int (if k then 1 else 0),H,I.tok _,⟨_,rfl⟩,q⟩
end
section
variable{prog:Ie}{w:II}{A:Jb}{E:HE->HH->Prop}{s:HH}{K:W.Frag}{x dx C f:Addr}{mA:Str->Option HE}{name:Str}{v:HE}
end
theorem vU.some_of{v:V}{o:Option HE}(r:vU (some v) o):∃u,o=some u/\RelV v u:=by
 cases o with
 | none=>exact(show False from r).elim
 | some u=>exact⟨u,rfl,r⟩
section
variable{P:Ie}{w:II}{H H':Hp}{h h':Heap}{a C dx:Addr}{fs fs':List (Str×V)}
end
section
variable{X:Cx}{pins:List (Addr×Obj)}{σ:St}{H:Hp}{s:HH}{a C dx:Addr}{fs:List (Str×V)}{f:Str}{v:V}{A:Jb}{E:HE->HH->Prop}
end
section
variable{X:Cx}{o e value:Expr}{f:Str}{pos pos' tpos:Pos}{ta tv:TE}
end
section
variable{X:Cx}{pins:List (Addr×Obj)}{σ:St}{H:Hp}{s:HH}{A:Jb}{E:HE->HH->Prop}{Q:HE->HH->Prop}{c:HE}{b:Bool}
end
structure Room (k:Nat) (A:Jb):Prop where
 hd:A.handled=none
 dp:A.depth+3*k+5<recursionLimit
 un:A.units+16*k+200<MI
 gd:A.guards=some []
theorem Room.mono{k:Nat}(r:Room k A)(h:j<=k):Room j A:=⟨r.hd,by have:=r.dp;omega,by have:=r.un;omega,r.gd⟩
theorem Room.deeper{k:Nat}(r:Room (k+1) A)(env:Env):Room k (A.deeper env) :=
 ⟨r.hd,by have:=r.dp;show A.depth+1+3*k+5<_;omega,by have:=r.un;show A.units+3+16*k+200<_;omega,r.gd⟩
theorem Room.depth{k:Nat}(r:Room k A):A.depth<recursionLimit:=by have:=r.dp;omega
theorem Room.units{k:Nat}(r:Room k A):A.units+64<MI:=by have:=r.un;omega
noncomputable def CM:TA:=fun _ H Q=>Q [] H
noncomputable def zI(ta:TE)(tr:TA):TA:=fun σ H Q=>ta σ H fun x H1=>tr σ H1 fun xs H2=>Q (x::xs) H2
section
variable{X:Cx}{e:Expr}{es:List Expr}{te:TE}{t:TA}{pos:Pos}
theorem ox:PA X [] CM:=fun _ _ _ _ H Q I h=>Calls.spliced_nil ⟨[],H,I,.nil,h⟩
theorem gz(ha:PE X e te)(hr:PA X es t)(hs:HL (e::es) X.env=(false,eval e X.env)::HL es X.env:=by rfl):PA X (e::es) (zI te t):=by
 intro pos pins s σ H Q I h
 rw[hs]
 show Im _ _ (spliced ((false,eval e X.env)::Jv pos (HL es X.env))) _ _ s
 refine Calls.spliced_cons (Eg (ha pins s σ H _ I h) fun u s1 ⟨x,H1,I1,r1,q1⟩=>?_)
 exact Eg (hr pos pins s1 σ H1 _ I1 q1) fun us s2 ⟨xs,H2,I2,r2,q2⟩=>⟨x::xs,H2,I2,.cons r1 r2,q2⟩
noncomputable def CF(t:TA):TE:=fun σ H Q=>t σ H fun xs H1=>xs.length<=sizeLine/\∀p,H1 p=none->Q (.ref p) (upd H1 p (.tup xs))
noncomputable def CN(t:TA):TE:=fun σ H Q=>t σ H fun xs H1=>xs.length<=sizeLine/\∀p,H1 p=none->Q (.ref p) (upd H1 p (.lst xs))
theorem xA{x1}(h:PA X es t):PE X (.Tuple es x1 pos) (CF t):=by
 intro pins s σ H Q I hq
 refine wpAny_Tuple_spliced (Eg (h pos pins s σ H _ I hq) fun us s1 ⟨xs,H1,I1,r,z,q⟩=>⟨by rw[<- r.length];exact z,?_⟩)
 have hf:H1 s1.heap.objs.size=none:=I1.hok.fresh (HS _)
 refine⟨.ref s1.heap.objs.size,upd H1 s1.heap.objs.size (.tup xs),I1.laid (t':=s1.toks) (fun b u e=>HK _ e) (HS _) ?_,rfl,q _ hf⟩
 exact⟨z,us,r,qh.new _ _⟩
theorem xF(h:PA X es t):PE X (.List es pos) (CN t):=by
 intro pins s σ H Q I hq
 refine wpAny_List_spliced (Eg (h pos pins s σ H _ I hq) fun us s1 ⟨xs,H1,I1,r,z,q⟩=>⟨by rw[<- r.length];exact z,?_⟩)
 have hf:H1 s1.heap.objs.size=none:=I1.hok.fresh (HS _)
 refine⟨.ref s1.heap.objs.size,upd H1 s1.heap.objs.size (.lst xs),I1.laid (t':=s1.toks) (fun b u e=>HK _ e) (HS _) ?_,rfl,q _ hf⟩
 exact⟨z,us,0,r,HW _ rfl⟩
end
abbrev Sp:=List V->Hp->VK->XK->Prop
abbrev Ho:=List Env->Hp->HH->XK->HE->HH->Prop
structure Env0 (P:Ie) (w:II) (K:W.Frag) (mg:Str->Option HE) (base:Heap) (A:Jb) (outer:List Env) (s:HH) (H:Hp):Prop where
 frames:A.frames=some outer
 mod:Mod K mg base
 bs:∀b o,base.get? b=some o->s.heap.get? b=some o/\H b=none
 bsz:base.objs.size<=s.heap.objs.size
 funs:s.heap.FunFrames base outer
 frf:∀b∈frs outer,H b=none
 hok:Hl P w H s.heap
 bare:Mv s.gens
noncomputable def CE(outer:List Env)(P:Ie)(w:II)(H:Hp)(s:HH)(Q:VK)(u:HE)(s':HH):Prop :=
 ∃v H',s'.os=s.os/\Mv s'.gens/\Un (frs outer) [] H H' s.heap s'.heap/\Hl P w H' s'.heap/\RelV v u/\Q v H'
noncomputable def CR(CX:Ho)(outer:List Env)(P:Ie)(w:II)(H:Hp)(s:HH)(Q:VK)(E:XK)(r:Result)(s':HH):Prop :=
 match r with
 | .ok (.ret u)=>CE outer P w H s Q u s'
 | .ok _=>False
 | .error e=>CX outer H s E e s'
structure FnOk (P:Ie) (w:II) (K:W.Frag) (mg:Str->Option HE) (base:Heap) (CX:Ho) (k:Nat) (f:Addr) (fd:Kf) (ps:List Str) (sp:Sp):Prop where
 len:∀vs H Q E,sp vs H Q E->vs.length=ps.length
 run:∀(A:Jb)(outer:List Env)(s:HH)(H:Hp)(args:Args)(us:List HE)(vs:List V)(Q:VK)(E:XK),Room k A->Env0 P w K mg base A outer s H->M5 s fd args (ps.zip us)->dq vs us->sp vs H Q E ->
  L_ (IH P w) A (.call (.ref f) args) (CR CX outer P w H s Q E) s
section
variable{X:Cx}{pins:List (Addr×Obj)}{σ:St}{H:Hp}{s s':HH}
theorem Inv.env0(I:Inv X pins σ H s):Env0 X.prog X.w X.K X.mg X.base X.A X.stack s H :=
 ⟨I.ok.frames,I.ok.mod,I.bs,JI I.ok.bsz I.sz,I.stack,I.stkFree,I.hok,I.bare⟩
theorem Inv.after{Q:VK}(I:Inv X pins σ H s)(h:CE X.stack X.prog X.w H s Q u s'):EP X pins σ Q u s':=by
 obtain⟨v,H',os,bare,un,hok,r,q⟩:=h
 obtain⟨hh,g,d,t,os'⟩:=s'
 obtain rfl:os'=s.os:=os
 exact⟨v,H',I.call (h':=hh) (g':=g) (d':=d) (t':=t) (ch:=[]) un hok bare (fun b z=>absurd z (by simp)),r,q⟩
end
noncomputable def zJ(sp:Sp)(dvs:List V)(E:XK)(t:TA):TE:=fun σ H Q=>t σ H fun vs H1=>sp (vs++dvs) H1 Q E
noncomputable def Binds(K:W.Frag)(fd:Kf)(ps:List Str)(ds:List HE):Prop :=
 ∀(s:HH)(us:List HE),K.In s.heap->(us++ds).length=ps.length->M5 s fd ⟨us,[]⟩ (ps.zip (us++ds))
theorem Binds.all{K:W.Frag}{ps:List Str}(h:∀us:List HE,us.length=ps.length->bindArgs fd ⟨us,[]⟩=pure (ps.zip us)):Binds K fd ps []:=fun s us _ hl=>by
 rw[J9]at hl ⊢
 exact .of_eq (h us hl)
noncomputable def qg(CX:Ho)(X:Cx)(E:XK):Prop:=∀(pins:List (Addr×Obj))(σ:St)(H:Hp)(s:HH)(e:HE)(s':HH),Inv X pins σ H s->CX X.stack H s E e s'->X.xe e s'
section
variable{X:Cx}{CX:Ho}{k:Nat}{f C:Addr}{fd:Kf}{ps:List Str}{sp:Sp}{dvs:List V}{ds:List HE}{E:XK}{x m:Str}{p pos apos:Pos}{e o:Expr}{es:List Expr}{ta:TE}{t:TA}
theorem wY{σ:St}{H:Hp}{Q:VK}{vs:List V}(F:FnOk X.prog X.w X.K X.mg X.base CX k f fd ps sp)(hr:Room k X.A)(hb:Binds X.K fd ps ds)(hd:dq dvs ds)(hx:qg CX X E)
 (I:Inv X pins σ H s)(r:dq vs us)(h:sp (vs++dvs) H Q E):Im (IH X.prog X.w) X.A (call (.ref f) us) (EP X pins σ Q) X.xe s:=by
 have r2:dq (vs++dvs) (us++ds):=r.append hd
 have hl:(us++ds).length=ps.length:=by rw[<- r2.length];exact F.len _ _ _ _ h
 refine wpAny_call (Ma (F.run X.A X.stack s H ⟨us,[]⟩ (us++ds) (vs++dvs) Q E hr I.env0 (hb s us I.kIn hl) r2 h) fun r s' hq=>?_)
 cases r with
 | error e=>exact hx pins σ H s e s' I hq
 | ok fl =>
   cases fl with
   | ret u=>exact I.after hq
   | next=>exact Jm hq
   | brk=>exact Jm hq
   | cont=>exact Jm hq
theorem kP(F:FnOk X.prog X.w X.K X.mg X.base CX k f fd ps sp)(hr:Room k X.A)(hg:Gl X x)(hm:X.mg x=some (.ref f))(hk:W.keepIn X.K (.ref f)=true)(hb:Binds X.K fd ps ds)(hd:dq dvs ds)(hx:qg CX X E)
 (ha:PA X (e::es) t)(hdb:(x==("__debug__" : Str))=false:=by decide)(he:HL (e::es) X.env=(false,eval e X.env)::HL es X.env:=by rfl)(hpl:(Jv pos (HL es X.env)).any (·.1)=false:=by rfl) :
 PE X (.Call (.Name x p) (e::es) [] pos) (zJ sp dvs E t):=by
 intro pins s σ H Q I h
 refine Ly (oV I hg hm ?_ hdb)
 refine W.callWith_K (h₀:=X.base) I.ok.mod.kin hk (Eg (ha pos pins s σ H _ I h) fun us s1 ⟨vs,H1,I1,r,q⟩=>⟨I1.kIn,?_⟩) he hpl
 exact wY F hr hb hd hx I1 r q
end
section
variable{X:Cx}{CX:Ho}{k:Nat}{f C:Addr}{fd:Kf}{ps ks:List Str}{sp:Sp}{E:XK}{x m:Str}{p pos apos kpos:Pos}{e o:Expr}{es:List Expr}{kws:List LB}{te ta:TE}{t tk:TA}{nm:Option Str}
variable{g:List HE->List HE->List HE}{gV:List V->List V->List V}
end
structure FnScope (N P:List Str) (sc:Scope):Prop where
 kind:sc.kind = .function
 co:sc.isCoroutine=false
 gen:sc.isGenerator=false
 nd:N.Nodup
 pre:N.take P.length=P
 par:∀x∈P,sc.names.lookup x=some .local\/sc.names.lookup x=some .cell
 nofree:∀y∈sc.names,y.2 ≠ .free
theorem kf{kindOf:Str->Option KQ}{x:Str}:∀{binds:List (Str×HE)}{m:Str->Option HE},(∀v,(x,v)∉binds)->bindL kindOf binds m x=m x
 | [],_,_=>rfl
 | (n,v)::r,m,h=>by
   unfold bindL
   rw[kf fun w hw=>h w (Ic _ hw)]
   split
   · have:x≠n:=by rintro rfl;exact h v Iw
     simp[this]
   · rfl
theorem kj{kindOf:Str->Option KQ}{x:Str}:∀{binds:List (Str×HE)}{m:Str->Option HE},(∀v,(x,v)∉binds)->bindC kindOf binds m x=m x
 | [],_,_=>rfl
 | (n,v)::r,m,h=>by
   unfold bindC
   rw[kj fun w hw=>h w (Ic _ hw)]
   split
   · rfl
   · have:x≠n:=by rintro rfl;exact h v Iw
     simp[this]
theorem ki{kindOf:Str->Option KQ}{x:Str}{v:HE}:∀{P:List Str}{vs:List HE}{i:Nat}{m:Str->Option HE},P.Nodup->P[i]?=some x->vs[i]?=some v->kindOf x=some .local ->
 bindL kindOf (P.zip vs) m x=some v
 | [],_,_,_,_,h,_,_=>by simp at h
 | _::_,[],_,_,_,_,h,_=>by simp at h
 | p::P,w::vs,0,m,nd,h1,h2,hk=>by
   simp at h1 h2;subst h1;subst h2
   show bindL kindOf ((p,w)::P.zip vs) m p=_
   unfold bindL
   rw[kf fun v hv=>(J_.mp nd).1 (Jx hv).1,if_pos hk]
   simp
 | p::P,w::vs,i+1,m,nd,h1,h2,hk=>by
   show bindL kindOf ((p,w)::P.zip vs) m x=_
   unfold bindL
   exact ki (i:=i) (J_.mp nd).2 (by simpa using h1) (by simpa using h2) hk
theorem km{kindOf:Str->Option KQ}{x:Str}{v:HE}:∀{P:List Str}{vs:List HE}{i:Nat}{m:Str->Option HE},P.Nodup->P[i]?=some x->vs[i]?=some v->kindOf x≠some .local ->
 bindC kindOf (P.zip vs) m x=some v
 | [],_,_,_,_,h,_,_=>by simp at h
 | _::_,[],_,_,_,_,h,_=>by simp at h
 | p::P,w::vs,0,m,nd,h1,h2,hk=>by
   simp at h1 h2;subst h1;subst h2
   show bindC kindOf ((p,w)::P.zip vs) m p=_
   unfold bindC
   rw[kj fun v hv=>(J_.mp nd).1 (Jx hv).1,if_neg hk]
   simp
 | p::P,w::vs,i+1,m,nd,h1,h2,hk=>by
   show bindC kindOf ((p,w)::P.zip vs) m x=_
   unfold bindC
   exact km (i:=i) (J_.mp nd).2 (by simpa using h1) (by simpa using h2) hk
noncomputable def start(N:List Str)(vs:List V):St:=vs.map some++HR (N.length-vs.length) none
noncomputable def qm(CX:Ho)(P:Ie)(w:II)(K:W.Frag)(mg:Str->Option HE)(base:Heap)(N:List Str)(qual:Str)(scope:Scope)(f:Addr)(cd:HE)(A:Jb)(outer:List Env)(s:HH)(H:Hp)(E:XK):Cx where
 prog:=P
 w:=w
 K:=K
 mg:=mg
 base:=base
 A:=A.deeper (Mb qual scope s.heap.objs.size f cd)
 N:=N
 s₀:=s
 H₀:=H
 env:=Mb qual scope s.heap.objs.size f cd
 outer:=outer
 stack:=Mb qual scope s.heap.objs.size f cd::outer
 ex:=[]
 calm:=true
 fn:=fun _=>true
 pn:=[]
 xe:=fun e s'=>Im (IH P w) (A.deeper (Mb qual scope s.heap.objs.size f cd)) (leaving (Mb qual scope s.heap.objs.size f cd) e) (fun _ s''=>CX outer H s E e s'') (fun e' s''=>CX outer H s E e' s'') s'
theorem lW{sc:Scope}(h:sc.names.lookup x=some .cell):∃c,(JE n sc.names []).lookup x=some c:=by
 have q:=W.cellsFrom_some sc.names n [] (.inl h)
 exact Ka.mp q
theorem o9{CX:Ho}{K:W.Frag}{base:Heap}{ps:List Str}{f:Addr}{cd:HE}{outer:List Env}{s1:HH}{H:Hp}{E:XK}{vs:List V}
 (S:FnScope N ps scope)(hd:A.handled=none)(e0:Env0 P w K mg base A outer s H)(hl:vs.length=ps.length)(r:dq vs us)
 (x:InCallC s s.heap.objs.size (bindL (Mb qual scope s.heap.objs.size f cd).kindOf (ps.zip us) fun _=>none) (JE (s.heap.objs.size+1) scope.names []) (bindC (Mb qual scope s.heap.objs.size f cd).kindOf (ps.zip us) fun _=>none) s1) :
 Inv (qm CX P w K mg base N qual scope f cd A outer s H E) [] (start N vs) H s1:=by
 have hpl:ps.length<=N.length:=by have:=congrArg List.length S.pre;rw[IJ]at this;omega
 obtain⟨h1,tk,rfl,hk⟩:=x.done
 have noA:∀b:Addr,b∉(qm CX P w K mg base N qual scope f cd A outer s H E).ex:=fun b z=>absurd (show b∈([]:List Addr)from z) (by simp)
 refine⟨⟨e0.mod,S.kind,rfl,rfl,HS _,fun y z c h1 h2=>?_,fun y hy=>?_,fun y c _ h=>?_,fun _=>hd,Jb.frames_deeper e0.frames,.inr ⟨rfl,rfl⟩,fun b z=>absurd z (noA b),e0.bs,e0.bsz,fun b _ _=>noA b,fun b z=>absurd z (noA b),e0.funs,e0.frf⟩,
  rfl,e0.bare,Un.kept hk,⟨_,x.toInCall.ns,fun i y v h1 h2 h3=>?_⟩,fun y c h=>⟨_,x.cell y c h⟩,e0.hok.fresh (HS _),fun y c h=>?_,fun p hp=>absurd (show p∈([]:List (Addr×Obj))from hp) (by simp),e0.hok.kept hk,?_⟩
 · exact name_of_addr x.apart (IV h1) (IV h2)
 · have hy:scope.names.lookup y=some .cell\/scope.names.lookup y=some .free:=hy
   rcases hy with hy|hy
   · exact lW hy
   · exact absurd rfl (S.nofree _ (IV hy))
 · exact MU (x.above y c (IV h))
 · have hi:i<vs.length:=by
     unfold start at h2
     by_cases hi:i<vs.length
     · exact hi
     · rw[Ls (by simpa using hi)]at h2
       rw[LS]at h2
       split at h2<;>cases h2
   have ha:vs[i]?=some v:=by
    unfold start at h2
    rw[Kz (by simpa using hi),Ix]at h2
    cases e:vs[i]? with
    | none=>rw[e]at h2;cases h2
    | some a=>rw[e]at h2;cases h2;rfl
   obtain⟨u,hu,rv⟩:=r.get ha
   have hp:ps[i]?=some y:=by
    rw[<- S.pre,List.getElem?_take_of_lt (by omega)];exact h1
   have ndP:ps.Nodup:=by rw[<- S.pre];exact S.nd.sublist (List.take_sublist _ _)
   refine⟨u,rv,?_⟩
   rcases S.par y (JQ hp)with k|k
   · exact .inl ⟨k,ki ndP hp hu k⟩
   · obtain⟨c,e⟩:=lW (n:=s.heap.objs.size+1) k
     refine .inr ⟨.inl k,c,e,?_⟩
     have q:=x.cell y c e
     rw[km ndP hp hu (by show scope.names.lookup y≠_;rw[k];decide)]at q
     exact q
 · exact e0.hok.fresh (MU (x.above y c (IV h)))
 · unfold start
   show _=N.length
   rw[Ij,HM,JJ]
   omega
theorem AA{CX:Ho}{K:W.Frag}{base:Heap}{k:Nat}{f:Addr}{name:Str}{params:Arguments}{body:List Stmt}{dV kV doc pm cdv ct oc:HE}{an od:Option Addr}
 {osl:Array (Option HE)}{ps:List Str}{sp:Sp}(lk:K.lookup f=some ⟨oc,od,.func (W.fnOf name qual params body scope dV kV doc pm an cdv ct),osl⟩)(hcd:W.codeIn K cdv qual=true)(S:FnScope N ps scope)
 (len:∀vs H Q E,sp vs H Q E->vs.length=ps.length)
 (hbody:∀(A:Jb)(outer:List Env)(s:HH)(H:Hp)(vs:List V)(Q:VK)(E:XK),Room k (A.deeper (Mb qual scope s.heap.objs.size f cdv))->sp vs H Q E ->
  ∃t,GS (qm CX P w K mg base N qual scope f cdv A outer s H E) body t/\t {nx:=fun _ H'=>Q .non H',rt:=Q} (start N vs) H) :
 FnOk P w K mg base CX (k+1) f (W.fnOf name qual params body scope dV kV doc pm an cdv ct) ps sp:=by
 refine⟨len,fun A outer s H args us vs Q E hr e0 hb r hsp=>?_⟩
 have hl:=len _ _ _ _ hsp
 have KX:K.In s.heap:=e0.mod.kin.keeps fun b o e=>(e0.bs b o e).1
 have lim:s.heap.NoLimit:=e0.mod.nolimit.keeps fun b o e=>(e0.bs b o e).1
 have hkind:∀y∈ps.zip us,scope.names.lookup y.1=some .local\/(scope.names.lookup y.1=some .cell/\((JE (s.heap.objs.size+1) scope.names []).lookup y.1).isSome=true):=fun⟨n,v⟩ hy=>by
  rcases S.par n (Jx hy).1 with q|q
  · exact .inl q
  · exact .inr ⟨q,W.cellsFrom_some _ _ _ (.inl q)⟩
 refine codeAny_call_function hr.depth (KX _ _ lk) rfl S.co S.gen rfl (W.codeRec_of KX hcd) (hb _ _ _ _ ?_)
 refine wpAny_newFunctionEnv_cells S.kind hkind fun env he s1 x=>?_
 subst he
 refine⟨lim.keeps x.toInCall.keep,codeAny_func ?_⟩
 obtain⟨t,ht,hq⟩:=hbody A outer s H vs Q E (hr.deeper _) hsp
 have I:Inv (qm CX P w K mg base N qual scope f cdv A outer s H E) [] (start N vs) H s1:=o9 S hr.hd e0 hl r x
 refine JW (ht [] s1 (start N vs) H _ I hq) (fun fl s' hs=>?_) fun e s' hs=>hs
 have fin:∀{σ':St}{H':Hp}{v:V}{u:HE},Inv (qm CX P w K mg base N qual scope f cdv A outer s H E) [] σ' H' s'->RelV v u->Q v H'->CE outer P w H s Q u s' :=
  fun{σ' H' v u} J rv q=>⟨v,H',J.os,J.bare,J.base,J.hok,rv,q⟩
 cases fl with
 | ret u =>
   obtain⟨v,σ',H',J,rv,q⟩:=hs
   exact fin J rv q
 | next =>
   obtain⟨σ',H',J,q⟩:=hs
   exact fin (v:=V.non) (u:=KG) J rfl q
 | brk =>
   obtain⟨_,_,_,q⟩:=hs
   exact Jm q
 | cont =>
   obtain⟨_,_,_,q⟩:=hs
   exact Jm q
section
variable{X:Cx}{x:Str}{p pos:Pos}{e:Expr}{es:List Expr}{t:TA}{id T:String}{r:List V->Hp->VK->Prop}
noncomputable def Eo(r:List V->Hp->VK->Prop)(t:TA):TE:=fun σ H Q=>t σ H fun vs H1=>r vs H1 Q
theorem qU(hc:eE X (.builtin id) r)(hg:Gl X x)(hm:X.mg x=none)(hv:Kc x=some (.builtin id))(ha:PA X (e::es) t)(hn:x ≠ "__name__" := by decide)(hdb:(x==("__debug__" : Str))=false:=by decide)
 (he:HL (e::es) X.env=(false,eval e X.env)::HL es X.env:=by rfl)(hpl:(Jv pos (HL es X.env)).any (·.1)=false:=by rfl):PE X (.Call (.Name x p) (e::es) [] pos) (Eo r t):=by
 intro pins s σ H Q I h
 refine Ly (iB I hg hm hv ?_ hn hdb)
 exact PyProof.Rows.callWith_builtin1 (Eg (ha pos pins s σ H _ I h) fun us s1 ⟨vs,H1,I1,r1,q1⟩=>hc pins s1 σ H1 vs us Q I1 r1 q1) he hpl
theorem ot(hc:eE X (.type T) r)(hg:Gl X x)(hm:X.mg x=none)(hv:Kc x=some (.type T))(ha:PA X (e::es) t)(hn:x ≠ "__name__" := by decide)(hdb:(x==("__debug__" : Str))=false:=by decide)
 (he:HL (e::es) X.env=(false,eval e X.env)::HL es X.env:=by rfl)(hpl:(Jv pos (HL es X.env)).any (·.1)=false:=by rfl):PE X (.Call (.Name x p) (e::es) [] pos) (Eo r t):=by
 intro pins s σ H Q I h
 refine Ly (iB I hg hm hv ?_ hn hdb)
 exact JV (Eg (ha pos pins s σ H _ I h) fun us s1 ⟨vs,H1,I1,r1,q1⟩=>hc pins s1 σ H1 vs us Q I1 r1 q1) he hpl
end
end L2
variable{H H' F F' F₀ H₀:L2.Hp}{v:L2.V}{X:L2.Cx}{σ:L2.St}{vs:List L2.V}{kvs:List (List L2.G6×L2.V)}
namespace HT
open PySem PyProof.Rows
section
open PySem.SeqAt
open PySem.AutoSeq1 (wpAny_loadPart')
open PySem.MeetsSeq PySem.MeetsSeq2 PySem.MeetsSeq3
end
section
variable{prog:Ie}{w:II}{A:Jb}{E:HE->HH->Prop}{s:HH}
theorem cat_tup{t:Addr}{vs ws:List HE}(ht:Nf s.heap t vs.toArray)(hb:Nf s.heap b ws.toArray)(hv:vs≠[])
 (h1:ws=[]->Q (.ref t) s)(h2:ws≠[]->Q (.ref s.heap.objs.size) {s with heap:=s.heap.push {cls:=.type "tuple", data:=.seq (vs++ws).toArray}})
 (hsz:vs.length+ws.length<=sizeLine):Im (IH prog w) A (Ke .Add (.ref t) (.ref b)) Q E s:=by
 obtain⟨⟨cls,dd,data,sl⟩,ho,hc,n,hd⟩:=id ht
 obtain⟨⟨cls2,dd2,data2,sl2⟩,ho2,hc2,n2,hd2⟩:=id hb
 simp only at hc hd hc2 hd2
 subst hc hd hc2 hd2
 have e:vs.toArray++ws.toArray=(vs++ws).toArray:=by simp
 by_cases hw:ws=[]
 · exact MV ⟨_,ho,rfl⟩ ⟨_,ho2,rfl⟩ L1 MJ K1 KR (KI _ _)
     (tuple_addW1 t b vs.toArray ws.toArray n n2 dd dd2 sl sl2 (by simpa using hv) (by simp[hw])) ⟨ho,ho2,h1 hw⟩
 · refine MV ⟨_,ho,rfl⟩ ⟨_,ho2,rfl⟩ L1 MJ K1 KR (KI _ _)
     (tuple_addW2 t b vs.toArray ws.toArray n n2 dd dd2 sl sl2 (by simpa using hv) (by simpa using hw) (by rw[HU,HU];exact hsz)) ⟨ho,ho2,?_⟩
   rw[e]
   exact h2 hw
noncomputable def sIx(n d:Nat):Option Int->Nat
 | none=>d
 | some v=>if v<0 then(v+(n:Int)).toNat else min v.toNat n
theorem sIx_none(n d:Nat):sIx n d none=d:=rfl
theorem sIx_nat(n d k:Nat):sIx n d (some (k:Int))=min k n:=by
 show(if(k:Int)<0 then((k:Int)+(n:Int)).toNat else min (k:Int).toNat n)=min k n
 rw[if_neg (by omega),JS]
theorem wX(n d:Nat)(hd:d<=n)(o:Option Int):sIx n d o<=n:=by
 cases o with
 | none=>exact hd
 | some v =>
   show(if v<0 then(v+(n:Int)).toNat else min v.toNat n)<=n
   by_cases hv:v<0
   · rw[if_pos hv];omega
   · rw[if_neg hv];exact Nat.min_le_right _ _
theorem pQ(v:Int)(n d:Nat):(if v<0 then max (v+(n:Int)) 0 else min v (n:Int))=((sIx n d (some v):Nat):Int):=by
 show(if v<0 then max (v+(n:Int)) 0 else min v (n:Int))=(((if v<0 then(v+(n:Int)).toNat else min v.toNat n):Nat):Int)
 by_cases hv:v<0
 · simp only[if_pos hv];omega
 · simp only[if_neg hv];omega
theorem mN(lo hi:Option Int)(n:Nat):KA lo hi 1 (n:Int)=(((sIx n 0 lo:Nat):Int),((sIx n n hi:Nat):Int)):=by
 have h1:¬((1:Int)<0):=by omega
 unfold KA
 simp only[h1,if_false]
 refine Prod.ext ?_ ?_
 · cases lo with
   | none=>rfl
   | some v=>exact pQ v n 0
 · cases hi with
   | none=>rfl
   | some v=>exact pQ v n n
theorem mE(i j:Nat):J2 (i:Int) (j:Int) 1=j-i:=by
 unfold J2
 have h1:(1:Int)>0:=by omega
 simp only[h1,if_true,Int.ediv_one]
 split<;>omega
theorem ie{v:HE}{o:Option Int}{Q:Option Int->HH->Prop}(p:MK v o)(h:Q o s):Im (IH prog w) A (Builtin.Slice.slicePartIndex v) Q E s:=by
 cases p with
 | none=>exact slicePart_none h
 | int i t=>exact slicePart_int h
theorem sliceApplied_gen{sl:Addr}{vl vu:HE}{lo hi:Option Int}{Q:Int×Int×Nat->HH->Prop}(hs:s.heap.IsSliceOf sl vl vu .none)(pl:MK vl lo)(pu:MK vu hi)
 (h:Q (((sIx n 0 lo:Nat):Int),1,sIx n n hi-sIx n 0 lo) s):Im (IH prog w) A (Lu (.ref sl) (pure (n:Int))) Q E s:=by
 obtain⟨os,hos,hcs,hds⟩:=id hs
 unfold Lu Builtin.Slice.sliceFields
 refine HB (HB (IR hos hds (x:=vl) rfl (HB (IR hos hds (x:=vu) rfl (HB (IR hos hds (x:=.none) rfl (HQ ?_)))))))
 refine HB (slicePart_none ?_)
 show Im _ _ (if((1:Int)==0)=true then _ else _) _ _ s
 rw[if_neg (by decide)]
 refine HB (ie pl (HB (ie pu (HB (HQ ?_)))))
 show Im _ _ (match KA lo hi 1 (n:Int)with|(lo,hi)=>pure (lo,(1:Int),J2 lo hi 1)) _ _ s
 rw[mN lo hi n]
 show Im _ _ (pure (((sIx n 0 lo:Nat):Int),(1:Int),J2 ((sIx n 0 lo:Nat):Int) ((sIx n n hi:Nat):Int) 1)) _ _ s
 rw[mE]
 exact HQ h
theorem qQ(xs:Array HE)(i k:Nat):((Jj k).filterMap fun(m:Nat)=>xs[((i:Int)+(m:Int)*1).toNat]?).toArray=((xs.toList.drop i).take k).toArray:=by
 have e:(fun(m:Nat)=>xs[((i:Int)+(m:Int)*1).toNat]?)=fun m=>xs[i+m]?:=by
  funext m
  have:((i:Int)+(m:Int)*1).toNat=i+m:=by omega
  rw[this]
 rw[e]
 have:=pick_run xs i k
 rw[List.filterMap_map]at this
 have e2:((fun x=>xs[x]?) ∘ fun x=>i+x)=fun m=>xs[i+m]?:=rfl
 rw[e2]at this
 rw[this]
theorem getItem_tuple_cut{t sl:Addr}{items:Array HE}{vl vu:HE}{lo hi:Option Int}(ht:Nf s.heap t items)(hs:s.heap.IsSliceOf sl vl vu .none)(pl:MK vl lo)(pu:MK vu hi)
 (hw:¬(sIx items.size 0 lo=0/\sIx items.size items.size hi=items.size))
 (h:Q (.ref s.heap.objs.size) {s with heap:=s.heap.push {cls:=.type "tuple", data:=.seq ((items.toList.drop (sIx items.size 0 lo)).take (sIx items.size items.size hi-sIx items.size 0 lo)).toArray}})
 (hsz:items.size<=sizeLine):Im (IH prog w) A (LU (.ref t) (.ref sl)) Q E s:=by
 have htake:sizeOk (.seq ((items.toList.drop (sIx items.size 0 lo)).take (sIx items.size items.size hi-sIx items.size 0 lo)).toArray):=by
  show((items.toList.drop (sIx items.size 0 lo)).take (sIx items.size items.size hi-sIx items.size 0 lo)).toArray.size<=sizeLine
  rw[HU,IJ,JX,Lh]
  omega
 have hj:sIx items.size items.size hi<=items.size:=wX _ _ (HS _) hi
 obtain⟨os,hos,hcs,hds⟩:=id hs
 have hTs:s.TypeIs (.ref sl) "slice" := ⟨os,hos,hcs⟩
 unfold LU
 try with_reducible refine wpAny_holding ?_
 first|refine HB (HQ ?_)|skip
 refine HB (LL ht.typeIs (by decide) ?_)
 refine HB (IL (name:=Hw "__getitem__") ht.typeIs ID
  (JO ID ht.typeIs entry_tuple_getitem ?_ (args_tuple_getitem _ _)))
 show Im _ _ (Lv (.ref t) >>= _) _ _ s
 refine HB (LV ht ?_)
 refine HB (Mc hTs ?_)
 rw[if_pos (by decide)]
 refine HB (sliceApplied_gen hs pl pu ?_)
 have hno:¬((((sIx items.size 0 lo:Nat):Int)==0&&(1:Int)==1&&(sIx items.size items.size hi-sIx items.size 0 lo)==items.size)=true):=by
  intro q
  rw[Kh,Kh]at q
  have q1:((sIx items.size 0 lo:Nat):Int)=0:=eq_of_beq q.1.1
  have q2:sIx items.size items.size hi-sIx items.size 0 lo=items.size:=eq_of_beq q.2
  exact hw ⟨by omega,by omega⟩
 show Im _ _ (if(((sIx items.size 0 lo:Nat):Int)==0&&(1:Int)==1&&(sIx items.size items.size hi-sIx items.size 0 lo)==items.size)=true then _ else _) _ _ s
 rw[if_neg hno,qQ]
 first
  | exact HB (m:=Jt _) (Jk (HQ ⟨_,rfl,HQ h⟩) htake)
  | exact HB (m:=Jt _) (Jk (HB (HQ (HQ ⟨_,rfl,HQ h⟩))) htake)
  | exact HB (HB (m:=Jt _) (Jk (HQ (HQ ⟨_,rfl,HQ h⟩)) htake))
  | exact HB (HB (m:=Jt _) (Jk (HQ ⟨_,rfl,HQ h⟩) htake))
end
end HT
namespace L2
abbrev TO:=St->Hp->(Option Int->Hp->Prop)->Prop
noncomputable def PO(X:Cx)(e:Option Expr)(t:TO):Prop :=
 ∀ (pins:List (Addr×Obj))(s:HH)(σ:St)(H:Hp)(Q:Option Int->Hp->Prop),Inv X pins σ H s->t σ H Q ->
   Im (IH X.prog X.w) X.A (evalPart e X.env) (fun u s'=>∃o H',Inv X pins σ H' s'/\MK u o/\Q o H') X.xe s
noncomputable def uf:TO:=fun _ H Q=>Q none H
noncomputable def zD(t:TE):TO:=fun σ H Q=>t σ H fun x H1=>∃i,x = .int i/\Q (some i) H1
section
variable{X:Cx}{e:Expr}{te:TE}{lo hi:Option Expr}{tl th:TO}{pos p2:Pos}
theorem uA:PO X none uf:=by
 intro pins s σ H Q I h
 rw[evalPart_none]
 exact HQ ⟨none,H,I,.none,h⟩
theorem uz(h:PE X e te):PO X (some e) (zD te):=by
 intro pins s σ H Q I hw
 rw[evalPart_some]
 refine Eg (h pins s σ H _ I hw) fun u s1 ⟨x,H1,I1,r1,q1⟩=>?_
 obtain⟨i,rfl,q⟩:=q1
 obtain⟨t,rfl⟩:=r1
 exact⟨some i,H1,I1,.int i t,q⟩
noncomputable def GK(X:Cx)(r:V->Option Int->Option Int->Hp->VK->Prop):Prop :=
 ∀ (pins:List (Addr×Obj))(s:HH)(σ:St)(H:Hp)(x:V)(v vl vu:HE)(lo hi:Option Int)(sl:Addr)(Q:VK),Inv X pins σ H s->RelV x v->s.heap.IsSliceOf sl vl vu .none->MK vl lo->MK vu hi->r x lo hi H Q ->
   ∃T id,typeLookup (.type T) "__getitem__" = pure (some (.builtin id))/\s.TypeIs v T/\Im (IH X.prog X.w) X.A (LU v (.ref sl)) (EP X pins σ Q) X.xe s
noncomputable def Ej(r:V->Option Int->Option Int->Hp->VK->Prop)(te:TE)(tl th:TO):TE:=fun σ H Q=>te σ H fun x H1=>tl σ H1 fun l H2=>th σ H2 fun u H3=>r x l u H3 Q
theorem i_{r:V->Option Int->Option Int->Hp->VK->Prop}(hr:GK X r)(he:PE X e te)(hl:PO X lo tl)(hu:PO X hi th):PE X (.Subscript e (.Slice lo hi none p2) pos) (Ej r te tl th):=by
 intro pins s σ H Q I h
 refine Subscript_ (Eg (he pins s σ H _ I h) fun v s1 ⟨x,H1,I1,r1,q1⟩=>?_)
 refine wpAny_Slice (Eg (hl pins s1 σ H1 _ I1 q1) fun vl s2 ⟨l,H2,I2,pl,q2⟩=>Eg (hu pins s2 σ H2 _ I2 q2) fun vu s3 ⟨u,H3,I3,pu,q3⟩=>?_)
 rw[evalPart_none]
 refine HQ ?_
 have I4:Inv X pins σ H3 {s3 with heap:=s3.heap.push {cls:=.type "slice", data:=.fields #[vl,vu,.none]}}:=I3.kept (t':=s3.toks) fun b ob q=>HK _ q
 obtain⟨T,id,hT,ht,hg⟩:=hr pins {s3 with heap:=s3.heap.push {cls:=.type "slice", data:=.fields #[vl,vu,.none]}} σ H3 x v vl vu l u s3.heap.objs.size Q I4 r1 (Heap.IsSliceOf.new ..) pl pu q3
 show Im (IH X.prog X.w) X.A (ML e (.Slice lo hi none p2) v (.ref s3.heap.objs.size)) (EP X pins σ Q) X.xe {s3 with heap:=s3.heap.push {cls:=.type "slice", data:=.fields #[vl,vu,.none]}}
 exact tail_any (ops:=[.ref s3.heap.objs.size,v]) ht hT hg (by with_unfolding_all rfl)
noncomputable def rY(xs:List V)(lo hi:Option Int):List V:=(xs.drop (HT.sIx xs.length 0 lo)).take (HT.sIx xs.length xs.length hi-HT.sIx xs.length 0 lo)
theorem gO(xs:List V)(lo hi:Option Int):(rY xs lo hi).length<=xs.length:=by
 unfold rY
 rw[IJ,JX]
 omega
noncomputable def Cd(K:W.Frag):V->Option Int->Option Int->Hp->VK->Prop:=fun x lo hi H Q=>∃a xs,x = .ref a/\GE K H a xs /\
 ¬(HT.sIx xs.length 0 lo=0/\HT.sIx xs.length xs.length hi=xs.length)/\∀p,H p=none->Q (.ref p) (upd H p (.tup (rY xs lo hi)))
theorem wQ:GK X (Cd X.K):=by
 intro pins s σ H x v vl vu lo hi sl Q I rx hs pl pu h
 obtain⟨a,xs,rfl,hx,hw,q⟩:=h
 cases rx
 obtain⟨its,r,ht,hz⟩:=I.tuple hx
 have hlen:its.toArray.size=xs.length:=by rw[HU];exact r.length.symm
 refine⟨"tuple", _,ID.lookup,ht.typeIs,?_⟩
 refine HT.getItem_tuple_cut ht hs pl pu (by rw[hlen];exact hw) ?_ (by rw[hlen];exact hz)
 rw[hlen]
 refine⟨.ref s.heap.objs.size,_,I.laid (t':=s.toks) (o:=.tup (rY xs lo hi)) (fun b ob q=>HK _ q) (HS _) ?_,rfl,q _ (I.hok.fresh (HS _))⟩
 exact⟨JI (gO xs lo hi) hz,_,(r.drop (HT.sIx xs.length 0 lo)).take (HT.sIx xs.length xs.length hi-HT.sIx xs.length 0 lo),qh.new _ _⟩
noncomputable def uo(K:W.Frag):R2:=fun x y H Q=>∃a b xs ys,x = .ref a/\y = .ref b/\GE K H a xs/\GE K H b ys/\xs≠[]/\xs.length+ys.length<=sizeLine /\
 (ys=[]->Q (.ref a) H)/\(ys≠[]->∀p,H p=none->Q (.ref p) (upd H p (.tup (xs++ys))))
theorem dq.nil_iff{xs:List V}(r:dq xs us):us=[]↔xs=[]:=by
 cases r with
 | nil=>simp
 | cons _ _=>simp
theorem uM:G1 X (Ke .Add) (uo X.K):=by
 intro pins s σ H x y v u Q I rx ry h
 obtain⟨a,b,xs,ys,rfl,rfl,ha,hb,hx,hz,q1,q2⟩:=h
 cases rx
 cases ry
 obtain⟨its,r1,p1,_⟩:=I.tuple ha
 obtain⟨its2,r2,p2,_⟩:=I.tuple hb
 refine HT.cat_tup p1 p2 (fun z=>hx (r1.nil_iff.mp z)) (fun z=>⟨.ref a,H,I,rfl,q1 (r2.nil_iff.mp z)⟩) (fun z=>?_) (by rw[<- r1.length,<- r2.length];exact hz)
 refine⟨.ref s.heap.objs.size,_,I.laid (t':=s.toks) (o:=.tup (xs++ys)) (fun b ob q=>HK _ q) (HS _) ?_,rfl,q2 (fun w=>z (r2.nil_iff.mpr w)) _ (I.hok.fresh (HS _))⟩
 exact⟨by rw[Ij];exact hz,_,r1.append r2,qh.new _ _⟩
end
noncomputable def ixN(n:Nat)(i:Int):Option Nat:=if 0<=i then(if i<n then some i.toNat else none)else if -(n:Int)<=i then some (i+n).toNat else none
noncomputable def atI{α:Type}(xs:List α)(i:Int):Option α:=(ixN xs.length i).bind fun j=>xs[j]?
theorem u_{i:Int}(h:ixN n i=some j):seqIndex? i n=some j/\j<n /\ -(n:Int)<=i/\i<n:=by
 unfold ixN at h
 by_cases h0:0<=i
 · rw[if_pos h0]at h
   by_cases h1:i<n
   · rw[if_pos h1]at h
     have e:i.toNat=j:=Ii h
     exact⟨by rw[seqIndex_of h0 h1,e],by omega,by omega,h1⟩
   · rw[if_neg h1]at h;cases h
 · rw[if_neg h0]at h
   by_cases h1 : -(n:Int)<=i
   · rw[if_pos h1]at h
     have e:(i+n).toNat=j:=Ii h
     exact⟨by rw[seqIndex_neg (by omega) h1,e],by omega,h1,by omega⟩
   · rw[if_neg h1]at h;cases h
theorem ln{xs:List α}{i:Int}{v:α}(h:atI xs i=some v):∃j,seqIndex? i xs.length=some j/\xs[j]?=some v/\j<xs.length /\ -(xs.length:Int)<=i/\i<xs.length:=by
 unfold atI at h
 cases e:ixN xs.length i with
 | none=>rw[e]at h;cases h
 | some j =>
   rw[e]at h
   obtain⟨h1,h2,h3,h4⟩:=u_ e
   exact⟨j,h1,h,h2,h3,h4⟩
theorem bG{xs:List α}{v:α}(h:xs[j]?=some v):atI xs (j:Int)=some v:=by
 have hj:j<xs.length:=(H0.mp h).1
 have e:ixN xs.length (j:Int)=some j:=by
  unfold ixN
  rw[if_pos (by omega),if_pos (by omega)];simp
 unfold atI;rw[e];exact h
noncomputable def jm(b:Expr):Prop:=∀o i,Mx b false o i=operate [o,i] (LU o i)
noncomputable def G9(X:Cx)(r:R2):Prop :=
 ∀ (value slice:Expr)(pins:List (Addr×Obj))(s:HH)(σ:St)(H:Hp)(x y:V)(v u:HE)(Q:VK),Inv X pins σ H s->RelV x v->RelV y u->r x y H Q ->
   Mx slice false v u=operate [v,u] (LU v u)->Im (IH X.prog X.w) X.A (ML value slice v u) (EP X pins σ Q) X.xe s
noncomputable def G4(X:Cx)(id:String)(r:V->List V->Hp->VK->Prop):Prop :=
 ∀ (pins:List (Addr×Obj))(s:HH)(σ:St)(H:Hp)(x:V)(xs:List V)(v:HE)(us:List HE)(Q:VK),Inv X pins σ H s->RelV x v->dq xs us->r x xs H Q ->
   Im (IH X.prog X.w) X.A (call (.builtin id) (v::us)) (EP X pins σ Q) X.xe s
section
variable{X:Cx}{a b:Expr}{ta tb:TE}{pos:Pos}
theorem G9.or{r r':R2}(h:G9 X r)(h':G9 X r'):G9 X (fun x y H Q=>r x y H Q\/r' x y H Q):=by
 intro value slice pins s σ H x y v u Q I rx ry q hs
 rcases q with q|q
 · exact h value slice pins s σ H x y v u Q I rx ry q hs
 · exact h' value slice pins s σ H x y v u Q I rx ry q hs
theorem uF{r:R2}(hr:G9 X r)(ha:PE X a ta)(hb:PE X b tb)(hs:jm b):PE X (.Subscript a b pos) (El r ta tb):=by
 intro pins s σ H Q I h
 exact Subscript_ (AI ha hb I h fun v u s2 x y H2 I2 rx ry q=>hr a b pins s2 σ H2 x y v u Q I2 rx ry q (hs _ _))
noncomputable def Ci(K:W.Frag):R2:=fun x y H Q=>∃p xs i v,x = .ref p/\y = .int i/\GF K H p xs/\atI xs i=some v/\Q v H
noncomputable def Cg(K:W.Frag):R2:=fun x y H Q=>∃p xs i v,x = .ref p/\y = .int i/\GE K H p xs/\atI xs i=some v/\Q v H
noncomputable def Ch:R2:=fun x y H Q=>∃z i c,x = .str z/\y = .int i/\z.length<=sizeLine/\atI z.cps.toList i=some c/\Q (.str ⟨#[c]⟩) H
theorem Ao:G9 X (Ci X.K):=by
 intro value slice pins s σ H x y v u Q I rx ry h hs
 obtain⟨p,xs,i,z,rfl,rfl,hq,he,q⟩:=h
 cases rx
 obtain⟨t,rfl⟩:=ry
 obtain⟨its,r,pl,hz⟩:=I.list hq
 obtain⟨j,h1,h2,h3,h4,h5⟩:=ln he
 obtain⟨w,ew,rw'⟩:=r.get h2
 have hl:=r.length
 have hn:=lO
 have fin:EP X pins σ Q w s:=⟨z,H,I,rw',q⟩
 by_cases h0:0<=i
 · have hj:i.toNat=j:=by
     rw[seqIndex_of h0 h5]at h1
     exact Ii h1
   exact item_listR pl.isList h0 (by omega) (by rw[hj];simpa using ew) fin hs
 · have hj:(i+(its.toArray.size:Int)).toNat=j:=by
     rw[seqIndex_neg (by omega) h4]at h1
     rw[HU,<- hl]
     exact Ii h1
   exact L6 (x:=w) pl.isList.typeIs slot_list_getitem.lookup
    (wpAny_getItem_list_neg (Q:=fun r s'=>r=w/\EP X pins σ Q r s') pl.isList (by omega) (by rw[HU]<;>omega) (by omega) (by rw[hj];simpa using ew) ⟨rfl,fin⟩) hs
theorem Cr:G9 X (Cg X.K):=by
 intro value slice pins s σ H x y v u Q I rx ry h hs
 obtain⟨p,xs,i,z,rfl,rfl,hq,he,q⟩:=h
 cases rx
 obtain⟨t,rfl⟩:=ry
 obtain⟨its,r,pl,hz⟩:=I.tuple hq
 obtain⟨j,h1,h2,h3,h4,h5⟩:=ln he
 obtain⟨w,ew,rw'⟩:=r.get h2
 have hl:=r.length
 have hn:=lO
 have fin:EP X pins σ Q w s:=⟨z,H,I,rw',q⟩
 exact L6 (x:=w) pl.typeIs slot_tuple_getitem.lookup
  (getItem_tuple (j:=j) (Q:=fun r s'=>r=w/\EP X pins σ Q r s') pl (by omega) (by omega) (by rw[HU,<- hl];exact h1) (by simpa using ew) ⟨rfl,fin⟩) hs
theorem ye:G9 X Ch:=by
 intro value slice pins s σ H x y v u Q I rx ry h hs
 obtain⟨z,i,c,rfl,rfl,hz,he,q⟩:=h
 obtain⟨t,rfl⟩:=rx
 obtain⟨t',rfl⟩:=ry
 obtain⟨j,h1,h2,h3,h4,h5⟩:=ln he
 have hl:z.cps.toList.length=z.length:=by simp[Str.length]
 rw[hl]at h1 h4 h5
 have hn:=lO
 exact tail_any (typeIs_str s z t) slot_str_getitem.lookup (getItem_str (c:=c) (by
  have e1:decide (i < -(2^63:Int))=false:=decide_eq_false (by omega)
  have e2:decide (i ≥ 2^63)=false:=decide_eq_false (by omega)
  rw[e1,e2,Bool.or_false]) (by rw[h1];simpa using h2) ⟨.str ⟨#[c]⟩,H,I.tok _,⟨_,rfl⟩,q⟩) hs
noncomputable def EI(K:W.Frag):R2:=fun x y H Q=>Ci K x y H Q\/Cg K x y H Q\/Ch x y H Q
theorem o0:G9 X (EI X.K):=Ao.or (Cr.or ye)
theorem jA(lo hi:Option Int)(n:Nat):(K4 lo hi none n).1=((HT.sIx n 0 lo:Nat):Int)/\(K4 lo hi none n).2.1=((HT.sIx n n hi:Nat):Int)/\(K4 lo hi none n).2.2=1:=by
 refine⟨?_,?_,rfl⟩
 · cases lo with
   | none=>simp[K4,HT.sIx]
   | some i =>
     simp only[K4,HT.sIx,Option.getD_none,show(1:Int)>0 by decide,if_true]
     by_cases h:i<0
     · simp only[h,if_true]<;>omega
     · simp only[h,if_false]<;>omega
 · cases hi with
   | none=>simp[K4,HT.sIx]
   | some i =>
     simp only[K4,HT.sIx,Option.getD_none,show(1:Int)>0 by decide,if_true]
     by_cases h:i<0
     · simp only[h,if_true]<;>omega
     · simp only[h,if_false]<;>omega
theorem iS(its:List HE)(lo hi:Option Int):slicePick its.toArray lo hi none=((its.drop (HT.sIx its.length 0 lo)).take (HT.sIx its.length its.length hi-HT.sIx its.length 0 lo)).toArray:=by
 obtain⟨h1,h2,h3⟩:=jA lo hi its.toArray.size
 unfold slicePick
 rw[h1,h2,h3]
 simp only[sliceRange_one,pick_run,HU]<;>rfl
noncomputable def CV(K:W.Frag):V->Option Int->Option Int->Hp->VK->Prop:=fun x lo hi H Q=>∃a xs,x = .ref a/\GF K H a xs/\∀p,H p=none->Q (.ref p) (upd H p (.lst (rY xs lo hi)))
theorem nH:GK X (CV X.K):=by
 intro pins s σ H x v vl vu lo hi sl Q I rx hs pl pu h
 obtain⟨a,xs,rfl,hx,q⟩:=h
 cases rx
 obtain⟨its,r,ht,hz⟩:=I.list hx
 have hlen:=r.length
 refine⟨"list", _,slot_list_getitem.lookup,ht.isList.typeIs,?_⟩
 refine wpAny_getItem_list_slice ht.isList hs pl pu .none (by simp) ?_ (by rw[HU]<;>omega)
 rw[iS,<- hlen]
 refine⟨.ref s.heap.objs.size,_,I.laid (t':=s.toks) (o:=.lst (rY xs lo hi)) (fun b ob q=>HK _ q) (HS _) ?_,rfl,q _ (I.hok.fresh (HS _))⟩
 exact⟨JI (gO xs lo hi) hz,_,0,(r.drop (HT.sIx xs.length 0 lo)).take (HT.sIx xs.length xs.length hi-HT.sIx xs.length 0 lo),HW _ rfl⟩
theorem ke:eE X (.builtin "len") (fun xs H Q=>∃p ys,xs=[.ref p]/\(GF X.K H p ys\/GE X.K H p ys)/\Q (.int ys.length) H):=by
 intro pins s σ H xs us Q I r h
 obtain⟨p,ys,rfl,hq,q⟩:=h
 obtain⟨u,rfl,rx⟩:=vals1 r
 cases rx
 have hn:=lO
 rcases hq with hq|hq
 · obtain⟨its,r',pl,hz⟩:=I.list hq
   have hlen:=r'.length
   exact Calls.call_len_list pl.isList (by simp only[HU]<;>omega) ⟨.int ys.length,H,I.tok _,⟨s.toks+1,by rw[HU,hlen]⟩,q⟩
 · obtain⟨its,r',pl,hz⟩:=I.tuple hq
   have hlen:=r'.length
   exact len_tuple pl (by simp only[HU]<;>omega) ⟨.int ys.length,H,I.tok _,⟨s.toks+1,by rw[HU,hlen]⟩,q⟩
theorem kd:eE X (.type "list") (fun xs H Q=>∃p ys,xs=[.ref p]/\(GF X.K H p ys\/GE X.K H p ys)/\∀l,H l=none->Q (.ref l) (upd H l (.lst ys))):=by
 intro pins s σ H xs us Q I r h
 obtain⟨p,ys,rfl,hq,q⟩:=h
 obtain⟨u,rfl,rx⟩:=vals1 r
 cases rx
 have fin:∀(its:List HE),dq ys its->ys.length<=sizeLine->∀(h':Heap)(c':Nat),(∀b o',s.heap.get? b=some o'->h'.get? b=some o') ->
  h'.get? s.heap.objs.size=some {cls:=.type "list", dict:=none,data:=.seq its.toArray c',slots:=#[]}->EP X pins σ Q (.ref s.heap.objs.size) {s with heap:=h' }:=fun its r' hz h' c' kp e =>
  ⟨.ref s.heap.objs.size,_,I.laid (t':=s.toks) kp (HS _) (show dU X.prog X.w _ h' _ (.lst ys)from⟨hz,its,c',r',e⟩),rfl,q _ (I.hok.fresh (HS _))⟩
 rcases hq with hq|hq
 · obtain⟨its,r',pl,hz⟩:=I.list hq
   have hlen:=r'.length
   obtain⟨o,ho,hc,n,hd⟩:=pl.isList
   exact call_list_seq p (.inl rfl) ho hc hd (fun h' c' kp e=>fin its r' hz h' c' kp e) (by simp only[HU]<;>omega)
 · obtain⟨its,r',pl,hz⟩:=I.tuple hq
   have hlen:=r'.length
   obtain⟨o,ho,hc,n,hd⟩:=pl
   exact call_list_seq p (.inr rfl) ho hc hd (fun h' c' kp e=>fin its r' hz h' c' kp e) (by simp only[HU]<;>omega)
theorem jl:eE X (.type "tuple") (fun xs H Q=>∃p ys,xs=[.ref p]/\((GF X.K H p ys/\∀l,H l=none->Q (.ref l) (upd H l (.tup ys)))\/(GE X.K H p ys/\Q (.ref p) H))):=by
 intro pins s σ H xs us Q I r h
 obtain⟨p,ys,rfl,h⟩:=h
 obtain⟨u,rfl,rx⟩:=vals1 r
 cases rx
 rcases h with⟨hq,q⟩|⟨hq,q⟩
 · obtain⟨its,r',pl,hz⟩:=I.list hq
   have hlen:=r'.length
   refine call_tuple_list pl.isList (fun h' kp=>?_) (by simp only[HU]<;>omega)
   have I1:Inv X pins σ H {s with heap:=h' }:=I.kept (t':=s.toks) kp
   have I2:Inv X pins σ (upd H h'.objs.size (.tup ys)) {s with heap:=h'.push {cls:=.type "tuple", data:=.seq its.toArray}} :=
    I1.laid (t':=s.toks) (fun b o e=>HK _ e) (HS _) (show dU X.prog X.w _ _ _ (.tup ys)from⟨hz,its,r',qh.new _ _⟩)
   exact⟨.ref h'.objs.size,_,I2,rfl,q _ (I1.hok.fresh (HS _))⟩
 · obtain⟨its,r',pl,hz⟩:=I.tuple hq
   exact call_tuple_same pl ⟨.ref p,H,I,rfl,q⟩
noncomputable def D8(K:W.Frag)(T:String)(x:V)(H:Hp):Prop:=match x with
 | .str _=>T = "str"
 | .int _=>T = "int"
 | .ref p=>(T = "list" /\ ∃xs,GF K H p xs)\/(T = "tuple" /\ ∃xs,GE K H p xs) \/
     (T = "dict" /\ ((∃kvs,H p=some (.dK kvs))\/∃kvs,H p=some (.dT kvs)))\/(T = "set" /\ ∃S n,H p=some (.set S n))
 | _=>False
theorem wB{T:String}{x:V}{v:HE}(I:Inv X pins σ H s)(r:RelV x v)(ty:D8 X.K T x H) :
 s.TypeIs v T/\∀a,v = .ref a->∃ob,s.heap.get? a=some ob/\ob.dict=none:=by
 cases x with
 | str z =>
   obtain⟨t,rfl⟩:=r
   cases(show T = "str" from ty)
   exact⟨typeIs_str s z t,fun _ e=>nomatch e⟩
 | int i =>
   obtain⟨t,rfl⟩:=r
   cases(show T = "int" from ty)
   exact⟨Mm s i t,fun _ e=>nomatch e⟩
 | ref p =>
   cases r
   rcases ty with⟨rfl,xs,hq⟩|⟨rfl,xs,hq⟩|⟨rfl,hk⟩|⟨rfl,S,n,hk⟩
   · obtain⟨its,_,pl,_⟩:=I.list hq
     refine⟨pl.isList.typeIs,fun a e=>?_⟩
     cases e
     obtain⟨o,n,e,c,hd,_⟩:=pl
     exact⟨o,e,hd⟩
   · obtain⟨o,e1,e2,e3⟩:=I.tupleD hq
     refine⟨⟨o,e1,e2⟩,fun a e=>?_⟩
     cases e
     exact⟨o,e1,e3⟩
   · have z:∃o,s.heap.get? p=some o/\o.ExactDict:=by
       rcases hk with⟨kvs,hk⟩|⟨kvs,hk⟩
       · obtain⟨_,_,_,_,o,_,_,e,ex,_⟩:=I.hok p _ hk
         exact⟨o,e,ex⟩
       · obtain⟨_,_,_,_,o,_,_,e,ex,_⟩:=I.hok p _ hk
         exact⟨o,e,ex⟩
     obtain⟨o,e,ex⟩:=z
     refine⟨⟨o,e,ex.1⟩,fun a e2=>?_⟩
     cases e2
     exact⟨o,e,ex.2.1⟩
   · obtain⟨o,_,_,_,e,ex,_⟩:=I.hok p _ hk
     refine⟨⟨o,e,ex.1⟩,fun a e2=>?_⟩
     cases e2
     exact⟨o,e,ex.2.1⟩
 | _=>exact Jm ty
noncomputable def Ep(K:W.Frag)(T:String)(r:V->List V->Hp->VK->Prop)(to:TE)(t:TA):TE:=fun σ H Q=>to σ H fun x H1=>D8 K T x H1/\t σ H1 fun xs H2=>r x xs H2 Q
variable{o e:Expr}{es:List Expr}{to:TE}{t:TA}{name:Str}{apos cpos:Pos}{T id:String}{r:V->List V->Hp->VK->Prop}
theorem xG(pa:PlainAttrs T)(slot:Slot T name id)(hty:typeOf (.builtin id)=pure (.type "method_descriptor"))(hm:G4 X id r)(ho:PE X o to)(ha:PA X (e::es) t)
 (hbase:Lc o name X.env (eval o X.env)=eval o X.env:=by rfl)
 (hfew:((Jv cpos (HL (e::es) X.env)).all (fun x=>!x.1)&&(M1 cpos (LW [] X.env)).all (fun x=>x.1.isSome)
  && decide ((e::es).length+([]:List LB).length+(if([]:List LB).isEmpty then 0 else 1)<30))=true:=by rfl)
 (hline:(apos.endLine==cpos.line)=true:=by rfl)(hs:HL (e::es) X.env=(false,eval e X.env)::HL es X.env:=by rfl)(hplain:(Jv cpos (HL es X.env)).any (·.1)=false:=by rfl) :
 PE X (.Call (.Attribute o name apos) (e::es) [] cpos) (Ep X.K T r to t):=by
 intro pins s σ H Q I h
 refine wpAny_Call_method_late hbase hfew hline rfl (Eg (ho pins s σ H _ I h) fun v s1 ⟨x,H1,I1,r1,ty,q1⟩=>?_)
 obtain⟨h1,h2⟩:=wB I1 r1 ty
 refine⟨T,id,pa,slot,hty,h1,h2,?_⟩
 have hA:=ha cpos pins s1 σ H1 _ I1 q1
 rw[hs]at hA ⊢
 refine Calls.callWith_builtin (by show(false||(Jv cpos (HL es X.env)).any (·.1))=false;rw[hplain]<;>rfl) (Calls.evalArgs_plain ?_)
 exact Eg hA fun us s2 ⟨vs,H2,I2,r2,q2⟩=>hm pins s2 σ H2 x vs v us Q I2 r1 r2 q2
end
noncomputable def G5(X:Cx)(id:String)(r:V->List V->Hp->VK->Prop):Prop :=
 ∀ (pins:List (Addr×Obj))(s:HH)(σ:St)(H:Hp)(x:V)(xs:List V)(v:HE)(us:List HE)(Q:VK),Inv X pins σ H s->RelV x v->dq xs us->r x xs H Q ->
   Im (IH X.prog X.w) X.A (call (.builtin id) (v::us)) (EP X pins σ Q) X.xe s
theorem dq.one:∀{x:V}{us:List HE},dq [x] us->∃u,us=[u]/\RelV x u
 | _,_,.cons r .nil=>⟨_,rfl,r⟩
theorem dq.rep{xs:List V}{us:List HE}(h:dq xs us):∀k:Nat,dq (HR k xs).flatten (HR k us).flatten
 | 0=>.nil
 | k+1=>by
   rw[IP,IP,JH,JH]
   exact dq.append h (dq.rep h k)
theorem foldl_rep(its:List HE):∀(k:Nat)(acc:List HE),
 K5 (fun x1 x2=>x1++x2) acc.toArray (HR k its.toArray)=(acc++(HR k its).flatten).toArray
 | 0,acc=>by simp
 | k+1,acc=>by
   have e:acc.toArray++its.toArray=(acc++its).toArray:=by simp
   have e2:(acc++its)++(HR k its).flatten=acc++(HR (k+1) its).flatten:=by
    rw[IP,JH,Kt]
   rw[<- e2,<- foldl_rep its k (acc++its),<- e,IP,Kb]
section
variable{X:Cx}{pins:List (Addr×Obj)}{σ:St}{H:Hp}{s:HH}{l b:Addr}{xs ys zs:List V}
theorem Inv.lset{its its':List HE}{f:Array HE->Array HE}(I:Inv X pins σ H s)(hH:H l=some (.lst xs))
 (e:s.heap.get? l=some {cls:=.type "list", data:=.seq its.toArray n})(hf:f its.toArray=its'.toArray)(hv:dq ys its')(hz:ys.length<=sizeLine) :
 Inv X pins σ (upd H l (.lst ys)) {s with heap:=s.heap.update l (Obj.mapSeq f),toks:=t' }:=by
 have q:=PySem.IsL.update e f
 rw[hf]at q
 refine I.write (x:=l) (e:=l) (by rw[hH];exact trivial) (.inl rfl) (fun b' u hb hu=>(Heap.get?_update_other s.heap (Obj.mapSeq f) (Mw hb)).trans hu) ⟨_,q⟩ ?_
 exact⟨hz,its',_,hv,q⟩
theorem Inv.lnew{its:List HE}(I:Inv X pins σ H s)(hv:dq ys its)(hz:ys.length<=sizeLine) :
 Inv X pins σ (upd H s.heap.objs.size (.lst ys)) {s with heap:=s.heap.push {cls:=.type "list", data:=.seq its.toArray},toks:=t' } :=
 I.laid (fun _ _ q=>HK _ q) (HS _) ⟨hz,its,0,hv,HW _ rfl⟩
theorem Inv.fresh(I:Inv X pins σ H s):H s.heap.objs.size=none:=I.hok.fresh (HS _)
theorem Inv.lstM(I:Inv X pins σ H s)(hH:H l=some (.lst xs)):xs.length<=sizeLine/\∃(its:List HE)(n:Nat),dq xs its/\xs.length=its.length/\s.heap.get? l=some {cls:=.type "list", data:=.seq its.toArray n}:=by
 obtain⟨z,its,n,r,e⟩:=I.hok l _ hH
 exact⟨z,its,n,r,r.length,e⟩
theorem qW(h:n<=sizeLine):KJ n=false:=by
 unfold KJ
 exact decide_eq_false (by omega)
end
section
variable{X:Cx}
noncomputable def nZ:V->List V->Hp->VK->Prop:=fun x vs H Q=>∃l xs y,x = .ref l/\vs=[y]/\H l=some (.lst xs)/\xs.length<sizeLine/\Q .non (upd H l (.lst (xs++[y])))
theorem gC:G5 X "list.append" nZ:=by
 intro pins s σ H x vs v us Q I rx rv h
 obtain⟨l,xs,y,rfl,rfl,hH,hz,q⟩:=h
 cases rx
 obtain⟨u,rfl,ru⟩:=rv.one
 obtain⟨z,its,n,r,hl,e⟩:=I.lstM hH
 refine Lg F.slot_list_append ⟨_,e,rfl⟩ F.entry_list_append (F.args_list_append_2 _ _) (PySem.list_append l its.toArray n u (by rw[HU];omega)) ⟨e,?_⟩
 refine⟨.non,_,I.lset (its':=its++[u]) hH e (by simp) (r.append (.cons ru .nil)) ?_,rfl,q⟩
 rw[Ij,JZ]
 omega
noncomputable def Ck:R2:=fun x y H Q=>∃l b xs zs,x = .ref l/\y = .ref b/\H l=some (.lst xs)/\H b=some (.lst zs)/\xs.length+zs.length<=sizeLine/\∀p,H p=none->Q (.ref p) (upd H p (.lst (xs++zs)))
theorem xP:G1 X (Ke .Add) Ck:=by
 intro pins s σ H x y v u Q I rx ry h
 obtain⟨l,b,xs,zs,rfl,rfl,hH,hB,hz,q⟩:=h
 cases rx
 cases ry
 obtain⟨z,its,n,r,hl,e⟩:=I.lstM hH
 obtain⟨z2,its2,n2,r2,hl2,e2⟩:=I.lstM hB
 refine PySem.P.add_list e e2 ?_ (by rw[HU,HU];omega)
 have ea:its.toArray++its2.toArray=(its++its2).toArray:=by simp
 rw[ea]
 exact⟨.ref _,_,I.lnew (t':=s.toks) (r.append r2) (by rw[Ij];omega),rfl,q _ I.fresh⟩
noncomputable def Cf:R2:=fun x y H Q=>∃l k xs,x = .ref l/\y = .int k/\H l=some (.lst xs) /\ -(2^63)<=k/\k<2^63/\xs.length*k.toNat<=sizeLine /\
 ∀p,H p=none->Q (.ref p) (upd H p (.lst (HR k.toNat xs).flatten))
theorem oU(xs:List α)(k:Nat):(HR k xs).flatten.length=k*xs.length:=by
 induction k with
 | zero=>simp
 | succ k ih=>rw[IP,JH,Ij,ih,Nat.succ_mul,Nat.add_comm]
theorem xL:G1 X (Ke .Mult) Cf:=by
 intro pins s σ H x y v u Q I rx ry h
 obtain⟨l,k,xs,rfl,rfl,hH,h1,h2,hz,q⟩:=h
 cases rx
 obtain⟨t,rfl⟩:=ry
 obtain⟨z,its,n,r,hl,e⟩:=I.lstM hH
 have hlen:its.toArray.size*k.toNat<=sizeLine:=by rw[HU,<- hl];exact hz
 have hcap:¬its.toArray.size*k.toNat>(2^63-1) / 8:=by
  have:(sizeLine:Nat)<=(2^63-1) / 8:=by decide
  omega
 have hfit:¬(!Kx k)=true:=by
  rw[fitsIndex_both h1 h2]
  exact Iu
 have hlong:¬KJ (its.toArray.size*k.toNat)=true:=by
  rw[qW hlen]
  exact Iu
 have hnew:K5 (fun x1 x2=>x1++x2) #[] (HR (if its.toArray.isEmpty=true then 0 else k.toNat) its.toArray)=(HR k.toNat its).flatten.toArray:=by
  have f0:∀m:Nat,K5 (fun x1 x2=>x1++x2) #[] (HR m its.toArray)=(HR m its).flatten.toArray:=fun m=>by
   have:=foldl_rep its m []
   rw[Ko]at this
   exact this
  rw[f0]
  cases its with
  | nil=>simp
  | cons a r'=>rw[if_neg (by simp)]
 refine LC (T := "list") (U := "int") (by decide) ⟨_,e,rfl⟩ (fun s'=>Mm s' k t) noFill_list_mul F.fills_int_mul F.slot_int_rmul repeat_list F.slot_int_index.lookup
  (Lg F.slot_int_rmul (Mm s k t) F.entry_int_rmul (F.args_int_rmul_2 _ _) (int___rmul___int_list k t l its.toArray n)
   ⟨e,rfl,⟨_,e,rfl⟩,Lg F.slot_list_mul ⟨_,e,rfl⟩ F.entry_list_mul (F.args_list_mul_2 _ _) (AutoListH.list___mul___list_int_3 l its.toArray n k t hfit hcap hlong) ⟨e,?_⟩⟩)
 rw[hnew]
 exact⟨.ref _,_,I.lnew (t':=s.toks) (r.rep k.toNat) (by rw[oU,Nat.mul_comm];exact hz),rfl,q _ I.fresh⟩
end
section
variable{prog:Ie}{w:II}{A:Jb}{E:HE->HH->Prop}{s:HH}
end
section
variable{X:Cx}
end
section
variable{κ:Type}[DecidableEq κ]
noncomputable def fY(kvs:List (κ×V))(k:κ):Option V:=(kvs.find? fun kv=>decide (kv.1=k)).map (·.2)
noncomputable def e9(kvs:List (κ×V))(k:κ)(v:V):List (κ×V) :=
 if(kvs.any fun kv=>decide (kv.1=k))=true then kvs.map (fun kv=>if kv.1=k then(kv.1,v)else kv)else kvs++[(k,v)]
theorem dH{p:κ×V}{r:List (κ×V)}{k:κ}(e:p.1=k):fY (p::r) k=some p.2:=by simp[fY,Jy,e]
theorem iO{p:κ×V}{r:List (κ×V)}{k:κ}(e:¬p.1=k):fY (p::r) k=fY r k:=by simp[fY,Jy,e]
theorem lB(k:κ):∀kvs:List (κ×V),(kvs.any fun kv=>decide (kv.1=k))=(fY kvs k).isSome
 | []=>rfl
 | p::r=>by
   rw[MM]
   by_cases e:p.1=k
   · simp only[dH e,decide_eq_true e,Bool.true_or,Option.isSome_some]
   · rw[iO e,decide_eq_false e,Bool.false_or];exact lB k r
theorem eU(kvs:List (κ×V))(k:κ)(v:V):(e9 kvs k v).length<=kvs.length+1:=by
 unfold e9
 split
 · rw[HM];omega
 · rw[Ij,JP,Md];omega
theorem vU.isSome_eq{o:Option V}{u:Option HE}(r:vU o u):o.isSome=u.isSome:=by
 cases o with
 | none=>cases u with
   | none=>rfl
   | some _=>exact(show False from r).elim
 | some _=>cases u with
   | none=>exact(show False from r).elim
   | some _=>rfl
theorem KV.val{kvs:List (κ×V)}{vs:List (κ×HE)}(r:KV kvs vs)(k:κ):vU (fY kvs k) (Me vs k):=by
 unfold KV at r
 induction r with
 | nil=>exact Ku
 | @cons p q ps qs h t ih =>
   obtain⟨h1,h2⟩:=h
   by_cases e:p.1=k
   · have e':q.1=k:=h1.symm.trans e
     have b:Me (q::qs) k=some q.2:=by simp[Me,Jy,e']
     rw[dH e,b];exact h2
   · have e':¬q.1=k:=fun z=>e (h1.trans z)
     have b:Me (q::qs) k=Me qs k:=by simp[Me,Jy,e']
     rw[iO e,b];exact ih
theorem KV.any{kvs:List (κ×V)}{vs:List (κ×HE)}(r:KV kvs vs)(k:κ):(kvs.any fun kv=>decide (kv.1=k))=vs.any fun kv=>decide (kv.1=k):=by
 unfold KV at r
 induction r with
 | nil=>rfl
 | cons h t ih=>rw[MM,MM,ih,h.1]
theorem KV.repl{kvs:List (κ×V)}{vs:List (κ×HE)}(r:KV kvs vs)(k:κ){y:V}(ry:RelV y u) :
 KV (kvs.map fun kv=>if kv.1=k then(kv.1,y)else kv) (vs.map fun kv=>if kv.1=k then(kv.1,u)else kv):=by
 unfold KV at r ⊢
 induction r with
 | nil=>exact .nil
 | @cons p q ps qs h t ih =>
   rw[IW,IW]
   refine .cons ?_ ih
   obtain⟨h1,h2⟩:=h
   by_cases e:p.1=k
   · rw[if_pos e,if_pos (h1.symm.trans e)];exact⟨h1,ry⟩
   · rw[if_neg e,if_neg (fun z=>e (h1.trans z))];exact⟨h1,h2⟩
theorem KV.put{kvs:List (κ×V)}{vs:List (κ×HE)}(r:KV kvs vs)(k:κ){y:V}(ry:RelV y u):KV (e9 kvs k y) (stored vs k u):=by
 unfold e9 stored
 rw[r.any k]
 by_cases e:(vs.any fun kv=>decide (kv.1=k))=true
 · rw[if_pos e,if_pos e];exact r.repl k ry
 · rw[if_neg e,if_neg e];exact I0.snoc r ⟨rfl,ry⟩
theorem KV.length{kvs:List (κ×V)}{vs:List (κ×HE)}(r:KV kvs vs):kvs.length=vs.length:=KN r
end
theorem rf{k:G6}(r:RelV (kV k) u):(cE P w).is k u=true:=by
 cases k with
 | inl i=>obtain⟨t,e⟩:=(show ∃t,u=MB i t from r);subst e;exact kX P w i t
 | inr x=>obtain⟨t,e⟩:=(show ∃t,u=MC x t from r);subst e;exact kW P w x t
theorem jY{P:Ie}{w:II}:∀{ks:List G6}{us:List HE},dq (ks.map kV) us->ItemsAre (cE P w) ks us
 | [],_,r=>by rw[K7]at r;cases r;exact .nil
 | k::ks,_,r=>by
   rw[IW]at r
   cases r with
   | cons h t=>exact .cons (rf h) (jY t)
abbrev KT(H:Hp):List (List G6×V)->List (List G6×Addr×HE)->Prop:=I0 fun p q=>p.1=q.1/\H q.2.1=some (.tup (p.1.map kV))/\RelV p.2 q.2.2
theorem KT.val{xs:List (List G6×Addr×HE)}(r:KT H kvs xs)(k:List G6):vU (fY kvs k) ((Nm xs k).map (·.2)):=by
 induction r with
 | nil=>exact Ku
 | @cons p q ps qs h t ih =>
   obtain⟨h1,_,h2⟩:=h
   by_cases e:p.1=k
   · have e':q.1=k:=h1.symm.trans e
     have b:Nm (q::qs) k=some q.2:=by simp[Nm,Jy,e']
     rw[dH e,b];exact h2
   · have e':¬q.1=k:=fun z=>e (h1.trans z)
     have b:Nm (q::qs) k=Nm qs k:=by simp[Nm,Jy,e']
     rw[iO e,b];exact ih
theorem KT.repl{xs:List (List G6×Addr×HE)}(r:KT H kvs xs)(k:List G6){y:V}(ry:RelV y u) :
 KT H (kvs.map fun kv=>if kv.1=k then(kv.1,y)else kv) (xs.map (putAt k u)):=by
 induction r with
 | nil=>exact .nil
 | @cons p q ps qs h t ih =>
   rw[IW,IW]
   refine .cons ?_ ih
   obtain⟨h1,h2,h3⟩:=h
   unfold putAt
   by_cases e:p.1=k
   · rw[if_pos e,if_pos (h1.symm.trans e)];exact⟨h1,h2,ry⟩
   · rw[if_neg e,if_neg (fun z=>e (h1.trans z))];exact⟨h1,h2,h3⟩
theorem KT.put{xs:List (List G6×Addr×HE)}(r:KT H kvs xs)(k:List G6){y:V}(hb:H b=some (.tup (k.map kV)))(ry:RelV y u) :
 KT H (e9 kvs k y) (storedH xs k b u):=by
 have e:(kvs.any fun kv=>decide (kv.1=k))=(Nm xs k).isSome:=by
  rw[lB,(r.val k).isSome_eq,Option.isSome_map]
 unfold e9 storedH
 rw[e]
 by_cases q:(Nm xs k).isSome=true
 · rw[if_pos q,if_pos q];exact r.repl k ry
 · rw[if_neg q,if_neg q];exact I0.snoc r ⟨rfl,hb,ry⟩
theorem KT.keeps{xs:List (List G6×Addr×HE)}(r:KT H kvs xs)(ht:∀b ys,H b=some (.tup ys)->H' b=some (.tup ys)):KT H' kvs xs :=
 I0.mapP r fun _ _ z=>⟨z.1,ht _ _ z.2.1,z.2.2⟩
section
variable{P:Ie}{w:II}{H:Hp}{h:Heap}{a:Addr}
theorem xh{u:HO}(ok:Hl P w H h)(e:Rd H a u):dU P w H h a u:=e.ok ok
theorem vI{kvs:List (G6×V)}(ok:Hl P w H h)(e:Rd H a (.dK kvs)):kvs.length<=sizeLine/\(a==KH)=false/\∃vs,KV kvs vs/\h.DictOf (cE P w) a vs :=
 show dU P w H h a (.dK kvs)from xh ok e
theorem yq{kvs:List (G6×V)}(ok:Hl P w H h)(e:H a=some (.dK kvs)):kvs.length<=sizeLine/\(a==KH)=false/\∃vs,KV kvs vs/\h.DictOf (cE P w) a vs:=vI ok (.inl e)
theorem oX{ks:List G6}(ok:Hl P w H h)(e:H a=some (.tup (ks.map kV))):(MD (cE P w)).is h ks a:=by
 obtain⟨_,its,r,o,h1,h2,⟨n,h3⟩,_⟩:=(show dU P w H h a (.tup (ks.map kV))from ok a _ e)
 exact⟨o,its.toArray,n,h1,h2,h3,by simpa using jY r⟩
theorem vH(ok:Hl P w H h)(e:Rd H a (.dT kvs)):kvs.length<=sizeLine/\(a==KH)=false /\
 ∃xs,KT H kvs xs/\h.DictOfH (MD (cE P w)) a xs:=by
 obtain⟨z,y,xs,r,o,es,ep,h1,h2,h3,h4,h5⟩:=(show dU P w H h a (.dT kvs)from xh ok e)
 refine⟨z,y,xs,r,o,es,ep,h1,h2,h3,h4,fun x hx=>?_,h5⟩
 have all:∀{l:List (List G6×V)}{m:List (List G6×Addr×HE)},KT H l m->∀x∈m,(MD (cE P w)).is h x.1 x.2.1:=by
  intro l m q
  induction q with
  | nil=>intro x hx;exact nomatch hx
  | @cons p q ps qs hq t ih =>
    intro x hx
    rcases IC.mp hx with e|hx
    · subst e
      exact oX ok (by rw[<- hq.1];exact hq.2.1)
    · exact ih x hx
 exact all r x hx
theorem AD(ok:Hl P w H h)(e:H a=some (.dT kvs)):kvs.length<=sizeLine/\(a==KH)=false /\
 ∃xs,KT H kvs xs/\h.DictOfH (MD (cE P w)) a xs:=vH ok (.inl e)
end
noncomputable def zb(H:Hp)(a:Addr)(y:V)(r:Option V):Prop :=
 (∃kvs k,Rd H a (.dK kvs)/\y=kV k/\r=fY kvs k)\/∃kvs k b,Rd H a (.dT kvs)/\y = .ref b/\H b=some (.tup (k.map kV))/\r=fY kvs k
noncomputable def AQ(H:Hp)(a:Addr)(y v:V)(H':Hp):Prop :=
 (∃kvs k,H a=some (.dK kvs)/\y=kV k/\kvs.length<sizeLine/\H'=upd H a (.dK (e9 kvs k v))) \/
 ∃kvs k b,H a=some (.dT kvs)/\y = .ref b/\H b=some (.tup (k.map kV))/\kvs.length<sizeLine/\H'=upd H a (.dT (e9 kvs k v))
theorem zb.k{H:Hp}{a:Addr}{kvs:List (G6×V)}{k:G6}(e:H a=some (.dK kvs)):zb H a (kV k) (fY kvs k):=.inl ⟨kvs,k,.inl e,rfl,rfl⟩
theorem AQ.k{H:Hp}{a:Addr}{kvs:List (G6×V)}{k:G6}{v:V}(e:H a=some (.dK kvs))(hl:kvs.length<sizeLine):AQ H a (kV k) v (upd H a (.dK (e9 kvs k v))):=.inl ⟨kvs,k,e,rfl,hl,rfl⟩
section
variable{X:Cx}{pins:List (Addr×Obj)}{σ:St}{H:Hp}{s:HH}{a:Addr}{y v:V}{u r:HE}{o:Option V}{A:Jb}{E:HE->HH->Prop}
theorem Inv.big(I:Inv X pins σ H s):KH<s.heap.objs.size:=by
 have h:Iv<s.heap.objs.size:=(I.mod.glob.keeps I.bk).lt
 exact Nat.lt_trans (by decide) h
theorem pK(hu:A.units+1<MI)(I:Inv X pins σ H s)(g:zb H a y (some v))(ry:RelV y u)(h:∀w' s',Inv X pins σ H s'->RelV v w'->Q w' s') :
 Im (IH X.prog X.w) A (LU (.ref a) u) Q E s:=by
 rcases g with⟨kvs,k,e,ey,l⟩|⟨kvs,k,b,e,ey,eb,l⟩
 · subst ey
   obtain⟨z,hd,vs,rel,dd⟩:=vI I.hok e
   obtain⟨w',hw,rw'⟩:=vU.some_of (v:=v) (o:=Me vs k) (by rw[l];exact rel.val k)
   exact wpAny_getItem_of (rf ry) dd.mapOf hw (h w' _ (I.tok _) rw')
 · subst ey
   cases(show u=J7 b from ry)
   obtain⟨z,hd,xs,rel,dd⟩:=vH I.hok e
   obtain⟨w',hw,rw'⟩:=vU.some_of (v:=v) (o:=(Nm xs k).map (·.2)) (by rw[l];exact rel.val k)
   obtain⟨p,hp,hp2⟩:=K0.mp hw
   refine wpAny_getItem_heap (tupleKind_room_in1 hu) (oX I.hok eb) dd hp ?_
   rw[hp2]
   exact h w' _ (I.tok _) rw'
theorem lh{ob:HO}(I:Inv X pins σ H s)(mu:G3 (H a))(hs:JY a s.heap h')(he:∃q,h'.get? a=some q)(new:dU X.prog X.w (upd H a ob) h' a ob) :
 Inv X pins σ (upd H a ob) {s with heap:=h',toks:=t' } :=
 I.write (x:=a) (e:=a) mu (.inl rfl) (fun b q hb z=>(hs.2 b hb).trans z) he new
theorem dk_new{kvs:List (G6×V)}{vs:List (G6×HE)}(z:kvs.length<=sizeLine)(hd:(a==KH)=false)(rel:KV kvs vs)(dd:h'.DictOf (cE P w) a vs) :
 dU P w H' h' a (.dK kvs):=⟨z,hd,vs,rel,dd⟩
theorem pJ{Q:Unit->HH->Prop}(hu:A.units+1<MI)(I:Inv X pins σ H s)(g:AQ H a y v H')(ry:RelV y u)(rv:RelV v r)(h:∀s',Inv X pins σ H' s'->Q () s') :
 Im (IH X.prog X.w) A (setItem (.ref a) u r) Q E s:=by
 rcases g with⟨kvs,k,e,ey,l,eH⟩|⟨kvs,k,b,e,ey,eb,l,eH⟩
 · subst ey eH
   obtain⟨z,hd,vs,rel,dd⟩:=yq I.hok e
   have hz:vs.length<=sizeLine:=by rw[<- rel.length];exact z
   have hl:(e9 kvs k v).length<=sizeLine:=by have:=eU kvs k v;omega
   refine wpAny_setItem_pairs (hsz:=hz) (rf ry) dd fun h' dd' hs=>h _ ?_
   have he:∃q,h'.get? a=some q:=let ⟨q,_,_,hq,_⟩:=dd';⟨q,hq⟩
   exact lh I (by rw[e];exact Ku) hs he (dk_new hl hd (rel.put k rv) dd')
 · subst ey eH
   cases(show u=J7 b from ry)
   obtain⟨z,hd,xs,rel,dd⟩:=AD I.hok e
   have hz:xs.length<=sizeLine:=by rw[<- KN rel];exact z
   have hl:(e9 kvs k v).length<=sizeLine:=by have:=eU kvs k v;omega
   refine wpAny_setItem_heap (hsz:=hz) (tupleKind_room_in1 hu) (oX I.hok eb) dd fun h' dd' hs=>h _ ?_
   obtain⟨q,es,ep,hq,h2,h3,h4,_,h5⟩:=dd'
   refine lh I (by rw[e];exact Ku) hs ⟨q,hq⟩ ⟨hl,hd,_,(rel.put k eb rv).keeps fun c ys ec=>?_,q,es,ep,hq,h2,h3,h4,h5⟩
   rw[aA (Ae ec e (fun z=>nomatch z))]
   exact ec
end
section
variable{X:Cx}{pins:List (Addr×Obj)}{σ:St}{H:Hp}{s:HH}{a:Addr}{kvs:List (G6×V)}{k:G6}{u:HE}{A:Jb}{E:HE->HH->Prop}
end
noncomputable def tG(i:Expr):Prop:=∀ov iv,Mx i false ov iv=operate [ov,iv] (LU ov iv)
theorem nD{prog:Ie}{env:Env}{value slice:Expr}{T id:String}
 (hl:typeLookup (.type T) "__getitem__" = pure (some (.builtin id)))(hs:tG slice)
 (h:Im (IH prog w) A (eval value env) (fun o s₁=>Im (IH prog w) A (eval slice env) (fun i s₂=>s₂.TypeIs o T/\Im (IH prog w) A (LU o i) Q E s₂) E s₁) E s) :
 Im (IH prog w) A (eval (.Subscript value slice pos) env) Q E s:=by
 refine Subscript_ (JW h (fun o s₁ h₁=>JW h₁ (fun i s₂ h₂=>?_) fun _ _ x=>x) fun _ _ x=>x)
 obtain⟨hT,h₂⟩:=h₂
 unfold ML
 refine HB ?_
 rw[getitemInPython_of_ne hT.not_modules]
 refine HB (wpAny_specialOf hT hl ?_)
 have fin:Im (IH prog w) A (Mx slice false o i) (fun r s₃=>Im (IH prog w) A (letTemporaryGo value o r >>= fun _=>pure r) Q E s₃) E s₂:=by
  rw[hs o i]
  exact wpAny_operating (JW h₂ (fun r s₃ h₃=>HB (wpAny_letTemporaryGo (HQ h₃))) fun _ _ x=>x)
 first
  | exact HQ (HB fin)
  | exact HB (HQ (HB fin))
  | exact HB fin
theorem lb{y:V}{o:Option V}(I:Inv X pins σ H s)(g:zb H a y o):s.TypeIs (.ref a) "dict" := by
 rcases g with⟨kvs,k,e,_,_⟩|⟨kvs,k,b,e,_,_,_⟩
 · obtain⟨_,_,vs,_,dd⟩:=vI I.hok e
   exact dd.typeIs
 · obtain⟨_,_,xs,_,dd⟩:=vH I.hok e
   exact dd.typeIs
noncomputable def wM(td ty:TE):TE:=fun σ H Q=>td σ H fun x H1=>ty σ H1 fun y H2=>∃a v,x = .ref a/\zb H2 a y (some v)/\Q v H2
noncomputable def zM(td ty tv:TE):TS:=fun D σ H=>tv σ H fun v H1=>td σ H1 fun x H2=>ty σ H2 fun y H3=>∃a H4,x = .ref a/\AQ H3 a y v H4/\D.nx σ H4
section
variable{X:Cx}{o i e value:Expr}{pos pos' tpos:Pos}{td ty tv:TE}
theorem ja(hu:X.A.units+1<MI)(ho:PE X o td)(hi:PE X i ty)(hs:tG i):PE X (.Subscript o i pos) (wM td ty):=by
 intro pins s σ H Q I h
 refine nD LD.lookup hs (Eg (ho pins s σ H _ I h) fun u s1 ⟨x,H1,I1,rx,q1⟩=>Eg (hi pins s1 σ H1 _ I1 q1) fun iv s2 ⟨y,H2,I2,ry,a,v,ex,g,q2⟩=>?_)
 subst ex
 obtain rfl:u=J7 a:=rx
 exact⟨lb I2 g,pK hu I2 g ry fun w' s3 I3 rw'=>⟨v,H2,I3,rw',q2⟩⟩
theorem uy(hu:X.A.units+1<MI)(ho:PE X o td)(hi:PE X i ty)(hv:PE X value tv)(hs:JU value (some (.Subscript o i pos')) pos.line X.env=pure false) :
 PS X (.Assign [.Subscript o i pos'] value pos) (zM td ty tv):=by
 intro pins s σ H D I h
 refine wpAny_Assign_Subscript (Eg (hv pins s σ H _ I h) fun r s1 ⟨v,H1,I1,rv,q1⟩=>Eg (ho pins s1 σ H1 _ I1 q1) fun u s2 ⟨x,H2,I2,rx,q2⟩=>Eg (hi pins s2 σ H2 _ I2 q2) fun iv s3 ⟨y,H3,I3,ry,a,H4,ex,g,q3⟩=>?_) hs
 subst ex
 obtain rfl:u=J7 a:=rx
 exact pJ hu I3 g ry rv fun s4 I4=>⟨σ,H4,I4,q3⟩
end
theorem rV(h:Heap)(hb:KH<h.objs.size):dU P w H (h.push {cls:=.type "dict", data:=.dict #[]}) h.objs.size (.dK []) :=
 ⟨Ip _,beq_eq_false_iff_ne.mpr (Mw (Iz hb)),[],.nil,Heap.DictOf.new h⟩
section
variable{X:Cx}{pos:Pos}
end
noncomputable def nB:List (TE×TE)->St->Hp->(List (V×V)->Hp->Prop)->Prop
 | [],_,H,Q=>Q [] H
 | (tk,tv)::r,σ,H,Q=>tk σ H fun x H1=>tv σ H1 fun y H2=>nB r σ H2 fun ps H3=>Q ((x,y)::ps) H3
abbrev VV:List (V×V)->List (HE×HE)->Prop:=I0 fun p q=>RelV p.1 q.1/\RelV p.2 q.2
noncomputable def GV(X:Cx)(pos:Pos)(keys:List (Option Expr))(values:List Expr)(trs:List (TE×TE)):Prop :=
 ∀ (pins:List (Addr×Obj))(s:HH)(σ:St)(H:Hp)(Q:List (V×V)->Hp->Prop),Inv X pins σ H s->nB trs σ H Q ->
   Im (IH X.prog X.w) X.A (evalPairs (pairTrees keys values X.env pos)) (fun vs s'=>∃ps H',Inv X pins σ H' s'/\VV ps vs/\Q ps H') X.xe s
theorem kN:GV X pos [] [] []:=fun pins s σ H Q I h=>pairTrees_nil_walk ⟨[],H,I,.nil,h⟩
theorem cZ{k v:Expr}{ks:List (Option Expr)}{vs:List Expr}{tk tv:TE}{trs:List (TE×TE)}(hk:PE X k tk)(hv:PE X v tv)(hr:GV X pos ks vs trs) :
 GV X pos (some k::ks) (v::vs) ((tk,tv)::trs):=fun pins s σ H Q I h =>
 pairTrees_cons_walk (Eg (hk pins s σ H _ I h) fun u s1 ⟨x,H1,I1,rx,q1⟩=>Eg (hv pins s1 σ H1 _ I1 q1) fun w2 s2 ⟨y,H2,I2,ry,q2⟩ =>
  Eg (hr pins s2 σ H2 _ I2 q2) fun ws s3 ⟨ps,H3,I3,rel,q3⟩=>⟨(x,y)::ps,H3,I3,.cons ⟨rx,ry⟩ rel,q3⟩)
noncomputable def d_(kvs more:List (G6×V)):List (G6×V):=more.foldl (fun acc kv=>e9 acc kv.1 kv.2) kvs
theorem KV.merge:∀{more:List (G6×V)}{rs:List (G6×HE)}{kvs:List (G6×V)}{vs:List (G6×HE)},KV more rs->KV kvs vs->KV (d_ kvs more) (merged vs rs):=by
 intro more rs kvs vs r
 unfold KV at r
 induction r generalizing kvs vs with
 | nil=>intro q;exact q
 | @cons p q ps qs h t ih =>
   intro r0
   have e:KV (e9 kvs p.1 p.2) (stored vs q.1 q.2):=by
    have:=r0.put p.1 h.2
    rw[<- h.1];exact this
   exact ih e
theorem fq:∀(more kvs:List (G6×V)),(d_ kvs more).length<=kvs.length+more.length
 | [],kvs=>by show kvs.length<=kvs.length+0;omega
 | p::r,kvs=>by
   have h1:=fq r (e9 kvs p.1 p.2)
   have h2:=eU kvs p.1 p.2
   show(d_ (e9 kvs p.1 p.2) r).length<=_
   rw[JP];omega
theorem iE{P:Ie}{w:II}:∀{kvs:List (G6×V)}{ws:List (HE×HE)},VV (kvs.map fun kv=>(kV kv.1,kv.2)) ws->∃rs,Carries (cE P w) ws rs/\KV kvs rs
 | [],_,r=>by rw[K7]at r;cases r;exact⟨[],Ku,.nil⟩
 | p::kvs,_,r=>by
   rw[IW]at r
   cases r with
   | @cons a b as bs h t =>
     obtain⟨rs,c,q⟩:=iE (P:=P) (w:=w) t
     obtain⟨b1,b2⟩:=b
     exact⟨(p.1,b2)::rs,⟨rf h.1,rfl,c⟩,.cons ⟨rfl,h.2⟩ q⟩
noncomputable def zH(trs:List (TE×TE)):TE:=fun σ H Q=>∀p,H p=none->nB trs σ (upd H p (.dK [])) fun ps H2=>H2 p=some (.dK [])/\∃kvs:List (G6×V),ps=kvs.map (fun kv=>(kV kv.1,kv.2))/\kvs.length<=15/\Q (.ref p) (upd H2 p (.dK (d_ [] kvs)))
theorem kO{keys:List (Option Expr)}{values:List Expr}{trs:List (TE×TE)}(h:GV X pos keys values trs)(hall:keys.all (·.isSome)=true)(hl:keys.length=values.length)(h0:keys≠[])
 (h15:keys.length<=15):PE X (.Dict keys values pos) (zH trs):=by
 intro pins s σ H Q I q
 have hn:=I.hok.fresh (HS s.heap.objs.size)
 have I1:=I.laid (a:=s.heap.objs.size) (o:=.dK []) (h':=s.heap.push {cls:=.type "dict", data:=.dict #[]}) (t':=s.toks) (fun _ _ q=>HK _ q) (HS _) (rV s.heap I.big)
 refine wpAny_Dict_walk (knd:=cE X.prog X.w) hall hl h0 h15 (Eg (h pins _ σ _ _ I1 (q _ hn)) fun ws s2 ⟨ps,H2,I2,rel,e,kvs,ep,lk,q2⟩=>?_)
 subst ep
 obtain⟨rs,c,rk⟩:=iE (P:=X.prog) (w:=X.w) rel
 obtain⟨z,hd,vs0,r0,dd⟩:=yq I2.hok e
 cases r0
 refine⟨rs,c,dd,fun h' dd' hs=>⟨.ref s.heap.objs.size,_,?_,rfl,q2⟩⟩
 have hz:(d_ [] kvs).length<=sizeLine:=by
  have h1:=fq kvs []
  rw[Md]at h1
  rw[sizeLine_eq];omega
 have he:∃q,h'.get? s.heap.objs.size=some q:=let ⟨q,_,_,hq,_⟩:=dd';⟨q,hq⟩
 exact lh I2 (by rw[e];exact Ku) hs he (dk_new hz hd (rk.merge .nil) dd')
section
variable{X:Cx}{pins:List (Addr×Obj)}{σ:St}{H:Hp}{s:HH}{a:Addr}{y d:V}{u r:HE}{o:Option V}{A:Jb}{E:HE->HH->Prop}
end
section
variable{X:Cx}{o e f:Expr}{apos cpos:Pos}{td ty tx:TE}
end
section
variable{X:Cx}{pins:List (Addr×Obj)}{σ:St}{H:Hp}{s:HH}{a:Addr}{kvs:List (G6×V)}{A:Jb}{E:HE->HH->Prop}
end
section
variable{X:Cx}{pins:List (Addr×Obj)}{σ:St}{H:Hp}{s:HH}{a:Addr}{y:V}{u:HE}{A:Jb}{E:HE->HH->Prop}
end
end L2
namespace Att
open PySem PySem.W PySem.Calls PyProof.Rows
theorem gH{P:Ng}:∀(ns:List Int)(vs:List HE),WellAll P h vs (ns.map WData.int)->Nj vs ns:=by
 intro ns
 induction ns with
 | nil =>
   intro vs w
   rw[K7]at w
   cases w
   exact .nil
 | cons n ns ih =>
   intro vs w
   rw[IW]at w
   cases w with
   | cons a b =>
     cases a
     exact .cons _ _ (ih _ b)
theorem nJ{l:Ni}(hn:l.most=some n){P:Ng}{args:List WData}{vals:List HE}
 (hpre:l.row.toRowW.claim.pre args=true)(hwl:WellAll P h vals args) :
 ∃a vs ns,vals=[J7 a]/\args=[WData.list (ns.map WData.int)]/\h.get? a=some {cls:=.type "list", data:=.seq vs.toArray}/\Nj vs ns/\ns.length<=n:=by
 have hsh:WShape.hasAll [] args [.list .int]=true:=(pre_splitW hpre).1
 have hc:l.pre.holds [] {args:=args}=true:=(pre_splitW hpre).2
 obtain⟨d,r,rfl,h1,h2⟩:=hasAllW_cons hsh
 obtain rfl:=hasAllW_nil h2
 obtain⟨xs,rfl,h3⟩:=hasW_list h1
 obtain⟨ns,rfl⟩:=items_int h3
 have hlen:ns.length<=n:=by
  unfold Ni.pre at hc
  have h4:(WTm.not (.lt (.lit (.int (n:Int))) (.len (.arg 0)))).holds [] {args:=[.list (ns.map .int)]}=true:=by
   have h4:=(holds_andW hc).1
   rw[hn]at h4
   exact h4
  have h5:=condW_of h4 (w_not (w_lt w_lit (w_len_list (w_arg rfl))))
  rw[HM]at h5
  refine Nat.le_of_not_lt fun q=>?_
  have q':(n:Int)<((ns.length:Nat):Int):=by omega
  first
   | (rw[decide_eq_true q']at h5;exact absurd h5 (by decide))
   | (simp at h5;omega)
 cases hwl with
 | cons w1 w2 =>
   cases w2
   cases w1 with
   | list ho hall=>exact⟨_,_,ns,rfl,rfl,ho,gH ns _ hall,hlen⟩
theorem oj(l:Ni)(args:List WData):l.row.toRowW.claim.post args (.bool true) args=true :=
 postW_of (r:=l.row.toRowW) (X:=(true==true))
  (show WShape.has [] (.bool true) .bool=true by first|rfl|decide|simp[WShape.has,WShape.arms,WShape.armsAll])
  (show(WTm.eq .res (.lit (.bool true))).value [] {args:=args,res:=some (.bool true),after:=args}=some (.bool (true==true))from w_eq_bool (w_res rfl) w_lit) rfl
theorem attach_call{l:Ni}{q:Ie}{YP:II->Heap->Prop}{d:DefRec}
 (hn:l.most=some n)(hdf:d.params.defaults=[])
 (call:∀(w:II)(s₀ s₁:HH)(mg mb:Str->Option HE)(fa:Addr)(o:Obj)(pm cd doc:HE)(a:Addr)(vs:List HE)(ns:List Int),
  Ground q loose [] XP w s₀ mg mb s₁.heap->YP w s₁.heap ->
  s₁.heap.get? fa=some o->o.data = .func (docDef d.name d.params d.body d.scope pm cd doc)->s₁.heap.CodeRec cd d.name->mg d.name=some (.ref fa) ->
  s₁.heap.get? a=some {cls:=.type "list", data:=.seq vs.toArray}->Nj vs ns->ns.length<=n->s₁.gens = #[] ->
  L_ (IH l.prog w) MR (.call (.ref fa) ⟨[.ref a],[]⟩) (fun r s'=>r = .ok (.ret (.bool true))/\OldK s₁.heap s'.heap/\s'.os=s₁.os/\Mv s'.gens) s₁) :
 WalkO q loose XP YP l.row.toRowW d [] (fun f vs=>PySem.call f vs):=by
 intro w s₀ s₁ mg mb G Y fa o pm cd doc dV kV ho hd hcd hD hmg hg args vals as hpre hlay hrd hwl hlo
 obtain rfl:dV = .none:=Dflts.none hD hdf
 obtain rfl:kV = .none:=Dflts.noKw hD
 obtain⟨a,vs,ns,rfl,rfl,hobj,hints,hlen⟩:=nJ hn hpre hwl
 refine enter_call (Ma (call w s₀ s₁ mg mb fa o pm cd doc a vs ns G Y ho (fd_plain hd) hcd hmg hobj hints hlen hg) fun r s' hq=>?_)
 obtain⟨rfl,h2,h3,h4⟩:=hq
 exact⟨.inl ⟨.bool true,.bool true,[],rfl,fun _=>rfl,.bool true,oj l _,fun _=>⟨List.Pairwise.nil,fun _ hm=>(nomatch hm)⟩⟩,h2,h3,h4⟩
section
variable{prog:Ie}{w:II}{A:Jb}{E:HE->HH->Prop}{s:HH}{K:Frag}
end
end Att
namespace L2
theorem jt:∀{vs:List HE}{ns:List Int},Nj vs ns->dq (ns.map V.int) vs
 | _,_,.nil=>.nil
 | _,_,.cons n t h=>.cons ⟨t,rfl⟩ (jt h)
noncomputable def AM(H:Hp):Prop:=∀b,H b=none\/∃o xs,H b=some (.frz o (.lst xs))
theorem q9{K:W.Frag}{mb:Str->Option HE}{CX:Ho}{k:Nat}{fa:Addr}{sp:Sp}{s₁:HH}{vs:List HE}{ns:List Int}
 (KX:K.In s₁.heap)(hns:s₁.heap.Ns Iv mg)(hb:s₁.heap.Ns MQ mb)(hbb:∀x:Str,x ≠ "__name__" -> mb x=Kc x)(hlim:s₁.heap.NoLimit)(hg:s₁.gens = #[])
 (ha:s₁.heap.get? a=some {cls:=.type "list", data:=.seq vs.toArray})(hi:Nj vs ns)(hl:ns.length<=sizeLine)(hr:Room k MR)
 (F:∀base:Heap,K.In base->base.Ns Iv mg->FnOk P w K mg base CX k fa fd [x] sp)(hbind:∀(s:HH)(u:HE),M5 s fd ⟨[u],[]⟩ [(x,u)])
 (hsp:∀H:Hp,AM H->GF K H a (ns.map V.int)->sp [.ref a] H (fun v _=>v = .bl true) fun _ _ _=>False)
 (hCX:∀H e s',CX [] H s₁ (fun _ _ _=>False) e s'->False) :
 L_ (IH P w) MR (.call (.ref fa) ⟨[.ref a],[]⟩) (fun r s'=>r = .ok (.ret (.bool true))/\OldK s₁.heap s'.heap/\s'.os=s₁.os/\Mv s'.gens) s₁:=by
 have rv:=jt hi
 have lenV:=hi.length
 have core:∀H:Hp,AM H->GF K H a (ns.map V.int)->Hl P w H s₁.heap->(∀b,H b≠none->b=a)->(H a≠none->K.lookup a=none) ->
  L_ (IH P w) MR (.call (.ref fa) ⟨[.ref a],[]⟩) (fun r s'=>r = .ok (.ret (.bool true))/\OldK s₁.heap s'.heap/\s'.os=s₁.os/\Mv s'.gens) s₁:=by
  intro H hO hS hok hA hK
  have base_of:∀{b:Addr}{o:Obj},s₁.heap.get? b=some o->H b=none->(rB s₁.heap H).get? b=some o:=fun e n=>rA e n
  have noA:∀{b:Addr}{o:Obj}{es:Array DictEntry}{ep:Nat},s₁.heap.get? b=some o->o.data = .dict es ep->H b=none:=fun{b o es ep} e d=>by
   cases q:H b with
   | none=>rfl
   | some u =>
     have e':b=a:=hA b (by rw[q];simp)
     subst e'
     rw[ha]at e;cases e
     have d':Data.seq vs.toArray _=Data.dict es ep:=d
     cases d'
  have nsK:∀{b:Addr}{m:Str->Option HE},s₁.heap.Ns b m->(rB s₁.heap H).Ns b m:=fun{b m} ⟨o,es,ep,e,d,r⟩=>⟨o,es,ep,base_of e (noA e d),d,r⟩
  have hKb:K.In (rB s₁.heap H):=fun b o e=>base_of (KX b o e) (by
   cases q:H b with
   | none=>rfl
   | some u =>
     have e':b=a:=hA b (by rw[q];simp)
     subst e'
     rw[hK (by rw[q];simp)]at e;cases e)
  have hM:Mod K mg (rB s₁.heap H):=⟨hKb,nsK hns,⟨mb,nsK hb,hbb⟩,let ⟨mc,h1,h2⟩:=hlim;⟨mc,nsK h1,h2⟩⟩
  have e0:Env0 P w K mg (rB s₁.heap H) MR [] s₁ H:=⟨rfl,hM,fun b o e=>uQ e,Nat.le_of_eq (pz _ _),trivial,fun b hb=>absurd (show b∈([]:List Addr)from hb) (by simp),hok,.of_eq hg⟩
  refine Ma ((F _ hKb (nsK hns)).run MR [] s₁ H ⟨[.ref a],[]⟩ [.ref a] [.ref a] _ _ hr e0 (hbind s₁ (.ref a)) (.cons rfl .nil) (hsp H hO hS)) fun r s' h=>?_
  cases r with
  | error e=>exact(hCX H e s' h).elim
  | ok fl =>
    cases fl with
    | next=>exact Jm h
    | brk=>exact Jm h
    | cont=>exact Jm h
    | ret u =>
      obtain⟨v,H',os,bare,un,hok',r',q⟩:=h
      have q':v = .bl true:=q
      subst q'
      obtain rfl:u=LJ true:=r'
      refine⟨rfl,OldK.of_keep fun b o e=>?_,os,bare⟩
      cases q:H b with
      | none=>exact un.keep b o e q (by intro z;exact absurd (show b∈([]:List Addr)from z) (by simp)) (by simp)
      | some u =>
        rcases hO b with z|⟨ob,xs,z⟩
        · rw[q]at z;cases z
        · have z2:=un.frzs b ob _ z
          obtain⟨e1,_⟩:=hok b _ z
          obtain⟨e2,_⟩:=hok' b _ z2
          rw[e]at e1;cases e1
          exact e2
 cases hk:K.lookup a with
 | some o =>
   have e:=KX a o hk
   rw[ha]at e
   cases e
   refine core (fun _=>none) (fun _=>.inl rfl) (.inr ⟨_,vs.toArray,_,hk,rfl,rfl,rfl,by rw[HU,lenV];exact hl,by simpa using rv⟩) (fun b u z=>by have z':(none:Option HO)=some u:=z;cases z') (fun b z=>absurd rfl z) fun z=>absurd rfl z
 | none =>
   refine core (fun b=>if b=a then some (.frz {cls:=.type "list", data:=.seq vs.toArray} (.lst (ns.map V.int)))else none) (fun b=>?_) (.inl (.inr ⟨{cls:=.type "list", data:=.seq vs.toArray},if_pos rfl⟩)) (fun b u z=>?_) (fun b z=>?_) fun _=>hk
   · by_cases hb:b=a
     · exact .inr ⟨_,_,if_pos hb⟩
     · exact .inl (if_neg hb)
   · by_cases hb:b=a
     · have z':=(if_pos hb).symm.trans z
       cases z'
       subst hb
       exact⟨ha,by rw[HM];exact hl,vs,_,rv,ha⟩
     · have z':=(if_neg hb).symm.trans z
       cases z'
   · by_cases hb:b=a
     · exact hb
     · exact absurd (if_neg hb) z
theorem walk_of{l:W.OpenLaw}{k:Nat}{q:Ie}{YP:II->Heap->Prop}{d:DefRec}{K:Ng->W.Frag}{CX:II->Ho}{sp:II->Sp}
 (hn:l.most=some n)(hn2:n<=sizeLine)(hdf:d.params.defaults=[])(hr:Room k MR)
 (hY:∀(w:II)(h:Heap),YP w h->(K w.params).In h)
 (F:∀(w:II)(mg:Str->Option HE)(fa:Addr)(h:Heap),(K w.params).In h->h.Ns Iv mg->mg d.name=some (.ref fa) ->
  ∃ fd:Kf,(∀(s:HH)(u:HE),M5 s fd ⟨[u],[]⟩ [(x,u)]) /\
    ∀base:Heap,(K w.params).In base->base.Ns Iv mg->FnOk l.prog w (K w.params) mg base (CX w) k fa fd [x] (sp w))
 (hsp:∀(w:II)(H:Hp)(a:Addr)(ns:List Int),ns.length<=n->AM H->GF (K w.params) H a (ns.map V.int)->sp w [.ref a] H (fun v _=>v = .bl true) fun _ _ _=>False)
 (hCX:∀(w:II)(H:Hp)(s:HH)(e:HE)(s':HH),CX w [] H s (fun _ _ _=>False) e s'->False) :
 W.WalkO q loose XP YP l.row.toRowW d [] (fun f vs=>PySem.call f vs):=by
 refine Att.attach_call hn hdf fun w s₀ s₁ mg mb fa o pm cd doc a vs ns G Y ho hd hcd hmg hobj hints hlen hg=>?_
 have KX:=hY w _ Y
 obtain⟨fd,hb,hF⟩:=F w mg fa _ KX G.T.g hmg
 exact q9 KX G.T.g G.T.b G.T.builtins G.T.nolimit hg hobj hints (JI hlen hn2) hr hF hb (fun H hO hS=>hsp w H a ns hlen hO hS) fun H e s'=>hCX w H s₁ e s'
abbrev Hq:Ho:=fun _ _ _ _ _ _=>False
abbrev E0:XK:=fun _ _ _=>False
theorem uI:qg Hq X E0:=fun _ _ _ _ _ _ _ h=>h.elim
structure Fun (K:W.Frag) (x qual:Str) (st:Stmt) (f:Addr) (fd:Kf):Prop where
 ex:∃(oc:HE)(od:Option Addr)(kV doc pm:HE)(an:Option Addr)(cdv ct:HE)(osl:Array (Option HE)),
  fd=W.fnOf x qual (defArgs st) (defBody st) (defScope st) .none kV doc pm an cdv ct/\K.lookup f=some ⟨oc,od,.func fd,osl⟩/\W.codeIn K cdv qual=true
 kp:W.keepIn K (.ref f)=true
section
variable{P:Ie}{w:II}{K:W.Frag}{mg:Str->Option HE}{base:Heap}
theorem Fun.ok{st:Stmt}{f:Addr}{ps:List Str}{k:Nat}{sp:Sp}(F:Fun K x qual st f fd)(S:FnScope N ps (defScope st))(len:∀vs H Q E,sp vs H Q E->vs.length=ps.length)
 (hbody:∀(cdv:HE)(A:Jb)(outer:List Env)(s:HH)(H:Hp)(vs:List V)(Q:VK)(E:XK),Room k (A.deeper (Mb qual (defScope st) s.heap.objs.size f cdv))->sp vs H Q E ->
  ∃t,GS (qm Hq P w K mg base N qual (defScope st) f cdv A outer s H E).nox (defBody st) t/\t {nx:=fun _ H'=>Q .non H',rt:=Q} (start N vs) H):FnOk P w K mg base Hq (k+1) f fd ps sp:=by
 obtain⟨oc,od,kV,doc,pm,an,cdv,ct,osl,rfl,lk,hcd⟩:=F.ex
 refine AA lk hcd S len fun A outer s H vs Q E hr hsp=>?_
 obtain⟨t,h,q⟩:=hbody cdv A outer s H vs Q E hr hsp
 exact⟨t,h.nox,q⟩
theorem Fun.binds{st:Stmt}{f:Addr}{ps:List Str}(F:Fun K x qual st f fd)
 (h:∀(kV doc pm:HE)(an:Option Addr)(cdv ct:HE)(us:List HE),us.length=ps.length->bindArgs (W.fnOf x qual (defArgs st) (defBody st) (defScope st) .none kV doc pm an cdv ct) ⟨us,[]⟩=pure (ps.zip us)):Binds K fd ps []:=by
 obtain⟨oc,od,kV,doc,pm,an,cdv,ct,osl,rfl,lk,hcd⟩:=F.ex
 exact .all (h kV doc pm an cdv ct)
theorem pA{st:Stmt}{f:Addr}{oc:HE}{od an:Option Addr}{osl:Array (Option HE)}{kV doc pm cdv ct:HE}(l:K.lookup f=some ⟨oc,od,.func (W.fnOf x qual (defArgs st) (defBody st) (defScope st) .none kV doc pm an cdv ct),osl⟩)
 (c:W.codeIn K cdv qual=true)(k:W.keepIn K (.ref f)=true):Fun K x qual st f (W.fnOf x qual (defArgs st) (defBody st) (defScope st) .none kV doc pm an cdv ct):=⟨⟨oc,od,kV,doc,pm,an,cdv,ct,osl,rfl,l,c⟩,k⟩
end
theorem po{k:Nat}(hr:Room k A):A.units+1<MI:=Kl (Nat.add_le_add_left (by decide:1<=64) _) hr.units
theorem nG(h:n<=1000):n<sizeLine:=Kl h (by decide)
section
variable{X:Cx}
theorem pv(i:Nat)(hN:X.N[i]?=some x:=by rfl)(hv:Gv X.env.scope x:=by first|exact JM rfl|exact Jg (JM rfl)|exact Jg (Jg rfl))(hd:(x==("__debug__" : Str))=false:=by decide)
 (hcd:(x==("__classdict__" : Str))=false:=by decide):PE X (.Name x pos) (zB i):=dW hN hv hd hcd
end
noncomputable def cp(H H':Hp):Prop:=∀b o,H b=some o->H' b=some o
theorem cp.refl(H:Hp):cp H H:=fun _ _ h=>h
theorem cp.trans{H1 H2:Hp}(a:cp H H1)(b:cp H1 H2):cp H H2:=fun c o h=>b c o (a c o h)
theorem cp.free(e:cp H H'){l:Addr}(h:H' l=Option.none):H l=Option.none:=by
 cases q:H l with
 | none=>rfl
 | some o =>
   rw[e l o q]at h
   cases h
section
variable{X:Cx}
end
section
variable{κ:Type}[DecidableEq κ]
end
end L2
namespace L2.VL
structure RlT where
 a:Option Addr
 b:Nat×List Int
abbrev RlT.no:RlT:=⟨none,(0,[])⟩
abbrev RlT.at'(r:Addr)(b:Nat×List Int):RlT:=⟨some r,b⟩
noncomputable def RO(c:Nat×List Int)(F:Hp)(o:HO):Prop:=∃(a l t:Int),o = .dK [(IA "cells", .ref c.1),(IA "at", .int a),(IA "left", .int l),(IA "turn", .int t)]/\F c.1=some (.lst (c.2.map V.int))/\c.2.length<=63/\0<=a/\0<=l/\0<=t
theorem RO.mono{c:Nat×List Int}{o:HO}(s:cp F F')(h:RO c F o):RO c F' o:=by
 obtain⟨a,l,t,e,q,r⟩:=h
 exact⟨a,l,t,e,s _ _ q,r⟩
mutual
inductive Rep (K:W.Frag) (F:Hp):V->Hy->Prop
 | non:Rep K F .non .none
 | bl (b:Bool):Rep K F (.bl b) (.bool b)
 | int (i:Int):Rep K F (.int i) (.int i)
 | str (x:Str):Rep K F (.str x) (.str x)
 | tup {a:Addr} {vs:List V} {ds:List Hy}:GE K F a vs->Reps K F vs ds->Rep K F (.ref a) (.tuple ds)
 | lst {a:Addr} {vs:List V} {ds:List Hy}:F a=some (.lst vs)->Reps K F vs ds->Rep K F (.ref a) (.list ds)
inductive Reps (K:W.Frag) (F:Hp):List V->List Hy->Prop
 | nil:Reps K F [] []
 | cons {v:V} {d:Hy} {vs:List V} {ds:List Hy}:Rep K F v d->Reps K F vs ds->Reps K F (v::vs) (d::ds)
end
theorem eY{K:W.Frag}{xs:List V}(e:cp H H')(h:GE K H a xs):GE K H' a xs:=by
 rcases h with(h|⟨o,h⟩)|h
 · exact .inl (.inl (e _ _ h))
 · exact .inl (.inr ⟨o,e _ _ h⟩)
 · exact .inr h
theorem qI{K:W.Frag}{xs:List V}(e:cp H H')(h:GF K H a xs):GF K H' a xs:=by
 rcases h with(h|⟨o,h⟩)|h
 · exact .inl (.inl (e _ _ h))
 · exact .inl (.inr ⟨o,e _ _ h⟩)
 · exact .inr h
mutual
theorem Rep.mono{K:W.Frag}{F F':Hp}(s:cp F F'):∀{v:V}{d:Hy},Rep K F v d->Rep K F' v d
 | _,_,.non=>.non
 | _,_,.bl b=>.bl b
 | _,_,.int i=>.int i
 | _,_,.str x=>.str x
 | _,_,.tup h r=>.tup (eY s h) (Reps.mono s r)
 | _,_,.lst h r=>.lst (s _ _ h) (Reps.mono s r)
theorem Reps.mono{K:W.Frag}{F F':Hp}(s:cp F F'):∀{vs:List V}{ds:List Hy},Reps K F vs ds->Reps K F' vs ds
 | _,_,.nil=>.nil
 | _,_,.cons h r=>.cons (Rep.mono s h) (Reps.mono s r)
end
theorem Reps.length{K:W.Frag}{F:Hp}:∀{vs:List V}{ds:List Hy},Reps K F vs ds->vs.length=ds.length
 | _,_,.nil=>rfl
 | _,_,.cons _ r=>by simp[Reps.length r]
theorem Reps.get{K:W.Frag}{F:Hp}:∀{vs:List V}{ds:List Hy}{i:Nat}{d:Hy},Reps K F vs ds->ds[i]?=some d->∃v,vs[i]?=some v/\Rep K F v d
 | _,_,_,_,.nil,e=>by simp at e
 | _,_,0,_,.cons h _,e=>by simp at e;subst e;exact⟨_,rfl,h⟩
 | _,_,i+1,d,.cons _ r,e=>by
   obtain⟨v,h1,h2⟩:=Reps.get (i:=i) (d:=d) r (by simpa using e)
   exact⟨v,by simpa using h1,h2⟩
theorem Reps.append{K:W.Frag}{F:Hp}:∀{vs us:List V}{ds es:List Hy},Reps K F vs ds->Reps K F us es->Reps K F (vs++us) (ds++es)
 | _,_,_,_,.nil,s=>s
 | _,_,_,_,.cons h r,s=>.cons h (Reps.append r s)
theorem Reps.snoc{K:W.Frag}{ds:List Hy}(r:Reps K F vs ds)(h:Rep K F v d):Reps K F (vs++[v]) (ds++[d]):=r.append (.cons h .nil)
theorem Reps.take{K:W.Frag}{F:Hp}:∀{vs:List V}{ds:List Hy}(n:Nat),Reps K F vs ds->Reps K F (vs.take n) (ds.take n)
 | _,_,0,_=>.nil
 | _,_,_+1,.nil=>.nil
 | _,_,n+1,.cons h r=>.cons h (Reps.take n r)
theorem Reps.drop{K:W.Frag}{F:Hp}:∀{vs:List V}{ds:List Hy}(n:Nat),Reps K F vs ds->Reps K F (vs.drop n) (ds.drop n)
 | _,_,0,r=>r
 | _,_,_+1,.nil=>.nil
 | _,_,n+1,.cons _ r=>Reps.drop n r
theorem Reps.nil_iff{K:W.Frag}(h:Reps K F vs []):vs=[]:=by cases h;rfl
mutual
theorem Rep.reads{X:Cx}{pins:List (Addr×Obj)}{σ:St}{H F:Hp}{s:HH}(I:Inv X pins σ H s)(sub:cp F H):∀{v:V}{d:Hy},Rep X.K F v d->∀u,RelV v u->∃as,Reads s.heap u d as
 | _,_,.non,u,r=>by cases(show u=KG from r);exact⟨_,.none⟩
 | _,_,.bl b,u,r=>by cases(show u=LJ b from r);exact⟨_,.bool b⟩
 | _,_,.int i,u,r=>by obtain⟨t,q⟩:=(show ∃t,u=MB i t from r);cases q;exact⟨_,.int i t⟩
 | _,_,.str x,u,r=>by obtain⟨t,q⟩:=(show ∃t,u=MC x t from r);cases q;exact⟨_,.str x t⟩
 | _,_,.tup (a:=a) h q,u,r=>by
   cases(show u=J7 a from r)
   obtain⟨its,rv,⟨o,h1,h2,n,h3⟩,hz⟩:=I.tuple (eY sub h)
   obtain⟨as,ra⟩:=Reps.reads I sub q its rv
   exact⟨_,.tuple h1 h2 h3 (by simpa using ra)⟩
 | _,_,.lst (a:=a) h q,u,r=>by
   cases(show u=J7 a from r)
   obtain⟨its,rv,p,hz⟩:=I.list (.inl (.inl (sub _ _ h)))
   obtain⟨o,h1,h2,n,h3⟩:=p.isList
   obtain⟨as,ra⟩:=Reps.reads I sub q its rv
   exact⟨_,.list h1 h2 h3 (by simpa using ra)⟩
theorem Reps.reads{X:Cx}{pins:List (Addr×Obj)}{σ:St}{H F:Hp}{s:HH}(I:Inv X pins σ H s)(sub:cp F H):∀{vs:List V}{ds:List Hy},Reps X.K F vs ds->∀us,dq vs us->∃as,ReadsAll s.heap us ds as
 | _,_,.nil,us,r=>by cases r;exact⟨_,.nil⟩
 | _,_,.cons h q,us,r=>by
   cases r with
   | cons r1 r2 =>
     obtain⟨as,a1⟩:=Rep.reads I sub h _ r1
     obtain⟨bs,a2⟩:=Reps.reads I sub q _ r2
     exact⟨_,.cons a1 a2⟩
end
structure ReelOk (b:Nat×List Int) (F H:Hp) (r:Addr):Prop where
 ex:∃o,H r=some o/\RO b F o
noncomputable def GN(rl:RlT)(F H:Hp):Prop:=∀r,rl.a=some r->F r=none/\ReelOk rl.b F H r
theorem GN.live{rl:RlT}(h:GN rl F H)(e:rl.a=some r):∃o,H r=some o:=by
 obtain⟨_,⟨o,q,_⟩⟩:=h r e
 exact⟨_,q⟩
structure Grow (rl:RlT) (F H F' H':Hp):Prop where
 same:∀b o,H b=some o->rl.a≠some b->H' b=some o
 fs:cp F F'
 sub:cp F' H'
 old:∀b o,H b=some o->F' b=F b
 reel:GN rl F' H'
theorem Grow.refl{rl:RlT}{F H:Hp}(s:cp F H)(r:GN rl F H):Grow rl F H F H:=⟨fun _ _ e _=>e,.refl F,s,fun _ _ _=>rfl,r⟩
theorem Grow.live{rl:RlT}{F H F' H':Hp}(g:Grow rl F H F' H'){b:Addr}{o:HO}(e:H b=some o):∃o',H' b=some o':=by
 by_cases h:rl.a=some b
 · exact g.reel.live h
 · exact⟨o,g.same b o e h⟩
theorem Grow.trans{rl:RlT}{F H F1 H1 F2 H2:Hp}(a:Grow rl F H F1 H1)(b:Grow rl F1 H1 F2 H2):Grow rl F H F2 H2 :=
 ⟨fun c o e n=>b.same c o (a.same c o e n) n,a.fs.trans b.fs,b.sub,fun c o e=>by obtain⟨o',e'⟩:=a.live e;rw[b.old c o' e',a.old c o e],b.reel⟩
theorem Grow.freeB{rl:RlT}(g:Grow rl F H F' H')(e:H' b=none):H b=none:=by
 cases q:H b with
 | none=>rfl
 | some o=>obtain⟨o',e'⟩:=g.live q;rw[e]at e';cases e'
theorem Grow.laid{rl:RlT}{o:HO}(s:cp F H)(r:GN rl F H)(n:H a=none):Grow rl F H F (upd H a o):=by
 have ne:∀b u,H b=some u->b≠a:=fun b u e=>bA e n
 refine⟨fun b u e _=>by rw[aA (ne b u e)];exact e,.refl F,fun b u e=>by rw[aA (ne b u (s b u e))];exact s b u e,fun _ _ _=>rfl,fun q e=>?_⟩
 obtain⟨z,⟨u,h1,h2⟩⟩:=r q e
 exact⟨z,⟨u,by rw[aA (ne _ _ h1)];exact h1,h2⟩⟩
theorem Grow.data{rl:RlT}{o:HO}(s:cp F H)(r:GN rl F H)(n:H a=none):Grow rl F H (upd F a o) (upd H a o):=by
 have ne:∀b u,H b=some u->b≠a:=fun b u e=>bA e n
 have neF:∀b u,F b=some u->b≠a:=fun b u e=>ne b u (s b u e)
 refine⟨fun b u e _=>by rw[aA (ne b u e)];exact e,fun b u e=>by rw[aA (neF b u e)];exact e,fun b u e=>?_,fun b u e=>by rw[aA (ne b u e)],fun q e=>?_⟩
 · by_cases hb:b=a
   · subst hb;rw[aJ]at e ⊢;exact e
   · rw[aA hb]at e ⊢;exact s b u e
 · obtain⟨z,⟨u,h1,h2⟩⟩:=r q e
   exact⟨by rw[aA (ne _ _ h1)];exact z,⟨u,by rw[aA (ne _ _ h1)];exact h1,RO.mono (fun b u e=>by rw[aA (neF b u e)];exact e) h2⟩⟩
theorem Grow.freeze{rl:RlT}{F1 H1:Hp}{o:HO}(g:Grow rl F H F1 H1)(n:H a=none)(e:H1 a=some o)(f:F1 a=none)(hr:rl.a≠some a):Grow rl F H (upd F1 a o) H1:=by
 have neF:∀b u,F1 b=some u->b≠a:=fun b u q z=>by subst z;rw[f]at q;cases q
 refine⟨g.same,fun b u q=>by rw[aA (neF b u (g.fs b u q))];exact g.fs b u q,fun b u q=>?_,fun b u q=>by rw[aA (bA q n)];exact g.old b u q,fun q z=>?_⟩
 · by_cases hb:b=a
   · subst hb;rw[aJ]at q;rw[e];exact q
   · rw[aA hb]at q;exact g.sub b u q
 · obtain⟨z1,⟨u,h1,h2⟩⟩:=g.reel q z
   exact⟨by rw[aA (fun y=>hr (by rw[<- y];exact z))];exact z1,⟨u,h1,RO.mono (fun b u e=>by rw[aA (neF b u e)];exact e) h2⟩⟩
inductive W where
 | d (x:Hy)
 | ml (xs:List Hy)
 | pk (xs:List Hy)
 | reel
 | vv (v:V)
 | md (kvs:List (List G6×Hy))
 | mk (kvs:List (G6×Hy))
 | nt (ds:List Hy)
 | lk
 | sc (ns:List Int)
 | fd (kvs:List (G6×Hy))
 | fw (kvs:List (G6×Hy))
 | ft (kvs:List (List G6×Hy))
 | xc (x:Str) (fs:List (Str×Hy))
 | dp (kvs:List (G6×Hy)) (x:Hy)
noncomputable def W.dat:W->Option Hy
 | .d x=>some x
 | .ml xs=>some (.list xs)
 | .pk xs=>some (.list xs)
 | .nt ds=>some (.tuple ds)
 | _=>none
noncomputable def W.peek:W->W
 | .ml xs=>.pk xs
 | .md _=>.lk
 | .mk _=>.lk
 | w=>w
noncomputable def W.own:W->Bool
 | .ml _=>true
 | .md _=>true
 | .mk _=>true
 | _=>false
abbrev KD(K:W.Frag)(F:Hp):List (List G6×V)->List (List G6×Hy)->Prop:=I0 fun p q=>p.1=q.1/\Rep K F p.2 q.2
abbrev G8(K:W.Frag)(F:Hp):List (G6×V)->List (G6×Hy)->Prop:=I0 fun p q=>p.1=q.1/\Rep K F p.2 q.2
abbrev G7(K:W.Frag)(F:Hp):List (Str×V)->List (Str×Hy)->Prop:=I0 fun p q=>p.1=q.1/\Rep K F p.2 q.2
noncomputable def AO(e C dx:Addr):Heap->Prop:=fun h=>∃oe vs,h.get? e=some oe/\oe.cls = .ref C/\oe.dict=some dx/\oe.data = .fields vs
noncomputable def vX(K:W.Frag)(rl:RlT)(F H:Hp)(v:V)(kvs:List (List G6×Hy)):Prop:=∃a us,v = .ref a/\F a=none/\rl.a≠some a/\H a=some (.dT us)/\KD K F us kvs
noncomputable def vW(K:W.Frag)(rl:RlT)(F H:Hp)(v:V)(kvs:List (G6×Hy)):Prop:=∃a us,v = .ref a/\F a=none/\rl.a≠some a/\H a=some (.dK us)/\G8 K F us kvs
noncomputable def jn(K:W.Frag)(rl:RlT)(F H:Hp)(v:V)(xs:List Hy):Prop:=∃a vs,v = .ref a/\F a=none/\rl.a≠some a/\H a=some (.lst vs)/\Reps K F vs xs
noncomputable def eP(K:W.Frag)(rl:RlT)(F H:Hp)(v:V):W->Prop
 | .d x=>Rep K F v x
 | .ml xs=>jn K rl F H v xs
 | .pk xs=>jn K rl F H v xs
 | .reel=>∃r,rl.a=some r/\v = .ref r
 | .vv u=>v=u
 | .md kvs=>vX K rl F H v kvs
 | .mk kvs=>vW K rl F H v kvs
 | .nt ds=>∃a vs,v = .ref a/\F a=some (.tup vs)/\Reps K F vs ds
 | .lk=>True
 | .sc ns=>∃a,v = .ref a/\GF K F a (ns.map V.int)
 | .fd kvs=>∃a us,v = .ref a/\F a=some (.dK us)/\G8 K F us kvs
 | .fw kvs=>∃a us o,v = .ref a/\F a=some (.frz o (.dK us))/\G8 K F us kvs
 | .ft kvs=>∃a us o,v = .ref a/\F a=some (.frz o (.dT us))/\KD K F us kvs
 | .xc x fs=>∃e dx us C,v = .ref e/\W.nsIn K Iv x=some (some (.ref C))/\F e=some (.ext (AO e C dx))/\F dx=some (.xd us)/\G7 K F us fs
 | .dp kvs x=>∃a b us u o,v = .ref a/\F a=some (.tup [.ref b,u])/\F b=some (.frz o (.dK us))/\G8 K F us kvs/\Rep K F u x
theorem vX.grow{K:W.Frag}{rl:RlT}{kvs:List (List G6×Hy)}(g:Grow rl F H F' H')(r:vX K rl F H v kvs):vX K rl F' H' v kvs:=by
 obtain⟨a,us,rfl,h1,h2,h3,h4⟩:=r
 exact⟨a,us,rfl,by rw[g.old a _ h3];exact h1,h2,g.same a _ h3 h2,I0.mapP h4 fun _ _ z=>⟨z.1,z.2.mono g.fs⟩⟩
theorem vW.grow{K:W.Frag}{rl:RlT}{kvs:List (G6×Hy)}(g:Grow rl F H F' H')(r:vW K rl F H v kvs):vW K rl F' H' v kvs:=by
 obtain⟨a,us,rfl,h1,h2,h3,h4⟩:=r
 exact⟨a,us,rfl,by rw[g.old a _ h3];exact h1,h2,g.same a _ h3 h2,I0.mapP h4 fun _ _ z=>⟨z.1,z.2.mono g.fs⟩⟩
theorem jn.grow{K:W.Frag}{rl:RlT}(g:Grow rl F H F' H')(r:jn K rl F H v xs):jn K rl F' H' v xs:=by
 obtain⟨a,vs,rfl,h1,h2,h3,h4⟩:=r
 exact⟨a,vs,rfl,by rw[g.old a _ h3];exact h1,h2,g.same a _ h3 h2,h4.mono g.fs⟩
theorem eP.grow{K:W.Frag}{rl:RlT}{F H F' H':Hp}{v:V}{w:W}(g:Grow rl F H F' H')(r:eP K rl F H v w):eP K rl F' H' v w:=by
 cases w with
 | d x=>exact Rep.mono g.fs r
 | ml xs=>exact jn.grow g r
 | pk xs=>exact jn.grow g r
 | reel=>exact r
 | vv u=>exact r
 | md kvs=>exact vX.grow g r
 | mk kvs=>exact vW.grow g r
 | nt ds=>obtain⟨a,vs,e,h,q⟩:=r;exact⟨a,vs,e,g.fs _ _ h,q.mono g.fs⟩
 | lk=>trivial
 | sc ns=>obtain⟨a,e,h⟩:=r;exact⟨a,e,qI g.fs h⟩
 | fd kvs=>obtain⟨a,us,e,h,q⟩:=r;exact⟨a,us,e,g.fs _ _ h,I0.mapP q fun _ _ z=>⟨z.1,z.2.mono g.fs⟩⟩
 | fw kvs=>obtain⟨a,us,o,e,h,q⟩:=r;exact⟨a,us,o,e,g.fs _ _ h,I0.mapP q fun _ _ z=>⟨z.1,z.2.mono g.fs⟩⟩
 | ft kvs=>obtain⟨a,us,o,e,h,q⟩:=r;exact⟨a,us,o,e,g.fs _ _ h,I0.mapP q fun _ _ z=>⟨z.1,z.2.mono g.fs⟩⟩
 | xc _ _=>obtain⟨a,dx,us,C,e,n,h1,h2,q⟩:=r;exact⟨a,dx,us,C,e,n,g.fs _ _ h1,g.fs _ _ h2,I0.mapP q fun _ _ z=>⟨z.1,z.2.mono g.fs⟩⟩
 | dp _ _=>obtain⟨a,b,us,u,o,e,h1,h2,q,z⟩:=r;exact⟨a,b,us,u,o,e,g.fs _ _ h1,g.fs _ _ h2,I0.mapP q fun _ _ z=>⟨z.1,z.2.mono g.fs⟩,z.mono g.fs⟩
theorem eP.peek{K:W.Frag}{rl:RlT}{w:W}(r:eP K rl F H v w):eP K rl F H v w.peek:=by cases w<;>first|exact r|trivial
theorem jn.rep{K:W.Frag}{rl:RlT}(s:cp F H)(r:jn K rl F H v xs):Rep K H v (.list xs):=by
 obtain⟨a,vs,rfl,h1,h2,h3,h4⟩:=r
 exact .lst h3 (h4.mono s)
theorem eP.dat{K:W.Frag}{rl:RlT}{w:W}{x:Hy}(s:cp F H)(r:eP K rl F H v w)(e:w.dat=some x):Rep K H v x:=by
 cases w with
 | d y=>cases e;exact Rep.mono s r
 | ml xs=>cases e;exact jn.rep s r
 | pk xs=>cases e;exact jn.rep s r
 | reel=>cases e
 | vv u=>cases e
 | md kvs=>cases e
 | mk kvs=>cases e
 | nt ds=>cases e;obtain⟨a,vs,rfl,h,q⟩:=r;exact .tup (.inl (.inl (s _ _ h))) (q.mono s)
 | lk=>cases e
 | sc _=>cases e
 | fd _=>cases e
 | fw _=>cases e
 | ft _=>cases e
 | xc _ _=>cases e
 | dp _ _=>cases e
theorem eP.items{K:W.Frag}{rl:RlT}{w:W}(s:cp F H)(r:eP K rl F H v w)(e:w.dat=some (.list xs)):∃a vs,v = .ref a/\GF K H a vs/\Reps K F vs xs:=by
 have own:jn K rl F H v xs->∃a vs,v = .ref a/\GF K H a vs/\Reps K F vs xs:=fun⟨a,vs,e1,_,_,e2,e3⟩=>⟨a,vs,e1,.inl (.inl e2),e3⟩
 cases w with
 | d y =>
   cases e
   cases(show Rep K F v (.list xs)from r)with
   | lst h q=>exact⟨_,_,rfl,.inl (.inl (s _ _ h)),q⟩
 | ml ys=>cases e;exact own r
 | pk ys=>cases e;exact own r
 | reel=>cases e
 | vv u=>cases e
 | md kvs=>cases e
 | mk kvs=>cases e
 | nt ds=>cases e
 | lk=>cases e
 | sc _=>cases e
 | fd _=>cases e
 | fw _=>cases e
 | ft _=>cases e
 | xc _ _=>cases e
 | dp _ _=>cases e
theorem eP.itemsT{K:W.Frag}{rl:RlT}{w:W}(s:cp F H)(r:eP K rl F H v w)(e:w.dat=some (.tuple xs)):∃a vs,v = .ref a/\GE K H a vs/\Reps K F vs xs:=by
 cases w with
 | d y =>
   cases e
   cases(show Rep K F v (.tuple xs)from r)with
   | tup h q=>exact⟨_,_,rfl,eY s h,q⟩
 | ml ys=>cases e
 | pk ys=>cases e
 | reel=>cases e
 | vv u=>cases e
 | md kvs=>cases e
 | mk kvs=>cases e
 | nt ds=>cases e;obtain⟨a,vs,rfl,h,q⟩:=r;exact⟨a,vs,rfl,.inl (.inl (s _ _ h)),q⟩
 | lk=>cases e
 | sc _=>cases e
 | fd _=>cases e
 | fw _=>cases e
 | ft _=>cases e
 | xc _ _=>cases e
 | dp _ _=>cases e
noncomputable def fM(H:Hp)(v:V):W->Prop
 | .ml _=>∀a,v = .ref a->H a=none
 | .md _=>∀a,v = .ref a->H a=none
 | .mk _=>∀a,v = .ref a->H a=none
 | _=>True
theorem eP.live{K:W.Frag}{rl:RlT}{w:W}(r:eP K rl F H v w)(h:w.own=true):∃a o,v = .ref a/\H a=some o:=by
 cases w with
 | ml xs=>obtain⟨a,vs,e,_,_,hh,_⟩:=r;exact⟨a,_,e,hh⟩
 | md xs=>obtain⟨a,vs,e,_,_,hh,_⟩:=r;exact⟨a,_,e,hh⟩
 | mk xs=>obtain⟨a,vs,e,_,_,hh,_⟩:=r;exact⟨a,_,e,hh⟩
 | _=>cases h
theorem fM.none{w:W}(n:fM H v w)(h:w.own=true)(e:v = .ref a):H a=none:=by
 cases w with
 | ml xs=>exact n a e
 | md xs=>exact n a e
 | mk xs=>exact n a e
 | _=>cases h
abbrev En:=List (Option W)
structure VR (K:W.Frag) (rl:RlT) (F₀ H₀ F H:Hp) (σ:St) (ρ:En):Prop where
 g:Grow rl F₀ H₀ F H
 sl:∀(i:Nat) w,ρ[i]?=some (some w)->∃v,σ[i]?=some (some v)/\eP K rl F H v w/\fM H₀ v w
 ap:∀(i j:Nat)(x y:W) v,i≠j->ρ[i]?=some (some x)->ρ[j]?=some (some y)->x.own=true->y.own=true->σ[i]?=some (some v)->σ[j]?=some (some v)->False
 np:∀(i:Nat) xs,ρ[i]?≠some (some (W.pk xs))
 len:ρ.length=σ.length
section
variable{K:W.Frag}{rl:RlT}{F₀ H₀ F H F' H':Hp}{σ:St}{ρ:En}
theorem VR.sub(r:VR K rl F₀ H₀ F H σ ρ):cp F H:=r.g.sub
theorem VR.reel(r:VR K rl F₀ H₀ F H σ ρ):GN rl F H:=r.g.reel
theorem VR.grow(r:VR K rl F₀ H₀ F H σ ρ)(g:Grow rl F H F' H'):VR K rl F₀ H₀ F' H' σ ρ :=
 ⟨r.g.trans g,fun i w e=>let ⟨v,e1,e2,e3⟩:=r.sl i w e;⟨v,e1,e2.grow g,e3⟩,r.ap,r.np,r.len⟩
theorem VR.set(r:VR K rl F₀ H₀ F H σ ρ){H1 F1:Hp}(g:Grow rl F H F1 H1){w:W}(rw':eP K rl F1 H1 v w)(hn:fM H v w)(hp:∀xs,w ≠ .pk xs)(i:Nat):VR K rl F₀ H₀ F1 H1 (σ.set i (some v)) (ρ.set i (some w)):=by
 have r1:=r.grow g
 refine⟨r1.g,fun j w' e=>?_,fun j k xs ys u hjk e1 e2 w1 w2 s1 s2=>?_,fun j xs z=>?_,by simp[r.len]⟩
 · by_cases hj:i=j
   · subst hj
     have hi:i<ρ.length:=by
      rw[Ja]at e
      by_cases hi:i<ρ.length
      · exact hi
      · simp[hi]at e
     rw[Ia hi]at e
     cases e
     refine⟨v,by rw[Ia (by rw[<- r.len];exact hi)],rw',?_⟩
     cases w with
     | ml xs=>exact fun a ea=>r.g.freeB (hn a ea)
     | d x=>trivial
     | pk xs=>trivial
     | reel=>trivial
     | vv u=>trivial
     | md xs=>exact fun a ea=>r.g.freeB (hn a ea)
     | mk xs=>exact fun a ea=>r.g.freeB (hn a ea)
     | nt ds=>trivial
     | lk=>trivial
     | sc _=>trivial
     | fd _=>trivial
     | fw _=>trivial
     | ft _=>trivial
     | xc _ _=>trivial
     | dp _ _=>trivial
   · rw[HY hj]at e
     obtain⟨u,h1,h2,h3⟩:=r1.sl j w' e
     exact⟨u,by rw[HY hj];exact h1,h2,h3⟩
 · have key:∀(k:Nat)(x y:W),ρ[k]?=some (some y)->some (some w)=some (some x)->x.own=true->y.own=true->σ[k]?=some (some v)->False:=fun k x y d2 e1 o1 o2 s2=>by
     cases e1
     obtain⟨u',h1,h2,h3⟩:=r.sl k _ d2
     rw[s2]at h1
     cases h1
     obtain⟨a,o,ea,hh⟩:=h2.live o2
     rw[hn.none o1 ea]at hh
     cases hh
   by_cases hj:i=j
   · subst hj
     have hk:i≠k:=hjk
     have hi:i<ρ.length:=by
      rw[Ja]at e1
      by_cases hi:i<ρ.length
      · exact hi
      · simp[hi]at e1
     rw[Ia hi]at e1
     rw[HY hk]at e2 s2
     rw[Ia (by rw[<- r.len];exact hi)]at s1
     cases s1
     exact key k xs ys e2 e1 w1 w2 s2
   · by_cases hk:i=k
     · subst hk
       have hi:i<ρ.length:=by
        rw[Ja]at e2
        by_cases hi:i<ρ.length
        · exact hi
        · simp[hi]at e2
       rw[Ia hi]at e2
       rw[HY hj]at e1 s1
       rw[Ia (by rw[<- r.len];exact hi)]at s2
       cases s2
       exact key j ys xs e1 e2 w2 w1 s1
     · rw[HY hj]at e1 s1
       rw[HY hk]at e2 s2
       exact r.ap j k xs ys u hjk e1 e2 w1 w2 s1 s2
 · rw[Ja]at z
   split at z
   · split at z
     · exact hp xs (Ii (Ii z))
     · cases z
   · exact r.np j xs z
theorem VR.freeze(r:VR K rl F₀ H₀ F H σ ρ){i:Nat}{xs:List Hy}(e:ρ[i]?=some (some (.ml xs))):∃F1,VR K rl F₀ H₀ F1 H σ (ρ.set i (some (.d (.list xs)))):=by
 obtain⟨v,h1,h2,h3⟩:=r.sl i _ e
 obtain⟨a,vs,rfl,f,hr,hh,q⟩:=(show jn K rl F H v xs from h2)
 have hi:i<ρ.length:=(H0.mp e).1
 have neF:∀b u,F b=some u->b≠a:=fun b u q z=>by subst z;rw[f]at q;cases q
 have fsm:cp F (upd F a (.lst vs)):=fun b u z=>by rw[aA (neF b u z)];exact z
 refine⟨upd F a (.lst vs),r.g.freeze (h3 a rfl) hh f hr,fun j w e1=>?_,fun j k ys zs u hjk e1 e2 w1 w2 s1 s2=>?_,fun j ys z=>?_,by simp[r.len]⟩
 · by_cases hj:i=j
   · subst hj
     rw[Ia hi]at e1
     cases e1
     exact⟨.ref a,h1,.lst aJ (q.mono fsm),trivial⟩
   · rw[HY hj]at e1
     obtain⟨u,g1,g2,g3⟩:=r.sl j w e1
     refine⟨u,g1,?_,g3⟩
     have own:∀ys,(∀zs,w = .ml zs->ys=zs)->jn K rl F H u ys->(∃b,u = .ref b/\b≠a)->jn K rl (upd F a (.lst vs)) H u ys:=fun ys _ ⟨b,us,eb,f1,f2,f3,f4⟩ ⟨b',eb',ne⟩=>by
      rw[eb]at eb'
      cases eb'
      exact⟨b,us,eb,by rw[aA ne];exact f1,f2,f3,f4.mono fsm⟩
     cases w with
     | d x=>exact Rep.mono fsm g2
     | reel=>exact g2
     | vv u=>exact g2
     | ml ys =>
       obtain⟨b,us,eb,f1,f2,f3,f4⟩:=(show jn K rl F H u ys from g2)
       have ne:b≠a:=fun z=>r.ap i j _ _ (.ref a) hj e e1 rfl rfl h1 (by rw[g1,eb,z])
       exact⟨b,us,eb,by rw[aA ne];exact f1,f2,f3,f4.mono fsm⟩
     | pk ys=>exact absurd e1 (r.np j ys)
     | md ys =>
       obtain⟨b,us,eb,f1,f2,f3,f4⟩:=(show vX K rl F H u ys from g2)
       have ne:b≠a:=fun z=>r.ap i j _ _ (.ref a) hj e e1 rfl rfl h1 (by rw[g1,eb,z])
       exact⟨b,us,eb,by rw[aA ne];exact f1,f2,f3,I0.mapP f4 fun _ _ z=>⟨z.1,z.2.mono fsm⟩⟩
     | mk ys =>
       obtain⟨b,us,eb,f1,f2,f3,f4⟩:=(show vW K rl F H u ys from g2)
       have ne:b≠a:=fun z=>r.ap i j _ _ (.ref a) hj e e1 rfl rfl h1 (by rw[g1,eb,z])
       exact⟨b,us,eb,by rw[aA ne];exact f1,f2,f3,I0.mapP f4 fun _ _ z=>⟨z.1,z.2.mono fsm⟩⟩
     | nt ds=>obtain⟨b,us,eb,f1,f2⟩:=g2;exact⟨b,us,eb,fsm _ _ f1,f2.mono fsm⟩
     | lk=>trivial
     | sc ns=>obtain⟨b,eb,f1⟩:=g2;exact⟨b,eb,qI fsm f1⟩
     | fd kvs=>obtain⟨b,us,eb,f1,f2⟩:=g2;exact⟨b,us,eb,fsm _ _ f1,I0.mapP f2 fun _ _ z=>⟨z.1,z.2.mono fsm⟩⟩
     | fw kvs=>obtain⟨b,us,o,eb,f1,f2⟩:=g2;exact⟨b,us,o,eb,fsm _ _ f1,I0.mapP f2 fun _ _ z=>⟨z.1,z.2.mono fsm⟩⟩
     | ft kvs=>obtain⟨b,us,o,eb,f1,f2⟩:=g2;exact⟨b,us,o,eb,fsm _ _ f1,I0.mapP f2 fun _ _ z=>⟨z.1,z.2.mono fsm⟩⟩
     | xc _ _=>obtain⟨b,dx,us,C,eb,n,f1,f3,f2⟩:=g2;exact⟨b,dx,us,C,eb,n,fsm _ _ f1,fsm _ _ f3,I0.mapP f2 fun _ _ z=>⟨z.1,z.2.mono fsm⟩⟩
     | dp _ _=>obtain⟨c,b,us,u,o,eb,f1,f3,f2,z⟩:=g2;exact⟨c,b,us,u,o,eb,fsm _ _ f1,fsm _ _ f3,I0.mapP f2 fun _ _ z=>⟨z.1,z.2.mono fsm⟩,z.mono fsm⟩
 · have nd:∀(j:Nat)(y:W),(ρ.set i (some (W.d (.list xs))))[j]?=some (some y)->y.own=true->ρ[j]?=some (some y):=fun j y z o=>by
     by_cases hj:i=j
     · subst hj
       rw[Ia hi]at z
       cases z
       cases o
     · rw[HY hj]at z
       exact z
   exact r.ap j k ys zs u hjk (nd j ys e1 w1) (nd k zs e2 w2) w1 w2 s1 s2
 · rw[Ja]at z
   split at z
   · first|cases z|(split at z<;>cases z)
   · exact r.np j ys z
end
abbrev TV:=En->(W->Prop)->Prop
abbrev TB:=En->(Bool->Prop)->Prop
abbrev Gy:=En->(List W->Prop)->Prop
abbrev gU(K:W.Frag)(rl:RlT)(F H:Hp):List V->List W->Prop:=I0 (eP K rl F H)
noncomputable def PV(X:Cx)(rl:RlT)(e:Expr)(f:TV):Prop:=∃t,PE X e t/\∀{F₀ H₀ F H:Hp}{σ:St}{ρ:En},VR X.K rl F₀ H₀ F H σ ρ->∀(Qd:W->Prop)(Q:VK),f ρ Qd ->
 (∀v w F' H',Grow rl F H F' H'->eP X.K rl F' H' v w->fM H v w->Qd w->Q v H')->t σ H Q
noncomputable def PB(X:Cx)(rl:RlT)(e:Expr)(f:TB):Prop:=∃t,PT X e t/\∀{F₀ H₀ F H:Hp}{σ:St}{ρ:En},VR X.K rl F₀ H₀ F H σ ρ->∀(Qd:Bool->Prop)(Q:Bool->Hp->Prop),f ρ Qd ->
 (∀b F' H',Grow rl F H F' H'->Qd b->Q b H')->t σ H Q
noncomputable def GP(X:Cx)(rl:RlT)(es:List Expr)(f:Gy):Prop:=∃t,PA X es t/\∀{F₀ H₀ F H:Hp}{σ:St}{ρ:En},VR X.K rl F₀ H₀ F H σ ρ->∀(Qd:List W->Prop)(Q:List V->Hp->Prop),f ρ Qd ->
 (∀vs ws F' H',Grow rl F H F' H'->gU X.K rl F' H' vs ws->Qd ws->Q vs H')->t σ H Q
noncomputable def W.fz:W->W
 | .ml xs=>.d (.list xs)
 | .nt ds=>.d (.tuple ds)
 | w=>w
theorem eP.fz{K:W.Frag}{rl:RlT}{F1 H1:Hp}{w:W}(g:Grow rl F H F1 H1)(r:eP K rl F1 H1 v w)(n:fM H v w):∃F2,Grow rl F H F2 H1/\cp F1 F2/\eP K rl F2 H1 v w.fz:=by
 cases w with
 | d x=>exact⟨F1,g,.refl _,r⟩
 | pk xs=>exact⟨F1,g,.refl _,r⟩
 | reel=>exact⟨F1,g,.refl _,r⟩
 | vv u=>exact⟨F1,g,.refl _,r⟩
 | md u=>exact⟨F1,g,.refl _,r⟩
 | mk u=>exact⟨F1,g,.refl _,r⟩
 | lk=>exact⟨F1,g,.refl _,r⟩
 | sc _=>exact⟨F1,g,.refl _,r⟩
 | fd _=>exact⟨F1,g,.refl _,r⟩
 | fw _=>exact⟨F1,g,.refl _,r⟩
 | ft _=>exact⟨F1,g,.refl _,r⟩
 | xc _ _=>exact⟨F1,g,.refl _,r⟩
 | dp _ _=>exact⟨F1,g,.refl _,r⟩
 | nt ds=>obtain⟨a,vs,rfl,h,q⟩:=r;exact⟨F1,g,.refl _,.tup (.inl (.inl h)) q⟩
 | ml xs =>
   obtain⟨a,vs,rfl,f,hr,hh,q⟩:=(show jn K rl F1 H1 v xs from r)
   have neF:∀b u,F1 b=some u->b≠a:=fun b u q z=>by subst z;rw[f]at q;cases q
   have fsm:cp F1 (upd F1 a (.lst vs)):=fun b u z=>by rw[aA (neF b u z)];exact z
   exact⟨upd F1 a (.lst vs),g.freeze (n a rfl) hh f hr,fsm,.lst aJ (q.mono fsm)⟩
section
variable{X:Cx}{rl:RlT}{a b e:Expr}{es:List Expr}{fa fb fc:TV}{fs:Gy}{pos p:Pos}
noncomputable def vC(x:Hy):TV:=fun _ Q=>Q (.d x)
theorem e8{x:Hy}(h:PE X e (tC v))(r:∀F,Rep X.K F v x):PV X rl e (vC x) :=
 ⟨_,h,fun R Qd Q q k=>k v (.d x) _ _ (Grow.refl R.sub R.reel) (r _) trivial q⟩
theorem ac{i:Int}{j pos}:PV X rl (.Constant (.int i) j pos) (vC (.int i)):=e8 iq fun _=>.int i
theorem eC{i:Bool}{j pos}:PV X rl (.Constant (.bool i) j pos) (vC (.bool i)):=e8 Aa fun _=>.bl i
theorem dC{j pos}:PV X rl (.Constant .none j pos) (vC .none):=e8 xE fun _=>.non
theorem aF{j pos}:PV X rl (.Constant (.str x) j pos) (vC (.str x)):=e8 dD fun _=>.str x
theorem gv{n:String}{pos:Pos}(hm:X.mg x=none)(hv:Kc x=some (.type n))(hg:Gl X x:=by rfl)(hn:x ≠ "__name__" := by decide)(hd:(x==("__debug__" : Str))=false:=by decide) :
 PV X rl (.Name x pos) (fun _ Q=>Q (.vv (.ty n))) :=
 ⟨_,uH (v:=.ty n) hg hm hv rfl hn hd,fun R Qd Q q k=>k (.ty n) (.vv (.ty n)) _ _ (Grow.refl R.sub R.reel) rfl trivial q⟩
theorem ut{pos:Pos}(hm:X.mg x=some u)(r:RelV v u)(h:∀F,Rep X.K F v d)(hg:Gl X x:=by rfl)(hd:(x==("__debug__" : Str))=false:=by decide):PV X rl (.Name x pos) (vC d) :=
 e8 (oq hg hm r hd) h
noncomputable def tZ(i:Nat):TV:=fun ρ Q=>∃w,ρ[i]?=some (some w)/\Q w.peek
theorem vn(i:Nat){pos:Pos}(hN:X.N[i]?=some x:=by rfl)(hv:Gv X.env.scope x:=by first|exact JM rfl|exact Jg (JM rfl)|exact Jg (Jg rfl))(hd:(x==("__debug__" : Str))=false:=by decide)
 (hcd:(x==("__classdict__" : Str))=false:=by decide):PV X rl (.Name x pos) (tZ i) :=
 ⟨_,dW hN hv hd hcd,fun R Qd Q ⟨w,e,q⟩ k=>by
  obtain⟨v,e1,r,_⟩:=R.sl i w e
  refine⟨v,e1,k v w.peek _ _ (Grow.refl R.sub R.reel) r.peek ?_ q⟩
  cases w<;>trivial⟩
noncomputable def sE:Gy:=fun _ Q=>Q []
noncomputable def ju(f:TV)(fs:Gy):Gy:=fun ρ Q=>f ρ fun w=>fs ρ fun ws=>Q (w.fz::ws)
theorem ab:GP X rl [] sE:=⟨_,ox,fun R Qd Q q k=>k [] [] _ _ (Grow.refl R.sub R.reel) .nil q⟩
theorem aa(h1:PV X rl e fa)(h2:GP X rl es fs)(hs:HL (e::es) X.env=(false,eval e X.env)::HL es X.env:=by rfl):GP X rl (e::es) (ju fa fs):=by
 obtain⟨t,p1,k1⟩:=h1
 obtain⟨ts,p2,k2⟩:=h2
 refine⟨_,gz p1 p2 hs,fun R Qd Q q k=>?_⟩
 refine k1 R _ _ q fun v w F1 H1 g1 r1 n1 q1=>?_
 obtain⟨F2,g2,s2,r2⟩:=eP.fz g1 r1 n1
 refine k2 (R.grow g2) _ _ q1 fun vs ws F3 H3 g3 r3 q3=>?_
 exact k (v::vs) (w.fz::ws) F3 H3 (g2.trans g3) (.cons (r2.grow g3) r3) q3
noncomputable def Gw(X:Cx)(rl:RlT)(r:R2)(g:W->W->(W->Prop)->Prop):Prop:=∀{F H:Hp}{x y:V}{wx wy:W}(Qd:W->Prop)(Q:VK),cp F H->GN rl F H->eP X.K rl F H x wx->eP X.K rl F H y wy->g wx wy Qd ->
 (∀v w F' H',Grow rl F H F' H'->eP X.K rl F' H' v w->fM H v w->Qd w->Q v H')->r x y H Q
noncomputable def D3(g:W->W->(W->Prop)->Prop)(fa fb:TV):TV:=fun ρ Q=>fa ρ fun x=>fb ρ fun y=>g x y Q
theorem mW{r:R2}{g:W->W->(W->Prop)->Prop}(vo:Gw X rl r g)(ha:PV X rl a fa)(hb:PV X rl b fb){e:Expr}(hp:∀ta tb,PE X a ta->PE X b tb->PE X e (El r ta tb)):PV X rl e (D3 g fa fb):=by
 obtain⟨ta,p1,k1⟩:=ha
 obtain⟨tb,p2,k2⟩:=hb
 refine⟨_,hp ta tb p1 p2,fun R Qd Q q k=>?_⟩
 refine k1 R _ _ q fun v w F1 H1 g1 r1 n1 q1=>?_
 refine k2 (R.grow g1) _ _ q1 fun v2 w2 F2 H2 g2 r2 n2 q2=>?_
 exact vo Qd Q g2.sub g2.reel (r1.grow g2) r2 q2 fun v3 w3 F3 H3 g3 r3 n3 q3=>k v3 w3 F3 H3 ((g1.trans g2).trans g3) r3 (by
  cases w3 with
  | ml xs=>exact fun a ea=>g1.freeB (g2.freeB (n3 a ea))
  | md xs=>exact fun a ea=>g1.freeB (g2.freeB (n3 a ea))
  | mk xs=>exact fun a ea=>g1.freeB (g2.freeB (n3 a ea))
  | nt _=>trivial
  | lk=>trivial
  | sc _=>trivial
  | fd _=>trivial
  | fw _=>trivial
  | ft _=>trivial
  | xc _ _=>trivial
  | dp _ _=>trivial
  | d _=>trivial
  | pk _=>trivial
  | reel=>trivial
  | vv _=>trivial) q3
theorem hE{op:Operator}{r:R2}{g:W->W->(W->Prop)->Prop}(ho:G1 X (Ke op) r)(vo:Gw X rl r g)(ha:PV X rl a fa)(hb:PV X rl b fb):PV X rl (.BinOp a op b pos) (D3 g fa fb) :=
 mW vo ha hb fun _ _ p1 p2=>z_ ho p1 p2
noncomputable def gI(C:Int->Int->Prop)(g:Int->Int->Hy):W->W->(W->Prop)->Prop:=fun x y Q=>∃i j,x = .d (.int i)/\y = .d (.int j)/\C i j/\Q (.d (g i j))
theorem bC{K:W.Frag}{i:Int}(h:Rep K F v (.int i)):v = .int i:=by cases h;rfl
theorem iK{C:Int->Int->Prop}{g:Int->Int->V}{gd:Int->Int->Hy}(h:∀K F i j,Rep K F (g i j) (gd i j)):Gw X rl (rI C g) (gI C gd):=fun{F H x y wx wy} Qd Q s ra r1 r2 q k=>by
 obtain⟨i,j,rfl,rfl,c,q⟩:=q
 exact⟨i,j,bC r1,bC r2,c,k _ (.d _) _ _ (Grow.refl s ra) (h _ _ i j) trivial q⟩
noncomputable def FV(g:Int->Int->Hy):W->W->(W->Prop)->Prop:=fun x y Q=>∃i j,x = .d (.int i)/\y = .d (.int j)/\Q (.d (g i j))
theorem eg{g:Int->Int->V}{gd:Int->Int->Hy}(h:∀K F i j,Rep K F (g i j) (gd i j)):Gw X rl (EJ g) (FV gd):=fun{F H x y wx wy} Qd Q s ra r1 r2 q k=>by
 obtain⟨i,j,rfl,rfl,q⟩:=q
 exact⟨i,j,bC r1,bC r2,k _ (.d _) _ _ (Grow.refl s ra) (h _ _ i j) trivial q⟩
theorem v_add(ha:PV X rl a fa)(hb:PV X rl b fb):PV X rl (.BinOp a .Add b pos) (D3 (FV fun i j=>.int (i+j)) fa fb):=hE xQ (eg fun _ _ _ _=>.int _) ha hb
theorem v_sub(ha:PV X rl a fa)(hb:PV X rl b fb):PV X rl (.BinOp a .Sub b pos) (D3 (FV fun i j=>.int (i-j)) fa fb):=hE xK (eg fun _ _ _ _=>.int _) ha hb
noncomputable def Ht(i:Int):Prop:=i.natAbs<2^60000
theorem Ht.bits{i:Int}(h:Ht i):Builtin.Int.intBits i<=60000:=Mr.mpr h
noncomputable def bV(i j:Int):Prop:=i.natAbs<2^64\/j.natAbs<2^64\/(Ht i/\Ht j)
theorem bV.lt{i j:Int}(h:i.natAbs<2^64):bV i j:=.inl h
theorem bV.rt{i j:Int}(h:j.natAbs<2^64):bV i j:=.inr (.inl h)
theorem bV.bb{i j:Int}(h:Ht i)(h':Ht j):bV i j:=.inr (.inr ⟨h,h'⟩)
theorem bV.ok{i j:Int}(h:bV i j):IntMulOk i j:=by
 rcases h with h|h|h
 · exact .of_left (Mr.mpr h)
 · exact .of_right (Mr.mpr h)
 · exact IntMulOk.of_le h.1.bits h.2.bits (by decide)
theorem uK:G1 X (Ke .Mult) (rI bV fun i j=>.int (i*j)):=EY fun _ _ _ _ _ _ _ hc q=>mul_int q hc.ok
theorem v_mul(ha:PV X rl a fa)(hb:PV X rl b fb):PV X rl (.BinOp a .Mult b pos) (D3 (gI bV fun i j=>.int (i*j)) fa fb):=hE uK (iK fun _ _ _ _=>.int _) ha hb
noncomputable def hX(_ j:Int):Prop:=j≠0/\j.natAbs<2^9000
theorem qV:G1 X (Ke .FloorDiv) (rI hX fun i j=>.int (i.fdiv j)):=EY fun _ j _ _ _ _ _ hc q=>floordiv_int hc.1 q (.inl (PyProof.noPylong_of_log2 ((Nat.log2_lt (by have:=hc.1;omega)).mpr hc.2)))
theorem v_div(ha:PV X rl a fa)(hb:PV X rl b fb):PV X rl (.BinOp a .FloorDiv b pos) (D3 (gI hX fun i j=>.int (i.fdiv j)) fa fb):=hE qV (iK fun _ _ _ _=>.int _) ha hb
theorem v_mod(ha:PV X rl a fa)(hb:PV X rl b fb):PV X rl (.BinOp a .Mod b pos) (D3 (gI (fun _ j=>j≠0) fun i j=>.int (i.fmod j)) fa fb):=hE uL (iK fun _ _ _ _=>.int _) ha hb
theorem v_pow(ha:PV X rl a fa)(hb:PV X rl b fb):PV X rl (.BinOp a .Pow b pos) (D3 (gI zd fun i j=>.int (i^j.toNat)) fa fb):=hE xM (iK fun _ _ _ _=>.int _) ha hb
noncomputable def zt(fa:TV):TV:=fun ρ Q=>fa ρ fun x=>∃i,x = .d (.int i)/\Q (.d (.int (-i)))
theorem gW(ha:PV X rl a fa):PV X rl (.UnaryOp .USub a pos) (zt fa):=by
 obtain⟨ta,p1,k1⟩:=ha
 refine⟨_,zZ wA p1,fun R Qd Q q k=>k1 R _ _ q fun v w F1 H1 g1 r1 n1 ⟨i,ew,q1⟩=>?_⟩
 subst ew
 exact⟨i,bC r1,k _ (.d _) F1 H1 g1 (.int _) trivial q1⟩
theorem cW{r:R2}{g:W->W->(W->Prop)->Prop}(ho:G1 X (Js op) r)(vo:Gw X rl r g)(hm:KP op b=false)(ha:PV X rl a fa)(hb:PV X rl b fb):PV X rl (.Compare a [op] [b] pos) (D3 g fa fb) :=
 mW vo ha hb fun _ _ p1 p2=>uG ho p1 p2 hm
noncomputable def qz(f:TV):TB:=fun ρ Q=>f ρ fun w=>∃k,w = .d (.bool k)/\Q k
theorem eK{K:W.Frag}{i:Bool}(h:Rep K F v (.bool i)):v = .bl i:=by cases h;rfl
theorem az{r:R2}{g:W->W->(W->Prop)->Prop}(ho:G1 X (Js op) r)(vo:Gw X rl r g)(hm:KP op b=false)(ha:PV X rl a fa)(hb:PV X rl b fb):PB X rl (.Compare a [op] [b] pos) (qz (D3 g fa fb)):=by
 obtain⟨ta,p1,k1⟩:=ha
 obtain⟨tb,p2,k2⟩:=hb
 refine⟨_,uw ho p1 p2 hm,fun R Qd Q q k=>?_⟩
 refine k1 R _ _ q fun v w F1 H1 g1 r1 n1 q1=>?_
 refine k2 (R.grow g1) _ _ q1 fun v2 w2 F2 H2 g2 r2 n2 q2=>?_
 refine vo _ _ g2.sub g2.reel (r1.grow g2) r2 q2 fun v3 w3 F3 H3 g3 r3 n3 ⟨kb,ew,q3⟩=>?_
 subst ew
 exact⟨kb,eK r3,k kb F3 H3 ((g1.trans g2).trans g3) q3⟩
theorem bZ(ha:PV X rl e fa)(he:∀whole,isTrue e X.env whole=(do let v <- whole;standAt e.pos;holding [v] (truthy v)):=by intro _;rfl):PB X rl e (qz fa):=by
 obtain⟨ta,p1,k1⟩:=ha
 refine⟨_,xt p1 he,fun R Qd Q q k=>k1 R _ _ q fun v w F1 H1 g1 r1 n1 ⟨kb,ew,q1⟩=>?_⟩
 subst ew
 exact⟨kb,eK r1,k kb F1 H1 g1 q1⟩
abbrev yZ(p:Int->Int->Bool):=FV fun i j=>.bool (p i j)
theorem dY:Gw X rl (EJ fun i j=>.bl (decide (i<j))) (yZ fun i j=>decide (i<j)):=eg fun _ _ _ _=>.bl _
theorem tQ:Gw X rl (EJ fun i j=>.bl (decide (i<=j))) (yZ fun i j=>decide (i<=j)):=eg fun _ _ _ _=>.bl _
theorem iM:Gw X rl (EJ fun i j=>.bl (decide (j<i))) (yZ fun i j=>decide (j<i)):=eg fun _ _ _ _=>.bl _
theorem zi:Gw X rl (EJ fun i j=>.bl (decide (j<=i))) (yZ fun i j=>decide (j<=i)):=eg fun _ _ _ _=>.bl _
noncomputable def zQ(K:W.Frag)(neg:Bool):R2:=fun x y H Q=>∃dx dy,Rep K H x dx/\Rep K H y dy/\HI dx=true/\HI dy=true/\Q (.bl (if neg then !HC dx dy else HC dx dy)) H
theorem bM(hu:X.A.units+64<MI):G1 X (Js .Eq) (zQ X.K false):=by
 intro pins s σ H x y v u Q I rx ry ⟨dx,dy,h1,h2,s1,s2,q⟩
 obtain⟨as,a1⟩:=Rep.reads I (.refl H) h1 v rx
 obtain⟨bs,a2⟩:=Rep.reads I (.refl H) h2 u ry
 exact SeqAt.compareEq_shaped a1 a2 s1 s2 hu ⟨.bl _,H,I,rfl,q⟩
theorem eN(hu:X.A.units+64<MI):G1 X (Js .NotEq) (zQ X.K true):=by
 intro pins s σ H x y v u Q I rx ry ⟨dx,dy,h1,h2,s1,s2,q⟩
 obtain⟨as,a1⟩:=Rep.reads I (.refl H) h1 v rx
 obtain⟨bs,a2⟩:=Rep.reads I (.refl H) h2 u ry
 exact SeqAt.compareNe_shaped a1 a2 s1 s2 hu ⟨.bl _,H,I,rfl,q⟩
noncomputable def Ax(neg:Bool):W->W->(W->Prop)->Prop:=fun x y Q=>∃dx dy,x.dat=some dx/\y.dat=some dy/\HI dx=true/\HI dy=true/\Q (.d (.bool (if neg then !HC dx dy else HC dx dy)))
theorem aZ{neg:Bool}:Gw X rl (zQ X.K neg) (Ax neg):=fun{F H x y wx wy} Qd Q s ra r1 r2 q k=>by
 obtain⟨dx,dy,e1,e2,s1,s2,q⟩:=q
 exact⟨dx,dy,r1.dat s e1,r2.dat s e2,s1,s2,k _ (.d _) _ _ (Grow.refl s ra) (.bl _) trivial q⟩
noncomputable def zP(K:W.Frag)(neg:Bool):R2:=fun x y H Q=>∃dx ys,Rep K H x dx/\(Rep K H y (.list ys)\/Rep K H y (.tuple ys))/\HI dx=true/\Ih ys=true/\Q (.bl (if neg then !(ys.any fun z=>HC z dx)else ys.any fun z=>HC z dx)) H
theorem je{ys:List Hy}(hu:A.units+65<MI)(h:HI d=true):A.units+1+min (IE ys) d.depth<MI:=by
 have h1:=SeqAt.depth_of_shaped h
 have h2:min (IE ys) d.depth<=d.depth:=Nat.min_le_right _ _
 omega
theorem oF(hu:X.A.units+65<MI):G1 X (Js .In) (zP X.K false):=by
 intro pins s σ H x y v u Q I rx ry ⟨dx,ys,h1,h2,s1,s2,q⟩
 obtain⟨as,a1⟩:=Rep.reads I (.refl H) h1 v rx
 rcases h2 with h2|h2
 · obtain⟨bs,a2⟩:=Rep.reads I (.refl H) h2 u ry
   exact SeqAt.in_list_reads a2 a1 s2 (Kk s1) (je hu s1) ⟨.bl _,H,I,rfl,q⟩
 · obtain⟨bs,a2⟩:=Rep.reads I (.refl H) h2 u ry
   exact SeqAt.in_tuple_reads a2 a1 s2 (Kk s1) (je hu s1) ⟨.bl _,H,I,rfl,q⟩
theorem oC(hu:X.A.units+65<MI):G1 X (Js .NotIn) (zP X.K true):=by
 intro pins s σ H x y v u Q I rx ry ⟨dx,ys,h1,h2,s1,s2,q⟩
 obtain⟨as,a1⟩:=Rep.reads I (.refl H) h1 v rx
 rcases h2 with h2|h2
 · obtain⟨bs,a2⟩:=Rep.reads I (.refl H) h2 u ry
   exact SeqAt.notIn_list_reads a2 a1 s2 (Kk s1) (je hu s1) ⟨.bl _,H,I,rfl,q⟩
 · obtain⟨bs,a2⟩:=Rep.reads I (.refl H) h2 u ry
   exact SeqAt.notIn_tuple_reads a2 a1 s2 (Kk s1) (je hu s1) ⟨.bl _,H,I,rfl,q⟩
noncomputable def Aw(neg:Bool):W->W->(W->Prop)->Prop:=fun x y Q=>∃dx ys,x.dat=some dx/\(y.dat=some (.list ys)\/y.dat=some (.tuple ys))/\HI dx=true/\Ih ys=true/\Q (.d (.bool (if neg then !(ys.any fun z=>HC z dx)else ys.any fun z=>HC z dx)))
theorem lz{neg:Bool}:Gw X rl (zP X.K neg) (Aw neg):=fun{F H x y wx wy} Qd Q s ra r1 r2 q k=>by
 obtain⟨dx,ys,e1,e2,s1,s2,q⟩:=q
 exact⟨dx,ys,r1.dat s e1,e2.imp (fun e=>r2.dat s e) (fun e=>r2.dat s e),s1,s2,k _ (.d _) _ _ (Grow.refl s ra) (.bl _) trivial q⟩
noncomputable def zx(f g:TB):TB:=fun ρ Q=>f ρ fun b=>if b=true then g ρ Q else Q false
noncomputable def D2(f g:TB):TB:=fun ρ Q=>f ρ fun b=>if b=true then Q true else g ρ Q
noncomputable def Ca(f:TB):TB:=fun ρ Q=>f ρ fun b=>Q (!b)
noncomputable def G0(X:Cx)(rl:RlT)(e:Expr)(f:TB):Prop:=∃t,PW X e t/\∀{F₀ H₀ F H:Hp}{σ:St}{ρ:En},VR X.K rl F₀ H₀ F H σ ρ->∀(Qd:Bool->Prop)(Q:Bool->Hp->Prop),f ρ Qd ->
 (∀b F' H',Grow rl F H F' H'->Qd b->Q b H')->t σ H Q
variable{f g:TB}{rest:List Expr}
theorem G0.pb(h:G0 X rl e f):PB X rl e f:=let ⟨t,p,k⟩:=h;⟨t,p.pt,k⟩
theorem df(ha:PB X rl a f):G0 X rl (.BoolOp .And [a] pos) f:=let ⟨t,p,k⟩:=ha;⟨t,ur p,k⟩
theorem eV(ha:PB X rl a f):G0 X rl (.BoolOp .Or [a] pos) f:=let ⟨t,p,k⟩:=ha;⟨t,xq p,k⟩
theorem d7(ha:PB X rl a f)(hb:G0 X rl (.BoolOp .And (b::rest) pos) g):G0 X rl (.BoolOp .And (a::b::rest) pos) (zx f g):=by
 obtain⟨t,p,k⟩:=ha
 obtain⟨t2,p2,k2⟩:=hb
 refine⟨_,xr p p2,fun R Qd Q q h=>k R _ _ q fun c F1 H1 g1 q1=>?_⟩
 cases c with
 | true=>exact k2 (R.grow g1) _ _ q1 fun c F2 H2 g2 q2=>h c F2 H2 (g1.trans g2) q2
 | false=>exact h false F1 H1 g1 q1
theorem fT(ha:PB X rl a f)(hb:G0 X rl (.BoolOp .Or (b::rest) pos) g):G0 X rl (.BoolOp .Or (a::b::rest) pos) (D2 f g):=by
 obtain⟨t,p,k⟩:=ha
 obtain⟨t2,p2,k2⟩:=hb
 refine⟨_,zT p p2,fun R Qd Q q h=>k R _ _ q fun c F1 H1 g1 q1=>?_⟩
 cases c with
 | true=>exact h true F1 H1 g1 q1
 | false=>exact k2 (R.grow g1) _ _ q1 fun c F2 H2 g2 q2=>h c F2 H2 (g1.trans g2) q2
theorem dB(ha:PB X rl a f):PB X rl (.UnaryOp .Not a pos) (Ca f):=by
 obtain⟨t,p,k⟩:=ha
 exact⟨_,xu p,fun R Qd Q q h=>k R _ _ q fun c F1 H1 g1 q1=>h (!c) F1 H1 g1 q1⟩
noncomputable def t_(fa fb:TV):TV:=fun ρ Q=>fa ρ fun w=>∃c,w = .d (.bool c)/\if c=true then fb ρ Q else Q (.d (.bool false))
noncomputable def zr(fa fb:TV):TV:=fun ρ Q=>fa ρ fun w=>∃c,w = .d (.bool c)/\if c=true then Q (.d (.bool true))else fb ρ Q
noncomputable def t9(fa:TV):TV:=fun ρ Q=>fa ρ fun w=>∃c,w = .d (.bool c)/\Q (.d (.bool (!c)))
theorem fM.back{rl:RlT}{w:W}(g:Grow rl F H F' H')(n:fM H' v w):fM H v w:=by
 cases w with
 | ml xs=>exact fun a ea=>g.freeB (n a ea)
 | md xs=>exact fun a ea=>g.freeB (n a ea)
 | mk xs=>exact fun a ea=>g.freeB (n a ea)
 | nt _=>trivial
 | lk=>trivial
 | sc _=>trivial
 | fd _=>trivial
 | fw _=>trivial
 | ft _=>trivial
 | xc _ _=>trivial
 | dp _ _=>trivial
 | d _=>trivial
 | pk _=>trivial
 | reel=>trivial
 | vv _=>trivial
theorem iQ{op}(ha:PV X rl a fa):PV X rl (.BoolOp op [a] pos) fa:=let ⟨t,p,k⟩:=ha;⟨t,xC p,k⟩
theorem v_and(ha:PV X rl a fa)(hb:PV X rl (.BoolOp .And (b::rest) pos) fb):PV X rl (.BoolOp .And (a::b::rest) pos) (t_ fa fb):=by
 obtain⟨t,p,k⟩:=ha
 obtain⟨t2,p2,k2⟩:=hb
 refine⟨_,xH p p2,fun R Qd Q q h=>k R _ _ q fun v w F1 H1 g1 r1 n1 ⟨c,ew,q1⟩=>?_⟩
 subst ew
 refine⟨c,eK r1,?_⟩
 cases c with
 | true=>exact k2 (R.grow g1) _ _ q1 fun v w F2 H2 g2 r2 n2 q2=>h v w F2 H2 (g1.trans g2) r2 (n2.back g1) q2
 | false=>exact h _ (.d _) F1 H1 g1 (.bl false) trivial q1
theorem v_or(ha:PV X rl a fa)(hb:PV X rl (.BoolOp .Or (b::rest) pos) fb):PV X rl (.BoolOp .Or (a::b::rest) pos) (zr fa fb):=by
 obtain⟨t,p,k⟩:=ha
 obtain⟨t2,p2,k2⟩:=hb
 refine⟨_,z9 p p2,fun R Qd Q q h=>k R _ _ q fun v w F1 H1 g1 r1 n1 ⟨c,ew,q1⟩=>?_⟩
 subst ew
 refine⟨c,eK r1,?_⟩
 cases c with
 | false=>exact k2 (R.grow g1) _ _ q1 fun v w F2 H2 g2 r2 n2 q2=>h v w F2 H2 (g1.trans g2) r2 (n2.back g1) q2
 | true=>exact h _ (.d _) F1 H1 g1 (.bl true) trivial q1
theorem v_not(ha:PV X rl a fa):PV X rl (.UnaryOp .Not a pos) (t9 fa):=by
 obtain⟨t,p,k⟩:=ha
 refine⟨_,xD p,fun R Qd Q q h=>k R _ _ q fun v w F1 H1 g1 r1 n1 ⟨c,ew,q1⟩=>?_⟩
 subst ew
 exact⟨c,eK r1,h _ (.d _) F1 H1 g1 (.bl _) trivial q1⟩
noncomputable def D4(t:TB)(fa fb:TV):TV:=fun ρ Q=>t ρ fun c=>if c=true then fa ρ Q else fb ρ Q
theorem cj{c:Expr}(hc:PB X rl c f)(ha:PV X rl a fa)(hb:PV X rl b fb):PV X rl (.IfExp c a b pos) (D4 f fa fb):=by
 obtain⟨t,p,k⟩:=hc
 obtain⟨t1,p1,k1⟩:=ha
 obtain⟨t2,p2,k2⟩:=hb
 refine⟨_,qS p p1 p2,fun R Qd Q q h=>k R _ _ q fun c F1 H1 g1 q1=>?_⟩
 cases c with
 | true=>exact k1 (R.grow g1) _ _ q1 fun v w F2 H2 g2 r2 n2 q2=>h v w F2 H2 (g1.trans g2) r2 (n2.back g1) q2
 | false=>exact k2 (R.grow g1) _ _ q1 fun v w F2 H2 g2 r2 n2 q2=>h v w F2 H2 (g1.trans g2) r2 (n2.back g1) q2
noncomputable def jp:List W->Option (List Hy)
 | []=>some []
 | .d x::r=>(jp r).map (x :: ·)
 | _::_=>none
theorem eA{K:W.Frag}{F H:Hp}:∀{vs:List V}{ws:List W}{ds:List Hy},gU K rl F H vs ws->jp ws=some ds->Reps K F vs ds
 | _,_,_,.nil,e=>by cases e;exact .nil
 | _,.d x::ws,ds,.cons r rs,e=>by
   have e:(jp ws).map (x :: ·)=some ds:=e
   cases q:jp ws with
   | none=>rw[q]at e;cases e
   | some es=>rw[q]at e;cases e;exact .cons r (eA rs q)
 | _,.ml x::ws,ds,.cons r rs,e=>by cases(show none=some ds from e)
 | _,.pk x::ws,ds,.cons r rs,e=>by cases(show none=some ds from e)
 | _,.reel::ws,ds,.cons r rs,e=>by cases(show none=some ds from e)
 | _,.vv u::ws,ds,.cons r rs,e=>by cases(show none=some ds from e)
 | _,.md u::ws,ds,.cons r rs,e=>by cases(show none=some ds from e)
 | _,.nt u::ws,ds,.cons r rs,e=>by cases(show none=some ds from e)
 | _,.lk::ws,ds,.cons r rs,e=>by cases(show none=some ds from e)
 | _,.sc _::ws,ds,.cons r rs,e=>by cases(show none=some ds from e)
 | _,.fd _::ws,ds,.cons r rs,e=>by cases(show none=some ds from e)
 | _,.xc _ _::ws,ds,.cons r rs,e=>by cases(show none=some ds from e)
 | _,.mk _::ws,ds,.cons r rs,e=>by cases(show none=some ds from e)
 | _,.fw _::ws,ds,.cons r rs,e=>by cases(show none=some ds from e)
 | _,.ft _::ws,ds,.cons r rs,e=>by cases(show none=some ds from e)
 | _,.dp _ _::ws,ds,.cons r rs,e=>by cases(show none=some ds from e)
noncomputable def zm(fs:Gy):TV:=fun ρ Q=>fs ρ fun ws=>∃ds,jp ws=some ds/\ds.length<=sizeLine/\Q (.d (.tuple ds))
noncomputable def yL(fs:Gy):TV:=fun ρ Q=>fs ρ fun ws=>∃ds,jp ws=some ds/\ds.length<=sizeLine/\Q (.ml ds)
theorem aP{x1}(h:GP X rl es fs):PV X rl (.Tuple es x1 pos) (zm fs):=by
 obtain⟨t,p,k⟩:=h
 refine⟨_,xA p,fun R Qd Q q h=>k R _ _ q fun vs ws F1 H1 g1 r1 ⟨ds,e1,z,q1⟩=>?_⟩
 have rs:=eA r1 e1
 refine⟨by rw[rs.length];exact z,fun p hp=>?_⟩
 have g2:=g1.trans (Grow.data (a:=p) (o:=.tup vs) g1.sub g1.reel hp)
 exact h _ (.d (.tuple ds)) _ _ g2 (.tup (.inl (.inl aJ)) (rs.mono (Grow.data (o:=.tup vs) g1.sub g1.reel hp).fs)) trivial q1
theorem dP{K:W.Frag}{p:Addr}{ds:List Hy}(s:cp F H)(ra:GN rl F H)(hp:H p=none)(rs:Reps K F vs ds):jn K rl F (upd H p (.lst vs)) (.ref p) ds:=by
 refine⟨p,vs,rfl,s.free hp,fun e=>?_,aJ,rs⟩
 obtain⟨o,q⟩:=ra.live e
 rw[hp]at q
 cases q
theorem cH(h:GP X rl es fs):PV X rl (.List es pos) (yL fs):=by
 obtain⟨t,p,k⟩:=h
 refine⟨_,xF p,fun R Qd Q q h=>k R _ _ q fun vs ws F1 H1 g1 r1 ⟨ds,e1,z,q1⟩=>?_⟩
 have rs:=eA r1 e1
 refine⟨by rw[rs.length];exact z,fun p hp=>?_⟩
 exact h _ (.ml ds) _ _ (g1.trans (Grow.laid (a:=p) (o:=.lst vs) g1.sub g1.reel hp)) (dP g1.sub g1.reel hp rs) (fun a ea=>by cases ea;exact g1.freeB hp) q1
noncomputable def itemAt:Hy->Int->Option Hy
 | .list xs,i=>atI xs i
 | .tuple xs,i=>atI xs i
 | _,_=>none
theorem Reps.atI{K:W.Frag}{F:Hp}{vs:List V}{ds:List Hy}{i:Int}{d:Hy}(r:Reps K F vs ds)(e:L2.atI ds i=some d):∃v,L2.atI vs i=some v/\Rep K F v d:=by
 unfold L2.atI at e ⊢
 rw[r.length]
 cases q:ixN ds.length i with
 | none=>rw[q]at e;cases e
 | some j =>
   rw[q]at e
   exact r.get e
noncomputable def FT:W->W->(W->Prop)->Prop:=fun x y Q=>∃dx i z,x.dat=some dx/\y = .d (.int i)/\itemAt dx i=some z/\Q (.d z)
theorem zg:Gw X rl (EI X.K) FT:=fun{F H x y wx wy} Qd Q s ra r1 r2 q k=>by
 obtain⟨dx,i,z,e1,rfl,e3,q⟩:=q
 have ey:=bC r2
 subst ey
 cases dx with
 | list xs =>
   obtain⟨a,vs,rfl,sq,rs⟩:=r1.items s e1
   obtain⟨v,e4,rz⟩:=Reps.atI rs e3
   exact .inl ⟨a,vs,i,v,rfl,rfl,sq,e4,k _ (.d _) _ _ (Grow.refl s ra) rz trivial q⟩
 | tuple xs =>
   obtain⟨a,vs,rfl,sq,rs⟩:=r1.itemsT s e1
   obtain⟨v,e4,rz⟩:=Reps.atI rs e3
   exact .inr (.inl ⟨a,vs,i,v,rfl,rfl,sq,e4,k _ (.d _) _ _ (Grow.refl s ra) rz trivial q⟩)
 | none=>cases e3
 | bool b=>cases e3
 | int b=>cases e3
 | str b=>cases e3
 | dict b=>cases e3
theorem aL(ha:PV X rl a fa)(hb:PV X rl b fb)(hs:jm b:=by exact fun _ _=>rfl):PV X rl (.Subscript a b pos) (D3 FT fa fb):=mW zg ha hb fun _ _ p1 p2=>uF o0 p1 p2 hs
noncomputable def fL(X:Cx)(rl:RlT)(r:List V->Hp->VK->Prop)(g:List W->(W->Prop)->Prop):Prop:=∀{F H:Hp}{vs:List V}{ws:List W}(Qd:W->Prop)(Q:VK),cp F H->GN rl F H->gU X.K rl F H vs ws->g ws Qd ->
 (∀v w F' H',Grow rl F H F' H'->eP X.K rl F' H' v w->fM H v w->Qd w->Q v H')->r vs H Q
noncomputable def eB(g:List W->(W->Prop)->Prop)(fs:Gy):TV:=fun ρ Q=>fs ρ fun ws=>g ws Q
theorem lA{r:List V->Hp->VK->Prop}{g:List W->(W->Prop)->Prop}{t:TA->TE}(vc:fL X rl r g)(ha:GP X rl es fs){e:Expr}(hp:∀ta,PA X es ta->PE X e (Eo r ta)):PV X rl e (eB g fs):=by
 obtain⟨ta,p1,k1⟩:=ha
 refine⟨_,hp ta p1,fun R Qd Q q k=>k1 R _ _ q fun vs ws F1 H1 g1 r1 q1=>?_⟩
 exact vc Qd Q g1.sub g1.reel r1 q1 fun v w F2 H2 g2 r2 n2 q2=>k v w F2 H2 (g1.trans g2) r2 (n2.back g1) q2
theorem dI{id:String}{r:List V->Hp->VK->Prop}{g:List W->(W->Prop)->Prop}(hc:eE X (.builtin id) r)(vc:fL X rl r g)(hm:X.mg x=none)(hv:Kc x=some (.builtin id))(ha:GP X rl (e::es) fs)(hg:Gl X x:=by rfl)(hn:x ≠ "__name__" := by decide)(hdb:(x==("__debug__" : Str))=false:=by decide)
 (he:HL (e::es) X.env=(false,eval e X.env)::HL es X.env:=by rfl)(hpl:(Jv pos (HL es X.env)).any (·.1)=false:=by rfl):PV X rl (.Call (.Name x p) (e::es) [] pos) (eB g fs) :=
 lA (t:=fun _=>tC .non) vc ha fun _ p1=>qU hc hg hm hv p1 hn hdb he hpl
theorem iR{T:String}{r:List V->Hp->VK->Prop}{g:List W->(W->Prop)->Prop}(hc:eE X (.type T) r)(vc:fL X rl r g)(hm:X.mg x=none)(hv:Kc x=some (.type T))(ha:GP X rl (e::es) fs)(hg:Gl X x:=by rfl)(hn:x ≠ "__name__" := by decide)(hdb:(x==("__debug__" : Str))=false:=by decide)
 (he:HL (e::es) X.env=(false,eval e X.env)::HL es X.env:=by rfl)(hpl:(Jv pos (HL es X.env)).any (·.1)=false:=by rfl):PV X rl (.Call (.Name x p) (e::es) [] pos) (eB g fs) :=
 lA (t:=fun _=>tC .non) vc ha fun _ p1=>ot hc hg hm hv p1 hn hdb he hpl
theorem nV{K:W.Frag}{w:W}(r:gU K rl F H vs [w]):∃v,vs=[v]/\eP K rl F H v w:=by
 cases r with
 | cons r1 r2=>cases r2;exact⟨_,rfl,r1⟩
theorem zN{K:W.Frag}{w w':W}(r:gU K rl F H vs [w,w']):∃v u,vs=[v,u]/\eP K rl F H v w/\eP K rl F H u w':=by
 cases r with
 | cons r1 r2 =>
   cases r2 with
   | cons r3 r4=>cases r4;exact⟨_,_,rfl,r1,r3⟩
noncomputable def y8:List W->(W->Prop)->Prop:=fun ws Q=>∃i,ws=[.d (.int i)]/\Q (.d (.int (if i<0 then -i else i)))
theorem wd:fL X rl (fun xs H Q=>∃i,xs=[.int i]/\Q (.int (if i<0 then -i else i)) H) y8:=fun{F H vs ws} Qd Q s ra r ⟨i,ew,q⟩ k=>by
 subst ew
 obtain⟨v,rfl,r1⟩:=nV r
 have e:=bC r1
 subst e
 exact⟨i,rfl,k _ (.d _) _ _ (Grow.refl s ra) (.int _) trivial q⟩
noncomputable def mT:Hy->Option Nat
 | .list xs=>some xs.length
 | .tuple xs=>some xs.length
 | _=>none
noncomputable def yU:List W->(W->Prop)->Prop:=fun ws Q=>∃w d n,ws=[w]/\w.dat=some d/\mT d=some n/\Q (.d (.int n))
theorem wa:fL X rl (fun xs H Q=>∃p ys,xs=[.ref p]/\(GF X.K H p ys\/GE X.K H p ys)/\Q (.int ys.length) H) yU:=fun{F H vs ws} Qd Q s ra r ⟨w,d,n,ew,e1,e2,q⟩ k=>by
 subst ew
 obtain⟨v,rfl,r1⟩:=nV r
 cases d with
 | list xs =>
   obtain⟨a,vs,rfl,sq,rs⟩:=r1.items s e1
   cases e2
   exact⟨a,vs,rfl,.inl sq,k _ (.d _) _ _ (Grow.refl s ra) (by rw[rs.length];exact .int _) trivial q⟩
 | tuple xs =>
   obtain⟨a,vs,rfl,sq,rs⟩:=r1.itemsT s e1
   cases e2
   exact⟨a,vs,rfl,.inr sq,k _ (.d _) _ _ (Grow.refl s ra) (by rw[rs.length];exact .int _) trivial q⟩
 | none=>cases e2
 | bool b=>cases e2
 | int b=>cases e2
 | str b=>cases e2
 | dict b=>cases e2
end
structure VEnds where
 nx:En->Prop
 rt:W->Prop
 bk:En->Prop:=fun _=>False
 ct:En->Prop:=fun _=>False
structure EndsOk (K:W.Frag) (rl:RlT) (F₀ H₀ Fs:Hp) (Dv:VEnds) (D:Ends):Prop where
 nx:∀F H σ ρ,cp Fs F->VR K rl F₀ H₀ F H σ ρ->Dv.nx ρ->D.nx σ H
 rt:∀v w F H,Grow rl F₀ H₀ F H->eP K rl F H v w->fM H₀ v w->Dv.rt w->D.rt v H
 bk:∀F H σ ρ,cp Fs F->VR K rl F₀ H₀ F H σ ρ->Dv.bk ρ->D.bk σ H
 ct:∀F H σ ρ,cp Fs F->VR K rl F₀ H₀ F H σ ρ->Dv.ct ρ->D.ct σ H
theorem EndsOk.on{K:W.Frag}{rl:RlT}{Fs:Hp}{Dv:VEnds}{D:Ends}(ok:EndsOk K rl F₀ H₀ Fs Dv D)(s:cp Fs F):EndsOk K rl F₀ H₀ F Dv D :=
 ⟨fun F1 H σ ρ s1=>ok.nx F1 H σ ρ (s.trans s1),ok.rt,fun F1 H σ ρ s1=>ok.bk F1 H σ ρ (s.trans s1),fun F1 H σ ρ s1=>ok.ct F1 H σ ρ (s.trans s1)⟩
abbrev Gz:=VEnds->En->Prop
noncomputable def GT(X:Cx)(rl:RlT)(st:Stmt)(t:Gz):Prop:=∃T,PS X st T/\∀{F₀ H₀ F H:Hp}{σ:St}{ρ:En},VR X.K rl F₀ H₀ F H σ ρ->∀Dv D,EndsOk X.K rl F₀ H₀ F Dv D->t Dv ρ->T D σ H
noncomputable def lY(X:Cx)(rl:RlT)(st:List Stmt)(t:Gz):Prop:=∃T,GS X st T/\∀{F₀ H₀ F H:Hp}{σ:St}{ρ:En},VR X.K rl F₀ H₀ F H σ ρ->∀Dv D,EndsOk X.K rl F₀ H₀ F Dv D->t Dv ρ->T D σ H
section
variable{X:Cx}{rl:RlT}{st:Stmt}{rest body:List Stmt}{t u:Gz}{a b c e:Expr}{es:List Expr}{fa fb:TV}{fs:Gy}{f:TB}{pos p:Pos}
noncomputable def wt:Gz:=fun D ρ=>D.nx ρ
noncomputable def zq(t u:Gz):Gz:=fun D ρ=>t {D with nx:=u D} ρ
theorem aH:lY X rl [] wt:=⟨_,oh,fun R Dv D ok q=>ok.nx _ _ _ _ (.refl _) R q⟩
theorem aj(h:GT X rl st t):lY X rl [st] t:=let ⟨T,p,k⟩:=h;⟨T,og p,k⟩
theorem af(h:GT X rl st t)(h2:lY X rl rest u):lY X rl (st::rest) (zq t u):=by
 obtain⟨T,p,k⟩:=h
 obtain⟨T2,p2,k2⟩:=h2
 exact⟨_,ge p p2,fun R Dv D ok q=>k R {Dv with nx:=u Dv} {D with nx:=T2 D} ⟨fun F H σ ρ s' R' q'=>k2 R' Dv D (ok.on s') q',ok.rt,ok.bk,ok.ct⟩ q⟩
noncomputable def wz(fa:TV):Gz:=fun D ρ=>fa ρ fun _=>D.nx ρ
theorem mV(h:PV X rl e fa)(hs:JU e none pos.line X.env=pure false:=by rfl):GT X rl (.Expr e pos) (wz fa):=by
 obtain⟨t,p,k⟩:=h
 exact⟨_,kM p hs,fun R Dv D ok q=>k R _ _ q fun v w F1 H1 g1 r1 n1 q1=>ok.nx _ _ _ _ g1.fs (R.grow g1) q1⟩
noncomputable def B9(fa:TV):Gz:=fun D ρ=>fa ρ D.rt
theorem ar(h:PV X rl e fa):GT X rl (.Return (some e) pos) (B9 fa):=by
 obtain⟨t,p,k⟩:=h
 exact⟨_,sR p,fun R Dv D ok q=>k R _ _ q fun v w F1 H1 g1 r1 n1 q1=>ok.rt v w F1 H1 (R.g.trans g1) r1 (n1.back R.g) q1⟩
noncomputable def zu(f:TB)(t u:Gz):Gz:=fun D ρ=>f ρ fun b=>if b=true then t D ρ else u D ρ
theorem aU{A B:List Stmt}(hc:PB X rl c f)(ha:lY X rl A t)(hb:lY X rl B u):GT X rl (.If c A B pos) (zu f t u):=by
 obtain⟨t0,p0,k0⟩:=hc
 obtain⟨t1,p1,k1⟩:=ha
 obtain⟨t2,p2,k2⟩:=hb
 refine⟨_,zX p0 p1 p2,fun R Dv D ok q=>k0 R _ _ q fun b F1 H1 g1 q1=>?_⟩
 cases b with
 | true=>exact k1 (R.grow g1) Dv D (ok.on g1.fs) q1
 | false=>exact k2 (R.grow g1) Dv D (ok.on g1.fs) q1
theorem fX:GT X rl st (fun _ _=>False):=⟨_,qO,fun _ _ _ _ q=>q.elim⟩
noncomputable def W.isPk:W->Bool
 | .pk _=>true
 | _=>false
noncomputable def B8(i:Nat)(fa:TV):Gz:=fun D ρ=>fa ρ fun w=>w.isPk=false/\D.nx (ρ.set i (some w))
theorem sv(i:Nat){pos':Pos}(hN:X.N.Nodup)(he:PV X rl e fa)(hi:X.N[i]?=some x:=by rfl)(hx:Loc X.env.scope x:=by first|exact JM rfl|exact Jg rfl)
 (hs:JU e (some (.Name x pos')) pos.line X.env=pure false:=by rfl)(hf:X.fn x=true\/X.env.scope.names.lookup x=some .local:=by first|exact .inl rfl|exact .inr rfl) :
 GT X rl (.Assign [.Name x pos'] e pos) (B8 i fa):=by
 obtain⟨t,p,k⟩:=he
 refine⟨_,jS hN hi hx p hs hf,fun R Dv D ok q=>k R _ _ q fun v w F1 H1 g1 r1 n1 ⟨hp,q1⟩=>?_⟩
 exact ok.nx _ _ _ _ g1.fs (R.set g1 r1 n1 (fun xs z=>by subst z;cases hp) i) q1
noncomputable def mO(ρ:En):Prop:=∀(i:Nat)(w:W),ρ[i]?=some (some w)->w.own=false
theorem mO.set{ρ:En}(h:mO ρ)(i:Nat)(x:Hy):mO (ρ.set i (some (.d x))):=fun j w z=>by
 rw[Ja]at z
 split at z
 · split at z
   · cases z;rfl
   · cases z
 · exact h j w z
abbrev GC:=Hy->En->(En->Prop)->Prop
abbrev qo:=List Hy->En->(En->Prop)->Prop
noncomputable def GZ(X:Cx)(rl:RlT)(tg:Expr)(g:GC):Prop:=∃G,PG X tg G/\∀{F₀ H₀ F H:Hp}{σ:St}{ρ:En},VR X.K rl F₀ H₀ F H σ ρ->∀(v:V)(x:Hy)(Qd:En->Prop)(Q:St->Hp->Prop),Rep X.K F v x->g x ρ Qd ->
 (∀F' H' σ' ρ',Grow rl F H F' H'->(mO ρ->mO ρ')->VR X.K rl F₀ H₀ F' H' σ' ρ'->Qd ρ'->Q σ' H')->G v σ H Q
noncomputable def y_(X:Cx)(rl:RlT)(tgs:List Expr)(g:qo):Prop:=∃G,GY X tgs G/\∀{F₀ H₀ F H:Hp}{σ:St}{ρ:En},VR X.K rl F₀ H₀ F H σ ρ->∀(vs:List V)(xs:List Hy)(Qd:En->Prop)(Q:St->Hp->Prop),Reps X.K F vs xs->g xs ρ Qd ->
 (∀F' H' σ' ρ',Grow rl F H F' H'->(mO ρ->mO ρ')->VR X.K rl F₀ H₀ F' H' σ' ρ'->Qd ρ'->Q σ' H')->G vs σ H Q
noncomputable def rC(i:Nat):GC:=fun x ρ Q=>Q (ρ.set i (some (.d x)))
theorem am(i:Nat)(hN:X.N.Nodup)(hi:X.N[i]?=some x:=by rfl)(hx:Loc X.env.scope x:=by first|exact JM rfl|exact Jg rfl)(hf:X.fn x=true\/X.env.scope.names.lookup x=some .local:=by first|exact .inl rfl|exact .inr rfl):GZ X rl (.Name x pos) (rC i) :=
 ⟨_,uE hN hi hx hf,fun R v x Qd Q r q k=>k _ _ _ _ (Grow.refl R.sub R.reel) (fun n=>n.set i x) (R.set (w:=.d x) (Grow.refl R.sub R.reel) r trivial (fun _ z=>by cases z) i) q⟩
noncomputable def At:qo:=fun xs ρ Q=>xs=[]/\Q ρ
noncomputable def rE(g:GC)(gs:qo):qo:=fun xs ρ Q=>∃y r,xs=y::r/\g y ρ fun ρ'=>gs r ρ' Q
theorem aV:y_ X rl [] At:=⟨_,uD,fun R vs xs Qd Q r ⟨e,q⟩ k=>by subst e;exact⟨r.nil_iff,k _ _ _ _ (Grow.refl R.sub R.reel) (fun n=>n) R q⟩⟩
theorem aq{g:GC}{gs:qo}(h1:GZ X rl e g)(h2:y_ X rl es gs)(hs:(Ki (e::es) X.env).map (·.2)=ME e X.env::(Ki es X.env).map (·.2):=by rfl):y_ X rl (e::es) (rE g gs):=by
 obtain⟨G,p,k⟩:=h1
 obtain⟨G2,p2,k2⟩:=h2
 refine⟨_,qR p p2 hs,fun R vs xs Qd Q r ⟨y,ys,ex,q⟩ h=>?_⟩
 subst ex
 cases r with
 | cons r1 r2 =>
   refine⟨_,_,rfl,k R _ y _ _ r1 q fun F1 H1 σ1 ρ1 s1 n1 R1 q1=>?_⟩
   exact k2 R1 _ ys _ _ (r2.mono s1.fs) q1 fun F2 H2 σ2 ρ2 s2 n2 R2 q2=>h F2 H2 σ2 ρ2 (s1.trans s2) (fun n=>n2 (n1 n)) R2 q2
noncomputable def As(n:Nat)(gs:qo):GC:=fun x ρ Q=>∃xs,x = .tuple xs/\xs.length=n/\gs xs ρ Q
theorem bH{kk:Nat}{gs:qo}(hc:X.calm=true)(h:y_ X rl es gs)(hn:(Ki es X.env).length=n:=by rfl)(hst:(Ki es X.env).findIdx? (·.1)=none:=by rfl):GZ X rl (.Tuple es kk pos) (As n gs):=by
 obtain⟨G,p,k⟩:=h
 refine⟨_,xz hc p hn hst,fun R v x Qd Q r ⟨xs,ex,hl,q⟩ h=>?_⟩
 subst ex
 cases r with
 | tup sq rs=>exact⟨_,_,rfl,eY R.sub sq,by rw[rs.length];exact hl,k R _ xs _ _ rs q h⟩
noncomputable def zw(fa:TV)(g:GC):Gz:=fun D ρ=>fa ρ fun w=>∃x,w = .d x/\g x ρ D.nx
theorem cq{g:GC}(he:PV X rl e fa)(hg:GZ X rl tg g)(hs:LQ [tg] e pos.line X.env=pure false:=by rfl)(hw:LR [tg] e X.env=pure none:=by rfl)
 (h1:(Ki [tg] X.env).map (·.2)=[ME tg X.env]:=by rfl):GT X rl (.Assign [tg] e pos) (zw fa g):=by
 obtain⟨t,p,k⟩:=he
 obtain⟨G,p2,k2⟩:=hg
 refine⟨_,xw p p2 hs hw h1,fun R Dv D ok q=>k R _ _ q fun v w F1 H1 g1 r1 n1 ⟨x,ew,q1⟩=>?_⟩
 subst ew
 exact k2 (R.grow g1) v x _ _ r1 q1 fun F2 H2 σ2 ρ2 s2 n2 R2 q2=>ok.nx _ _ _ _ (g1.fs.trans s2.fs) R2 q2
noncomputable def B_(i j:Nat)(fs:Gy):Gz:=fun D ρ=>fs ρ fun ws=>∃x y,jp ws=some [x,y]/\D.nx ((ρ.set i (some (.d x))).set j (some (.d y)))
theorem lw(i j:Nat){y:Str}{py pt:Pos}{kt k2 pt2}(hc:X.calm=true)(hN:X.N.Nodup)(ha:GP X rl [a,b] fs)
 (hw:LR [.Tuple [.Name x px,.Name y py] kt pt] (.Tuple [a,b] k2 pt2) X.env=pure (some [x,y]):=by rfl)(hi:X.N[i]?=some x:=by rfl)(hj:X.N[j]?=some y:=by rfl)(hij:i≠j:=by decide)
 (hx:X.env.scope.names.lookup x=some .local:=by rfl)(hy:X.env.scope.names.lookup y=some .local:=by rfl)
 (hs:LQ [.Tuple [.Name x px,.Name y py] kt pt] (.Tuple [a,b] k2 pt2) pos.line X.env=pure false:=by rfl) :
 GT X rl (.Assign [.Tuple [.Name x px,.Name y py] kt pt] (.Tuple [a,b] k2 pt2) pos) (B_ i j fs):=by
 obtain⟨t,p,k⟩:=ha
 refine⟨_,xv hc hN hi hj hij hx hy p hw hs,fun R Dv D ok q=>k R _ _ q fun vs ws F1 H1 g1 r1 ⟨x,y,e1,q1⟩=>?_⟩
 have rs:=eA r1 e1
 cases rs with
 | cons rx rs =>
   cases rs with
   | cons ry rs =>
     cases rs
     have R1:=(R.grow g1).set (w:=.d x) (Grow.refl g1.sub g1.reel) rx trivial (fun _ z=>by cases z) i
     exact⟨_,_,rfl,ok.nx _ _ _ _ g1.fs (R1.set (w:=.d y) (Grow.refl g1.sub g1.reel) ry trivial (fun _ z=>by cases z) j) q1⟩
structure VIt (K:W.Frag) (rl:RlT) (F:Hp) (J:It) (xs:List Hy):Prop where
 go:∀i H x,xs[i]?=some x->cp F H->J.go i H
 stop:∀i H,xs.length<=i->cp F H->J.stop i H
 yld:∀i H v H' x F2,xs[i]?=some x->cp F F2->cp F2 H->GN rl F2 H->J.yld i H v H'->∃F3,Grow rl F2 H F3 H'/\Rep K F3 v x
theorem VIt.of{K:W.Frag}{rl:RlT}{J:It}(go:∀i H x,xs[i]?=some x->cp F H->J.go i H)(stop:∀i H,xs.length<=i->cp F H->J.stop i H)
 (yld:∀i H v H' x,xs[i]?=some x->cp F H->J.yld i H v H'->H'=H/\Rep K F v x):VIt K rl F J xs :=
 ⟨go,stop,fun i H v H' x F2 e s s2 ra y=>by
  obtain⟨e1,r⟩:=yld i H v H' x e (s.trans s2) y
  subst e1
  exact⟨F2,Grow.refl s2 ra,r.mono s⟩⟩
noncomputable def GW(X:Cx)(rl:RlT)(tg iter:Expr)(fi:En->(List Hy->Prop)->Prop):Prop:=∃wi,PI X tg iter wi/\∀{F₀ H₀ F H:Hp}{σ:St}{ρ:En},VR X.K rl F₀ H₀ F H σ ρ->∀(Qd:List Hy->Prop)(R:It->Hp->Prop),fi ρ Qd ->
 (∀J xs F' H',Grow rl F H F' H'->VIt X.K rl F' J xs->Qd xs->R J H')->wi σ H R
end
section
variable{X:Cx}{rl:RlT}{st:Stmt}{rest body:List Stmt}{t u:Gz}{a b c e:Expr}{es:List Expr}{fa fb:TV}{fs:Gy}{f:TB}{pos p:Pos}{tg:Expr}
noncomputable def zv(i:Nat)(t:Gz):Gz:=fun D ρ=>∃xs,ρ[i]?=some (some (.ml xs))/\t D (ρ.set i (some (.d (.list xs))))
theorem rQ{K:W.Frag}{ρ:En}(r:VR K rl F₀ H₀ F H σ ρ)(e:ρ[i]?=some (some (.ml xs))):∃F1,cp F F1/\VR K rl F₀ H₀ F1 H σ (ρ.set i (some (.d (.list xs)))):=by
 obtain⟨v,h1,h2,h3⟩:=r.sl i _ e
 obtain⟨a,vs,ev,f,hr,hh,q⟩:=(show jn K rl F H v xs from h2)
 obtain⟨F1,R1⟩:=r.freeze e
 obtain⟨v',k1,k2,k3⟩:=R1.sl i _ (Ia (H0.mp e).1)
 have neF:∀b u,F b=some u->b≠a:=fun b u q z=>by subst z;rw[f]at q;cases q
 have fsm:cp F (upd F a (.lst vs)):=fun b u z=>by rw[aA (neF b u z)];exact z
 have hi:i<ρ.length:=(H0.mp e).1
 refine⟨upd F a (.lst vs),fsm,r.g.freeze (h3 a ev) hh f hr,fun j w e1=>?_,R1.ap,R1.np,R1.len⟩
 by_cases hj:i=j
 · subst hj
   rw[Ia hi]at e1
   cases e1
   exact⟨v,h1,by rw[ev];exact .lst aJ (q.mono fsm),trivial⟩
 · rw[HY hj]at e1
   obtain⟨u,g1,g2,g3⟩:=r.sl j w e1
   refine⟨u,g1,?_,g3⟩
   cases w with
   | d x=>exact Rep.mono fsm g2
   | reel=>exact g2
   | vv u=>exact g2
   | ml ys =>
     obtain⟨b,us,eb,f1,f2,f3,f4⟩:=(show jn K rl F H u ys from g2)
     have ne:b≠a:=fun z=>r.ap i j _ _ v hj e e1 rfl rfl h1 (by rw[g1,eb,z,ev])
     exact⟨b,us,eb,by rw[aA ne];exact f1,f2,f3,f4.mono fsm⟩
   | pk ys=>exact absurd e1 (r.np j ys)
   | md ys =>
     obtain⟨b,us,eb,f1,f2,f3,f4⟩:=(show vX K rl F H u ys from g2)
     have ne:b≠a:=fun z=>r.ap i j _ _ v hj e e1 rfl rfl h1 (by rw[g1,eb,z,ev])
     exact⟨b,us,eb,by rw[aA ne];exact f1,f2,f3,I0.mapP f4 fun _ _ z=>⟨z.1,z.2.mono fsm⟩⟩
   | mk ys =>
     obtain⟨b,us,eb,f1,f2,f3,f4⟩:=(show vW K rl F H u ys from g2)
     have ne:b≠a:=fun z=>r.ap i j _ _ v hj e e1 rfl rfl h1 (by rw[g1,eb,z,ev])
     exact⟨b,us,eb,by rw[aA ne];exact f1,f2,f3,I0.mapP f4 fun _ _ z=>⟨z.1,z.2.mono fsm⟩⟩
   | nt ds=>obtain⟨b,us,eb,f1,f2⟩:=g2;exact⟨b,us,eb,fsm _ _ f1,f2.mono fsm⟩
   | lk=>trivial
   | sc ns=>obtain⟨b,eb,f1⟩:=g2;exact⟨b,eb,qI fsm f1⟩
   | fd kvs=>obtain⟨b,us,eb,f1,f2⟩:=g2;exact⟨b,us,eb,fsm _ _ f1,I0.mapP f2 fun _ _ z=>⟨z.1,z.2.mono fsm⟩⟩
   | fw kvs=>obtain⟨b,us,o,eb,f1,f2⟩:=g2;exact⟨b,us,o,eb,fsm _ _ f1,I0.mapP f2 fun _ _ z=>⟨z.1,z.2.mono fsm⟩⟩
   | ft kvs=>obtain⟨b,us,o,eb,f1,f2⟩:=g2;exact⟨b,us,o,eb,fsm _ _ f1,I0.mapP f2 fun _ _ z=>⟨z.1,z.2.mono fsm⟩⟩
   | xc _ _=>obtain⟨b,dx,us,C,eb,n,f1,f3,f2⟩:=g2;exact⟨b,dx,us,C,eb,n,fsm _ _ f1,fsm _ _ f3,I0.mapP f2 fun _ _ z=>⟨z.1,z.2.mono fsm⟩⟩
   | dp _ _=>obtain⟨c,b,us,u,o,eb,f1,f3,f2,z⟩:=g2;exact⟨c,b,us,u,o,eb,fsm _ _ f1,fsm _ _ f3,I0.mapP f2 fun _ _ z=>⟨z.1,z.2.mono fsm⟩,z.mono fsm⟩
theorem v6(i:Nat)(h:GT X rl st t):GT X rl st (zv i t):=by
 obtain⟨T,p,k⟩:=h
 refine⟨T,p,fun R Dv D ok ⟨xs,e,q⟩=>?_⟩
 obtain⟨F1,s1,R1⟩:=rQ R e
 exact k R1 Dv D (ok.on s1) q
noncomputable def iL(fa:TV):En->(List Hy->Prop)->Prop:=fun ρ Q=>fa ρ fun w=>∃xs,w.fz = .d (.list xs)/\Q xs
noncomputable def iT(fa:TV):En->(List Hy->Prop)->Prop:=fun ρ Q=>fa ρ fun w=>∃xs,w.fz = .d (.tuple xs)/\Q xs
theorem gh{l:Expr}(hl:PV X rl l fa):GW X rl tg l (iL fa):=by
 obtain⟨t,p,k⟩:=hl
 refine⟨_,uB p,fun R Qd Q q h=>k R _ _ q fun v w F1 H1 g1 r1 n1 ⟨xs,ew,q1⟩=>?_⟩
 obtain⟨F2,g2,s2,r2⟩:=eP.fz g1 r1 n1
 rw[ew]at r2
 cases(show Rep X.K F2 v (.list xs)from r2)with
 | @lst a vs _ sq rs =>
   have sqH:∀H,cp F2 H->GF X.K H a vs:=fun H s=>.inl (.inl (s _ _ sq))
   refine⟨a,rfl,⟨vs,sqH H1 g2.sub⟩,h _ xs F2 H1 g2 (.of (fun i H x e s=>?_) (fun i H hl s=>⟨vs,sqH H s,by rw[rs.length];exact hl⟩) (fun i H v H' x e s y=>?_)) q1⟩
   · obtain⟨v,ev,_⟩:=rs.get e
     exact⟨vs,v,sqH H s,ev⟩
   · obtain⟨e',hy⟩:=y
     obtain⟨v',ev,rv⟩:=rs.get e
     have:=hy vs (sqH H s)
     rw[ev]at this
     cases this
     exact⟨e',rv⟩
theorem dA{l:Expr}(hl:PV X rl l fa):GW X rl tg l (iT fa):=by
 obtain⟨t,p,k⟩:=hl
 refine⟨_,xy p,fun R Qd Q q h=>k R _ _ q fun v w F1 H1 g1 r1 n1 ⟨xs,ew,q1⟩=>?_⟩
 obtain⟨F2,g2,s2,r2⟩:=eP.fz g1 r1 n1
 rw[ew]at r2
 cases(show Rep X.K F2 v (.tuple xs)from r2)with
 | @tup a vs _ sq rs =>
   have sqH:∀H,cp F2 H->GE X.K H a vs:=fun H s=>eY s sq
   refine⟨a,rfl,⟨vs,sqH H1 g2.sub⟩,h _ xs F2 H1 g2 (.of (fun i H x e s=>?_) (fun i H hl s=>⟨vs,sqH H s,by rw[rs.length];exact hl⟩) (fun i H v H' x e s y=>?_)) q1⟩
   · obtain⟨v,ev,_⟩:=rs.get e
     exact⟨vs,v,sqH H s,ev⟩
   · obtain⟨e',hy⟩:=y
     obtain⟨v',ev,rv⟩:=rs.get e
     have:=hy vs (sqH H s)
     rw[ev]at this
     cases this
     exact⟨e',rv⟩
noncomputable def cO(lo:Int)(n:Nat):List Hy:=(Jj n).map fun(i:Nat)=>.int (lo+i)
theorem ij{lo:Int}{x:Hy}(h:(cO lo n)[i]?=some x):i<n/\x = .int (lo+i):=by
 unfold cO at h
 rw[Ix]at h
 by_cases hi:i<n
 · rw[HZ (by simpa using hi)]at h
   simp at h
   exact⟨hi,h.symm⟩
 · rw[List.getElem?_eq_none (by simpa using hi)]at h
   cases h
theorem cJ{lo:Int}:(cO lo n).length=n:=by simp[cO]
theorem mY{K:W.Frag}(lo:Int)(n:Nat):VIt K rl F (Hb lo n) (cO lo n) :=
 .of (fun i H x e s=>(ij e).1) (fun i H hl s=>by rw[cJ]at hl;exact hl) (fun i H v H' x e s y=>by
  obtain⟨e1,e2⟩:=y
  subst e2
  rw[(ij e).2]
  exact⟨e1,.int _⟩)
noncomputable def FH(fs:Gy):En->(List Hy->Prop)->Prop:=fun ρ Q=>fs ρ fun ws=>∃j:Int,ws=[.d (.int j)]/\(-(2^62)<=j/\j<2^62)/\Q (cO 0 j.toNat)
theorem de(hm:X.mg "range" = none)(ha:GP X rl [a] fs)(hg:Gl X "range" := by rfl)(hs:HL [a] X.env=[(false,eval a X.env)]:=by rfl):GW X rl tg (.Call (.Name "range" p) [a] [] pos) (FH fs):=by
 obtain⟨t,p1,k⟩:=ha
 refine⟨_,om hg hm p1 hs,fun R Qd Q q h=>k R _ _ q fun vs ws F1 H1 g1 r1 ⟨j,ew,b,q1⟩=>?_⟩
 subst ew
 obtain⟨v,rfl,rv⟩:=nV r1
 have e:=bC rv
 subst e
 exact⟨j,rfl,b.1,b.2,h _ _ F1 H1 g1 (mY 0 _) q1⟩
theorem VR.own{K:W.Frag}{F₀ H₀ F H:Hp}{σ:St}{ρ:En}(r:VR K rl F₀ H₀ F H σ ρ){i:Nat}{xs ys:List Hy}{a:Addr}{us:List V}(e:ρ[i]?=some (some (.ml xs)))(es:σ[i]?=some (some (.ref a)))(rs:Reps K F us ys) :
 VR K rl F₀ H₀ F (upd H a (.lst us)) σ (ρ.set i (some (.ml ys))):=by
 obtain⟨v,h1,h2,h3⟩:=r.sl i _ e
 rw[es]at h1
 cases h1
 obtain⟨a',vs,ev,f,hr,hh,q⟩:=(show jn K rl F H (.ref a) xs from h2)
 cases ev
 have n0:H₀ a=none:=h3 a rfl
 have hi:i<ρ.length:=(H0.mp e).1
 have neF:∀b u,F b=some u->b≠a:=fun b u q z=>by subst z;rw[f]at q;cases q
 have g:Grow rl F₀ H₀ F (upd H a (.lst us)):=by
  refine⟨fun b o q1 n=>by rw[aA (bA q1 n0)];exact r.g.same b o q1 n,r.g.fs,fun b o q1=>by rw[aA (neF b o q1)];exact r.sub b o q1,r.g.old,fun y z=>?_⟩
  obtain⟨z1,⟨u,h1,h2⟩⟩:=r.reel y z
  exact⟨z1,⟨u,by rw[aA (fun q=>hr (by rw[<- q];exact z))];exact h1,h2⟩⟩
 refine⟨g,fun j w e1=>?_,fun j k ys' zs u hjk e1 e2 w1 w2 s1 s2=>?_,fun j ys' z=>?_,by simp[r.len]⟩
 · by_cases hj:i=j
   · subst hj
     rw[Ia hi]at e1
     cases e1
     exact⟨_,es,⟨a,us,rfl,f,hr,aJ,rs⟩,h3⟩
   · rw[HY hj]at e1
     obtain⟨u,g1,g2,g3⟩:=r.sl j w e1
     refine⟨u,g1,?_,g3⟩
     cases w with
     | d x=>exact g2
     | reel=>exact g2
     | vv u=>exact g2
     | ml zs =>
       obtain⟨b,us',eb,f1,f2,f3,f4⟩:=(show jn K rl F H u zs from g2)
       have ne:b≠a:=fun z=>r.ap i j _ _ (.ref a) hj e e1 rfl rfl es (by rw[g1,eb,z])
       exact⟨b,us',eb,f1,f2,by rw[aA ne];exact f3,f4⟩
     | pk zs=>exact absurd e1 (r.np j zs)
     | md zs =>
       obtain⟨b,us',eb,f1,f2,f3,f4⟩:=(show vX K rl F H u zs from g2)
       have ne:b≠a:=fun z=>r.ap i j _ _ (.ref a) hj e e1 rfl rfl es (by rw[g1,eb,z])
       exact⟨b,us',eb,f1,f2,by rw[aA ne];exact f3,f4⟩
     | mk zs =>
       obtain⟨b,us',eb,f1,f2,f3,f4⟩:=(show vW K rl F H u zs from g2)
       have ne:b≠a:=fun z=>r.ap i j _ _ (.ref a) hj e e1 rfl rfl es (by rw[g1,eb,z])
       exact⟨b,us',eb,f1,f2,by rw[aA ne];exact f3,f4⟩
     | nt ds=>exact g2
     | lk=>trivial
     | sc _=>exact g2
     | fd _=>exact g2
     | fw _=>exact g2
     | ft _=>exact g2
     | xc _ _=>exact g2
     | dp _ _=>exact g2
 · have nd:∀(j:Nat)(z:W),(ρ.set i (some (W.ml ys)))[j]?=some (some z)->z.own=true->∃z',ρ[j]?=some (some z')/\z'.own=true:=fun j zs z o=>by
     by_cases hj:i=j
     · subst hj
       exact⟨_,e,rfl⟩
     · rw[HY hj]at z
       exact⟨zs,z,o⟩
   obtain⟨_,d1,o1⟩:=nd j _ e1 w1
   obtain⟨_,d2,o2⟩:=nd k _ e2 w2
   exact r.ap j k _ _ u hjk d1 d2 o1 o2 s1 s2
 · rw[Ja]at z
   split at z
   · first|cases z|(split at z<;>cases z)
   · exact r.np j ys' z
noncomputable def AK(K:W.Frag)(rl:RlT)(r:V->List V->Hp->VK->Prop)(g:List Hy->List W->(List Hy->Prop)->Prop):Prop :=
 ∀ {F H:Hp}{a:Addr}{vs args:List V}{xs:List Hy}{ws:List W}(Qn:List Hy->Prop)(Q:VK),cp F H->H a=some (.lst vs)->Reps K F vs xs->gU K rl F H args ws->g xs ws Qn ->
   (∀us ys,Reps K F us ys->Qn ys->Q .non (upd H a (.lst us)))->r (.ref a) args H Q
noncomputable def wv(i:Nat)(g:List Hy->List W->(List Hy->Prop)->Prop)(fs:Gy):Gz:=fun D ρ=>∃xs,ρ[i]?=some (some (.ml xs))/\fs ρ fun ws=>g xs ws fun ys=>D.nx (ρ.set i (some (.ml ys)))
theorem sy(i:Nat){nm:Str}{id:String}{r:V->List V->Hp->VK->Prop}{g:List Hy->List W->(List Hy->Prop)->Prop}{apos cpos:Pos}(slot:Slot "list" nm id)(hty:typeOf (.builtin id)=pure (.type "method_descriptor"))(hm:G4 X id r)(vm:AK X.K rl r g)(ha:GP X rl (e::es) fs)
 (hN:X.N[i]?=some x:=by rfl)(hv:Gv X.env.scope x:=by first|exact JM rfl|exact Jg (JM rfl)|exact Jg (Jg rfl))
 (hd:(x==("__debug__" : Str))=false:=by decide)(hcd:(x==("__classdict__" : Str))=false:=by decide)
 (hbase:Lc (.Name x px) nm X.env (eval (.Name x px) X.env)=eval (.Name x px) X.env:=by rfl)
 (hfew:((Jv cpos (HL (e::es) X.env)).all (fun x=>!x.1)&&(M1 cpos (LW [] X.env)).all (fun x=>x.1.isSome)
  && decide ((e::es).length+([]:List LB).length+(if([]:List LB).isEmpty then 0 else 1)<30))=true:=by rfl)
 (hline:(apos.endLine==cpos.line)=true:=by rfl)(hs:HL (e::es) X.env=(false,eval e X.env)::HL es X.env:=by rfl)(hplain:(Jv cpos (HL es X.env)).any (·.1)=false:=by rfl)
 (hsw:JU (.Call (.Attribute (.Name x px) nm apos) (e::es) [] cpos) none pos.line X.env=pure false:=by rfl) :
 GT X rl (.Expr (.Call (.Attribute (.Name x px) nm apos) (e::es) [] cpos) pos) (wv i g fs):=by
 obtain⟨t,p1,k⟩:=ha
 refine⟨_,kM (xG LX slot hty hm (dW hN hv hd hcd) p1 hbase hfew hline hs hplain) hsw,fun{F₀ H₀ F H σ ρ} R Dv D ok ⟨xs,e1,q⟩=>?_⟩
 obtain⟨v,h1,h2,h3⟩:=R.sl i _ e1
 obtain⟨a,vs,rfl,f,hr,hh,rs⟩:=(show jn X.K rl F H v xs from h2)
 refine⟨.ref a,h1,.inl ⟨rfl,vs,.inl (.inl hh)⟩,k R _ _ q fun args ws F1 H1 g1 r1 q1=>?_⟩
 refine vm _ _ g1.sub (g1.same a _ hh hr) (rs.mono g1.fs) r1 q1 fun us ys r2 q2=>?_
 exact ok.nx _ _ _ _ g1.fs ((R.grow g1).own e1 h1 r2) q2
noncomputable def y7:List Hy->List W->(List Hy->Prop)->Prop:=fun xs ws Q=>∃x,jp ws=some [x]/\xs.length<sizeLine/\Q (xs++[x])
theorem v8{K:W.Frag}:AK K rl nZ y7:=fun{F H a vs args xs ws} Qn Q s ha rs ra ⟨x,e,z,q⟩ k=>by
 have r2:=eA ra e
 cases r2 with
 | cons rx r3 =>
   cases r3
   exact⟨a,vs,_,rfl,rfl,ha,by rw[rs.length];exact z,k _ _ (rs.snoc rx) q⟩
theorem sA(i:Nat){apos cpos:Pos}(ha:GP X rl [e] fs)(hN:X.N[i]?=some x:=by rfl)(hv:Gv X.env.scope x:=by first|exact JM rfl|exact Jg (JM rfl)|exact Jg (Jg rfl))
 (hd:(x==("__debug__" : Str))=false:=by decide)(hcd:(x==("__classdict__" : Str))=false:=by decide)
 (hbase:Lc (.Name x px) "append" X.env (eval (.Name x px) X.env)=eval (.Name x px) X.env:=by rfl)
 (hfew:((Jv cpos (HL [e] X.env)).all (fun x=>!x.1)&&(M1 cpos (LW [] X.env)).all (fun x=>x.1.isSome)
  && decide (([e]).length+([]:List LB).length+(if([]:List LB).isEmpty then 0 else 1)<30))=true:=by rfl)
 (hline:(apos.endLine==cpos.line)=true:=by rfl)(hs:HL [e] X.env=(false,eval e X.env)::HL [] X.env:=by rfl)(hplain:(Jv cpos (HL [] X.env)).any (·.1)=false:=by rfl)
 (hsw:JU (.Call (.Attribute (.Name x px) "append" apos) [e] [] cpos) none pos.line X.env=pure false:=by rfl) :
 GT X rl (.Expr (.Call (.Attribute (.Name x px) "append" apos) [e] [] cpos) pos) (wv i y7 fs) :=
 sy i LM LN gC v8 ha hN hv hd hcd hbase hfew hline hs hplain hsw
noncomputable def gT:W->Bool
 | .ml _=>false
 | .md _=>false
 | .mk _=>false
 | .pk _=>false
 | _=>true
noncomputable def DX(K:W.Frag)(rl:RlT)(P:List W->(Hy->Prop)->Prop):Sp:=fun vs H Q _=>∃F ws,cp F H/\GN rl F H/\gU K rl F H vs ws/\ws.all gT=true/\P ws fun d=>∀v F' H',Grow rl F H F' H'->Rep K F' v d->Q v H'
noncomputable def eJ(N:List Str)(ws:List W):En:=ws.map some++HR (N.length-ws.length) none
theorem jQ{K:W.Frag}{F H:Hp}:∀{vs:List V}{ws:List W}{i:Nat}{w:W},gU K rl F H vs ws->ws[i]?=some w->∃v,vs[i]?=some v/\eP K rl F H v w
 | _,_,_,_,.nil,e=>by simp at e
 | _,_,0,_,.cons h _,e=>by simp at e;subst e;exact⟨_,rfl,h⟩
 | _,_,i+1,w,.cons _ r,e=>by
   obtain⟨v,h1,h2⟩:=jQ (i:=i) (w:=w) r (by simpa using e)
   exact⟨v,by simpa using h1,h2⟩
theorem jz{ws:List W}{w:W}(h:(eJ N ws)[i]?=some (some w)):ws[i]?=some w:=by
 unfold eJ at h
 by_cases hi:i<ws.length
 · rw[Kz (by simpa using hi),Ix]at h
   cases q:ws[i]? with
   | none=>rw[q]at h;cases h
   | some x=>rw[q]at h;cases h;rfl
 · rw[Ls (by simpa using hi),LS]at h
   split at h<;>cases h
theorem iJ{K:W.Frag}{ws:List W}(s:cp F H)(ra:GN rl F H)(r:gU K rl F H vs ws)(ok:ws.all gT=true):VR K rl F H F H (start N vs) (eJ N ws):=by
 have hl:vs.length=ws.length:=KN r
 have no:∀(i:Nat) w,(eJ N ws)[i]?=some (some w)->gT w=true:=fun i w e=>(Jq.mp ok) w (JQ (jz e))
 refine⟨Grow.refl s ra,fun i w e=>?_,fun i j xs ys v _ e1 _ o _ _ _=>(by have:=no i _ e1;cases xs<;>first|exact Bool.noConfusion o|exact Bool.noConfusion this),fun i xs e=>(by have:=no i _ e;cases this),?_⟩
 · obtain⟨v,h1,h2⟩:=jQ r (jz e)
   refine⟨v,?_,h2,?_⟩
   · unfold start
     rw[Kz (by simpa using(H0.mp h1).1),Ix,h1]
     rfl
   · have:=no i w e
     cases w with
     | ml xs=>cases this
     | md xs=>cases this
     | mk xs=>cases this
     | nt _=>trivial
     | lk=>trivial
     | sc _=>trivial
     | fd _=>trivial
     | fw _=>trivial
     | ft _=>trivial
     | xc _ _=>trivial
     | dp _ _=>trivial
     | d _=>trivial
     | pk _=>trivial
     | reel=>trivial
     | vv _=>trivial
 · unfold eJ start
   simp[hl]
noncomputable def qA(Q:Hy->Prop):VEnds:=⟨fun _=>Q .none,fun w=>∃d,w.fz = .d d/\Q d,fun _=>False,fun _=>False⟩
theorem DY{K:W.Frag}{base:Heap}{st:Stmt}{fa:Addr}{ps:List Str}{k:Nat}{Pd:List W->(Hy->Prop)->Prop}{t:Gz}
 (Fn:Fun K x qual st fa fd)(S:FnScope N ps (defScope st))(len:∀ws Q,Pd ws Q->ws.length=ps.length)
 (hbody:∀(cdv:HE)(A:Jb)(outer:List Env)(s:HH)(H:Hp)(E:XK),Room k (A.deeper (Mb qual (defScope st) s.heap.objs.size fa cdv)) ->
  lY (qm Hq P w K mg base N qual (defScope st) fa cdv A outer s H E).nox rl (defBody st) t)
 (hread:∀ws Q,Pd ws Q->t (qA Q) (eJ N ws)):FnOk P w K mg base Hq (k+1) fa fd ps (DX K rl Pd):=by
 refine Fn.ok S (fun vs H Q E ⟨F,ws,_,_,r,_,q⟩=>(KN r).trans (len ws _ q)) fun cdv A outer s H vs Q E hr h=>?_
 obtain⟨F,ws,sm,ra,r,ok,q⟩:=h
 obtain⟨T,p,kk⟩:=hbody cdv A outer s H E hr
 refine⟨T,p,kk (iJ sm ra r ok) (qA _) _ ⟨?_,?_,fun _ _ _ _ _ _ z=>Jm z,fun _ _ _ _ _ _ z=>Jm z⟩ (hread ws _ q)⟩
 · intro F1 H1 σ1 ρ1 _ R1 q1
   exact q1 .non F1 H1 R1.g .non
 · rintro v w1 F1 H1 g1 r1 n1 ⟨d,ed,q1⟩
   obtain⟨F2,g2,s2,r2⟩:=eP.fz g1 r1 n1
   rw[ed]at r2
   exact q1 v F2 H1 g2 r2
structure Dfn (P:Ie) (w:II) (K:W.Frag) (mg:Str->Option HE) (base:Heap) (rl:RlT) (x:Str) (ps:List Str) (k:Nat) (Pd:List W->(Hy->Prop)->Prop):Prop where
 mono:∀ws Q Q',(∀d,Q d->Q' d)->Pd ws Q->Pd ws Q'
 ex:∃f fd,mg x=some (.ref f)/\W.keepIn K (.ref f)=true/\Binds K fd ps []/\FnOk P w K mg base Hq k f fd ps (DX K rl Pd)
noncomputable def zk(Pd:List W->(Hy->Prop)->Prop)(fs:Gy):TV:=fun ρ Q=>fs ρ fun ws=>ws.all gT=true/\Pd ws fun d=>Q (.d d)
theorem ai{ps:List Str}{k:Nat}{Pd:List W->(Hy->Prop)->Prop}(D:Dfn X.prog X.w X.K X.mg X.base rl x ps k Pd)(hr:Room k X.A)(ha:GP X rl (e::es) fs)(hg:Gl X x:=by rfl)
 (hdb:(x==("__debug__" : Str))=false:=by decide)(he:HL (e::es) X.env=(false,eval e X.env)::HL es X.env:=by rfl)(hpl:(Jv pos (HL es X.env)).any (·.1)=false:=by rfl) :
 PV X rl (.Call (.Name x p) (e::es) [] pos) (zk Pd fs):=by
 obtain⟨f,fd,hm,hk,hb,F⟩:=D.ex
 obtain⟨t,p1,kk⟩:=ha
 refine⟨_,kP F hr hg hm hk hb .nil uI p1 hdb he hpl,fun R Qd Q q h=>kk R _ _ q fun vs ws F1 H1 g1 r1 ⟨ok,q1⟩=>?_⟩
 refine⟨F1,ws,g1.sub,g1.reel,by rw[J9];exact r1,ok,?_⟩
 exact D.mono ws _ _ (fun d qd v F2 H2 g2 r2=>h v (.d d) F2 H2 (g1.trans g2) r2 trivial qd) q1
end
end L2.VL
variable{rl:L2.VL.RlT}{ρ:L2.VL.En}{fi:L2.VL.En->(List Hy->Prop)->Prop}
namespace L2
theorem fI{env:Env}:∀(names:List (Str×KQ))(acc:List (Str×Addr)),(∀x∈names,x.2 = .free->∃c,env.cells.lookup x.1=some c)->(∀x c,acc.lookup x=some c->env.cells.lookup x=some c) ->
 ∃ cl,(forIn names acc (fun(x:Str×KQ)(cs:List (Str×Addr))=>if(x.2==IQ)=true then do let c <- cellOf env x.1;pure (Lk ((x.1,c)::cs))else pure (Lk cs)):Sem (List (Str×Addr)))=pure cl /\
   (∀x c,cl.lookup x=some c->env.cells.lookup x=some c)/\(∀x,(acc.lookup x).isSome=true->(cl.lookup x).isSome=true)/\∀x,(x,IQ)∈names->(cl.lookup x).isSome=true
 | [],acc,_,h2=>⟨acc,rfl,h2,fun _ z=>z,fun _ z=>nomatch z⟩
 | (n,k)::r,acc,h1,h2=>by
   by_cases hk:k = .free
   · subst hk
     obtain⟨c,hc⟩:=h1 (n,.free) Iw rfl
     have h2':∀x c',((n,c)::acc).lookup x=some c'->env.cells.lookup x=some c':=fun x c' z=>by
      rw[HX]at z
      cases e:x==n with
      | true =>
        rw[e]at z
        have e':x=n:=by simpa using e
        cases z
        rw[e']
        exact hc
      | false =>
        rw[e]at z
        exact h2 x c' z
     obtain⟨cl,e,g1,g2,g3⟩:=fI r ((n,c)::acc) (fun x hx=>h1 x (Ic _ hx)) h2'
     refine⟨cl,?_,g1,fun x z=>g2 x ?_,fun x z=>?_⟩
     · rw[Ll]
       simp only[beq_self_eq_true,if_true]
       have e0:cellOf env n=pure c:=by unfold cellOf;rw[hc]
       rw[e0,pure_bind,pure_bind]
       exact e
     · rw[HX]
       split
       · rfl
       · exact z
     · rcases IC.mp z with z|z
       · cases z
         refine g2 _ ?_
         rw[HX]
         simp
       · exact g3 x z
   · obtain⟨cl,e,g1,g2,g3⟩:=fI r acc (fun x hx=>h1 x (Ic _ hx)) h2
     refine⟨cl,?_,g1,g2,fun x z=>?_⟩
     · rw[Ll]
       have hb:(k==IQ)=false:=by simpa using hk
       simp only[hb,Jz,if_false]
       rw[pure_bind]
       exact e
     · rcases IC.mp z with z|z
       · cases z;exact absurd rfl hk
       · exact g3 x z
theorem gR{env:Env}(h:∀x∈scope.names,x.2 = .free->∃c,env.cells.lookup x.1=some c) :
 ∃cl,closureFor scope env=pure cl/\(∀x c,cl.lookup x=some c->env.cells.lookup x=some c)/\∀x,(x,IQ)∈scope.names->(cl.lookup x).isSome=true:=by
 obtain⟨cl,e,g1,_,g3⟩:=fI scope.names [] h (fun _ _ z=>by cases z)
 refine⟨cl,?_,g1,g3⟩
 unfold closureFor
 first
  | exact e
  | (simp only[bind_pure];exact e)
theorem jP{env:Env}(h:(relabel scope env).names.lookup x=some .cell\/(relabel scope env).names.lookup x=some .free):(x,IQ)∈scope.names\/(x,JR)∈scope.names:=by
 have key:∀names:List (Str×KQ),∀k,(k = .cell\/k = .free) ->
  (names.map fun(n,k)=>if(k==IQ&&env.scope.kind == .function&&env.kindOf n==some .cell)then(n,JR)else(n,k)).lookup x=some k->(x,IQ)∈names\/(x,JR)∈names:=by
  intro names
  induction names with
  | nil=>intro k _ z;cases z
  | cons y r ih =>
    intro k hk z
    obtain⟨n,kn⟩:=y
    have step:((x,IQ)∈r\/(x,JR)∈r)->((x,IQ)∈(n,kn)::r\/(x,JR)∈(n,kn)::r):=fun z=>z.imp (Ic _) (Ic _)
    rw[IW]at z
    dsimp only at z
    by_cases hc:(kn==IQ&&env.scope.kind == .function&&env.kindOf n==some .cell)=true
    · rw[if_pos hc,HX]at z
      have hf:kn = .free:=by
       have:=(Ib.mp (Ib.mp hc).1).1
       simpa using this
      cases e:x==n with
      | true =>
        have e':x=n:=by simpa using e
        rw[e',<- hf]
        exact .inl Iw
      | false =>
        rw[e]at z
        exact step (ih k hk z)
    · rw[if_neg hc,HX]at z
      cases e:x==n with
      | true =>
        rw[e]at z
        have e':x=n:=by simpa using e
        cases z
        rcases hk with hk|hk
        · rw[e',hk];exact .inr Iw
        · rw[e',hk];exact .inl Iw
      | false =>
        rw[e]at z
        exact step (ih k hk z)
 rcases h with h|h
 · exact key scope.names .cell (.inl rfl) h
 · exact key scope.names .free (.inr rfl) h
theorem bU:∀(names:List (Str×KQ))(n:Nat)(acc:List (Str×Addr)),JE n names acc=JE n names []++acc
 | [],_,_=>rfl
 | (x,k)::r,n,acc=>by
   unfold JE
   split
   · rw[bU r (n+1) ((x,n)::acc),bU r (n+1) [(x,n)],Kt]
     rfl
   · exact bU r n acc
theorem dS{x:Str}{c:Addr}:∀{names:List (Str×KQ)}{n:Nat},(x,c)∈JE n names []->(x,JR)∈names
 | (y,k)::r,n,h=>by
   unfold JE at h
   split at h
   · rename_i hk
     rw[bU]at h
     rcases Jw.mp h with h|h
     · exact Ic _ (dS h)
     · simp at h
       have:k = .cell:=by simpa using hk
       rw[h.1,this]
       exact Iw
   · exact Ic _ (dS h)
theorem fG{a b:List (Str×Addr)}:(a++b).lookup x=(a.lookup x).or (b.lookup x):=by
 induction a with
 | nil=>simp
 | cons y a ih =>
   obtain⟨n,c⟩:=y
   rw[KB,HX,HX]
   cases x==n<;>simp[ih]
theorem kU{M:Model}{globals:Addr}{cl:List (Str×Addr)}{o:Env}{Q:Env->HH->Prop}
 (hQ:Q {scope,locals:=s.heap.objs.size,globals,cells:=JE (s.heap.objs.size+1) scope.names cl,qual,func:=none,code:=o.code,frame:=o.frame,builtins:=o.builtins} {s with heap:=M6 (s.heap.push {cls:=.type "dict", data:=.dict #[]}) scope.names}) :
 Im M A (LF scope globals cl [] qual none .none (some o)) Q E s:=by
 simp only[LF,Option.isSome_some,if_true]
 refine HB (wpAny_alloc ?_)
 refine HB (wpAny_layCells _ (fun name kind cells=>by cases hkc:kind==JR<;>simp[hkc]) _ _ _ _ ?_)
 rw[show({s with heap:=s.heap.push {cls:=.type "dict", data:=.dict #[]}}:HH).heap.objs.size=s.heap.objs.size+1 from Ji ..]
 exact HB (HQ (HQ hQ))
noncomputable def cP(X:Cx)(N':List Str)(scope:Scope)(cl:List (Str×Addr))(fp:List Addr)(pn:List (Addr×Obj))(s:HH)(H:Hp):Cx :=
 {X with N:=N',s₀:=s,H₀:=H,env:={compEnvC scope cl s.heap.objs.size X.env with cells:=JE (s.heap.objs.size+1) scope.names cl},outer:=X.stack,ex:=fp,fn:=fun x=>scope.names.lookup x==some .cell,pn:=pn,xe:=fun _ _=>False}
abbrev nA(ifs:List Expr)(env:Env):Sem Bool:=forIn ifs true fun c r=>if r=true then do let ok <- isTrue c env (eval c env);pure (Lk ok)else pure (Lk r)
noncomputable def GR(X:Cx)(ifs:List Expr)(t:TT):Prop :=
 ∀(pins:List (Addr×Obj))(s:HH)(σ:St)(H:Hp)(Q:Bool->Hp->Prop),Inv X pins σ H s->t σ H Q->Im (IH X.prog X.w) X.A (nA ifs X.env) (TP X pins σ Q) X.xe s
theorem uv:GR X [] (fun _ H Q=>Q true H):=fun _ _ _ H _ I h=>wpAny_tests_nil ⟨H,I,h⟩
theorem uu{c:Expr}{t:TT}(h:PT X c t):GR X [c] t:=fun pins s σ H Q I hw=>wpAny_tests_one (h pins s σ H Q I hw)
theorem pM{prog:Ie}{R:Result->HH->Prop}{elt target:Expr}{ifs:List Expr}{it acc:HE}{env:Env}(I:Nat->HH->Prop)
 (turn:∀n s,I n s->Im (IH prog w) A (Nh it) (fun r s₁=>(r=none/\R (.ok .next) s₁)\/∃v,r=some v /\
  Im (IH prog w) A (Lj target it v) (fun _ s₂=>Im (IH prog w) A (ME target env v) (fun _ s₃=>Im (IH prog w) A (nA ifs env) (fun ok s₄ =>
   if ok=true then Im (IH prog w) A (eval elt env) (fun x s₅=>Im (IH prog w) A (call (.builtin "list.append") [acc,x]) (fun _ s₆=>∃m,m<n/\I m s₆) (fun _ _=>False) s₅) (fun _ _=>False) s₄
   else ∃m,m<n/\I m s₄) (fun _ _=>False) s₃) (fun _ _=>False) s₂) (fun _ _=>False) s₁) (fun _ _=>False) s)
 (n:Nat)(h:I n s):L_ (IH prog w) A (.compLoop (.ListComp elt [⟨target,iter,ifs,0⟩] scope pos) 0 it acc env) R s:=by
 refine codeAny_loop rfl I (fun n s hI=>?_) n h
 show Im _ A ((compTurn (.ListComp elt [⟨target,iter,ifs,0⟩] scope pos) 0 it acc env).onRaise (fun x=>do noteFrame x env;theTreesLotGoes x)) _ _ s
 refine wpAny_noted ?_
 rw[compTurn_list]
 refine HB (MG (HB (JW (turn n s hI) (fun r s₁ h₁=>?_) fun _ _ h'=>h'.elim)))
 rcases h₁ with⟨rfl,h₁⟩|⟨v,rfl,h₁⟩
 · exact HQ h₁
 · refine HB (JW h₁ (fun _ s₂ h₂=>HB (JW h₂ (fun _ s₃ h₃=>HB (JW h₃ (fun ok s₄ h₄=>?_) fun _ _ z=>z.elim)) fun _ _ z=>z.elim)) fun _ _ z=>z.elim)
   cases ok with
   | false=>exact HQ ⟨rfl,h₄⟩
   | true=>exact HB (HB (JW h₄ (fun x s₅ h₅=>HB (JW h₅ (fun _ s₆ h₆=>HQ (HQ ⟨rfl,h₆⟩)) fun _ _ z=>z.elim)) fun _ _ z=>z.elim))
noncomputable def rR(fr:List (Option Nat))(σ:St):St:=fr.map fun o=>o.bind fun j=>(σ[j]?).join
noncomputable def vB(fr:List (Option Nat))(N' N:List Str)(sc scX:Scope):Bool :=
 decide (fr.length=N'.length)&&(Jj fr.length).all fun i=>match fr[i]? with
  | some (some j)=>match N'[i]? with
    | some x=>decide (N[j]?=some x)&&decide (sc.names.lookup x=some .free)&&(decide (scX.names.lookup x=some .cell)||decide (scX.names.lookup x=some .free))
    | none=>false
  | _=>true
noncomputable def wW(sc scX:Scope):Bool :=
 decide (sc.kind = .function)&&sc.names.all fun y=>(decide (y.2 ≠ .cell)||decide (sc.names.lookup y.1=some .cell))&&(decide (y.2 ≠ .local)||decide (sc.names.lookup y.1=some .local)) &&
  (decide (y.2 ≠ .free)||(decide (scX.names.lookup y.1=some .cell)||decide (scX.names.lookup y.1=some .free)))
theorem vB.get{fr:List (Option Nat)}{N':List Str}{sc scX:Scope}(h:vB fr N' N sc scX=true):fr.length=N'.length/\∀(i j:Nat),fr[i]?=some (some j)->∃x,N'[i]?=some x/\N[j]?=some x/\sc.names.lookup x=some .free/\(scX.names.lookup x=some .cell\/scX.names.lookup x=some .free):=by
 unfold vB at h
 obtain⟨h1,h2⟩:=Ib.mp h
 refine⟨of_decide_eq_true h1,fun i j e=>?_⟩
 have hi:i<fr.length:=(H0.mp e).1
 have q:=Jq.mp h2 i (K6.mpr hi)
 rw[e]at q
 dsimp only at q
 cases en:N'[i]? with
 | none=>rw[en]at q;cases q
 | some x =>
   rw[en]at q
   dsimp only at q
   obtain⟨q1,q2⟩:=Ib.mp q
   obtain⟨q3,q4⟩:=Ib.mp q1
   exact⟨x,rfl,of_decide_eq_true q3,of_decide_eq_true q4,(Jh.mp q2).imp of_decide_eq_true of_decide_eq_true⟩
theorem mI{k:KQ}:∀{names:List (Str×KQ)},names.lookup x=some k->(x,k)∈names:=fun h=>IV h
structure CompA where
 cl:List (Str×Addr)
 fp:List Addr
 pn:List (Addr×Obj)
 s:HH
 H:Hp
abbrev Gi(X:Cx)(N':List Str)(scope:Scope)(y:CompA):Cx:=cP X N' scope y.cl y.fp y.pn y.s y.H
noncomputable def ug(wi:TI)(fr:List (Option Nat))(g:CompA->TG)(tt:CompA->TT)(te:CompA->TE):TE:=fun σ H Q=>wi σ H fun J H1=>∀D,H1 D=none->∃Wv:Nat->Nat->List V->St->Hp->Prop,(∃m,Wv 0 m [] (rR fr σ) (upd H1 D (.lst []))) /\
 ∀ (z:CompA) i m acc σc H,Wv i m acc σc H->(J.stop i H/\Q (.ref D) H)\/(J.go i H/\∀x H',J.yld i H x H'->g z x σc H' fun σ2 H2=>tt z σ2 H2 fun b H3 =>
   if b=true then te z σ2 H3 fun y H4=>H4 D=some (.lst acc)/\acc.length<sizeLine/\∃m',m'<m/\Wv (i+1) m' (acc++[y]) σ2 (upd H4 D (.lst (acc++[y])))else ∃m',m'<m/\Wv (i+1) m' acc σ2 H3)
theorem fO{env:Env}:∀{names:List (Str×KQ)}{x:Str},names.lookup x=some .free ->
 (names.map fun(n,k)=>if(k==IQ&&env.scope.kind == .function&&env.kindOf n==some .cell)then(n,JR)else(n,k)).lookup x=some .cell \/
 (names.map fun(n,k)=>if(k==IQ&&env.scope.kind == .function&&env.kindOf n==some .cell)then(n,JR)else(n,k)).lookup x=some .free
 | [],_,h=>by simp at h
 | (n,k)::r,x,h=>by
   have ih:=@fO env r x
   rw[IW]
   dsimp only
   cases hx:x==n with
   | true =>
     simp only[HX,hx]at h
     cases h
     by_cases hc:((IQ==IQ)&&env.scope.kind == .function&&env.kindOf n==some .cell)=true
     · rw[if_pos hc];simp[HX,hx]
     · rw[if_neg hc];simp[HX,hx]
   | false =>
     simp only[HX,hx]at h
     by_cases hc:(k==IQ&&env.scope.kind == .function&&env.kindOf n==some .cell)=true
     · rw[if_pos hc];simp only[HX,hx];exact ih h
     · rw[if_neg hc];simp only[HX,hx];exact ih h
theorem lm{ex:Expr}{H3:Hp}{s3:HH}{D:Addr}{tn:Nat->Heap->Prop}{J:It}{Q:VK}
 {cl:List (Str×Addr)}(N':List Str)(fr:List (Option Nat))(hc:X.calm=true)(hkind:scope.kind = .function)(hcell:∀y∈scope.names,y.2 = .cell->scope.names.lookup y.1=some .cell)
 (hfree:∀y∈scope.names,y.2 = .free->X.env.kindOf y.1=some .cell\/X.env.kindOf y.1=some .free)(frl:fr.length=N'.length)
 (frg:∀(i j:Nat),fr[i]?=some (some j)->∃x,N'[i]?=some x/\X.N[j]?=some x/\scope.names.lookup x=some .free/\(X.env.scope.names.lookup x=some .cell\/X.env.scope.names.lookup x=some .free))
 (cl1:∀x c,cl.lookup x=some c->X.env.cells.lookup x=some c)(cl2:∀x,(x,IQ)∈scope.names->(cl.lookup x).isSome=true)
 (I3:Inv X pins σ H3 s3)(T:Turn X.prog X.w X.K tg J fp it tn)(tn3:tn 0 s3.heap)(fpD:∀b∈fp,H3 b=none)(fp3:∀b∈fp,b<s3.heap.objs.size)
 (fpk:∀b∈fp,b≠X.env.locals/\b∉X.fs/\(b∈X.ex\/X.s₀.heap.objs.size<=b)/\(∀x c,X.env.cells.lookup x=some c->c≠b)/\∀p∈X.pn++pins,p.1≠b)
 (loop:∀s',Inv (cP X N' scope cl fp (X.pn++pins) s3 H3) [] (rR fr σ) H3 s'->tn 0 s'.heap->(∀{H':Hp},(∀b∈fp,H' b=none)->∀b∈fp,mP (cP X N' scope cl fp (X.pn++pins) s3 H3) [] H' b) ->
  L_ (IH X.prog X.w) X.A (.compStart ex 0 (.ref it) (.ref D) (cP X N' scope cl fp (X.pn++pins) s3 H3).env) (fun r s5=>r = .ok .next/\∃σ5 H4,Inv (cP X N' scope cl fp (X.pn++pins) s3 H3) [] σ5 H4 s5/\Q (.ref D) H4) s')
 {Rp:Addr->Result->HH->Prop}(fin:∀s5 H4 m,s5.heap.Ns s3.heap.objs.size m->(∀h',JY s3.heap.objs.size s5.heap h'->Inv X pins σ H4 {s5 with heap:=h' })->mP X pins H4 s3.heap.objs.size->Q (.ref D) H4->Rp s3.heap.objs.size (.ok .next) s5) :
 Im (IH X.prog X.w) X.A (LF scope X.env.globals cl [] X.env.qual none .none (some X.env)) (fun cenv s₄ =>
  L_ (IH X.prog X.w) X.A (.compStart ex 0 (.ref it) (.ref D) {cenv with scope:=relabel scope X.env})
   (Rp cenv.locals) s₄) X.xe s3:=by
 refine kU ?_
 have ok:=cellsFrom_ok scope.names (s3.heap.push {cls:=.type "dict", data:=.dict #[]}) (s3.heap.objs.size+1) [] ⟨fun _ _ hm=>(nomatch hm),List.Pairwise.nil⟩ (by rw[Ji];exact HS _)
 rw[Ji]at ok
 have kp:∀b o,s3.heap.get? b=some o->(M6 (s3.heap.push {cls:=.type "dict", data:=.dict #[]}) scope.names).get? b=some o:=fun b o e=>pushCells_keeps _ _ b o (HK _ e)
 have hns₁:(M6 (s3.heap.push {cls:=.type "dict", data:=.dict #[]}) scope.names).Ns s3.heap.objs.size (fun _=>none):=(Heap.Ns.new s3.heap (.type "dict")).keeps (pushCells_keeps _ _)
 generalize M6 (s3.heap.push {cls:=.type "dict", data:=.dict #[]}) scope.names=h₁ at ok kp hns₁ ⊢
 have cs:∀x c,(JE (s3.heap.objs.size+1) scope.names cl).lookup x=some c->(JE (s3.heap.objs.size+1) scope.names []).lookup x=some c\/cl.lookup x=some c:=fun x c e=>by
  rw[bU,fG]at e
  cases q:(JE (s3.heap.objs.size+1) scope.names []).lookup x with
  | none=>rw[q]at e;exact .inr (by simpa using e)
  | some c'=>rw[q]at e;exact .inl (by simpa using e)
 have own:∀x c,(JE (s3.heap.objs.size+1) scope.names []).lookup x=some c->h₁.IsCell c none/\s3.heap.objs.size+1<=c:=fun x c e=>ok.empty x c (IV e)
 have clt:∀x c,cl.lookup x=some c->c<s3.heap.objs.size:=fun x c e=>by
  obtain⟨v,o,ho,_⟩:=I3.cell x c (cl1 x c e)
  exact HN ho
 have frn:∀x,scope.names.lookup x=some .free->(JE (s3.heap.objs.size+1) scope.names []).lookup x=none:=fun x e=>by
  cases q:(JE (s3.heap.objs.size+1) scope.names []).lookup x with
  | none=>rfl
  | some c =>
    have:=hcell (x,.cell) (dS (IV q)) rfl
    rw[e]at this
    cases this
 have notC:∀b o,s3.heap.get? b=some o->b≠s3.heap.objs.size:=fun b o e=>Iz (HN e)
 have fpstk:∀b∈fp,b∉frs X.stack:=fun b hb z=>(IC.mp (I3.stkSub b z)).elim (fpk b hb).1 (fpk b hb).2.1
 have cellK:∀c v,s3.heap.IsCell c v->h₁.IsCell c v:=fun c v ⟨o,ho,hd⟩=>⟨o,kp c o ho,hd⟩
 have IY:Inv (cP X N' scope cl fp (X.pn++pins) s3 H3) [] (rR fr σ) H3 {s3 with heap:=h₁}:=by
  refine⟨⟨I3.ok.mod,hkind,I3.ok.glob,I3.ok.blt,HS _,fun x y c e1 e2=>?_,fun x hx=>?_,fun x c _ e=>?_,I3.ok.hd,I3.ok.frames,.inl rfl,
   fun b hb=>⟨Iz (fp3 b hb),fun x c e=>?_⟩,I3.bs,JI I3.ok.bsz I3.sz,fun b o e hb=>?_,fun b hb=>fpstk b hb,I3.stack,I3.stkFree⟩,
   rfl,I3.bare,Un.kept kp,⟨_,hns₁,fun i x v e1 e2 e3=>?_⟩,fun x c e=>?_,I3.hok.fresh (HS _),fun x c e=>?_,fun p hp=>?_,I3.hok.kept kp,?_⟩
  · rcases cs x c e1 with q1|q1<;>rcases cs y c e2 with q2|q2
    · exact name_of_addr ok.apart (IV q1) (IV q2)
    · exact absurd (HJ (clt y c q2) (Kv (own x c q1).2)) (Jf _)
    · exact absurd (HJ (clt x c q1) (Kv (own y c q2).2)) (Jf _)
    · exact I3.ok.inj x y c (cl1 x c q1) (cl1 y c q2)
  · refine Ka.mp ?_
    show((JE (s3.heap.objs.size+1) scope.names cl).lookup x).isSome=true
    rcases jP hx with q|q
    · exact W.cellsFrom_some _ _ _ (.inr (cl2 x q))
    · exact W.cellsFrom_some _ _ _ (.inl (hcell _ q rfl))
  · rename_i hfn
    rcases cs x c e with q|q
    · have:=(own x c q).2
      show s3.heap.objs.size<=c
      omega
    · have hfn:(scope.names.lookup x==some JR)=true:=hfn
      have hl:scope.names.lookup x=some .cell:=by simpa using hfn
      obtain⟨c',ec'⟩:=Ka.mp (W.cellsFrom_some scope.names (s3.heap.objs.size+1) [] (.inl hl))
      have e':(JE (s3.heap.objs.size+1) scope.names cl).lookup x=some c:=e
      rw[bU,fG,ec']at e'
      simp at e'
      subst e'
      exact Kv (own x c' ec').2
  · rcases cs x c e with q|q
    · exact fun z=>absurd (HJ (fp3 b hb) (Kv (by rw[<- z];exact(own x c q).2))) (Jf _)
    · exact(fpk b hb).2.2.2.1 x c (cl1 x c q)
  · rcases(fpk b hb).2.2.1 with z|z
    · exact I3.ok.noex b o e z
    · exact absurd (HJ (HN e) (JI I3.ok.bsz z)) (Jf _)
  · have e2':(fr[i]?).map (fun o=>o.bind fun j=>(σ[j]?).join)=some (some v):=by unfold rR at e2;rw[Ix]at e2;exact e2
    cases ef:fr[i]? with
    | none=>rw[ef]at e2';cases e2'
    | some o =>
      cases o with
      | none=>rw[ef]at e2';cases e2'
      | some j =>
        rw[ef]at e2'
        have e3':(σ[j]?).join=some v:=Ii e2'
        have e4:σ[j]?=some (some v):=by
         cases q:σ[j]? with
         | none=>rw[q]at e3';cases e3'
         | some z=>rw[q]at e3';cases e3';rfl
        obtain⟨x',n1,n2,n3,n4⟩:=frg i j ef
        have ex:x'=x:=Ii (n1.symm.trans e1)
        subst ex
        obtain⟨m,hn,hl⟩:=I3.loc
        obtain⟨u,ru,lk⟩:=hl j x' v n2 e4 (n4.elim (fun z=>.inr (.inl z)) fun z=>.inr (.inr z))
        refine⟨u,ru,?_⟩
        rcases lk with⟨kl,_⟩|⟨_,c,ec,hcl⟩
        · exact absurd (show X.env.scope.names.lookup x'=some .local from kl) (by rcases n4 with z|z<;>rw[z]<;>decide)
        · obtain⟨c',ec'⟩:=Ka.mp (cl2 x' (mI n3))
          have:=cl1 x' c' ec'
          rw[ec]at this
          cases this
          refine .inr ⟨fO n3,c,?_,cellK _ _ hcl⟩
          show(JE (s3.heap.objs.size+1) scope.names cl).lookup x'=some c
          rw[bU,fG,frn x' n3]
          simpa using ec'
  · rcases cs x c e with q|q
    · exact⟨_,(own x c q).1⟩
    · obtain⟨v,z⟩:=I3.cell x c (cl1 x c q)
      exact⟨v,cellK _ _ z⟩
  · rcases cs x c e with q|q
    · exact I3.hok.fresh (by have:=(own x c q).2;omega)
    · exact I3.freeC x c (cl1 x c q)
  · rw[J9]at hp
    obtain⟨e,n,ne,nf,d⟩:=I3.pin p hp
    exact⟨kp _ _ e,n,notC _ _ e,fun z=>(IC.mp (I3.stkSub p.1 z)).elim ne nf,d⟩
  · unfold rR
    rw[HM]
    exact frl
 have stat:∀{H':Hp},(∀b∈fp,H' b=none)->∀b∈fp,mP (cP X N' scope cl fp (X.pn++pins) s3 H3) [] H' b:=fun hn b hb =>
  ⟨hn b hb,Iz (fp3 b hb),fpstk b hb,.inl hb,fun x c e=>(by
   rcases cs x c e with q|q
   · exact fun z=>absurd (HJ (fp3 b hb) (Kv (by rw[<- z];exact(own x c q).2))) (Jf _)
   · exact(fpk b hb).2.2.2.1 x c (cl1 x c q)),fun p hp=>by rw[J9]at hp;exact(fpk b hb).2.2.2.2 p hp⟩
 refine Ma (loop _ IY (T.keep _ _ _ tn3 fun b _ o e=>kp b o e) stat) fun r s5 ⟨hr,σ5,H4,I5,qn⟩=>?_
 subst hr
 obtain⟨m,hn,_⟩:=I5.loc
 refine fin s5 H4 m hn (fun h' hs'=>?_) (I3.fpOk (HS _) I5.free) qn
 have k':∀b o,b≠s3.heap.objs.size->s5.heap.get? b=some o->h'.get? b=some o:=fun b o nb e=>hs'.extBut b o nb e
 have u5:Un (frs X.stack) fp H3 H4 s3.heap s5.heap:=I5.base
 have un:Un (frs X.stack) fp H3 H4 s3.heap h' :=
  ⟨fun b o e n hb hx=>k' b o (notC b o e) (u5.keep b o e n hb hx),fun b o e n hb hx=>by obtain⟨sl,q⟩:=u5.slot b o e n hb hx;exact⟨sl,k' b _ (notC b o e) q⟩,u5.free,
   fun b o e hx=>by obtain⟨o',q⟩:=u5.there b o e hx;exact⟨o',k' b _ (notC b o e) q⟩,u5.tups,u5.frzs,u5.tbls⟩
 have nC:H4 s3.heap.objs.size=none:=I5.free
 have hok':Hl X.prog X.w H4 h':=fun b u e=>(I5.hok b u e).stay (fun c v hcv q=>k' c v (by
  rintro rfl
  rcases hcv with z|z
  · rw[<- z]at e;rw[nC]at e;cases e
  · rw[nC]at z;cases z) q) (fun _ q=>q) fun _ _ q=>q
 obtain⟨hh,g5,d5,t5,os5⟩:=s5
 have os':os5=s3.os:=I5.os
 subst os'
 have I':=Inv.call (s:=s3) (h':=h') (g':=g5) (d':=d5) (t':=t5) (ch:=fp) I3 un hok' I5.bare (fun b hb=>⟨(fpk b hb).2.2.1,(fpk b hb).1,(fpk b hb).2.2.2.1,(fpk b hb).2.2.2.2⟩)
 exact I'
theorem iD{elt:Expr}{ifs:List Expr}{g:TG}{tt:TT}{te:TE}{H3:Hp}{s3:HH}{D:Addr}{tn:Nat->Heap->Prop}{J:It}{Q:VK}
 {cl:List (Str×Addr)}(N':List Str)(fr:List (Option Nat))(hc:X.calm=true)(hkind:scope.kind = .function)(hcell:∀y∈scope.names,y.2 = .cell->scope.names.lookup y.1=some .cell)
 (hfree:∀y∈scope.names,y.2 = .free->X.env.kindOf y.1=some .cell\/X.env.kindOf y.1=some .free)(frl:fr.length=N'.length)
 (frg:∀(i j:Nat),fr[i]?=some (some j)->∃x,N'[i]?=some x/\X.N[j]?=some x/\scope.names.lookup x=some .free/\(X.env.scope.names.lookup x=some .cell\/X.env.scope.names.lookup x=some .free))
 (cl1:∀x c,cl.lookup x=some c->X.env.cells.lookup x=some c)(cl2:∀x,(x,IQ)∈scope.names->(cl.lookup x).isSome=true)
 (I3:Inv X pins σ H3 s3)(T:Turn X.prog X.w X.K tg J fp it tn)(tn3:tn 0 s3.heap)(fpD:∀b∈fp,H3 b=none)(fp3:∀b∈fp,b<s3.heap.objs.size)
 (fpk:∀b∈fp,b≠X.env.locals/\b∉X.fs/\(b∈X.ex\/X.s₀.heap.objs.size<=b)/\(∀x c,X.env.cells.lookup x=some c->c≠b)/\∀p∈X.pn++pins,p.1≠b)
 (hg:PG (cP X N' scope cl fp (X.pn++pins) s3 H3) tg g)(ht:GR (cP X N' scope cl fp (X.pn++pins) s3 H3) ifs tt)(he:PE (cP X N' scope cl fp (X.pn++pins) s3 H3) elt te)
 {Wv:Nat->Nat->List V->St->Hp->Prop}{m0:Nat}(w0:Wv 0 m0 [] (rR fr σ) H3)
 (turn:∀i m acc σc H,Wv i m acc σc H->(J.stop i H/\Q (.ref D) H)\/(J.go i H/\∀x H',J.yld i H x H'->g x σc H' fun σ2 H2=>tt σ2 H2 fun b H3 =>
  if b=true then te σ2 H3 fun y H4=>H4 D=some (.lst acc)/\acc.length<sizeLine/\∃m',m'<m/\Wv (i+1) m' (acc++[y]) σ2 (upd H4 D (.lst (acc++[y])))else ∃m',m'<m/\Wv (i+1) m' acc σ2 H3))
 {Rp:Addr->Result->HH->Prop}(fin:∀s5 H4 m,s5.heap.Ns s3.heap.objs.size m->(∀h',JY s3.heap.objs.size s5.heap h'->Inv X pins σ H4 {s5 with heap:=h' })->mP X pins H4 s3.heap.objs.size->Q (.ref D) H4->Rp s3.heap.objs.size (.ok .next) s5) :
 Im (IH X.prog X.w) X.A (LF scope X.env.globals cl [] X.env.qual none .none (some X.env)) (fun cenv s₄ =>
  L_ (IH X.prog X.w) X.A (.compStart (.ListComp elt [⟨tg,iter,ifs,0⟩] scope pos) 0 (.ref it) (.ref D) {cenv with scope:=relabel scope X.env})
   (Rp cenv.locals) s₄) X.xe s3:=by
 refine lm N' fr hc hkind hcell hfree frl frg cl1 cl2 I3 T tn3 fpD fp3 fpk (fun s' IY tY stat=>?_) fin
 have loop:L_ (IH X.prog X.w) X.A (.compLoop (.ListComp elt [⟨tg,iter,ifs,0⟩] scope pos) 0 (.ref it) (.ref D) (cP X N' scope cl fp (X.pn++pins) s3 H3).env)
  (fun r s5=>r = .ok .next/\∃σ5 H4,Inv (cP X N' scope cl fp (X.pn++pins) s3 H3) [] σ5 H4 s5/\Q (.ref D) H4) s':=by
  refine pM (fun n s'=>∃i acc σ' H',Inv (cP X N' scope cl fp (X.pn++pins) s3 H3) [] σ' H' s'/\tn i s'.heap/\(∀b∈fp,H' b=none)/\Wv i n acc σ' H') ?_ m0
   ⟨0,[],_,_,IY,tY,fpD,w0⟩
  rintro n s4 ⟨i,acc,σ4,H4,I4,st4,fr4,w4⟩
  rcases turn i n acc σ4 H4 w4 with⟨stop,qn⟩|⟨go,step⟩
  · exact Eg (T.done (cP X N' scope cl fp (X.pn++pins) s3 H3) rfl rfl rfl hc i [] s4 σ4 H4 (fun _ _=>False) I4 (stat fr4) st4 stop) fun r s5 ⟨hr,I5⟩=>.inl ⟨hr,rfl,σ4,H4,I5,qn⟩
  · refine Eg (T.item (cP X N' scope cl fp (X.pn++pins) s3 H3) rfl rfl rfl hc i [] s4 σ4 H4 (fun _ _=>False) I4 (stat fr4) st4 go) fun r s5 ⟨u,hr,h5⟩=>.inr ⟨u,hr,?_⟩
    refine Eg h5 fun _ s6 ⟨x,H6,I6,r6,y6,st6,fr6⟩=>?_
    have I6':=I6.pinned (stat fr6) (T.obj _ _ st6)
    have again:∀{σ7:St}{H7:Hp}{s7:HH},Inv (cP X N' scope cl fp (X.pn++pins) s3 H3) ([]++jV fp s6.heap) σ7 H7 s7->∀{acc':List V}{m':Nat},m'<n->Wv (i+1) m' acc' σ7 H7 ->
     ∃m,m<n/\∃i acc σ' H',Inv (cP X N' scope cl fp (X.pn++pins) s3 H3) [] σ' H' s7/\tn i s7.heap/\(∀b∈fp,H' b=none)/\Wv i m acc σ' H':=fun{σ7 H7 s7} I7 {acc' m'} hm w7=>by
     refine⟨m',hm,i+1,acc',σ7,H7,I7.unpinned,T.keep _ _ _ st6 fun b hb o e=>(I7.pin (b,o) (IK _ (IK _ (el hb e)))).1,fun b hb=>?_,w7⟩
     obtain⟨o,e,d⟩:=T.obj _ _ st6 b hb
     exact(I7.pin (b,o) (IK _ (IK _ (el hb e)))).2.1
    refine Eg (hg _ s6 σ4 H6 x u _ I6' r6 (step x H6 y6)) fun _ s7 ⟨σ7,H7,I7,q7⟩=>?_
    refine Eg (ht _ s7 σ7 H7 _ I7 q7) fun ok s8 ⟨H8,I8,q8⟩=>?_
    cases ok with
    | false =>
      rw[if_neg Iu]at q8 ⊢
      obtain⟨m',hm,w8⟩:=q8
      exact again I8 hm w8
    | true =>
      rw[if_pos rfl]at q8 ⊢
      refine Eg (he _ s8 σ7 H8 _ I8 q8) fun y s9 ⟨yv,H9,I9,r9,eD,hl,m',hm,w9⟩=>?_
      exact Eg (gC (X:=cP X N' scope cl fp (X.pn++pins) s3 H3) _ s9 σ7 H9 (.ref D) [yv] (.ref D) [y] (fun _ H'=>H'=upd H9 D (.lst (acc++[yv]))) I9 rfl (.cons r9 .nil) ⟨D,acc,yv,rfl,rfl,eD,hl,rfl⟩)
       fun _ s10 ⟨_,H10,I10,_,e10⟩=>by subst e10;exact again I10 hm w9
 exact codeAny_compStart_list loop (T.self X.A 0 _ _ _ tY loop)
section
variable{X:Cx}{elt tg iter:Expr}{ifs:List Expr}{scope:Scope}{pos:Pos}{wi:TI}{g:CompA->TG}{tt:CompA->TT}{te:CompA->TE}
theorem lI(N':List Str)(fr:List (Option Nat))(hc:X.calm=true)(hi:PI X tg iter wi)(hfr:vB fr N' X.N scope X.env.scope=true)(hsc:wW scope X.env.scope=true)
 (hg:∀y,PG (Gi X N' scope y) tg (g y))(ht:∀y,GR (Gi X N' scope y) ifs (tt y))(he:∀y,PE (Gi X N' scope y) elt (te y))
 (hs:∀x,JG iter X.env x=pure x:=by intro _;rfl):PE X (.ListComp elt [⟨tg,iter,ifs,0⟩] scope pos) (ug wi fr g tt te):=by
 intro pins s σ H Q I h
 obtain⟨sk,sn⟩:=Ib.mp hsc
 have hkind:scope.kind = .function:=of_decide_eq_true sk
 have hall:=Jq.mp sn
 have hcell:∀y∈scope.names,y.2 = .cell->scope.names.lookup y.1=some .cell:=fun y hy hl=>by
  rcases Jh.mp (Ib.mp (Ib.mp (hall y hy)).1).1 with z|z
  · exact absurd hl (of_decide_eq_true z)
  · exact of_decide_eq_true z
 have hnames:∀y∈scope.names,y.2 = .local->scope.names.lookup y.1=some .local:=fun y hy hl=>by
  rcases Jh.mp (Ib.mp (Ib.mp (hall y hy)).1).2 with z|z
  · exact absurd hl (of_decide_eq_true z)
  · exact of_decide_eq_true z
 have hfree:∀y∈scope.names,y.2 = .free->X.env.kindOf y.1=some .cell\/X.env.kindOf y.1=some .free:=fun y hy hl=>by
  rcases Jh.mp (Ib.mp (hall y hy)).2 with z|z
  · exact absurd hl (of_decide_eq_true z)
  · exact(Jh.mp z).imp of_decide_eq_true of_decide_eq_true
 obtain⟨frl,frg⟩:=vB.get hfr
 obtain⟨cl,hclos,cl1,cl2⟩:=gR (env:=X.env) (scope:=scope) fun y hy hl=>I.ok.has y.1 (hfree y hy hl)
 rw[eval_ListComp]
 refine LO (use:=none) rfl hs hclos hkind hnames (Eg (hi pins s σ H _ I h) fun v s1 h1=>Eg h1 fun itv s2 h2=>?_)
 obtain⟨it,fp,tn,J,H2,e,I2,T,st2,f2,q2⟩:=h2
 subst e
 refine Jk ?_
 have hD:H2 s2.heap.objs.size=none:=I2.hok.fresh (HS _)
 have I3:Inv X pins σ (upd H2 s2.heap.objs.size (.lst [])) {s2 with heap:=s2.heap.push {cls:=.type "list", data:=.seq ([]:List HE).toArray}} :=
  I2.laid (t':=s2.toks) (fun b u e=>HK _ e) (HS _) ⟨by show 0<=sizeLine;exact Ip _,[],0,.nil,HW _ rfl⟩
 obtain⟨Wv,⟨m0,w0⟩,turn⟩:=q2 _ hD
 have tn3:tn 0 (s2.heap.push {cls:=.type "list", data:=.seq ([]:List HE).toArray}):=T.keep _ _ _ st2 fun b _ o e=>HK _ e
 have fpD:∀b∈fp,(upd H2 s2.heap.objs.size (.lst [])) b=none:=fun b hb=>by
  obtain⟨o,e,_⟩:=T.obj _ _ st2 b hb
  rw[aA (Iz (HN e))]
  exact(f2 b hb).1
 have fp3:∀b∈fp,b<(s2.heap.push {cls:=.type "list", data:=.seq ([]:List HE).toArray}).objs.size:=fun b hb=>by
  obtain⟨o,e,_⟩:=T.obj _ _ tn3 b hb
  exact HN e
 exact iD N' fr hc hkind hcell hfree frl frg cl1 cl2 I3 T tn3 fpD fp3 (fun b hb=>(f2 b hb).2) (hg ⟨cl,fp,X.pn++pins,_,_⟩) (ht ⟨cl,fp,X.pn++pins,_,_⟩) (he ⟨cl,fp,X.pn++pins,_,_⟩) w0 (turn ⟨cl,fp,X.pn++pins,_,_⟩)
  (Rp:=compPost (IH X.prog X.w) X.A X.xe none (EP X pins σ Q) (.ref s2.heap.objs.size)) fun s5 H4 m hn k _ qn=>⟨m,hn,fun h' hs'=>⟨.ref _,H4,k h' hs',rfl,qn⟩⟩
theorem il{b:Bool}{spos:Pos}{ix:Nat}(N':List Str)(fr:List (Option Nat))(hc:X.calm=true)(hi:PI X tg iter wi)(hfr:vB fr N' X.N scope X.env.scope=true)(hsc:wW scope X.env.scope=true)
 (hg:∀y,PG (Gi X N' scope y) tg (g y))(ht:∀y,GR (Gi X N' scope y) ifs (tt y))(he:∀y,PE (Gi X N' scope y) elt (te y))(hN:X.N.Nodup)(hix:X.N[ix]?=some x)(hx:Loc X.env.scope x)
 (hf:X.fn x=true\/X.env.scope.names.lookup x=some .local)(hsw:JU (.ListComp elt [⟨tg,iter,ifs,0⟩] scope pos) (some (.Name x px)) spos.line X.env=pure b)
 (hs:∀x,JG iter X.env x=pure x):PS X (.Assign [.Name x px] (.ListComp elt [⟨tg,iter,ifs,0⟩] scope pos) spos) (zK (ug wi fr g tt te) (rK ix)):=by
 cases b with
 | false=>exact jS hN hix hx (lI N' fr hc hi hfr hsc hg ht he hs) hsw hf
 | true =>
 intro pins s σ H DD I h
 obtain⟨sk,sn⟩:=Ib.mp hsc
 have hkind:scope.kind = .function:=of_decide_eq_true sk
 have hall:=Jq.mp sn
 have hcell:∀y∈scope.names,y.2 = .cell->scope.names.lookup y.1=some .cell:=fun y hy hl=>by
  rcases Jh.mp (Ib.mp (Ib.mp (hall y hy)).1).1 with z|z
  · exact absurd hl (of_decide_eq_true z)
  · exact of_decide_eq_true z
 have hnames:∀y∈scope.names,y.2 = .local->scope.names.lookup y.1=some .local:=fun y hy hl=>by
  rcases Jh.mp (Ib.mp (Ib.mp (hall y hy)).1).2 with z|z
  · exact absurd hl (of_decide_eq_true z)
  · exact of_decide_eq_true z
 have hfree:∀y∈scope.names,y.2 = .free->X.env.kindOf y.1=some .cell\/X.env.kindOf y.1=some .free:=fun y hy hl=>by
  rcases Jh.mp (Ib.mp (hall y hy)).2 with z|z
  · exact absurd hl (of_decide_eq_true z)
  · exact(Jh.mp z).imp of_decide_eq_true of_decide_eq_true
 obtain⟨frl,frg⟩:=vB.get hfr
 obtain⟨cl,hclos,cl1,cl2⟩:=gR (env:=X.env) (scope:=scope) fun y hy hl=>I.ok.has y.1 (hfree y hy hl)
 rw[exec_Assign_Name_used _ _ _ _ hsw]
 refine HB (MG (HB ?_))
 show Im _ X.A (do let _ <- comprehension (.ListComp elt [⟨tg,iter,ifs,0⟩] scope pos) scope X.env _ (newList []) false (eval iter X.env) (some (ME (.Name x px) X.env))) _ _ s
 refine HB (JW (LO (use:=some (ME (.Name x px) X.env)) (Q:=fun _ s'=>SP X pins DD .next s') rfl hs hclos hkind hnames
  (Eg (hi pins s σ H _ I h) fun v s1 h1=>Eg h1 fun itv s2 h2=>?_)) (fun _ s' hq=>HQ (HQ hq)) fun _ _ e=>e)
 obtain⟨it,fp,tn,J,H2,e,I2,T,st2,f2,q2⟩:=h2
 subst e
 refine Jk ?_
 have hD:H2 s2.heap.objs.size=none:=I2.hok.fresh (HS _)
 have I3:Inv X pins σ (upd H2 s2.heap.objs.size (.lst [])) {s2 with heap:=s2.heap.push {cls:=.type "list", data:=.seq ([]:List HE).toArray}} :=
  I2.laid (t':=s2.toks) (fun b u e=>HK _ e) (HS _) ⟨by show 0<=sizeLine;exact Ip _,[],0,.nil,HW _ rfl⟩
 obtain⟨Wv,⟨m0,w0⟩,turn⟩:=q2 _ hD
 have tn3:tn 0 (s2.heap.push {cls:=.type "list", data:=.seq ([]:List HE).toArray}):=T.keep _ _ _ st2 fun b _ o e=>HK _ e
 have fpD:∀b∈fp,(upd H2 s2.heap.objs.size (.lst [])) b=none:=fun b hb=>by
  obtain⟨o,e,_⟩:=T.obj _ _ st2 b hb
  rw[aA (Iz (HN e))]
  exact(f2 b hb).1
 have fp3:∀b∈fp,b<(s2.heap.push {cls:=.type "list", data:=.seq ([]:List HE).toArray}).objs.size:=fun b hb=>by
  obtain⟨o,e,_⟩:=T.obj _ _ tn3 b hb
  exact HN e
 refine iD (Q:=fun v H1=>rK ix v σ H1 DD.nx) N' fr hc hkind hcell hfree frl frg cl1 cl2 I3 T tn3 fpD fp3 (fun b hb=>(f2 b hb).2) (hg ⟨cl,fp,X.pn++pins,_,_⟩) (ht ⟨cl,fp,X.pn++pins,_,_⟩) (he ⟨cl,fp,X.pn++pins,_,_⟩) w0 (turn ⟨cl,fp,X.pn++pins,_,_⟩)
  (Rp:=compPost (IH X.prog X.w) X.A X.xe (some (ME (.Name x px) X.env)) (fun _ s'=>SP X pins DD .next s') (.ref s2.heap.objs.size)) fun s5 H4 m hn k fpo qn=>?_
 show Im _ X.A (ME (.Name x px) X.env (.ref s2.heap.objs.size)) _ _ s5
 have I5:Inv X pins σ H4 s5:=k s5.heap (JY.refl _ _)
 obtain⟨f0,f1,f2',f3,f4,f5⟩:=fpo
 refine wpAny_assign_Name (jy I5 hN hix hx (v:=.ref s2.heap.objs.size) rfl (fun s6 I6 sb=>?_) hf)
 obtain⟨a,sb,ha⟩:=sb
 have hne:(s2.heap.push {cls:=.type "list", data:=.seq ([]:List HE).toArray}).objs.size≠a:=by
  rcases ha with rfl|ha
  · exact f1
  · exact fun z=>f4 x a ha z.symm
 refine⟨m,hn.at' fun o e=>sb.extBut _ o hne e,fun h' hs'=>?_⟩
 exact⟨_,H4,I6.turned (t':=s6.toks) (fun b o hb e=>hs'.extBut b o hb e) f0 f1 f3 f4 f5,qn⟩
end
end L2
namespace L2.VL
noncomputable def W.cap:W->Option W
 | .d x=>some (.d x)
 | .reel=>some .reel
 | .vv u=>some (.vv u)
 | .sc ns=>some (.sc ns)
 | .fd kvs=>some (.fd kvs)
 | .fw kvs=>some (.fw kvs)
 | .ft kvs=>some (.ft kvs)
 | .xc x fs=>some (.xc x fs)
 | .dp kvs x=>some (.dp kvs x)
 | _=>none
noncomputable def j9(fr:List (Option Nat))(ρ:En):En:=fr.map fun o=>o.bind fun j=>((ρ[j]?).join).bind W.cap
noncomputable def vV(X:Cx)(rl:RlT)(ifs:List Expr)(f:TB):Prop:=∃t,GR X ifs t/\∀{F₀ H₀ F H:Hp}{σ:St}{ρ:En},VR X.K rl F₀ H₀ F H σ ρ->∀(Qd:Bool->Prop)(Q:Bool->Hp->Prop),f ρ Qd ->
 (∀b F' H',Grow rl F H F' H'->Qd b->Q b H')->t σ H Q
theorem dr:vV X rl [] (fun _ Q=>Q true):=⟨_,uv,fun R Qd Q q k=>k true _ _ (Grow.refl R.sub R.reel) q⟩
theorem lv{c:Expr}{f:TB}(h:PB X rl c f):vV X rl [c] f:=let ⟨t,p,k⟩:=h;⟨t,uu p,k⟩
theorem gf{fr:List (Option Nat)}{w:W}(h:(j9 fr ρ)[i]?=some (some w)):∃j w',fr[i]?=some (some j)/\ρ[j]?=some (some w')/\w'.cap=some w:=by
 unfold j9 at h
 rw[Ix]at h
 cases ef:fr[i]? with
 | none=>rw[ef]at h;cases h
 | some o =>
   cases o with
   | none=>rw[ef]at h;cases h
   | some j =>
     rw[ef]at h
     have h':((ρ[j]?).join).bind W.cap=some w:=Ii h
     cases q:ρ[j]? with
     | none=>rw[q]at h';cases h'
     | some o =>
       cases o with
       | none=>rw[q]at h';cases h'
       | some w'=>rw[q]at h';exact⟨j,w',rfl,q,h'⟩
theorem lX{w' w:W}(h:w'.cap=some w):w=w'/\w.own=false/\∀xs,w ≠ .pk xs:=by
 cases w'<;>cases h<;>exact⟨rfl,rfl,(fun _ z=>by cases z)⟩
theorem lx{K:W.Frag}{fr:List (Option Nat)}(R:VR K rl F₀ H₀ F H σ ρ)(g:Grow rl F H F H'):VR K rl F H F H' (rR fr σ) (j9 fr ρ):=by
 refine⟨g,fun i w e=>?_,fun i j xs ys v _ e1 _ o1 _ _ _=>?_,fun i xs e=>?_,by simp[rR,j9]⟩
 · obtain⟨j,w',e1,e2,e3⟩:=gf e
   obtain⟨rfl,n1,n2⟩:=lX e3
   obtain⟨v,s1,r1,_⟩:=R.sl j w e2
   refine⟨v,?_,r1.grow g,?_⟩
   · unfold rR
     rw[Ix,e1]
     show some ((σ[j]?).join)=_
     rw[s1]
     rfl
   · cases w with
     | ml xs=>cases n1
     | md xs=>cases n1
     | mk xs=>cases n1
     | nt _=>trivial
     | lk=>trivial
     | sc _=>trivial
     | fd _=>trivial
     | fw _=>trivial
     | ft _=>trivial
     | xc _ _=>trivial
     | dp _ _=>trivial
     | d _=>trivial
     | pk _=>trivial
     | reel=>trivial
     | vv _=>trivial
 · obtain⟨_,_,_,_,e3⟩:=gf e1
   rw[(lX e3).2.1]at o1
   cases o1
 · obtain⟨_,_,_,_,e3⟩:=gf e
   exact absurd rfl ((lX e3).2.2 xs)
theorem iz{fr:List (Option Nat)}:mO (j9 fr ρ):=fun i xs e=>by
 obtain⟨_,_,_,_,e3⟩:=gf e
 exact(lX e3).2.1
theorem VR.other{K:W.Frag}(R:VR K rl F₀ H₀ F H σ ρ)(n:mO ρ){D:Addr}{o:HO}(h0:H₀ D=none)(f:F D=none)(hr:rl.a≠some D):VR K rl F₀ H₀ F (upd H D o) σ ρ:=by
 have neF:∀b u,F b=some u->b≠D:=fun b u q z=>by subst z;rw[f]at q;cases q
 have g:Grow rl F₀ H₀ F (upd H D o):=by
  refine⟨fun b o q1 n=>by rw[aA (bA q1 h0)];exact R.g.same b o q1 n,R.g.fs,fun b o q1=>by rw[aA (neF b o q1)];exact R.sub b o q1,R.g.old,fun y z=>?_⟩
  obtain⟨z1,⟨u,h1,h2⟩⟩:=R.reel y z
  exact⟨z1,⟨u,by rw[aA (fun q=>hr (by rw[<- q];exact z))];exact h1,h2⟩⟩
 refine⟨g,fun i w e=>?_,R.ap,R.np,R.len⟩
 obtain⟨v,h1,h2,h3⟩:=R.sl i w e
 refine⟨v,h1,?_,h3⟩
 cases w with
 | d x=>exact h2
 | reel=>exact h2
 | vv u=>exact h2
 | ml xs=>cases n i _ e
 | md xs=>cases n i _ e
 | mk xs=>cases n i _ e
 | nt ds=>exact h2
 | lk=>trivial
 | sc _=>exact h2
 | fd _=>exact h2
 | fw _=>exact h2
 | ft _=>exact h2
 | xc _ _=>exact h2
 | dp _ _=>exact h2
 | pk xs=>exact absurd e (R.np i xs)
section
variable{X:Cx}{rl:RlT}{elt tg iter:Expr}{ifs:List Expr}{scope:Scope}{pos:Pos}{fi:En->(List Hy->Prop)->Prop}{g:GC}{ft:TB}{fe:TV}
end
mutual
def za:Hy->Prop
 | .none=>True
 | .bool _=>True
 | .int i=>i.natAbs<2^1900
 | .str x=>MW x=true
 | .list xs=>jo xs
 | .tuple xs=>jo xs
 | .dict _=>False
def jo:List Hy->Prop
 | []=>True
 | x::xs=>za x/\jo xs
end
theorem mJ{k:Nat}(h:n<2^k)(hk:0<k):n.log2<k:=by
 by_cases h0:n=0
 · subst h0;simpa using hk
 · exact(Nat.log2_lt h0).mpr h
mutual
theorem za.facts:∀d:Hy,za d->d.showable=true/\d.canLay0=true/\d.hasDict=false/\d.leavesShort 1921=true
 | .none,_=>⟨rfl,rfl,rfl,rfl⟩
 | .bool _,_=>⟨rfl,rfl,rfl,rfl⟩
 | .int i,h=>by
   have hl:i.natAbs.log2<1920:=mJ (HJ (show i.natAbs<2^1900 from h) (HP (by decide) (by decide))) (by decide)
   refine⟨by simp[Lm,hl],rfl,rfl,?_⟩
   simp only[KS,decide_eq_true_eq]
   exact int_text_len_1921 hl
 | .str x,h=>by
   refine⟨rfl,(show IG (.str x)=true by simp only[IG];exact h),rfl,?_⟩
   have h:x.cps.all (· < 0x110000)=true:=h
   simp only[KS]
   rw[Jq]
   intro c hc
   have:=(KZ.mp h) c (by simpa using hc)
   simp at this ⊢
   omega
 | .list xs,h=>by
   obtain⟨a,b,c,d⟩:=jo.facts xs h
   exact⟨by simpa[Lm]using a,by simpa[IG]using b,by simpa[Hy.hasDict]using c,by simpa[KS]using d⟩
 | .tuple xs,h=>by
   obtain⟨a,b,c,d⟩:=jo.facts xs h
   exact⟨by simpa[Lm]using a,by simpa[IG]using b,by simpa[Hy.hasDict]using c,by simpa[KS]using d⟩
 | .dict _,h=>Jm h
theorem jo.facts:∀xs:List Hy,jo xs->Hy.showableAll xs=true/\Ih xs=true/\Hy.hasDictAll xs=false/\Mf 1921 xs=true
 | [],_=>⟨rfl,rfl,rfl,rfl⟩
 | x::xs,h=>by
   obtain⟨a,b,c,d⟩:=za.facts x h.1
   obtain⟨a',b',c',d'⟩:=jo.facts xs h.2
   exact⟨by simp[Hy.showableAll,a,a'],by simp[Ih,b,b'],by simp[Hy.hasDictAll,c,c'],by simp[Mf,d,d']⟩
end
noncomputable def GL(d:Hy):Prop:=za d/\d.depth<=60/\d.bulk<=8000
theorem GL.len(h:GL d):d.shown.length<=sizeLine:=by
 have q:=Hy.shown_le_bulk 1921 (by decide) d (za.facts d h.1).2.2.2
 have:=h.2.2
 have e:sizeLine=16777216:=by decide
 omega
section
variable{X:Cx}{rl:RlT}{a b e:Expr}{es:List Expr}{fa fb fc:TV}{fs:Gy}{pos p:Pos}
noncomputable def xi(K:W.Frag):List V->Hp->VK->Prop:=fun xs H Q=>∃x d,xs=[x]/\Rep K H x d/\GL d/\Q (.str d.shown) H
theorem pU(hgd:X.A.guards=some [])(hu:X.A.units+64<MI):eE X (.builtin "repr") (xi X.K):=by
 intro pins s σ H xs us Q I r ⟨x,d,ex,rx,sh,q⟩
 subst ex
 obtain⟨u,rfl,ru⟩:=vals1 r
 have fin:∀tk h' , (∀b o,s.heap.get? b=some o->h'.get? b=some o)->∀t,EP X pins σ Q (.str d.shown t) {s with heap:=h',toks:=tk}:=fun tk h' k t=>⟨.str d.shown,H,I.kept k,⟨t,rfl⟩,q⟩
 obtain⟨as,rd⟩:=Rep.reads I (.refl H) rx u ru
 have hs:=(za.facts d sh.1)
 cases rx with
 | non=>cases(show u=KG from ru);exact P.repr_of_none (fin _ _ (fun _ _ e=>e) _)
 | bl b=>cases(show u=LJ b from ru);exact P.repr_of_bool (fin _ _ (fun _ _ e=>e) _)
 | int i =>
   obtain⟨t,e⟩:=(show ∃t,u=MB i t from ru)
   cases e
   exact P.repr_of_int (by simpa[Lm]using hs.1) (fin _ _ (fun _ _ e=>e) _)
 | str x =>
   obtain⟨t,e⟩:=(show ∃t,u=MC x t from ru)
   cases e
   exact P.repr_of_str (fin _ _ (fun _ _ e=>e) _) sh.len
 | tup sq rs =>
   cases(show u=J7 _ from ru)
   exact repr_of_reads' rd hs.1 (Hy.noDict_hsm hs.2.2.1) hgd (by have:=sh.2.1;omega) (fun _ _ e=>e) (fun h' t tk hk=>fin tk h' hk t) sh.len
 | lst sq rs =>
   cases(show u=J7 _ from ru)
   exact repr_of_reads' rd hs.1 (Hy.noDict_hsm hs.2.2.1) hgd (by have:=sh.2.1;omega) (fun _ _ e=>e) (fun h' t tk hk=>fin tk h' hk t) sh.len
noncomputable def rG:List W->(W->Prop)->Prop:=fun ws Q=>∃w d,ws=[w]/\w.dat=some d/\GL d/\Q (.d (.str d.shown))
theorem tV:fL X rl (xi X.K) rG:=fun{F H vs ws} Qd Q s ra r ⟨w,d,ew,e1,sh,q⟩ k=>by
 subst ew
 obtain⟨v,rfl,r1⟩:=nV r
 exact⟨v,d,rfl,r1.dat s e1,sh,k _ (.d _) _ _ (Grow.refl s ra) (.str _) trivial q⟩
theorem lC(hr:Room 0 X.A)(hm:X.mg "repr" = none)(ha:GP X rl [e] fs)(hg:Gl X "repr" := by rfl)(he:HL [e] X.env=(false,eval e X.env)::HL [] X.env:=by rfl)(hpl:(Jv pos (HL [] X.env)).any (·.1)=false:=by rfl) :
 PV X rl (.Call (.Name "repr" p) [e] [] pos) (eB rG fs):=dI (pU hr.gd hr.units) tV hm (by first|rfl|exact boot_repr) ha hg (by decide) (by decide) he hpl
noncomputable def D9:Hy->String
 | .none => "NoneType"
 | .bool _ => "bool"
 | .int _ => "int"
 | .str _ => "str"
 | .list _ => "list"
 | .tuple _ => "tuple"
 | .dict _ => "dict"
noncomputable def qj(d:Hy)(T:String):Bool:=D9 d==T||(D9 d == "bool" && T == "int")
noncomputable def wC(T:String):Bool:=["int", "bool", "str", "list", "tuple"].contains T
theorem kit_ok{K:W.Frag}{T:String}(hd:∀kvs,d ≠ .dict kvs)(h:wC T=true):W.kitOne K (.type (D9 d)) (.type T)=some (qj d T):=by
 have h:T = "int" \/ T = "bool" \/ T = "str" \/ T = "list" \/ T = "tuple" := by simpa[wC]using h
 cases d with
 | dict kvs=>exact absurd rfl (hd kvs)
 | none=>rcases h with rfl|rfl|rfl|rfl|rfl<;>rfl
 | bool b=>rcases h with rfl|rfl|rfl|rfl|rfl<;>rfl
 | int b=>rcases h with rfl|rfl|rfl|rfl|rfl<;>rfl
 | str b=>rcases h with rfl|rfl|rfl|rfl|rfl<;>rfl
 | list b=>rcases h with rfl|rfl|rfl|rfl|rfl<;>rfl
 | tuple b=>rcases h with rfl|rfl|rfl|rfl|rfl<;>rfl
noncomputable def Cj(K:W.Frag):List V->Hp->VK->Prop:=fun xs H Q=>∃x d T,xs=[x,.ty T]/\Rep K H x d/\wC T=true/\Q (.bl (qj d T)) H
theorem se:eE X (.builtin "isinstance") (Cj X.K):=by
 intro pins s σ H xs us Q I r ⟨x,d,T,ex,rx,ok,q⟩
 subst ex
 obtain⟨u,u2,rfl,ru,ru2⟩:=vals2 r
 cases(show u2=HE.type T from ru2)
 have fin:∀tk,EP X pins σ Q (.bool (qj d T)) {s with toks:=tk}:=fun tk=>⟨.bl _,H,I.tok tk,rfl,q⟩
 obtain⟨as,rd⟩:=Rep.reads I (.refl H) rx u ru
 cases rd with
 | none=>exact W.kia_one W.kitx_none I.kIn Ku (kit_ok (d:=Hy.none) (fun _ z=>by cases z) ok) (fun z=>nomatch z) fin
 | bool b=>exact W.kia_one W.kitx_bool I.kIn Ku (kit_ok (d:=Kg b) (fun _ z=>by cases z) ok) (fun z=>nomatch z) fin
 | int i t=>exact W.kia_one W.kitx_int I.kIn Ku (kit_ok (d:=Io i) (fun _ z=>by cases z) ok) (fun z=>nomatch z) fin
 | str y t=>exact W.kia_one W.kitx_str I.kIn Ku (kit_ok (d:=Mn y) (fun _ z=>by cases z) ok) (fun z=>nomatch z) fin
 | list h1 h2 h3 h4=>exact W.kia_one W.kitx_list I.kIn ⟨_,h1,h2⟩ (kit_ok (d:=Hy.list _) (fun _ z=>by cases z) ok) (fun z=>nomatch z) fin
 | tuple h1 h2 h3 h4=>exact W.kia_one W.kitx_tuple I.kIn ⟨_,h1,h2⟩ (kit_ok (d:=Jc _) (fun _ z=>by cases z) ok) (fun z=>nomatch z) fin
 | dict h1 h2 h3 h4 h5=>cases rx
noncomputable def yV:List W->(W->Prop)->Prop:=fun ws Q=>∃w d T,ws=[w,.vv (.ty T)]/\w.dat=some d/\wC T=true/\Q (.d (.bool (qj d T)))
theorem wb:fL X rl (Cj X.K) yV:=fun{F H vs ws} Qd Q s ra r ⟨w,d,T,ew,e1,ok,q⟩ k=>by
 subst ew
 obtain⟨v,u,rfl,r1,r2⟩:=zN r
 cases(show u=V.ty T from r2)
 exact⟨v,d,T,rfl,r1.dat s e1,ok,k _ (.d _) _ _ (Grow.refl s ra) (.bl _) trivial q⟩
theorem gk(hm:X.mg "isinstance" = none)(ha:GP X rl [a,b] fs)(hg:Gl X "isinstance" := by rfl)(he:HL [a,b] X.env=(false,eval a X.env)::HL [b] X.env:=by rfl)(hpl:(Jv pos (HL [b] X.env)).any (·.1)=false:=by rfl) :
 PV X rl (.Call (.Name "isinstance" p) [a,b] [] pos) (eB yV fs):=dI se wb hm (by first|rfl|exact boot_isinstance) ha hg (by decide) (by decide) he hpl
theorem cv(hm:X.mg "len" = none)(ha:GP X rl [a] fs)(hg:Gl X "len" := by rfl)(he:HL [a] X.env=(false,eval a X.env)::HL [] X.env:=by rfl)(hpl:(Jv pos (HL [] X.env)).any (·.1)=false:=by rfl) :
 PV X rl (.Call (.Name "len" p) [a] [] pos) (eB yU fs):=dI ke wa hm boot_len ha hg (by decide) (by decide) he hpl
theorem wn(hm:X.mg "abs" = none)(ha:GP X rl [a] fs)(hg:Gl X "abs" := by rfl)(he:HL [a] X.env=(false,eval a X.env)::HL [] X.env:=by rfl)(hpl:(Jv pos (HL [] X.env)).any (·.1)=false:=by rfl) :
 PV X rl (.Call (.Name "abs" p) [a] [] pos) (eB y8 fs):=dI sr wd hm (by first|rfl|exact boot_abs) ha hg (by decide) (by decide) he hpl
end
structure FnIn (K:W.Frag) (mg:Str->Option HE) (x:Str) (st:Stmt) (ps:List Str):Prop where
 ex:∃f fd,mg x=some (.ref f)/\Fun K x x st f fd/\Binds K fd ps []
structure Bz (mg:Str->Option HE):Prop where
 int_:mg "int" = none
 bool_:mg "bool" = none
 str_:mg "str" = none
 list_:mg "list" = none
 tuple_:mg "tuple" = none
 dict_:mg "dict" = none
 isinstance_:mg "isinstance" = none
 len_:mg "len" = none
 abs_:mg "abs" = none
 repr_:mg "repr" = none
 range_:mg "range" = none
 all_:mg "all" = none
 any_:mg "any" = none
 sum_:mg "sum" = none
 min_:mg "min" = none
 max_:mg "max" = none
 sorted_:mg "sorted" = none
 zip_:mg "zip" = none
 enumerate_:mg "enumerate" = none
 reversed_:mg "reversed" = none
 divmod_:mg "divmod" = none
 set_:mg "set" = none
section
variable{P:Ie}{w:II}{K:W.Frag}{mg:Str->Option HE}{base:Heap}{rl:RlT}{x:Str}{st:Stmt}{N ps:List Str}{k:Nat}{Pd:List W->(Hy->Prop)->Prop}{t:Gz}
theorem Dfn.of(Fn:FnIn K mg x st ps)(S:FnScope N ps (defScope st))(mono:∀ws Q Q',(∀d,Q d->Q' d)->Pd ws Q->Pd ws Q')(len:∀ws Q,Pd ws Q->ws.length=ps.length)
 (hbody:∀{f:Addr}(cdv:HE)(A:Jb)(outer:List Env)(s:HH)(H:Hp)(E:XK),Room k (A.deeper (Mb x (defScope st) s.heap.objs.size f cdv)) ->
  lY (qm Hq P w K mg base N x (defScope st) f cdv A outer s H E).nox rl (defBody st) t)
 (hread:∀ws Q,Pd ws Q->t (qA Q) (eJ N ws)):Dfn P w K mg base rl x ps (k+1) Pd:=by
 obtain⟨f,fd,hm,F,hb⟩:=Fn.ex
 exact⟨mono,f,fd,hm,F.kp,hb,DY F S len hbody hread⟩
end
section
variable{X:Cx}{rl:RlT}{e:Expr}{es:List Expr}{fa fb fc:TV}{fs:Gy}{pos p:Pos}
end
theorem fz_d(x:Hy):(W.d x).fz = .d x:=rfl
theorem fz_ml(x:List Hy):(W.ml x).fz = .d (.list x):=rfl
theorem fz_pk(x:List Hy):(W.pk x).fz = .pk x:=rfl
theorem fz_reel:W.reel.fz = .reel:=rfl
theorem fz_vv(x:V):(W.vv x).fz = .vv x:=rfl
theorem pk_d(x:Hy):L2.VL.W.peek (.d x) = .d x:=rfl
theorem pk_ml(x:List Hy):L2.VL.W.peek (.ml x) = .pk x:=rfl
theorem pk_reel:L2.VL.W.peek .reel = .reel:=rfl
theorem pk_vv(x:V):L2.VL.W.peek (.vv x) = .vv x:=rfl
theorem dat_d(x:Hy):(W.d x).dat=some x:=rfl
theorem dat_ml(x:List Hy):(W.ml x).dat=some (.list x):=rfl
theorem dat_pk(x:List Hy):(W.pk x).dat=some (.list x):=rfl
theorem isPk_d(x:Hy):(W.d x).isPk=false:=rfl
theorem isPk_ml(x:List Hy):(W.ml x).isPk=false:=rfl
theorem isPk_reel:W.reel.isPk=false:=rfl
theorem dats_nil:jp []=some []:=rfl
theorem dats_d(x:Hy)(r:List W):jp (.d x::r)=(jp r).map (x :: ·):=rfl
theorem arg_d(x:Hy):gT (.d x)=true:=rfl
theorem arg_reel:gT .reel=true:=rfl
theorem item_l(xs:List Hy)(i:Int):L2.VL.itemAt (.list xs) i=L2.atI xs i:=rfl
theorem item_t(xs:List Hy)(i:Int):L2.VL.itemAt (.tuple xs) i=L2.atI xs i:=rfl
theorem len_l(xs:List Hy):mT (.list xs)=some xs.length:=rfl
theorem len_t(xs:List Hy):mT (.tuple xs)=some xs.length:=rfl
theorem at0{α:Type}(x:α)(r:List α):L2.atI (x::r) 0=some x:=by simp[L2.atI,L2.ixN]
theorem at1{α:Type}(x y:α)(r:List α):L2.atI (x::y::r) 1=some y:=by
 have:(1:Int)<((x::y::r).length:Int):=by simp;omega
 simp only[L2.atI,L2.ixN]
 rw[if_pos (by decide),if_pos this]
 rfl
theorem gJ{x y:Int}(h:y≠0):(x.fmod y).natAbs<y.natAbs:=by
 rcases Int.lt_or_gt_of_ne h with hy|hy
 · have h1:=Mg x y
   have e:x.fmod y = -((-x).fmod (-y)):=by
    have:=Int.neg_fmod_neg x y
    omega
   have p:0 < -y:=by omega
   have b1:=Jn (-x) p
   have b2:=J0 (-x) p
   omega
 · have b1:=Jn x hy
   have b2:=J0 x hy
   omega
theorem lT(x y:Int):Ju y (x.fmod y)=Ju x y:=by
 have e:x.fmod y=x+y*(-(x.fdiv y)):=by
  have:=Mg x y
  rw[Int.mul_neg]
  omega
 rw[e,Int.gcd_add_mul_left_right]
 exact Int.gcd_comm y x
theorem eqv_ii(a b:Int):HC (.int a) (.int b)=(a==b):=by simp[HC]
theorem yo(a b:Str):HC (.str a) (.str b)=(a==b):=by simp[HC]
theorem shaped_i(a:Int):HI (.int a)=true:=rfl
theorem shaped_b(a:Bool):HI (.bool a)=true:=rfl
theorem hX.of{i j:Int}(h:j≠0)(b:j.natAbs<2^64):hX i j:=⟨h,HJ b (HP (by decide) (by decide))⟩
theorem gS:∀ns:List Int,Ih (ns.map Io)=true
 | []=>rfl
 | n::ns=>by simp[Ih,IG,gS ns]
theorem iC:∀ns:List Int,IE (ns.map Io)=0
 | []=>rfl
 | n::ns=>by simp[IE,JB,iC ns]
theorem shaped_ints(ns:List Int):HI (.list (ns.map .int))=true:=by simp[HI,IG,JB,gS,iC]
theorem kZ(ns:List Hy):HC (.list ns) (.list [])=ns.isEmpty:=by cases ns<;>simp[HC,Hy.eqvAll]
theorem vw{a b:Int}(h:b≠0):0<(Ju a b:Int):=by
 have:=Int.gcd_pos_of_ne_zero_right a h
 omega
theorem yi{a b:Int}(h:b≠0):(Ju a b)<=b.natAbs:=Nat.le_of_dvd (by omega) (Int.gcd_dvd_natAbs_right a b)
theorem bX(s:String):MW (Hw s)=true:=by
 unfold MW
 rw[Str.ofString_eq_toList]
 simp only[KZ]
 intro c hc
 have hc:c∈s.toList.map Char.toNat:=List.mem_toArray.mp hc
 obtain⟨d,_,rfl⟩:=IM.mp hc
 have:=d.valid
 have h:d.val.toNat<0x110000:=by
  rcases this with h|h
  · have:d.val.toNat<0xd800:=h
    omega
  · exact h.2
 exact decide_eq_true h
theorem mM{xs:List α}{k:Int}(h0:0<=k)(h1:k<(xs.length:Int)):∃z,L2.atI xs k=some z/\z∈xs:=by
 obtain⟨n,rfl⟩:=JA h0
 have hn:n<xs.length:=by omega
 exact⟨xs[n],bG (HZ hn),Jr hn⟩
theorem gu{K:W.Frag}{i:Str}(h:Rep K F v (.str i)):v = .str i:=by cases h;rfl
noncomputable def yY(neg:Bool):W->W->(W->Prop)->Prop:=fun x y Q=>∃a b:Str,x = .d (.str a)/\y = .d (.str b)/\Q (.d (.bool (if neg then !decide (a=b)else decide (a=b))))
theorem cr:Gw X rl EK (yY false):=fun{F H x y wx wy} Qd Q s ra r1 r2 q k=>by
 obtain⟨a,b,rfl,rfl,q⟩:=q
 have e1:=gu r1
 have e2:=gu r2
 subst e1 e2
 have e:decide (V.str a=V.str b)=decide (a=b):=by
  by_cases h:a=b
  · subst h;simp
  · rw[decide_eq_false h,decide_eq_false fun z=>h (by injection z)]
 exact⟨rfl,by rw[e];exact k _ (.d _) _ _ (Grow.refl s ra) (.bl _) trivial q⟩
theorem h7:Gw X rl EH (yY true):=fun{F H x y wx wy} Qd Q s ra r1 r2 q k=>by
 obtain⟨a,b,rfl,rfl,q⟩:=q
 have e1:=gu r1
 have e2:=gu r2
 subst e1 e2
 have e:decide (V.str a=V.str b)=decide (a=b):=by
  by_cases h:a=b
  · subst h;simp
  · rw[decide_eq_false h,decide_eq_false fun z=>h (by injection z)]
 exact⟨rfl,by rw[e];exact k _ (.d _) _ _ (Grow.refl s ra) (.bl _) trivial q⟩
section
variable{P:Ie}{w:II}{K:W.Frag}{mg:Str->Option HE}{base:Heap}{rl:RlT}{x:Str}{st:Stmt}{N ps:List Str}{k:Nat}{Pd:List W->(List Hy->Prop)->Prop}{t:Gz}
end
section
variable{X:Cx}{rl:RlT}{e:Expr}{es:List Expr}{fs:Gy}{pos p:Pos}
theorem ux(X:Cx)(rest:List Stmt):GS X rest (fun D σ H=>∀pins s,Inv X pins σ H s->Im (IH X.prog X.w) X.A (execs rest X.env) (SP X pins D) X.xe s):=fun pins s σ H D I h=>h pins s I
end
section
variable{X:Cx}{rl:RlT}{a b c e:Expr}{es:List Expr}{fa fb fc:TV}{fs:Gy}{pos p:Pos}
noncomputable def fU:Hy->Option (List Hy)
 | .list xs=>some xs
 | .tuple xs=>some xs
 | _=>none
theorem seq_l(xs:List Hy):fU (.list xs)=some xs:=rfl
theorem seq_t(xs:List Hy):fU (.tuple xs)=some xs:=rfl
theorem fU.of{o:Option Hy}(h:o=some d)(e:fU d=some xs):o=some (.list xs)\/o=some (.tuple xs):=by
 cases d<;>cases e
 · exact .inl h
 · exact .inr h
noncomputable def rF:List W->(W->Prop)->Prop:=fun ws Q=>∃w d xs,ws=[w]/\w.dat=some d/\fU d=some xs/\Q (.d (.tuple xs))
theorem v9:fL X rl (fun xs H Q=>∃p ys,xs=[.ref p]/\((GF X.K H p ys/\∀l,H l=none->Q (.ref l) (upd H l (.tup ys)))\/(GE X.K H p ys/\Q (.ref p) H))) rF:=fun{F H vs ws} Qd Q s ra r ⟨w,d,xs,ew,ed1,ed2,q⟩ k=>by
 have ed:=fU.of ed1 ed2
 subst ew
 obtain⟨v,rfl,r1⟩:=nV r
 rcases ed with ed|ed
 · obtain⟨a,us,rfl,sq,rs⟩:=r1.items s ed
   refine⟨a,us,rfl,.inl ⟨sq,fun l hl=>?_⟩⟩
   have g:=Grow.data (a:=l) (o:=.tup us) s ra hl
   exact k _ (.d (.tuple xs)) _ _ g (.tup (.inl (.inl aJ)) (rs.mono g.fs)) trivial q
 · cases w with
   | d y =>
     cases ed
     cases(show Rep X.K F v (.tuple xs)from r1)with
     | tup sq rs=>exact⟨_,_,rfl,.inr ⟨eY s sq,k _ (.d (.tuple xs)) _ _ (Grow.refl s ra) (.tup sq rs) trivial q⟩⟩
   | ml ys=>cases ed
   | pk ys=>cases ed
   | reel=>cases ed
   | vv u=>cases ed
   | md u=>cases ed
   | mk u=>cases ed
   | lk=>cases ed
   | sc _=>cases ed
   | fd _=>cases ed
   | fw _=>cases ed
   | ft _=>cases ed
   | xc _ _=>cases ed
   | dp _ _=>cases ed
   | nt ds =>
     cases ed
     obtain⟨b,us,rfl,h,q'⟩:=r1
     exact⟨_,_,rfl,.inr ⟨.inl (.inl (s _ _ h)),k _ (.d (.tuple xs)) _ _ (Grow.refl s ra) (.tup (.inl (.inl h)) q') trivial q⟩⟩
theorem gi(hm:X.mg "tuple" = none)(ha:GP X rl [a] fs)(hg:Gl X "tuple" := by rfl)(he:HL [a] X.env=(false,eval a X.env)::HL [] X.env:=by rfl)(hpl:(Jv pos (HL [] X.env)).any (·.1)=false:=by rfl) :
 PV X rl (.Call (.Name "tuple" p) [a] [] pos) (eB rF fs):=iR jl v9 hm (by rfl) ha hg (by decide) (by decide) he hpl
noncomputable def rL:List W->(W->Prop)->Prop:=fun ws Q=>∃w d xs,ws=[w]/\w.dat=some d/\fU d=some xs/\Q (.ml xs)
theorem v_:fL X rl (fun xs H Q=>∃p ys,xs=[.ref p]/\(GF X.K H p ys\/GE X.K H p ys)/\∀l,H l=none->Q (.ref l) (upd H l (.lst ys))) rL:=fun{F H vs ws} Qd Q s ra r ⟨w,d,xs,ew,ed1,ed2,q⟩ k=>by
 have ed:=fU.of ed1 ed2
 subst ew
 obtain⟨v,rfl,r1⟩:=nV r
 rcases ed with ed|ed
 · obtain⟨a,us,rfl,sq,rs⟩:=r1.items s ed
   exact⟨a,us,rfl,.inl sq,fun l hl=>k _ (.ml xs) _ _ (Grow.laid s ra hl) (dP s ra hl rs) (fun a ea=>by cases ea;exact hl) q⟩
 · obtain⟨a,us,rfl,sq,rs⟩:=r1.itemsT s ed
   exact⟨a,us,rfl,.inr sq,fun l hl=>k _ (.ml xs) _ _ (Grow.laid s ra hl) (dP s ra hl rs) (fun a ea=>by cases ea;exact hl) q⟩
theorem qx(hm:X.mg "list" = none)(ha:GP X rl [a] fs)(hg:Gl X "list" := by rfl)(he:HL [a] X.env=(false,eval a X.env)::HL [] X.env:=by rfl)(hpl:(Jv pos (HL [] X.env)).any (·.1)=false:=by rfl) :
 PV X rl (.Call (.Name "list" p) [a] [] pos) (eB rL fs):=iR kd v_ hm (by rfl) ha hg (by decide) (by decide) he hpl
end
section
variable{X:Cx}{rl:RlT}
theorem sU:G1 X (Js .Is) (fun x y H Q=>∃b c,x = .bl b/\y = .bl c/\Q (.bl (b==c)) H):=by
 intro pins s σ H x y v u Q I rx ry ⟨b,c,ex,ey,q⟩
 subst ex ey
 cases(show v=LJ b from rx)
 cases(show u=LJ c from ry)
 exact is_bool ⟨.bl _,H,I,rfl,q⟩
noncomputable def Av:W->W->(W->Prop)->Prop:=fun x y Q=>∃b c,x = .d (.bool b)/\y = .d (.bool c)/\Q (.d (.bool (b==c)))
theorem sB:Gw X rl (fun x y H Q=>∃b c,x = .bl b/\y = .bl c/\Q (.bl (b==c)) H) Av:=fun{F H x y wx wy} Qd Q s ra r1 r2 q k=>by
 obtain⟨b,c,rfl,rfl,q⟩:=q
 exact⟨b,c,eK r1,eK r2,k _ (.d _) _ _ (Grow.refl s ra) (.bl _) trivial q⟩
end
section
variable{X:Cx}{rl:RlT}{a b c e:Expr}{es:List Expr}{fa fb fc:TV}{fs:Gy}{pos p p2:Pos}
noncomputable def FU(f:Int->Int->Hy):List W->(W->Prop)->Prop:=fun ws Q=>∃i j,ws=[.d (.int i),.d (.int j)]/\Q (.d (f i j))
theorem wc{f:Int->Int->V}{g:Int->Int->Hy}(h:∀K F i j,Rep K F (f i j) (g i j)):fL X rl (fun xs H Q=>∃i j,xs=[.int i,.int j]/\Q (f i j) H) (FU g):=fun{F H vs ws} Qd Q s ra r ⟨i,j,ew,q⟩ k=>by
 subst ew
 obtain⟨v,u,rfl,r1,r2⟩:=zN r
 have e1:=bC r1
 have e2:=bC r2
 subst e1 e2
 exact⟨i,j,rfl,k _ (.d _) _ _ (Grow.refl s ra) (h _ _ i j) trivial q⟩
theorem wm(hm:X.mg "max" = none)(ha:GP X rl [a,b] fs)(hc:X.calm=true:=by rfl)(hg:Gl X "max" := by rfl)(he:HL [a,b] X.env=(false,eval a X.env)::HL [b] X.env:=by rfl)(hpl:(Jv pos (HL [b] X.env)).any (·.1)=false:=by rfl) :
 PV X rl (.Call (.Name "max" p) [a,b] [] pos) (eB (FU fun i j=>.int (max i j)) fs) :=
 dI (pX hc) (wc (f:=fun i j=>.int (if j>i then j else i)) fun _ _ i j=>(show(if j>i then j else i)=max i j by split<;>omega) ▸ .int _) hm (by rfl) ha hg (by decide) (by decide) he hpl
theorem wk(hm:X.mg "min" = none)(ha:GP X rl [a,b] fs)(hc:X.calm=true:=by rfl)(hg:Gl X "min" := by rfl)(he:HL [a,b] X.env=(false,eval a X.env)::HL [b] X.env:=by rfl)(hpl:(Jv pos (HL [b] X.env)).any (·.1)=false:=by rfl) :
 PV X rl (.Call (.Name "min" p) [a,b] [] pos) (eB (FU fun i j=>.int (min i j)) fs) :=
 dI (pW hc) (wc (f:=fun i j=>.int (if j<i then j else i)) fun _ _ i j=>(show(if j<i then j else i)=min i j by split<;>omega) ▸ .int _) hm (by rfl) ha hg (by decide) (by decide) he hpl
noncomputable def rM:List W->(W->Prop)->Prop:=fun ws Q=>(∃i,ws=[.d (.int i)]/\Q (.d (.int i)))\/∃k:Bool,ws=[.d (.bool k)]/\Q (.d (.int (if k then 1 else 0)))
theorem tX:fL X rl (fun xs H Q=>(∃i,xs=[.int i]/\Q (.int i) H)\/∃k,xs=[.bl k]/\Q (.int (if k then 1 else 0)) H) rM:=fun{F H vs ws} Qd Q s ra r h k=>by
 rcases h with⟨i,ew,q⟩|⟨i,ew,q⟩
 · subst ew
   obtain⟨v,rfl,r1⟩:=nV r
   have e1:=bC r1
   subst e1
   exact .inl ⟨i,rfl,k _ (.d _) _ _ (Grow.refl s ra) (.int _) trivial q⟩
 · subst ew
   obtain⟨v,rfl,r1⟩:=nV r
   have e1:=eK r1
   subst e1
   exact .inr ⟨i,rfl,k _ (.d _) _ _ (Grow.refl s ra) (.int _) trivial q⟩
theorem eF(hm:X.mg "int" = none)(ha:GP X rl [a] fs)(hg:Gl X "int" := by rfl)(he:HL [a] X.env=(false,eval a X.env)::HL [] X.env:=by rfl)(hpl:(Jv pos (HL [] X.env)).any (·.1)=false:=by rfl) :
 PV X rl (.Call (.Name "int" p) [a] [] pos) (eB rM fs):=iR pY tX hm (by rfl) ha hg (by decide) (by decide) he hpl
noncomputable def cutD(xs:List Hy)(lo hi:Option Int):List Hy:=(xs.drop (HT.sIx xs.length 0 lo)).take (HT.sIx xs.length xs.length hi-HT.sIx xs.length 0 lo)
theorem Reps.cut{K:W.Frag}{ds:List Hy}(r:Reps K F vs ds)(lo hi:Option Int):Reps K F (rY vs lo hi) (cutD ds lo hi):=by
 unfold rY cutD
 rw[r.length]
 exact(r.drop _).take _
abbrev GB:=En->(Option Int->Prop)->Prop
noncomputable def GQ(X:Cx)(rl:RlT)(o:Option Expr)(f:GB):Prop:=∃t,PO X o t/\∀{F₀ H₀ F H:Hp}{σ:St}{ρ:En},VR X.K rl F₀ H₀ F H σ ρ->∀(Qd:Option Int->Prop)(Q:Option Int->Hp->Prop),f ρ Qd ->
 (∀o F' H',Grow rl F H F' H'->Qd o->Q o H')->t σ H Q
noncomputable def E6:GB:=fun _ Q=>Q none
noncomputable def E7(fa:TV):GB:=fun ρ Q=>fa ρ fun w=>∃i,w = .d (.int i)/\Q (some i)
theorem cR:GQ X rl none E6:=⟨_,uA,fun R Qd Q q k=>k _ _ _ (Grow.refl R.sub R.reel) q⟩
theorem cu(h:PV X rl e fa):GQ X rl (some e) (E7 fa):=by
 obtain⟨t,p,k⟩:=h
 refine⟨_,uz p,fun R Qd Q q h=>k R _ _ q fun v w F1 H1 g1 r1 n1 ⟨i,ew,q1⟩=>?_⟩
 subst ew
 exact⟨i,bC r1,h _ F1 H1 g1 q1⟩
noncomputable def zo(fa:TV)(fl fh:GB):TV:=fun ρ Q=>fa ρ fun w=>fl ρ fun l=>fh ρ fun h=>∃xs,w.dat=some (.list xs)/\Q (.ml (cutD xs l h))
theorem qw{lo hi:Option Expr}{fl fh:GB}(ha:PV X rl a fa)(hl:GQ X rl lo fl)(hh:GQ X rl hi fh):PV X rl (.Subscript a (.Slice lo hi none p2) pos) (zo fa fl fh):=by
 obtain⟨t,p,k⟩:=ha
 obtain⟨tl,pl,kl⟩:=hl
 obtain⟨th,ph,kh⟩:=hh
 refine⟨_,i_ nH p pl ph,fun R Qd Q q h=>k R _ _ q fun v w F1 H1 g1 r1 n1 q1=>?_⟩
 refine kl (R.grow g1) _ _ q1 fun l F2 H2 g2 q2=>kh ((R.grow g1).grow g2) _ _ q2 fun u F3 H3 g3 q3=>?_
 obtain⟨xs,ed,q3⟩:=q3
 have r3:=(r1.grow g2).grow g3
 obtain⟨a,vs,rfl,sq,rs⟩:=r3.items g3.sub ed
 have g:=(g1.trans g2).trans g3
 exact⟨a,vs,rfl,sq,fun p hp=>h _ (.ml _) _ _ (g.trans (Grow.laid g3.sub g3.reel hp)) (dP g3.sub g3.reel hp (rs.cut l u)) (fun a ea=>by cases ea;exact g.freeB hp) q3⟩
noncomputable def rN:W->W->(W->Prop)->Prop:=fun x y Q=>∃xs ys,x.dat=some (.list xs)/\y.dat=some (.list ys)/\xs.length+ys.length<=sizeLine/\Q (.ml (xs++ys))
theorem eP.lst{K:W.Frag}{F H:Hp}{v:V}{w:W}{xs:List Hy}(s:cp F H)(r:eP K rl F H v w)(e:w.dat=some (.list xs)):∃a vs,v = .ref a/\H a=some (.lst vs)/\Reps K F vs xs:=by
 have own:jn K rl F H v xs->∃a vs,v = .ref a/\H a=some (.lst vs)/\Reps K F vs xs:=fun⟨a,vs,e1,_,_,e2,e3⟩=>⟨a,vs,e1,e2,e3⟩
 cases w with
 | d y =>
   cases e
   cases(show Rep K F v (.list xs)from r)with
   | lst h q=>exact⟨_,_,rfl,s _ _ h,q⟩
 | ml ys=>cases e;exact own r
 | pk ys=>cases e;exact own r
 | reel=>cases e
 | vv u=>cases e
 | md u=>cases e
 | mk u=>cases e
 | nt u=>cases e
 | lk=>cases e
 | sc _=>cases e
 | fd _=>cases e
 | fw _=>cases e
 | ft _=>cases e
 | xc _ _=>cases e
 | dp _ _=>cases e
theorem tS:Gw X rl Ck rN:=fun{F H x y wx wy} Qd Q s ra r1 r2 q k=>by
 obtain⟨xs,ys,e1,e2,z,q⟩:=q
 obtain⟨a,vs,rfl,h1,q1⟩:=r1.lst s e1
 obtain⟨b,us,rfl,h2,q2⟩:=r2.lst s e2
 refine⟨a,b,vs,us,rfl,rfl,h1,h2,by rw[q1.length,q2.length];exact z,fun p hp=>?_⟩
 exact k _ (.ml _) _ _ (Grow.laid s ra hp) (dP s ra hp (q1.append q2)) (fun a ea=>by cases ea;exact hp) q
theorem h9(ha:PV X rl a fa)(hb:PV X rl b fb):PV X rl (.BinOp a .Add b pos) (D3 rN fa fb):=hE xP tS ha hb
noncomputable def sG(p p':Int->Int->Bool)(fa fb fc:TV):TV:=fun ρ Q=>fa ρ fun x=>fb ρ fun y=>∃i j,x = .d (.int i)/\y = .d (.int j) /\
 if p i j=true then fc ρ fun z=>∃k,z = .d (.int k)/\Q (.d (.bool (p' j k)))else Q (.d (.bool false))
theorem m_{op':Nl}{p p':Int->Int->Bool}(ho:G1 X (Js op) (EJ fun i j=>.bl (p i j)))(ho':G1 X (Js op') (EJ fun i j=>.bl (p' i j)))(ha:PV X rl a fa)(hb:PV X rl b fb)(hc:PV X rl c fc)
 (hm:lastMarks [op,op'] [b,c]=false:=by with_unfolding_all rfl):PV X rl (.Compare a [op,op'] [b,c] pos) (sG p p' fa fb fc):=by
 obtain⟨t,p1,k1⟩:=ha
 obtain⟨t2,p2,k2⟩:=hb
 obtain⟨t3,p3,k3⟩:=hc
 refine⟨_,qT ho ho' p1 p2 p3 hm,fun R Qd Q q h=>k1 R _ _ q fun v w F1 H1 g1 r1 n1 q1=>k2 (R.grow g1) _ _ q1 fun v2 w2 F2 H2 g2 r2 n2 q2=>?_⟩
 obtain⟨i,j,rfl,rfl,q2⟩:=q2
 have e1:=bC r1
 have e2:=bC r2
 subst e1 e2
 refine⟨i,j,rfl,rfl,p i j,rfl,?_⟩
 cases hp:p i j with
 | false =>
   rw[hp]at q2
   rw[if_neg (by decide)]at q2 ⊢
   exact h _ (.d _) F2 H2 (g1.trans g2) (.bl _) trivial q2
 | true =>
   rw[hp]at q2
   rw[if_pos rfl]at q2 ⊢
   refine k3 ((R.grow g1).grow g2) _ _ q2 fun v3 w3 F3 H3 g3 r3 n3 ⟨k,ek,q3⟩=>?_
   subst ek
   have e3:=bC r3
   subst e3
   exact⟨j,k,rfl,rfl,h _ (.d _) F3 H3 ((g1.trans g2).trans g3) (.bl _) trivial q3⟩
structure GlD (K:W.Frag) (mg:Str->Option HE) (x:Str) (d:Hy):Prop where
 ex:∃v u,mg x=some u/\RelV v u/\∀F,Rep K F v d
theorem eG(G:GlD X.K X.mg x d)(hg:Gl X x:=by rfl)(hd:(x==("__debug__" : Str))=false:=by decide):PV X rl (.Name x pos) (vC d):=by
 obtain⟨v,u,h1,h2,h3⟩:=G.ex
 exact ut h1 h2 h3 hg hd
structure GlK (K:W.Frag) (x:Str) (d:Hy):Prop where
 ex:∃v u,W.nsIn K Iv x=some (some u)/\RelV v u/\∀F,Rep K F v d
theorem GlK.of{K:W.Frag}(k:GlK K x d)(Y:K.In h)(G:h.Ns Iv mg):GlD K mg x d:=by
 obtain⟨v,u,h1,h2,h3⟩:=k.ex
 exact⟨v,u,W.mg_of Y G h1,h2,h3⟩
end
end L2.VL
namespace L2
section
variable{X:Cx}{a b:Expr}{ta:TA}{p q pos pos2:Pos}
end
end L2
namespace L2.VL
section
variable{X:Cx}{rl:RlT}{a b c e:Expr}{es:List Expr}{fa fb fc:TV}{fs:Gy}{pos pos2 p q:Pos}
end
theorem mL{β:Type}{xs:List α}{f:β->α->β}{a:β}(h:i<xs.length):(xs.take (i+1)).foldl f a=f ((xs.take i).foldl f a) xs[i]:=by
 rw[JD h,List.foldl_append]
 rfl
end L2.VL
namespace L2
section
variable{X:Cx}{tg e:Expr}{ta te:TE}{p p2 pos:Pos}
end
end L2
namespace L2.VL
section
variable{X:Cx}{rl:RlT}{a b c e tg:Expr}{es:List Expr}{fa fb fc:TV}{fs:Gy}{pos pos2 p p2 q:Pos}
end
end L2.VL
namespace L2
section
variable{X:Cx}
theorem p5{bs:List Bool}{its:List HE}(r:dq (bs.map V.bl) its){v:HE}(e:its[i]?=some v):v = .bool (bs.getD i false):=by
 have hl:=r.length
 rw[HM]at hl
 have hi:i<bs.length:=by have:=(H0.mp e).1;omega
 have hb:(bs.map V.bl)[i]?=some (.bl bs[i]):=by simp[hi]
 obtain⟨u,hu,ru⟩:=r.get hb
 rw[e]at hu
 cases hu
 have:bs.getD i false=bs[i]:=by simp[M7,hi]
 rw[this]
 exact ru
theorem nX{bs:List Bool}:(Jj bs.length).all (fun i=>bs.getD i false)=bs.all id:=by
 have:bs=(Jj bs.length).map fun i=>bs.getD i false:=by
  apply List.ext_getElem
  · simp
  · intro i h1 h2
    simp[M7,h1]
 conv=>rhs;rw[this,Mh]
 rfl
theorem nW{bs:List Bool}:(Jj bs.length).any (fun i=>bs.getD i false)=bs.any id:=by
 have:bs=(Jj bs.length).map fun i=>bs.getD i false:=by
  apply List.ext_getElem
  · simp
  · intro i h1 h2
    simp[M7,h1]
 conv=>rhs;rw[this,List.any_map]
 rfl
theorem sj(hc:X.calm=true):eE X (.builtin "all") (fun xs H Q=>∃(p:Addr)(bs:List Bool),xs=[.ref p]/\GF X.K H p (bs.map V.bl)/\Q (.bl (bs.all id)) H):=by
 intro pins s σ H xs us Q I r ⟨p,bs,ex,hq,q⟩
 subst ex
 obtain⟨u,rfl,ru⟩:=vals1 r
 cases ru
 obtain⟨its,rv,pl,hz⟩:=I.list hq
 have hl:=rv.length
 rw[HM]at hl
 refine call_all_walk (Ks pl.isList ?_)
 have ne:p≠s.heap.objs.size:=by obtain⟨o,ho,_⟩:=pl.isList;exact Iz (HN ho)
 refine⟨s.heap.objs.size,_,_,_,_,_,fun i=>bs.getD i false,rfl,Walks.list (A:=X.A.in1) (I.ok.hd hc) s.heap.objs.size p ne its.toArray,⟨⟨_,HW _ rfl,rfl,rfl⟩,pl.isList.push _⟩,fun i v s' Q' E' hP hQ=>?_,fun h' tk k=>?_⟩
 · rw[p5 rv (show its[i]?=some v by simpa using hP)]
   exact JF hQ
 · have e:(Jj its.toArray.size).all (fun i=>bs.getD i false)=bs.all id:=by rw[HU,<- hl];exact nX
   rw[e]
   exact⟨.bl _,H,I.kept (t':=tk) fun b o eb=>k b o (by simp;exact Iz (HN eb)) (HK _ eb),rfl,q⟩
theorem si(hc:X.calm=true):eE X (.builtin "any") (fun xs H Q=>∃(p:Addr)(bs:List Bool),xs=[.ref p]/\GF X.K H p (bs.map V.bl)/\Q (.bl (bs.any id)) H):=by
 intro pins s σ H xs us Q I r ⟨p,bs,ex,hq,q⟩
 subst ex
 obtain⟨u,rfl,ru⟩:=vals1 r
 cases ru
 obtain⟨its,rv,pl,hz⟩:=I.list hq
 have hl:=rv.length
 rw[HM]at hl
 refine call_any_walk (Ks pl.isList ?_)
 have ne:p≠s.heap.objs.size:=by obtain⟨o,ho,_⟩:=pl.isList;exact Iz (HN ho)
 refine⟨s.heap.objs.size,_,_,_,_,_,fun i=>bs.getD i false,rfl,Walks.list (A:=X.A.in1) (I.ok.hd hc) s.heap.objs.size p ne its.toArray,⟨⟨_,HW _ rfl,rfl,rfl⟩,pl.isList.push _⟩,fun i v s' Q' E' hP hQ=>?_,fun h' tk k=>?_⟩
 · rw[p5 rv (show its[i]?=some v by simpa using hP)]
   exact JF hQ
 · have e:(Jj its.toArray.size).any (fun i=>bs.getD i false)=bs.any id:=by rw[HU,<- hl];exact nW
   rw[e]
   exact⟨.bl _,H,I.kept (t':=tk) fun b o eb=>k b o (by simp;exact Iz (HN eb)) (HK _ eb),rfl,q⟩
end
end L2
namespace L2.VL
section
variable{X:Cx}{rl:RlT}{a b c e:Expr}{es:List Expr}{fa fb fc:TV}{fs:Gy}{pos p p2:Pos}
theorem nQ{K:W.Frag}{F:Hp}:∀{vs:List V}{bs:List Bool},Reps K F vs (bs.map .bool)->vs=bs.map V.bl
 | _,[],h=>h.nil_iff
 | _,b::bs,.cons h r=>by rw[eK h,nQ r];rfl
noncomputable def yj(f:List Bool->Bool):List W->(W->Prop)->Prop:=fun ws Q=>∃(w:W)(bs:List Bool),ws=[w]/\w.dat=some (.list (bs.map .bool))/\Q (.d (.bool (f bs)))
theorem sC{f:List Bool->Bool}:fL X rl (fun xs H Q=>∃(p:Addr)(bs:List Bool),xs=[.ref p]/\GF X.K H p (bs.map V.bl)/\Q (.bl (f bs)) H) (yj f):=fun{F H vs ws} Qd Q s ra r ⟨w,bs,ew,ed,q⟩ k=>by
 subst ew
 obtain⟨v,rfl,r1⟩:=nV r
 obtain⟨a,us,rfl,sq,rs⟩:=r1.items s ed
 have e:=nQ rs
 subst e
 exact⟨a,bs,rfl,sq,k _ (.d _) _ _ (Grow.refl s ra) (.bl _) trivial q⟩
theorem v_all(hm:X.mg "all" = none)(ha:GP X rl [a] fs)(hc:X.calm=true:=by rfl)(hg:Gl X "all" := by rfl)(he:HL [a] X.env=(false,eval a X.env)::HL [] X.env:=by rfl)(hpl:(Jv pos (HL [] X.env)).any (·.1)=false:=by rfl) :
 PV X rl (.Call (.Name "all" p) [a] [] pos) (eB (yj fun bs=>bs.all id) fs):=dI (sj hc) sC hm (by rfl) ha hg (by decide) (by decide) he hpl
theorem v_any(hm:X.mg "any" = none)(ha:GP X rl [a] fs)(hc:X.calm=true:=by rfl)(hg:Gl X "any" := by rfl)(he:HL [a] X.env=(false,eval a X.env)::HL [] X.env:=by rfl)(hpl:(Jv pos (HL [] X.env)).any (·.1)=false:=by rfl) :
 PV X rl (.Call (.Name "any" p) [a] [] pos) (eB (yj fun bs=>bs.any id) fs):=dI (si hc) sC hm (by rfl) ha hg (by decide) (by decide) he hpl
end
end L2.VL
namespace L2.TM
theorem xS:fillsNumberSlot (.type "tuple") "mul" = pure false :=
 PySem.fillsNumberSlot_seq (id := "tuple.__mul__") (r:=some (.builtin "tuple.__rmul__")) F.slot_tuple_mul.lookup (by decide +kernel) F.slot_tuple_rmul.lookup (by decide +kernel)
theorem CS:seqRepeat? (.type "tuple")=pure (some (.builtin "tuple.__mul__")):=by
 unfold seqRepeat?
 have s1:=PySem.seqSlot_of (T := "tuple") (name := "__mul__") (id := "tuple.__mul__") F.slot_tuple_mul.lookup (by decide +kernel)
 have s2:=PySem.seqSlot_of (T := "tuple") (name := "__rmul__") (id := "tuple.__rmul__") F.slot_tuple_rmul.lookup (by decide +kernel)
 rw[s1,s2]
 rfl
theorem qF(its:Array HE):∀n:Nat,(K5 (fun x y=>x++y) #[] (HR n its)).size=its.size*n:=by
 have key:∀(n:Nat)(acc:Array HE),(K5 (fun x y=>x++y) acc (HR n its)).size=acc.size+its.size*n:=by
  intro n
  induction n with
  | zero=>intro acc;simp
  | succ n ih=>intro acc;rw[IP,Kb,ih,Array.size_append,Nat.mul_succ];omega
 intro n
 have:=key n #[]
 simpa using this
noncomputable def TupAt(h:Heap)(l:Addr)(its:Array HE):Prop:=∃(dc:Option Addr)(sl:Array (Option HE))(n:Nat),h.get? l=some ⟨.type "tuple", dc,.seq its n,sl⟩
section
variable{prog:Ie}{w:II}{A:Jb}{E:HE->HH->Prop}{s:HH}{k:Int}{t:Tok}{l:Addr}{its:Array HE}
theorem tupAt(h:Nf s.heap l its):TupAt s.heap l its:=by
 obtain⟨⟨c,dc,d,sl⟩,ho,hc,n,hd⟩:=h
 cases hc
 cases hd
 exact⟨dc,sl,n,ho⟩
theorem Db(h:TupAt s.heap l its)(q:Q .notImplemented s):Im (IH prog w) A (call (.builtin "int.__rmul__") [.int k t,.ref l]) Q E s:=by
 obtain⟨dc,sl,n,ho⟩:=h
 refine Lg F.slot_int_rmul (Mm s k t) F.entry_int_rmul (F.args_int_rmul_2 _ _) (S:=fun _ R s=>s.heap.get? l=some ⟨.type "tuple", dc,.seq its n,sl⟩/\R (.ok (.ret HE.notImplemented)) s) ?_ ⟨ho,q⟩
 exact .of_wp fun prog w A R s h=>by
  obtain⟨hp,g,d,tk,os⟩:=s
  obtain⟨ho,h⟩:=h
  wp_walk
  exact⟨_,rfl,h⟩
theorem rep_body(hk:2<=k)(hk':k<2^62)(he:its.isEmpty=false)(hz:its.size*k.toNat<=sizeLine)(h:TupAt s.heap l its)
 (q:Q (.ref s.heap.objs.size) {s with heap:=s.heap.push {cls:=.type "tuple", data:=.seq ((HR k.toNat its).foldl (· ++ ·) #[])}}):Im (IH prog w) A (call (.builtin "tuple.__mul__") [.ref l,.int k t]) Q E s:=by
 obtain⟨dc,sl,n,ho⟩:=h
 refine Lg F.slot_tuple_mul ⟨_,ho,rfl⟩ F.entry_tuple_mul (F.args_tuple_mul_2 _ _)
  (S:=fun _ R s=>s.heap.get? l=some ⟨.type "tuple", dc,.seq its n,sl⟩/\R (.ok (.ret (.ref s.heap.objs.size))) {s with heap:=s.heap.push {cls:=.type "tuple", data:=.seq ((HR k.toNat its).foldl (· ++ ·) #[])}}) ?_ ⟨ho,q⟩
 have h1:¬(decide (k < -(2^63))||decide (k ≥ 2^63))=true:=by simp;omega
 have h2:¬(its.isEmpty||k==1)=true:=by rw[he];simp;omega
 have h3:¬(decide (k<=0)||its.isEmpty)=true:=by rw[he];simp;omega
 have sz:=HV
 have hk0:k=(k.toNat:Int):=by omega
 have h4:¬((its.size:Int)*k>(2^63-1) / 8):=by
  rw[hk0]
  have:((its.size*k.toNat:Nat):Int)<=sizeLine:=by exact_mod_cast hz
  rw[KU]at this
  omega
 have h5:¬Builtin.Tuple.tupleTooMany ((its.size:Int)*k)=true:=by
  intro z
  have z:=of_decide_eq_true z
  rw[hk0]at z
  have:((its.size*k.toNat:Nat):Int)<=sizeLine:=by exact_mod_cast hz
  rw[KU]at this
  omega
 refine .of_wp fun prog w A R s h=>?_
 obtain⟨ho,h⟩:=h
 have tp:Nf s.heap l its:=⟨_,ho,rfl,n,rfl⟩
 unfold Builtin.«tuple.__mul__»
 show Im _ _ (do let z <- asIndex (.int k t);_) _ _ s
 refine HB (M8 (a:=k) (by first|rfl|kernel_rfl) ?_)
 rw[if_neg h1]
 refine HB (LV tp ?_)
 rw[if_neg h2,if_neg h3]
 first|rw[if_neg h4]|skip
 first|rw[if_neg h5]|skip
 show Im _ _ (do let z <- Jt (K5 (fun x y=>x++y) #[] (HR k.toNat its));ret z) _ _ s
 refine HB (m:=Jt _) (Jk (HQ ⟨_,rfl,h⟩) ?_)
 show(K5 (fun x y=>x++y) #[] (HR k.toNat its)).size<=sizeLine
 rw[qF]
 exact hz
theorem rep_one(h:TupAt s.heap l its)(q:Q (.ref l) s):Im (IH prog w) A (call (.builtin "tuple.__mul__") [.ref l,.int 1 t]) Q E s:=by
 obtain⟨dc,sl,n,ho⟩:=h
 refine Lg F.slot_tuple_mul ⟨_,ho,rfl⟩ F.entry_tuple_mul (F.args_tuple_mul_2 _ _) (S:=fun _ R s=>s.heap.get? l=some ⟨.type "tuple", dc,.seq its n,sl⟩/\R (.ok (.ret (.ref l))) s) ?_ ⟨ho,q⟩
 refine .of_wp fun prog w A R s h=>?_
 obtain⟨ho,h⟩:=h
 have tp:Nf s.heap l its:=⟨_,ho,rfl,n,rfl⟩
 unfold Builtin.«tuple.__mul__»
 show Im _ _ (do let z <- asIndex (.int 1 t);_) _ _ s
 refine HB (M8 (a:=(1:Int)) (by first|rfl|kernel_rfl) ?_)
 rw[if_neg (by decide)]
 refine HB (LV tp ?_)
 rw[if_pos (by simp)]
 show Im _ _ (do let z <- Ky (.ref l);_) _ _ s
 refine HB ?_
 unfold Ky
 refine HB (Mc (T := "tuple") ⟨_,ho,rfl⟩ (HQ ?_))
 rw[if_pos (by decide)]
 exact HB (Lf (HB (HQ (HQ ⟨_,rfl,h⟩))))
theorem mul_tup(tp:Nf s.heap l its)(q:Im (IH prog w) A (call (.builtin "tuple.__mul__") [.ref l,.int k t]) Q E s):Im (IH prog w) A (Ke .Mult (.ref l) (.int k t)) Q E s :=
 LC (T := "tuple") (U := "int") (by decide) tp.typeIs (fun s'=>Mm s' k t) xS F.fills_int_mul F.slot_int_rmul CS F.slot_int_index.lookup (Db (tupAt tp) ⟨rfl,tp.typeIs,q⟩)
end
end L2.TM
namespace L2
section
variable{X:Cx}
noncomputable def xj(K:W.Frag):R2:=fun x y H Q=>∃a k xs,x = .ref a/\y = .int k/\GE K H a xs/\xs≠[]/\1<=k/\k<2^62/\xs.length*k.toNat<=sizeLine/\(k=1->Q (.ref a) H)/\(2<=k->∀p,H p=none->Q (.ref p) (upd H p (.tup (HR k.toNat xs).flatten)))
theorem uJ:G1 X (Ke .Mult) (xj X.K):=by
 intro pins s σ H x y v u Q I rx ry h
 obtain⟨a,k,xs,rfl,rfl,ha,hne,h1,h2,hz,q1,q2⟩:=h
 cases rx
 obtain⟨t,rfl⟩:=ry
 obtain⟨its,r,p,_⟩:=I.tuple ha
 have hl:=r.length
 refine TM.mul_tup p ?_
 by_cases hk:k=1
 · subst hk
   exact TM.rep_one (TM.tupAt p) ⟨.ref a,H,I,rfl,q1 rfl⟩
 · have he:its.toArray.isEmpty=false:=by
     cases its with
     | nil=>simp at hl;exact absurd hl hne
     | cons _ _=>rfl
   refine TM.rep_body (by omega) h2 he (by rw[HU,<- hl];exact hz) (TM.tupAt p) ?_
   have e:K5 (fun x y=>x++y) #[] (HR k.toNat its.toArray)=(HR k.toNat its).flatten.toArray:=by
    have:=foldl_rep its k.toNat []
    rw[Ko]at this
    exact this
   rw[e]
   refine⟨.ref s.heap.objs.size,_,I.laid (t':=s.toks) (o:=.tup (HR k.toNat xs).flatten) (fun b ob q=>HK _ q) (HS _) ?_,rfl,q2 (by omega) _ (I.hok.fresh (HS _))⟩
   exact⟨by rw[oU,Nat.mul_comm];exact hz,_,r.rep k.toNat,qh.new _ _⟩
end
end L2
namespace L2.VL
section
variable{X:Cx}{rl:RlT}{a b c e:Expr}{es:List Expr}{fa fb fc:TV}{fs:Gy}{pos p p2:Pos}
theorem Reps.repl{K:W.Frag}{F:Hp}{vs:List V}{ds:List Hy}(r:Reps K F vs ds):∀n:Nat,Reps K F (HR n vs).flatten (HR n ds).flatten
 | 0=>.nil
 | n+1=>by rw[IP,IP,JH,JH];exact r.append (Reps.repl r n)
noncomputable def rH:W->W->(W->Prop)->Prop:=fun x y Q=>∃xs k,x = .d (.tuple xs)/\y = .d (.int k)/\xs≠[]/\1<=k/\k<2^62/\xs.length*k.toNat<=sizeLine/\Q (.d (.tuple (HR k.toNat xs).flatten))
theorem tO:Gw X rl (xj X.K) rH:=fun{F H x y wx wy} Qd Q s ra r1 r2 q k=>by
 obtain⟨xs,n,rfl,rfl,hne,h1,h2,hz,q⟩:=q
 have ey:=bC r2
 subst ey
 cases(show Rep X.K F x (.tuple xs)from r1)with
 | @tup a vs _ sq rs =>
   refine⟨a,n,vs,rfl,rfl,eY s sq,fun z=>hne ?_,h1,h2,by rw[rs.length];exact hz,fun e=>?_,fun e p hp=>?_⟩
   · subst z;cases rs;rfl
   · subst e
     have e1:(HR (JK 1) xs).flatten=xs:=by simp
     rw[e1]at q
     exact k _ (.d (.tuple xs)) _ _ (Grow.refl s ra) (.tup sq rs) trivial q
   · have g:=Grow.data (a:=p) (o:=.tup (HR n.toNat vs).flatten) s ra hp
     exact k _ (.d _) _ _ g (.tup (.inl (.inl aJ)) ((rs.repl n.toNat).mono g.fs)) trivial q
theorem wg(ha:PV X rl a fa)(hb:PV X rl b fb):PV X rl (.BinOp a .Mult b pos) (D3 rH fa fb):=hE uJ tO ha hb
noncomputable def Az:W->W->(W->Prop)->Prop:=fun x y Q=>∃xs ys,x = .d (.tuple xs)/\y = .d (.tuple ys)/\xs≠[]/\xs.length+ys.length<=sizeLine/\Q (.d (.tuple (xs++ys)))
theorem tR:Gw X rl (uo X.K) Az:=fun{F H x y wx wy} Qd Q s ra r1 r2 q k=>by
 obtain⟨xs,ys,rfl,rfl,hne,hz,q⟩:=q
 cases(show Rep X.K F x (.tuple xs)from r1)with
 | @tup a vs _ sq rs =>
   cases(show Rep X.K F y (.tuple ys)from r2)with
   | @tup b us _ sq2 ED =>
     refine⟨a,b,vs,us,rfl,rfl,eY s sq,eY s sq2,fun z=>hne ?_,by rw[rs.length,ED.length];exact hz,fun e=>?_,fun e p hp=>?_⟩
     · subst z;cases rs;rfl
     · subst e
       cases ED
       rw[J9]at q
       exact k _ (.d (.tuple xs)) _ _ (Grow.refl s ra) (.tup sq rs) trivial q
     · have g:=Grow.data (a:=p) (o:=.tup (vs++us)) s ra hp
       exact k _ (.d _) _ _ g (.tup (.inl (.inl aJ)) ((rs.append ED).mono g.fs)) trivial q
end
end L2.VL
namespace L2
section
variable{X:Cx}
theorem Room.u65{k:Nat}(r:Room k A):A.units+65<MI:=by have:=r.un;omega
noncomputable def xl(K:W.Frag):R2:=fun x y H Q=>∃a b ys,x = .ref a/\y = .ref b/\GE K H a []/\GE K H b ys/\Q (.ref b) H
theorem uO:G1 X (Ke .Add) (xl X.K):=by
 intro pins s σ H x y v u Q I rx ry h
 obtain⟨a,b,ys,rfl,rfl,ha,hb,q⟩:=h
 cases rx
 cases ry
 obtain⟨its,r1,p1,_⟩:=I.tuple ha
 obtain⟨its2,r2,p2,_⟩:=I.tuple hb
 cases r1
 obtain⟨⟨c1,d1,e1,sl1⟩,ho,hc,n,hd⟩:=p1
 obtain⟨⟨c2,d2,e2,sl2⟩,ho2,hc2,n2,hd2⟩:=p2
 cases hc;cases hd;cases hc2;cases hd2
 exact MV ⟨_,ho,rfl⟩ ⟨_,ho2,rfl⟩ L1 MJ K1 KR (KI _ _)
  (tuple_addW0 a b _ its2.toArray n n2 d1 d2 sl1 sl2 rfl) ⟨ho,ho2,⟨.ref b,H,I,rfl,q⟩⟩
noncomputable def xk(K:W.Frag):R2:=fun x y H Q=>uo K x y H Q\/xl K x y H Q
theorem uN:G1 X (Ke .Add) (xk X.K):=fun pins s σ H x y v u Q I rx ry h=>h.elim (uM pins s σ H x y v u Q I rx ry) (uO pins s σ H x y v u Q I rx ry)
section
variable{prog:Ie}{w:II}{A:Jb}{E:HE->HH->Prop}{s:HH}
end
end
end L2
namespace L2.VL
section
variable{X:Cx}{rl:RlT}{a b c e:Expr}{es:List Expr}{fa fb fc:TV}{fs:Gy}{pos p p2:Pos}
noncomputable def rO:W->W->(W->Prop)->Prop:=fun x y Q=>∃xs ys,x = .d (.tuple xs)/\y = .d (.tuple ys)/\xs.length+ys.length<=sizeLine/\Q (.d (.tuple (xs++ys)))
theorem tT:Gw X rl (xk X.K) rO:=fun{F H x y wx wy} Qd Q s ra r1 r2 q k=>by
 obtain⟨xs,ys,rfl,rfl,hz,q⟩:=q
 by_cases hx:xs=[]
 · subst hx
   cases(show Rep X.K F x (.tuple [])from r1)with
   | @tup a vs _ sq rs =>
     cases rs
     cases(show Rep X.K F y (.tuple ys)from r2)with
     | @tup b us _ sq2 ED=>exact .inr ⟨a,b,us,rfl,rfl,eY s sq,eY s sq2,k _ (.d (.tuple ys)) _ _ (Grow.refl s ra) (.tup sq2 ED) trivial q⟩
 · exact .inl (tR Qd Q s ra r1 r2 ⟨xs,ys,rfl,rfl,hx,hz,q⟩ k)
theorem eI(ha:PV X rl a fa)(hb:PV X rl b fb):PV X rl (.BinOp a .Add b pos) (D3 rO fa fb):=hE uN tT ha hb
theorem gc{K:W.Frag}{F:Hp}:∀{vs:List V}{ns:List Int},Reps K F vs (ns.map .int)->vs=ns.map V.int
 | _,[],h=>h.nil_iff
 | _,n::ns,.cons h r=>by rw[bC h,gc r];rfl
end
end L2.VL
namespace L2.TO
section
variable{prog:Ie}{w:II}{A:Jb}{E:HE->HH->Prop}{s:HH}
end
end L2.TO
namespace L2
section
variable{X:Cx}{a b e:Expr}{ta:TA}{te:TE}{p p2 q pos pos2:Pos}
end
end L2
namespace L2.VL
section
variable{X:Cx}{rl:RlT}{a b c e:Expr}{es:List Expr}{fa fb fc:TV}{fs:Gy}{pos pos2 p q p2:Pos}
end
end L2.VL
namespace L2.TW
section
variable{prog:Ie}{w:II}{A:Jb}{E:HE->HH->Prop}{s:HH}
theorem get_whole{t sl:Addr}{items:Array HE}{vl vu:HE}{lo hi:Option Int}(ht:Nf s.heap t items)(hs:s.heap.IsSliceOf sl vl vu .none)(pl:MK vl lo)(pu:MK vu hi)
 (hw:HT.sIx items.size 0 lo=0/\HT.sIx items.size items.size hi=items.size)(h:Q (.ref t) s):Im (IH prog w) A (LU (.ref t) (.ref sl)) Q E s:=by
 have ty:s.TypeIs (.ref sl) "slice" := let ⟨o,h1,h2,_⟩:=hs;⟨o,h1,h2⟩
 have key:Im (IH prog w) A (call (.builtin "tuple.__getitem__") [.ref t,.ref sl]) Q E s:=by
  refine JO ID ht.typeIs entry_tuple_getitem ?_ (args_tuple_getitem _ _)
  show Im _ _ (Lv (.ref t) >>= _) _ _ s;refine HB (LV ht (HB (Mc ty ?_)))
  rw[if_pos (by decide)]
  refine HB (HT.sliceApplied_gen hs pl pu ?_)
  rw[hw.1,hw.2,Nat.sub_zero]
  show Im _ _ (if(((0:Nat):Int)==0&&(1:Int)==1&&items.size==items.size)=true then _ else _) _ _ s
  rw[if_pos (by simp)]
  unfold Ky
  refine HB (HB (Mc ht.typeIs (HQ ?_)))
  rw[if_pos (by decide)]
  exact HB (Lf (HB (HQ (HQ ⟨_,rfl,h⟩))))
 unfold LU;try with_reducible refine wpAny_holding ?_
 first|exact HB (HQ (HB (LL ht.typeIs (by decide) (HB (IL (name:=Hw "__getitem__") ht.typeIs ID (Eg key fun v s' q=>HQ q))))))|exact HB (LL ht.typeIs (by decide) (HB (IL (name:=Hw "__getitem__") ht.typeIs ID (Eg key fun v s' q=>HQ q))))
end
end L2.TW
namespace L2
section
variable{X:Cx}
noncomputable def CW(K:W.Frag):V->Option Int->Option Int->Hp->VK->Prop:=fun x lo hi H Q=>Cd K x lo hi H Q\/∃a xs,x = .ref a/\GE K H a xs/\(HT.sIx xs.length 0 lo=0/\HT.sIx xs.length xs.length hi=xs.length)/\Q (.ref a) H
theorem uh:GK X (CW X.K):=by
 intro pins s σ H x v vl vu lo hi sl Q I rx hs pl pu h
 rcases h with h|⟨a,xs,rfl,hx,hw,q⟩
 · exact wQ pins s σ H x v vl vu lo hi sl Q I rx hs pl pu h
 · cases rx
   obtain⟨its,r,ht,hz⟩:=I.tuple hx
   have hlen:its.toArray.size=xs.length:=by rw[HU];exact r.length.symm
   exact⟨"tuple", _,ID.lookup,ht.typeIs,TW.get_whole ht hs pl pu (by rw[hlen];exact hw) ⟨.ref a,H,I,rfl,q⟩⟩
end
end L2
namespace L2.VL
section
variable{X:Cx}{rl:RlT}{a b c e:Expr}{es:List Expr}{fa fb fc:TV}{fs:Gy}{pos p p2:Pos}
theorem pL{l u:Option Int}(h:HT.sIx xs.length 0 l=0/\HT.sIx xs.length xs.length u=xs.length):cutD xs l u=xs:=by
 unfold cutD
 rw[h.1,h.2]
 simp
noncomputable def zp(fa:TV)(fl fh:GB):TV:=fun ρ Q=>fa ρ fun w=>fl ρ fun l=>fh ρ fun h=>∃xs,w = .d (.tuple xs)/\Q (.d (.tuple (cutD xs l h)))
theorem iP{lo hi:Option Expr}{fl fh:GB}(ha:PV X rl a fa)(hl:GQ X rl lo fl)(hh:GQ X rl hi fh):PV X rl (.Subscript a (.Slice lo hi none p2) pos) (zp fa fl fh):=by
 obtain⟨t,p,k⟩:=ha
 obtain⟨tl,pl,kl⟩:=hl
 obtain⟨th,ph,kh⟩:=hh
 refine⟨_,i_ uh p pl ph,fun R Qd Q q h=>k R _ _ q fun v w F1 H1 g1 r1 n1 q1=>?_⟩
 refine kl (R.grow g1) _ _ q1 fun l F2 H2 g2 q2=>kh ((R.grow g1).grow g2) _ _ q2 fun u F3 H3 g3 q3=>?_
 obtain⟨xs,rfl,q3⟩:=q3
 have r3:=(r1.grow g2).grow g3
 have g:=(g1.trans g2).trans g3
 cases(show Rep X.K F3 v (.tuple xs)from r3)with
 | @tup a vs _ sq rs =>
   by_cases hw:HT.sIx xs.length 0 l=0/\HT.sIx xs.length xs.length u=xs.length
   · rw[pL hw]at q3
     exact .inr ⟨a,vs,rfl,eY g3.sub sq,by rw[rs.length];exact hw,h _ (.d _) _ _ g (.tup sq rs) trivial q3⟩
   · refine .inl ⟨a,vs,rfl,eY g3.sub sq,by rw[rs.length];exact hw,fun p hp=>?_⟩
     have g':=Grow.data (a:=p) (o:=.tup (rY vs l u)) g3.sub g3.reel hp
     exact h _ (.d _) _ _ (g.trans g') (.tup (.inl (.inl aJ)) ((rs.cut l u).mono g'.fs)) trivial q3
end
end L2.VL
namespace L2
abbrev Df(D:List (Str×Int)):List (Hy×Hy):=(D.map fun q=>(q.1,Io q.2)).map fun q=>(Mn q.1,q.2)
section
variable{X:Cx}{e:Expr}{ty:TE}{px apos cpos:Pos}
end
end L2
namespace L2.VL
section
variable{X:Cx}{rl:RlT}{a b c e:Expr}{es:List Expr}{fa fb fc:TV}{fs:Gy}{pos p p2 px apos cpos:Pos}
end
end L2.VL
set_option exponentiation.threshold 10000
namespace L2.VL
noncomputable def vR(a b:Int):Hy:=.tuple [.int (a.fdiv (Ju a b)),.int (b.fdiv (Ju a b))]
theorem jg{a b:Int}(hb:0<b)(z:b.natAbs<2^8000)(i:Int):hX i (Ju a b:Int):=by
 have h1:=vw (a:=a) (b:=b) (by omega)
 have h2:=yi (a:=a) (b:=b) (by omega)
 exact⟨by omega,Kl (by omega) (HJ z (HP (by decide) (by decide)))⟩
noncomputable def yK(bs:List Int):Prop:=bs.length=4/\(∀b∈bs,2<=b/\b<=16)/\bs.Pairwise fun x y=>Ju x y=1
instance (bs:List Int):Decidable (yK bs):=by unfold yK;infer_instance
theorem nO{d:Nat}{k:Int}(h:0<=k):HT.sIx n d (some k)=min k.toNat n:=by
 obtain⟨m,rfl⟩:=JA h
 exact HT.sIx_nat n d m
theorem dR{k:Int}(h:0<=k):cutD xs (some k) none=xs.drop k.toNat:=by
 unfold cutD
 rw[nO h,HT.sIx_none]
 by_cases hk:k.toNat<=xs.length
 · rw[Mi hk]
   exact Je (by simp)
 · rw[L3 (by omega),L4,K3 (by omega)]
   simp
noncomputable def pr(a b:Int):Hy:=.tuple [.int a,.int b]
theorem GlK.pair{K:W.Frag}{a b:Int}{p:Addr}{sl:Array (Option HE)}{t u:Tok}(h1:W.nsIn K Iv x=some (some (.ref p)))
 (h2:K.lookup p=some ⟨.type "tuple", none,.seq #[.int a t,.int b u] n,sl⟩):GlK K x (pr a b):=by
 refine⟨.ref p,.ref p,h1,rfl,fun F=>.tup (vs:=[.int a,.int b]) (.inr ⟨_,_,n,h2,rfl,rfl,(by show 2<=sizeLine;decide),.cons ⟨t,rfl⟩ (.cons ⟨u,rfl⟩ .nil),rfl⟩) (.cons (.int a) (.cons (.int b) .nil))⟩
end L2.VL
set_option exponentiation.threshold 10000
namespace L2.VL
noncomputable def stepT(b:Int)(p:List Int)(t:Int)(a:Nat):Int:=t*b+p.getD a 0
noncomputable def D6:Hy->Int
 | .int i=>i
 | _=>0
section
variable{P:Ie}{w:II}{K:W.Frag}{mg:Str->Option HE}{base:Heap}{rl:RlT}{x:Str}{st:Stmt}{N ps:List Str}{k:Nat}{Pd:List W->(List Hy->Prop)->Prop}{t:Gz}
end
section
variable{X:Cx}{rl:RlT}{a b c e:Expr}{es:List Expr}{fa fb fc:TV}{fs:Gy}{pos p p2 px apos cpos:Pos}
end
end L2.VL
namespace L2.IX
section
variable{prog:Ie}{w:II}{A:Jb}{E:HE->HH->Prop}{s:HH}
end
end L2.IX
namespace L2
section
variable{X:Cx}
end
end L2
namespace L2.VL
section
variable{X:Cx}{rl:RlT}{a b c e:Expr}{es:List Expr}{fa fb fc:TV}{fs:Gy}{pos p p2 px apos cpos:Pos}
noncomputable def gG:Hy->Bool
 | .none=>true
 | _=>false
noncomputable def yW(neg:Bool):W->W->(W->Prop)->Prop:=fun x y Q=>∃d,x.dat=some d/\y = .d .none/\Q (.d (.bool (if neg then !gG d else gG d)))
theorem nT{K:W.Frag}(h:Rep K F v d):decide (v=V.non)=gG d:=by
 cases h<;>first|rfl|exact decide_eq_false (fun z=>by cases z)
theorem js:Gw X rl (fun x y H Q=>y = .non/\Q (.bl (decide (x = .non))) H) (yW false):=fun{F H x y wx wy} Qd Q s ra r1 r2 q k=>by
 obtain⟨d,e1,rfl,q⟩:=q
 have e2:y = .non:=by cases(show Rep X.K F y .none from r2);rfl
 refine⟨e2,?_⟩
 rw[nT (r1.dat s e1)]
 exact k _ (.d _) _ _ (Grow.refl s ra) (.bl _) trivial q
theorem mX:Gw X rl (fun x y H Q=>y = .non/\Q (.bl (!decide (x = .non))) H) (yW true):=fun{F H x y wx wy} Qd Q s ra r1 r2 q k=>by
 obtain⟨d,e1,rfl,q⟩:=q
 have e2:y = .non:=by cases(show Rep X.K F y .none from r2);rfl
 refine⟨e2,?_⟩
 rw[nT (r1.dat s e1)]
 exact k _ (.d _) _ _ (Grow.refl s ra) (.bl _) trivial q
noncomputable def rJ:W->W->(W->Prop)->Prop:=fun x y Q=>∃xs k,x.dat=some (.list xs)/\y = .d (.int k) /\ -(2^63)<=k/\k<2^63/\xs.length*k.toNat<=sizeLine/\Q (.ml (HR k.toNat xs).flatten)
theorem w6{K:W.Frag}{F:Hp}{vs:List V}{ds:List Hy}(r:Reps K F vs ds):∀n:Nat,Reps K F (HR n vs).flatten (HR n ds).flatten
 | 0=>.nil
 | n+1=>by rw[IP,IP,JH,JH];exact r.append (w6 r n)
theorem tP:Gw X rl Cf rJ:=fun{F H x y wx wy} Qd Q s ra r1 r2 q k=>by
 obtain⟨xs,n,e1,rfl,h1,h2,hz,q⟩:=q
 have ey:=bC r2
 subst ey
 obtain⟨a,vs,rfl,hh,rs⟩:=r1.lst s e1
 refine⟨a,n,vs,rfl,rfl,hh,h1,h2,by rw[rs.length];exact hz,fun p hp=>?_⟩
 exact k _ (.ml _) _ _ (Grow.laid s ra hp) (dP s ra hp (w6 rs n.toNat)) (fun a ea=>by cases ea;exact hp) q
theorem m8(ha:PV X rl a fa)(hb:PV X rl b fb):PV X rl (.BinOp a .Mult b pos) (D3 rJ fa fb):=hE xL tP ha hb
end
end L2.VL
namespace L2.ZP
section
variable{prog:Ie}{w:II}{A:Jb}{E:HE->HH->Prop}{s:HH}{it a:Addr}{k:Nat}{xs:Array HE}{v:HE}
theorem ud(st:s.heap.IsTupleIter it a k)(tu:s.heap.IsTuple a xs)(e:xs[k]?=some v)
 (q:∀g,g.IsTupleIter it a (k+1)->JY it s.heap g->Q v {s with heap:=g}):Im (IH prog w) A (Iy (.ref it)) Q E s:=by
 have ty:=st.typeIs
 obtain⟨o,oe,oc,od⟩:=st
 obtain⟨l,le,_,_,ld⟩:=tu
 unfold Iy
 have sl:=F.slot_tuple_iterator_next
 refine HB (IL (name:=Hw "__next__") ty sl (JO sl ty F.entry_tuple_iterator_next ?_ (F.args_tuple_iterator_next_1 _)))
 show Im _ _ (do let z <- M9 (.ref it) 0;_) _ _ s
 refine HB (IR oe od (x:=.ref a) rfl ?_)
 show Im _ _ (ite ((J7 a==KG)=true) _ _) _ _ s
 rw[if_neg (show ¬(J7 a == .none)=true by intro z;cases z)]
 show Im _ _ (do let z <- M9 (.ref it) 1;_) _ _ s
 refine HB (IR oe od (x:=.int k 0) rfl ?_)
 show Im _ _ (do let z <- seqItems? (.ref a);_) _ _ s
 refine HB (J3 le ld ?_)
 simp only[JS,e]
 refine HB (wpAny_setField oe od (by simp) (HQ ⟨v,rfl,HQ (q _ ?_ (My ..))⟩))
 refine⟨_,Heap.get?_update_self _ oe (Obj.isFreed_of_fields (Obj.data_mapFields od _)),?_,?_⟩
 · exact(Obj.cls_mapFields ..).trans oc
 · rw[Obj.data_mapFields od];simp[M4]
theorem wJ(hd:A.handled=none)(st:s.heap.IsTupleIter it a k)(tu:s.heap.IsTuple a xs)(e:xs[k]?=none)
 (q:∀g x,Heap.ExtBut it s.heap g->(∃o,g.get? x=some o/\o.cls = .type "StopIteration")->E (.ref x) {s with heap:=g}):Im (IH prog w) A (Iy (.ref it)) Q E s:=by
 have ty:=st.typeIs
 obtain⟨o,oe,oc,od⟩:=st
 obtain⟨l,le,_,_,ld⟩:=tu
 unfold Iy
 have sl:=F.slot_tuple_iterator_next
 refine HB (IL (name:=Hw "__next__") ty sl (JO sl ty F.entry_tuple_iterator_next ?_ (F.args_tuple_iterator_next_1 _)))
 show Im _ _ (do let z <- M9 (.ref it) 0;_) _ _ s
 refine HB (IR oe od (x:=.ref a) rfl ?_)
 show Im _ _ (ite ((J7 a==KG)=true) _ _) _ _ s
 rw[if_neg (show ¬(J7 a == .none)=true by intro z;cases z)]
 show Im _ _ (do let z <- M9 (.ref it) 1;_) _ _ s
 refine HB (IR oe od (x:=.int k 0) rfl ?_)
 show Im _ _ (do let z <- seqItems? (.ref a);_) _ _ s
 refine HB (J3 le ld ?_)
 simp only[JS,e]
 refine HB (Lf (HB (wpAny_setField oe od (by simp) ?_)))
 show Im _ _ (do let z <- newExc (.type "StopIteration") [];_) _ _ _
 refine HB ?_
 simp only[newExc,newTuple]
 refine HB (Jk ?_ (by size_fits))
 refine HB (m:=firstArgMember _ _) (M8 (a:=.none) (by first|rfl|(simp only[firstArgMember];rfl)) (Jk ?_ (by size_fits)))
 simp only[raiseNew]
 refine HB (wpAny_handled ?_)
 first
  | rw[show A.in1.handled=none from hd]
  | rw[hd]
 refine HB (HQ (wpAny_throw ?_))
 exact q _ _ (((My ..).extBut.push _).push _) ⟨_,HW _ rfl,rfl⟩
end
noncomputable def Hg(h:Heap)(it a:Addr)(xs:Array HE)(k:Nat):Prop:=(h.IsListIter it a k/\h.IsList a xs)\/(h.IsTupleIter it a k/\h.IsTuple a xs)
section
variable{prog:Ie}{w:II}{A:Jb}{E:HE->HH->Prop}{s:HH}{it a:Addr}{k:Nat}{xs:Array HE}{v:HE}
theorem Hg.item(st:Hg s.heap it a xs k)(ne:a≠it)(e:xs[k]?=some v)
 (q:∀g,Hg g it a xs (k+1)->JY it s.heap g->Q v {s with heap:=g}):Im (IH prog w) A (Iy (.ref it)) Q E s:=by
 rcases st with⟨h1,h2⟩|⟨h1,h2⟩
 · exact wpAny_nextOf_list_item h1 h2 e fun g h3 h4=>q g (.inl ⟨h3,h2.extBut h4.extBut ne⟩) h4
 · exact ud h1 h2 e fun g h3 h4=>q g (.inr ⟨h3,h2.extBut h4.extBut ne⟩) h4
theorem Hg.fin(hd:A.handled=none)(st:Hg s.heap it a xs k)(e:xs[k]?=none)
 (q:∀g x,Heap.ExtBut it s.heap g->(∃o,g.get? x=some o/\o.cls = .type "StopIteration")->E (.ref x) {s with heap:=g}):Im (IH prog w) A (Iy (.ref it)) Q E s:=by
 rcases st with⟨h1,h2⟩|⟨h1,h2⟩
 · exact wpAny_nextOf_list_end hd h1 h2 e q
 · exact wJ hd h1 h2 e q
theorem Hg.keep(st:Hg h it a xs k)(e1:∀o,h.get? it=some o->h'.get? it=some o)(e2:∀o,h.get? a=some o->h'.get? a=some o):Hg h' it a xs k:=by
 rcases st with⟨⟨o,h1,r1⟩,⟨p,h2,r2⟩⟩|⟨⟨o,h1,r1⟩,⟨p,h2,r2⟩⟩
 · exact .inl ⟨⟨o,e1 _ h1,r1⟩,⟨p,e2 _ h2,r2⟩⟩
 · exact .inr ⟨⟨o,e1 _ h1,r1⟩,⟨p,e2 _ h2,r2⟩⟩
end
section
variable{prog:Ie}{w:II}{A:Jb}{E:HE->HH->Prop}{s:HH}{z ti to i1 i2 a1 a2:Addr}{k1 k2:Nat}{xs ys:Array HE}{x y p q:HE}
theorem SameBut.keep(sb:JY a h h')(ne:b≠a):∀o,h.get? b=some o->h'.get? b=some o:=fun o e=>sb.extBut _ _ ne e
theorem tH(D:ZipApart z ti to i1 i2 a1 a2)(oz:MS s.heap z ti to .none)(oi:Ln s.heap ti (.ref i1) (.ref i2))(oo:Ln s.heap to p q)
 (s1:Hg s.heap i1 a1 xs k1)(s2:Hg s.heap i2 a2 ys k2)(ex:xs[k1]?=some x)(ey:ys[k2]?=some y)
 (done:∀g,MS g z ti to (M4 s.heap.objs.size)->Ln g to x y->Hg g i1 a1 xs (k1+1)->Hg g i2 a2 ys (k2+1)->Ln g s.heap.objs.size x y->g.objs.size=s.heap.objs.size+1 ->
  (∀b o,b≠z->b≠to->b≠i1->b≠i2->s.heap.get? b=some o->g.get? b=some o)->Q (.ref s.heap.objs.size) {s with heap:=g}) :
 Im (IH prog w) A (Builtin.«zip.__next__» ⟨[.ref z],[]⟩) (fun r s'=>∃u,r = .done (.ret u)/\Q u s') E s:=by
 show Im _ _ (do let c <- M9 (.ref z) 2;_) _ _ _
 refine HB (IR oz rfl (x:=.bool false) rfl ?_)
 show Im _ _ (do let c <- M9 (.ref z) 3;_) _ _ _
 refine HB (IR oz rfl (x:=.ref ti) rfl ?_)
 refine HB (J3 oi rfl ?_)
 show Im _ _ (do let c <- IF (.ref z);_) _ _ _
 refine HB ?_
 unfold IF
 refine HB (IR oz rfl (x:=KG) rfl (HQ ?_))
 simp only[if_true]
 refine HB (Lf (HB (IR oz rfl (x:=.ref to) rfl (HB (IU oz (by simp) fun g1 z1 b1=>?_)))))
 have z1:MS g1 z ti to .ellipsis:=z1
 refine HB ?_
 simp only[Ll,List.forIn_nil,List.zipIdx_cons,List.zipIdx_nil]
 have s1a:Hg g1 i1 a1 xs k1:=s1.keep (SameBut.keep b1 D.i1z) (SameBut.keep b1 D.l1z)
 refine HB (HB (LY ?_))
 show Im _ _ (do let c <- Iy (.ref i1);_) _ _ _
 refine HB (s1a.item D.l1i1 ex fun g2 s1b b2=>HQ ?_)
 have o2:Ln g2 to p q:=b2.extBut _ _ D.TOi1 (b1.extBut _ _ D.TOz oo)
 refine HB (J3 o2 rfl (HB (Lb o2 fun g3 o3 b3=>?_)))
 have o3:Ln g3 to x q:=o3
 refine HB (Mz (HQ ?_))
 have s2a:Hg g3 i2 a2 ys k2:=((s2.keep (SameBut.keep b1 D.i2z) (SameBut.keep b1 D.l2z)).keep (SameBut.keep b2 D.i12.symm) (SameBut.keep b2 D.l2i1)).keep (SameBut.keep b3 D.TOi2.symm) (SameBut.keep b3 D.l2TO)
 refine HB (HB (LY ?_))
 show Im _ _ (do let c <- Iy (.ref i2);_) _ _ _
 refine HB (s2a.item D.l2i2 ey fun g4 s2b b4=>HQ ?_)
 have o4:Ln g4 to x q:=b4.extBut _ _ D.TOi2 o3
 refine HB (J3 o4 rfl (HB (Lb o4 fun g5 o5 b5=>?_)))
 have o5:Ln g5 to x y:=o5
 refine HB (Mz (HQ (HQ ?_)))
 refine HB (J3 o5 rfl (HB (wpAny_newTuple ?_)))
 have size:g5.objs.size=s.heap.objs.size:=by rw[b5.1,b4.1,b3.1,b2.1,b1.1]
 have z5:MS g5 z ti to .ellipsis:=b5.extBut _ _ D.TOz.symm (b4.extBut _ _ D.i2z.symm (b3.extBut _ _ D.TOz.symm (b2.extBut _ _ D.i1z.symm z1)))
 have kp:∀b o,b≠z->b≠to->b≠i1->b≠i2->s.heap.get? b=some o->g5.get? b=some o:=fun b o n1 n2 n3 n4 e=>b5.extBut _ _ n2 (b4.extBut _ _ n4 (b3.extBut _ _ n2 (b2.extBut _ _ n3 (b1.extBut _ _ n1 e))))
 have s1c:Hg g5 i1 a1 xs (k1+1):=((s1b.keep (SameBut.keep b3 D.TOi1.symm) (SameBut.keep b3 D.l1TO)).keep (SameBut.keep b4 D.i12) (SameBut.keep b4 D.l1i2)).keep (SameBut.keep b5 D.TOi1.symm) (SameBut.keep b5 D.l1TO)
 have s2c:Hg g5 i2 a2 ys (k2+1):=s2b.keep (SameBut.keep b5 D.TOi2.symm) (SameBut.keep b5 D.l2TO)
 have zl:z<g5.objs.size:=HN z5
 show Im _ _ (do Jo (.ref z) (.ref g5.objs.size);_) _ _ _
 refine HB ?_
 unfold Jo
 have z6:MS (g5.push {cls:=.type "tuple", data:=.seq #[x,y]}) z ti to .ellipsis:=HK _ z5
 refine HB (IU z6 (by simp) fun g7 z7 b7=>?_)
 have z7:MS g7 z ti to (M4 g5.objs.size):=z7
 refine IU z7 (by simp) fun g8 z8 b8=>?_
 have z8:MS g8 z ti to (M4 g5.objs.size):=z8
 have up:∀b o,b≠z->g5.get? b=some o->g8.get? b=some o:=fun b o n e=>b8.extBut _ _ n (b7.extBut _ _ n (HK _ e))
 have t8:Ln g8 g5.objs.size x y:=b8.extBut _ _ (Km zl) (b7.extBut _ _ (Km zl) (HW _ rfl))
 have l8:g8.objs.size=g5.objs.size+1:=by rw[b8.1,b7.1,Ji]
 rw[size]at z8 t8 l8
 refine HQ ⟨_,rfl,?_⟩
 show Q (.ref g5.objs.size) _
 rw[size]
 exact done g8 z8 (up _ _ D.TOz o5) (s1c.keep (fun o e=>up _ o D.i1z e) fun o e=>up _ o D.l1z e) (s2c.keep (fun o e=>up _ o D.i2z e) fun o e=>up _ o D.l2z e) t8 l8 fun b o n1 n2 n3 n4 e=>up b o n1 (kp b o n1 n2 n3 n4 e)
theorem vY{Q:Fin->HH->Prop}(hd:A.handled=none)(D:ZipApart z ti to i1 i2 a1 a2)(oz:MS s.heap z ti to .none)(oi:Ln s.heap ti (.ref i1) (.ref i2))(oo:Ln s.heap to p q)
 (s1:Hg s.heap i1 a1 xs k1)(s2:Hg s.heap i2 a2 ys k2)(e:xs[k1]?=none\/ys[k2]?=none)
 (q':∀g x,(∀b o,b≠z->b≠to->b≠i1->b≠i2->s.heap.get? b=some o->g.get? b=some o)->(∃o,g.get? x=some o/\o.cls = .type "StopIteration")->E (.ref x) {s with heap:=g}) :
 Im (IH prog w) A (Builtin.«zip.__next__» ⟨[.ref z],[]⟩) Q E s:=by
 show Im _ _ (do let c <- M9 (.ref z) 2;_) _ _ _
 refine HB (IR oz rfl (x:=.bool false) rfl ?_)
 show Im _ _ (do let c <- M9 (.ref z) 3;_) _ _ _
 refine HB (IR oz rfl (x:=.ref ti) rfl ?_)
 refine HB (J3 oi rfl ?_)
 show Im _ _ (do let c <- IF (.ref z);_) _ _ _
 refine HB ?_
 unfold IF
 refine HB (IR oz rfl (x:=KG) rfl (HQ ?_))
 simp only[if_true]
 refine HB (Lf (HB (IR oz rfl (x:=.ref to) rfl (HB (IU oz (by simp) fun g1 z1 b1=>?_)))))
 have z1:MS g1 z ti to .ellipsis:=z1
 refine HB ?_
 simp only[Ll,List.forIn_nil,List.zipIdx_cons,List.zipIdx_nil]
 have s1a:Hg g1 i1 a1 xs k1:=s1.keep (SameBut.keep b1 D.i1z) (SameBut.keep b1 D.l1z)
 refine HB (HB (LY ?_))
 show Im _ _ (do let c <- Iy (.ref i1);_) _ _ _
 have last:∀(g g':Heap)(u:Addr)(o:Obj),g.get? u=some o->o.cls = .type "StopIteration" -> MS g z ti to .ellipsis->JY z g g'->∃o,g'.get? u=some o/\o.cls = .type "StopIteration" := fun g g' u o h1 h2 h3 sb=>by
  have ne:u≠z:=fun c=>by rw[c,h3]at h1;cases h1;simp at h2
  exact⟨o,sb.extBut _ _ ne h1,h2⟩
 cases ex:xs[k1]? with
 | none =>
   refine HB (s1a.fin hd ex fun g2 u b2 ⟨o,ou,oc⟩=>?_)
   have z2:MS g2 z ti to .ellipsis:=b2 _ _ D.i1z.symm z1
   exact IU z2 (by simp) fun g3 _ b3=>q' g3 u (fun b o n1 _ n3 _ e=>b3.extBut _ _ n1 (b2 _ _ n3 (b1.extBut _ _ n1 e))) (last g2 g3 u o ou oc z2 b3)
 | some x =>
   have ey:ys[k2]?=none:=e.elim (fun h=>by rw[ex]at h;cases h) id
   refine HB (s1a.item D.l1i1 ex fun g2 s1b b2=>HQ ?_)
   have o2:Ln g2 to p q:=b2.extBut _ _ D.TOi1 (b1.extBut _ _ D.TOz oo)
   refine HB (J3 o2 rfl (HB (Lb o2 fun g3 o3 b3=>?_)))
   refine HB (Mz (HQ ?_))
   have s2a:Hg g3 i2 a2 ys k2:=((s2.keep (SameBut.keep b1 D.i2z) (SameBut.keep b1 D.l2z)).keep (SameBut.keep b2 D.i12.symm) (SameBut.keep b2 D.l2i1)).keep (SameBut.keep b3 D.TOi2.symm) (SameBut.keep b3 D.l2TO)
   refine HB (HB (LY ?_))
   show Im _ _ (do let c <- Iy (.ref i2);_) _ _ _
   refine HB (s2a.fin hd ey fun g4 u b4 ⟨o,ou,oc⟩=>?_)
   have z4:MS g4 z ti to .ellipsis:=b4 _ _ D.i2z.symm (b3.extBut _ _ D.TOz.symm (b2.extBut _ _ D.i1z.symm z1))
   exact IU z4 (by simp) fun g5 _ b5=>q' g5 u (fun b o n1 n2 n3 n4 e=>b5.extBut _ _ n1 (b4 _ _ n4 (b3.extBut _ _ n2 (b2.extBut _ _ n3 (b1.extBut _ _ n1 e))))) (last g4 g5 u o ou oc z4 b5)
end
noncomputable def GH(b:Bool)(h:Heap)(a:Addr)(xs:Array HE):Prop:=bif b then h.IsTuple a xs else h.IsList a xs
noncomputable def FA(b:Bool):String:=bif b then "tuple_iterator" else "list_iterator"
theorem GH.push{b:Bool}{h:Heap}{a:Addr}{xs:Array HE}(q:GH b h a xs)(o:Obj):GH b (h.push o) a xs:=by
 cases b with
 | true=>exact Heap.IsTuple.push q o
 | false=>exact Heap.IsList.push q o
section
variable{prog:Ie}{w:II}{A:Jb}{E:HE->HH->Prop}{s:HH}{b b1 b2:Bool}{a a1 a2:Addr}{xs ys:Array HE}
theorem rh(st:GH b s.heap a xs)(q:Q (.ref s.heap.objs.size) {s with heap:=s.heap.push {cls:=.type (FA b),data:=.fields #[.ref a,.int 0 0]}}):Im (IH prog w) A (pyIter (.ref a)) Q E s:=by
 cases b with
 | true=>exact wpAny_pyIter_tuple st q
 | false=>exact Ks st q
abbrev y1(h:Heap)(b1:Bool)(a1:Addr):Heap:=h.push {cls:=.type (FA b1),data:=.fields #[.ref a1,.int 0 0]}
abbrev y2(h:Heap)(b1 b2:Bool)(a1 a2:Addr):Heap:=(y1 h b1 a1).push {cls:=.type (FA b2),data:=.fields #[.ref a2,.int 0 0]}
abbrev y3(h:Heap)(b1 b2:Bool)(a1 a2:Addr):Heap:=(y2 h b1 b2 a1 a2).push {cls:=.type "tuple", data:=.seq #[.ref h.objs.size,.ref (y1 h b1 a1).objs.size]}
abbrev y4(h:Heap)(b1 b2:Bool)(a1 a2:Addr):Heap:=(y3 h b1 b2 a1 a2).push {cls:=.type "tuple", data:=.seq #[.none,.none]}
abbrev y5(h:Heap)(b1 b2:Bool)(a1 a2:Addr):Heap:=(y4 h b1 b2 a1 a2).push {cls:=.type "zip", data:=.fields #[.none,.bool false,.bool false,.ref (y2 h b1 b2 a1 a2).objs.size,.ref (y3 h b1 b2 a1 a2).objs.size]}
theorem tI(b1 b2:Bool)(a1 a2:Addr)(xs ys:Array HE) :
 Meets (Builtin.«zip.__new__» ⟨[.type "zip", .ref a1,.ref a2],[]⟩) (fun _ R s=>GH b1 s.heap a1 xs/\GH b2 s.heap a2 ys/\R (.ok (.ret (.ref (y4 s.heap b1 b2 a1 a2).objs.size))) {s with heap:=y5 s.heap b1 b2 a1 a2}) :=
 .of_wp fun prog w A R s h=>by
  obtain⟨hp,g,d,tk,os⟩:=s
  obtain⟨q1,q2,h⟩:=h
  have hsub:=sub_zip
  have k1:GH b1 (M_ ⟨hp,g,d,tk,os⟩) a1 xs:=q1
  have k2:GH b2 (M_ ⟨hp.push {cls:=.type (FA b1),data:=.fields #[.ref a1,.int 0 0]},g,d,tk,os⟩) a2 ys:=q2.push _
  wp_walk using rh k1,rh k2
  exact⟨_,rfl,h⟩
theorem sd(q1:GH b1 s.heap a1 xs)(q2:GH b2 s.heap a2 ys)
 (k:∀g,MS g (s.heap.objs.size+4) (s.heap.objs.size+2) (s.heap.objs.size+3) .none->Ln g (s.heap.objs.size+2) (.ref s.heap.objs.size) (.ref (s.heap.objs.size+1))->Ln g (s.heap.objs.size+3) .none .none ->
  Hg g s.heap.objs.size a1 xs 0->Hg g (s.heap.objs.size+1) a2 ys 0->g.objs.size=s.heap.objs.size+5->(∀c o,s.heap.get? c=some o->g.get? c=some o)->Q (.ref (s.heap.objs.size+4)) {s with heap:=g}) :
 Im (IH prog w) A (call (.type "zip") [.ref a1,.ref a2]) Q E s:=by
 refine callType_new F.called_zip (by decide) (F.typeCall_zip_2 _ _) (F.newCall_zip_2 _ _) (fun u=>F.args_object_init_3 u _ _) F.entry_zip_new (tI b1 b2 a1 a2 xs ys) ⟨q1,q2,?_⟩
 have n1:(y1 s.heap b1 a1).objs.size=s.heap.objs.size+1:=Ji ..
 have n2:(y2 s.heap b1 b2 a1 a2).objs.size=s.heap.objs.size+2:=by rw[Ji,n1]
 have n3:(y3 s.heap b1 b2 a1 a2).objs.size=s.heap.objs.size+3:=by rw[Ji,n2]
 have n4:(y4 s.heap b1 b2 a1 a2).objs.size=s.heap.objs.size+4:=by rw[Ji,n3]
 have n5:(y5 s.heap b1 b2 a1 a2).objs.size=s.heap.objs.size+5:=by rw[Ji,n4]
 have pu:∀{h:Heap}{o u:Obj}{c:Addr},h.get? c=some u->(h.push o).get? c=some u:=fun e=>HK _ e
 have kp:∀c o,s.heap.get? c=some o->(y5 s.heap b1 b2 a1 a2).get? c=some o:=fun c o e=>pu (pu (pu (pu (pu e))))
 have f5:(y5 s.heap b1 b2 a1 a2).get? (y4 s.heap b1 b2 a1 a2).objs.size=some _:=HW _ rfl
 have f4:(y5 s.heap b1 b2 a1 a2).get? (y3 s.heap b1 b2 a1 a2).objs.size=some _:=pu (HW _ rfl)
 have f3:(y5 s.heap b1 b2 a1 a2).get? (y2 s.heap b1 b2 a1 a2).objs.size=some _:=pu (pu (HW _ rfl))
 have f2:(y5 s.heap b1 b2 a1 a2).get? (y1 s.heap b1 a1).objs.size=some _:=pu (pu (pu (HW _ rfl)))
 have f1:(y5 s.heap b1 b2 a1 a2).get? s.heap.objs.size=some _:=pu (pu (pu (pu (HW _ rfl))))
 show _/\_
 rw[n2,n3,n4]at f5
 rw[n1,n2]at f3
 rw[n3]at f4
 rw[n1]at f2
 rw[n4]
 have mk:∀{b:Bool}{i a:Addr}{zs:Array HE},(y5 s.heap b1 b2 a1 a2).get? i=some {cls:=.type (FA b),data:=.fields #[.ref a,.int 0 0]}->GH b s.heap a zs->Hg (y5 s.heap b1 b2 a1 a2) i a zs 0:=fun{b i a zs} e q=>by
  cases b with
  | true=>obtain⟨o,h1,h2⟩:=(show s.heap.IsTuple a zs from q);exact .inr ⟨⟨_,e,rfl,rfl⟩,⟨o,kp _ _ h1,h2⟩⟩
  | false=>obtain⟨o,h1,h2⟩:=(show s.heap.IsList a zs from q);exact .inl ⟨⟨_,e,rfl,rfl⟩,⟨o,kp _ _ h1,h2⟩⟩
 exact⟨⟨_,f5,rfl⟩,k _ f5 f3 f4 (mk f1 q1) (mk f2 q2) n5 kp⟩
end
end L2.ZP
namespace L2
open PySem PySem.Spec PyProof.Rows L2.ZP
theorem Inv.turnedL{ch:List Addr}(I:Inv X pins σ H s)(k:∀b o,b∉ch->s.heap.get? b=some o->h'.get? b=some o)(hn:∀b∈ch,mP X pins H b) :
 Inv X pins σ H {s with heap:=h',toks:=t' }:=by
 have nit:∀b u,H b=some u->b∉ch:=fun b u e z=>by rw[(hn b z).1]at e;cases e
 refine I.step (g':=s.gens) (d':=s.drawn) (ch:=ch) (fun b hb=>?_) (fun b o _ _ hc e _=>k b o hc e) (fun b o _ _ hc e _=>⟨o.slots,k b o hc e⟩) (fun _ _ _ _ n=>n) (fun b o hc e=>⟨o,k b o hc e⟩) (fun _ _ e=>e) (fun _ _ _ e=>e) (fun b ps e=>⟨#[],by rw[e];simp⟩) (fun m hm=>?_) (fun b u e=>?_) I.bare
 · obtain⟨_,h2,_,h4,h5,h6⟩:=hn b hb
   exact⟨h4,h2,h5,h6⟩
 · obtain⟨o,es,ep,ho,r⟩:=hm
   exact⟨o,es,ep,k _ o (fun z=>(hn _ z).2.1 rfl) ho,r⟩
 · refine(I.hok b u e).stay (fun c v hc q=>k c v ?_ q) (fun _ q=>q) fun _ _ q=>q
   rcases hc with z|z
   · rw[z];exact nit b u e
   · exact nit c _ z
noncomputable def GG(b:Bool)(K:W.Frag)(H:Hp)(a:Addr)(xs:List V):Prop:=bif b then GE K H a xs else GF K H a xs
theorem Inv.sqB{b:Bool}{xs:List V}(I:Inv X pins σ H s)(h:GG b X.K H a xs):∃its,dq xs its/\GH b s.heap a its.toArray:=by
 cases b with
 | true =>
   obtain⟨its,r,t,z⟩:=I.tuple h
   exact⟨its,r,t⟩
 | false =>
   obtain⟨its,r,p,z⟩:=I.list h
   exact⟨its,r,p.isList⟩
theorem Inv.sqB_inj{b:Bool}{xs ys:List V}(I:Inv X pins σ H s)(h:GG b X.K H a xs)(h':GG b X.K H a ys):xs=ys:=by
 cases b with
 | true=>exact I.tuple_inj h h'
 | false=>exact I.list_inj h h'
noncomputable def G_(K:W.Frag)(b1 b2:Bool)(a1 a2:Addr):It :=
 ⟨fun i H=>∃xs ys x y,GG b1 K H a1 xs/\GG b2 K H a2 ys/\xs[i]?=some x/\ys[i]?=some y,
  fun i H v H'=>∃x y p,(∀xs,GG b1 K H a1 xs->xs[i]?=some x)/\(∀ys,GG b2 K H a2 ys->ys[i]?=some y)/\H p=none/\v = .ref p/\H'=upd H p (.tup [x,y]),
  fun i H=>∃xs ys,GG b1 K H a1 xs/\GG b2 K H a2 ys/\(xs.length<=i\/ys.length<=i)⟩
noncomputable def Hh(b:Bool)(h:Heap)(it a:Addr)(k:Nat):Prop:=bif b then h.IsTupleIter it a k else h.IsListIter it a k
theorem Hh.it1{b:Bool}{k:Nat}{xs:Array HE}(q:Hh b h it a k)(r:GH b h a xs):Hg h it a xs k:=by
 cases b with
 | true=>exact .inr ⟨q,r⟩
 | false=>exact .inl ⟨q,r⟩
theorem Hh.keep{b:Bool}{k:Nat}(q:Hh b h it a k)(e:∀o,h.get? it=some o->h'.get? it=some o):Hh b h' it a k:=by
 cases b with
 | true=>obtain⟨o,h1,r⟩:=(show h.IsTupleIter it a k from q);exact⟨o,e _ h1,r⟩
 | false=>obtain⟨o,h1,r⟩:=(show h.IsListIter it a k from q);exact⟨o,e _ h1,r⟩
theorem Hh.obj{b:Bool}{k:Nat}(q:Hh b h it a k):∃o,h.get? it=some o/\∀v,o.data ≠ .cell v:=by
 cases b with
 | true=>obtain⟨o,h1,_,d⟩:=(show h.IsTupleIter it a k from q);exact⟨o,h1,fun v z=>by rw[d]at z;cases z⟩
 | false=>obtain⟨o,h1,_,d⟩:=(show h.IsListIter it a k from q);exact⟨o,h1,fun v z=>by rw[d]at z;cases z⟩
theorem Hg.ir{b:Bool}{k:Nat}{xs:Array HE}{h0:Heap}(q:Hg h it a xs k)(r:Hh b h0 it a j)(s:GH b h a xs):Hh b h it a k:=by
 cases b with
 | true =>
   rcases q with⟨_,⟨o,e,c,_⟩⟩|⟨q,_⟩
   · obtain⟨o',e',c',_⟩:=(show h.IsTuple a xs from s)
     rw[e]at e';cases e';rw[c]at c';injection c' with z;exact absurd z (by decide)
   · exact q
 | false =>
   rcases q with⟨q,_⟩|⟨_,⟨o,e,c,_⟩⟩
   · exact q
   · obtain⟨o',e',c',_⟩:=(show h.IsList a xs from s)
     rw[e]at e';cases e';rw[c]at c';injection c' with z;exact absurd z (by decide)
noncomputable def ZS(b1 b2:Bool)(z ti to i1 i2 a1 a2:Addr)(i:Nat)(h:Heap):Prop:=MS h z ti to .none/\Ln h ti (.ref i1) (.ref i2)/\(∃p q,Ln h to p q)/\Hh b1 h i1 a1 i/\Hh b2 h i2 a2 i
theorem GH.of{b:Bool}{xs:Array HE}(q:GH b h a xs)(e:∀o,h.get? a=some o->h'.get? a=some o):GH b h' a xs:=by
 cases b with
 | true=>obtain⟨o,h1,r⟩:=(show h.IsTuple a xs from q);exact⟨o,e _ h1,r⟩
 | false=>obtain⟨o,h1,r⟩:=(show h.IsList a xs from q);exact⟨o,e _ h1,r⟩
theorem qC{K:W.Frag}{elts:List Expr}{kt:Nat}{pt:Pos}(b1 b2:Bool)(z ti to i1 i2 a1 a2:Addr)(D:ZipApart z ti to i1 i2 a1 a2) :
 Turn P w K (.Tuple elts kt pt) (G_ K b1 b2 a1 a2) [z,ti,to,i1,i2] z (ZS b1 b2 z ti to i1 i2 a1 a2) where
 mem:=by simp
 obj:=fun i h ⟨h1,h2,⟨p,q,h3⟩,h4,h5⟩ b hb=>by
  simp at hb
  rcases hb with rfl|rfl|rfl|rfl|rfl
  · exact⟨_,h1,fun v c=>by cases c⟩
  · exact⟨_,h2,fun v c=>by cases c⟩
  · exact⟨_,h3,fun v c=>by cases c⟩
  · exact h4.obj
  · exact h5.obj
 keep:=fun i h h' ⟨h1,h2,⟨p,q,h3⟩,h4,h5⟩ k=>⟨k z (by simp) _ h1,k ti (by simp) _ h2,⟨p,q,k to (by simp) _ h3⟩,h4.keep fun o e=>k i1 (by simp) o e,h5.keep fun o e=>k i2 (by simp) o e⟩
 item:=by
  intro X hP hw hK hc i pins s σ H E I hf st hg
  subst hP hw hK
  obtain⟨h1,h2,⟨p,q,h3⟩,h4,h5⟩:=st
  obtain⟨xs,ys,x,y,q1,q2,ex,ey⟩:=hg
  obtain⟨its,r1,t1⟩:=I.sqB q1
  obtain⟨jts,r2,t2⟩:=I.sqB q2
  obtain⟨u,hu,ru⟩:=r1.get ex
  obtain⟨v,hv,rv⟩:=r2.get ey
  have ty:s.TypeIs (.ref z) "zip" := ⟨_,h1,rfl⟩
  unfold Nh
  refine HB (LZ (IL (name:=Hw "__next__") ty F.slot_zip_next (JO F.slot_zip_next ty F.entry_zip_next
   (tH D h1 h2 h3 (h4.it1 t1) (h5.it1 t2) (by simpa using hu) (by simpa using hv) fun g e1 e2 e3 e4 e5 e6 e7=>HQ ?_) (F.args_zip_next_1 _))))
  have hz:s.heap.objs.size≠z:=Km (HN h1)
  refine⟨.ref s.heap.objs.size,rfl,wpAny_letOwnedTupleGo_zip e1 fun g' f1 fb=>?_⟩
  have hp:H s.heap.objs.size=none:=I.hok.fresh (HS _)
  have I1:Inv X pins σ (upd H s.heap.objs.size (.tup [x,y])) {s with heap:=s.heap.push {cls:=.type "tuple", data:=.seq [u,v].toArray}} :=
   I.laid (t':=s.toks) (o:=.tup [x,y]) (fun b ob e=>HK _ e) (HS _) ⟨(by show 2<=sizeLine;decide),[u,v],.cons ru (.cons rv .nil),qh.new _ _⟩
  have ne:∀b∈[z,ti,to,i1,i2],b≠s.heap.objs.size:=fun b hb e=>by
   simp at hb
   rcases hb with rfl|rfl|rfl|rfl|rfl
   · exact hz e.symm
   · exact absurd (HN h2) (by rw[e];exact Jf _)
   · exact absurd (HN h3) (by rw[e];exact Jf _)
   · obtain⟨o,ho,_⟩:=h4.obj
     exact absurd (HN ho) (by rw[e];exact Jf _)
   · obtain⟨o,ho,_⟩:=h5.obj
     exact absurd (HN ho) (by rw[e];exact Jf _)
  have kg:∀b o,b∉[z,ti,to,i1,i2]->(s.heap.push {cls:=.type "tuple", data:=.seq [u,v].toArray}).get? b=some o->g'.get? b=some o:=fun b o hb e=>by
   simp at hb
   obtain⟨n1,n2,n3,n4,n5⟩:=hb
   refine fb.extBut _ _ n1 ?_
   by_cases hbn:b=s.heap.objs.size
   · subst hbn
     rw[HW _ rfl]at e
     cases e
     exact e5
   · exact e7 b o n1 n3 n4 n5 (by rw[Heap.get?_push_ne _ _ _ hbn]at e;exact e)
  have fp1:∀b∈[z,ti,to,i1,i2],mP X pins (upd H s.heap.objs.size (.tup [x,y])) b:=fun b hb=>by
   obtain⟨f0,fr⟩:=hf b hb
   exact⟨by rw[aA (ne b hb)];exact f0,fr⟩
  have I2:Inv X pins σ (upd H s.heap.objs.size (.tup [x,y])) {s with heap:=g' }:=I1.turnedL (t':=s.toks) kg fp1
  have k8:∀b o,b≠z->g.get? b=some o->g'.get? b=some o:=fun b o n e=>fb.extBut _ _ n e
  have t1':GH b1 g a1 its.toArray:=GH.of t1 fun o e=>e7 _ o D.l1z D.l1TO D.l1i1 D.l1i2 e
  have t2':GH b2 g a2 jts.toArray:=GH.of t2 fun o e=>e7 _ o D.l2z D.l2TO D.l2i1 D.l2i2 e
  refine⟨.ref s.heap.objs.size,_,I2,rfl,⟨x,y,_,fun xs' q'=>by rw[I.sqB_inj q' q1];exact ex,fun ys' q'=>by rw[I.sqB_inj q' q2];exact ey,hp,rfl,rfl⟩,⟨f1,k8 _ _ D.TIz (e7 _ _ D.TIz D.TITO D.TIi1 D.TIi2 h2),⟨_,_,k8 _ _ D.TOz e2⟩,(Hg.ir e3 h4 t1').keep fun o e=>k8 _ o D.i1z e,(Hg.ir e4 h5 t2').keep fun o e=>k8 _ o D.i2z e⟩,fun b hb=>(fp1 b hb).1⟩
 done:=by
  intro X hP hw hK hc i pins s σ H E I hf st hg
  subst hP hw hK
  obtain⟨h1,h2,⟨p,q,h3⟩,h4,h5⟩:=st
  obtain⟨xs,ys,q1,q2,ex⟩:=hg
  obtain⟨its,r1,t1⟩:=I.sqB q1
  obtain⟨jts,r2,t2⟩:=I.sqB q2
  have l1:=r1.length
  have l2:=r2.length
  have ty:s.TypeIs (.ref z) "zip" := ⟨_,h1,rfl⟩
  unfold Nh
  refine HB (LZ (IL (name:=Hw "__next__") ty F.slot_zip_next (JO F.slot_zip_next ty F.entry_zip_next
   (vY (I.ok.hd hc) D h1 h2 h3 (h4.it1 t1) (h5.it1 t2) (by simp;omega) fun g e kg ⟨o,ho,hoc⟩=>?_) (F.args_zip_next_1 _))))
  refine HB (wpAny_isInstance (T := "StopIteration") (b:=true) ⟨o,ho,hoc⟩ isSubtype_stop (HQ ⟨rfl,?_⟩))
  exact I.turnedL (t':=s.toks) (fun b o hb e=>by simp at hb;exact kg b o hb.1 hb.2.2.1 hb.2.2.2.1 hb.2.2.2.2 e) hf
 self:=fun _ _ _ _ _ st h=>wpAny_pyIter_zip st.1 h
open PySem PySem.Spec PyProof.Rows L2.ZP
section
variable{X:Cx}{e1 e2:Expr}{ta:TA}{elts:List Expr}{kt:Nat}{pt p pos:Pos}
noncomputable def C6(K:W.Frag)(b1 b2:Bool)(t:TA):TI:=fun σ H R=>t σ H fun vs H1=>∃a1 a2 xs ys,vs=[.ref a1,.ref a2]/\GG b1 K H1 a1 xs/\GG b2 K H1 a2 ys/\R (G_ K b1 b2 a1 a2) H1
theorem xx(b1 b2:Bool)(hg:Gl X "zip")(hm:X.mg "zip" = none)(ha:PA X [e1,e2] ta)(hs:HL [e1,e2] X.env=(false,eval e1 X.env)::HL [e2] X.env:=by rfl)(hpl:(Jv pos (HL [e2] X.env)).any (·.1)=false:=by rfl) :
 PI X (.Tuple elts kt pt) (.Call (.Name "zip" p) [e1,e2] [] pos) (C6 X.K b1 b2 ta):=by
 intro pins s σ H R I h
 refine Call_ (iB I hg hm (by rfl) (JV (Eg (ha pos pins s σ H _ I h) fun us s1 ⟨vs,H1,I1,r1,q1⟩=>?_) hs hpl) (by decide) (by decide))
 obtain⟨a1,a2,xs,ys,ev,q1,q2,q⟩:=q1
 subst ev
 cases r1 with
 | cons r rr =>
   cases rr with
   | cons r' rr =>
     cases rr
     cases r
     cases r'
     obtain⟨its,v1,t1⟩:=I1.sqB q1
     obtain⟨jts,v2,t2⟩:=I1.sqB q2
     refine sd t1 t2 fun g f1 f2 f3 f4 f5 f6 kp=>wpAny_pyIter_zip f1 ?_
     have lt1:a1<s1.heap.objs.size/\a2<s1.heap.objs.size:=by
      constructor
      · cases b1 with
        | true=>obtain⟨o,ho,_⟩:=(show s1.heap.IsTuple a1 _ from t1);exact HN ho
        | false=>obtain⟨o,ho,_⟩:=(show s1.heap.IsList a1 _ from t1);exact HN ho
      · cases b2 with
        | true=>obtain⟨o,ho,_⟩:=(show s1.heap.IsTuple a2 _ from t2);exact HN ho
        | false=>obtain⟨o,ho,_⟩:=(show s1.heap.IsList a2 _ from t2);exact HN ho
     obtain⟨l1,l2⟩:=lt1
     have ap:∀{n c:Nat},c<n->∀k:Nat,c≠n+k:=fun h k e=>by omega
     have D:ZipApart (s1.heap.objs.size+4) (s1.heap.objs.size+2) (s1.heap.objs.size+3) s1.heap.objs.size (s1.heap.objs.size+1) a1 a2:=by
      generalize hN:s1.heap.objs.size=N at l1 l2
      exact⟨by simp,by simp,by simp,by simp,by simp,by simp,by simp,by simp,by simp,by simp,ap l1 4,ap l1 3,ap l1 0,ap l1 1,ap l2 4,ap l2 3,ap l2 0,ap l2 1⟩
     have kg:∀b o,s1.heap.get? b=some o->g.get? b=some o:=kp
     have I2:Inv X pins σ H1 {s1 with heap:=g}:=I1.kept (t':=s1.toks) kg
     have ir:∀{b:Bool}{it a:Addr}{zs:Array HE},Hg g it a zs 0->GH b s1.heap a zs->Hh b g it a 0:=fun{b it a zs} q r=>by
      have r':=GH.of r fun o e=>kg _ o e
      cases b with
      | true =>
        rcases q with⟨_,⟨o,e,c,_⟩⟩|⟨q,_⟩
        · obtain⟨o',e',c',_⟩:=(show g.IsTuple a zs from r')
          rw[e]at e';cases e';rw[c]at c';injection c' with z;exact absurd z (by decide)
        · exact q
      | false =>
        rcases q with⟨q,_⟩|⟨_,⟨o,e,c,_⟩⟩
        · exact q
        · obtain⟨o',e',c',_⟩:=(show g.IsList a zs from r')
          rw[e]at e';cases e';rw[c]at c';injection c' with z;exact absurd z (by decide)
     refine⟨_,[s1.heap.objs.size+4,s1.heap.objs.size+2,s1.heap.objs.size+3,s1.heap.objs.size,s1.heap.objs.size+1],_,_,H1,rfl,I2,qC b1 b2 _ _ _ _ _ a1 a2 D,⟨f1,f2,⟨_,_,f3⟩,ir f4 t1,ir f5 t2⟩,fun b hb=>?_,q⟩
     have hb':s1.heap.objs.size<=b:=by
      simp at hb
      rcases hb with rfl|rfl|rfl|rfl|rfl
      · exact KC _ 4
      · exact KC _ 2
      · exact KC _ 3
      · exact HS _
      · exact KC _ 1
     exact I1.fpOk hb' (I1.hok.fresh hb')
end
end L2
namespace L2.VL
section
variable{X:Cx}{rl:RlT}{a b:Expr}{elts:List Expr}{kt:Nat}{pt p pos:Pos}{fs:Gy}
noncomputable def lZ(xs ys:List Hy):List Hy:=List.zipWith (fun x y=>.tuple [x,y]) xs ys
noncomputable def d0:Hy->Bool
 | .tuple _=>true
 | _=>false
theorem nS{K:W.Frag}(r:Rep K F v d)(e:fU d=some xs):∃a vs,v = .ref a/\Reps K F vs xs/\∀H,cp F H->GG (d0 d) K H a vs:=by
 cases r with
 | tup sq rs=>cases e;exact⟨_,_,rfl,rs,fun H s=>eY s sq⟩
 | lst h rs=>cases e;exact⟨_,_,rfl,rs,fun H s=>.inl (.inl (s _ _ h))⟩
 | non=>cases e
 | bl b=>cases e
 | int i=>cases e
 | str x=>cases e
theorem lq{ys:List Hy}(h:(lZ xs ys)[i]?=some d):∃x y,xs[i]?=some x/\ys[i]?=some y/\d = .tuple [x,y]:=by
 unfold lZ at h
 rw[List.getElem?_zipWith]at h
 cases ex:xs[i]? with
 | none=>rw[ex]at h;cases h
 | some x =>
   cases ey:ys[i]? with
   | none=>rw[ex,ey]at h;cases h
   | some y=>rw[ex,ey]at h;cases h;exact⟨x,y,rfl,rfl,rfl⟩
theorem mZ(b1 b2:Bool)(hm:X.mg "zip" = none)(ha:GP X rl [a,b] fs)(hg:Gl X "zip" := by rfl)(hs:HL [a,b] X.env=(false,eval a X.env)::HL [b] X.env:=by rfl)(hpl:(Jv pos (HL [b] X.env)).any (·.1)=false:=by rfl) :
 GW X rl (.Tuple elts kt pt) (.Call (.Name "zip" p) [a,b] [] pos) (fun ρ Q=>fs ρ fun ws=>∃dx dy xs ys,ws=[.d dx,.d dy]/\fU dx=some xs/\fU dy=some ys/\d0 dx=b1/\d0 dy=b2/\Q (lZ xs ys)):=by
 obtain⟨t,p1,k⟩:=ha
 refine⟨_,xx b1 b2 hg hm p1 hs hpl,fun R Qd Q q h=>k R _ _ q fun vs ws F1 H1 g1 r1 ⟨dx,dy,xs,ys,ew,e1,e2,kb1,kb2,q1⟩=>?_⟩
 subst ew kb1 kb2
 obtain⟨v,u,rfl,rv,ru⟩:=zN r1
 obtain⟨a1,vs,rfl,rs,sq1⟩:=nS rv e1
 obtain⟨a2,us,rfl,rt,sq2⟩:=nS ru e2
 refine⟨a1,a2,vs,us,rfl,sq1 _ g1.sub,sq2 _ g1.sub,h _ (lZ xs ys) F1 H1 g1 ⟨fun i H x e s=>?_,fun i H hl s=>?_,fun i H v H' x F2 e s s2 ra y=>?_⟩ q1⟩
 · obtain⟨x1,y1,ex,ey,_⟩:=lq e
   obtain⟨v1,ev1,_⟩:=rs.get ex
   obtain⟨u1,eu1,_⟩:=rt.get ey
   exact⟨vs,us,v1,u1,sq1 _ s,sq2 _ s,ev1,eu1⟩
 · refine⟨vs,us,sq1 _ s,sq2 _ s,?_⟩
   unfold lZ at hl
   rw[List.length_zipWith]at hl
   rw[rs.length,rt.length]
   omega
 · obtain⟨x1,y1,ex,ey,ed⟩:=lq e
   obtain⟨vx,vy,pp,hx,hy,hp,ev,eH⟩:=y
   obtain⟨v1,ev1,rv1⟩:=rs.get ex
   obtain⟨u1,eu1,ru1⟩:=rt.get ey
   have h1:=hx vs (sq1 _ (s.trans s2))
   have h2:=hy us (sq2 _ (s.trans s2))
   rw[ev1]at h1
   rw[eu1]at h2
   cases h1
   cases h2
   subst ev eH ed
   have g:=Grow.data (a:=pp) (o:=.tup [vx,vy]) s2 ra hp
   exact⟨_,g,.tup (.inl (.inl aJ)) (.cons ((rv1.mono s).mono g.fs) (.cons ((ru1.mono s).mono g.fs) .nil))⟩
noncomputable def FG(b1 b2:Bool)(fs:Gy):En->(List Hy->Prop)->Prop:=fun ρ Q=>fs ρ fun ws=>∃dx dy xs ys,ws=[.d dx,.d dy]/\fU dx=some xs/\fU dy=some ys/\d0 dx=b1/\d0 dy=b2/\Q (lZ xs ys)
theorem qr(hm:X.mg "zip" = none)(ha:GP X rl [a,b] fs)(hg:Gl X "zip" := by rfl)(hs:HL [a,b] X.env=(false,eval a X.env)::HL [b] X.env:=by rfl)(hpl:(Jv pos (HL [b] X.env)).any (·.1)=false:=by rfl) :
 GW X rl (.Tuple elts kt pt) (.Call (.Name "zip" p) [a,b] [] pos) (FG true true fs):=mZ true true hm ha hg hs hpl
theorem qu(hm:X.mg "zip" = none)(ha:GP X rl [a,b] fs)(hg:Gl X "zip" := by rfl)(hs:HL [a,b] X.env=(false,eval a X.env)::HL [b] X.env:=by rfl)(hpl:(Jv pos (HL [b] X.env)).any (·.1)=false:=by rfl) :
 GW X rl (.Tuple elts kt pt) (.Call (.Name "zip" p) [a,b] [] pos) (FG false true fs):=mZ false true hm ha hg hs hpl
theorem qt(hm:X.mg "zip" = none)(ha:GP X rl [a,b] fs)(hg:Gl X "zip" := by rfl)(hs:HL [a,b] X.env=(false,eval a X.env)::HL [b] X.env:=by rfl)(hpl:(Jv pos (HL [b] X.env)).any (·.1)=false:=by rfl) :
 GW X rl (.Tuple elts kt pt) (.Call (.Name "zip" p) [a,b] [] pos) (FG true false fs):=mZ true false hm ha hg hs hpl
end
theorem nr{α:Sort u}{a b:α}(h:a=b):a=b:=h
abbrev Mo(α:Type):=(α->Prop)->Prop
noncomputable def ret{α:Type}(a:α):Mo α:=fun Q=>Q a
noncomputable def Gh{α β:Type}(m:Mo α)(f:α->Mo β):Mo β:=fun Q=>m fun a=>f a Q
noncomputable def FP{α:Type}(P:Prop)(m:Mo α):Mo α:=fun Q=>P/\m Q
noncomputable def stk{α:Type}:Mo α:=fun _=>False
noncomputable def anyM{α:Type}(P:α->Prop):Mo α:=fun Q=>∀a,P a->Q a
noncomputable def bB{α β:Type}(o:Option α)(f:α->Mo β):Mo β:=match o with
 | some a=>f a
 | none=>stk
section
variable{α β γ:Type}
theorem bnd_ret(a:α)(f:α->Mo β):Gh (ret a) f=f a:=nr rfl
theorem bnd_bnd(m:Mo α)(f:α->Mo β)(g:β->Mo γ):Gh (Gh m f) g=Gh m fun a=>Gh (f a) g:=nr rfl
theorem bnd_grd(P:Prop)(m:Mo α)(f:α->Mo β):Gh (FP P m) f=FP P (Gh m f):=nr rfl
theorem bnd_stk(f:α->Mo β):Gh stk f=stk:=nr rfl
theorem bnd_ite(c:Prop)[Decidable c](a b:Mo α)(f:α->Mo β):Gh (if c then a else b) f=if c then Gh a f else Gh b f:=by split<;>rfl
theorem bnd_opt(o:Option α)(k:α->Mo β)(f:β->Mo γ):Gh (bB o k) f=bB o fun a=>Gh (k a) f:=by cases o<;>rfl
theorem opt_some(a:α)(k:α->Mo β):bB (some a) k=k a:=nr rfl
theorem opt_none(k:α->Mo β):bB none k=stk:=nr rfl
theorem ag{P:Prop}(h:P)(m:Mo α):FP P m=m:=by funext Q;exact propext ⟨fun z=>z.2,fun z=>⟨h,z⟩⟩
theorem grd_T(m:Mo α):FP True m=m:=ag trivial m
theorem fQ(c:Prop)[Decidable c](a b:Mo α)(Q:α->Prop):(if c then a else b) Q=if c then a Q else b Q:=by split<;>rfl
theorem ak{m n:Mo α}(h:∀Q,m Q↔n Q):m=n:=funext fun Q=>propext (h Q)
end
noncomputable def asI:W->Option Int
 | .d (.int i)=>some i
 | _=>none
noncomputable def asB:W->Option Bool
 | .d (.bool b)=>some b
 | _=>none
noncomputable def asS:W->Option Str
 | .d (.str b)=>some b
 | _=>none
noncomputable def asD:W->Option Hy
 | .d x=>some x
 | _=>none
noncomputable def lstD:Hy->Option (List Hy)
 | .list xs=>some xs
 | _=>none
noncomputable def tupD:Hy->Option (List Hy)
 | .tuple xs=>some xs
 | _=>none
noncomputable def Gu(w:W):Option (List Hy):=w.dat.bind lstD
noncomputable def Gq(w:W):Option (List Hy):=(asD w).bind tupD
noncomputable def Gs(w:W):Option (List Hy):=w.dat.bind fU
noncomputable def Ee:W->Option Int
 | .d (.int i)=>some i
 | .d (.bool b)=>some (if b then 1 else 0)
 | _=>none
noncomputable def isiT:W->Option String
 | .vv (.ty T)=>some T
 | _=>none
noncomputable def tF:List Hy->Option (List Bool)
 | []=>some []
 | .bool b::r=>(tF r).map (b :: ·)
 | _=>none
noncomputable def j8:List Hy->Option (List Int)
 | []=>some []
 | .int b::r=>(j8 r).map (b :: ·)
 | _=>none
theorem blsD_map:∀bs:List Bool,tF (bs.map .bool)=some bs
 | []=>rfl
 | b::bs=>by show(tF (bs.map .bool)).map (b :: ·)=_;rw[blsD_map bs];rfl
theorem p6:∀{xs:List Hy}{bs:List Bool},tF xs=some bs->xs=bs.map .bool
 | [],bs,h=>by cases h;rfl
 | .bool b::r,bs,h=>by
   have h:(tF r).map (b :: ·)=some bs:=h
   cases q:tF r with
   | none=>rw[q]at h;cases h
   | some cs=>rw[q]at h;cases h;rw[p6 q];rfl
 | .none::_,_,h=>by cases h
 | .int _::_,_,h=>by cases h
 | .str _::_,_,h=>by cases h
 | .list _::_,_,h=>by cases h
 | .tuple _::_,_,h=>by cases h
 | .dict _::_,_,h=>by cases h
theorem fv:∀bs:List Int,j8 (bs.map .int)=some bs
 | []=>rfl
 | b::bs=>by show(j8 (bs.map .int)).map (b :: ·)=_;rw[fv bs];rfl
theorem lR:∀{xs:List Hy}{bs:List Int},j8 xs=some bs->xs=bs.map .int
 | [],bs,h=>by cases h;rfl
 | .int b::r,bs,h=>by
   have h:(j8 r).map (b :: ·)=some bs:=h
   cases q:j8 r with
   | none=>rw[q]at h;cases h
   | some cs=>rw[q]at h;cases h;rw[lR q];rfl
 | .none::_,_,h=>by cases h
 | .bool _::_,_,h=>by cases h
 | .str _::_,_,h=>by cases h
 | .list _::_,_,h=>by cases h
 | .tuple _::_,_,h=>by cases h
 | .dict _::_,_,h=>by cases h
theorem asI_d(i:Int):asI (.d (.int i))=some i:=rfl
theorem asB_d(i:Bool):asB (.d (.bool i))=some i:=rfl
theorem asS_d(i:Str):asS (.d (.str i))=some i:=rfl
theorem asD_d(i:Hy):asD (.d i)=some i:=rfl
theorem asT_d(x:Hy):Gq (.d x)=tupD x:=rfl
theorem asL_d(x:Hy):Gu (.d x)=lstD x:=rfl
theorem asL_ml(x:List Hy):Gu (.ml x)=some x:=rfl
theorem asL_pk(x:List Hy):Gu (.pk x)=some x:=rfl
theorem asQ_d(x:Hy):Gs (.d x)=fU x:=rfl
theorem asQ_ml(x:List Hy):Gs (.ml x)=some x:=rfl
theorem asQ_pk(x:List Hy):Gs (.pk x)=some x:=rfl
theorem lstD_l(x:List Hy):lstD (.list x)=some x:=rfl
theorem tupD_t(x:List Hy):tupD (.tuple x)=some x:=rfl
theorem toI_i(i:Int):Ee (.d (.int i))=some i:=rfl
theorem toI_b(i:Bool):Ee (.d (.bool i))=some (if i then 1 else 0):=rfl
theorem isiT_t(T:String):isiT (.vv (.ty T))=some T:=rfl
theorem dX{w:W}{i:Int}:asI w=some i↔w = .d (.int i):=by
 constructor
 · intro h;unfold asI at h;split at h<;>simp_all
 · rintro rfl;rfl
theorem ku{w:W}{i:Bool}:asB w=some i↔w = .d (.bool i):=by
 constructor
 · intro h;unfold asB at h;split at h<;>simp_all
 · rintro rfl;rfl
theorem qb{w:W}{i:Str}:asS w=some i↔w = .d (.str i):=by
 constructor
 · intro h;unfold asS at h;split at h<;>simp_all
 · rintro rfl;rfl
theorem kr{w:W}{i:Hy}:asD w=some i↔w = .d i:=by
 constructor
 · intro h;unfold asD at h;split at h<;>simp_all
 · rintro rfl;rfl
theorem va{w:W}{i:String}:isiT w=some i↔w = .vv (.ty i):=by
 constructor
 · intro h;unfold isiT at h;split at h<;>simp_all
 · rintro rfl;rfl
theorem Ak{w:Hy}{i:List Hy}:lstD w=some i↔w = .list i:=by
 constructor
 · intro h;unfold lstD at h;split at h<;>simp_all
 · rintro rfl;rfl
theorem uc{w:Hy}{i:List Hy}:tupD w=some i↔w = .tuple i:=by
 constructor
 · intro h;unfold tupD at h;split at h<;>simp_all
 · rintro rfl;rfl
theorem qa{w:W}{i:List Hy}:Gq w=some i↔w = .d (.tuple i):=by
 constructor
 · intro h
   unfold Gq at h
   cases q:asD w with
   | none=>rw[q]at h;cases h
   | some x=>rw[q]at h;rw[kr.mp q,uc.mp h]
 · rintro rfl;rfl
theorem qe{w:W}{i:List Hy}:Gu w=some i↔w.dat=some (.list i):=by
 unfold Gu
 constructor
 · intro h
   cases q:w.dat with
   | none=>rw[q]at h;cases h
   | some x=>rw[q]at h;rw[Ak.mp h]
 · intro h;rw[h];rfl
theorem aC{β:Type}{o:Option α}{k:α->Mo β}{Q:β->Prop}:bB o k Q↔∃a,o=some a/\k a Q:=by
 cases o with
 | none=>exact⟨fun z=>z.elim,fun⟨_,z,_⟩=>by cases z⟩
 | some a=>exact⟨fun z=>⟨a,rfl,z⟩,fun⟨_,e,z⟩=>by cases e;exact z⟩
section
variable{fa fb fc:TV}{fs:Gy}{f g:TB}{ρ:En}{t u:Gz}
theorem m_vC(x:Hy):vC x ρ=ret (.d x):=nr rfl
theorem m_vVar(i:Nat):tZ i ρ=bB ((ρ[i]?).join) fun w=>ret w.peek:=by
 refine ak fun Q=>?_
 rw[aC]
 constructor
 · rintro⟨w,e,q⟩;exact⟨w,by rw[e];rfl,q⟩
 · rintro⟨w,e,q⟩
   refine⟨w,?_,q⟩
   cases h:ρ[i]? with
   | none=>rw[h]at e;cases e
   | some o=>rw[h]at e;cases o with
     | none=>cases e
     | some x=>cases e;rfl
theorem m_vNil:sE ρ=ret []:=nr rfl
theorem m_vCons{f:TV}:ju f fs ρ=Gh (f ρ) fun w=>Gh (fs ρ) fun ws=>ret (w.fz::ws):=nr rfl
theorem m_vOp(h:W->W->(W->Prop)->Prop):D3 h fa fb ρ=Gh (fa ρ) fun x=>Gh (fb ρ) fun y=>h x y:=nr rfl
theorem m_gI(C:Int->Int->Prop)(h:Int->Int->Hy)(x y:W):gI C h x y=bB (asI x) fun i=>bB (asI y) fun j=>FP (C i j) (ret (.d (h i j))):=by
 refine ak fun Q=>?_
 simp only[aC,dX,gI,FP,ret]
 exact⟨fun⟨i,j,a,b,c,q⟩=>⟨i,a,j,b,c,q⟩,fun⟨i,a,j,b,c,q⟩=>⟨i,j,a,b,c,q⟩⟩
theorem m_gI0(h:Int->Int->Hy)(x y:W):FV h x y=bB (asI x) fun i=>bB (asI y) fun j=>ret (.d (h i j)):=by
 refine ak fun Q=>?_
 simp only[aC,dX,FV,ret]
 exact⟨fun⟨i,j,a,b,q⟩=>⟨i,a,j,b,q⟩,fun⟨i,a,j,b,q⟩=>⟨i,j,a,b,q⟩⟩
theorem m_vNeg:zt fa ρ=Gh (fa ρ) fun x=>bB (asI x) fun i=>ret (.d (.int (-i))):=by
 refine ak fun Q=>?_
 simp only[zt,Gh,aC,dX,ret]
theorem m_vTest{f:TV}:qz f ρ=Gh (f ρ) fun w=>bB (asB w) ret:=by
 refine ak fun Q=>?_
 simp only[qz,Gh,aC,ku,ret]
theorem m_gEqD(neg:Bool)(x y:W):Ax neg x y=bB x.dat fun dx=>bB y.dat fun dy=>FP (HI dx=true) (FP (HI dy=true) (ret (.d (.bool (if neg then !HC dx dy else HC dx dy))))):=by
 refine ak fun Q=>?_
 simp only[aC,Ax,FP,ret]
 exact⟨fun⟨i,j,a,b,c,d,q⟩=>⟨i,a,j,b,c,d,q⟩,fun⟨i,a,j,b,c,d,q⟩=>⟨i,j,a,b,c,d,q⟩⟩
theorem yH{w:W}{i:List Hy}:Gs w=some i↔(w.dat=some (.list i)\/w.dat=some (.tuple i)):=by
 unfold Gs
 constructor
 · intro h
   cases q:w.dat with
   | none=>rw[q]at h;cases h
   | some x=>rw[q]at h;exact fU.of (o:=some x) rfl h
 · rintro(h|h)<;>rw[h]<;>rfl
theorem m_gInD(neg:Bool)(x y:W):Aw neg x y=bB x.dat fun dx=>bB (Gs y) fun ys=>FP (HI dx=true) (FP (Ih ys=true) (ret (.d (.bool (if neg then !(ys.any fun z=>HC z dx)else ys.any fun z=>HC z dx))))):=by
 refine ak fun Q=>?_
 simp only[aC,yH,Aw,FP,ret]
 exact⟨fun⟨i,j,a,b,c,d,q⟩=>⟨i,a,j,b,c,d,q⟩,fun⟨i,a,j,b,c,d,q⟩=>⟨i,j,a,b,c,d,q⟩⟩
theorem m_vAnd:zx f g ρ=Gh (f ρ) fun b=>if b=true then g ρ else ret false:=by
 refine ak fun Q=>?_
 simp only[zx,Gh,fQ,ret]
theorem m_vOr:D2 f g ρ=Gh (f ρ) fun b=>if b=true then ret true else g ρ:=by
 refine ak fun Q=>?_
 simp only[D2,Gh,fQ,ret]
theorem m_vNot:Ca f ρ=Gh (f ρ) fun b=>ret (!b):=nr rfl
theorem m_vAndV:t_ fa fb ρ=Gh (fa ρ) fun w=>bB (asB w) fun b=>if b=true then fb ρ else ret (.d (.bool false)):=by
 refine ak fun Q=>?_
 simp only[t_,Gh,aC,ku,fQ,ret]
theorem m_vOrV:zr fa fb ρ=Gh (fa ρ) fun w=>bB (asB w) fun b=>if b=true then ret (.d (.bool true))else fb ρ:=by
 refine ak fun Q=>?_
 simp only[zr,Gh,aC,ku,fQ,ret]
theorem m_vNotV:t9 fa ρ=Gh (fa ρ) fun w=>bB (asB w) fun b=>ret (.d (.bool (!b))):=by
 refine ak fun Q=>?_
 simp only[t9,Gh,aC,ku,ret]
theorem m_vIf{t:TB}:D4 t fa fb ρ=Gh (t ρ) fun c=>if c=true then fa ρ else fb ρ:=by
 refine ak fun Q=>?_
 simp only[D4,Gh,fQ]
theorem m_vTup:zm fs ρ=Gh (fs ρ) fun ws=>bB (jp ws) fun ds=>FP (ds.length<=sizeLine) (ret (.d (.tuple ds))):=by
 refine ak fun Q=>?_
 simp only[zm,Gh,aC,FP,ret]
theorem m_vLst:yL fs ρ=Gh (fs ρ) fun ws=>bB (jp ws) fun ds=>FP (ds.length<=sizeLine) (ret (.ml ds)):=by
 refine ak fun Q=>?_
 simp only[yL,Gh,aC,FP,ret]
theorem m_gIx(x y:W):FT x y=bB x.dat fun dx=>bB (asI y) fun i=>bB (itemAt dx i) fun z=>ret (.d z):=by
 refine ak fun Q=>?_
 simp only[FT,aC,dX,ret]
 exact⟨fun⟨i,j,z,a,b,c,q⟩=>⟨i,a,j,b,z,c,q⟩,fun⟨i,a,j,b,z,c,q⟩=>⟨i,j,z,a,b,c,q⟩⟩
theorem m_vCall(h:List W->(W->Prop)->Prop):eB h fs ρ=Gh (fs ρ) h:=nr rfl
theorem m_gAbs(w:W):y8 [w]=bB (asI w) fun i=>ret (.d (.int (if i<0 then -i else i))):=by
 refine ak fun Q=>?_
 simp only[y8,aC,dX,ret,Il,and_true]
theorem m_gLen(w:W):yU [w]=bB w.dat fun d=>bB (mT d) fun n=>ret (.d (.int n)):=by
 refine ak fun Q=>?_
 simp only[yU,aC,ret,Il,and_true]
 exact⟨fun⟨w',d,n,e,a,b,q⟩=>by subst e;exact⟨d,a,n,b,q⟩,fun⟨d,a,n,b,q⟩=>⟨w,d,n,rfl,a,b,q⟩⟩
theorem m_gRepr(w:W):rG [w]=bB w.dat fun d=>FP (GL d) (ret (.d (.str d.shown))):=by
 refine ak fun Q=>?_
 simp only[rG,aC,ret,FP,Il,and_true]
 exact⟨fun⟨w',d,e,a,b,q⟩=>by subst e;exact⟨d,a,b,q⟩,fun⟨d,a,b,q⟩=>⟨w,d,rfl,a,b,q⟩⟩
theorem m_gIsi(w v:W):yV [w,v]=bB w.dat fun d=>bB (isiT v) fun T=>FP (wC T=true) (ret (.d (.bool (qj d T)))):=by
 refine ak fun Q=>?_
 simp only[yV,aC,va,ret,FP,Il,and_true]
 exact⟨fun⟨w',d,T,⟨e,e'⟩,a,b,q⟩=>by subst e;exact⟨d,a,T,e',b,q⟩,fun⟨d,a,T,e',b,q⟩=>⟨w,d,T,⟨rfl,e'⟩,a,b,q⟩⟩
theorem m_gTupO(w:W):rF [w]=bB (Gs w) fun xs=>ret (.d (.tuple xs)):=by
 refine ak fun Q=>?_
 simp only[rF,aC,ret,Il,and_true]
 constructor
 · rintro⟨w',d,xs,e,a,b,q⟩;subst e;exact⟨xs,by unfold Gs;rw[a];exact b,q⟩
 · rintro⟨xs,e,q⟩
   unfold Gs at e
   cases h:w.dat with
   | none=>rw[h]at e;cases e
   | some d=>rw[h]at e;exact⟨w,d,xs,rfl,h,e,q⟩
theorem m_gLstO(w:W):rL [w]=bB (Gs w) fun xs=>ret (.ml xs):=by
 refine ak fun Q=>?_
 simp only[rL,aC,ret,Il,and_true]
 constructor
 · rintro⟨w',d,xs,e,a,b,q⟩;subst e;exact⟨xs,by unfold Gs;rw[a];exact b,q⟩
 · rintro⟨xs,e,q⟩
   unfold Gs at e
   cases h:w.dat with
   | none=>rw[h]at e;cases e
   | some d=>rw[h]at e;exact⟨w,d,xs,rfl,h,e,q⟩
theorem m_gIsB(x y:W):Av x y=bB (asB x) fun i=>bB (asB y) fun j=>ret (.d (.bool (i==j))):=by
 refine ak fun Q=>?_
 simp only[aC,ku,Av,ret]
 exact⟨fun⟨i,j,a,b,q⟩=>⟨i,a,j,b,q⟩,fun⟨i,a,j,b,q⟩=>⟨i,j,a,b,q⟩⟩
theorem m_gIsN(neg:Bool)(x:W):yW neg x (.d .none)=bB x.dat fun d=>ret (.d (.bool (if neg then !gG d else gG d))):=by
 refine ak fun Q=>?_
 simp only[aC,yW,ret,true_and]
theorem m_gI2(h:Int->Int->Hy)(x y:W):FU h [x,y]=bB (asI x) fun i=>bB (asI y) fun j=>ret (.d (h i j)):=by
 refine ak fun Q=>?_
 simp only[aC,dX,FU,ret,Il,and_true]
 exact⟨fun⟨i,j,⟨a,b⟩,q⟩=>⟨i,a,j,b,q⟩,fun⟨i,a,j,b,q⟩=>⟨i,j,⟨a,b⟩,q⟩⟩
theorem wI{w:W}{i:Int}:Ee w=some i↔(w = .d (.int i)\/∃b:Bool,w = .d (.bool b)/\i=if b then 1 else 0):=by
 constructor
 · intro h
   unfold Ee at h
   split at h
   · cases h;exact .inl rfl
   · cases h;exact .inr ⟨_,rfl,rfl⟩
   · cases h
 · rintro(rfl|⟨b,rfl,rfl⟩)<;>rfl
theorem m_gInt1(w:W):rM [w]=bB (Ee w) fun i=>ret (.d (.int i)):=by
 refine ak fun Q=>?_
 simp only[aC,wI,rM,ret,Il,and_true]
 constructor
 · rintro(⟨i,rfl,q⟩|⟨k,rfl,q⟩)
   · exact⟨i,.inl rfl,q⟩
   · exact⟨_,.inr ⟨k,rfl,rfl⟩,q⟩
 · rintro⟨i,rfl|⟨b,rfl,rfl⟩,q⟩
   · exact .inl ⟨i,rfl,q⟩
   · exact .inr ⟨b,rfl,q⟩
theorem m_oNo:E6 ρ=ret none:=nr rfl
theorem m_oIt:E7 fa ρ=Gh (fa ρ) fun w=>bB (asI w) fun i=>ret (some i):=by
 refine ak fun Q=>?_
 simp only[E7,Gh,aC,dX,ret]
theorem m_vSlL{fl fh:GB}:zo fa fl fh ρ=Gh (fa ρ) fun w=>Gh (fl ρ) fun l=>Gh (fh ρ) fun h=>bB (Gu w) fun xs=>ret (.ml (cutD xs l h)):=by
 refine ak fun Q=>?_
 simp only[zo,Gh,aC,qe,ret]
theorem m_vSlA{fl fh:GB}:zp fa fl fh ρ=Gh (fa ρ) fun w=>Gh (fl ρ) fun l=>Gh (fh ρ) fun h=>bB (Gq w) fun xs=>ret (.d (.tuple (cutD xs l h))):=by
 refine ak fun Q=>?_
 simp only[zp,Gh,aC,qa,ret]
theorem m_gCatD(x y:W):rN x y=bB (Gu x) fun xs=>bB (Gu y) fun ys=>FP (xs.length+ys.length<=sizeLine) (ret (.ml (xs++ys))):=by
 refine ak fun Q=>?_
 simp only[rN,aC,qe,FP,ret]
 exact⟨fun⟨i,j,a,b,c,q⟩=>⟨i,a,j,b,c,q⟩,fun⟨i,a,j,b,c,q⟩=>⟨i,j,a,b,c,q⟩⟩
theorem m_gCatA(x y:W):rO x y=bB (Gq x) fun xs=>bB (Gq y) fun ys=>FP (xs.length+ys.length<=sizeLine) (ret (.d (.tuple (xs++ys)))):=by
 refine ak fun Q=>?_
 simp only[rO,aC,qa,FP,ret]
 exact⟨fun⟨i,j,a,b,c,q⟩=>⟨i,a,j,b,c,q⟩,fun⟨i,a,j,b,c,q⟩=>⟨i,j,a,b,c,q⟩⟩
theorem m_vChain(p p':Int->Int->Bool):sG p p' fa fb fc ρ=Gh (fa ρ) fun x=>Gh (fb ρ) fun y=>bB (asI x) fun i=>bB (asI y) fun j=>if p i j=true then Gh (fc ρ) fun z=>bB (asI z) fun k=>ret (.d (.bool (p' j k)))else ret (.d (.bool false)):=by
 show(Gh (fa ρ) fun x=>Gh (fb ρ) fun y=>fun(Q:W->Prop)=>∃i j,x = .d (.int i)/\y = .d (.int j)/\if p i j=true then fc ρ fun z=>∃k,z = .d (.int k)/\Q (.d (.bool (p' j k)))else Q (.d (.bool false)))=_
 congr 1;funext x;congr 1;funext y
 refine ak fun Q=>?_
 simp only[Gh,aC,dX,ret,fQ]
 exact⟨fun⟨i,j,a,b,q⟩=>⟨i,a,j,b,q⟩,fun⟨i,a,j,b,q⟩=>⟨i,j,a,b,q⟩⟩
noncomputable def two(ws:List W):Option (Int×Int):=match ws with
 | [a,b]=>(asI a).bind fun i=>(asI b).map fun j=>(i,j)
 | _=>none
theorem two_d(a b:Int):two [.d (.int a),.d (.int b)]=some (a,b):=rfl
theorem m_iL:iL fa ρ=Gh (fa ρ) fun w=>bB ((asD w.fz).bind lstD) ret:=by
 show(Gh (fa ρ) fun w=>fun(Q:List Hy->Prop)=>∃xs,w.fz = .d (.list xs)/\Q xs)=_
 congr 1;funext w
 refine ak fun Q=>?_
 simp only[aC,ret]
 constructor
 · rintro⟨xs,e,q⟩;exact⟨xs,by rw[e];rfl,q⟩
 · rintro⟨xs,e,q⟩
   cases h:asD w.fz with
   | none=>rw[h]at e;cases e
   | some x=>rw[h]at e;rw[kr.mp h,Ak.mp e];exact⟨xs,rfl,q⟩
theorem m_iT:iT fa ρ=Gh (fa ρ) fun w=>bB ((asD w.fz).bind tupD) ret:=by
 show(Gh (fa ρ) fun w=>fun(Q:List Hy->Prop)=>∃xs,w.fz = .d (.tuple xs)/\Q xs)=_
 congr 1;funext w
 refine ak fun Q=>?_
 simp only[aC,ret]
 constructor
 · rintro⟨xs,e,q⟩;exact⟨xs,by rw[e];rfl,q⟩
 · rintro⟨xs,e,q⟩
   cases h:asD w.fz with
   | none=>rw[h]at e;cases e
   | some x=>rw[h]at e;rw[kr.mp h,uc.mp e];exact⟨xs,rfl,q⟩
theorem m_iR1:FH fs ρ=Gh (fs ρ) fun ws=>bB (ws.head?.bind asI) fun j=>FP (ws.length=1) (FP (-(2^62)<=j/\j<2^62) (ret (cO 0 j.toNat))):=by
 show(Gh (fs ρ) fun ws=>fun(Q:List Hy->Prop)=>∃j:Int,ws=[.d (.int j)]/\(-(2^62)<=j/\j<2^62)/\Q (cO 0 j.toNat))=_
 congr 1;funext ws
 refine ak fun Q=>?_
 simp only[aC,FP,ret]
 constructor
 · rintro⟨j,rfl,a,q⟩;exact⟨j,rfl,rfl,a,q⟩
 · rintro⟨j,e,l,a,q⟩
   match ws,l with
   | [w],_=>rw[show w = .d (.int j)from dX.mp e];exact⟨j,rfl,a,q⟩
noncomputable def zf(b1 b2:Bool)(ws:List W):Option (List Hy):=match ws with
 | [.d x,.d y]=>if d0 x=b1/\d0 y=b2 then(fU x).bind fun xs=>(fU y).map fun ys=>lZ xs ys else none
 | _=>none
theorem m_iZb(b1 b2:Bool):FG b1 b2 fs ρ=Gh (fs ρ) fun ws=>bB (zf b1 b2 ws) ret:=by
 show(Gh (fs ρ) fun ws=>fun(Q:List Hy->Prop)=>∃dx dy xs ys,ws=[.d dx,.d dy]/\fU dx=some xs/\fU dy=some ys/\d0 dx=b1/\d0 dy=b2/\Q (lZ xs ys))=_
 congr 1;funext ws
 refine ak fun Q=>?_
 simp only[aC,ret]
 constructor
 · rintro⟨dx,dy,xs,ys,rfl,a,b,c,d,q⟩
   exact⟨_,by show(if d0 dx=b1/\d0 dy=b2 then(fU dx).bind fun xs=>(fU dy).map fun ys=>lZ xs ys else none)=_;rw[if_pos ⟨c,d⟩,a,b];rfl,q⟩
 · rintro⟨zs,e,q⟩
   unfold zf at e
   split at e
   · rename_i dx dy
     split at e
     · rename_i c
       cases ha:fU dx with
       | none=>rw[ha]at e;cases e
       | some xs =>
         cases hb:fU dy with
         | none=>rw[ha,hb]at e;cases e
         | some ys=>rw[ha,hb]at e;cases e;exact⟨dx,dy,xs,ys,rfl,ha,hb,c.1,c.2,q⟩
     · cases e
   · cases e
theorem m_vUse(Pd:List W->(Hy->Prop)->Prop):zk Pd fs ρ=Gh (fs ρ) fun ws=>FP (ws.all gT=true) (Gh (Pd ws) fun d=>ret (.d d)):=nr rfl
theorem m_gAll(h:List Bool->Bool)(w:W):yj h [w]=bB ((Gu w).bind tF) fun bs=>ret (.d (.bool (h bs))):=by
 refine ak fun Q=>?_
 simp only[yj,aC,ret,Il,and_true]
 constructor
 · rintro⟨w',bs,rfl,e,q⟩;exact⟨bs,by rw[qe.mpr e];exact blsD_map bs,q⟩
 · rintro⟨bs,e,q⟩
   cases hl:Gu w with
   | none=>rw[hl]at e;cases e
   | some xs=>rw[hl]at e;refine⟨w,bs,rfl,?_,q⟩;rw[<- p6 e];exact qe.mp hl
theorem m_gRepT(x y:W):rH x y=bB (Gq x) fun xs=>bB (asI y) fun k=>FP (xs≠[]/\1<=k/\k<2^62/\xs.length*k.toNat<=sizeLine) (ret (.d (.tuple (HR k.toNat xs).flatten))):=by
 refine ak fun Q=>?_
 simp only[rH,aC,qa,dX,FP,ret]
 exact⟨fun⟨i,j,a,b,c,d,e,f,q⟩=>⟨i,a,j,b,⟨c,d,e,f⟩,q⟩,fun⟨i,a,j,b,⟨c,d,e,f⟩,q⟩=>⟨i,j,a,b,c,d,e,f,q⟩⟩
theorem m_gRepL(x y:W):rJ x y=bB (Gu x) fun xs=>bB (asI y) fun k=>FP (-(2^63)<=k/\k<2^63/\xs.length*k.toNat<=sizeLine) (ret (.ml (HR k.toNat xs).flatten)):=by
 refine ak fun Q=>?_
 simp only[rJ,aC,qe,dX,FP,ret]
 exact⟨fun⟨i,j,a,b,c,d,e,q⟩=>⟨i,a,j,b,⟨c,d,e⟩,q⟩,fun⟨i,a,j,b,⟨c,d,e⟩,q⟩=>⟨i,j,a,b,c,d,e,q⟩⟩
theorem m_gEqS(neg:Bool)(x y:W):yY neg x y=bB (asS x) fun i=>bB (asS y) fun j=>ret (.d (.bool (if neg then !decide (i=j)else decide (i=j)))):=by
 refine ak fun Q=>?_
 simp only[aC,qb,yY,ret]
 exact⟨fun⟨i,j,a,b,q⟩=>⟨i,a,j,b,q⟩,fun⟨i,a,j,b,q⟩=>⟨i,j,a,b,q⟩⟩
end
inductive Fl where
 | nx (ρ:En)|rt (w:W)|bk (ρ:En)|ct (ρ:En)
noncomputable def mS(t:Gz)(ρ:En):Mo Fl:=fun Q=>t ⟨fun ρ=>Q (.nx ρ),fun w=>Q (.rt w),fun ρ=>Q (.bk ρ),fun ρ=>Q (.ct ρ)⟩ ρ
noncomputable def sq(m:Mo Fl)(k:En->Mo Fl):Mo Fl:=Gh m fun fl=>match fl with
 | .nx ρ=>k ρ
 | .rt w=>ret (.rt w)
 | .bk ρ=>ret (.bk ρ)
 | .ct ρ=>ret (.ct ρ)
noncomputable def vF(Q:Hy->Prop):Fl->Prop
 | .nx _=>Q .none
 | .rt w=>∃d,w.fz = .d d/\Q d
 | _=>False
section
variable{fa fb fc:TV}{fs:Gy}{f g:TB}{ρ:En}{t u:Gz}{k:En->Mo Fl}
theorem aB{Q:Hy->Prop}(h:mS t ρ (vF Q)):t (qA Q) ρ:=h
theorem end_d(Q:Hy->Prop)(d:Hy):vF Q (.rt (.d d))=Q d:=propext ⟨fun⟨_,e,q⟩=>by cases e;exact q,fun q=>⟨d,rfl,q⟩⟩
theorem end_ml(Q:Hy->Prop)(d:List Hy):vF Q (.rt (.ml d))=Q (.list d):=propext ⟨fun⟨_,e,q⟩=>by cases e;exact q,fun q=>⟨_,rfl,q⟩⟩
theorem end_nx(Q:Hy->Prop)(ρ:En):vF Q (.nx ρ)=Q .none:=nr rfl
theorem sq_nx:sq (ret (.nx ρ)) k=k ρ:=nr rfl
theorem sq_rt(w:W):sq (ret (.rt w)) k=ret (.rt w):=nr rfl
theorem sq_bk:sq (ret (.bk ρ)) k=ret (.bk ρ):=nr rfl
theorem sq_ct:sq (ret (.ct ρ)) k=ret (.ct ρ):=nr rfl
theorem sq_grd(P:Prop)(m:Mo Fl):sq (FP P m) k=FP P (sq m k):=nr rfl
theorem sq_stk:sq stk k=stk:=nr rfl
theorem sq_ite(c:Prop)[Decidable c](a b:Mo Fl):sq (if c then a else b) k=if c then sq a k else sq b k:=by split<;>rfl
theorem wP(o:Option α)(h:α->Mo Fl):sq (bB o h) k=bB o fun a=>sq (h a) k:=by cases o<;>rfl
theorem s_next:mS wt ρ=ret (.nx ρ):=nr rfl
theorem s_seq:mS (zq t u) ρ=sq (mS t ρ) (mS u):=by
 refine ak fun Q=>?_
 show t ⟨fun ρ=>u ⟨_,_,_,_⟩ ρ,_,_,_⟩ ρ↔_
 exact MT
theorem s_drop:mS (wz fa) ρ=Gh (fa ρ) fun _=>ret (.nx ρ):=nr rfl
theorem s_ret:mS (B9 fa) ρ=Gh (fa ρ) fun w=>ret (.rt w):=nr rfl
theorem s_ifS:mS (zu f t u) ρ=Gh (f ρ) fun b=>if b=true then mS t ρ else mS u ρ:=by
 refine ak fun Q=>?_
 simp only[mS,zu,Gh,fQ]
theorem s_set(i:Nat):mS (B8 i fa) ρ=Gh (fa ρ) fun w=>FP (w.isPk=false) (ret (.nx (ρ.set i (some w)))):=nr rfl
theorem s_never:mS (fun _ _=>False) ρ=stk:=nr rfl
theorem m_hName(i:Nat)(x:Hy):rC i x ρ=ret (ρ.set i (some (.d x))):=nr rfl
theorem xZ(xs:List Hy):At xs ρ=FP (xs=[]) (ret ρ):=nr rfl
theorem uY{g:GC}{gs:qo}(xs:List Hy):rE g gs xs ρ=bB (match xs with | []=>none|y::r=>some (y,r)) fun p=>Gh (g p.1 ρ) fun ρ'=>gs p.2 ρ':=by
 refine ak fun Q=>?_
 simp only[aC,rE,Gh]
 constructor
 · rintro⟨y,r,rfl,q⟩;exact⟨(y,r),rfl,q⟩
 · rintro⟨p,e,q⟩
   cases xs with
   | nil=>cases e
   | cons y r=>cases e;exact⟨y,r,rfl,q⟩
theorem m_hCons_c{g:GC}{gs:qo}(y:Hy)(r:List Hy):rE g gs (y::r) ρ=Gh (g y ρ) fun ρ'=>gs r ρ':=by rw[uY];rfl
theorem m_hNil_n:At [] ρ=ret ρ:=by rw[xZ,ag rfl]
theorem m_hTup(n:Nat){gs:qo}(x:Hy):As n gs x ρ=bB (tupD x) fun xs=>FP (xs.length=n) (gs xs ρ):=by
 refine ak fun Q=>?_
 simp only[aC,uc,As,FP]
theorem s_asg{g:GC}:mS (zw fa g) ρ=Gh (fa ρ) fun w=>bB (asD w) fun x=>Gh (g x ρ) fun ρ'=>ret (.nx ρ'):=by
 refine ak fun Q=>?_
 simp only[mS,zw,Gh,aC,kr,ret]
theorem s_par(i j:Nat):mS (B_ i j fs) ρ=Gh (fs ρ) fun ws=>bB (jp ws) fun ds=>bB (match ds with | [x,y]=>some (x,y)|_=>none) fun p=>ret (.nx ((ρ.set i (some (.d p.1))).set j (some (.d p.2)))):=by
 show(Gh (fs ρ) fun ws=>fun(Q:Fl->Prop)=>∃x y,jp ws=some [x,y]/\Q (.nx ((ρ.set i (some (.d x))).set j (some (.d y)))))=_
 congr 1;funext ws
 refine ak fun Q=>?_
 simp only[aC,ret]
 constructor
 · rintro⟨x,y,e,q⟩;exact⟨_,e,(x,y),rfl,q⟩
 · rintro⟨ds,e,p,e2,q⟩
   split at e2
   · cases e2;exact⟨_,_,e,q⟩
   · cases e2
noncomputable def Ex(ρ:En)(i:Nat):Option Int:=((ρ[i]?).join).bind asI
noncomputable def asM:W->Option (List Hy)
 | .ml xs=>some xs
 | _=>none
noncomputable def Ew(ρ:En)(i:Nat):Option (List Hy):=((ρ[i]?).join).bind asM
theorem asM_ml(xs:List Hy):asM (.ml xs)=some xs:=rfl
theorem Ct{w:W}:asM w=some xs↔w = .ml xs:=by
 constructor
 · intro h;unfold asM at h;split at h<;>simp_all
 · rintro rfl;rfl
theorem sK:Ew ρ i=some xs↔ρ[i]?=some (some (.ml xs)):=by
 unfold Ew
 constructor
 · intro h
   cases q:ρ[i]? with
   | none=>rw[q]at h;cases h
   | some o=>rw[q]at h;cases o with
     | none=>cases h
     | some w=>rw[Ct.mp h]
 · intro h;rw[h];rfl
theorem s_frz(i:Nat):mS (zv i t) ρ=bB (Ew ρ i) fun xs=>mS t (ρ.set i (some (.d (.list xs)))):=by
 refine ak fun Q=>?_
 simp only[mS,zv,aC,sK]
theorem s_mut(i:Nat)(h:List Hy->List W->(List Hy->Prop)->Prop):mS (wv i h fs) ρ=bB (Ew ρ i) fun xs=>Gh (fs ρ) fun ws=>Gh (h xs ws) fun ys=>ret (.nx (ρ.set i (some (.ml ys)))):=by
 refine ak fun Q=>?_
 simp only[mS,wv,Gh,aC,sK,ret]
theorem m_gApp(xs:List Hy)(w:W):y7 xs [w]=bB (asD w) fun x=>FP (xs.length<sizeLine) (ret (xs++[x])):=by
 refine ak fun Q=>?_
 simp only[y7,aC,kr,FP,ret]
 constructor
 · rintro⟨x,e,a,q⟩
   cases w<;>first|(cases e;exact⟨_,rfl,a,q⟩)|cases e
 · rintro⟨x,rfl,a,q⟩;exact⟨x,rfl,a,q⟩
end
noncomputable def Le(a b:En):Prop:=a.length=b.length/\∀(i:Nat) w,a[i]?=some (some w)->b[i]?=some (some w)
theorem Le.refl(a:En):Le a a:=⟨rfl,fun _ _ h=>h⟩
theorem Le.trans{a b c:En}(h:Le a b)(h':Le b c):Le a c:=⟨h.1.trans h'.1,fun i w e=>h'.2 i w (h.2 i w e)⟩
theorem le_nil:Le [] []=True:=propext ⟨fun _=>trivial,fun _=>Le.refl _⟩
theorem le_cn(x:Option W)(a b:En):Le (none::a) (x::b)=Le a b:=by
 refine propext ⟨fun h=>⟨by have:=h.1;simpa using this,fun i w e=>by have:=h.2 (i+1) w (by simpa using e);simpa using this⟩,fun h=>⟨by simp[h.1],fun i w e=>?_⟩⟩
 cases i with
 | zero=>simp at e
 | succ i=>simpa using h.2 i w (by simpa using e)
theorem le_cs(x:Option W)(a b:En):Le (x::a) (x::b)=Le a b:=by
 refine propext ⟨fun h=>⟨by have:=h.1;simpa using this,fun i w e=>by have:=h.2 (i+1) w (by simpa using e);simpa using this⟩,fun h=>⟨by simp[h.1],fun i w e=>?_⟩⟩
 cases i with
 | zero=>simpa using e
 | succ i=>simpa using h.2 i w (by simpa using e)
theorem VR.le{K:W.Frag}{ρ0:En}(R:VR K rl F₀ H₀ F H σ ρ)(h:Le ρ0 ρ):VR K rl F₀ H₀ F H σ ρ0 :=
 ⟨R.g,fun i w e=>R.sl i w (h.2 i w e),fun i j x y v n e1 e2=>R.ap i j x y v n (h.2 i x e1) (h.2 j y e2),fun i xs e=>R.np i xs (h.2 i _ e),h.1.trans R.len⟩
noncomputable def fo:List Nat->En->En
 | [],ρ=>ρ
 | i::l,ρ=>fo l (ρ.set i none)
theorem x_(ρ:En)(i:Nat):Le (ρ.set i none) ρ:=by
 refine⟨by simp,fun j w e=>?_⟩
 rw[Ja]at e
 split at e
 · split at e
   · cases e
   · cases e
 · exact e
theorem jc:∀(l:List Nat)(ρ:En),Le (fo l ρ) ρ
 | [],ρ=>Le.refl ρ
 | i::l,ρ=>(jc l (ρ.set i none)).trans (x_ ρ i)
theorem fo_nil(ρ:En):fo [] ρ=ρ:=rfl
theorem fo_cons(i:Nat)(l:List Nat)(ρ:En):fo (i::l) ρ=fo l (ρ.set i none):=rfl
noncomputable def d8(fl:List Nat)(g:GC)(t:Gz):List Hy->Gz
 | [],D,ρ=>D.nx ρ
 | x::xs,D,ρ=>g x ρ fun ρ2=>t {D with nx:=fun ρ'=>d8 fl g t xs D (fo fl ρ'),ct:=fun ρ'=>d8 fl g t xs D (fo fl ρ'),bk:=fun ρ'=>D.nx (fo fl ρ')} ρ2
noncomputable def ww(fl:List Nat)(fi:En->(List Hy->Prop)->Prop)(g:GC)(t:Gz):Gz:=fun D ρ=>fi ρ fun xs=>d8 fl g t xs D (fo fl ρ)
section
variable{X:Cx}{rl:RlT}{st:Stmt}{rest body:List Stmt}{t u:Gz}{a b c e:Expr}{es:List Expr}{fa fb:TV}{fs:Gy}{f:TB}{pos p:Pos}
theorem dG(fl:List Nat){g:GC}(hp:MH (IH X.prog X.w) X.A X.env X.xe)(hc:X.calm=true)(hi:GW X rl tg iter fi)(hg:GZ X rl tg g)(hb:lY X rl body t)
 (hs:∀x,JG iter X.env x=pure x:=by intro _;rfl):GT X rl (.For tg iter body [] pos) (ww fl fi g t):=by
 obtain⟨wi,p0,k0⟩:=hi
 obtain⟨G,p1,k1⟩:=hg
 obtain⟨T,p2,k2⟩:=hb
 refine⟨_,sS hp hc p0 p1 p2 hs,fun{F₀ H₀ F H σ ρ} R Dv D ok q=>k0 R _ _ q fun J xs F1 H1 g1 vi q1=>?_⟩
 refine⟨fun i m σ H=>m=xs.length-i/\i<=xs.length/\∃F ρ,cp F1 F/\VR X.K rl F₀ H₀ F H σ ρ/\d8 fl g t (xs.drop i) Dv ρ,⟨xs.length,by simp,Ip _,F1,fo fl ρ,.refl _,(R.grow g1).le (jc fl ρ),by simpa using q1⟩,?_⟩
 rintro i m σ H ⟨rfl,hi,F2,ρ2,s2,R2,j2⟩
 have sH:cp F1 H:=s2.trans R2.sub
 by_cases hlt:i<xs.length
 · have ei:xs[i]?=some xs[i]:=by simp[hlt]
   rw[LG hlt]at j2
   refine .inr ⟨vi.go i H _ ei sH,fun σ' H'=>∃F ρ,cp F1 F/\VR X.K rl F₀ H₀ F H' σ' ρ/\d8 fl g t (xs.drop (i+1)) Dv ρ,fun σ' H' z=>⟨xs.length-(i+1),by omega,rfl,hlt,z⟩,fun v H' y=>?_⟩
   obtain⟨Fy,gy,rv⟩:=vi.yld i H v H' _ F2 ei s2 R2.sub R2.reel y
   refine k1 (R2.grow gy) v _ _ _ rv j2 fun F3 H3 σ3 ρ3 s3 n3 R3 q3=>?_
   have s13:cp F1 F3:=s2.trans (gy.fs.trans s3.fs)
   exact k2 R3 {Dv with nx:=fun ρ'=>d8 fl g t (xs.drop (i+1)) Dv (fo fl ρ'),ct:=fun ρ'=>d8 fl g t (xs.drop (i+1)) Dv (fo fl ρ'),bk:=fun ρ'=>Dv.nx (fo fl ρ')} _
    ⟨fun F4 H4 σ4 ρ4 s4 R4 q4=>⟨F4,fo fl ρ4,s13.trans s4,R4.le (jc fl ρ4),q4⟩,ok.rt,fun F4 H4 σ4 ρ4 s4 R4 q4=>ok.nx _ _ _ _ (g1.fs.trans (s13.trans s4)) (R4.le (jc fl ρ4)) q4,fun F4 H4 σ4 ρ4 s4 R4 q4=>⟨F4,fo fl ρ4,s13.trans s4,R4.le (jc fl ρ4),q4⟩⟩ q3
 · have e:i=xs.length:=by omega
   subst e
   rw[L4]at j2
   exact .inl ⟨vi.stop _ H (HS _) sH,ok.nx _ _ _ _ (g1.fs.trans s2) R2 j2⟩
noncomputable def DZ(fl:List Nat)(f:TB)(t:Gz)(m:Nat):Gz:=fun D ρ=>f ρ fun b=>if b=true then t {D with nx:=fun ρ'=>∃k,∃h:k<m,DZ fl f t k D (fo fl ρ'),ct:=fun ρ'=>∃k,∃h:k<m,DZ fl f t k D (fo fl ρ'),bk:=fun ρ'=>D.nx (fo fl ρ')} ρ else D.nx ρ
termination_by m
noncomputable def ng(fl:List Nat)(f:TB)(t:Gz):Gz:=fun D ρ=>∃m,DZ fl f t m D (fo fl ρ)
theorem sD(fl:List Nat)(f:TB)(t:Gz)(m:Nat)(D:VEnds)(ρ:En):DZ fl f t m D ρ=f ρ fun b=>if b=true then t {D with nx:=fun ρ'=>∃k,∃h:k<m,DZ fl f t k D (fo fl ρ'),ct:=fun ρ'=>∃k,∃h:k<m,DZ fl f t k D (fo fl ρ'),bk:=fun ρ'=>D.nx (fo fl ρ')} ρ else D.nx ρ:=by
 conv=>lhs;unfold DZ
theorem jr(fl:List Nat)(hp:MH (IH X.prog X.w) X.A X.env X.xe)(hc:PB X rl c f)(hb:lY X rl body t):GT X rl (.While c body [] pos) (ng fl f t):=by
 obtain⟨t0,p0,k0⟩:=hc
 obtain⟨t1,p1,k1⟩:=hb
 refine⟨_,qN hp p0 p1,fun{F₀ H₀ F H σ ρ} R Dv D ok q=>?_⟩
 obtain⟨m,j0⟩:=q
 refine⟨fun m σ' H'=>∃F' ρ',cp F F'/\VR X.K rl F₀ H₀ F' H' σ' ρ'/\DZ fl f t m Dv ρ',⟨m,F,fo fl ρ,.refl _,R.le (jc fl ρ),j0⟩,?_⟩
 rintro m σ2 H2 ⟨F2,ρ2,s2,R2,j⟩
 rw[sD]at j
 refine k0 R2 _ _ j fun b F1 H1 g1 q1=>?_
 cases b with
 | false=>exact ok.nx _ _ _ _ (s2.trans g1.fs) (R2.grow g1) q1
 | true =>
   refine⟨fun σ' H'=>∃F' ρ',cp F F'/\VR X.K rl F₀ H₀ F' H' σ' ρ'/\∃m',m'<m/\DZ fl f t m' Dv ρ',fun σ' H' ⟨F',ρ',s',R',m',hm,j⟩=>⟨m',hm,F',ρ',s',R',j⟩,?_⟩
   exact k1 (R2.grow g1) {Dv with nx:=fun ρ'=>∃k,∃h:k<m,DZ fl f t k Dv (fo fl ρ'),ct:=fun ρ'=>∃k,∃h:k<m,DZ fl f t k Dv (fo fl ρ'),bk:=fun ρ'=>Dv.nx (fo fl ρ')} _
    ⟨fun F3 H3 σ3 ρ3 s3 R3 ⟨m',hm,q3⟩=>⟨F3,fo fl ρ3,(s2.trans g1.fs).trans s3,R3.le (jc fl ρ3),m',hm,q3⟩,ok.rt,fun F3 H3 σ3 ρ3 s3 R3 q3=>ok.nx _ _ _ _ ((s2.trans g1.fs).trans s3) (R3.le (jc fl ρ3)) q3,fun F3 H3 σ3 ρ3 s3 R3 ⟨m',hm,q3⟩=>⟨F3,fo fl ρ3,(s2.trans g1.fs).trans s3,R3.le (jc fl ρ3),m',hm,q3⟩⟩ q1
end
noncomputable def Fm(fl:List Nat)(k:En->Mo Fl):Fl->Mo Fl
 | .nx ρ=>k (fo fl ρ)
 | .ct ρ=>k (fo fl ρ)
 | .bk ρ=>ret (.nx (fo fl ρ))
 | .rt w=>ret (.rt w)
noncomputable def fV(fl:List Nat)(b:Hy->En->Mo Fl):List Hy->En->Mo Fl
 | [],ρ=>ret (.nx ρ)
 | x::xs,ρ=>Gh (b x ρ) (Fm fl (fV fl b xs))
theorem oS(fl:List Nat)(g:GC)(t:Gz):∀(xs:List Hy)(ρ:En),mS (d8 fl g t xs) ρ=fV fl (fun x ρ=>Gh (g x ρ) (mS t)) xs ρ
 | [],ρ=>rfl
 | x::xs,ρ=>by
   refine ak fun Q=>?_
   show(g x ρ fun ρ2=>t ⟨fun ρ'=>mS (d8 fl g t xs) (fo fl ρ') Q,fun w=>Q (.rt w),fun ρ'=>Q (.nx (fo fl ρ')),fun ρ'=>mS (d8 fl g t xs) (fo fl ρ') Q⟩ ρ2)↔_
   simp only[oS fl g t xs]
   exact MT
noncomputable def Gn(g:GC)(t:Gz):Hy->En->Mo Fl:=fun x ρ=>Gh (g x ρ) (mS t)
theorem bdy_ap(g:GC)(t:Gz)(x:Hy)(ρ:En):Gn g t x ρ=Gh (g x ρ) (mS t):=nr rfl
theorem s_for(fl:List Nat)(fi:En->(List Hy->Prop)->Prop)(g:GC)(t:Gz)(ρ:En):mS (ww fl fi g t) ρ=Gh (fi ρ) fun xs=>fV fl (Gn g t) xs (fo fl ρ):=by
 refine ak fun Q=>?_
 show(fi ρ fun xs=>mS (d8 fl g t xs) (fo fl ρ) Q)↔_
 simp only[oS]
 exact MT
noncomputable def Fj(fl:List Nat)(J:En->Prop)(Q:Fl->Prop):Fl->Prop
 | .nx ρ=>J (fo fl ρ)
 | .ct ρ=>J (fo fl ρ)
 | .bk ρ=>Q (.nx (fo fl ρ))
 | .rt w=>Q (.rt w)
section
variable{α σ:Type}{fl:List Nat}{b:Hy->En->Mo Fl}
theorem lN(J:Nat->En->Prop){Q:Fl->Prop}:∀{xs:List Hy}{ρ:En}(n:Nat),J n ρ->(∀i x ρ,xs[i]?=some x->J (n+i) ρ->∀k:Fl->Prop,(∀r,Fj fl (J (n+i+1)) Q r->k r)->b x ρ k)->(∀ρ,J (n+xs.length) ρ->Q (.nx ρ))->fV fl b xs ρ Q
 | [],ρ,n,h0,_,fin=>fin ρ h0
 | x::xs,ρ,n,h0,step,fin=>by
   refine step 0 x ρ rfl h0 (fun r=>Fm fl (fV fl b xs) r Q) fun r hr=>?_
   have rc:∀ρ',J (n+1) ρ'->fV fl b xs ρ' Q:=fun ρ' h'=>lN J (n+1) h' (fun i y ρ e j k hk=>step (i+1) y ρ (by simpa using e) (by rw[show n+(i+1)=n+1+i by omega];exact j) k (by rw[show n+(i+1)+1=n+1+i+1 by omega];exact hk)) (fun ρ j=>fin ρ (by rw[JP,show n+(xs.length+1)=n+1+xs.length by omega];exact j))
   cases r with
   | nx ρ'=>exact rc _ hr
   | ct ρ'=>exact rc _ hr
   | bk ρ'=>exact hr
   | rt w=>exact hr
theorem oT{xs:List α}{enc:α->Hy}{Q:Fl->Prop}(J:Nat->En->Prop)(h0:J 0 ρ)
 (step:∀i (h:i<xs.length) ρ,J i ρ->∀k:Fl->Prop,(∀r,Fj fl (J (i+1)) Q r->k r)->b (enc xs[i]) ρ k)(fin:∀ρ,J xs.length ρ->Q (.nx ρ)):fV fl b (xs.map enc) ρ Q:=by
 refine lN J 0 h0 (fun i x ρ e j k hk=>?_) (fun ρ j=>fin ρ (by simpa using j))
 have hi:i<xs.length:=by have:=(H0.mp e).1;simpa using this
 rw[Ix,HZ hi]at e
 cases e
 rw[Nat.zero_add]at j hk
 exact step i hi ρ j k hk
theorem q0{lo:Int}{Q:Fl->Prop}(J:Nat->En->Prop)(h0:J 0 ρ)
 (step:∀i,i<n->∀ρ,J i ρ->∀k:Fl->Prop,(∀r,Fj fl (J (i+1)) Q r->k r)->b (.int (lo+i)) ρ k)(fin:∀ρ,J n ρ->Q (.nx ρ)):fV fl b (cO lo n) ρ Q:=by
 refine oT (xs:=Jj n) J h0 (fun i h ρ j k hk=>?_) (fun ρ j=>fin ρ (by simpa using j))
 rw[List.getElem_range]
 exact step i (by simpa using h) ρ j k hk
end
noncomputable def hZ(fl:List Nat)(f:TB)(t:Gz)(ρ:En):Mo Fl:=fun Q=>∃m,mS (DZ fl f t m) ρ Q
theorem s_while(fl:List Nat)(f:TB)(t:Gz)(ρ:En):mS (ng fl f t) ρ=hZ fl f t (fo fl ρ):=nr rfl
theorem qq(fl:List Nat)(f:TB)(t:Gz)(m:Nat)(ρ:En):mS (DZ fl f t m) ρ=Gh (f ρ) fun b=>if b=true then Gh (mS t ρ) (Fm fl fun ρ'=>fun Q=>∃k,∃h:k<m,mS (DZ fl f t k) ρ' Q)else ret (.nx ρ):=by
 refine ak fun Q=>?_
 show DZ fl f t m _ ρ↔_
 rw[sD]
 simp only[Gh,fQ]
 exact MT
theorem tL{fl:List Nat}{f:TB}{t:Gz}(h:f ρ=ret false):hZ fl f t ρ=ret (.nx ρ):=by
 refine ak fun Q=>?_
 constructor
 · rintro⟨m,q⟩;rw[qq,h,bnd_ret,if_neg (by decide)]at q;exact q
 · intro q;refine⟨0,?_⟩;rw[qq,h,bnd_ret,if_neg (by decide)];exact q
theorem tK{fl:List Nat}{f:TB}{t:Gz}{ρ':En}(h:f ρ=ret true)(h2:mS t ρ=ret (.nx ρ')):hZ fl f t ρ=hZ fl f t (fo fl ρ'):=by
 refine ak fun Q=>?_
 constructor
 · rintro⟨m,q⟩;rw[qq,h,bnd_ret,if_pos rfl,h2,bnd_ret]at q;obtain⟨k,_,q⟩:=q;exact⟨k,q⟩
 · rintro⟨m,q⟩;refine⟨m+1,?_⟩;rw[qq,h,bnd_ret,if_pos rfl,h2,bnd_ret];exact⟨m,Nat.lt_succ_self m,q⟩
theorem mU{σ:Type}{fl:List Nat}{f:TB}{t:Gz}(st:σ->En)(c:σ->Bool)(nxt:σ->σ)(μ:σ->Nat)(I:σ->Prop)
 (hf:∀s,I s->f (st s)=ret (c s))(ht:∀s,I s->c s=true->I (nxt s)/\μ (nxt s)<μ s/\∃ρ',mS t (st s)=ret (.nx ρ')/\fo fl ρ'=st (nxt s))(s:σ)(hs:I s):∃s',I s'/\c s'=false/\hZ fl f t (st s)=ret (.nx (st s')):=by
 induction hm:μ s using Nat.strongRecOn generalizing s with
 | ind n ih =>
   subst hm
   cases hc:c s with
   | false=>exact⟨s,hs,hc,tL (by rw[hf s hs,hc])⟩
   | true =>
     obtain⟨i1,m1,ρ',e1,e2⟩:=ht s hs hc
     obtain⟨s',a,b,e⟩:=ih _ m1 (nxt s) i1 rfl
     exact⟨s',a,b,by rw[tK (by rw[hf s hs,hc]) e1,e2,e]⟩
noncomputable def sF(ρ0:En)(g:GC)(ft:TB)(fe:TV):List Hy->List Hy->(List Hy->Prop)->Prop
 | [],acc,Q=>Q acc
 | x::xs,acc,Q=>g x ρ0 fun ρ2=>Le ρ0 ρ2/\ft ρ2 fun b=>if b=true then fe ρ2 fun w=>∃d,w.fz = .d d/\acc.length<sizeLine/\sF ρ0 g ft fe xs (acc++[d]) Q else sF ρ0 g ft fe xs acc Q
noncomputable def lD(fi:En->(List Hy->Prop)->Prop)(fr:List (Option Nat))(g:GC)(ft:TB)(fe:TV):TV:=fun ρ Q=>fi ρ fun xs=>sF (j9 fr ρ) g ft fe xs [] fun ds=>Q (.ml ds)
section
variable{X:Cx}{rl:RlT}{elt tg iter:Expr}{ifs:List Expr}{scope:Scope}{pos:Pos}{fi:En->(List Hy->Prop)->Prop}{g:GC}{ft:TB}{fe:TV}
theorem lQ{N':List Str}{wi:TI}(fr:List (Option Nat))(k0:∀{F₀ H₀ F H:Hp}{σ:St}{ρ:En},VR X.K rl F₀ H₀ F H σ ρ->∀(Qd:List Hy->Prop)(R:It->Hp->Prop),fi ρ Qd ->
 (∀J xs F' H',Grow rl F H F' H'->VIt X.K rl F' J xs->Qd xs->R J H')->wi σ H R)
 (hg:∀y,GZ (Gi X N' scope y) rl tg g)(ht:∀y,vV (Gi X N' scope y) rl ifs ft)(he:∀y,PV (Gi X N' scope y) rl elt fe)
 (R:VR X.K rl F₀ H₀ F H σ ρ)(Qd:W->Prop)(Q:VK)(q:lD fi fr g ft fe ρ Qd)
 (k:∀v w F' H',Grow rl F H F' H'->eP X.K rl F' H' v w->fM H v w->Qd w->Q v H'):ug wi fr (fun y=>L5 (hg y)) (fun y=>L5 (ht y)) (fun y=>L5 (he y)) σ H Q:=by
 refine k0 R _ _ q fun J xs F1 H1 g1 vi q1=>?_
 intro D hD
 have rD:rl.a≠some D:=fun e=>by obtain⟨o,z⟩:=g1.reel.live e;rw[hD]at z;cases z
 have FD:F1 D=none:=g1.sub.free hD
 have gD:Grow rl F1 H1 F1 (upd H1 D (.lst [])):=Grow.laid g1.sub g1.reel hD
 have R1:=R.grow g1
 have n0:mO (j9 fr ρ):=iz
 refine⟨fun i m acc σc Hc=>m=xs.length-i/\i<=xs.length/\∃Fc ds,VR X.K rl F1 H1 Fc Hc σc (j9 fr ρ)/\Hc D=some (.lst acc)/\Fc D=none/\Reps X.K Fc acc ds/\sF (j9 fr ρ) g ft fe (xs.drop i) ds (fun ds=>Qd (.ml ds)),
  ⟨xs.length,by simp,Ip _,F1,[],lx R1 gD,aJ,FD,.nil,by simpa using q1⟩,?_⟩
 rintro z i m acc σc Hc ⟨rfl,hi,Fc,ds,Rc,hDc,fDc,rs,q2⟩
 have sH:cp F1 Hc:=Rc.g.fs.trans Rc.sub
 by_cases hlt:i<xs.length
 · have ei:xs[i]?=some xs[i]:=by simp[hlt]
   have ed:xs.drop i=xs[i]::xs.drop (i+1):=LG hlt
   rw[ed]at q2
   refine .inr ⟨vi.go i Hc _ ei sH,fun v H' y=>?_⟩
   obtain⟨Fy,gy,rv⟩:=vi.yld i Hc v H' _ Fc ei Rc.g.fs Rc.sub Rc.reel y
   refine(Ik (hg z)).2 (Rc.grow gy) v _ _ _ rv q2 fun F3 H3 σ3 ρ3 g3 n3 R3 ⟨le3,q3⟩=>?_
   refine(Ik (ht z)).2 R3 _ _ q3 fun b F4 H4 g4 q4=>?_
   have R4:=R3.grow g4
   have g34:=(gy.trans g3).trans g4
   have keepD:∀{Fx Hx:Hp},Grow rl Fc Hc Fx Hx->Hx D=some (.lst acc)/\Fx D=none:=fun gx=>⟨gx.same D _ hDc rD,by rw[gx.old D _ hDc];exact fDc⟩
   cases b with
   | false=>exact⟨xs.length-(i+1),by omega,rfl,hlt,F4,ds,R4.le le3,(keepD g34).1,(keepD g34).2,rs.mono g34.fs,q4⟩
   | true =>
     refine(Ik (he z)).2 R4 _ _ q4 fun v5 w5 F5 H5 g5 r5 n5 ⟨d,ed5,hl,q5⟩=>?_
     obtain⟨F6,g6,s6,r6⟩:=eP.fz g5 r5 n5
     rw[ed5]at r6
     have g36:=g34.trans g6
     refine⟨(keepD g36).1,by rw[rs.length];exact hl,xs.length-(i+1),by omega,rfl,hlt,F6,ds++[d],((R4.grow g6).le le3).other n0 hD (keepD g36).2 rD,aJ,(keepD g36).2,(rs.mono g36.fs).snoc r6,q5⟩
 · have e:i=xs.length:=by omega
   subst e
   rw[L4]at q2
   refine .inl ⟨vi.stop _ Hc (HS _) sH,k _ (.ml ds) Fc Hc (g1.trans Rc.g) ⟨D,acc,rfl,fDc,rD,hDc,rs⟩ (fun a ea=>by cases ea;exact g1.freeB hD) q2⟩
theorem cI(N':List Str)(fr:List (Option Nat))(hc:X.calm=true)(hi:GW X rl tg iter fi)
 (hg:∀y,GZ (Gi X N' scope y) rl tg g)(ht:∀y,vV (Gi X N' scope y) rl ifs ft)(he:∀y,PV (Gi X N' scope y) rl elt fe)
 (hfr:vB fr N' X.N scope X.env.scope=true:=by rfl)(hsc:wW scope X.env.scope=true:=by rfl)
 (hs:∀x,JG iter X.env x=pure x:=by intro _;rfl):PV X rl (.ListComp elt [⟨tg,iter,ifs,0⟩] scope pos) (lD fi fr g ft fe):=by
 obtain⟨wi,p0,k0⟩:=hi
 exact⟨_,lI N' fr hc p0 hfr hsc (fun y=>(Ik (hg y)).1) (fun y=>(Ik (ht y)).1) (fun y=>(Ik (he y)).1) hs,fun R Qd Q q k=>lQ fr k0 hg ht he R Qd Q q k⟩
end
noncomputable def FB(ρ0:En)(g:GC)(ft:TB)(fe:TV)(x:Hy):Mo (Option Hy):=Gh (g x ρ0) fun ρ2=>FP (Le ρ0 ρ2) (Gh (ft ρ2) fun b=>if b=true then Gh (fe ρ2) fun w=>bB (asD w.fz) fun d=>ret (some d)else ret none)
noncomputable def dz(b:Hy->Mo (Option Hy)):List Hy->List Hy->Mo (List Hy)
 | [],acc=>ret acc
 | x::xs,acc=>Gh (b x) fun o=>match o with
   | some d=>FP (acc.length<sizeLine) (dz b xs (acc++[d]))
   | none=>dz b xs acc
theorem pN(ρ0:En)(g:GC)(ft:TB)(fe:TV):∀(xs acc:List Hy),sF ρ0 g ft fe xs acc=dz (FB ρ0 g ft fe) xs acc
 | [],acc=>rfl
 | x::xs,acc=>by
   refine ak fun Q=>?_
   show(g x ρ0 fun ρ2=>Le ρ0 ρ2/\ft ρ2 fun b=>if b=true then fe ρ2 fun w=>∃d,w.fz = .d d/\acc.length<sizeLine/\sF ρ0 g ft fe xs (acc++[d]) Q else sF ρ0 g ft fe xs acc Q)↔(Gh (FB ρ0 g ft fe x) _) Q
   simp only[pN ρ0 g ft fe xs]
   have:∀(ρ2:En)(b:Bool),(if b=true then fe ρ2 fun w=>∃d,w.fz = .d d/\acc.length<sizeLine/\dz (FB ρ0 g ft fe) xs (acc++[d]) Q else dz (FB ρ0 g ft fe) xs acc Q)=(Gh (if b=true then Gh (fe ρ2) fun w=>bB (asD w.fz) fun d=>ret (some d)else ret none) fun o=>match o with
   | some d=>FP (acc.length<sizeLine) (dz (FB ρ0 g ft fe) xs (acc++[d]))
   | none=>dz (FB ρ0 g ft fe) xs acc) Q:=by
     intro ρ2 b
     cases b with
     | false=>rfl
     | true =>
       rw[if_pos rfl,if_pos rfl]
       show _=fe ρ2 fun w=>_
       congr 1
       funext w
       refine propext ?_
       show _↔(Gh (bB (asD w.fz) fun d=>ret (some d)) _) Q
       rw[bnd_opt,aC]
       simp only[kr]
       exact MT
   simp only[this]
   exact MT
theorem m_comp(fi:En->(List Hy->Prop)->Prop)(fr:List (Option Nat))(g:GC)(ft:TB)(fe:TV)(ρ:En):lD fi fr g ft fe ρ=Gh (fi ρ) fun xs=>Gh (dz (FB (j9 fr ρ) g ft fe) xs []) fun ds=>ret (.ml ds):=by
 refine ak fun Q=>?_
 show(fi ρ fun xs=>sF (j9 fr ρ) g ft fe xs [] fun ds=>Q (.ml ds))↔_
 simp only[pN]
 exact MT
section
variable{α:Type}{b:Hy->Mo (Option Hy)}
theorem gP{enc:α->Hy}(f:α->Option Hy):∀(xs:List α)(acc:List Hy),(∀x∈xs,b (enc x)=ret (f x))->acc.length+xs.length<=sizeLine->dz b (xs.map enc) acc=ret (acc++xs.filterMap f)
 | [],acc,_,_=>by simp[dz]
 | x::xs,acc,h,hl=>by
   show Gh (b (enc x)) _=_
   rw[h x Iw,bnd_ret]
   simp at hl
   cases e:f x with
   | none =>
     show dz b (xs.map enc) acc=_
     rw[gP f xs acc (fun y hy=>h y (Ic _ hy)) (by omega),List.filterMap_cons_none e]
   | some d =>
     show FP (acc.length<sizeLine) (dz b (xs.map enc) (acc++[d]))=_
     rw[ag (by omega),gP f xs (acc++[d]) (fun y hy=>h y (Ic _ hy)) (by simp;omega),List.filterMap_cons_some e]
     simp
theorem lj{xs:List α}{enc:α->Hy}(f:α->Option Hy)(h:∀x∈xs,b (enc x)=ret (f x))(hl:xs.length<=sizeLine):dz b (xs.map enc) []=ret (xs.filterMap f):=by
 have:=gP f xs [] h (by simpa using hl)
 simpa using this
theorem comp_map{xs:List α}{enc:α->Hy}(f:α->Hy)(h:∀x∈xs,b (enc x)=ret (some (f x)))(hl:xs.length<=sizeLine):dz b (xs.map enc) []=ret (xs.map f):=by
 rw[lj (fun x=>some (f x)) h hl,List.filterMap_eq_map']
theorem rZ{lo:Int}(f:Nat->Option Hy)(h:∀j,j<n->b (.int (lo+j))=ret (f j))(hl:n<=sizeLine):dz b (cO lo n) []=ret ((Jj n).filterMap f) :=
 lj (xs:=Jj n) f (fun j hj=>h j (K6.mp hj)) (by simpa using hl)
theorem fR{enc:α->Hy}(R:α->Hy->Prop){Q:List Hy->Prop}:∀(xs:List α)(acc:List Hy),(∀x∈xs,∀k:Option Hy->Prop,(∀d,R x d->k (some d))->b (enc x) k)->acc.length+xs.length<=sizeLine->(∀ds,I0 R xs ds->Q (acc++ds))->dz b (xs.map enc) acc Q
 | [],acc,_,_,fin=>by have:=fin [] .nil;rw[J9]at this;exact this
 | x::xs,acc,h,hl,fin=>by
   simp at hl
   refine h x Iw _ fun d r=>?_
   refine⟨by omega,fR R xs (acc++[d]) (fun y hy=>h y (Ic _ hy)) (by simp;omega) fun ds ps=>?_⟩
   have:=fin (d::ds) (.cons r ps)
   simpa using this
theorem r8{xs:List α}{enc:α->Hy}(R:α->Hy->Prop){Q:List Hy->Prop}(h:∀x∈xs,∀k:Option Hy->Prop,(∀d,R x d->k (some d))->b (enc x) k)(hl:xs.length<=sizeLine)(fin:∀ds,I0 R xs ds->Q ds):dz b (xs.map enc) [] Q :=
 fR R xs [] h (by simpa using hl) (by simpa using fin)
end
section
variable(c:Prop)[Decidable c]
theorem ite_nx(a b:En):(if c then ret (Fl.nx a)else ret (Fl.nx b))=ret (Fl.nx (if c then a else b)):=by split<;>rfl
theorem ite_rt(a b:W):(if c then ret (Fl.rt a)else ret (Fl.rt b))=ret (Fl.rt (if c then a else b)):=by split<;>rfl
theorem ite_retd(a b:Hy):(if c then ret (W.d a)else ret (W.d b))=ret (W.d (if c then a else b)):=by split<;>rfl
theorem ite_retb(a b:Bool):(if c then ret a else ret b)=ret (if c then a else b):=by split<;>rfl
theorem ite_rets(a b:Hy):(if c then ret (some a)else ret (some b))=ret (some (if c then a else b)):=by split<;>rfl
theorem ite_cons{α:Type}(x y:α)(l m:List α):(if c then x::l else y::m)=(if c then x else y)::(if c then l else m):=by split<;>rfl
theorem ite_some{α:Type}(x y:α):(if c then some x else some y)=some (if c then x else y):=by split<;>rfl
theorem ite_d(a b:Hy):(if c then W.d a else W.d b)=W.d (if c then a else b):=by split<;>rfl
theorem ite_pi(a b:Int):(if c then Io a else Io b)=Io (if c then a else b):=by split<;>rfl
theorem ite_pb(a b:Bool):(if c then Kg a else Kg b)=Kg (if c then a else b):=by split<;>rfl
theorem itb_tt(b y:Bool):(if b=true then true else y)=(b||y):=by cases b<;>rfl
theorem itb_ff(b y:Bool):(if b=true then y else false)=(b&&y):=by cases b<;>rfl
theorem itb_ft(b y:Bool):(if b=true then false else y)=(!b&&y):=by cases b<;>rfl
theorem itb_tf(b y:Bool):(if b=true then y else true)=(!b||y):=by cases b<;>rfl
end
theorem ae(h:n<=1000):(n<=sizeLine)=True:=by have:=HV;exact propext ⟨fun _=>trivial,fun _=>by omega⟩
theorem tup2(x y:Hy):(match [x,y]with | [x,y]=>some (x,y)|_=>none)=some (x,y):=rfl
theorem bnd_tt{α β:Type}(a:α)(f:α->Mo β):Gh (fun Q=>Q a) f=f a:=nr rfl
section
variable{α β:Type}
theorem aD{P:α->Prop}{f:α->Mo β}{Q:β->Prop}(h:∀a,P a->f a Q):Gh (anyM P) f Q:=h
theorem cL{P:Prop}{m:Mo α}{Q:α->Prop}(h:P)(h':m Q):FP P m Q:=⟨h,h'⟩
theorem cV{c:Prop}[Decidable c]{a b:Mo α}{Q:α->Prop}(h:c->a Q)(h':¬c->b Q):(if c then a else b) Q:=by split<;>simp_all
theorem rj{b:Bool}{x y:Mo α}{Q:α->Prop}(h:b=true->x Q)(h':b=false->y Q):(if b=true then x else y) Q:=by cases b<;>simp_all
end
theorem av{Q:Hy->Prop}(h:Q d):ret (Fl.rt (.d d)) (vF Q):=⟨d,rfl,h⟩
theorem eQ{Q:Hy->Prop}{d:List Hy}(h:Q (.list d)):ret (Fl.rt (.ml d)) (vF Q):=⟨_,rfl,h⟩
section
variable{α:Type}{k:En->Mo Fl}{Q:Fl->Prop}
theorem Eu{m:Mo α}{h:α->Mo Fl}(z:Gh m (fun a=>sq (h a) k) Q):sq (Gh m h) k Q:=z
theorem Et{o:Option α}{h:α->Mo Fl}(z:bB o (fun a=>sq (h a) k) Q):sq (bB o h) k Q:=by rw[wP];exact z
noncomputable def kc(k1 k2:En->Mo Fl):En->Mo Fl:=fun ρ=>sq (k1 ρ) k2
theorem kc_ap(k1 k2:En->Mo Fl)(ρ:En):kc k1 k2 ρ=sq (k1 ρ) k2:=nr rfl
theorem sq_sq(m:Mo Fl)(k1 k2:En->Mo Fl):sq (sq m k1) k2=sq m (kc k1 k2):=by
 refine ak fun Q=>?_
 show m _↔m _
 have:∀fl:Fl,(sq (match fl with | .nx ρ=>k1 ρ | .rt w=>ret (.rt w) | .bk ρ=>ret (.bk ρ) | .ct ρ=>ret (.ct ρ)) k2) Q=(match fl with | .nx ρ=>kc k1 k2 ρ | .rt w=>ret (.rt w) | .bk ρ=>ret (.bk ρ) | .ct ρ=>ret (.ct ρ):Mo Fl) Q:=by intro fl;cases fl<;>rfl
 exact Iff.of_eq (congrArg m (funext this))
theorem aK{P:α->Prop}{f:α->Mo Fl}(z:∀a,P a->sq (f a) k Q):sq (Gh (anyM P) f) k Q:=z
end
theorem pk_sc(x:List Int):L2.VL.W.peek (.sc x) = .sc x:=rfl
theorem fz_sc(x:List Int):(W.sc x).fz = .sc x:=rfl
theorem arg_sc(x:List Int):gT (.sc x)=true:=rfl
theorem isPk_sc(x:List Int):(W.sc x).isPk=false:=rfl
section
variable{X:Cx}{rl:RlT}{a b c e:Expr}{es:List Expr}{fa fb fc:TV}{fs:Gy}{pos p p2:Pos}{ρ:En}
noncomputable def asSc:W->Option (List Int)
 | .sc ns=>some ns
 | _=>none
theorem asSc_s(ns:List Int):asSc (.sc ns)=some ns:=rfl
theorem vM{w:W}{i:List Int}:asSc w=some i↔w = .sc i:=by
 constructor
 · intro h;unfold asSc at h;split at h<;>simp_all
 · rintro rfl;rfl
theorem bF{β:Type}(f:α->β)(xs:List α)(i:Int):atI (xs.map f) i=(atI xs i).map f:=by
 unfold atI
 rw[HM]
 cases ixN xs.length i<;>simp
theorem nP{K:W.Frag}{F:Hp}:∀ns:List Int,Reps K F (ns.map V.int) (ns.map Io)
 | []=>.nil
 | n::ns=>.cons (.int n) (nP ns)
noncomputable def zn(fa:TV)(fl fh:GB):TV:=fun ρ Q=>fa ρ fun w=>fl ρ fun l=>fh ρ fun h=>∃ns:List Int,w = .sc ns/\Q (.ml (cutD (ns.map .int) l h))
theorem wf{lo hi:Option Expr}{fl fh:GB}(ha:PV X rl a fa)(hl:GQ X rl lo fl)(hh:GQ X rl hi fh):PV X rl (.Subscript a (.Slice lo hi none p2) pos) (zn fa fl fh):=by
 obtain⟨t,p,k⟩:=ha
 obtain⟨tl,pl,kl⟩:=hl
 obtain⟨th,ph,kh⟩:=hh
 refine⟨_,i_ nH p pl ph,fun R Qd Q q h=>k R _ _ q fun v w F1 H1 g1 r1 n1 q1=>?_⟩
 refine kl (R.grow g1) _ _ q1 fun l F2 H2 g2 q2=>kh ((R.grow g1).grow g2) _ _ q2 fun u F3 H3 g3 q3=>?_
 obtain⟨ns,rfl,q3⟩:=q3
 obtain⟨a,rfl,sq⟩:=(r1.grow g2).grow g3
 have g:=(g1.trans g2).trans g3
 exact⟨a,_,rfl,qI g3.sub sq,fun p hp=>h _ (.ml _) _ _ (g.trans (Grow.laid g3.sub g3.reel hp)) (dP g3.sub g3.reel hp ((nP ns).cut l u)) (fun a ea=>by cases ea;exact g.freeB hp) q3⟩
theorem m_vSlS{fl fh:GB}:zn fa fl fh ρ=Gh (fa ρ) fun w=>Gh (fl ρ) fun l=>Gh (fh ρ) fun h=>bB (asSc w) fun ns=>ret (.ml (cutD (ns.map .int) l h)):=by
 refine ak fun Q=>?_
 simp only[zn,Gh,aC,vM,ret]
end
noncomputable def Ev(K:W.Frag)(pre:List W->Prop):Sp:=fun vs H Q _=>∃F ws,cp F H/\gU K RlT.no F H vs ws/\ws.all gT=true/\pre ws/\∀r n' F' H',H r=none->Grow RlT.no F H F' H'->GN (RlT.at' r n') F' H'->Q (.ref r) H'
structure DfnR (P:Ie) (w:II) (K:W.Frag) (mg:Str->Option HE) (base:Heap) (x:Str) (ps:List Str) (k:Nat) (pre:List W->Prop):Prop where
 ex:∃f fd,mg x=some (.ref f)/\W.keepIn K (.ref f)=true/\Binds K fd ps []/\FnOk P w K mg base Hq k f fd ps (Ev K pre)
noncomputable def Fb:Option W->Option W
 | some .reel=>none
 | o=>o
noncomputable def nR(ρ:En):En:=ρ.map Fb
noncomputable def W.isR:W->Bool
 | .reel=>true
 | _=>false
noncomputable def wu(i:Nat)(pre:List W->Prop)(fs:Gy)(t:Gz):Gz:=fun D ρ=>fs ρ fun ws=>ws.all gT=true/\pre ws/\t ⟨fun ρ'=>D.nx (nR ρ'),fun w=>w.isR=false/\D.rt w,fun ρ'=>D.bk (nR ρ'),fun ρ'=>D.ct (nR ρ')⟩ (ρ.set i (some .reel))
theorem vp(g:Grow RlT.no F₀ H₀ F H)(ra:GN (RlT.at' r n') F H):Grow (RlT.at' r n') F₀ H₀ F H:=⟨fun b o e _=>g.same b o e (by simp),g.fs,g.sub,g.old,ra⟩
theorem lS(g:Grow (RlT.at' r n') F₀ H₀ F H)(n:H₀ r=none):Grow RlT.no F₀ H₀ F H:=⟨fun b o e _=>g.same b o e (fun z=>by cases z;rw[n]at e;cases e),g.fs,g.sub,g.old,fun _ z=>by cases z⟩
theorem w_{K:W.Frag}{w:W}(h:eP K RlT.no F H v w)(ne:∀a,w.own=true\/(∃xs,w = .pk xs)->v = .ref a->a≠r):eP K (RlT.at' r n') F H v w:=by
 cases w with
 | d x=>exact h
 | ml xs=>obtain⟨a,vs,e,f,_,g⟩:=h;exact⟨a,vs,e,f,fun z=>ne a (.inl rfl) e (by cases z;rfl),g⟩
 | pk xs=>obtain⟨a,vs,e,f,_,g⟩:=h;exact⟨a,vs,e,f,fun z=>ne a (.inr ⟨_,rfl⟩) e (by cases z;rfl),g⟩
 | reel=>obtain⟨_,z,_⟩:=h;cases z
 | vv u=>exact h
 | md kvs=>obtain⟨a,vs,e,f,_,g⟩:=h;exact⟨a,vs,e,f,fun z=>ne a (.inl rfl) e (by cases z;rfl),g⟩
 | mk kvs=>obtain⟨a,vs,e,f,_,g⟩:=h;exact⟨a,vs,e,f,fun z=>ne a (.inl rfl) e (by cases z;rfl),g⟩
 | nt ds=>exact h
 | lk=>trivial
 | sc ns=>exact h
 | fd _=>exact h
 | fw _=>exact h
 | ft _=>exact h
 | xc _ _=>exact h
 | dp _ _=>exact h
theorem nU{K:W.Frag}{w:W}(h:eP K (RlT.at' r n') F H v w)(n:w.isR=false):eP K RlT.no F H v w:=by
 cases w with
 | d x=>exact h
 | ml xs=>obtain⟨a,vs,e,f,_,g⟩:=h;exact⟨a,vs,e,f,by simp,g⟩
 | pk xs=>obtain⟨a,vs,e,f,_,g⟩:=h;exact⟨a,vs,e,f,by simp,g⟩
 | reel=>cases n
 | vv u=>exact h
 | md kvs=>obtain⟨a,vs,e,f,_,g⟩:=h;exact⟨a,vs,e,f,by simp,g⟩
 | mk kvs=>obtain⟨a,vs,e,f,_,g⟩:=h;exact⟨a,vs,e,f,by simp,g⟩
 | nt ds=>exact h
 | lk=>trivial
 | sc ns=>exact h
 | fd _=>exact h
 | fw _=>exact h
 | ft _=>exact h
 | xc _ _=>exact h
 | dp _ _=>exact h
theorem lL{w:W}(h:(nR ρ)[i]?=some (some w)):ρ[i]?=some (some w)/\w.isR=false:=by
 unfold nR at h
 rw[Ix]at h
 cases e:ρ[i]? with
 | none=>rw[e]at h;cases h
 | some o =>
   rw[e]at h
   cases o with
   | none=>cases h
   | some u=>cases u<;>first|(cases h;exact⟨rfl,rfl⟩)|cases h
theorem VR.out{K:W.Frag}(R:VR K (RlT.at' r n') F₀ H₀ F H σ ρ)(n:H₀ r=none):VR K RlT.no F₀ H₀ F H σ (nR ρ):=by
 refine⟨lS R.g n,fun i w e=>?_,fun i j x y v hn e1 e2=>R.ap i j x y v hn (lL e1).1 (lL e2).1,fun i xs e=>R.np i xs (lL e).1,?_⟩
 · obtain⟨e1,e2⟩:=lL e
   obtain⟨v,h1,h2,h3⟩:=R.sl i w e1
   exact⟨v,h1,nU h2 e2,h3⟩
 · have:=R.len;simpa[nR]using this
theorem VR.into{K:W.Frag}(R:VR K RlT.no F₀ H₀ F H σ ρ)(n:H r=none)(g:Grow RlT.no F H F' H')(ra:GN (RlT.at' r n') F' H')(i:Nat):VR K (RlT.at' r n') F₀ H₀ F' H' (σ.set i (some (.ref r))) (ρ.set i (some .reel)):=by
 have R1:=R.grow g
 refine⟨vp R1.g ra,fun j w e=>?_,fun j k x y v hn e1 e2 o1 o2 s1 s2=>?_,fun j xs e=>?_,by simp[R.len]⟩
 · by_cases hj:i=j
   · subst hj
     have hi:i<ρ.length:=by
      rw[Ja]at e
      by_cases hi:i<ρ.length
      · exact hi
      · simp[hi]at e
     rw[Ia hi]at e
     cases e
     exact⟨.ref r,by rw[Ia (by rw[<- R.len];exact hi)],⟨r,rfl,rfl⟩,trivial⟩
   · rw[HY hj]at e
     obtain⟨v,h1,h2,h3⟩:=R1.sl j w e
     refine⟨v,by rw[HY hj];exact h1,w_ h2 fun a ow ea z=>?_,h3⟩
     obtain⟨v0,h10,h20,_⟩:=R.sl j w e
     rw[h1]at h10
     cases h10
     rcases ow with ow|⟨xs,rfl⟩
     · obtain⟨b,o,eb,hb⟩:=h20.live ow
       rw[ea]at eb
       cases eb
       rw[z,n]at hb
       cases hb
     · exact absurd e (R.np j xs)
 · have key:∀(m:Nat)(z:W),(ρ.set i (some W.reel))[m]?=some (some z)->z.own=true->i≠m/\ρ[m]?=some (some z):=fun m z e o=>by
     by_cases hm:i=m
     · subst hm
       rw[Ja]at e
       split at e
       · split at e
         · cases e;cases o
         · cases e
       · exact absurd rfl (by assumption)
     · rw[HY hm]at e;exact⟨hm,e⟩
   obtain⟨n1,d1⟩:=key j x e1 o1
   obtain⟨n2,d2⟩:=key k y e2 o2
   rw[HY n1]at s1
   rw[HY n2]at s2
   exact R1.ap j k x y v hn d1 d2 o1 o2 s1 s2
 · rw[Ja]at e
   split at e
   · split at e
     · cases e
     · cases e
   · exact R1.np j xs e
section
variable{X:Cx}{st:Stmt}{rest body:List Stmt}{t u:Gz}{a b c e:Expr}{es:List Expr}{fa fb:TV}{fs:Gy}{pos p px cpos:Pos}{ρ:En}
theorem tN(i:Nat){f:Str}{ps:List Str}{k:Nat}{pre:List W->Prop}(D:DfnR X.prog X.w X.K X.mg X.base f ps k pre)(hr:Room k X.A)(hN:X.N.Nodup)(ha:GP X RlT.no (e::es) fs)(hrest:∀r n',lY X (RlT.at' r n') rest t)
 (hi:X.N[i]?=some x:=by rfl)(hx:Loc X.env.scope x:=by first|exact JM rfl|exact Jg rfl)(hg:Gl X f:=by rfl)(hdb:(f==("__debug__" : Str))=false:=by decide)
 (he:HL (e::es) X.env=(false,eval e X.env)::HL es X.env:=by rfl)(hpl:(Jv cpos (HL es X.env)).any (·.1)=false:=by rfl)
 (hs:JU (.Call (.Name f p) (e::es) [] cpos) (some (.Name x px)) pos.line X.env=pure false:=by rfl)(hf:X.fn x=true\/X.env.scope.names.lookup x=some .local:=by first|exact .inl rfl|exact .inr rfl) :
 lY X RlT.no (.Assign [.Name x px] (.Call (.Name f p) (e::es) [] cpos) pos::rest) (wu i pre fs t):=by
 obtain⟨fa,fd,hm,hk,hb,F⟩:=D.ex
 obtain⟨ta,p1,k1⟩:=ha
 refine⟨_,ge (jS hN hi hx (kP F hr hg hm hk hb .nil uI p1 hdb he hpl) hs hf) (ux X rest),fun{F₀ H₀ F H σ ρ} R Dv D ok q=>k1 R _ _ q fun vs ws F1 H1 g1 r1 ⟨ao,pw,q1⟩=>?_⟩
 have R1:=R.grow g1
 refine⟨F1,ws,g1.sub,by rw[J9];exact r1,ao,pw,fun r n' F2 H2 hr2 g2 ra=>?_⟩
 intro pins s I
 obtain⟨T,pT,kT⟩:=hrest r n'
 have h0:H₀ r=none:=R1.g.freeB hr2
 refine pT pins s _ H2 D I (kT (R1.into hr2 g2 ra i) _ D ⟨fun F3 H3 σ3 ρ3 s3 R3 q3=>?_,fun v w F3 H3 g3 r3 n3 q3=>?_,fun F3 H3 σ3 ρ3 s3 R3 q3=>?_,fun F3 H3 σ3 ρ3 s3 R3 q3=>?_⟩ q1)
 · exact ok.nx F3 H3 σ3 _ (g1.fs.trans (g2.fs.trans s3)) (R3.out h0) q3
 · exact ok.rt v w F3 H3 (lS g3 h0) (nU r3 q3.1) n3 q3.2
 · exact ok.bk F3 H3 σ3 _ (g1.fs.trans (g2.fs.trans s3)) (R3.out h0) q3
 · exact ok.ct F3 H3 σ3 _ (g1.fs.trans (g2.fs.trans s3)) (R3.out h0) q3
end
noncomputable def D5:Fl->Mo Fl
 | .nx ρ=>ret (.nx (nR ρ))
 | .rt w=>FP (w.isR=false) (ret (.rt w))
 | .bk ρ=>ret (.bk (nR ρ))
 | .ct ρ=>ret (.ct (nR ρ))
theorem s_newR(i:Nat)(pre:List W->Prop)(fs:Gy)(t:Gz)(ρ:En):mS (wu i pre fs t) ρ=Gh (fs ρ) fun ws=>FP (ws.all gT=true) (FP (pre ws) (Gh (mS t (ρ.set i (some .reel))) D5)):=nr rfl
theorem nR_nil:nR []=[]:=rfl
theorem nR_r(l:En):nR (some .reel::l)=none::nR l:=rfl
theorem nR_n(l:En):nR (none::l)=none::nR l:=rfl
theorem nR_d(x:Hy)(l:En):nR (some (.d x)::l)=some (.d x)::nR l:=rfl
theorem nR_ml(x:List Hy)(l:En):nR (some (.ml x)::l)=some (.ml x)::nR l:=rfl
theorem nR_sc(x:List Int)(l:En):nR (some (.sc x)::l)=some (.sc x)::nR l:=rfl
noncomputable def ib(K:W.Frag):Sp:=fun vs H Q _=>∃(a:Addr)(ns:List Int),vs=[.ref a]/\GF K H a (ns.map V.int)/\ns.length<=63/\∀H',Q (.bl true) H'
noncomputable def C3:VEnds:=⟨fun _=>False,fun w=>w = .d (.bool true),fun _=>False,fun _=>False⟩
noncomputable def vS:Fl->Prop
 | .rt w=>w = .d (.bool true)
 | _=>False
theorem un_law(m:Mo Fl):Gh m D5 vS=m vS:=by
 show m (fun fl=>D5 fl vS)=m vS
 congr 1
 funext fl
 cases fl with
 | rt w=>exact propext ⟨fun⟨_,h⟩=>h,fun h=>⟨by rw[show w = .d (.bool true)from h];rfl,h⟩⟩
 | _=>rfl
theorem u9:ret (Fl.rt (.d (.bool true))) vS:=rfl
section
variable{P:Ie}{w:II}{K:W.Frag}{mg:Str->Option HE}{base:Heap}{st:Stmt}{N:List Str}{k:Nat}{t:Gz}{x:Str}
theorem uP{f:Addr}(F:Fun K "law" "law" st f fd)(S:FnScope N [x] (defScope st))
 (hbody:∀(cdv:HE)(A:Jb)(outer:List Env)(s:HH)(H:Hp)(E:XK),Room k (A.deeper (Mb "law" (defScope st) s.heap.objs.size f cdv))->lY (qm Hq P w K mg base N "law" (defScope st) f cdv A outer s H E).nox RlT.no (defBody st) t)
 (hread:∀ns:List Int,ns.length<=63->mS t (eJ N [.sc ns]) vS):FnOk P w K mg base Hq (k+1) f fd [x] (ib K):=by
 refine F.ok S (fun vs H Q E h=>?_) (fun cdv A outer s H vs Q E hr h=>?_)
 · obtain⟨a,ns,rfl,_⟩:=h
   rfl
 · obtain⟨a,ns,rfl,hS,hl,kq⟩:=h
   obtain⟨T,p,kk⟩:=hbody cdv A outer s H E hr
   have rw0:gU K RlT.no H H [.ref a] [.sc ns]:=.cons ⟨a,rfl,hS⟩ .nil
   have R:VR K RlT.no H H H H (start N [.ref a]) (eJ N [.sc ns]):=iJ (.refl H) (fun _ z=>by cases z) rw0 rfl
   refine⟨T,p,kk R C3 _ ⟨fun _ _ _ _ _ _ z=>Jm z,?_,fun _ _ _ _ _ _ z=>Jm z,fun _ _ _ _ _ _ z=>Jm z⟩ (hread ns hl)⟩
   rintro v w1 F1 H1 g1 r1 n1 z
   have z:w1 = .d (.bool true):=z
   subst z
   have e:=eK r1
   subst e
   exact kq H1
end
noncomputable def t6(i:Nat)(fa:TV):Gz:=fun D ρ=>fa ρ fun w=>∃d,w.fz = .d d/\D.nx (ρ.set i (some (.d d)))
section
variable{X:Cx}{rl:RlT}{st:Stmt}{rest body:List Stmt}{t u:Gz}{a b c e:Expr}{es:List Expr}{fa fb:TV}{fs:Gy}{f:TB}{pos p:Pos}{ρ:En}
theorem ax(i:Nat){pos':Pos}(hN:X.N.Nodup)(he:PV X rl e fa)(hi:X.N[i]?=some x:=by rfl)(hx:Loc X.env.scope x:=by first|exact JM rfl|exact Jg rfl)
 (hs:JU e (some (.Name x pos')) pos.line X.env=pure false:=by rfl)(hf:X.fn x=true\/X.env.scope.names.lookup x=some .local:=by first|exact .inl rfl|exact .inr rfl) :
 GT X rl (.Assign [.Name x pos'] e pos) (t6 i fa):=by
 obtain⟨t,p,k⟩:=he
 refine⟨_,jS hN hi hx p hs hf,fun R Dv D ok q=>k R _ _ q fun v w F1 H1 g1 r1 n1 ⟨d,ed,q1⟩=>?_⟩
 obtain⟨F2,g2,s2,r2⟩:=eP.fz g1 r1 n1
 rw[ed]at r2
 exact ok.nx _ _ _ _ g2.fs (R.set g2 r2 trivial (fun xs z=>by cases z) i) q1
theorem s_setZ(i:Nat):mS (t6 i fa) ρ=Gh (fa ρ) fun w=>bB (asD w.fz) fun d=>ret (.nx (ρ.set i (some (.d d)))):=by
 show(Gh (fa ρ) fun w=>fun(Q:Fl->Prop)=>∃d,w.fz = .d d/\Q (.nx (ρ.set i (some (.d d)))))=_
 congr 1;funext w
 refine ak fun Q=>?_
 simp only[aC,kr,ret]
end
section
variable{X:Cx}{rl:RlT}{elt tg iter:Expr}{ifs:List Expr}{scope:Scope}{pos:Pos}{fi:En->(List Hy->Prop)->Prop}{g:GC}{ft:TB}{fe:TV}
theorem cQ(i:Nat){b:Bool}{spos:Pos}(hN:X.N.Nodup)(N':List Str)(fr:List (Option Nat))(hc:X.calm=true)(hi:GW X rl tg iter fi)
 (hg:∀y,GZ (Gi X N' scope y) rl tg g)(ht:∀y,vV (Gi X N' scope y) rl ifs ft)(he:∀y,PV (Gi X N' scope y) rl elt fe)
 (hsw:JU (.ListComp elt [⟨tg,iter,ifs,0⟩] scope pos) (some (.Name x px)) spos.line X.env=pure b:=by rfl)
 (hix:X.N[i]?=some x:=by rfl)(hx:Loc X.env.scope x:=by first|exact JM rfl|exact Jg rfl)(hf:X.fn x=true\/X.env.scope.names.lookup x=some .local:=by first|exact .inl rfl|exact .inr rfl)
 (hfr:vB fr N' X.N scope X.env.scope=true:=by rfl)(hsc:wW scope X.env.scope=true:=by rfl)
 (hs:∀x,JG iter X.env x=pure x:=by intro _;rfl):GT X rl (.Assign [.Name x px] (.ListComp elt [⟨tg,iter,ifs,0⟩] scope pos) spos) (t6 i (lD fi fr g ft fe)):=by
 obtain⟨wi,p0,k0⟩:=hi
 refine⟨_,il N' fr hc p0 hfr hsc (fun y=>(Ik (hg y)).1) (fun y=>(Ik (ht y)).1) (fun y=>(Ik (he y)).1) hN hix hx hf hsw hs,fun R Dv D ok q=>lQ fr k0 hg ht he R _ _ q fun v w F1 H1 g1 r1 n1 ⟨d,ed,q1⟩=>?_⟩
 obtain⟨F2,g2,s2,r2⟩:=eP.fz g1 r1 n1
 rw[ed]at r2
 exact ok.nx _ _ _ _ g2.fs (R.set g2 r2 trivial (fun xs z=>by cases z) i) q1
end
noncomputable def wE(xs:List Int):Hy:=.tuple (xs.map .int)
noncomputable def vQ(xs:List Int):Hy:=.list (xs.map .int)
theorem eT:∀{xs ys:List Int},xs.map Io=ys.map Io↔xs=ys:=by
 intro xs ys
 constructor
 · intro h
   have:=congrArg j8 h
   rw[fv,fv]at this
   exact Ii this
 · rintro rfl;rfl
theorem lE{xs ys:List Int}:wE xs=wE ys↔xs=ys:=by
 unfold wE
 rw[IB,eT]
theorem qZ{xs ys:List Int}:vQ xs=vQ ys↔xs=ys:=by
 unfold vQ
 rw[Kw,eT]
theorem da{α:Type}{f:α->Hy}(h:∀a b,f a=f b↔a=b):∀{xs ys:List α},xs.map f=ys.map f↔xs=ys
 | [],[]=>by simp
 | [],_::_=>by simp
 | _::_,[]=>by simp
 | x::xs,y::ys=>by simp[h,da h (xs:=xs) (ys:=ys)]
noncomputable def zA(xs:List (List Int)):Hy:=.tuple (xs.map wE)
theorem qD{xs ys:List (List Int)}:zA xs=zA ys↔xs=ys:=by
 unfold zA
 rw[IB,da fun _ _=>lE]
section
variable{α σ:Type}{fl:List Nat}{b:Hy->En->Mo Fl}{k:En->Mo Fl}{Q:Fl->Prop}{ρ:En}
theorem lr{f:TB}{t:Gz}(st:σ->En)(c:σ->Bool)(nxt:σ->σ)(μ:σ->Nat)(I:σ->Prop)(s:σ)(h0:ρ=st s)(hs:I s)
 (hf:∀s,I s->f (st s)=ret (c s))(ht:∀s,I s->c s=true->I (nxt s)/\μ (nxt s)<μ s/\∃ρ',mS t (st s)=ret (.nx ρ')/\fo fl ρ'=st (nxt s))(fin:∀s,I s->c s=false->k (st s) Q):sq (hZ fl f t ρ) k Q:=by
 subst h0
 obtain⟨s',a,b,e⟩:=mU st c nxt μ I hf ht s hs
 rw[e]
 exact fin s' a b
noncomputable def Fi(fl:List Nat)(J:En->Prop)(k:En->Mo Fl)(Q:Fl->Prop):Fl->Prop
 | .nx ρ=>J (fo fl ρ)
 | .ct ρ=>J (fo fl ρ)
 | .bk ρ=>k (fo fl ρ) Q
 | .rt w=>Q (.rt w)
theorem dF{J:En->Prop}{ρ:En}(h:J (fo fl ρ)):Fi fl J k Q (.nx ρ):=h
theorem jZ{xs:List α}{enc:α->Hy}(J:Nat->En->Prop)(hx:xs'=xs.map enc)(h0:J 0 ρ)
 (step:∀i (h:i<xs.length) ρ,J i ρ->∀K:Fl->Prop,(∀r,Fi fl (J (i+1)) k Q r->K r)->b (enc xs[i]) ρ K)(fin:∀ρ,J xs.length ρ->k ρ Q):sq (fV fl b xs' ρ) k Q:=by
 subst hx
 refine oT (Q:=fun r=>(match r with | .nx ρ=>k ρ | .rt w=>ret (.rt w) | .bk ρ=>ret (.bk ρ) | .ct ρ=>ret (.ct ρ):Mo Fl) Q) J h0 (fun i hi ρ j K hK=>step i hi ρ j K fun r hr=>hK r ?_) fin
 cases r<;>exact hr
theorem jd{lo:Int}(J:Nat->En->Prop)(h0:J 0 ρ)
 (step:∀i,i<n->∀ρ,J i ρ->∀K:Fl->Prop,(∀r,Fi fl (J (i+1)) k Q r->K r)->b (.int (lo+i)) ρ K)(fin:∀ρ,J n ρ->k ρ Q):sq (fV fl b (cO lo n) ρ) k Q:=by
 refine q0 (Q:=fun r=>(match r with | .nx ρ=>k ρ | .rt w=>ret (.rt w) | .bk ρ=>ret (.bk ρ) | .ct ρ=>ret (.ct ρ):Mo Fl) Q) J h0 (fun i hi ρ j K hK=>step i hi ρ j K fun r hr=>hK r ?_) fin
 cases r<;>exact hr
theorem pE{xs:List α}{enc:α->Hy}(hx:xs'=xs.map enc)(step:∀x∈xs,∀K:Fl->Prop,(∀r,Fi fl (fun ρ'=>ρ'=ρ) k Q r->K r)->b (enc x) ρ K)(fin:k ρ Q):sq (fV fl b xs' ρ) k Q :=
 jZ (fun _ ρ'=>ρ'=ρ) hx rfl (fun i h ρ' e K hK=>by subst e;exact step _ (Jr h) K hK) fun ρ' e=>by subst e;exact fin
theorem rT{lo:Int}(step:∀i,i<n->∀K:Fl->Prop,(∀r,Fi fl (fun ρ'=>ρ'=ρ) k Q r->K r)->b (.int (lo+i)) ρ K)(fin:k ρ Q):sq (fV fl b (cO lo n) ρ) k Q :=
 jd (fun _ ρ'=>ρ'=ρ) rfl (fun i h ρ' e K hK=>by subst e;exact step i h K hK) fun ρ' e=>by subst e;exact fin
end
theorem Cs{m:Mo Fl}{Q:Fl->Prop}(h:sq m (fun ρ=>ret (.nx ρ)) Q):m Q:=by
 have e:(fun fl:Fl=>(match fl with | .nx ρ=>ret (.nx ρ) | .rt w=>ret (.rt w) | .bk ρ=>ret (.bk ρ) | .ct ρ=>ret (.ct ρ):Mo Fl) Q)=Q:=by
  funext fl;cases fl<;>rfl
 have h:m (fun fl:Fl=>(match fl with | .nx ρ=>ret (.nx ρ) | .rt w=>ret (.rt w) | .bk ρ=>ret (.bk ρ) | .ct ρ=>ret (.ct ρ):Mo Fl) Q):=h
 rw[e]at h
 exact h
section
variable{α β:Type}{b:Hy->Mo (Option Hy)}{k:List Hy->Mo β}{Q:β->Prop}
theorem pR{xs:List α}{enc:α->Hy}(f:α->Option Hy)(hx:xs'=xs.map enc)(h:∀x∈xs,b (enc x)=ret (f x))(hl:xs.length<=sizeLine)(fin:k (xs.filterMap f) Q):Gh (dz b xs' []) k Q:=by
 subst hx;rw[lj f h hl];exact fin
theorem cM{xs:List α}{enc:α->Hy}(f:α->Hy)(hx:xs'=xs.map enc)(h:∀x∈xs,b (enc x)=ret (some (f x)))(hl:xs.length<=sizeLine)(fin:k (xs.map f) Q):Gh (dz b xs' []) k Q:=by
 subst hx;rw[comp_map f h hl];exact fin
theorem vL{lo:Int}(f:Nat->Option Hy)(h:∀j,j<n->b (.int (lo+j))=ret (f j))(hl:n<=sizeLine)(fin:k ((Jj n).filterMap f) Q):Gh (dz b (cO lo n) []) k Q:=by
 rw[rZ f h hl];exact fin
theorem pS{xs:List α}{enc:α->Hy}(R:α->Hy->Prop)(hx:xs'=xs.map enc)(h:∀x∈xs,∀K:Option Hy->Prop,(∀d,R x d->K (some d))->b (enc x) K)(hl:xs.length<=sizeLine)(fin:∀ds,I0 R xs ds->k ds Q):Gh (dz b xs' []) k Q:=by
 subst hx;exact r8 R h hl fin
end
section
variable{α β:Type}
theorem oO{i:Int}{k:Hy->Mo β}{Q:β->Prop}(h0:0<=i)(h1:i<(xs.length:Int))(h:∀z∈xs,k z Q):bB (atI xs i) k Q:=by
 obtain⟨z,e,m⟩:=mM h0 h1
 rw[e]
 exact h z m
theorem c_{xs:List α}{enc:α->Hy}{i:Int}{k:Hy->Mo β}{Q:β->Prop}(P:α->Prop)(hx:xs'=xs.map enc)(h0:0<=i)(h1:i<(xs.length:Int))(hP:∀z∈xs,P z)(h:∀z,P z->k (enc z) Q):bB (atI xs' i) k Q:=by
 subst hx
 refine oO h0 (by simpa using h1) fun z mz=>?_
 obtain⟨x,hx,rfl⟩:=IM.mp mz
 exact h x (hP x hx)
end
section
variable{X:Cx}{rl:RlT}{a b c o e:Expr}{es:List Expr}{fa fb:TV}{fs:Gy}{pos p apos cpos:Pos}{ρ:En}
end
end L2.VL
namespace L2
section
variable{X:Cx}{pos:Pos}
end
end L2
namespace L2.VL
section
variable{X:Cx}{rl:RlT}{es:List Expr}{pos:Pos}{ρ:En}
end
noncomputable def AW:=Hz @bnd_tt (Hz @bnd_ret (Hz @bnd_bnd (Hz @bnd_grd (Hz @bnd_stk (Hz @bnd_ite (Hz @bnd_opt (Hz @opt_some (Hz @opt_none (Hz @grd_T (Hz @sq_nx (Hz @sq_rt (Hz @sq_bk (Hz @sq_ct (Hz @sq_grd (Hz @sq_stk (Hz @sq_ite (Hz @sq_sq (@kc_ap))))))))))))))))))
noncomputable def AZ:=Hz @ite_nx (Hz @ite_rt (Hz @ite_retd (Hz @ite_retb (Hz @ite_rets (Hz @ite_cons (Hz @ite_some (Hz @ite_d (Hz @ite_pi (Hz @ite_pb (Hz @itb_tt (Hz @itb_ff (Hz @itb_ft (Hz @itb_tf (@ite_self.{1}))))))))))))))
noncomputable def A4:=Hz @m_vC (Hz @m_vVar (Hz @m_vNil (Hz @m_vCons (Hz @m_vOp (Hz @m_gI (Hz @m_gI0 (Hz @m_vNeg (Hz @m_vTest (Hz @m_gEqD (Hz @m_gInD (Hz @m_vAnd (Hz @m_vOr (Hz @m_vNot (Hz @m_vAndV (Hz @m_vOrV (Hz @m_vNotV (Hz @m_vIf (Hz @m_vTup (Hz @m_vLst (Hz @m_gIx (Hz @m_vCall (Hz @m_gAbs (@m_gLen)))))))))))))))))))))))
noncomputable def A3:=Hz @m_gRepr (Hz @m_gIsi (Hz @m_gTupO (Hz @m_gLstO (Hz @m_gIsB (Hz @m_gIsN (Hz @m_gI2 (Hz @m_gInt1 (Hz @m_oNo (Hz @m_oIt (Hz @m_vSlL (Hz @m_vSlA (Hz @m_gCatD (Hz @m_gCatA (Hz @m_vChain (Hz @m_iL (Hz @m_iT (@m_iR1)))))))))))))))))
noncomputable def A0:=Hz @m_iZb (Hz @m_vUse (Hz @m_gAll (Hz @m_gRepT (Hz @m_gRepL (Hz @m_gEqS (Hz @m_comp (@m_vSlS)))))))
noncomputable def AS:=Hz @s_next (Hz @s_seq (Hz @s_drop (Hz @s_ret (Hz @s_ifS (Hz @s_set (Hz @s_setZ (Hz @s_never (Hz @s_asg (Hz @s_par (Hz @s_frz (Hz @s_mut (Hz @s_for (Hz @bdy_ap (Hz @s_while (Hz @s_newR (Hz @m_hName (@m_hNil_n)))))))))))))))))
noncomputable def AR:=Hz @m_hCons_c (Hz @m_hTup (@m_gApp))
noncomputable def AV:=Hz @pk_sc (Hz @fz_sc (Hz @arg_sc (Hz @isPk_sc (Hz @asI_d (Hz @asB_d (Hz @asS_d (Hz @asD_d (Hz @asT_d (Hz @asL_d (Hz @asL_ml (Hz @asL_pk (Hz @asQ_d (Hz @asQ_ml (Hz @asQ_pk (Hz @lstD_l (Hz @tupD_t (Hz @toI_i (Hz @toI_b (Hz @isiT_t (Hz @asM_ml (Hz @asSc_s (Hz @two_d (@fz_d)))))))))))))))))))))))
noncomputable def AU:=Hz @fz_ml (Hz @fz_pk (Hz @fz_reel (Hz @fz_vv (Hz @pk_d (Hz @pk_ml (Hz @pk_reel (Hz @pk_vv (Hz @dat_d (Hz @dat_ml (Hz @dat_pk (Hz @isPk_d (Hz @isPk_ml (Hz @isPk_reel (Hz @dats_nil (Hz @dats_d (Hz @arg_d (Hz @arg_reel (Hz @item_l (Hz @item_t (Hz @len_l (Hz @len_t (Hz @seq_l (@seq_t)))))))))))))))))))))))
noncomputable def AT:=Hz @at0 (Hz @at1 (Hz @blsD_map (Hz @tup2 (Hz @fo_nil (Hz @fo_cons (Hz @nR_nil (Hz @nR_r (Hz @nR_n (Hz @nR_d (Hz @nR_ml (Hz @nR_sc (Hz @le_nil (Hz @le_cn (Hz @le_cs (Hz @end_d (Hz @end_ml (Hz @end_nx (@un_law))))))))))))))))))
noncomputable def AY:=Hz @IW.{0,0} (Hz @K7.{0,0} (Hz @JP.{0} (Hz @Md.{0} (Hz @List.getElem?_cons_zero.{0} (Hz @List.getElem?_cons_succ.{0} (Hz @Lz.{0} (Hz @LA.{0} (Hz @List.set_nil.{0} (Hz @KB.{0} (Hz @Ko.{0} (Hz @List.all_cons.{0} (Hz @List.all_nil.{0} (Hz @List.head?_cons.{0} (Hz @Bool.and_true (Hz @Option.some.injEq.{0} (Hz @Option.map_some.{0,0} (Hz @Option.bind_some.{0,0} (Hz @Option.bind_none.{0,0} (Hz @Option.join_some.{0} (Hz @Option.join_none.{0} (Hz @Jz (Hz @and_self (@and_true)))))))))))))))))))))))
noncomputable def AX:=Hz @true_and (Hz @shaped_i (Hz @eqv_ii (Hz @shaped_b (Hz @Bool.true_and (Hz @Bool.and_self (Hz @MN (Hz @Ms (Hz @HM.{0,0} (Hz @JS (Hz @Bool.true_eq_false (Hz @decide_true (Hz @decide_false (Hz @List.isEmpty_cons.{0} (Hz @List.isEmpty_nil.{0} (@List.isEmpty_map.{0,0})))))))))))))))
noncomputable def kC:G6:=IA "cells"
noncomputable def kA:G6:=IA "at"
noncomputable def kL:G6:=IA "left"
noncomputable def kT:G6:=IA "turn"
theorem An:¬kC=kA:=by decide +kernel
theorem Am:¬kC=kL:=by decide +kernel
theorem Al:¬kC=kT:=by decide +kernel
theorem yS:¬kA=kL:=by decide +kernel
theorem yR:¬kA=kT:=by decide +kernel
theorem yQ:¬kL=kT:=by decide +kernel
noncomputable def bW(c:Addr)(a l t:Int):List (G6×V):=[(kC,.ref c),(kA,.int a),(kL,.int l),(kT,.int t)]
theorem cF{p:G6×V}{r:List (G6×V)}{k:G6}(e:¬p.1=k):fY (p::r) k=fY r k:=by
 unfold fY
 rw[Jy]
 simp[e]
theorem xf(c:Addr)(a l t:Int):fY (bW c a l t) kC=some (.ref c):=dH rfl
theorem xg(c:Addr)(a l t:Int):fY (bW c a l t) kA=some (.int a):=by unfold bW;rw[cF An];exact dH rfl
theorem xb(c:Addr)(a l t:Int):fY (bW c a l t) kL=some (.int l):=by unfold bW;rw[cF Am,cF yS];exact dH rfl
theorem xa(c:Addr)(a l t:Int):fY (bW c a l t) kT=some (.int t):=by unfold bW;rw[cF Al,cF yR,cF yQ];exact dH rfl
theorem ne'{a b:G6}(h:¬a=b):¬b=a:=fun e=>h e.symm
theorem zW(c:Addr)(a l t n:Int):e9 (bW c a l t) kA (.int n)=bW c n l t:=by
 unfold e9 bW
 rw[if_pos (by simp)]
 simp[An,ne' yS,ne' yR]
theorem zV(c:Addr)(a l t n:Int):e9 (bW c a l t) kL (.int n)=bW c a n t:=by
 unfold e9 bW
 rw[if_pos (by simp)]
 simp[Am,yS,ne' yQ]
theorem zU(c:Addr)(a l t n:Int):e9 (bW c a l t) kT (.int n)=bW c a l n:=by
 unfold e9 bW
 rw[if_pos (by simp)]
 simp[Al,yR,yQ]
theorem ReelOk.kv{c:Nat×List Int}(h:ReelOk c F H r):∃(a l t:Int),H r=some (.dK (bW c.1 a l t))/\F c.1=some (.lst (c.2.map V.int))/\c.2.length<=63/\0<=a/\0<=l/\0<=t:=by
 obtain⟨o,e,a,l,t,rfl,q⟩:=h.ex
 exact⟨a,l,t,e,q⟩
theorem GN.put{K:W.Frag}{a l t:Int}(R:VR K rl F₀ H₀ F H σ ρ)(e:rl.a=some r)(h:F rl.b.1=some (.lst (rl.b.2.map V.int))/\rl.b.2.length<=63/\0<=a/\0<=l/\0<=t) :
 VR K rl F₀ H₀ F (upd H r (.dK (bW rl.b.1 a l t))) σ ρ:=by
 have fr:F r=none:=(R.reel r e).1
 have neF:∀b u,F b=some u->b≠r:=fun b u q z=>by subst z;rw[fr]at q;cases q
 have g:Grow rl F H F (upd H r (.dK (bW rl.b.1 a l t))):=by
  refine⟨fun b o q n=>by rw[aA (fun z=>n (by rw[z];exact e))];exact q,.refl F,fun b o q=>by rw[aA (neF b o q)];exact R.sub b o q,fun _ _ _=>rfl,fun y z=>?_⟩
  have:y=r:=Ii (z.symm.trans e)
  subst this
  exact⟨fr,⟨_,aJ,a,l,t,rfl,h⟩⟩
 exact R.grow g
section
variable{X:Cx}{rl:RlT}{e:Expr}{fa:TV}{pos p p1 p2:Pos}
noncomputable def D0(i:Nat):TV:=fun ρ Q=>ρ[i]?=some (some .reel)/\∀n:Int,0<=n->Q (.d (.int n))
noncomputable def D1(cs:List Int)(i:Nat):TV:=fun ρ Q=>ρ[i]?=some (some .reel)/\(cs.length<=63->Q (.d (.list (cs.map .int))))
theorem gt{K:W.Frag}{F:Hp}:∀ns:List Int,Reps K F (ns.map V.int) (ns.map Io)
 | []=>.nil
 | n::ns=>.cons (.int n) (gt ns)
theorem gj{k:Str}{j}(hr:Room 0 X.A)(hk:(IA k:G6)=kA\/(IA k:G6)=kL\/(IA k:G6)=kT)(hN:X.N[i]?=some x:=by rfl)(hv:Gv X.env.scope x:=by first|exact JM rfl|exact Jg (JM rfl)|exact Jg (Jg rfl))
 (hd:(x==("__debug__" : Str))=false:=by decide)(hcd:(x==("__classdict__" : Str))=false:=by decide)(hs:tG (.Constant (.str k) j p2):=by exact fun _ _=>rfl):PV X rl (.Subscript (.Name x p1) (.Constant (.str k) j p2) pos) (D0 i):=by
 refine⟨_,ja (po hr) (dW hN hv hd hcd) dD hs,fun{F₀ H₀ F H σ ρ} R Qd Q ⟨e1,q⟩ h=>?_⟩
 obtain⟨v,s1,⟨r,er,ev⟩,_⟩:=R.sl i _ e1
 subst ev
 obtain⟨_,ok⟩:=R.reel r er
 obtain⟨a,l,t,hH,_,_,b1,b2,b3⟩:=ok.kv
 have go:∀n:Int,0<=n->fY (bW rl.b.1 a l t) (IA k)=some (.int n)->wM (zB i) (tC (.str k)) σ H Q:=fun n hn e=>by
  refine⟨.ref r,s1,r,.int n,rfl,?_,h _ (.d _) F H (Grow.refl R.sub R.reel) (.int n) trivial (q n hn)⟩
  have g:=zb.k (k:=(IA k:G6)) hH
  rw[e]at g
  exact g
 rcases hk with hk|hk|hk
 · exact go a b1 (by rw[hk];exact xg rl.b.1 a l t)
 · exact go l b2 (by rw[hk];exact xb rl.b.1 a l t)
 · exact go t b3 (by rw[hk];exact xa rl.b.1 a l t)
theorem fZ{j}(hr:Room 0 X.A)(hN:X.N[i]?=some x:=by rfl)(hv:Gv X.env.scope x:=by first|exact JM rfl|exact Jg (JM rfl)|exact Jg (Jg rfl))
 (hd:(x==("__debug__" : Str))=false:=by decide)(hcd:(x==("__classdict__" : Str))=false:=by decide)(hs:tG (.Constant (.str "cells") j p2):=by exact fun _ _=>rfl):PV X rl (.Subscript (.Name x p1) (.Constant (.str "cells") j p2) pos) (D1 rl.b.2 i):=by
 refine⟨_,ja (po hr) (dW hN hv hd hcd) dD hs,fun{F₀ H₀ F H σ ρ} R Qd Q ⟨e1,q⟩ h=>?_⟩
 obtain⟨v,s1,⟨r,er,ev⟩,_⟩:=R.sl i _ e1
 subst ev
 obtain⟨_,ok⟩:=R.reel r er
 obtain⟨a,l,t,hH,hc,hl,_⟩:=ok.kv
 refine⟨.ref r,s1,r,.ref rl.b.1,rfl,?_,h _ (.d _) F H (Grow.refl R.sub R.reel) (Rep.lst hc (gt _)) trivial (q hl)⟩
 have g:=zb.k (k:=kC) hH
 rw[xf]at g
 exact g
noncomputable def wo(i:Nat)(fa:TV):Gz:=fun D ρ=>fa ρ fun w=>∃n,w = .d (.int n)/\0<=n/\ρ[i]?=some (some .reel)/\D.nx ρ
theorem iI{k:Str}{j}{pos':Pos}(hr:Room 0 X.A)(hk:(IA k:G6)=kA\/(IA k:G6)=kL\/(IA k:G6)=kT)(ha:PV X rl e fa)(hN:X.N[i]?=some x:=by rfl)(hv:Gv X.env.scope x:=by first|exact JM rfl|exact Jg (JM rfl)|exact Jg (Jg rfl))
 (hd:(x==("__debug__" : Str))=false:=by decide)(hcd:(x==("__classdict__" : Str))=false:=by decide)(hsw:JU e (some (.Subscript (.Name x p1) (.Constant (.str k) j p2) pos')) pos.line X.env=pure false:=by rfl) :
 GT X rl (.Assign [.Subscript (.Name x p1) (.Constant (.str k) j p2) pos'] e pos) (wo i fa):=by
 obtain⟨t,p3,kk⟩:=ha
 refine⟨_,uy (po hr) (dW hN hv hd hcd) dD p3 hsw,fun{F₀ H₀ F H σ ρ} R Dv D ok q=>kk R _ _ q fun v w F1 H1 g1 r1 n1 ⟨n,ew,hn,e1,q1⟩=>?_⟩
 subst ew
 have ev:=bC r1
 subst ev
 have R1:=R.grow g1
 obtain⟨v,s1,⟨r,er,ev⟩,_⟩:=R1.sl i _ e1
 subst ev
 obtain⟨_,okr⟩:=R1.reel r er
 obtain⟨a,l,t,hH,hc,hl,b1,b2,b3⟩:=okr.kv
 refine⟨.ref r,s1,r,_,rfl,AQ.k (k:=(IA k:G6)) hH (nG (by show 4<=1000;decide)),?_⟩
 have go:∀a' l' t':Int,0<=a'->0<=l'->0<=t'->e9 (bW rl.b.1 a l t) (IA k) (.int n)=bW rl.b.1 a' l' t'->D.nx σ (upd H1 r (.dK (e9 (bW rl.b.1 a l t) (IA k) (.int n)))):=fun a' l' t' x1 x2 x3 e=>by
  rw[e]
  exact ok.nx _ _ _ _ g1.fs (GN.put R1 er ⟨hc,hl,x1,x2,x3⟩) q1
 rcases hk with hk|hk|hk
 · exact go n l t hn b2 b3 (by rw[hk];exact zW rl.b.1 a l t n)
 · exact go a n t b1 hn b3 (by rw[hk];exact zV rl.b.1 a l t n)
 · exact go a l n b1 b2 hn (by rw[hk];exact zU rl.b.1 a l t n)
end
theorem mH(c:Addr):d_ [] [(kC,V.ref c),(kA,.int 0),(kL,.int 0),(kT,.int 0)]=bW c 0 0 0:=by
 unfold d_ bW
 simp only[Kb,Mt]
 have p0:e9 ([]:List (G6×V)) kC (V.ref c)=[(kC,V.ref c)]:=rfl
 rw[p0]
 unfold e9
 simp[An,Am,Al,yS,yR,yQ]
section
variable{X:Cx}{rl:RlT}{e:Expr}{fa:TV}{pos p p1 p2:Pos}{ρ:En}
noncomputable def Gr:W->Option Unit
 | .reel=>some ()
 | _=>none
theorem aS:Gr .reel=some ():=rfl
theorem Cb:(((ρ[i]?).join).bind Gr=some ())↔ρ[i]?=some (some .reel):=by
 constructor
 · intro h
   cases q:ρ[i]? with
   | none=>rw[q]at h;cases h
   | some o=>rw[q]at h;cases o with
     | none=>cases h
     | some w=>cases w<;>first|rfl|cases h
 · intro h;rw[h];rfl
theorem wR{β:Type}{k:Unit->Mo β}{Q:β->Prop}:bB (((ρ[i]?).join).bind Gr) k Q↔ρ[i]?=some (some .reel)/\k () Q:=by
 rw[aC]
 exact⟨fun⟨u,a,q⟩=>⟨Cb.mp a,q⟩,fun⟨a,q⟩=>⟨(),Cb.mpr a,q⟩⟩
theorem aQ(i:Nat):D0 i ρ=bB (((ρ[i]?).join).bind Gr) fun _=>Gh (anyM fun n:Int=>0<=n) fun n=>ret (.d (.int n)):=ak fun Q=>(Iff.intro (fun⟨a,q⟩=>wR.mpr ⟨a,fun n h=>q n h⟩) fun h=>⟨(wR.mp h).1,fun n hn=>(wR.mp h).2 n hn⟩)
theorem aR(cs:List Int)(i:Nat):D1 cs i ρ=bB (((ρ[i]?).join).bind Gr) fun _=>Gh (anyM fun _:Unit=>cs.length<=63) fun _=>ret (.d (vQ cs)):=ak fun Q=>(Iff.intro (fun⟨a,q⟩=>wR.mpr ⟨a,fun _ h=>q h⟩) fun h=>⟨(wR.mp h).1,fun hn=>(wR.mp h).2 () hn⟩)
theorem aE(i:Nat):mS (wo i fa) ρ=Gh (fa ρ) fun w=>bB (asI w) fun n=>FP (0<=n) (bB (((ρ[i]?).join).bind Gr) fun _=>ret (.nx ρ)):=by
 show(Gh (fa ρ) fun w=>fun(Q:Fl->Prop)=>∃n,w = .d (.int n)/\0<=n/\ρ[i]?=some (some .reel)/\Q (.nx ρ))=_
 congr 1;funext w
 refine ak fun Q=>?_
 simp only[aC (o:=asI w),dX,FP,wR,ret]
end
theorem aG(xs:List Int):mT (vQ xs)=some xs.length:=by show some (xs.map Io).length=_;rw[HM]
theorem ay(xs:List Int)(i:Int):itemAt (vQ xs) i=(atI xs i).map .int:=bF _ _ _
section
variable{X:Cx}{rl:RlT}{e:Expr}{fa:TV}{pos dpos q1 q2 q3 q4:Pos}{ρ:En}{j1 j2 j3 j4:Nat}{a b x y:Str}
end
end L2.VL
namespace L2
section
variable{X:Cx}{kx vx tg iter:Expr}{ifs:List Expr}{scope:Scope}{pos:Pos}{wi:TI}{g:CompA->TG}{tt:CompA->TT}{tk te:CompA->TE}
end
section
variable{prog:Ie}{w:II}{A:Jb}{E:HE->HH->Prop}
end
section
variable{X:Cx}
end
end L2
namespace L2.VL
section
variable{K:W.Frag}{F:Hp}{us:List (G6×V)}{kvs:List (G6×Hy)}
end
section
variable{X:Cx}{rl:RlT}{kx vx tg iter:Expr}{ifs:List Expr}{scope:Scope}{pos:Pos}{fi:En->(List Hy->Prop)->Prop}{g:GC}{ft:TB}{fk fe:TV}
end
section
variable{α:Type}{b:Hy->Mo (Option (G6×Hy))}
end
section
variable{X:Cx}{rl:RlT}{a c e o i:Expr}{es:List Expr}{fa fb:TV}{fs:Gy}{pos p kpos:Pos}{ρ:En}
end
end L2.VL
namespace L2
end L2
namespace L2.VL
section
variable{X:Cx}{rl:RlT}{tg:Expr}{fa:TV}{ρ:En}
end
end L2.VL
namespace L2
noncomputable def insAt{α:Type}(xs:List α)(k:Nat)(y:α):List α:=xs.take k++y::xs.drop k
theorem dq.insAt{xs:List V}{its:List HE}{y:V}{u:HE}(r:dq xs its)(ry:RelV y u)(k:Nat):dq (L2.insAt xs k y) (L2.insAt its k u):=by
 unfold L2.insAt
 induction r generalizing k with
 | nil=>simp;exact .cons ry .nil
 | cons h t ih =>
   cases k with
   | zero=>exact .cons ry (.cons h t)
   | succ k=>exact .cons h (ih k)
variable{X:Cx}
noncomputable def nY:V->List V->Hp->VK->Prop:=fun x vs H Q=>∃l xs i y,x = .ref l/\vs=[.int i,y]/\H l=some (.lst xs)/\0<=i/\i<=xs.length/\xs.length<sizeLine/\Q .non (upd H l (.lst (insAt xs i.toNat y)))
theorem oK:G4 X "list.insert" nY:=by
 intro pins s σ H x vs v us Q I rx rv h
 obtain⟨l,xs,i,y,rfl,rfl,hH,h0,h1,hz,q⟩:=h
 cases rx
 obtain⟨u,u2,rfl,⟨t,rfl⟩,ru⟩:=vals2 rv
 obtain⟨z,its,n,r,hl,e⟩:=I.lstM hH
 have len:xs.length=its.length:=r.length
 have sz:=HV
 have fit:Kx i=true:=by simp[Kx];omega
 refine Lg F.slot_list_insert ⟨_,e,rfl⟩ F.entry_list_insert (F.args_list_insert_3 _ _ _) (PySem.AutoSeq1.list_insert_list_int_val_1 l its.toArray n i t u2 (by simp[fit]) (by rw[HU];omega)) ⟨e,?_⟩
 refine⟨.non,_,I.lset (its':=insAt its i.toNat u2) hH e ?_ (r.insAt ru _) ?_,rfl,q⟩
 · have hn:¬i<0:=by omega
   have hm:min i.toNat its.length=i.toNat:=by omega
   simp only[hn,if_false,HU,hm]
   unfold insAt
   simp[List.extract_eq_drop_take]
   rw[Je (by rw[JX];omega)]
 · unfold insAt
   rw[Ij,JP,IJ,JX]
   omega
end L2
namespace L2.VL
section
variable{X:Cx}{rl:RlT}{a e:Expr}{es:List Expr}{fs:Gy}{pos:Pos}
theorem Reps.insAt{K:W.Frag}{F:Hp}{vs:List V}{ds:List Hy}{v:V}{d:Hy}(r:Reps K F vs ds)(h:Rep K F v d)(k:Nat):Reps K F (L2.insAt vs k v) (L2.insAt ds k d):=by
 unfold L2.insAt
 exact(r.take k).append (.cons h (r.drop k))
noncomputable def yX:List Hy->List W->(List Hy->Prop)->Prop:=fun xs ws Q=>∃i x,jp ws=some [.int i,x]/\0<=i/\i<=xs.length/\xs.length<sizeLine/\Q (insAt xs i.toNat x)
theorem v7{K:W.Frag}:AK K rl nY yX:=fun{F H a vs args xs ws} Qn Q s ha rs ra ⟨i,x,e,h0,h1,z,q⟩ k=>by
 have r2:=eA ra e
 cases r2 with
 | cons ri r3 =>
   cases r3 with
   | cons rx r4 =>
     cases r4
     have ei:=bC ri
     subst ei
     exact⟨a,vs,i,_,rfl,rfl,ha,h0,by rw[rs.length];exact h1,by rw[rs.length];exact z,k _ _ (rs.insAt rx _) q⟩
theorem vZ(i:Nat){apos cpos:Pos}(ha:GP X rl [a,e] fs)(hN:X.N[i]?=some x:=by rfl)(hv:Gv X.env.scope x:=by first|exact JM rfl|exact Jg (JM rfl)|exact Jg (Jg rfl))
 (hd:(x==("__debug__" : Str))=false:=by decide)(hcd:(x==("__classdict__" : Str))=false:=by decide)
 (hbase:Lc (.Name x px) "insert" X.env (eval (.Name x px) X.env)=eval (.Name x px) X.env:=by rfl)
 (hfew:((Jv cpos (HL [a,e] X.env)).all (fun x=>!x.1)&&(M1 cpos (LW [] X.env)).all (fun x=>x.1.isSome)
  && decide (([a,e]).length+([]:List LB).length+(if([]:List LB).isEmpty then 0 else 1)<30))=true:=by rfl)
 (hline:(apos.endLine==cpos.line)=true:=by rfl)(hs:HL [a,e] X.env=(false,eval a X.env)::HL [e] X.env:=by rfl)(hplain:(Jv cpos (HL [e] X.env)).any (·.1)=false:=by rfl)
 (hsw:JU (.Call (.Attribute (.Name x px) "insert" apos) [a,e] [] cpos) none pos.line X.env=pure false:=by rfl) :
 GT X rl (.Expr (.Call (.Attribute (.Name x px) "insert" apos) [a,e] [] cpos) pos) (wv i yX fs) :=
 sy i PySem.F.slot_list_insert PySem.F.type_list_insert oK v7 ha hN hv hd hcd hbase hfew hline hs hplain hsw
noncomputable def insW(ws:List W):Option (Int×Hy):=match jp ws with
 | some [.int i,x]=>some (i,x)
 | _=>none
theorem insW_d(i:Int)(x:Hy):insW [.d (.int i),.d x]=some (i,x):=rfl
theorem vb{ws:List W}{p:Int×Hy}:insW ws=some p↔jp ws=some [.int p.1,p.2]:=by
 constructor
 · intro h
   unfold insW at h
   split at h
   · rename_i i x e;cases h;exact e
   · cases h
 · intro h;unfold insW;rw[h]
theorem m_gIns(xs:List Hy)(ws:List W):yX xs ws=bB (insW ws) fun p=>FP (0<=p.1) (FP (p.1<=xs.length) (FP (xs.length<sizeLine) (ret (insAt xs p.1.toNat p.2)))):=by
 refine ak fun Q=>?_
 simp only[yX,aC,vb,FP,ret]
 exact⟨fun⟨i,x,e,a,b,c,q⟩=>⟨(i,x),e,a,b,c,q⟩,fun⟨p,e,a,b,c,q⟩=>⟨p.1,p.2,e,a,b,c,q⟩⟩
noncomputable def Hu:=Hz @m_gIns (@insW_d)
end
noncomputable def Hi(K:W.Frag)(rl:RlT)(H₀ F₁ H₁ F:Hp)(b:Addr)(xs:List Hy):Prop:=∃vs,H₁ b=some (.lst vs)/\F₁ b=none/\rl.a≠some b/\H₀ b=none/\Reps K F vs xs
structure Cl (K:W.Frag) (rl:RlT) (F₀ H₀ F₁ H₁ F:Hp) (a:Addr) (as:List Addr) (xss:List (List Hy)):Prop where
 g:Grow rl F₀ H₀ F₁ H₁
 ha:H₁ a=some (.lst (as.map V.ref))
 ra:rl.a≠some a
 nd:as.Nodup
 nm:a∉as
 inn:I0 (Hi K rl H₀ F₁ H₁ F) as xss
theorem Cl.mono{K:W.Frag}{rl:RlT}{F₀ H₀ F₁ H₁ F F':Hp}{a:Addr}{as:List Addr}{xss:List (List Hy)}(c:Cl K rl F₀ H₀ F₁ H₁ F a as xss)(s:cp F F'):Cl K rl F₀ H₀ F₁ H₁ F' a as xss :=
 ⟨c.g,c.ha,c.ra,c.nd,c.nm,I0.mapP c.inn fun _ _ ⟨vs,h1,h2,h3,h4,h5⟩=>⟨vs,h1,h2,h3,h4,h5.mono s⟩⟩
theorem gw{α β:Type}{R:α->β->Prop}:∀{xs:List α}{ys:List β},I0 R xs ys->∀{n:Nat}{y:β},ys[n]?=some y->∃x,xs[n]?=some x/\R x y
 | _,_,.nil,n,y,e=>by simp at e
 | _,_,.cons r rs,0,y,e=>by simp at e;subst e;exact⟨_,rfl,r⟩
 | _,_,.cons r rs,n+1,y,e=>by simpa using gw rs (n:=n) (by simpa using e)
theorem jW{α β:Type}{R R':α->β->Prop}{x:α}(k:∀a b,a≠x->R a b->R' a b):∀{xs:List α}{ys:List β},I0 R xs ys->x∉xs->I0 R' xs ys
 | _,_,.nil,_=>.nil
 | _,_,.cons r rs,n=>.cons (k _ _ (fun z=>n (z▸Iw)) r) (jW k rs fun z=>n (Ic _ z))
theorem iu{α β:Type}{R R':α->β->Prop}{x:α}{y:β}(h:R' x y)(k:∀a b,a≠x->R a b->R' a b):∀{xs:List α}{ys:List β},I0 R xs ys->xs.Nodup->∀{n:Nat},xs[n]?=some x->I0 R' xs (ys.set n y)
 | _,_,.nil,_,n,e=>by simp at e
 | x0::xs,y0::ys,.cons r rs,nd,0,e=>by
   simp at e
   subst e
   rw[Lz]
   exact .cons h (jW k rs (J_.mp nd).1)
 | x0::xs,y0::ys,.cons r rs,nd,n+1,e=>by
   rw[LA]
   have e':xs[n]?=some x:=by simpa using e
   exact .cons (k _ _ (fun z=>(J_.mp nd).1 (z▸JQ e')) r) (iu h k rs (J_.mp nd).2 e')
theorem eP.apart{K:W.Frag}{o:HO}{w:W}(r:eP K rl F H v w)(ne:w.own=true->v ≠ .ref b)(np:∀xs,w ≠ .pk xs):eP K rl F (upd H b o) v w:=by
 cases w with
 | ml xs=>obtain⟨a,vs,e,h1,h2,h3,h4⟩:=r;exact⟨a,vs,e,h1,h2,by rw[aA (fun z=>ne rfl (by rw[e,z]))];exact h3,h4⟩
 | pk xs=>exact absurd rfl (np xs)
 | md kvs=>obtain⟨a,vs,e,h1,h2,h3,h4⟩:=r;exact⟨a,vs,e,h1,h2,by rw[aA (fun z=>ne rfl (by rw[e,z]))];exact h3,h4⟩
 | mk kvs=>obtain⟨a,vs,e,h1,h2,h3,h4⟩:=r;exact⟨a,vs,e,h1,h2,by rw[aA (fun z=>ne rfl (by rw[e,z]))];exact h3,h4⟩
 | _=>exact r
theorem VR.moved{K:W.Frag}{F₁ H₁:Hp}{o o':HO}(R:VR K rl F₁ H₁ F H σ ρ)(hb:H₁ b=some o)(fb:F₁ b=none)(rb:rl.a≠some b):VR K rl F₁ (upd H₁ b o') F (upd H b o') σ ρ:=by
 have f:F b=none:=by rw[R.g.old b _ hb];exact fb
 have neF:∀c u,F c=some u->c≠b:=fun c u q z=>by subst z;rw[f]at q;cases q
 have own:∀{v w},fM H₁ v w->w.own=true->v ≠ .ref b:=fun n ow z=>by have:=n.none ow z;rw[hb]at this;cases this
 refine⟨⟨fun c u q n=>?_,R.g.fs,fun c u q=>by rw[aA (neF c u q)];exact R.sub c u q,fun c u q=>?_,fun r er=>?_⟩,fun i w e=>?_,R.ap,R.np,R.len⟩
 · by_cases z:c=b
   · subst z;rw[aJ]at q ⊢;exact q
   · rw[aA z]at q ⊢;exact R.g.same c u q n
 · by_cases z:c=b
   · subst z;rw[f,fb]
   · rw[aA z]at q;exact R.g.old c u q
 · obtain⟨h1,⟨o2,h2,h3⟩⟩:=R.g.reel r er
   exact⟨h1,⟨o2,by rw[aA (fun z=>rb (by rw[<- z];exact er))];exact h2,h3⟩⟩
 · obtain⟨v,h1,h2,h3⟩:=R.sl i w e
   refine⟨v,h1,h2.apart (own h3) (fun xs z=>R.np i xs (z▸e)),?_⟩
   cases w with
   | ml xs=>exact fun a ea=>by rw[aA (fun z=>own h3 rfl (by rw[ea,z]))];exact h3 a ea
   | md xs=>exact fun a ea=>by rw[aA (fun z=>own h3 rfl (by rw[ea,z]))];exact h3 a ea
   | mk xs=>exact fun a ea=>by rw[aA (fun z=>own h3 rfl (by rw[ea,z]))];exact h3 a ea
   | _=>trivial
theorem Cl.moved{K:W.Frag}{F₁ H₁:Hp}{as:List Addr}(c:Cl K rl F₀ H₀ F₁ H₁ F a as xss)(e:as[n]?=some b)(fb:F₁ b=none)(rb:rl.a≠some b)(h0:H₀ b=none)(rs:Reps K F vs xs) :
 Cl K rl F₀ H₀ F₁ (upd H₁ b (.lst vs)) F a as (xss.set n xs):=by
 have nb:∀d u,F₁ d=some u->d≠b:=fun d u q z=>by subst z;rw[fb]at q;cases q
 refine⟨⟨fun d u q m=>by rw[aA (bA q h0)];exact c.g.same d u q m,c.g.fs,fun d u q=>by rw[aA (nb d u q)];exact c.g.sub d u q,c.g.old,fun r er=>?_⟩,?_,c.ra,c.nd,c.nm,iu (R':=Hi K rl H₀ F₁ (upd H₁ b (.lst vs)) F) (x:=b) ⟨vs,aJ,fb,rb,h0,rs⟩ (fun d ys nd ⟨us,h1,h2⟩=>⟨us,by rw[aA nd];exact h1,h2⟩) c.inn c.nd e⟩
 · obtain⟨h1,⟨o2,h2,h3⟩⟩:=c.g.reel r er
   exact⟨h1,⟨o2,by rw[aA (fun z=>rb (by rw[<- z];exact er))];exact h2,h3⟩⟩
 · rw[aA (show a≠b from fun z=>by subst z;exact c.nm (JQ e))]
   exact c.ha
structure MEnds where
 nx:List (List Hy)->En->Prop
 rt:W->Prop
structure EndsM (K:W.Frag) (rl:RlT) (F₀ H₀:Hp) (a:Addr) (as:List Addr) (Fs:Hp) (Dm:MEnds) (D:Ends):Prop where
 nx:∀F₁ H₁ F H σ ρ xss,cp Fs F->Cl K rl F₀ H₀ F₁ H₁ F a as xss->VR K rl F₁ H₁ F H σ ρ->Dm.nx xss ρ->D.nx σ H
 rt:∀v w F H,Grow rl F₀ H₀ F H->eP K rl F H v w->fM H₀ v w->Dm.rt w->D.rt v H
theorem EndsM.on{K:W.Frag}{as:List Addr}{Fs:Hp}{Dm:MEnds}{D:Ends}(ok:EndsM K rl F₀ H₀ a as Fs Dm D)(s:cp Fs F):EndsM K rl F₀ H₀ a as F Dm D :=
 ⟨fun F₁ H₁ F' H σ ρ xss s'=>ok.nx F₁ H₁ F' H σ ρ xss (s.trans s'),ok.rt⟩
abbrev GA:=Addr->MEnds->List (List Hy)->En->Prop
noncomputable def GU(X:Cx)(rl:RlT)(st:Stmt)(t:GA):Prop:=∃T,PS X st T/\∀{F₀ H₀ F₁ H₁ F H:Hp}{σ:St}{ρ:En}{a:Addr}{as:List Addr}{xss:List (List Hy)},Cl X.K rl F₀ H₀ F₁ H₁ F a as xss->VR X.K rl F₁ H₁ F H σ ρ->∀Dm D,EndsM X.K rl F₀ H₀ a as F Dm D->t a Dm xss ρ->T D σ H
noncomputable def yI(X:Cx)(rl:RlT)(st:List Stmt)(t:GA):Prop:=∃T,GS X st T/\∀{F₀ H₀ F₁ H₁ F H:Hp}{σ:St}{ρ:En}{a:Addr}{as:List Addr}{xss:List (List Hy)},Cl X.K rl F₀ H₀ F₁ H₁ F a as xss->VR X.K rl F₁ H₁ F H σ ρ->∀Dm D,EndsM X.K rl F₀ H₀ a as F Dm D->t a Dm xss ρ->T D σ H
noncomputable def x5:GA:=fun _ Dm xss ρ=>Dm.nx xss ρ
noncomputable def Cp(t u:GA):GA:=fun a Dm xss ρ=>t a {Dm with nx:=u a Dm} xss ρ
noncomputable def Fe(t:Gz):GA:=fun _ Dm xss ρ=>t ⟨fun ρ'=>Dm.nx xss ρ',Dm.rt,fun _=>False,fun _=>False⟩ ρ
section
variable{X:Cx}{rl:RlT}{st:Stmt}{rest body:List Stmt}{t:Gz}{u v:GA}{e:Expr}{fa:TV}{pos p:Pos}
theorem uX:yI X rl [] x5:=⟨_,oh,fun C R Dm D ok q=>ok.nx _ _ _ _ _ _ _ (.refl _) C R q⟩
theorem eO(h:GU X rl st u)(h2:yI X rl rest v):yI X rl (st::rest) (Cp u v):=by
 obtain⟨T,p,k⟩:=h
 obtain⟨T2,p2,k2⟩:=h2
 exact⟨_,ge p p2,fun C R Dm D ok q=>k C R {Dm with nx:=v _ Dm} {D with nx:=T2 D} ⟨fun F₁ H₁ F' H' σ' ρ' xss' s' C' R' q'=>k2 C' R' Dm D (ok.on s') q',ok.rt⟩ q⟩
theorem vP(h:GT X rl st t):GU X rl st (Fe t):=by
 obtain⟨T,p,k⟩:=h
 exact⟨T,p,fun C R Dm D ok q=>k R _ D ⟨fun F' H' σ' ρ' s R' q'=>ok.nx _ _ _ _ _ _ _ s (C.mono s) R' q',fun v w F' H' g r n q'=>ok.rt v w F' H' (C.g.trans g) r (fM.back C.g n) q',fun _ _ _ _ _ _ z=>Jm z,fun _ _ _ _ _ _ z=>Jm z⟩ q⟩
noncomputable def Cq(fi:En->(List Hy->Prop)->Prop)(g:GC)(t:GA):GA:=fun a Dm xss ρ=>fi ρ fun ys=>∃J:Nat->List (List Hy)->En->Prop,J 0 xss ρ /\
 (∀i y xss ρ,ys[i]?=some y->J i xss ρ->g y ρ fun ρ2=>t a {Dm with nx:=J (i+1)} xss ρ2)/\∀xss ρ,J ys.length xss ρ->Dm.nx xss ρ
theorem x4{g:GC}(hp:MH (IH X.prog X.w) X.A X.env X.xe)(hc:X.calm=true)(hi:GW X rl tg iter fi)(hg:GZ X rl tg g)(hb:yI X rl body u)
 (hs:∀x,JG iter X.env x=pure x:=by intro _;rfl):GU X rl (.For tg iter body [] pos) (Cq fi g u):=by
 obtain⟨wi,p0,k0⟩:=hi
 obtain⟨G,p1,k1⟩:=hg
 obtain⟨T,p2,k2⟩:=hb
 refine⟨_,sS hp hc p0 p1 p2 hs,fun{F₀ H₀ F₁ H₁ F H σ ρ a as xss} C R Dm D ok q=>k0 R _ _ q fun I xs F1 H1 g1 vi ⟨J,j0,turn,fin⟩=>?_⟩
 refine⟨fun i m σ H=>m=xs.length-i/\i<=xs.length/\∃F₁ H₁ F ρ xss,cp F1 F/\Cl X.K rl F₀ H₀ F₁ H₁ F a as xss/\VR X.K rl F₁ H₁ F H σ ρ/\J i xss ρ,⟨xs.length,by simp,Ip _,F₁,H₁,F1,ρ,xss,.refl _,C.mono g1.fs,R.grow g1,j0⟩,?_⟩
 rintro i m σ H ⟨rfl,hi,E₁,G₁,F2,ρ2,xs2,s2,C2,R2,j2⟩
 have sH:cp F1 H:=s2.trans R2.sub
 by_cases hlt:i<xs.length
 · have ei:xs[i]?=some xs[i]:=by simp[hlt]
   refine .inr ⟨vi.go i H _ ei sH,fun σ' H'=>∃F₁ H₁ F ρ xss,cp F1 F/\Cl X.K rl F₀ H₀ F₁ H₁ F a as xss/\VR X.K rl F₁ H₁ F H' σ' ρ/\J (i+1) xss ρ,fun σ' H' z=>⟨xs.length-(i+1),by omega,rfl,hlt,z⟩,fun v H' y=>?_⟩
   obtain⟨Fy,gy,rv⟩:=vi.yld i H v H' _ F2 ei s2 R2.sub R2.reel y
   refine k1 (R2.grow gy) v _ _ _ rv (turn i _ xs2 ρ2 ei j2) fun F3 H3 σ3 ρ3 s3 n3 R3 q3=>?_
   have s13:cp F1 F3:=s2.trans (gy.fs.trans s3.fs)
   exact k2 (C2.mono (gy.fs.trans s3.fs)) R3 {Dm with nx:=J (i+1)} _ ⟨fun E' G' F4 H4 σ4 ρ4 xs4 s4 C4 R4 q4=>⟨E',G',F4,ρ4,xs4,s13.trans s4,C4,R4,q4⟩,ok.rt⟩ q3
 · have e:i=xs.length:=by omega
   subst e
   exact .inl ⟨vi.stop _ H (HS _) sH,ok.nx _ _ _ _ _ _ _ (g1.fs.trans s2) C2 R2 (fin _ _ j2)⟩
noncomputable def C1(ic ik ix:Nat):GA:=fun a Dm xss ρ=>ρ[ic]?=some (some (.vv (.ref a)))/\∃(n:Nat)(xs:List Hy)(d:Hy),ρ[ik]?=some (some (.d (.int n)))/\xss[n]?=some xs/\ρ[ix]?=some (some (.d d))/\xs.length<sizeLine/\Dm.nx (xss.set n (xs++[d])) ρ
theorem p_{as:List Addr}(e:as[n]?=some b):atI (as.map V.ref) (n:Int)=some (V.ref b):=by
 have hl:n<as.length:=(H0.mp e).1
 rw[bF]
 unfold atI
 rw[show ixN as.length (n:Int)=some n by unfold ixN;simp;omega,Option.bind_some,e]
 rfl
theorem Aj(ic ik ix:Nat){c k:Str}{pc pk p1 apos cpos:Pos} 
 (hc:X.N[ic]?=some c:=by rfl)(vc:Gv X.env.scope c:=by first|exact JM rfl|exact Jg (JM rfl)|exact Jg (Jg rfl))(dc:(c==("__debug__" : Str))=false:=by decide)(ec:(c==("__classdict__" : Str))=false:=by decide)
 (hk:X.N[ik]?=some k:=by rfl)(vk:Gv X.env.scope k:=by first|exact JM rfl|exact Jg (JM rfl)|exact Jg (Jg rfl))(dk:(k==("__debug__" : Str))=false:=by decide)(ek:(k==("__classdict__" : Str))=false:=by decide)
 (hx:X.N[ix]?=some x:=by rfl)(vx:Gv X.env.scope x:=by first|exact JM rfl|exact Jg (JM rfl)|exact Jg (Jg rfl))(dx:(x==("__debug__" : Str))=false:=by decide)(ex:(x==("__classdict__" : Str))=false:=by decide)
 (hs:jm (.Name k pk):=by exact fun _ _=>rfl)
 (hbase:Lc (.Subscript (.Name c pc) (.Name k pk) p1) "append" X.env (eval (.Subscript (.Name c pc) (.Name k pk) p1) X.env)=eval (.Subscript (.Name c pc) (.Name k pk) p1) X.env:=by rfl)
 (hfew:((Jv cpos (HL [.Name x px] X.env)).all (fun x=>!x.1)&&(M1 cpos (LW [] X.env)).all (fun x=>x.1.isSome)
  && decide (([.Name x px]:List Expr).length+([]:List LB).length+(if([]:List LB).isEmpty then 0 else 1)<30))=true:=by rfl)
 (hline:(apos.endLine==cpos.line)=true:=by rfl)(hst:HL [.Name x px] X.env=(false,eval (.Name x px) X.env)::HL [] X.env:=by rfl)(hplain:(Jv cpos (HL [] X.env)).any (·.1)=false:=by rfl)
 (hsw:JU (.Call (.Attribute (.Subscript (.Name c pc) (.Name k pk) p1) "append" apos) [.Name x px] [] cpos) none pos.line X.env=pure false:=by rfl) :
 GU X rl (.Expr (.Call (.Attribute (.Subscript (.Name c pc) (.Name k pk) p1) "append" apos) [.Name x px] [] cpos) pos) (C1 ic ik ix):=by
 refine⟨_,kM (xG LX LM LN gC (uF o0 (dW hc vc dc ec) (dW hk vk dk ek) hs) (gz (dW hx vx dx ex) ox hst) hbase hfew hline hst hplain) hsw,fun{F₀ H₀ F₁ H₁ F H σ ρ a as xss} C R Dm D ok ⟨e1,n,xs,d,e2,e3,e4,hl,q⟩=>?_⟩
 obtain⟨v1,s1,rfl,_⟩:=R.sl ic _ e1
 obtain⟨v2,s2,r2,_⟩:=R.sl ik _ e2
 have ev2:=bC r2
 subst ev2
 obtain⟨v3,s3,r3,_⟩:=R.sl ix _ e4
 obtain⟨b,eb,vs,h1,h2,h3,h4,h5⟩:=gw C.inn e3
 have ha:H a=some (.lst (as.map V.ref)):=R.g.same a _ C.ha C.ra
 have hb:H b=some (.lst vs):=R.g.same b _ h1 h3
 refine⟨_,s1,_,s2,.inl ⟨a,_,_,_,rfl,rfl,.inl (.inl ha),p_ eb,.inl ⟨rfl,vs,.inl (.inl hb)⟩,_,s3,b,vs,_,rfl,rfl,hb,by rw[h5.length];exact hl,?_⟩⟩
 exact ok.nx F₁ _ F _ σ ρ _ (.refl _) (C.moved eb h2 h3 h4 (h5.snoc r3)) (R.moved h1 h2 h3) q
noncomputable def C0(i jf ic ik:Nat)(Pd:List W->(Hy->Prop)->Prop)(f3:TV):GA:=fun a Dm xss ρ=>ρ[jf]?=some (some .reel)/\ρ[ic]?=some (some (.vv (.ref a)))/\∃(n:Nat)(xs:List Hy),ρ[ik]?=some (some (.d (.int n)))/\xss[n]?=some xs /\
 f3 ρ fun w=>∃b:Bool,w = .d (.bool b)/\Pd [.reel,.d (.list xs),.d (.bool b)] fun d=>(∃p q:Int,d = .tuple [.int p,.int q])/\Dm.nx xss (ρ.set i (some (.d d)))
theorem Ai(i jf ic ik:Nat){f h c k:Str}{pf ph pc pk p1 cpos:Pos}{e3:Expr}{f3:TV}{ps:List Str}{kk:Nat}{Pd:List W->(Hy->Prop)->Prop}(hN:X.N.Nodup)(Dd:Dfn X.prog X.w X.K X.mg X.base rl f ps kk Pd)(hr:Room kk X.A)(h3:PV X rl e3 f3)
 (hi:X.N[i]?=some x:=by rfl)(hx:Loc X.env.scope x:=by first|exact JM rfl|exact Jg rfl)(hf:X.fn x=true\/X.env.scope.names.lookup x=some .local:=by first|exact .inl rfl|exact .inr rfl)
 (hh:X.N[jf]?=some h:=by rfl)(vh:Gv X.env.scope h:=by first|exact JM rfl|exact Jg (JM rfl)|exact Jg (Jg rfl))(dh:(h==("__debug__" : Str))=false:=by decide)(eh:(h==("__classdict__" : Str))=false:=by decide)
 (hc:X.N[ic]?=some c:=by rfl)(vc:Gv X.env.scope c:=by first|exact JM rfl|exact Jg (JM rfl)|exact Jg (Jg rfl))(dc:(c==("__debug__" : Str))=false:=by decide)(ec:(c==("__classdict__" : Str))=false:=by decide)
 (hk:X.N[ik]?=some k:=by rfl)(vk:Gv X.env.scope k:=by first|exact JM rfl|exact Jg (JM rfl)|exact Jg (Jg rfl))(dk:(k==("__debug__" : Str))=false:=by decide)(ek:(k==("__classdict__" : Str))=false:=by decide)
 (hs:jm (.Name k pk):=by exact fun _ _=>rfl)(hg:Gl X f:=by rfl)(hdb:(f==("__debug__" : Str))=false:=by decide)
 (st1:HL [.Name h ph,.Subscript (.Name c pc) (.Name k pk) p1,e3] X.env=(false,eval (.Name h ph) X.env)::HL [.Subscript (.Name c pc) (.Name k pk) p1,e3] X.env:=by rfl)
 (st2:HL [.Subscript (.Name c pc) (.Name k pk) p1,e3] X.env=(false,eval (.Subscript (.Name c pc) (.Name k pk) p1) X.env)::HL [e3] X.env:=by rfl)(st3:HL [e3] X.env=(false,eval e3 X.env)::HL [] X.env:=by rfl)
 (hpl:(Jv cpos (HL [.Subscript (.Name c pc) (.Name k pk) p1,e3] X.env)).any (·.1)=false:=by rfl)
 (hsw:JU (.Call (.Name f pf) [.Name h ph,.Subscript (.Name c pc) (.Name k pk) p1,e3] [] cpos) (some (.Name x px)) pos.line X.env=pure false:=by rfl) :
 GU X rl (.Assign [.Name x px] (.Call (.Name f pf) [.Name h ph,.Subscript (.Name c pc) (.Name k pk) p1,e3] [] cpos) pos) (C0 i jf ic ik Pd f3):=by
 obtain⟨fa,fd,hm,hkp,hb,Fk⟩:=Dd.ex
 obtain⟨t3,p3,k3⟩:=h3
 refine⟨_,jS hN hi hx (kP Fk hr hg hm hkp hb .nil uI (gz (dW hh vh dh eh) (gz (uF o0 (dW hc vc dc ec) (dW hk vk dk ek) hs) (gz p3 ox st3) st2) st1) hdb st1 hpl) hsw hf,fun{F₀ H₀ F₁ H₁ F H σ ρ a as xss} C R Dm D ok ⟨e0,e1,n,xs,e2,e3,q⟩=>?_⟩
 obtain⟨v0,s0,⟨r,er,rfl⟩,_⟩:=R.sl jf _ e0
 obtain⟨v1,s1,rfl,_⟩:=R.sl ic _ e1
 obtain⟨v2,s2,r2,_⟩:=R.sl ik _ e2
 have ev2:=bC r2
 subst ev2
 obtain⟨b,eb,vs,h1,h2,h3,h4,h5⟩:=gw C.inn e3
 have ha:H a=some (.lst (as.map V.ref)):=R.g.same a _ C.ha C.ra
 have hb:H b=some (.lst vs):=R.g.same b _ h1 h3
 refine⟨_,s0,_,s1,_,s2,.inl ⟨a,_,_,_,rfl,rfl,.inl (.inl ha),p_ eb,k3 R _ _ q fun v3 w3 F3 H3 g3 r3 n3 ⟨bb,ew,q3⟩=>?_⟩⟩
 subst ew
 have hb3:H3 b=some (.lst vs):=g3.same b _ hb h3
 have fb3:F3 b=none:=by rw[g3.old b _ hb,R.g.old b _ h1];exact h2
 have nb3:∀d u,F3 d=some u->d≠b:=fun d u z y=>by subst y;rw[fb3]at z;cases z
 have fsm:cp F3 (upd F3 b (.lst vs)):=fun d u z=>by rw[aA (nb3 d u z)];exact z
 have sub:cp (upd F3 b (.lst vs)) H3:=fun d u z=>by
  by_cases y:d=b
  · subst y;rw[aJ]at z;cases z;exact hb3
  · rw[aA y]at z;exact g3.sub d u z
 have ra:GN rl (upd F3 b (.lst vs)) H3:=fun r er=>by
  obtain⟨z1,⟨o,z2,z3⟩⟩:=g3.reel r er
  exact⟨by rw[aA (fun y=>h3 (by rw[<- y];exact er))];exact z1,⟨o,z2,z3.mono fsm⟩⟩
 have rb:rl.b.1≠b:=by
  obtain⟨_,⟨o,_,_,_,_,_,z,_⟩⟩:=g3.reel r er
  exact nb3 _ _ z
 refine⟨upd F3 b (.lst vs),[.reel,.d (.list xs),.d (.bool bb)],sub,ra,.cons ⟨r,er,rfl⟩ (.cons (Rep.lst aJ (h5.mono (g3.fs.trans fsm))) (.cons (Rep.mono fsm r3) .nil)),rfl,Dd.mono _ _ _ (fun d ⟨⟨p,q,ed⟩,qn⟩ v F4 H4 g4 r4=>?_) q3⟩
 subst ed
 have f4b:F4 b=some (.lst vs):=g4.fs b _ aJ
 let F5:Hp:=fun d=>if d=b then none else F4 d
 have e5:∀d,d≠b->F5 d=F4 d:=fun d y=>if_neg y
 have e5b:F5 b=none:=if_pos rfl
 have g5:Grow rl F3 H3 F5 H4:=by
  refine⟨g4.same,fun d u z=>?_,fun d u z=>?_,fun d u z=>?_,fun r er=>?_⟩
  · rw[e5 d (nb3 d u z)];exact g4.fs d u (fsm d u z)
  · by_cases y:d=b
    · subst y;rw[e5b]at z;cases z
    · rw[e5 d y]at z;exact g4.sub d u z
  · by_cases y:d=b
    · subst y;rw[e5b,fb3]
    · rw[e5 d y,g4.old d u z,aA y]
  · obtain⟨z1,⟨o,z2,x1,x2,x3,z3,z4,z5⟩⟩:=g4.reel r er
    exact ⟨by by_cases y:r=b
              · subst y;exact e5b
              · rw[e5 r y];exact z1,⟨o,z2,x1,x2,x3,z3,by rw[e5 _ rb];exact z4,z5⟩⟩
 have r5:Rep X.K F5 v (.tuple [.int p,.int q]):=by
  cases r4 with
  | @tup a' us _ sq rs =>
    have ev:=gc (ns:=[p,q]) rs
    subst ev
    refine .tup ?_ (gt [p,q])
    rcases sq with(z|⟨o,z⟩)|z
    · exact .inl (.inl (by rw[e5 _ (fun y=>by subst y;rw[f4b]at z;cases z)];exact z))
    · exact .inl (.inr ⟨o,by rw[e5 _ (fun y=>by subst y;rw[f4b]at z;cases z)];exact z⟩)
    · exact .inr z
 exact ok.nx F₁ H₁ F5 H4 _ _ xss (g3.fs.trans g5.fs) (C.mono (g3.fs.trans g5.fs)) (R.set (g3.trans g5) (w:=.d _) r5 trivial (fun _ z=>by cases z) i) qn
end
theorem VR.here{K:W.Frag}(R:VR K rl F₀ H₀ F H σ ρ)(n:mO ρ):VR K rl F H F H σ ρ:=by
 refine⟨Grow.refl R.sub R.reel,fun i w e=>?_,R.ap,R.np,R.len⟩
 obtain⟨v,h1,h2,_⟩:=R.sl i w e
 have ow:=n i w e
 refine⟨v,h1,h2,?_⟩
 cases w with
 | ml _=>cases ow
 | md _=>cases ow
 | mk _=>cases ow
 | _=>trivial
theorem iy{α β:Type}{R:α->β->Prop}{y:β}:∀{xs:List α},(∀x∈xs,R x y)->I0 R xs (HR xs.length y)
 | [],_=>.nil
 | x::xs,h=>by rw[JP,IP];exact .cons (h x Iw) (iy fun z mz=>h z (Ic _ mz))
section
variable{X:Cx}{rl:RlT}{rest:List Stmt}{u:GA}{tg iter:Expr}{scope:Scope}{fi:En->(List Hy->Prop)->Prop}
noncomputable def Ff(ic:Nat)(fi:En->(List Hy->Prop)->Prop)(fr:List (Option Nat))(u:GA):Gz:=fun Dv ρ=>fi ρ fun xs=>mO ρ/\(∀x,Le (j9 fr ρ) ((j9 fr ρ).set 0 (some (.d x))))/\xs.length<=sizeLine/\∀a,u a ⟨fun _ _=>False,Dv.rt⟩ (HR xs.length []) (ρ.set ic (some (.vv (.ref a))))
theorem Af(ic:Nat){b:Bool}{spos lp:Pos}(hN:X.N.Nodup)(N':List Str)(fr:List (Option Nat))(hc:X.calm=true)(hi:GW X rl tg iter fi)
 (hg:∀y,GZ (Gi X N' scope y) rl tg (rC 0))(hrest:yI X rl rest u)
 (hsw:JU (.ListComp (.List [] lp) [⟨tg,iter,[],0⟩] scope pos) (some (.Name x px)) spos.line X.env=pure b:=by rfl)
 (hix:X.N[ic]?=some x:=by rfl)(hx:Loc X.env.scope x:=by first|exact JM rfl|exact Jg rfl)(hf:X.fn x=true\/X.env.scope.names.lookup x=some .local:=by first|exact .inl rfl|exact .inr rfl)
 (hfr:vB fr N' X.N scope X.env.scope=true:=by rfl)(hsc:wW scope X.env.scope=true:=by rfl)
 (hs:∀x,JG iter X.env x=pure x:=by intro _;rfl):lY X rl (.Assign [.Name x px] (.ListComp (.List [] lp) [⟨tg,iter,[],0⟩] scope pos) spos::rest) (Ff ic fi fr u):=by
 have ht:∀y,vV (Gi X N' scope y) rl [] (fun _ Q=>Q true):=fun _=>dr
 have he:∀y,PV (Gi X N' scope y) rl (.List [] lp) (yL sE):=fun _=>cH ab
 obtain⟨wi,p0,k0⟩:=hi
 obtain⟨T2,p2,k2⟩:=hrest
 refine⟨_,ge (il N' fr hc p0 hfr hsc (fun y=>(Ik (hg y)).1) (fun y=>(Ik (ht y)).1) (fun y=>(Ik (he y)).1) hN hix hx hf hsw hs) p2,fun{F₀ H₀ F H σ ρ} R Dv D ok q=>k0 R _ _ q fun J xs F1 H1 g1 vi ⟨nm,le,hz,q1⟩=>?_⟩
 intro a hD
 have rne:∀c,H1 c=none->rl.a≠some c:=fun c z e=>by obtain⟨o,y⟩:=g1.reel.live e;rw[z]at y;cases y
 have rD:=rne a hD
 have FD:F1 a=none:=g1.sub.free hD
 have gD:Grow rl F1 H1 F1 (upd H1 a (.lst [])):=Grow.laid g1.sub g1.reel hD
 have R1:=R.grow g1
 have n0:mO (j9 fr ρ):=iz
 refine⟨fun i m acc σc Hc=>m=xs.length-i/\i<=xs.length/\∃Fc as,acc=as.map V.ref/\as.length=i/\as.Nodup/\a∉as/\(∀b∈as,H1 b=none/\Hc b=some (.lst [])/\Fc b=none)/\VR X.K rl F1 H1 Fc Hc σc (j9 fr ρ)/\Hc a=some (.lst acc)/\Fc a=none,
  ⟨xs.length,by simp,Ip _,F1,[],rfl,rfl,List.nodup_nil,by simp,by simp,lx R1 gD,aJ,FD⟩,?_⟩
 rintro z i m acc σc Hc ⟨rfl,hi,Fc,as,rfl,hl,nd,na,hin,Rc,hac,fac⟩
 have sH:cp F1 Hc:=Rc.g.fs.trans Rc.sub
 by_cases hlt:i<xs.length
 · have ei:xs[i]?=some xs[i]:=by simp[hlt]
   refine .inr ⟨vi.go i Hc _ ei sH,fun v H' y=>?_⟩
   obtain⟨Fy,gy,rv⟩:=vi.yld i Hc v H' _ Fc ei Rc.g.fs Rc.sub Rc.reel y
   refine(Ik (hg z)).2 (Rc.grow gy) v _ (fun ρ3=>Le (j9 fr ρ) ρ3) _ rv (le _) fun F3 H3 σ3 ρ3 g3 n3 R3 le3=>?_
   refine(Ik (ht z)).2 R3 (fun b=>b=true) _ rfl fun b F4 H4 g4 eb=>?_
   subst eb
   rw[if_pos rfl]
   have R4:=R3.grow g4
   have g34:=(gy.trans g3).trans g4
   refine(Ik (he z)).2 R4 (fun w=>w = .ml []) _ ⟨[],rfl,Ip _,rfl⟩ fun v5 w5 F5 H5 g5 r5 n5 ew=>?_
   subst ew
   obtain⟨b,us,rfl,f5,rb,hb5,rs⟩:=(show jn X.K rl F5 H5 v5 []from r5)
   cases rs
   have hb4:H4 b=none:=n5 b rfl
   have g35:=g34.trans g5
   have hb1:H1 b=none:=(Rc.g.trans g34).freeB hb4
   have ne4:∀c o,Hc c=some o->rl.a≠some c->c≠b:=fun c o e n y=>by have:=g34.same c o e n;rw[y,hb4]at this;cases this
   have nba:a≠b:=ne4 a _ hac rD
   have nb:b∉as:=fun mb=>ne4 b _ (hin b mb).2.1 (rne b hb1) rfl
   refine⟨g35.same a _ hac rD,by rw[HM];omega,xs.length-(i+1),by omega,rfl,hlt,F5,as++[b],by rw[IS];rfl,by rw[Ij,hl];rfl,?_,?_,fun c mc=>?_,((R4.grow g5).le le3).other n0 hD (by rw[g35.old a _ hac];exact fac) rD,aJ,by rw[g35.old a _ hac];exact fac⟩
   · refine List.nodup_append.mpr ⟨nd,by simp,fun c mc d md y=>?_⟩
     cases Jl.mp md
     exact nb (y▸mc)
   · simp only[Jw,Jl,not_or]
     exact⟨na,nba⟩
   · rcases Jw.mp mc with mc|mc
     · obtain⟨x1,x2,x3⟩:=hin c mc
       have nc:c≠a:=fun y=>na (y▸mc)
       exact⟨x1,by rw[aA nc];exact g35.same c _ x2 (rne c x1),by rw[g35.old c _ x2];exact x3⟩
     · cases Jl.mp mc
       exact⟨hb1,by rw[aA nba.symm];exact hb5,f5⟩
 · have e:i=xs.length:=by omega
   subst e
   refine .inl ⟨vi.stop _ Hc (HS _) sH,?_⟩
   have gg:Grow rl F₀ H₀ Fc Hc:=(R.g.trans g1).trans Rc.g
   have Rn:=(R.grow (g1.trans Rc.g)).here nm
   have inn:I0 (Hi X.K rl H₀ Fc Hc Fc) as (HR xs.length []):=by
    rw[<- hl]
    exact iy fun b mb=>by
     obtain⟨x1,x2,x3⟩:=hin b mb
     exact⟨[],x2,x3,rne b x1,(R.g.trans g1).freeB x1,.nil⟩
   exact k2 ⟨gg,hac,rD,nd,na,inn⟩ (Rn.set (Grow.refl Rn.sub Rn.reel) (w:=.vv (.ref a)) rfl trivial (fun _ y=>by cases y) ic) _ D ⟨fun _ _ _ _ _ _ _ _ _ _ y=>Jm y,ok.rt⟩ (q1 a)
end
theorem uS(h:ρ.all (fun o=>match o with|some w=>!w.own|none=>true)=true):mO ρ:=fun i w e=>by
 have:=Jq.mp h _ (JQ e)
 simpa using this
noncomputable def mQ(Dm:MEnds)(xss:List (List Hy)):Fl->Prop
 | .nx ρ=>Dm.nx xss ρ
 | .rt w=>Dm.rt w
 | _=>False
theorem oM{Dm:MEnds}(h:Dm.nx xss ρ):ret (Fl.nx ρ) (mQ Dm xss):=h
theorem Ag{Dm:MEnds}{w:W}(h:Dm.rt w):ret (Fl.rt w) (mQ Dm xss):=h
theorem dQ{t u:GA}{Dm:MEnds}(h:t a {Dm with nx:=u a Dm} xss ρ):Cp t u a Dm xss ρ:=h
theorem yf{x:Hy}{Q:En->Prop}(h:Q (ρ.set i (some (.d x)))):rC i x ρ Q:=h
theorem oN{g:GC}{t:GA}{Dm:MEnds}(h:fi ρ fun ys=>∃J:Nat->List (List Hy)->En->Prop,J 0 xss ρ /\
 (∀i y xss ρ,ys[i]?=some y->J i xss ρ->g y ρ fun ρ2=>t a {Dm with nx:=J (i+1)} xss ρ2)/\∀xss ρ,J ys.length xss ρ->Dm.nx xss ρ):Cq fi g t a Dm xss ρ:=h
theorem lM{Dm:MEnds}(h:Dm.nx xss ρ):x5 a Dm xss ρ:=h
theorem iA{t:Gz}{Dm:MEnds}(h:mS t ρ (mQ Dm xss)):Fe t a Dm xss ρ:=by
 have e:Fe t a Dm xss ρ=mS t ρ (mQ Dm xss):=rfl
 rw[e];exact h
section
variable{X:Cx}{e1:Expr}{f1:TV}{pos dpos q1 q2 q3 q4 q5 q6 q7:Pos}{j1 j2 j3 j4 j5 j6 j7:Nat}
theorem pC{j1 j2 j3 j4 j5 j6 j7}(h1:PV X RlT.no e1 f1) :
 ∃ T,GS X [.Return (some (.Dict [some (.Constant (.str "cells") j1 q1),some (.Constant (.str "at") j2 q2),some (.Constant (.str "left") j3 q3),some (.Constant (.str "turn") j6 q6)] [e1,.Constant (.int 0) j4 q4,.Constant (.int 0) j5 q5,.Constant (.int 0) j7 q7] dpos)) pos] T /\
   ∀ {F H:Hp}{σ:St}{ρ:En},VR X.K RlT.no F H F H σ ρ->∀D:Ends,(f1 ρ fun w=>∃ns:List Int,w = .ml (ns.map .int)/\ns.length<=63) ->
     (∀r n' F' H',H r=none->Grow RlT.no F H F' H'->GN (RlT.at' r n') F' H'->D.rt (.ref r) H')->T D σ H:=by
 obtain⟨g1,pe1,ke1⟩:=h1
 refine⟨_,og (sR (kO (cZ dD pe1 (cZ dD iq (cZ dD iq (cZ dD iq kN)))) rfl rfl (by intro z;cases z) (by show 4<=15;decide))),fun{F H σ ρ} R D q fin=>?_⟩
 intro p hp
 have gp:Grow RlT.no F H F (upd H p (.dK [])):=Grow.laid R.sub R.reel hp
 refine ke1 (R.grow gp) _ _ q fun v1 w1 F3 H3 g3 r1 n1 qc=>?_
 obtain⟨ns,rfl,hl⟩:=qc
 obtain⟨F4,g4,s4,r4⟩:=eP.fz (w:=.ml (ns.map .int)) g3 r1 n1
 have r4:Rep X.K F4 v1 (.list (ns.map .int)):=r4
 cases r4 with
 | @lst a vs _ hc rs =>
   have ev:=gc rs
   subst ev
   have hp5:H3 p=some (.dK []):=g3.same p _ aJ (by simp)
   refine⟨hp5,[(kC,.ref a),(kA,.int 0),(kL,.int 0),(kT,.int 0)],rfl,(by show 4<=15;decide),?_⟩
   rw[mH]
   have f5:F4 p=none:=by rw[g4.old p _ aJ];exact R.sub.free hp
   have g0:Grow RlT.no F H F4 H3:=gp.trans g4
   refine fin p (a,ns) F4 _ hp ⟨fun b o eb _=>by rw[aA (bA eb hp)];exact g0.same b o eb (by simp),g0.fs,fun b o eb=>?_,g0.old,fun _ z=>by cases z⟩ (fun r er=>?_)
   · have:b≠p:=fun z=>by subst z;rw[f5]at eb;cases eb
     rw[aA this]
     exact g0.sub b o eb
   · cases er
     exact⟨f5,⟨_,aJ,0,0,0,rfl,hc,hl,by omega,by omega,by omega⟩⟩
end
end L2.VL
namespace L2
section
variable{prog:Ie}{w:II}{A:Jb}{R:Result->HH->Prop}{s:HH}{elt t1 i1 t2 i2:Expr}{f1 f2:List Expr}{scope:Scope}{pos:Pos}{it acc:HE}{env:Env}
end
section
variable{Y:Cx}{elt t1 i1 t2 i2:Expr}{f1 f2:List Expr}{scope:Scope}{pos:Pos}{wi:TI}{g:TG}{tt:TT}{te:TE}{D:Addr}
end
section
variable{Y:Cx}{elt t1 i1 t2 i2:Expr}{f1 f2:List Expr}{scope:Scope}{pos:Pos}{wj:TI}{g g2:TG}{tt tt2:TT}{te:TE}{D:Addr}
end
section
variable{X:Cx}{elt t1 i1 t2 i2:Expr}{f1 f2:List Expr}{scope:Scope}{pos:Pos}{wi:TI}{wj:CompA->TI}{g g2:CompA->TG}{tt tt2:CompA->TT}{te:CompA->TE}
end
end L2
namespace L2.VL
section
variable{X:Cx}{rl:RlT}{elt t1 i1 t2 i2:Expr}{f1 f2:List Expr}{scope:Scope}{pos:Pos}{fi fj:En->(List Hy->Prop)->Prop}{g g2:GC}{ft ft2:TB}{fe:TV}
end
section
variable{α β:Type}{b:Hy->Mo (Option Hy)}
end
noncomputable def fr(q:Rat):Hy:=.tuple [.int q.num,.int q.den]
theorem fx{r:Rat}(h:fr q=fr r):q=r:=by
 simp only[fr,IB,Il,K9,and_true]at h
 exact Rat.ext h.1 (by omega)
theorem fg(n:Int)(d:Nat)(h:d≠0):vR n d=fr (L0 n d h):=by
 unfold vR fr
 rw[Rat.normalize_eq]
 have g:(Ju n d:Int)=((n.natAbs.gcd d:Nat):Int):=by simp[Ju]
 have gp:0<n.natAbs.gcd d:=Nat.gcd_pos_of_pos_right _ (by omega)
 have e1:n.fdiv (Ju n d)=n / ((n.natAbs.gcd d:Nat):Int):=by rw[g,Lw _ (by omega)]
 have e2:(d:Int).fdiv (Ju n d)=((d / n.natAbs.gcd d:Nat):Int):=by rw[g,Lw _ (by omega),Int.natCast_ediv]
 rw[e1,e2]
theorem gE{a b:Int}(hb:0<b):vR a b=fr ((a:Rat) / (b:Rat)):=by
 obtain⟨d,rfl⟩:=JA (show 0<=b by omega)
 rw[fg a d (by omega)]
 congr 1
 have:(L0 a d (by omega))=mkRat a d:=by rw[Rat.normalize_eq_mkRat]
 rw[this,Rat.mkRat_eq_div]
 rfl
theorem yn(q r:Rat):vR (q.num*r.den+r.num*q.den) (q.den*r.den)=fr (q+r):=by
 have:=fg (q.num*r.den+r.num*q.den) (q.den*r.den) (Mj q.den_nz r.den_nz)
 rw[KU]at this
 rw[this,Rat.add_def]
theorem yl(q r:Rat):vR (q.num*r.den-r.num*q.den) (q.den*r.den)=fr (q-r):=by
 have:=fg (q.num*r.den-r.num*q.den) (q.den*r.den) (Mj q.den_nz r.den_nz)
 rw[KU]at this
 rw[this,Rat.sub_def]
theorem ym(q r:Rat):vR (q.num*r.num) (q.den*r.den)=fr (q*r):=by
 have:=fg (q.num*r.num) (q.den*r.den) (Mj q.den_nz r.den_nz)
 rw[KU]at this
 rw[this,Rat.mul_def]
theorem vA(q r:Rat):decide (q.num*r.den<r.num*q.den)=decide (q<r):=by
 rw[decide_eq_decide]
 exact(Rat.lt_iff q r).symm
noncomputable def EN(n:Nat)(q:Rat):Prop:=q.num.natAbs<2^n/\q.den<2^n
theorem EN.mono(h:EN n q)(hm:n<=m):EN m q:=⟨HJ h.1 (HP (by decide) hm),HJ h.2 (HP (by decide) hm)⟩
theorem p7{i:Int}(h:i.natAbs<2^2000):Ht i:=HJ h (HP (by decide) (by decide))
theorem EN.bn(h:EN 2000 q):Ht q.num:=p7 h.1
theorem EN.bd(h:EN 2000 q):Ht (q.den:Int):=p7 (by rw[Iq];exact h.2)
theorem den_pos(q r:Rat):(0:Int)<(q.den:Int)*(r.den:Int):=Int.mul_pos (by have:=q.den_nz;omega) (by have:=r.den_nz;omega)
theorem gK{r:Rat}(h:EN 2000 q)(h':EN 2000 r):((q.den:Int)*(r.den:Int)).natAbs<2^8000:=by
 rw[J4,Iq,Iq]
 have:q.den*r.den<2^2000*2^2000:=Nat.mul_lt_mul'' h.2 h'.2
 rw[<- Nat.pow_add]at this
 exact HJ this (HP (by decide) (by decide))
inductive Sd where
 | to (t:Rat)|from(a b:Rat)|round (a b:Rat)
noncomputable def Sd.last:Sd->Rat
 | .to t=>t | .from _ b=>b | .round _ b=>b
noncomputable def Sd.first:Sd->Rat
 | .to t=>t | .from a _=>a | .round a _=>a
noncomputable def EA:Sd->Hy
 | .to t=>.tuple [.str "to", fr t]
 | .from a b=>.tuple [.str "from", fr a,fr b]
 | .round a b=>.tuple [.str "round", fr a,fr b]
noncomputable def mx(q r:Rat):Rat:=if q<r then r else q
noncomputable def mn(q r:Rat):Rat:=if q<r then q else r
noncomputable def szQ:Sd->Rat
 | .to t=>mx t 0
 | .from a b=>mx (mx b 0-mx a 0) 0
 | .round a b=>mn (1+(mx b 0-mx a 0)) 1
theorem fr0:pr 0 1=fr 0:=rfl
theorem fr1:pr 1 1=fr 1:=rfl
theorem Dh:EN 60 0:=⟨by decide,by decide⟩
theorem Dg:EN 60 1:=⟨by decide,by decide⟩
theorem dZ{r:Rat}(h:EN n q)(h':EN n r):EN n (mx q r):=by unfold mx;split<;>assumption
theorem Ah{r:Rat}(h:EN n q)(h':EN n r):EN n (mn q r):=by unfold mn;split<;>assumption
theorem kS{n:Int}{d k:Nat}(hd:d≠0)(h1:n.natAbs<2^k)(h2:d<2^k):EN k (L0 n d hd):=by
 rw[Rat.normalize_eq]
 refine⟨?_,Kl (Nat.div_le_self _ _) h2⟩
 show(n / ((n.natAbs.gcd d:Nat):Int)).natAbs<2^k
 have hdv:((n.natAbs.gcd d:Nat):Int)∣n:=Int.ofNat_dvd_left.mpr (Nat.gcd_dvd_left _ _)
 rw[Int.natAbs_ediv_of_dvd hdv,Iq]
 exact Kl (Nat.div_le_self _ _) h1
theorem ci{a b:Nat}(h1:a<2^m)(h2:b<2^n):a*b<2^(m+n):=by
 rw[Nat.pow_add]
 exact Nat.mul_lt_mul'' h1 h2
theorem sV{r:Rat}(h:EN m q)(h':EN n r):EN (m+n) (q*r):=by
 rw[Rat.mul_def]
 refine kS _ ?_ (ci h.2 h'.2)
 rw[J4]
 exact ci h.1 h'.1
theorem qf{r:Rat}(h:EN m q)(h':EN n r):EN (m+n+1) (q+r):=by
 rw[Rat.add_def]
 have a1:=ci h.1 h'.2
 have a2:=ci h'.1 h.2
 rw[Nat.add_comm n m]at a2
 have a3:=ci h.2 h'.2
 refine kS _ ?_ (HJ a3 (HP (by decide) (by omega)))
 have t:=Int.natAbs_add_le (q.num*r.den) (r.num*q.den)
 rw[J4,J4,Iq,Iq]at t
 rw[MX]
 omega
theorem eW{r:Rat}(h:EN m q)(h':EN n r):EN (m+n+1) (q-r):=by
 rw[Rat.sub_eq_add_neg]
 exact qf h ⟨by rw[Rat.neg_num,Int.natAbs_neg];exact h'.1,h'.2⟩
theorem pD(a b:Str):HC (.str a) (.str b)=decide (a=b):=by
 rw[yo]
 by_cases h:a=b
 · simp[h]
 · rw[decide_eq_false h];simp[h]
theorem EN.up(h:EN 60 q):EN 2000 q:=h.mono (by decide)
noncomputable def FS(x y:Rat)(b:Bool):Bool:=if b then !decide (y<x)else decide (x<y)
noncomputable def FC(w:Str):Prop:=w = "half" \/ w = "shut" \/ w = "open"
noncomputable def Fh(s:Sd)(w:Str)(x:Rat):Bool :=
 let ahead:=FS x s.last (decide (w = "shut"))
 let behind:=FS s.first x (!decide (w = "open"))
 match s with
 | .to _=>ahead
 | .from _ _=>behind&&ahead
 | .round _ _=>behind||ahead
noncomputable def jU(qs:List Rat):Rat:=qs.foldl (· * ·) 1
noncomputable def jq(ss:List Sd):Hy:=.tuple (ss.map EA)
noncomputable def cf(ss:List Sd):Rat:=jU (ss.map szQ)
noncomputable def ET(qs:List Rat):Hy:=.tuple (qs.map fr)
noncomputable def AN(n:Nat)(qs:List Rat):Prop:=qs.length=n/\∀q∈qs,EN 60 q
noncomputable def Fz(qs:List Rat)(ss:List Sd)(w:Str):Bool:=(qs.zip ss).all fun p=>Fh p.2 w p.1
noncomputable def ptsQ(ps:List (List Rat)):Hy:=.tuple (ps.map ET)
noncomputable def qi(n:Nat)(ps:List (List Rat)):Prop:=1<=ps.length/\ps.length<=40/\∀p∈ps,AN n p
noncomputable def cntN(ps:List (List Rat))(ss:List Sd)(w:Str):Nat:=(ps.filter fun p=>Fz p ss w).length
theorem at_last2{α:Type}(x y:α):L2.atI [x,y] (-1)=some y:=rfl
theorem at_last3{α:Type}(x y z:α):L2.atI [x,y,z] (-1)=some z:=rfl
theorem iG{α β:Type}(f:α->Hy)(g:β->Hy):∀(xs:List α)(ys:List β),lZ (xs.map f) (ys.map g)=(xs.zip ys).map fun p=>.tuple [f p.1,g p.2]
 | [],_=>by simp[lZ]
 | _::_,[]=>by simp[lZ]
 | x::xs,y::ys=>by
   show Jc [f x,g y]::lZ (xs.map f) (ys.map g)=_
   rw[iG f g xs ys]
   rfl
theorem tj{α:Type}(p:α->Bool)(f:α->Hy):∀xs:List α,(xs.filterMap fun x=>if p x=true then some (f x)else none).length=(xs.filter p).length
 | []=>rfl
 | x::xs=>by
   have ih:=tj p f xs
   cases h:p x<;>simp[h,ih]
theorem kY:∀qs:List Rat,Ih (qs.map fr)=true
 | []=>rfl
 | q::qs=>by simp[Ih,IG,fr,kY qs]
theorem lg:∀qs:List Rat,IE (qs.map fr)<=3
 | []=>by simp[IE]
 | q::qs=>by
   have:=lg qs
   simp[IE,JB,fr]at this ⊢
   omega
theorem ii(qs:List Rat):HI (.list (qs.map fr))=true:=by
 have:=lg qs
 simp[HI,IG,JB,kY]
 omega
theorem at_last1{α:Type}(x:α):L2.atI [x] (-1)=some x:=rfl
theorem cX{r:Rat}:fr q=fr r↔q=r:=⟨fx,fun h=>by rw[h]⟩
theorem bw{s t:Sd}:EA s=EA t↔s=t:=by
 constructor
 · intro h
   have n1:¬(Hw "from" = Hw "round"):=by decide +kernel
   cases s<;>cases t<;>simp[EA,cX,n1,Mw n1]at h ⊢ <;> first|exact h|exact(n1 h.1.symm).elim|exact(n1 h.1).elim
 · rintro rfl;rfl
theorem bx{a b:List Rat}:ET a=ET b↔a=b:=by
 unfold ET
 rw[IB,da fun _ _=>cX]
theorem aO{a b:List Sd}:jq a=jq b↔a=b:=by
 unfold jq
 rw[IB,da fun _ _=>bw]
theorem aN{a b:List (List Rat)}:ptsQ a=ptsQ b↔a=b:=by
 unfold ptsQ
 rw[IB,da fun _ _=>bx]
theorem bE{a b:List Rat}:a.map fr=b.map fr↔a=b:=da fun _ _=>cX
theorem item_fr0(q:Rat):itemAt (fr q) 0=some (.int q.num):=rfl
theorem item_fr1(q:Rat):itemAt (fr q) 1=some (.int q.den):=rfl
theorem tupD_pt(a:List Rat):tupD (ET a)=some (a.map fr):=rfl
theorem seqD_pt(a:List Rat):fU (ET a)=some (a.map fr):=rfl
theorem lenD_pt(a:List Rat):mT (ET a)=some a.length:=by show some (a.map fr).length=_;rw[HM]
theorem item_pt(a:List Rat)(i:Int):itemAt (ET a) i=(atI a i).map fr:=bF _ _ _
theorem tupD_bx(a:List Sd):tupD (jq a)=some (a.map EA):=rfl
theorem seqD_bx(a:List Sd):fU (jq a)=some (a.map EA):=rfl
theorem lenD_bx(a:List Sd):mT (jq a)=some a.length:=by show some (a.map EA).length=_;rw[HM]
theorem item_bx(a:List Sd)(i:Int):itemAt (jq a) i=(atI a i).map EA:=bF _ _ _
theorem tupD_ps(a:List (List Rat)):tupD (ptsQ a)=some (a.map ET):=rfl
theorem seqD_ps(a:List (List Rat)):fU (ptsQ a)=some (a.map ET):=rfl
theorem lenD_ps(a:List (List Rat)):mT (ptsQ a)=some a.length:=by show some (a.map ET).length=_;rw[HM]
theorem item_ps(a:List (List Rat))(i:Int):itemAt (ptsQ a) i=(atI a i).map ET:=bF _ _ _
theorem kind_pt(a:List Rat):d0 (ET a)=d0 (.tuple []):=rfl
theorem kind_bx(a:List Sd):d0 (jq a)=d0 (.tuple []):=rfl
noncomputable def qd(a b:Int):Rat:=(a:Rat) / (b:Rat)
theorem sW{a b:Int}(hb:0<b):Jc [.int (a.fdiv (Ju a b)),.int (b.fdiv (Ju a b))]=fr (qd a b):=gE hb
theorem i9(q:Rat):qd q.num q.den=q:=by
 unfold qd
 have:=Rat.mkRat_self q
 rw[Rat.mkRat_eq_div]at this
 exact this
theorem xo(q r:Rat):qd (q.num*r.den+r.num*q.den) (q.den*r.den)=q+r:=fx (by rw[<- yn];exact(gE (den_pos q r)).symm)
theorem n6(q r:Rat):qd (q.num*r.den-r.num*q.den) (q.den*r.den)=q-r:=fx (by rw[<- yl];exact(gE (den_pos q r)).symm)
theorem sO(q r:Rat):qd (q.num*r.num) (q.den*r.den)=q*r:=fx (by rw[<- ym];exact(gE (den_pos q r)).symm)
theorem AE(q:Rat):(0:Int)<(q.den:Int):=by have:=q.den_nz;omega
theorem n8{a b:Int}{k:Nat}(hb:0<b)(h1:a.natAbs<2^k)(h2:b.natAbs<2^k):EN k (qd a b):=by
 obtain⟨d,rfl⟩:=JA (show 0<=b by omega)
 have hd:d≠0:=by omega
 have e:qd a d=L0 a d hd:=fx (by rw[<- fg,gE (by omega)];rfl)
 rw[e]
 exact kS _ h1 (by simpa using h2)
noncomputable def sg(x y:Rat):Int:=x.num*y.den-y.num*x.den
theorem oW:∀ps:List (List Rat),Ih (ps.map ET)=true
 | []=>rfl
 | p::ps=>by simp[Ih,IG,ET,kY,oW ps]
theorem pF:∀ps:List (List Rat),IE (ps.map ET)<=5
 | []=>by simp[IE]
 | p::ps=>by
   have:=pF ps
   have:=lg p
   simp[IE,JB,ET]at *
   omega
theorem mh(ps:List (List Rat)):HI (.list (ps.map ET))=true:=by
 have:=pF ps
 simp[HI,IG,JB,oW]
 omega
theorem Gp(x y z:α)(r:List α):L2.atI (x::y::z::r) 2=some z:=by
 rw[show(2:Int)=((2:Nat):Int)from rfl]
 exact bG rfl
theorem n_{a b:Int}(hb:0<b)(h:0<=a):0<=qd a b:=by
 unfold qd
 have h1:(0:Rat)<=(a:Rat):=by exact_mod_cast h
 have h2:(0:Rat)<(b:Rat):=by exact_mod_cast hb
 rw[Kp]
 exact LH h1 (Kq (Rat.inv_pos.mpr h2))
theorem sP{a b:Int}(hb:0<b)(h:a<b):qd a b<1:=by
 unfold qd
 have h1:(a:Rat)<(b:Rat):=by exact_mod_cast h
 have h2:(0:Rat)<(b:Rat):=by exact_mod_cast hb
 exact(Rat.div_lt_iff h2).mpr (by rw[Rat.one_mul];exact h1)
noncomputable def Hv:=Hz @item_fr0 (Hz @item_fr1 (Hz @tupD_pt (Hz @seqD_pt (Hz @lenD_pt (Hz @item_pt (Hz @tupD_bx (Hz @seqD_bx (Hz @lenD_bx (Hz @item_bx (Hz @tupD_ps (Hz @seqD_ps (Hz @lenD_ps (Hz @item_ps (Hz @at_last1 (Hz @at_last2 (Hz @at_last3 (Hz @kind_pt (Hz @kind_bx (Hz @fr0 (@fr1))))))))))))))))))))
theorem yp(a b:Rat):HC (fr a) (fr b)=decide (a=b):=by
 unfold fr
 simp only[HC,Hy.eqvAll]
 by_cases h:a=b
 · subst h;simp[HC]
 · have:¬(a.num=b.num/\a.den=b.den):=fun z=>h (Rat.ext z.1 z.2)
   simp only[h,decide_false,Bool.and_true,HC]
   rw[Bool.and_eq_false_iff]
   by_cases h1:a.num=b.num
   · right
     have:a.den≠b.den:=fun z=>this ⟨h1,z⟩
     simp;omega
   · left;simpa using h1
noncomputable def tv(b:Int)(ds:List Int):Int:=ds.foldl (fun t d=>t*b+d) 0
theorem sM{b:Int}(h:0<b):(b:Rat)≠0:=by
 intro z
 have:b=0:=by exact_mod_cast z
 omega
noncomputable def ix(p:List Int)(f:Int):Int:=(p.idxOf f:Int)
theorem qM{a c:Int}(hc:0<c):(qd a c).num*c=a*(qd a c).den:=by
 have h1:=sM hc
 have h2:=sM (AE (qd a c))
 have e:qd (qd a c).num (qd a c).den=qd a c:=i9 _
 have e':((qd a c).num:Rat) / (((qd a c).den:Int):Rat)=(a:Rat) / (c:Rat):=e
 generalize (qd a c).num=x at *
 generalize ((qd a c).den:Int)=y at *
 have:(x:Rat)*(c:Rat)=(a:Rat)*(y:Rat):=by grind
 exact_mod_cast this
noncomputable def Fx(b:Int)(N:Nat)(q:Rat):Prop:=∃(T:Int)(k:Nat),q=qd T (b^k)/\0<=T/\T<b^k/\b^k<2^N
end L2.VL
variable{ss:List L2.VL.Sd}
namespace L2
section
variable{X:Cx}
theorem pd{ns:List Int}{its:List HE}(r:dq (ns.map V.int) its){v:HE}(e:its[i]?=some v):∃t,v = .int (ns.getD i 0) t:=by
 have hl:=r.length
 rw[HM]at hl
 have hi:i<ns.length:=by have:=(H0.mp e).1;omega
 have hb:(ns.map V.int)[i]?=some (.int ns[i]):=by simp[hi]
 obtain⟨u,hu,ru⟩:=r.get hb
 rw[e]at hu
 cases hu
 have:ns.getD i 0=ns[i]:=by simp[M7,hi]
 rw[this]
 exact ru
end
end L2
namespace L2.VL
section
variable{X:Cx}{rl:RlT}{a:Expr}{fs:Gy}{pos p:Pos}
noncomputable def rm:Hy->Option (List Int)
 | .list xs=>j8 xs
 | _=>none
theorem yT{ns:List Int}:rm d=some ns↔d = .list (ns.map .int):=by
 constructor
 · intro h
   cases d with
   | list xs=>rw[lR h]
   | _=>cases h
 · rintro rfl;exact fv _
end
open PySem PySem.Spec
noncomputable def lim(c:List Rat):List Rat:=0::(c++[1])
theorem getD_mem{xs:List α}{k:Nat}{d:α}(h:k<xs.length):xs.getD k d∈xs:=by
 rw[Ig,HZ h];exact Jr h
theorem EQ:EN 1 0:=⟨by decide,by decide⟩
theorem EO:EN 1 1:=⟨by decide,by decide⟩
theorem wD(xs:List Int):Jc (xs.map Io)=wE xs:=rfl
theorem vt{xs:List α}{k:Nat}{d:α}(h:k<xs.length):xs.getD k d=xs[k]:=by rw[Ig,HZ h];rfl
open PySem PySem.Spec
noncomputable def GO(s:Nat)(ps:List (List Rat)):Prop:=∀p∈ps,p.length=s/\∀q∈p,EN 20 q/\0<=q/\q<1
noncomputable def Ez(p es:List Rat):Bool:=(p.zip es).all fun z=>!decide (z.2<z.1)
noncomputable def E4(p es:List Rat):Bool:=(p.zip es).all fun z=>decide (z.1<z.2)
noncomputable def Er(es:List Rat):Rat:=jU (es.map fun e=>mx e 0)
noncomputable def Ey(ps:List (List Rat))(es:List Rat):Nat:=(ps.filter fun p=>Ez p es).length
noncomputable def EZ(ps:List (List Rat))(es:List Rat):Nat:=(ps.filter fun p=>E4 p es).length
noncomputable def ov(ps:List (List Rat))(es:List Rat):Rat:=qd (Ey ps es) ps.length-Er es
noncomputable def la(ps:List (List Rat))(es:List Rat):Rat:=Er es-qd (EZ ps es) ps.length
noncomputable def yJ(n:Nat)(ps:List (List Rat))(es:List Rat):Prop:=es.length=n/\∀i,i<n->(es.getD i 0=1\/∃p∈ps,es.getD i 0=p.getD i 0)
theorem xU{e:Rat}(h:EN 20 e):EN 20 (mx e 0):=dZ h (EQ.mono (by decide))
theorem sT:∀(qs:List Rat)(k:Nat)(a:Rat),EN k a->(∀q∈qs,EN 20 q)->EN (k+20*qs.length) (qs.foldl (· * ·) a)
 | [],k,a,h,_=>h
 | q::qs,k,a,h,hq=>by
   have:=sT qs (k+20) (a*q) (sV h (hq q Iw)) fun r hr=>hq r (Ic _ hr)
   rw[Kb]
   refine this.mono ?_
   rw[JP];omega
theorem wO{es:List Rat}(hl:es.length<=4)(h:∀e∈es,EN 20 e):EN 81 (Er es):=by
 refine(sT _ 1 1 EO fun q mq=>?_).mono (by rw[HM];omega)
 obtain⟨e,me,rfl⟩:=IM.mp mq
 exact xU (h e me)
noncomputable def yA{ps:List (List Rat)}(h1:1<=ps.length)(h:ps.length<=60)(f:List Rat->Bool):EN 60 (qd (ps.filter f).length ps.length) :=
 n8 (by omega) (by have:=Kr f ps;omega) (by omega)
theorem AH(hp:GO n ps){es:List Rat}(h:yJ n ps es):∀e∈es,EN 20 e/\0<=e/\e<=1:=by
 intro e me
 obtain⟨i,hi,rfl⟩:=Lo me
 have hb:=h.2 i (by have:=h.1;omega)
 rw[vt hi]at hb
 rcases hb with hb|⟨p,mp,hb⟩
 · rw[hb];exact⟨EO.mono (by decide),by decide,by decide⟩
 · have:=(hp p mp).2 _ (getD_mem (d:=0) (show i<p.length by rw[(hp p mp).1];have:=h.1;omega))
   rw[hb];exact⟨this.1,this.2.1,Kq this.2.2⟩
theorem mF(hp:GO n ps)(n4:n<=4)(h1:1<=ps.length)(h:ps.length<=60){es:List Rat}(b:yJ n ps es):EN 150 (ov ps es)/\EN 150 (la ps es):=by
 have s:=wO (by rw[b.1];exact n4) fun e me=>(AH hp b e me).1
 exact⟨(eW (yA h1 h fun p=>Ez p es) s).mono (by decide),(eW s (yA h1 h fun p=>E4 p es)).mono (by decide)⟩
end L2.VL
namespace L2.ZP
section
variable{prog:Ie}{w:II}{A:Jb}{E:HE->HH->Prop}{s:HH}{z it a:Addr}{k:Nat}{xs:Array HE}{x p:HE}{b:Bool}
abbrev e2(h:Heap)(b:Bool)(a:Addr):Heap:=(y1 h b a).push {cls:=.type "enumerate", data:=.fields #[.none,.bool false,.ref h.objs.size,M4 0,.none,.none]}
theorem rS(b:Bool)(a:Addr)(o:Obj)(xs:Array HE)(hr:∀h:Heap,h.get? a=some o->GH b h a xs) :
 Meets (Builtin.«enumerate.__new__» ⟨[.type "enumerate", .ref a],[]⟩) (fun _ R s=>s.heap.get? a=some o/\R (.ok (.ret (.ref (y1 s.heap b a).objs.size))) {s with heap:=e2 s.heap b a}) :=
 .of_wp fun prog w A R s h=>by
  obtain⟨hp,g,d,tk,os⟩:=s
  obtain⟨l0,h⟩:=h
  have hsub:=sub_enumerate
  have k1:GH b (M_ ⟨hp,g,d,tk,os⟩) a xs:=hr _ l0
  wp_walk using KL l0
  refine wpAny_stack_any fun st=>HQ ?_
  split
  · rename_i c _ _ _ _ _
    cases(c==HE.type "enumerate")<;>(wp_walk using KL l0,rh k1;exact⟨_,rfl,h⟩)
  · wp_walk using KL l0,rh k1
    exact⟨_,rfl,h⟩
theorem GH.obj(q:GH b h a xs):∃o,h.get? a=some o/\∀h':Heap,h'.get? a=some o->GH b h' a xs:=by
 cases b with
 | true=>obtain⟨o,h1,r⟩:=(show h.IsTuple a xs from q);exact⟨o,h1,fun h' e=>⟨o,e,r⟩⟩
 | false=>obtain⟨o,h1,r⟩:=(show h.IsList a xs from q);exact⟨o,h1,fun h' e=>⟨o,e,r⟩⟩
theorem pZ(q1:GH b s.heap a xs)
 (done:∀g,Na g (s.heap.objs.size+1) s.heap.objs.size 0 .none->Hg g s.heap.objs.size a xs 0->g.objs.size=s.heap.objs.size+2->(∀c o,s.heap.get? c=some o->g.get? c=some o)->Q (.ref (s.heap.objs.size+1)) {s with heap:=g}) :
 Im (IH prog w) A (call (.type "enumerate") [.ref a]) Q E s:=by
 obtain⟨o,h1,hr⟩:=q1.obj
 refine callType_new F.called_enumerate (by decide) (F.typeCall_enumerate_1 _) (F.newCall_enumerate_1 _) (fun u=>F.args_object_init_2 u _) F.entry_enumerate_new (rS b a o xs hr) ⟨h1,?_⟩
 have n1:(y1 s.heap b a).objs.size=s.heap.objs.size+1:=Ji ..
 have n2:(e2 s.heap b a).objs.size=s.heap.objs.size+2:=by rw[Ji,n1]
 have pu:∀{h:Heap}{o u:Obj}{c:Addr},h.get? c=some u->(h.push o).get? c=some u:=fun e=>HK _ e
 have kp:∀c o,s.heap.get? c=some o->(e2 s.heap b a).get? c=some o:=fun c o e=>pu (pu e)
 have f2:(e2 s.heap b a).get? (y1 s.heap b a).objs.size=some _:=HW _ rfl
 have f1:(e2 s.heap b a).get? s.heap.objs.size=some _:=pu (HW _ rfl)
 show _/\_
 rw[n1]at f2
 rw[n1]
 have mk:Hg (e2 s.heap b a) s.heap.objs.size a xs 0:=by
  have e:=hr _ (kp _ _ h1)
  cases b with
  | true=>exact .inr ⟨⟨_,f1,rfl,rfl⟩,e⟩
  | false=>exact .inl ⟨⟨_,f1,rfl,rfl⟩,e⟩
 exact⟨⟨_,f2,rfl⟩,done _ f2 mk n2 kp⟩
theorem vG(oz:Na s.heap z it k p)(s1:Hg s.heap it a xs k)(ex:xs[k]?=some x)(ne:z≠it)(nz:a≠z)(ni:a≠it)
 (done:∀g,IsEnumOut g z it ((k:Int)+1) x s.heap.objs.size->Hg g it a xs (k+1)->g.get? s.heap.objs.size=some {cls:=.type "tuple", data:=.seq #[.int k s.toks,x]}->g.objs.size=s.heap.objs.size+1 ->
  (∀b o,b≠z->b≠it->s.heap.get? b=some o->g.get? b=some o)->Q (.ref s.heap.objs.size) {s with heap:=g,toks:=s.toks+1}) :
 Im (IH prog w) A (Builtin.«enumerate.__next__» ⟨[.ref z],[]⟩) (fun r s'=>∃u,r = .done (.ret u)/\Q u s') E s:=by
 show Im _ _ (do let c <- M9 (.ref z) 2;_) _ _ _
 refine HB (IR oz rfl (x:=.ref it) rfl ?_)
 refine HB (s1.item ni ex fun g1 s1a b1=>?_)
 have z1:Na g1 z it k p:=b1.extBut _ _ ne oz
 show Im _ _ (do let c <- M9 (.ref z) 3;_) _ _ _
 refine HB (IR z1 rfl (x:=M4 k) rfl ?_)
 show Im _ _ (do let c <- M9 (.ref z) 4;_) _ _ _
 refine HB (IR z1 rfl (x:=.none) rfl ?_)
 show Im _ _ (do let c <- mkInt k;_) _ _ _
 refine HB (wpAny_mkInt ?_)
 show Im _ _ (do setField (.ref z) 3 (M4 ((k:Int)+1));_) _ _ _
 refine HB (IU z1 (by simp) fun g2 z2 b2=>?_)
 have z2:Na g2 z it ((k:Int)+1) p:=z2
 show Im _ _ (do setField (.ref z) 4 .none;_) _ _ _
 refine HB (IU z2 (by simp) fun g3 z3 b3=>?_)
 have z3:Na g3 z it ((k:Int)+1) p:=z3
 have size:g3.objs.size=s.heap.objs.size:=by rw[b3.1,b2.1,b1.1]
 have s3:Hg g3 it a xs (k+1):=(s1a.keep (SameBut.keep b2 ne.symm) (SameBut.keep b2 nz)).keep (SameBut.keep b3 ne.symm) (SameBut.keep b3 nz)
 have k3:∀b o,b≠z->b≠it->s.heap.get? b=some o->g3.get? b=some o:=fun b o n1 n2 e=>b3.extBut _ _ n1 (b2.extBut _ _ n1 (b1.extBut _ _ n2 e))
 have zl:z<g3.objs.size:=HN z3
 show Im _ _ (do let c <- newTuple [.int k s.toks,x];_) _ _ _
 refine HB (wpAny_newTuple ?_)
 have z4:Na (g3.push {cls:=.type "tuple", data:=.seq #[.int k s.toks,x]}) z it ((k:Int)+1) p:=HK _ z3
 show Im _ _ (do let c <- IF (.ref z);_) _ _ _
 refine HB ?_
 unfold IF
 refine HB (IR z4 rfl (x:=KG) rfl (HQ ?_))
 simp only[if_true]
 refine HB (Lf (HB (IR z4 rfl (x:=p) rfl (HB (IU z4 (by simp) fun g5 z5 b5=>?_)))))
 have z5:Na g5 z it ((k:Int)+1) x:=z5
 show Im _ _ (do Jo (.ref z) (.ref g3.objs.size);_) _ _ _
 refine HB ?_
 unfold Jo
 refine HB (IU z5 (by simp) fun g6 z6 b6=>?_)
 have z6:IsEnumOut g6 z it ((k:Int)+1) x g3.objs.size:=z6
 refine IU z6 (by simp) fun g7 z7 b7=>?_
 have z7:IsEnumOut g7 z it ((k:Int)+1) x g3.objs.size:=z7
 have up:∀b o,b≠z->g3.get? b=some o->g7.get? b=some o:=fun b o n e=>b7.extBut _ _ n (b6.extBut _ _ n (b5.extBut _ _ n (HK _ e)))
 have t7:g7.get? g3.objs.size=some {cls:=.type "tuple", data:=.seq #[.int k s.toks,x]} :=
  b7.extBut _ _ (Km zl) (b6.extBut _ _ (Km zl) (b5.extBut _ _ (Km zl) (HW _ rfl)))
 have l7:g7.objs.size=g3.objs.size+1:=by rw[b7.1,b6.1,b5.1,Ji]
 rw[size]at z7 t7 l7
 refine HB (Mz (HQ ⟨_,rfl,?_⟩))
 show Q (.ref g3.objs.size) _
 rw[size]
 exact done g7 z7 (s3.keep (fun o e=>up _ o ne.symm e) fun o e=>up _ o nz e) t7 l7 fun b o n1 n2 e=>up b o n1 (k3 b o n1 n2 e)
end
end L2.ZP
namespace L2
open PySem PySem.Spec PyProof.Rows L2.ZP
noncomputable def Hf(K:W.Frag)(b:Bool)(a:Addr):It :=
 ⟨fun i H=>∃xs x,GG b K H a xs/\xs[i]?=some x,
  fun i H v H'=>∃x p,(∀xs,GG b K H a xs->xs[i]?=some x)/\H p=none/\v = .ref p/\H'=upd H p (.tup [.int i,x]),
  fun i H=>∃xs,GG b K H a xs/\xs.length<=i⟩
noncomputable def ES(b:Bool)(z it a:Addr)(i:Nat)(h:Heap):Prop:=(∃p,Na h z it i p)/\Hh b h it a i
theorem nn{K:W.Frag}{elts:List Expr}{kt:Nat}{pt:Pos}(b:Bool)(z it a:Addr)(ne:z≠it)(nz:a≠z)(ni:a≠it) :
 Turn P w K (.Tuple elts kt pt) (Hf K b a) [z,it] z (ES b z it a) where
 mem:=by simp
 obj:=fun i h ⟨⟨p,h1⟩,h4⟩ c hb=>by
  simp at hb
  rcases hb with rfl|rfl
  · exact⟨_,h1,fun v c=>by cases c⟩
  · exact h4.obj
 keep:=fun i h h' ⟨⟨p,h1⟩,h4⟩ k=>⟨⟨p,k z (by simp) _ h1⟩,h4.keep fun o e=>k it (by simp) o e⟩
 item:=by
  intro X hP hw hK hc i pins s σ H E I hf st hg
  subst hP hw hK
  obtain⟨⟨p,h1⟩,h4⟩:=st
  obtain⟨xs,x,q1,ex⟩:=hg
  obtain⟨its,r1,t1⟩:=I.sqB q1
  obtain⟨u,hu,ru⟩:=r1.get ex
  have ty:s.TypeIs (.ref z) "enumerate" := ⟨_,h1,rfl⟩
  unfold Nh
  refine HB (LZ (IL (name:=Hw "__next__") ty F.slot_enumerate_next (JO F.slot_enumerate_next ty F.entry_enumerate_next
   (vG h1 (h4.it1 t1) (by simpa using hu) ne nz ni fun g e1 e3 e5 e6 e7=>HQ ?_) (F.args_enumerate_next_1 _))))
  have hz:s.heap.objs.size≠z:=Km (HN h1)
  refine⟨.ref s.heap.objs.size,rfl,wpAny_letOwnedTupleGo_enum e1 fun g' f1 fb=>?_⟩
  have hp:H s.heap.objs.size=none:=I.hok.fresh (HS _)
  have I1:Inv X pins σ (upd H s.heap.objs.size (.tup [.int i,x])) {s with heap:=s.heap.push {cls:=.type "tuple", data:=.seq [.int i s.toks,u].toArray},toks:=s.toks+1} :=
   I.laid (t':=s.toks+1) (o:=.tup [.int i,x]) (fun b ob e=>HK _ e) (HS _) ⟨(by show 2<=sizeLine;decide),[.int i s.toks,u],.cons ⟨_,rfl⟩ (.cons ru .nil),qh.new _ _⟩
  have ne':∀b∈[z,it],b≠s.heap.objs.size:=fun b hb e=>by
   simp at hb
   rcases hb with rfl|rfl
   · exact hz e.symm
   · obtain⟨o,ho,_⟩:=h4.obj
     exact absurd (HN ho) (by rw[e];exact Jf _)
  have kg:∀b o,b∉[z,it]->(s.heap.push {cls:=.type "tuple", data:=.seq [.int i s.toks,u].toArray}).get? b=some o->g'.get? b=some o:=fun b o hb e=>by
   simp at hb
   obtain⟨n1,n2⟩:=hb
   refine fb.extBut _ _ n1 ?_
   by_cases hbn:b=s.heap.objs.size
   · subst hbn
     rw[HW _ rfl]at e
     cases e
     exact e5
   · exact e7 b o n1 n2 (by rw[Heap.get?_push_ne _ _ _ hbn]at e;exact e)
  have fp1:∀b∈[z,it],mP X pins (upd H s.heap.objs.size (.tup [.int i,x])) b:=fun b hb=>by
   obtain⟨f0,fr⟩:=hf b hb
   exact⟨by rw[aA (ne' b hb)];exact f0,fr⟩
  have I2:Inv X pins σ (upd H s.heap.objs.size (.tup [.int i,x])) {s with heap:=g',toks:=s.toks+1}:=I1.turnedL (t':=s.toks+1) kg fp1
  have k8:∀b o,b≠z->g.get? b=some o->g'.get? b=some o:=fun b o n e=>fb.extBut _ _ n e
  have t1':GH b g a its.toArray:=GH.of t1 fun o e=>e7 _ o nz ni e
  refine⟨.ref s.heap.objs.size,_,I2,rfl,⟨x,_,fun xs' q'=>by rw[I.sqB_inj q' q1];exact ex,hp,rfl,rfl⟩,⟨⟨_,by simpa using f1⟩,(Hg.ir e3 h4 t1').keep fun o e=>k8 _ o ne.symm e⟩,fun b hb=>(fp1 b hb).1⟩
 done:=by
  intro X hP hw hK hc i pins s σ H E I hf st hg
  subst hP hw hK
  obtain⟨⟨p,h1⟩,h4⟩:=st
  obtain⟨xs,q1,ex⟩:=hg
  obtain⟨its,r1,t1⟩:=I.sqB q1
  have l1:=r1.length
  have ty:s.TypeIs (.ref z) "enumerate" := ⟨_,h1,rfl⟩
  unfold Nh
  refine HB (LZ (IL (name:=Hw "__next__") ty F.slot_enumerate_next (JO F.slot_enumerate_next ty F.entry_enumerate_next ?_ (F.args_enumerate_next_1 _))))
  show Im _ _ (do let c <- M9 (.ref z) 2;_) _ _ _
  refine HB (IR h1 rfl (x:=.ref it) rfl ?_)
  refine HB ((h4.it1 t1).fin (I.ok.hd hc) (by simp;omega) fun g e kg ⟨o,ho,hoc⟩=>?_)
  refine HB (wpAny_isInstance (T := "StopIteration") (b:=true) ⟨o,ho,hoc⟩ isSubtype_stop (HQ ⟨rfl,?_⟩))
  exact I.turnedL (t':=s.toks) (fun b o hb e=>by simp at hb;exact kg b o hb.2 e) hf
 self:=fun _ _ _ _ _ st h=>by
  obtain⟨⟨p,h1⟩,_⟩:=st
  exact wpAny_pyIter_enum h1 h
section
variable{X:Cx}{e1:Expr}{ta:TA}{elts:List Expr}{kt:Nat}{pt p pos:Pos}
noncomputable def C8(K:W.Frag)(b:Bool)(t:TA):TI:=fun σ H R=>t σ H fun vs H1=>∃a xs,vs=[.ref a]/\GG b K H1 a xs/\R (Hf K b a) H1
theorem uC(b:Bool)(hg:Gl X "enumerate")(hm:X.mg "enumerate" = none)(ha:PA X [e1] ta)(hs:HL [e1] X.env=(false,eval e1 X.env)::HL [] X.env:=by rfl)(hpl:(Jv pos (HL [] X.env)).any (·.1)=false:=by rfl) :
 PI X (.Tuple elts kt pt) (.Call (.Name "enumerate" p) [e1] [] pos) (C8 X.K b ta):=by
 intro pins s σ H R I h
 refine Call_ (iB I hg hm (by rfl) (JV (Eg (ha pos pins s σ H _ I h) fun us s1 ⟨vs,H1,I1,r1,q1⟩=>?_) hs hpl) (by decide) (by decide))
 obtain⟨a,xs,ev,q1,q⟩:=q1
 subst ev
 cases r1 with
 | cons r rr =>
   cases rr
   cases r
   obtain⟨its,v1,t1⟩:=I1.sqB q1
   refine pZ t1 fun g f1 f4 f6 kp=>wpAny_pyIter_enum f1 ?_
   have l1:a<s1.heap.objs.size:=by
    obtain⟨o,ho,_⟩:=t1.obj
    exact HN ho
   have I2:Inv X pins σ H1 {s1 with heap:=g}:=I1.kept (t':=s1.toks) kp
   have ir:Hh b g s1.heap.objs.size a 0:=by
    have r':=GH.of t1 fun o e=>kp _ o e
    cases b with
    | true =>
      rcases f4 with⟨_,⟨o,e,c,_⟩⟩|⟨q,_⟩
      · obtain⟨o',e',c',_⟩:=(show g.IsTuple a _ from r')
        rw[e]at e';cases e';rw[c]at c';injection c' with z;exact absurd z (by decide)
      · exact q
    | false =>
      rcases f4 with⟨q,_⟩|⟨_,⟨o,e,c,_⟩⟩
      · exact q
      · obtain⟨o',e',c',_⟩:=(show g.IsList a _ from r')
        rw[e]at e';cases e';rw[c]at c';injection c' with z;exact absurd z (by decide)
   refine⟨_,[s1.heap.objs.size+1,s1.heap.objs.size],_,_,H1,rfl,I2,nn b _ _ a (by simp) (Iz (Nat.lt_succ_of_lt l1)) (Iz l1),⟨⟨_,f1⟩,ir⟩,fun b hb=>?_,q⟩
   have hb':s1.heap.objs.size<=b:=by
    simp at hb
    rcases hb with rfl|rfl
    · exact KC _ 1
    · exact HS _
   exact I1.fpOk hb' (I1.hok.fresh hb')
end
end L2
namespace L2.VL
section
variable{X:Cx}{rl:RlT}{a:Expr}{elts:List Expr}{kt:Nat}{pt p pos:Pos}{fs:Gy}
noncomputable def k_(xs:List Hy):List Hy:=xs.zipIdx.map fun z=>.tuple [.int (z.2:Nat),z.1]
theorem j_(h:(k_ xs)[i]?=some d):∃x,xs[i]?=some x/\d = .tuple [.int (i:Nat),x]:=by
 unfold k_ at h
 rw[Ix,List.getElem?_zipIdx]at h
 cases ex:xs[i]? with
 | none=>rw[ex]at h;cases h
 | some x=>rw[ex]at h;simp at h;exact⟨x,rfl,h.symm⟩
noncomputable def FI(b:Bool)(fs:Gy):En->(List Hy->Prop)->Prop:=fun ρ Q=>fs ρ fun ws=>∃dx xs,ws=[.d dx]/\fU dx=some xs/\d0 dx=b/\Q (k_ xs)
theorem tU(b:Bool)(hm:X.mg "enumerate" = none)(ha:GP X rl [a] fs)(hg:Gl X "enumerate" := by rfl)(hs:HL [a] X.env=(false,eval a X.env)::HL [] X.env:=by rfl)(hpl:(Jv pos (HL [] X.env)).any (·.1)=false:=by rfl) :
 GW X rl (.Tuple elts kt pt) (.Call (.Name "enumerate" p) [a] [] pos) (FI b fs):=by
 obtain⟨t,p1,k⟩:=ha
 refine⟨_,uC b hg hm p1 hs hpl,fun R Qd Q q h=>k R _ _ q fun vs ws F1 H1 g1 r1 ⟨dx,xs,ew,e1,kb1,q1⟩=>?_⟩
 subst ew kb1
 obtain⟨v,rfl,rv⟩:=nV r1
 obtain⟨a1,vs,rfl,rs,sq1⟩:=nS rv e1
 refine⟨a1,vs,rfl,sq1 _ g1.sub,h _ (k_ xs) F1 H1 g1 ⟨fun i H x e s=>?_,fun i H hl s=>?_,fun i H v H' x F2 e s s2 ra y=>?_⟩ q1⟩
 · obtain⟨x1,ex,_⟩:=j_ e
   obtain⟨v1,ev1,_⟩:=rs.get ex
   exact⟨vs,v1,sq1 _ s,ev1⟩
 · refine⟨vs,sq1 _ s,?_⟩
   unfold k_ at hl
   rw[HM,List.length_zipIdx]at hl
   rw[rs.length]
   omega
 · obtain⟨x1,ex,ed⟩:=j_ e
   obtain⟨vx,pp,hx,hp,ev,eH⟩:=y
   obtain⟨v1,ev1,rv1⟩:=rs.get ex
   have h1:=hx vs (sq1 _ (s.trans s2))
   rw[ev1]at h1
   cases h1
   subst ev eH ed
   have g:=Grow.data (a:=pp) (o:=.tup [.int (i:Nat),vx]) s2 ra hp
   exact⟨_,g,.tup (.inl (.inl aJ)) (.cons (.int _) (.cons ((rv1.mono s).mono g.fs) .nil))⟩
theorem iN(hm:X.mg "enumerate" = none)(ha:GP X rl [a] fs)(hg:Gl X "enumerate" := by rfl)(hs:HL [a] X.env=(false,eval a X.env)::HL [] X.env:=by rfl)(hpl:(Jv pos (HL [] X.env)).any (·.1)=false:=by rfl) :
 GW X rl (.Tuple elts kt pt) (.Call (.Name "enumerate" p) [a] [] pos) (FI true fs):=tU true hm ha hg hs hpl
end
noncomputable def AC(ws:List W):Option (List Hy):=match ws with
 | [.d (.tuple xs)]=>some (k_ xs)
 | _=>none
theorem xY{fs:Gy}:FI true fs ρ=Gh (fs ρ) fun ws=>bB (AC ws) ret:=by
 show(Gh (fs ρ) fun ws=>fun(Q:List Hy->Prop)=>∃dx xs,ws=[.d dx]/\fU dx=some xs/\d0 dx=true/\Q (k_ xs))=_
 congr 1;funext ws
 refine ak fun Q=>?_
 simp only[aC,ret]
 constructor
 · rintro⟨dx,xs,rfl,a,b,q⟩
   cases dx with
   | tuple ys=>cases a;exact⟨_,rfl,q⟩
   | _=>cases b
 · rintro⟨zs,e,q⟩
   unfold AC at e
   split at e
   · cases e;exact⟨_,_,rfl,rfl,rfl,q⟩
   · cases e
section
variable{α β:Type}{b:Hy->Mo (Option Hy)}
end
open PySem PySem.Spec
noncomputable def EX(xs:List Rat)(e:Rat):List Bool:=xs.map fun x=>decide (x<e)
noncomputable def colQ(ps:List (List Rat))(i:Nat):List Rat:=ps.map fun p=>p.getD i 0
end L2.VL
namespace L2
open L2.ZP
section
variable{X:Cx}{e1 e2:Expr}{elts:List Expr}{kt:Nat}{pt p pos:Pos}{ta:TA}
end
end L2
namespace L2.VL
section
variable{X:Cx}{rl:RlT}{a b:Expr}{elts:List Expr}{kt:Nat}{pt p pos:Pos}{fs:Gy}
end
section
variable{X:Cx}{rl:RlT}{a b c o e:Expr}{es:List Expr}{fa fb:TV}{fs:Gy}{pos p apos cpos:Pos}{ρ:En}
end
end L2.VL
namespace L2
section
variable{prog:Ie}{w:II}{A:Jb}{E:HE->HH->Prop}{s:HH}
end
section
variable{X:Cx}
end
end L2
namespace L2.VL
section
variable{X:Cx}{rl:RlT}{e:Expr}{fa:TV}{pos:Pos}{ρ:En}
end
theorem gN(xs:List Hy)(l u:Option Int):(cutD xs l u).length<=xs.length:=by
 unfold cutD
 rw[IJ,JX]
 omega
theorem GlK.int{K:W.Frag}{x:Str}{a:Int}{t:Tok}(h1:W.nsIn K Iv x=some (some (.int a t))):GlK K x (.int a):=⟨.int a,.int a t,h1,⟨t,rfl⟩,fun F=>.int a⟩
theorem Dfn.never{K:W.Frag}{base:Heap}{st:Stmt}{ps:List Str}{k:Nat}{Pd:List W->(Hy->Prop)->Prop}(Fn:FnIn K mg x st ps)(no:∀ws Q,Pd ws Q->False:=by exact fun _ _ z=>z):Dfn P w K mg base rl x ps k Pd:=by
 obtain⟨f,fd,hm,F,hb⟩:=Fn.ex
 exact⟨fun ws Q Q' _ z=>(no ws Q z).elim,f,fd,hm,F.kp,hb,⟨fun vs H Q E ⟨_,ws,_,_,_,_,z⟩=>(no ws _ z).elim,fun A outer s H args us vs Q E _ _ _ _ ⟨_,ws,_,_,_,_,z⟩=>(no ws _ z).elim⟩⟩
section
variable{X:Cx}{rl:RlT}{a b e:Expr}{fa fb:TV}{pos:Pos}{ρ:En}
end
end L2.VL
namespace L2
section
variable{X:Cx}
end
end L2
namespace L2.VL
section
variable{X:Cx}{rl:RlT}{a e:Expr}{fs:Gy}{pos p:Pos}
end
end L2.VL
namespace L2
section
variable{X:Cx}
end
end L2
namespace L2.VL
section
variable{X:Cx}{rl:RlT}{a e:Expr}{fs:Gy}{pos p:Pos}
end
end L2.VL
namespace L2
theorem iF(f:Nat->Int):∀k, KW (fun i j=>decide (f i<f j)) k<=k/\∀j, j<=k->f (KW (fun i j=>decide (f i<f j)) k)<=f j
 | 0 => ⟨HS _, fun j hj => by obtain rfl : j = 0 := (by omega); exact Int.le_refl _⟩
 | k+1=>by
   obtain⟨h1,h2⟩:=iF f k
   rw[KW]
   by_cases h:f (k+1)<f (KW (fun i j=>decide (f i<f j)) k)
   · rw[if_pos (by simpa using h)]
     refine⟨HS _,fun j hj=>?_⟩
     by_cases e:j=k+1
     · rw[e];exact Int.le_refl _
     · have:=h2 j (by omega);omega
   · rw[if_neg (by simpa using h)]
     refine⟨by omega,fun j hj=>?_⟩
     by_cases e:j=k+1
     · rw[e];omega
     · exact h2 j (by omega)
section
variable{X:Cx}
theorem pV(hc:X.calm=true):eE X (.builtin "min") (fun xs H Q=>∃(p:Addr)(ns:List Int),xs=[.ref p]/\GF X.K H p (ns.map V.int)/\0<ns.length/\∀M,M∈ns->(∀a∈ns,M<=a)->Q (.int M) H):=by
 intro pins s σ H xs us Q I r ⟨p,ns,ex,hq,h0,q⟩
 subst ex
 obtain⟨u,rfl,ru⟩:=vals1 r
 cases ru
 obtain⟨its,rv,pl,hz⟩:=I.list hq
 have hl:=rv.length
 rw[HM]at hl
 refine PySem.call_min_walk (Ks pl.isList ?_)
 have ne:p≠s.heap.objs.size:=by obtain⟨o,ho,_⟩:=pl.isList;exact Iz (HN ho)
 refine⟨s.heap.objs.size,_,_,_,_,_,_,rfl,Walks.list (A:=X.A.in1) (I.ok.hd hc) s.heap.objs.size p ne its.toArray,⟨⟨_,HW _ rfl,rfl,rfl⟩,pl.isList.push _⟩,?_,?_,PySem.CmpOf.ints_lt (fun i=>ns.getD i 0) (fun i v hP=>pd rv (by simpa using hP)),?_⟩
 · intro b hb
   have hb:b=s.heap.objs.size\/b=p:=by simpa using hb
   show b<(Heap.push _ _).objs.size
   rw[Ji]
   rcases hb with rfl|rfl
   · exact Nat.lt_succ_self _
   · obtain⟨o,ho,_⟩:=pl.isList;exact Nat.lt_succ_of_lt (HN ho)
 · rw[HU];omega
 · intro v h' tk hP k
   have hP2:its[KW (fun i j=>decide (ns.getD i 0<ns.getD j 0)) (its.toArray.size-1)]?=some v:=by rw[<- List.getElem?_toArray];exact hP
   obtain⟨t,rfl⟩:=pd rv hP2
   have en:its.toArray.size=ns.length:=by rw[HU];omega
   rw[en]
   obtain⟨a1,a2⟩:=iF (fun i=>ns.getD i 0) (ns.length-1)
   have hi:KW (fun i j=>decide (ns.getD i 0<ns.getD j 0)) (ns.length-1)<ns.length:=by omega
   refine⟨.int _,H,I.kept (t':=tk) fun b o eb=>k b o (by simp;exact Iz (HN eb)) (HK _ eb),⟨t,rfl⟩,q _ ?_ fun a ma=>?_⟩
   · rw[Ig,HZ hi];exact Jr hi
   · obtain⟨j,hj,rfl⟩:=Lo ma
     have:=a2 j (by omega)
     rwa [Ig (i:=j),HZ hj]at this
end
end L2
namespace L2.VL
section
variable{X:Cx}{rl:RlT}{a e:Expr}{fs:Gy}{pos p:Pos}
noncomputable def vz:List W->(W->Prop)->Prop:=fun ws Q=>∃(w:W)(ns:List Int),ws=[w]/\w.dat=some (.list (ns.map .int))/\0<ns.length/\∀M,M∈ns->(∀a∈ns,M<=a)->Q (.d (.int M))
theorem tW:fL X rl (fun xs H Q=>∃(p:Addr)(ns:List Int),xs=[.ref p]/\GF X.K H p (ns.map V.int)/\0<ns.length/\∀M,M∈ns->(∀a∈ns,M<=a)->Q (.int M) H) vz:=fun{F H vs ws} Qd Q s ra r ⟨w,ns,ew,ed,h0,q⟩ k=>by
 subst ew
 obtain⟨v,rfl,r1⟩:=nV r
 obtain⟨a,us,rfl,sq,rs⟩:=r1.items s ed
 have e:=gc rs
 subst e
 exact⟨a,ns,rfl,sq,h0,fun M h1 h2=>k _ (.d _) _ _ (Grow.refl s ra) (.int _) trivial (q M h1 h2)⟩
theorem wl(hm:X.mg "min" = none)(ha:GP X rl [a] fs)(hc:X.calm=true:=by rfl)(hg:Gl X "min" := by rfl)(he:HL [a] X.env=(false,eval a X.env)::HL [] X.env:=by rfl)(hpl:(Jv pos (HL [] X.env)).any (·.1)=false:=by rfl) :
 PV X rl (.Call (.Name "min" p) [a] [] pos) (eB vz fs):=dI (pV hc) tW hm (by rfl) ha hg (by decide) (by decide) he hpl
noncomputable def uW(ns:List Int)(M:Int):Prop:=M∈ns/\∀a∈ns,M<=a
theorem oQ(w:W):vz [w]=bB (w.dat.bind rm) fun ns=>FP (0<ns.length) (Gh (anyM (uW ns)) fun M=>ret (.d (.int M))):=by
 refine ak fun Q=>?_
 simp only[aC,ret,FP]
 constructor
 · rintro⟨w',ns,e,ed,h0,q⟩
   cases e
   exact⟨ns,by rw[ed];exact yT.mpr rfl,h0,fun M h=>q M h.1 h.2⟩
 · rintro⟨ns,e,h0,q⟩
   cases ed:w.dat with
   | none=>rw[ed]at e;cases e
   | some d =>
     rw[ed]at e
     have e2:=yT.mp (show rm d=some ns from e)
     subst e2
     exact⟨w,ns,rfl,ed,h0,fun M h1 h2=>q M ⟨h1,h2⟩⟩
end
section
variable{X:Cx}{rl:RlT}{e:Expr}{fa:TV}{pos:Pos}{ρ:En}
end
end L2.VL
namespace L2
section
variable{X:Cx}{e:Expr}{ty:TE}{px pos:Pos}
end
end L2
namespace L2.VL
section
variable{X:Cx}{rl:RlT}{e:Expr}{fk:TV}{px pos:Pos}{ρ:En}
end
noncomputable def nh(k1 k2 k3:Str)(f1 f2 f3 fa:TV):TV:=fun ρ Q=>f1 ρ fun w1=>∃d1,w1.fz = .d d1/\f2 ρ fun w2=>∃d2,w2.fz = .d d2/\f3 ρ fun w3=>∃d3,w3.fz = .d d3/\fa ρ fun w=>∃k,w = .d (.str k)/\∃d,[(k1,d1),(k2,d2),(k3,d3)].lookup k=some d/\Q (.d d)
theorem m7(ps:List (Str×V))(k:Str):fY (ps.map fun p=>((IA p.1:G6),p.2)) (IA k)=ps.lookup k:=by
 induction ps with
 | nil=>rfl
 | cons p ps ih =>
   unfold fY at ih ⊢
   rw[IW,Jy,HX]
   by_cases h:p.1=k
   · simp[h]
   · have h1:(k==p.1)=false:=by simpa using fun z=>h z.symm
     have h2:decide ((IA p.1:G6)=IA k)=false:=by simpa using h
     rw[h1]
     simp only[h2,Jz,if_false]
     exact ih
theorem u6{K:W.Frag}{k1 k2 k3 k:Str}{v1 v2 v3:V}{d1 d2 d3:Hy}(r1:Rep K F v1 d1)(r2:Rep K F v2 d2)(r3:Rep K F v3 d3)(h:[(k1,d1),(k2,d2),(k3,d3)].lookup k=some d):∃v,[(k1,v1),(k2,v2),(k3,v3)].lookup k=some v/\Rep K F v d:=by
 simp only[List.lookup]at h ⊢
 split at h
 · cases h;exact⟨v1,rfl,r1⟩
 · split at h
   · cases h;exact⟨v2,rfl,r2⟩
   · split at h
     · cases h;exact⟨v3,rfl,r3⟩
     · cases h
section
variable{X:Cx}{rl:RlT}{e e1 e2 e3:Expr}{fa f1 f2 f3:TV}{pos dpos q1 q2 q3:Pos}{ρ:En}{j1 j2 j3}
theorem m9{k1 k2 k3:Str}(hr:Room 0 X.A)(hd:k1≠k2/\k1≠k3/\k2≠k3)(h1:PV X rl e1 f1)(h2:PV X rl e2 f2)(h3:PV X rl e3 f3)(h:PV X rl e fa)(hs:tG e:=by exact fun _ _=>rfl) :
 PV X rl (.Subscript (.Dict [some (.Constant (.str k1) j1 q1),some (.Constant (.str k2) j2 q2),some (.Constant (.str k3) j3 q3)] [e1,e2,e3] dpos) e pos) (nh k1 k2 k3 f1 f2 f3 fa):=by
 obtain⟨t,p,k⟩:=h
 obtain⟨t1,p1,c1⟩:=h1
 obtain⟨t2,p2,c2⟩:=h2
 obtain⟨t3,p3,c3⟩:=h3
 obtain⟨d12,d13,d23⟩:=hd
 refine⟨_,ja (po hr) (kO (cZ dD p1 (cZ dD p2 (cZ dD p3 kN))) rfl rfl (by intro z;cases z) (by show 3<=15;decide)) p hs,fun{F₀ H₀ F H σ ρ} R Qd Q q h=>?_⟩
 intro d hd
 have rd:rl.a≠some d:=fun z=>by obtain⟨o,zz⟩:=R.reel.live z;rw[hd]at zz;cases zz
 have g0:Grow rl F H F (upd H d (.dK [])):=Grow.laid R.sub R.reel hd
 refine c1 (R.grow g0) _ _ q fun v1 w1 F1 H1 g1 r1 n1 ⟨d1,e1,q1⟩=>?_
 obtain⟨E1,g1',s1,r1'⟩:=eP.fz g1 r1 n1
 rw[e1]at r1'
 refine c2 ((R.grow g0).grow g1') _ _ q1 fun v2 w2 F2 H2 g2 r2 n2 ⟨d2,e2,q2⟩=>?_
 obtain⟨E2,g2',s2,r2'⟩:=eP.fz g2 r2 n2
 rw[e2]at r2'
 refine c3 (((R.grow g0).grow g1').grow g2') _ _ q2 fun v3 w3 F3 H3 g3 r3 n3 ⟨d3,e3,q3⟩=>?_
 obtain⟨E3,g3',s3,r3'⟩:=eP.fz g3 r3 n3
 rw[e3]at r3'
 have ga:Grow rl F (upd H d (.dK [])) E3 H3:=(g1'.trans g2').trans g3'
 have hD3:H3 d=some (.dK []):=ga.same d _ aJ rd
 have fd:E3 d=none:=by rw[ga.old d _ aJ];exact R.sub.free hd
 refine⟨hD3,[(IA k1,v1),(IA k2,v2),(IA k3,v3)],rfl,(by show 3<=15;decide),?_⟩
 have em:d_ [] [((IA k1:G6),v1),(IA k2,v2),(IA k3,v3)]=[(IA k1,v1),(IA k2,v2),(IA k3,v3)]:=by
  unfold d_
  simp only[Kb,Mt]
  have p0:e9 ([]:List (G6×V)) (IA k1) v1=[(IA k1,v1)]:=rfl
  rw[p0]
  unfold e9
  simp[d12,d13,d23]
 rw[em]
 have gb:Grow rl F H E3 (upd H3 d (.dK [(IA k1,v1),(IA k2,v2),(IA k3,v3)])):=by
  have g:=g0.trans ga
  refine⟨fun b o eb n=>by rw[aA (bA eb hd)];exact g.same b o eb n,g.fs,fun b o eb=>?_,g.old,fun r er=>?_⟩
  · rw[aA (fun z=>by rw[z,fd]at eb;cases eb)];exact g.sub b o eb
  · obtain⟨z1,⟨o,z2,z3⟩⟩:=g.reel r er
    exact⟨z1,⟨o,by rw[aA (fun z=>rd (by rw[<- z];exact er))];exact z2,z3⟩⟩
 refine k (R.grow gb) _ _ q3 fun v w F4 H4 g4 r4 n4 ⟨kk,ew,dd,lk,q4⟩=>?_
 subst ew
 have ev:v = .str kk:=by cases(show Rep X.K F4 v (.str kk)from r4);rfl
 subst ev
 have hD:H4 d=some (.dK [(IA k1,v1),(IA k2,v2),(IA k3,v3)]):=g4.same d _ aJ rd
 obtain⟨u,lu,ru⟩:=u6 (Rep.mono (g3'.fs.trans g4.fs) (Rep.mono g2'.fs r1')) (Rep.mono (g3'.fs.trans g4.fs) r2') (Rep.mono g4.fs r3') lk
 have gd:=zb.k (k:=(IA kk:G6)) hD
 have:fY [((IA k1:G6),v1),(IA k2,v2),(IA k3,v3)] (IA kk)=some u:=(m7 [(k1,v1),(k2,v2),(k3,v3)] kk).trans lu
 rw[this]at gd
 exact⟨d,u,rfl,gd,h _ (.d dd) _ _ (gb.trans g4) ru trivial q4⟩
theorem eu(k1 k2 k3:Str):nh k1 k2 k3 f1 f2 f3 fa ρ=Gh (f1 ρ) fun w1=>bB (asD w1.fz) fun d1=>Gh (f2 ρ) fun w2=>bB (asD w2.fz) fun d2=>Gh (f3 ρ) fun w3=>bB (asD w3.fz) fun d3=>Gh (fa ρ) fun w=>bB (asS w) fun k=>bB ([(k1,d1),(k2,d2),(k3,d3)].lookup k) fun d=>ret (.d d):=by
 refine ak fun Q=>?_
 simp only[nh,Gh,aC,kr,qb,ret]
end
section
variable{X:Cx}{rl:RlT}{elt t1 i1 t2 i2:Expr}{f1 f2:List Expr}{scope:Scope}{pos:Pos}{fi fj:En->(List Hy->Prop)->Prop}{g g2:GC}{ft ft2:TB}{fe:TV}
end
end L2.VL
namespace L2
noncomputable def we:Option Str->HE->Prop
 | some s,v=>∃t,v = .str s t
 | none,v=>v = .none
noncomputable def E5:Option Str->V
 | some s=>.str s
 | none=>.non
theorem CU{o:Option Str}{v:HE}(h:we o v):RelV (E5 o) v:=by
 cases o with
 | none=>cases h;rfl
 | some s=>obtain⟨t,rfl⟩:=h;exact⟨t,rfl⟩
abbrev y9:List (Str×Option Str)->List (Str×HE)->Prop:=I0 fun q r=>q.1=r.1/\we q.2 r.2
structure GlTO (P:Ie) (w:II) (K:W.Frag) (mg:Str->Option HE) (x:Str) (D:List (Str×Option Str)):Prop where
 ex:∃p,mg x=some (.ref p)/\∀h,K.In h->∃kvs:List (Str×HE),h.DictOf (J1 P w) p kvs/\y9 D kvs
theorem y9.val{kvs:List (Str×HE)}(r:y9 D kvs){k:Str}{o:Option Str}(h:D.lookup k=some o):∃v,Me kvs k=some v/\we o v:=by
 induction r with
 | nil=>cases h
 | @cons p q ps qs e t ih =>
   obtain⟨e1,vo⟩:=e
   obtain⟨pk,pv⟩:=p
   obtain⟨qk,qv⟩:=q
   simp only at e1 vo
   subst e1
   rw[HX]at h
   unfold Me
   rw[Jy]
   by_cases hk:k=pk
   · subst hk
     simp only[beq_self_eq_true]at h
     cases h
     simp only[decide_true]
     exact⟨qv,rfl,vo⟩
   · have hb:(k==pk)=false:=by simpa using hk
     have hk':¬pk=k:=fun z=>hk z.symm
     rw[hb]at h
     simp only[hk',decide_false]
     exact ih h
section
variable{X:Cx}{e:Expr}{ty:TE}{px pos:Pos}
noncomputable def CG(D:List (Str×Option Str))(ty:TE):TE:=fun σ H Q=>ty σ H fun y H1=>∃k o,y = .str k/\D.lookup k=some o/\Q (E5 o) H1
theorem xB(T:GlTO X.prog X.w X.K X.mg x D)(he:PE X e ty)(hs:tG e)(hg:Gl X x:=by rfl)(hd:(x==("__debug__" : Str))=false:=by decide) :
 PE X (.Subscript (.Name x px) e pos) (CG D ty):=by
 obtain⟨p,hm,tab⟩:=T.ex
 intro pins s σ H Q I h
 refine nD LD.lookup hs (Eg (oq (v:=.ref p) hg hm rfl hd pins s σ H (fun v H'=>v = .ref p/\H'=H) I ⟨rfl,rfl⟩) fun u s1 ⟨x,H1,I1,rx,ex,eH⟩=>?_)
 subst ex eH
 cases rx
 refine Eg (he pins s1 σ H1 _ I1 h) fun iv s2 ⟨y,H2,I2,ry,k,o,ey,hl,q2⟩=>?_
 subst ey
 obtain⟨t,rfl⟩:=ry
 obtain⟨kvs,dd,rt⟩:=tab s2.heap I2.kIn
 obtain⟨v,ea,vo⟩:=rt.val hl
 exact⟨dd.typeIs,wpAny_getItem_of (strKind_is X.prog X.w k t) dd.mapOf ea ⟨E5 o,H2,I2.tok _,CU vo,q2⟩⟩
end
noncomputable def kR:Option Str->HE->Bool
 | some s,.str y _=>y==s
 | none,.none=>true
 | _,_=>false
theorem kQ{o:Option Str}{v:HE}(h:kR o v=true):we o v:=by
 cases o<;>cases v<;>simp only[kR,beq_iff_eq,Jz]at h
 · rfl
 · rename_i t;subst h;exact⟨t,rfl⟩
theorem mC(prog:Ie)(w:II){es:List DictEntry}(h:KTD.Rows we es D) :
 es.map (·.hash)=D.map (fun p=>(J1 prog w).hash p.1)->(∀e∈es,∃k,(J1 prog w).is k e.key=true/\e.hash=(J1 prog w).hash k)/\∃rows:List (Str×HE),Pairs (J1 prog w) es rows/\y9 D rows/\rows.map (·.1)=D.map (·.1):=by
 induction h with
 | nil=>intro _;exact⟨by simp,[],.nil,.nil,rfl⟩
 | @cons en x t d es D ek ev _ back =>
   intro eqs;simp only[IW,Il]at eqs
   obtain⟨b1,rows,b2,b3,b4⟩:=back eqs.2
   have is1:(J1 prog w).is x en.key=true:=by rw[ek];exact strKind_is prog w x t
   exact⟨fun e' me=>(IC.mp me).elim (fun z=>by rw[z];exact⟨x,is1,eqs.1⟩) (b1 e'),(x,en.val)::rows,.cons is1 rfl b2,.cons ⟨rfl,ev⟩ b3,by simp[b4]⟩
structure GlTOK (P:Ie) (w:II) (K:W.Frag) (x:Str) (D:List (Str×Option Str)):Prop where
 ex:∃p,W.nsIn K Iv x=some (some (.ref p))/\∀h,K.In h->∃kvs:List (Str×HE),h.DictOf (J1 P w) p kvs/\y9 D kvs
theorem GlTOK.mk'{K:W.Frag}{p:Addr}(h1:W.nsIn K Iv x=some (some (.ref p)))
 (h2:KTD.tabLook kR (fun b=>K.lookup b) p D=true)(hn:(D.map (·.1)).Nodup)(h3:KTD.hashesOf (fun b=>K.lookup b) p=D.map fun q=>(J1 P w).hash q.1):GlTOK P w K x D:=by
 refine⟨p,h1,fun h X=>?_⟩
 unfold KTD.tabLook at h2;rw[Kh]at h2;dsimp only at h2
 cases hp:K.lookup p with
 | none=>rw[hp]at h2;cases h2.2
 | some ob =>
   rw[hp]at h2
   have h2':=h2.2;simp only[Kh,beq_iff_eq]at h2'
   obtain⟨⟨⟨c1,c2⟩,c3⟩,c4⟩:=h2'
   cases hdt:ob.data with
   | dict es ep =>
     rw[hdt]at c4
     have hashes:es.toList.map (·.hash)=D.map fun q=>(J1 P w).hash q.1:=by rw[<- h3];simp only[KTD.hashesOf,hp,hdt]
     obtain⟨b1,rows,b2,b3,b4⟩:=mC P w (KTD.rows_of_look (fun _ _ x=>kQ x) c4) hashes
     exact⟨rows,⟨ob,es,ep,X _ _ hp,⟨c1,by simpa using c2,by simpa using c3⟩,hdt,fun e he=>b1 e (by simpa using he),b2,by rw[b4];exact hn⟩,b3⟩
   | _=>rw[hdt]at c4;cases c4
theorem GlTOK.of{K:W.Frag}(k:GlTOK P w K x D)(Y:K.In h)(G:h.Ns Iv mg):GlTO P w K mg x D:=by
 obtain⟨p,h1,h2⟩:=k.ex
 exact⟨p,W.mg_of Y G h1,h2⟩
end L2
namespace L2.VL
section
variable{X:Cx}{rl:RlT}{e:Expr}{fk:TV}{px pos:Pos}{ρ:En}
noncomputable def dO:Option Str->Hy
 | some s=>.str s
 | none=>.none
noncomputable def B7(D:List (Str×Option Str))(fk:TV):TV:=fun ρ Q=>fk ρ fun w=>∃k o,w = .d (.str k)/\D.lookup k=some o/\Q (.d (dO o))
theorem CT{K:W.Frag}(o:Option Str):Rep K F (E5 o) (dO o):=by
 cases o with
 | none=>exact .non
 | some s=>exact .str s
theorem zj(T:GlTO X.prog X.w X.K X.mg x D)(hk:PV X rl e fk)(hs:tG e:=by exact fun _ _=>rfl)(hg:Gl X x:=by rfl)(hd:(x==("__debug__" : Str))=false:=by decide) :
 PV X rl (.Subscript (.Name x px) e pos) (B7 D fk):=by
 obtain⟨t,p1,k1⟩:=hk
 refine⟨_,xB T p1 hs hg hd,fun R Qd Q q h=>k1 R _ _ q fun v w F1 H1 g1 r1 n1 ⟨k,o,ew,hl,q1⟩=>?_⟩
 subst ew
 have ev:=gu r1
 subst ev
 exact⟨k,o,rfl,hl,h _ (.d (dO o)) _ _ g1 (CT o) trivial q1⟩
theorem oP(D:List (Str×Option Str)):B7 D fk ρ=Gh (fk ρ) fun w=>bB (asS w) fun k=>bB (D.lookup k) fun o=>ret (.d (dO o)):=by
 show(Gh (fk ρ) fun w=>fun(Q:W->Prop)=>∃k o,w = .d (.str k)/\D.lookup k=some o/\Q (.d (dO o)))=_
 congr 1;funext w
 refine ak fun Q=>?_
 simp only[aC,qb,ret]
 exact⟨fun⟨k,ss,a,b,c⟩=>⟨k,a,ss,b,c⟩,fun⟨k,a,ss,b,c⟩=>⟨k,ss,a,b,c⟩⟩
end
theorem GlK.pair2{K:W.Frag}{a b c d:Int}{p q:Addr}{s1 s2 s3:Array (Option HE)}{t1 t2 t3 t4:Tok}{n1 n2 n3:Nat}(h1:W.nsIn K Iv x=some (some (.ref p)))
 (h2:K.lookup p=some ⟨.type "tuple", none,.seq #[.ref q,.ref r] n1,s1⟩)(h3:K.lookup q=some ⟨.type "tuple", none,.seq #[.int a t1,.int b t2] n2,s2⟩)(h4:K.lookup r=some ⟨.type "tuple", none,.seq #[.int c t3,.int d t4] n3,s3⟩):GlK K x (.tuple [pr a b,pr c d]):=by
 refine⟨.ref p,.ref p,h1,rfl,fun F=>.tup (vs:=[.ref q,.ref r]) (.inr ⟨_,_,n1,h2,rfl,rfl,(by show 2<=sizeLine;decide),.cons rfl (.cons rfl .nil),rfl⟩) (.cons ?_ (.cons ?_ .nil))⟩
 · exact .tup (vs:=[.int a,.int b]) (.inr ⟨_,_,n2,h3,rfl,rfl,(by show 2<=sizeLine;decide),.cons ⟨t1,rfl⟩ (.cons ⟨t2,rfl⟩ .nil),rfl⟩) (.cons (.int a) (.cons (.int b) .nil))
 · exact .tup (vs:=[.int c,.int d]) (.inr ⟨_,_,n3,h4,rfl,rfl,(by show 2<=sizeLine;decide),.cons ⟨t3,rfl⟩ (.cons ⟨t4,rfl⟩ .nil),rfl⟩) (.cons (.int c) (.cons (.int d) .nil))
section
variable{X:Cx}{rl:RlT}{e:Expr}{fa:TV}{pos dpos q1 q2 q3 q4:Pos}{ρ:En}{j1 j2 j3 j4:Nat}{a1 a2:Int}{x1 x2:Str}
noncomputable def kz(a1 a2:Int)(x1 x2:Str)(fa:TV):TV:=fun ρ Q=>fa ρ fun w=>∃k,w = .d (.int k)/\∃v,[(a1,x1),(a2,x2)].lookup k=some v/\Q (.d (.str v))
theorem qy(hr:Room 0 X.A)(hd:a1≠a2)(h:PV X rl e fa)(hs:tG e:=by exact fun _ _=>rfl) :
 PV X rl (.Subscript (.Dict [some (.Constant (.int a1) j1 q1),some (.Constant (.int a2) j2 q2)] [.Constant (.str x1) j3 q3,.Constant (.str x2) j4 q4] dpos) e pos) (kz a1 a2 x1 x2 fa):=by
 obtain⟨t,p,k⟩:=h
 refine⟨_,ja (po hr) (kO (cZ iq dD (cZ iq dD kN)) rfl rfl (by intro z;cases z) (by show 2<=15;decide)) p hs,fun{F₀ H₀ F H σ ρ} R Qd Q q h=>?_⟩
 intro d hdn
 refine⟨aJ,[(JT a1,.str x1),(JT a2,.str x2)],rfl,(by show 2<=15;decide),?_⟩
 have em:d_ [] [((JT a1:G6),V.str x1),(JT a2,.str x2)]=[(JT a1,.str x1),(JT a2,.str x2)]:=by
  unfold d_
  simp only[Kb,Mt]
  have p0:e9 ([]:List (G6×V)) (JT a1) (V.str x1)=[(JT a1,V.str x1)]:=rfl
  rw[p0]
  unfold e9
  simp[hd]
 rw[em,ub]
 have g0:Grow rl F H F (upd H d (.dK [(JT a1,.str x1),(JT a2,.str x2)])):=Grow.laid R.sub R.reel hdn
 refine k (R.grow g0) _ _ q fun v w F1 H1 g1 r1 n1 ⟨kk,ew,vv,lk,q1⟩=>?_
 subst ew
 have ev:=bC r1
 subst ev
 have rd:rl.a≠some d:=fun z=>by obtain⟨o,zz⟩:=R.reel.live z;rw[hdn]at zz;cases zz
 have hD:H1 d=some (.dK [(JT a1,.str x1),(JT a2,.str x2)]):=g1.same d _ aJ rd
 have gd:=zb.k (k:=(JT kk:G6)) hD
 have:fY [((JT a1:G6),V.str x1),(JT a2,.str x2)] (JT kk)=some (.str vv):=by
  unfold fY
  simp only[HX,List.lookup_nil]at lk
  rw[Jy]
  by_cases z:kk=a1
  · subst z
    simp at lk ⊢
    exact lk
  · have z1:(kk==a1)=false:=by simpa using z
    rw[z1]at lk
    have z2:¬a1=kk:=fun h=>z h.symm
    by_cases y:kk=a2
    · subst y
      simp at lk ⊢
      simp[z2,lk]
    · have y1:(kk==a2)=false:=by simpa using y
      rw[y1]at lk
      cases lk
 rw[this]at gd
 exact⟨d,.str vv,rfl,gd,h _ (.d (.str vv)) _ _ (g0.trans g1) (.str vv) trivial q1⟩
theorem ff:kz a1 a2 x1 x2 fa ρ=Gh (fa ρ) fun w=>bB (asI w) fun k=>bB ([(a1,x1),(a2,x2)].lookup k) fun v=>ret (.d (.str v)):=by
 refine ak fun Q=>?_
 simp only[kz,Gh,aC,dX,ret]
end
end L2.VL
namespace K33
open PySem PySem.Spec PyProof.Rows L2 L2.VL
local macro_rules | `(tactic| simp_arith only [$xs,*])=>`(tactic| simp (maxSteps:=2000000) (disch:=(first | assumption | omega | decide)) only [AW,AZ,A4,A3,A0,AS,AR,AV,AU,AT,AY,AX,zf,Ex,Ew,d0,eJ,j9,W.cap,Fj,List.replicate,id,↓reduceIte,if_true,Nat.reduceAdd,Nat.reduceSub,Nat.reduceLeDiff,Int.cast_ofNat_Int,Int.reduceBEq,Int.reduceSub,Int.reduceAdd,Int.reduceLT,Int.reduceLE,Int.reduceMul,Int.reduceNeg,reduceCtorEq,gG,$xs,*])
local macro_rules | `(tactic| simp_arith only [$xs,*] at $h:ident)=>`(tactic| simp only [List.cons.injEq,W.d.injEq,PyData.int.injEq,PyData.bool.injEq,PyData.str.injEq,PyData.list.injEq,PyData.tuple.injEq,lE,qZ,qD,eT,and_true,true_and,reduceCtorEq,$xs,*] at $h:ident)
section
variable{P:Ie}{w:II}{K:Kd}{mg:Str->Option HE}{base:Heap}{rl:RlT}
noncomputable def yN(ws:List W):Prop:=∃ns:List Int,ws=[.sc ns]/\ns.length<=63
theorem yN.eq{ns:List Int}(h:ns.length<=63):yN [.sc ns]=True:=propext ⟨fun _=>trivial,fun _=>⟨ns,rfl,h⟩⟩
theorem lG{m:Mo Fl}{k:En->Mo Fl}{Q:Fl->Prop}(P:α->Prop)(g:α->Fl)(h:∀Q':Fl->Prop,(∀a,P a->Q' (g a))->m Q')(fin:∀a,P a->sq (VL.ret (g a)) k Q):sq m k Q:=h _ fun a ha=>fin a ha
theorem vT(xs:List α)(f:α->Hy)(k:Nat):VL.cutD (xs.map f) none (some (k:Int))=(xs.take k).map f:=by
 unfold VL.cutD
 rw[HT.sIx_none,HT.sIx_nat,List.drop_zero,HM,Nat.sub_zero,<- MO]
 congr 1
 by_cases z:k<=xs.length
 · rw[Mi z]
 · rw[L3 (by omega),Je (by omega),Je (by omega)]
theorem jL:FnScope ["_law_script"] ["_law_script"] (defScope (Ed 51)):=⟨rfl,rfl,rfl,by decide +kernel,rfl,by decide +kernel,by decide +kernel⟩
theorem d__law_feed(Fn:FnIn K mg "_law_feed" (Ed 51) ["_law_script"])(Z:Bz mg):DfnR P w K mg base "_law_feed" ["_law_script"] 2 yN:=by
 have sc:=jL
 obtain⟨f,fd,hm,F,hb⟩:=Fn.ex
 refine⟨f,fd,hm,F.kp,hb,?_⟩
 refine F.ok (k:=1) sc (fun vs H Q E h=>?_) (fun cdv A outer s H vs Q E hr h=>?_)
 · obtain⟨F,ws,_,r,_,⟨ns,rfl,_⟩,_⟩:=h
   have:=KN r
   simpa using this
 · obtain⟨F,ws,sm,r,ao,⟨ns,rfl,hn⟩,fin⟩:=h
   obtain⟨T,p,kk⟩:=pC (X:=(qm Hq P w K mg base ["_law_script"] "_law_feed" (defScope (Ed 51)) f cdv A outer s H E).nox) (qx Z.list_ (aa (wf (vn 0) cR (cu ac)) ab))
   refine⟨T,p,kk (iJ sm (fun _ z=>by cases z) r ao) _ ?_ fin⟩
   simp_arith only[ae]
   exact⟨ns.take 63,by rw[show(63:Int)=((63:Nat):Int)from rfl,vT],by rw[IJ];omega⟩
noncomputable def aT:List W->(Hy->Prop)->Prop:=fun ws Q=>∃(m:Int),ws=[.reel,.d (.int m)]/\((0<m)/\(m<2^60))/\∀k:Int,(0<=k/\k<m)->Q (.int k)
theorem aT.mono:∀ws (Q Q':Hy->Prop),(∀d,Q d->Q' d)->aT ws Q->aT ws Q':=fun _ _ _ h_=>HD fun _=>HA (HA fun q_ o_ ho_=>h_ _ (q_ o_ ho_))
theorem aT.len:∀ws (Q:Hy->Prop),aT ws Q->ws.length=2:=fun _ _ h_=>by obtain⟨_,e_,_⟩:=h_;subst e_;rfl
theorem aT.eq(m:Int)(hm:0<m)(hb:m<2^60):aT [.reel,.d (.int m)]=Gh (anyM fun k:Int=>0<=k/\k<m) fun k=>VL.ret (.int k:Hy):=by
 refine ak fun Q=>⟨?_,fun q_=>⟨m,rfl,⟨hm,hb⟩,q_⟩⟩
 rintro⟨m',e_,_,q_⟩
 simp_arith only[and_true]at e_
 obtain rfl:=e_
 exact q_
theorem jN:FnScope ["_law_feed_here", "_law_many", "_law_found", "_law_spot", "_law_cell", "_law_mixed"] ["_law_feed_here", "_law_many"] (defScope (Ed 52)):=⟨rfl,rfl,rfl,by decide +kernel,rfl,by decide +kernel,by decide +kernel⟩
theorem d__law_draw(Fn:FnIn K mg "_law_draw" (Ed 52) ["_law_feed_here", "_law_many"])(Z:Bz mg)    : Dfn P w K mg base rl "_law_draw" ["_law_feed_here", "_law_many"] 1 aT:=by
 have sc:=jN
 refine Dfn.of Fn sc (aT.mono) (aT.len) (fun cdv A outer s H E hr=>(af (iI (i:=0) (hr.mono (Ip _)) (.inr (.inr rfl)) (v_add (gj (i:=0) (hr.mono (Ip _)) (.inr (.inr rfl))) ac))
  (af (aU (az jb iM (aw _) (gj (i:=0) (hr.mono (Ip _)) (.inr (.inl rfl))) ac) (af (ax 2 sc.nd (v_mod (gj (i:=0) (hr.mono (Ip _)) (.inr (.inl rfl))) (vn 1)))
  (af (iI (i:=0) (hr.mono (Ip _)) (.inr (.inl rfl)) (v_div (gj (i:=0) (hr.mono (Ip _)) (.inr (.inl rfl))) (vn 1)))
  (aj (ar (vn 2))))) aH)
  (af (ax 3 sc.nd (gj (i:=0) (hr.mono (Ip _)) (.inl rfl)))
  (af (iI (i:=0) (hr.mono (Ip _)) (.inl rfl) (v_add (vn 3) ac))
  (af (ax 4 sc.nd ac)
  (af (aU (az (eN hr.units) aZ (aw _) (fZ (i:=0) (hr.mono (Ip _))) (cH ab)) (aj (ax 4 sc.nd (aL (fZ (i:=0) (hr.mono (Ip _))) (v_mod (vn 3) (cv Z.len_ (aa (fZ (i:=0) (hr.mono (Ip _))) ab)))))) aH)
  (af (aU (G0.pb (d7 (az Ac zi (aw _) (vn 4) (v_pow ac ac)) (df (az dE dY (aw _) (vn 3) (cv Z.len_ (aa (fZ (i:=0) (hr.mono (Ip _))) ab)))))) (af (iI (i:=0) (hr.mono (Ip _)) (.inr (.inl rfl)) (v_div (vn 4) (vn 1)))
  (aj (ar (v_mod (vn 4) (vn 1))))) aH)
  (af (ax 5 sc.nd (v_mod (v_mul (v_add (v_add (v_mod (vn 4) ac) (v_mul ac (gj (i:=0) (hr.mono (Ip _)) (.inr (.inr rfl))))) ac) ac) ac))
  (af (ax 5 sc.nd (v_mod (v_mul (v_add (v_div (vn 5) ac) (v_mul ac (gj (i:=0) (hr.mono (Ip _)) (.inr (.inr rfl))))) ac) ac))
  (aj (ar (v_mod (v_div (vn 5) ac) (vn 1)))))))))))))) ?_
 rintro ws Q ⟨m,rfl,⟨hm,hb⟩,hQ⟩
 have hm0:m≠0:=by omega
 have hmd:∀i:Int,hX i m:=fun i=>hX.of hm0 (by omega)
 have hnn:∀i:Int,0<=i->0<=i.fdiv m:=fun i hi=>Int.fdiv_nonneg hi (by omega)
 have fm:∀i:Int,0<=i.fmod m/\i.fmod m<m:=fun i=>⟨Jn _ hm,J0 _ hm⟩
 refine aB ?_
 have c1:∀z:Int,bV 1013 z:=fun z=>.lt (by decide)
 have c2:∀z:Int,bV 37 z:=fun z=>.lt (by decide)
 have c3:∀z:Int,bV z 48271:=fun z=>.rt (by decide)
 have c4:∀z:Int,bV z 69621:=fun z=>.rt (by decide)
 have d6:∀z:Int,hX z 64:=fun z=>hX.of (by decide) (by decide)
 simp_arith only[ag,ae,aQ,aR,aE,aS,aG,ay]
 (with_reducible (first|refine aD fun n hn=>?_|refine aK fun n hn=>?_))
 try simp_arith only[ag,ae,aQ,aR,aE,aS,aG,ay]
 (with_reducible (first|refine aD fun l hl=>?_|refine aK fun l hl=>?_))
 try rw[sq_ite]
 refine cV (fun _=>?_) fun _=>?_
 · simp_arith only[ag,ae,aQ,aR,aE,aS,aG,ay]
   (with_reducible (first|refine aD fun l2 hl2=>?_|refine aK fun l2 hl2=>?_))
   try simp_arith only[ag,ae,aQ,aR,aE,aS,aG,ay]
   (with_reducible (first|refine aD fun l3 hl3=>?_|refine aK fun l3 hl3=>?_))
   have h0:=hnn l3 hl3
   try simp_arith only[ag,ae,aQ,aR,aE,aS,aG,ay]
   exact cL (hmd _) (av (hQ _ (fm _)))
 · simp_arith only[ag,ae,aQ,aR,aE,aS,aG,ay]
   (with_reducible (first|refine aD fun a ha=>?_|refine aK fun a ha=>?_))
   try simp_arith only[ag,ae,aQ,aR,aE,aS,aG,ay]
   generalize rl.b.snd=cs
   refine lG (fun _:Int=>True) (fun z=>.nx [some .reel,some (.d (.int m)),none,some (.d (.int a)),some (.d (.int z)),none]) ?_ ?_
   · intro Q' hQ' _ _
     refine cL (shaped_ints cs) (rj (fun he=>?_) fun _=>hQ' 0 trivial)
     intro _ _ _ _
     have he:cs≠[]:=by rintro rfl;exact absurd he (by decide)
     have hz:(0:Int)<(cs.length:Int):=by have:=KF.mpr he;omega
     refine cL (by omega) ?_
     obtain⟨z,ez,_⟩:=mM (xs:=cs) (Jn a hz) (J0 a hz)
     rw[ez]
     exact hQ' z trivial
   · intro z _
     have t0:(10:Int)^JK 18<=z->0<=z:=fun h=>Int.le_trans (by decide) h
     repeat' (first|exact av (hQ _ (fm _))|((with_reducible refine cL ?_ ?_);(first|exact hmd _|exact hnn _ (by assumption)|exact hnn _ (t0 (by simp_all))|exact c1 _|exact c2 _|exact c3 _|exact c4 _|exact d6 _|exact hX.of (by decide) (by decide)|exact⟨by decide,by decide,by decide⟩|omega|assumption|decide))|(with_reducible refine aD fun _ _=>?_)|(with_reducible refine aK fun _ _=>?_)|(with_reducible refine cV (fun _=>?_) fun _=>?_)|(simp_arith only[ae,aQ,aR,aE,aS,aG,ay]))
noncomputable def bi:List W->(Hy->Prop)->Prop:=fun ws Q=>∃(a b:Int),ws=[.d (.int a),.d (.int b)]/\((0<b)/\(b.natAbs<2^8000))/\Q (fr (qd a b))
theorem bi.mono:∀ws (Q Q':Hy->Prop),(∀d,Q d->Q' d)->bi ws Q->bi ws Q':=fun _ _ _ h_=>HD fun _=>HD fun _=>HA (HA (h_ _))
theorem bi.len:∀ws (Q:Hy->Prop),bi ws Q->ws.length=2:=fun _ _ h_=>by obtain⟨_,_,e_,_⟩:=h_;subst e_;rfl
theorem bi.eq(a b:Int)(hb:0<b)(hz:b.natAbs<2^8000):bi [.d (.int a),.d (.int b)]=VL.ret (fr (qd a b):Hy):=by
 refine ak fun Q=>⟨?_,fun q_=>⟨a,b,rfl,⟨hb,hz⟩,q_⟩⟩
 rintro⟨a',b',e_,_,q_⟩
 simp_arith only[cX,bw,bx,aO,aN,bE]at e_
 obtain⟨rfl,rfl⟩:=e_
 exact q_
theorem jK:FnScope ["_law_top", "_law_bottom", "_law_one", "_law_other"] ["_law_top", "_law_bottom"] (defScope (Ed 53)):=⟨rfl,rfl,rfl,by decide +kernel,rfl,by decide +kernel,by decide +kernel⟩
theorem d__law_frac(Fn:FnIn K mg "_law_frac" (Ed 53) ["_law_top", "_law_bottom"])(Z:Bz mg)    : Dfn P w K mg base rl "_law_frac" ["_law_top", "_law_bottom"] 1 bi:=by
 have sc:=jK
 refine Dfn.of Fn sc (bi.mono) (bi.len) (fun cdv A outer s H E hr=>(af (lw 2 3 rfl sc.nd (aa (wn Z.abs_ (aa (vn 0) ab)) (aa (vn 1) ab)))
  (af (jr [] I_ (az jb iM (aw _) (vn 3) ac) (aj (lw 2 3 rfl sc.nd (aa (vn 3) (aa (v_mod (vn 2) (vn 3)) ab)))))
  (aj (ar (aP (aa (v_div (vn 0) (vn 2)) (aa (v_div (vn 1) (vn 2)) ab)))))))) ?_
 rintro ws Q ⟨a,b,rfl,⟨hb,hz⟩,hQ⟩
 refine aB ?_
 have e:Ju (if a<0 then -a else a) b=Ju a b:=by split<;>simp[Ju]
 simp_arith only[ae]
 refine lr (σ:=Int×Int) (fun s=>[some (.d (.int a)),some (.d (.int b)),some (.d (.int s.1)),some (.d (.int s.2))]) (fun s=>decide (0<s.2)) (fun s=>(s.2,s.1.fmod s.2)) (fun s=>s.2.natAbs) (fun s=>0<=s.1/\0<=s.2/\Ju s.1 s.2=Ju a b) (if a<0 then -a else a,b) rfl ⟨by dsimp only;split<;>omega,by dsimp only;omega,e⟩ ?_ ?_ ?_
 · intro s _
   simp_arith only[ae]
 · rintro s ⟨h1,h2,e⟩ c
   have hc:0<s.2:=by simpa using c
   have hc':s.2≠0:=by omega
   refine⟨⟨h2,Jn _ hc,by rw[lT];exact e⟩,gJ hc',_,?_,rfl⟩
   simp_arith only[ag,ae]
 · rintro s ⟨h1,h2,e⟩ c
   have hc:¬0<s.2:=by simpa using c
   have hc:s.2=0:=by omega
   rw[hc,Int.gcd_zero_right]at e
   have ex:s.1=(Ju a b:Int):=by omega
   have c1:hX a (Ju a b:Int):=jg hb hz _
   have c2:hX b (Ju a b:Int):=jg hb hz _
   simp_arith only[ag,ae,ex]
   rw[sW hb]
   exact av hQ
noncomputable def Gd(q:Rat):Prop:=EN 45 q/\0<=q/\q<1
noncomputable def Ga(x y:Int):Int:=(if decide (y<x)=true then(1:Int)else 0)-(if decide (x<y)=true then(1:Int)else 0)
noncomputable def F_(q r:Rat):Int:=if r<q then 1 else if q<r then -1 else 0
theorem yB(q r:Rat):decide (F_ q r<=0)=decide (q<=r):=by
 unfold F_
 by_cases h:r<q
 · rw[if_pos h];simp;exact Rat.not_le.mpr h
 · rw[if_neg h];have:=Kj.mp h;split<;>simp[this]
theorem fS(q r:Rat):decide (F_ q r<0)=decide (q<r):=by
 unfold F_
 by_cases h:r<q
 · rw[if_pos h];simp;exact Kj.mpr (Kq h)
 · rw[if_neg h]
   by_cases h2:q<r
   · rw[if_pos h2];simp[h2]
   · rw[if_neg h2];simp[h2]
noncomputable def EU(x:Int×Int):Hy:=.tuple [.int x.1,.int x.2]
theorem zY{x y:Int×Int}:EU x=EU y↔x=y:=⟨fun h=>by obtain⟨a,b⟩:=x;obtain⟨c,d⟩:=y;unfold EU at h;cases h;rfl,fun h=>by rw[h]⟩
noncomputable def bc:List W->(Hy->Prop)->Prop:=fun ws Q=>∃(x y:Int×Int),ws=[.d (EU x),.d (EU y)]/\((Ht x.1)/\(Ht x.2)/\(Ht y.1)/\(Ht y.2))/\Q (.int (Ga (x.1*y.2) (y.1*x.2)))
theorem bc.mono:∀ws (Q Q':Hy->Prop),(∀d,Q d->Q' d)->bc ws Q->bc ws Q':=fun _ _ _ h_=>HD fun _=>HD fun _=>HA (HA (h_ _))
theorem bc.len:∀ws (Q:Hy->Prop),bc ws Q->ws.length=2:=fun _ _ h_=>by obtain⟨_,_,e_,_⟩:=h_;subst e_;rfl
theorem bc.eq(x y:Int×Int)(h1:Ht x.1)(h2:Ht x.2)(h3:Ht y.1)(h4:Ht y.2):bc [.d (EU x),.d (EU y)]=VL.ret (.int (Ga (x.1*y.2) (y.1*x.2)):Hy):=by
 refine ak fun Q=>⟨?_,fun q_=>⟨x,y,rfl,⟨h1,h2,h3,h4⟩,q_⟩⟩
 rintro⟨x',y',e_,_,q_⟩
 simp_arith only[cX,bw,bx,aO,aN,bE,zY]at e_
 obtain⟨rfl,rfl⟩:=e_
 exact q_
theorem kI:FnScope ["_law_one", "_law_other", "_law_left", "_law_right_here"] ["_law_one", "_law_other"] (defScope (Ed 54)):=⟨rfl,rfl,rfl,by decide +kernel,rfl,by decide +kernel,by decide +kernel⟩
theorem d__law_cmp(Fn:FnIn K mg "_law_cmp" (Ed 54) ["_law_one", "_law_other"])(Z:Bz mg)    : Dfn P w K mg base rl "_law_cmp" ["_law_one", "_law_other"] 1 bc:=by
 have sc:=kI
 refine Dfn.of Fn sc (bc.mono) (bc.len) (fun cdv A outer s H E hr=>(af (ax 2 sc.nd (v_mul (aL (vn 0) ac) (aL (vn 1) ac)))
  (af (ax 3 sc.nd (v_mul (aL (vn 1) ac) (aL (vn 0) ac)))
  (aj (ar (v_sub (eF Z.int_ (aa (cW jb iM (aw _) (vn 2) (vn 3)) ab)) (eF Z.int_ (aa (cW dE dY (aw _) (vn 2) (vn 3)) ab)))))))) ?_
 rintro ws Q ⟨x,y,rfl,⟨h1,h2,h3,h4⟩,hQ⟩
 refine aB ?_
 have m1:bV x.1 y.2:=.bb h1 h4
 have m2:bV y.1 x.2:=.bb h3 h2
 simp_arith only[ag,ae,Hv,EU]
 exact av hQ
theorem bc.eqQ(q r:Rat)(h1:EN 2000 q)(h2:EN 2000 r):bc [.d (fr q),.d (fr r)]=VL.ret (.int (F_ q r):Hy):=by
 have e:=bc.eq (q.num,(q.den:Int)) (r.num,(r.den:Int)) h1.bn h1.bd h2.bn h2.bd
 have z:Ga (q.num*(r.den:Int)) (r.num*(q.den:Int))=F_ q r:=by
  unfold Ga F_
  rw[vA,vA]
  by_cases a:r<q
  · have b:¬q<r:=Kj.mpr (Kq a)
    simp[a,b]
  · by_cases b:q<r<;>simp[a,b]
 have e:bc [.d (fr q),.d (fr r)]=VL.ret (.int (Ga (q.num*(r.den:Int)) (r.num*(q.den:Int))):Hy):=e
 rw[z]at e
 exact e
theorem yk{a b:List Rat}:a.map fr=b.map fr↔a=b:=JN fun x y h=>fx h
noncomputable def bR:List W->(Hy->Prop)->Prop:=fun ws Q=>∃(qs:List Rat)(b:Bool),ws=[.reel,.d (.list (qs.map fr)),.d (.bool b)]/\((∀q∈qs,Gd q)/\(qs.length<1000))/\∀q:Rat,(Gd q)->Q (fr q)
theorem bR.mono:∀ws (Q Q':Hy->Prop),(∀d,Q d->Q' d)->bR ws Q->bR ws Q':=fun _ _ _ h_=>HD fun _=>HD fun _=>HA (HA fun q_ o_ ho_=>h_ _ (q_ o_ ho_))
theorem bR.len:∀ws (Q:Hy->Prop),bR ws Q->ws.length=3:=fun _ _ h_=>by obtain⟨_,_,e_,_⟩:=h_;subst e_;rfl
theorem bR.eq(qs:List Rat)(b:Bool)(hq:∀q∈qs,Gd q)(hl:qs.length<1000):bR [.reel,.d (.list (qs.map fr)),.d (.bool b)]=Gh (anyM fun q:Rat=>Gd q) fun q=>VL.ret (fr q:Hy):=by
 refine ak fun Q=>⟨?_,fun q_=>⟨qs,b,rfl,⟨hq,hl⟩,q_⟩⟩
 rintro⟨qs',b',e_,_,q_⟩
 simp_arith only[cX,bw,bx,aO,aN,bE,yk]at e_
 obtain⟨rfl,rfl⟩:=e_
 exact q_
theorem g_:FnScope ["_law_feed_here", "_law_seen", "_law_is_first", "_law_way", "_law_some", "_law_bottom", "_law_top"] ["_law_feed_here", "_law_seen", "_law_is_first"] (defScope (Ed 55)):=⟨rfl,rfl,rfl,by decide +kernel,rfl,by decide +kernel,by decide +kernel⟩
theorem d__law_number(Fn:FnIn K mg "_law_number" (Ed 55) ["_law_feed_here", "_law_seen", "_law_is_first"])(Z:Bz mg)(d__law_draw:∀rl,Dfn P w K mg base rl "_law_draw" ["_law_feed_here", "_law_many"] 1 aT)(d__law_frac:∀rl,Dfn P w K mg base rl "_law_frac" ["_law_top", "_law_bottom"] 1 bi)   : Dfn P w K mg base rl "_law_number" ["_law_feed_here", "_law_seen", "_law_is_first"] 2 bR:=by
 have sc:=g_
 refine Dfn.of Fn sc (bR.mono) (bR.len) (fun cdv A outer s H E hr=>(af (ax 3 sc.nd (ai (d__law_draw _) (hr.mono (by decide)) (aa (vn 0) (aa ac ab))))
  (af (aU (az (bM hr.units) aZ (aw _) (vn 3) ac) (aj (ar (aP (aa ac (aa ac ab))))) aH)
  (af (aU (G0.pb (d7 (az dE dY (aw _) (vn 3) ac) (df (az (eN hr.units) aZ (aw _) (vn 1) (cH ab))))) (aj (ar (aL (vn 1) (ai (d__law_draw _) (hr.mono (by decide)) (aa (vn 0) (aa (cv Z.len_ (aa (vn 1) ab)) ab)))))) aH)
  (af (ax 4 sc.nd (cH (aa ac (aa ac (aa ac (aa ac (aa ac (aa ac (aa ac (aa ac (aa ac (aa ac ab))))))))))))
  (af (aU (bZ (vn 2)) (aj (ax 4 sc.nd (h9 (cH (aa ac (aa ac (aa ac (aa ac (aa ac (aa ac (aa ac ab)))))))) (m8 (cH (aa (v_sub (v_pow ac ac) ac) ab)) ac)))) aH)
  (af (ax 5 sc.nd (aL (vn 4) (ai (d__law_draw _) (hr.mono (by decide)) (aa (vn 0) (aa ac ab)))))
  (af (ax 6 sc.nd (v_mod (v_add (v_mul (ai (d__law_draw _) (hr.mono (by decide)) (aa (vn 0) (aa (v_pow ac ac) ab))) (v_pow ac ac)) (ai (d__law_draw _) (hr.mono (by decide)) (aa (vn 0) (aa (v_pow ac ac) ab)))) (vn 5)))
  (aj (ar (ai (d__law_frac _) (hr.mono (by decide)) (aa (aL (cH (aa (vn 6) (aa (vn 6) (aa (v_sub (vn 5) ac) (aa ac ab))))) (ai (d__law_draw _) (hr.mono (by decide)) (aa (vn 0) (aa ac ab)))) (aa (vn 5) ab))))))))))))) ?_
 rintro ws Q ⟨qs,b,rfl,⟨hq,hl⟩,hQ⟩
 refine aB ?_
 have sz:=HV
 simp_arith only[ag,ae,aQ,aR,aE,aS,aG,ay,Hv,aT.eq]
 (with_reducible (first|refine aD fun w hw=>?_|refine aK fun w hw=>?_))
 have s0:HI (.list [])=true:=rfl
 have sf:=ii qs
 have ev:HC (.list (qs.map fr)) (.list [])=qs.isEmpty:=by rw[kZ];cases qs<;>rfl
 have eqi:∀i j:Int,HC (.int i) (.int j)=(i==j):=fun i j=>by simp[HC]
 have g0:Gd 0:=⟨⟨by decide,by decide⟩,Nb,by decide⟩
 simp_arith only[ag,ae,aQ,aR,aE,aS,aG,ay,Hv,aT.eq,s0,sf,ev,eqi]
 refine cV (fun _=>av (hQ 0 g0)) fun _=>?_
 refine cV (fun hc=>?_) fun _=>?_
 · have hn:qs≠[]:=by rintro rfl;simp at hc
   have hz:(0:Int)<(qs.length:Int):=by have:=KF.mpr hn;omega
   have hb:(qs.length:Int)<2^60:=by omega
   simp_arith only[ag,ae,aQ,aR,aE,aS,aG,ay,Hv,aT.eq]
   (with_reducible (first|refine aD fun j hj=>?_|refine aK fun j hj=>?_))
   obtain⟨r,er,mr⟩:=mM (xs:=qs) hj.1 hj.2
   rw[bF,er]
   exact av (hQ r (hq r mr))
 · have c12:zd 10 12:=⟨by decide,by decide,by decide⟩
   have c6:zd 10 6:=⟨by decide,by decide,by decide⟩
   refine cV (fun _=>?_) fun _=>?_
   · refine cL c12 ?_
     (with_reducible (first|refine aD fun t ht=>?_|refine aK fun t ht=>?_))
     refine Et (c_ (xs:=[2,3,5,12,97,1000,1000,10^JK 12-11,10^JK 12-11,10^JK 12-11]) (enc:=Io) (fun y:Int=>2<=y/\y<2^41) rfl ht.1 (by simpa using ht.2) (by decide) fun y hy=>?_)
     have y0:y≠0:=by omega
     have h6a:(0:Int)<10^JK 6:=by decide
     have h6b:(10:Int)^JK 6<2^60:=by decide
     have cm:∀z:Int,bV z (10^JK 6):=fun z=>.rt (by decide)
     simp_arith only[ag,ae,aQ,aR,aE,aS,aG,ay,Hv,aT.eq,c6,cm]
     (with_reducible (first|refine aD fun u hu=>?_|refine aK fun u hu=>?_))
     try simp_arith only[ag,ae,aQ,aR,aE,aS,aG,ay,Hv,aT.eq]
     (with_reducible (first|refine aD fun v hv=>?_|refine aK fun v hv=>?_))
     have hx0:=Jn (u*10^JK 6+v) (show 0<y by omega)
     have hx1:=J0 (u*10^JK 6+v) (show 0<y by omega)
     generalize (u*10^JK 6+v).fmod y=x at hx0 hx1 ⊢
     try simp_arith only[ag,ae,aQ,aR,aE,aS,aG,ay,Hv,aT.eq]
     (with_reducible (first|refine aD fun e he=>?_|refine aK fun e he=>?_))
     have hb:0<y:=by omega
     have hz:y.natAbs<2^8000:=HJ (show y.natAbs<2^41 by omega) (HP (by decide) (by decide))
     refine c_ (xs:=[x,x,y-1,1]) (enc:=Io) (fun z:Int=>0<=z/\z<y) rfl he.1 (by simpa using he.2) (by intro z hz;simp at hz;omega) fun z hz1=>?_
     simp_arith only[ag,ae,bi.eq]
     exact av (hQ _ ⟨n8 hb (by omega) (by omega),n_ hb hz1.1,sP hb hz1.2⟩)
   · (with_reducible (first|refine aD fun t ht=>?_|refine aK fun t ht=>?_))
     refine Et (c_ (xs:=[2,3,4,5,6,8,12,97,7,11]) (enc:=Io) (fun y:Int=>2<=y/\y<2^41) rfl ht.1 (by simpa using ht.2) (by decide) fun y hy=>?_)
     have y0:y≠0:=by omega
     have h6a:(0:Int)<10^JK 6:=by decide
     have h6b:(10:Int)^JK 6<2^60:=by decide
     have cm:∀z:Int,bV z (10^JK 6):=fun z=>.rt (by decide)
     simp_arith only[ag,ae,aQ,aR,aE,aS,aG,ay,Hv,aT.eq,c6,cm]
     (with_reducible (first|refine aD fun u hu=>?_|refine aK fun u hu=>?_))
     try simp_arith only[ag,ae,aQ,aR,aE,aS,aG,ay,Hv,aT.eq]
     (with_reducible (first|refine aD fun v hv=>?_|refine aK fun v hv=>?_))
     have hx0:=Jn (u*10^JK 6+v) (show 0<y by omega)
     have hx1:=J0 (u*10^JK 6+v) (show 0<y by omega)
     generalize (u*10^JK 6+v).fmod y=x at hx0 hx1 ⊢
     try simp_arith only[ag,ae,aQ,aR,aE,aS,aG,ay,Hv,aT.eq]
     (with_reducible (first|refine aD fun e he=>?_|refine aK fun e he=>?_))
     have hb:0<y:=by omega
     have hz:y.natAbs<2^8000:=HJ (show y.natAbs<2^41 by omega) (HP (by decide) (by decide))
     refine c_ (xs:=[x,x,y-1,1]) (enc:=Io) (fun z:Int=>0<=z/\z<y) rfl he.1 (by simpa using he.2) (by intro z hz;simp at hz;omega) fun z hz1=>?_
     simp_arith only[ag,ae,bi.eq]
     exact av (hQ _ ⟨n8 hb (by omega) (by omega),n_ hb hz1.1,sP hb hz1.2⟩)
noncomputable def Pg(s:Nat)(ps:List (List Rat)):Prop:=∀p∈ps,p.length=s/\∀q∈p,Gd q
noncomputable def AL(s m:Nat)(ps:List (List Rat)):Prop:=1<=ps.length/\ps.length<=m+2/\Pg s ps/\∃bs:List (List Rat),bs.length<=m/\∀p∈ps,p∈bs
noncomputable def tE(cols:List (List Rat)):List (List Hy):=cols.map fun c=>c.map fr
theorem tD{cols:List (List Rat)}(h:n<cols.length):(tE cols)[n]?=some (cols[n].map fr):=by unfold tE;rw[Ix,HZ h];rfl
theorem vK{cols:List (List Rat)}(h:n<cols.length):(tE cols).set n (cols[n].map fr++[fr q])=tE (cols.set n (cols[n]++[q])):=by unfold tE;rw[MY,IS];rfl
noncomputable def Cu(s i n:Nat)(cols:List (List Rat)):Prop:=cols.length=s/\(∀j (h:j<cols.length),cols[j].length<=i+(if j<n then 1 else 0))/\∀c∈cols,∀q∈c,Gd q
theorem xV{m:(W->Prop)->Prop}{Q:W->Prop}(h:∀Q':W->Prop,(∀b,Q' (.d (.bool b)))->m Q')(fin:∀b,Q (.d (.bool b))):m Q:=h Q fin
theorem jR{y:Hy}(h:(cO 0 n)[i]?=some y):i<n/\y = .int (i:Int):=by
 have e:cO 0 n=(Jj n).map fun j:Nat=>Io (0+(j:Int)):=rfl
 rw[e,Ix]at h
 cases q:(Jj n)[i]? with
 | none=>rw[q]at h;cases h
 | some z =>
   rw[q]at h
   obtain⟨hl,hz⟩:=H0.mp q
   rw[List.length_range]at hl
   rw[List.getElem_range]at hz
   subst hz
   cases h
   exact⟨hl,by show Io (0+(i:Int))=_;rw[Int.zero_add]⟩
noncomputable def bQ:List W->(Hy->Prop)->Prop:=fun ws Q=>∃(s m:Int),ws=[.reel,.d (.int s),.d (.int m)]/\((1<=s)/\(s<=4)/\(1<=m)/\(m<=6))/\∀ps:List (List Rat),(AL s.toNat m.toNat ps)->Q (ptsQ ps)
theorem bQ.mono:∀ws (Q Q':Hy->Prop),(∀d,Q d->Q' d)->bQ ws Q->bQ ws Q':=fun _ _ _ h_=>HD fun _=>HD fun _=>HA (HA fun q_ o_ ho_=>h_ _ (q_ o_ ho_))
theorem bQ.len:∀ws (Q:Hy->Prop),bQ ws Q->ws.length=3:=fun _ _ h_=>by obtain⟨_,_,e_,_⟩:=h_;subst e_;rfl
theorem bQ.eq(s m:Int)(s1:1<=s)(s4:s<=4)(m1:1<=m)(m6:m<=6):bQ [.reel,.d (.int s),.d (.int m)]=Gh (anyM fun ps:List (List Rat)=>AL s.toNat m.toNat ps) fun ps=>VL.ret (ptsQ ps:Hy):=by
 refine ak fun Q=>⟨?_,fun q_=>⟨s,m,rfl,⟨s1,s4,m1,m6⟩,q_⟩⟩
 rintro⟨s',m',e_,_,q_⟩
 simp_arith only[and_true]at e_
 obtain⟨rfl,rfl⟩:=e_
 exact q_
theorem g9:FnScope ["_law_feed_here", "_law_s", "_law_most", "_law_columns", "_law_found", "_law_j", "_law_point", "_law_k", "_law_x", "_law_again"] ["_law_feed_here", "_law_s", "_law_most"] (defScope (Ed 56)):=⟨rfl,rfl,rfl,by decide +kernel,rfl,by decide +kernel,by decide +kernel⟩
theorem d__law_points(Fn:FnIn K mg "_law_points" (Ed 56) ["_law_feed_here", "_law_s", "_law_most"])(Z:Bz mg)(d__law_draw:∀rl,Dfn P w K mg base rl "_law_draw" ["_law_feed_here", "_law_many"] 1 aT)(d__law_number:∀rl,Dfn P w K mg base rl "_law_number" ["_law_feed_here", "_law_seen", "_law_is_first"] 2 bR)   : Dfn P w K mg base rl "_law_points" ["_law_feed_here", "_law_s", "_law_most"] 3 bQ:=by
 have sc:=g9
 refine Dfn.of Fn sc (bQ.mono) (bQ.len) (fun cdv A outer s H E hr=>(Af 3 sc.nd ["_law_k"] [none] rfl (de Z.range_ (aa (vn 1) ab)) (fun _=>am 0 (show IT (["_law_k"]:List Str) by decide +kernel)) (eO (vP (sv 4 sc.nd (cH ab))) (eO (x4 I_ rfl (de Z.range_ (aa (v_add ac (ai (d__law_draw _) (hr.mono (by decide)) (aa (vn 0) (aa (vn 2) ab)))) ab)) (am 5 sc.nd) (eO (vP (ax 6 sc.nd (aP ab))) (eO (x4 I_ rfl (de Z.range_ (aa (vn 1) ab)) (am 7 sc.nd) (eO (Ai 8 0 3 7 sc.nd (d__law_number _) (hr.mono (by decide)) (v_and (cW (bM hr.units) aZ (aw _) (vn 4) (cH ab)) (iQ (cW (bM hr.units) aZ (aw _) (vn 7) ac)))) (eO (Aj 3 7 8) (eO (vP (ax 6 sc.nd (eI (vn 6) (aP (aa (vn 8) ab))))) uX)))) (eO (vP (sA 4 (aa (vn 6) ab))) uX)))) (eO (vP (dG [5,9] I_ rfl (de Z.range_ (aa (ai (d__law_draw _) (hr.mono (by decide)) (aa (vn 0) (aa ac ab))) ab)) (am 5 sc.nd) (af (ax 9 sc.nd (aL (vn 4) (ai (d__law_draw _) (hr.mono (by decide)) (aa (vn 0) (aa (cv Z.len_ (aa (vn 4) ab)) ab)))))
  (aj (vZ 4 (aa (ai (d__law_draw _) (hr.mono (by decide)) (aa (vn 0) (aa (v_add (cv Z.len_ (aa (vn 4) ab)) ac) ab))) (aa (vn 9) ab))))))) (eO (vP (ar (gi Z.tuple_ (aa (vn 4) ab)))) uX)))))) ?_
 rintro ws Q ⟨s,m,rfl,⟨s1,s4,m1,m6⟩,hQ⟩
 have sz:=HV
 have gs : -(2^62)<=s/\s<2^62:=by omega
 unfold Ff
 have e0:FH (ju (tZ 1) sE) [some .reel,some (.d (.int s)),some (.d (.int m)),none,none,none,none,none,none,none]=VL.ret (cO 0 s.toNat):=by
  simp_arith only[ag,ae]
 refine(show FH (ju (tZ 1) sE) [some .reel,some (.d (.int s)),some (.d (.int m)),none,none,none,none,none,none,none] _ from ?_)
 rw[e0]
 refine⟨uS rfl,fun x=>by show Le [none] [some (.d x)];rw[le_cn,le_nil];trivial,by rw[cJ];omega,fun a=>iA ?_⟩
 rw[cJ]
 simp_arith only[ag,ae]
 refine oM ?_
 dsimp only
 refine dQ ?_
 have e1:FH (ju (D3 (FV fun i j=>Io (i+j)) (vC (Io 1)) (zk aT (ju (tZ 0) (ju (tZ 2) sE)))) sE) [some .reel,some (.d (.int s)),some (.d (.int m)),some (.vv (.ref a)),some (.ml []),none,none,none,none,none]=Gh (anyM fun k:Int=>0<=k/\k<m) fun k=>FP (-(2^62)<=1+k/\1+k<2^62) (VL.ret (cO 0 (1+k).toNat)):=by
  have g1:0<m:=by omega
  have g2:m<2^60:=by omega
  simp_arith only[ag,ae,aT.eq]
 refine oN ?_
 rw[e1]
 intro k hk
 refine⟨by omega,fun i xss ρ=>∃(cols bs:List (List Rat))(o5 o6 o7 o8:Option W),xss=tE cols/\Cu s.toNat i 0 cols/\bs.length=i/\Pg s.toNat bs/\ρ=[some .reel,some (.d (.int s)),some (.d (.int m)),some (.vv (.ref a)),some (.ml (bs.map ET)),o5,o6,o7,o8,none],?_,?_,?_⟩
 · exact⟨HR s.toNat [],[],none,none,none,none,by simp[tE],⟨by simp,by simp,by simp⟩,rfl,by simp[Pg],rfl⟩
 · rintro i y xss ρ ey ⟨cols,bs,o5,o6,o7,o8,rfl,hc,hb,hp,rfl⟩
   obtain⟨hi,rfl⟩:=jR ey
   refine yf ?_
   dsimp only
   refine dQ (iA ?_)
   simp_arith only[ag,ae]
   refine oM ?_
   dsimp only
   refine dQ ?_
   refine oN ?_
   have e2:FH (ju (tZ 1) sE) [some .reel,some (.d (.int s)),some (.d (.int m)),some (.vv (.ref a)),some (.ml (bs.map ET)),some (.d (.int (i:Int))),some (.d (.tuple [])),o7,o8,none]=VL.ret (cO 0 s.toNat):=by
    simp_arith only[ag,ae]
   rw[e2]
   refine⟨fun n xss ρ=>∃(cols:List (List Rat))(pt:List Rat)(o7 o8:Option W),xss=tE cols/\Cu s.toNat i n cols/\pt.length=n/\(∀q∈pt,Gd q)/\ρ=[some .reel,some (.d (.int s)),some (.d (.int m)),some (.vv (.ref a)),some (.ml (bs.map ET)),some (.d (.int (i:Int))),some (.d (ET pt)),o7,o8,none],⟨cols,[],o7,o8,rfl,hc,rfl,by simp,rfl⟩,?_,?_⟩
   · rintro n y xss ρ ey ⟨cols,pt,o7,o8,rfl,⟨cl,c1,c2⟩,pl,hpt,rfl⟩
     obtain⟨hn,rfl⟩:=jR ey
     have hnl:n<cols.length:=by omega
     refine yf ?_
     dsimp only
     refine dQ ⟨rfl,rfl,n,_,rfl,tD hnl,?_⟩
     refine xV (fun Q' hQ'=>?_) fun bb=>⟨bb,rfl,?_⟩
     · have s0:HI (.list [])=true:=rfl
       have sp:=mh bs
       have eqi:∀i j:Int,HC (.int i) (.int j)=(i==j):=fun i j=>by simp[HC]
       simp_arith only[ag,ae,s0,sp,eqi]
       first|exact hQ' _|(split<;>exact hQ' _)|(refine cV (fun _=>?_) (fun _=>?_)<;>exact hQ' _)
     · have hq:∀q∈cols[n],Gd q:=c2 _ (Jr hnl)
       have hl:cols[n].length<1000:=by have:=c1 n hnl;rw[if_neg (by omega)]at this;omega
       rw[bR.eq _ _ hq hl]
       intro q hqq
       refine⟨⟨q.num,q.den,rfl⟩,?_⟩
       dsimp only
       refine dQ ⟨rfl,n,_,_,rfl,tD hnl,rfl,by rw[HM];omega,?_⟩
       rw[vK hnl]
       dsimp only
       refine dQ (iA ?_)
       have pl4:pt.length+1<=sizeLine:=by omega
       simp_arith only[ag,ae,Hv]
       refine oM ?_
       dsimp only
       refine lM ?_
       dsimp only
       refine⟨cols.set n (cols[n]++[q]),pt++[q],some (.d (.int (n:Int))),some (.d (fr q)),rfl,⟨by simp[cl],fun j hj=>?_,fun c mc r mr=>?_⟩,by simp[pl],fun r mr=>?_,by simp[ET,IS]⟩
       · by_cases e:n=j
         · subst e
           rw[List.getElem_set_self,Ij,if_pos (by omega)]
           have:=c1 n hnl
           rw[if_neg (by omega)]at this
           simp;omega
         · rw[List.getElem_set_ne e]
           have:=c1 j (by simpa using hj)
           by_cases l:j<n
           · rw[if_pos l]at this;rw[if_pos (by omega)];exact this
           · rw[if_neg l]at this;rw[if_neg (by omega)];exact this
       · rcases Jp mc with h|h
         · exact c2 c h r mr
         · subst h
           rcases Jw.mp mr with h|h
           · exact hq r h
           · cases Jl.mp h;exact hqq
       · rcases Jw.mp mr with h|h
         · exact hpt r h
         · cases Jl.mp h;exact hqq
   · rintro xss ρ ⟨cols,pt,o7,o8,rfl,hc,pl,hpt,rfl⟩
     rw[cJ]at pl hc
     dsimp only
     refine dQ (iA ?_)
     have bl:bs.length<sizeLine:=by omega
     simp_arith only[ag,ae,Hv]
     refine oM ?_
     dsimp only
     refine lM ?_
     dsimp only
     refine⟨cols,bs++[pt],some (.d (.int (i:Int))),some (.d (ET pt)),o7,o8,rfl,⟨hc.1,fun j hj=>?_,hc.2.2⟩,by simp[hb],fun p mp=>?_,by simp[IS]⟩
     · have:=hc.2.1 j hj
       split at this<;>simp<;>omega
     · rcases Jw.mp mp with h|h
       · exact hp p h
       · cases Jl.mp h;exact⟨pl,hpt⟩
 · rintro xss ρ ⟨cols,bs,o5,o6,o7,o8,rfl,hc,hb,hp,rfl⟩
   rw[cJ]at hb
   dsimp only
   refine dQ (iA ?_)
   simp_arith only[ag,ae,aT.eq]
   intro c hc3
   refine⟨by omega,Cs ?_⟩
   refine jd (fun i ρ=>∃ps:List (List Rat),1<=ps.length/\ps.length<=bs.length+i/\(∀p∈ps,p∈bs)/\ρ=[some .reel,some (.d (.int s)),some (.d (.int m)),some (.vv (.ref a)),some (.ml (ps.map ET)),none,o6,o7,o8,none]) ⟨bs,by omega,by omega,fun p h=>h,rfl⟩ ?_ ?_
   · rintro i hi ρ ⟨ps,p1,p2,pm,rfl⟩ K hK
     have g1:0<(ps.length:Int):=by omega
     have g2:(ps.length:Int)<2^60:=by omega
     have g3:0<(ps.length:Int)+1:=by omega
     have g4:(ps.length:Int)+1<2^60:=by omega
     simp_arith only[ag,ae,Hv,aT.eq]
     (with_reducible (first|refine aD fun e he=>?_|refine aK fun e he=>?_))
     obtain⟨r,er,mr⟩:=mM (xs:=ps) he.1 he.2
     have er2:atI (ps.map ET) e=some (ET r):=by rw[bF,er];rfl
     simp_arith only[ag,ae,Hv,aT.eq,er2]
     intro u hu
     have ls:ps.length<sizeLine:=by omega
     simp_arith only[ag,ae,Hu]
     have ei:insAt (ps.map ET) u.toNat (ET r)=(insAt ps u.toNat r).map ET:=by unfold insAt;simp[IS,MO,List.map_drop]
     rw[ei]
     have ml:(insAt ps u.toNat r).length=ps.length+1:=by unfold insAt;simp;omega
     have mm:∀p∈insAt ps u.toNat r,p∈bs:=fun p mp=>by
      have:p=r\/p∈ps:=by
       unfold insAt at mp
       simp only[Jw,IC,JC,or_false]at mp
       rcases mp with h|h
       · first|exact .inr (J5 h)|(rcases h with h|h;exact .inr (J5 h);exact .inl h)
       · first|exact .inr (Mq h)|(rcases h with h|h;exact .inl h;exact .inr (Mq h))
      rcases this with rfl|h
      · exact pm _ mr
      · exact pm p h
     exact hK _ (dF ⟨insAt ps u.toNat r,by omega,by omega,mm,rfl⟩)
   · rintro ρ ⟨ps,p1,p2,pm,rfl⟩
     refine oM ?_
     dsimp only
     refine dQ (iA ?_)
     have ls:ps.length<=sizeLine:=by omega
     simp_arith only[ag,ae,Hv,wD]
     exact Ag ⟨_,rfl,hQ ps ⟨p1,by omega,fun p mp=>hp p (pm p mp),bs,by omega,pm⟩⟩
noncomputable def aY:List W->(Hy->Prop)->Prop:=fun ws Q=>∃(i j:Int),ws=[.d (.int i),.d (.int j)]/\(True)/\Q (.int (Ju i j:Nat))
theorem aY.mono:∀ws (Q Q':Hy->Prop),(∀d,Q d->Q' d)->aY ws Q->aY ws Q':=fun _ _ _ h_=>HD fun _=>HD fun _=>HA (HA (h_ _))
theorem aY.len:∀ws (Q:Hy->Prop),aY ws Q->ws.length=2:=fun _ _ h_=>by obtain⟨_,_,e_,_⟩:=h_;subst e_;rfl
theorem aY.eq(i j:Int)  : aY [.d (.int i),.d (.int j)]=VL.ret (.int (Ju i j:Nat):Hy):=by
 refine ak fun Q=>⟨?_,fun q_=>⟨i,j,rfl,trivial,q_⟩⟩
 rintro⟨i',j',e_,_,q_⟩
 simp_arith only[and_true]at e_
 obtain⟨rfl,rfl⟩:=e_
 exact q_
theorem fC:FnScope ["one", "other"] ["one", "other"] (defScope (Ed 9)):=⟨rfl,rfl,rfl,by decide +kernel,rfl,by decide +kernel,by decide +kernel⟩
theorem d_common_divisor(Fn:FnIn K mg "common_divisor" (Ed 9) ["one", "other"])(Z:Bz mg)    : Dfn P w K mg base rl "common_divisor" ["one", "other"] 1 aY:=by
 have sc:=fC
 refine Dfn.of Fn sc (aY.mono) (aY.len) (fun cdv A outer s H E hr=>(af (jr [] I_ (az (eN hr.units) aZ (aw _) (vn 1) ac) (aj (lw 0 1 rfl sc.nd (aa (vn 1) (aa (v_mod (vn 0) (vn 1)) ab)))))
  (aj (ar (wn Z.abs_ (aa (vn 0) ab)))))) ?_
 rintro ws Q ⟨i,j,rfl,_,hQ⟩
 refine aB ?_
 simp_arith only[ae]
 refine lr (σ:=Int×Int) (fun s=>[some (.d (.int s.1)),some (.d (.int s.2))]) (fun s=>!(s.2==0)) (fun s=>(s.2,s.1.fmod s.2)) (fun s=>s.2.natAbs) (fun s=>Ju s.1 s.2=Ju i j) (i,j) rfl rfl ?_ ?_ ?_
 · intro s _
   simp_arith only[ae]
 · intro s e c
   have hc:s.2≠0:=by simpa using c
   refine⟨by rw[lT];exact e,gJ hc,_,?_,rfl⟩
   simp_arith only[ag,ae]
 · intro s e c
   have hc:s.2=0:=by simpa using c
   simp_arith only[ae]
   rw[hc,Int.gcd_zero_right]at e
   refine av ?_
   have:(if s.1<0 then -s.1 else s.1)=((Ju i j:Nat):Int):=by rw[<- e];split<;>omega
   rw[this]
   exact hQ
noncomputable def bY:List W->(Hy->Prop)->Prop:=fun ws Q=>∃(a b:Int),ws=[.d (.int a),.d (.int b)]/\((0<b)/\(b.natAbs<2^8000))/\Q (fr (qd a b))
theorem bY.mono:∀ws (Q Q':Hy->Prop),(∀d,Q d->Q' d)->bY ws Q->bY ws Q':=fun _ _ _ h_=>HD fun _=>HD fun _=>HA (HA (h_ _))
theorem bY.len:∀ws (Q:Hy->Prop),bY ws Q->ws.length=2:=fun _ _ h_=>by obtain⟨_,_,e_,_⟩:=h_;subst e_;rfl
theorem bY.eq(a b:Int)(hb:0<b)(hz:b.natAbs<2^8000):bY [.d (.int a),.d (.int b)]=VL.ret (fr (qd a b):Hy):=by
 refine ak fun Q=>⟨?_,fun q_=>⟨a,b,rfl,⟨hb,hz⟩,q_⟩⟩
 rintro⟨a',b',e_,_,q_⟩
 simp_arith only[and_true]at e_
 obtain⟨rfl,rfl⟩:=e_
 exact q_
theorem kG:FnScope ["top", "bottom", "divisor"] ["top", "bottom"] (defScope (Ed 11)):=⟨rfl,rfl,rfl,by decide +kernel,rfl,by decide +kernel,by decide +kernel⟩
theorem d_fraction(Fn:FnIn K mg "fraction" (Ed 11) ["top", "bottom"])(Z:Bz mg)(d_common_divisor:∀rl,Dfn P w K mg base rl "common_divisor" ["one", "other"] 1 aY)   : Dfn P w K mg base rl "fraction" ["top", "bottom"] 2 bY:=by
 have sc:=kG
 refine Dfn.of Fn sc (bY.mono) (bY.len) (fun cdv A outer s H E hr=>(af (aU (az (bM hr.units) aZ (aw _) (vn 1) ac) (aj fX) aH)
  (af (ax 2 sc.nd (ai (d_common_divisor _) (hr.mono (by decide)) (aa (vn 0) (aa (vn 1) ab))))
  (af (aU (az dE dY (aw _) (vn 1) ac) (aj (ax 2 sc.nd (gW (vn 2)))) aH)
  (aj (ar (aP (aa (v_div (vn 0) (vn 2)) (aa (v_div (vn 1) (vn 2)) ab))))))))) ?_
 rintro ws Q ⟨a,b,rfl,⟨hb,hz⟩,hQ⟩
 refine aB ?_
 have c1:hX a (Ju a b:Int):=jg hb hz _
 have c2:hX b (Ju a b:Int):=jg hb hz _
 have h0:(b==0)=false:=by simp;omega
 have h1:decide (b<0)=false:=by simp;omega
 simp_arith only[ag,ae,aY.eq,h0,h1]
 rw[sW hb]
 exact av hQ
noncomputable def gA:List W->(Hy->Prop)->Prop:=fun ws Q=>∃(q r:Rat),ws=[.d (fr q),.d (fr r)]/\((EN 2000 q)/\(EN 2000 r))/\Q (fr (q+r))
theorem gA.mono:∀ws (Q Q':Hy->Prop),(∀d,Q d->Q' d)->gA ws Q->gA ws Q':=fun _ _ _ h_=>HD fun _=>HD fun _=>HA (HA (h_ _))
theorem gA.len:∀ws (Q:Hy->Prop),gA ws Q->ws.length=2:=fun _ _ h_=>by obtain⟨_,_,e_,_⟩:=h_;subst e_;rfl
theorem gA.eq(q r:Rat)(h1:EN 2000 q)(h2:EN 2000 r):gA [.d (fr q),.d (fr r)]=VL.ret (fr (q+r):Hy):=by
 refine ak fun Q=>⟨?_,fun q_=>⟨q,r,rfl,⟨h1,h2⟩,q_⟩⟩
 rintro⟨q',r',e_,_,q_⟩
 simp_arith only[cX,bw,bx,aO,aN,bE]at e_
 obtain⟨rfl,rfl⟩:=e_
 exact q_
theorem uj:FnScope ["one", "other"] ["one", "other"] (defScope (Ed 12)):=⟨rfl,rfl,rfl,by decide +kernel,rfl,by decide +kernel,by decide +kernel⟩
theorem d_plus(Fn:FnIn K mg "plus" (Ed 12) ["one", "other"])(Z:Bz mg)(d_fraction:∀rl,Dfn P w K mg base rl "fraction" ["top", "bottom"] 2 bY)   : Dfn P w K mg base rl "plus" ["one", "other"] 3 gA:=by
 have sc:=uj
 refine Dfn.of Fn sc (gA.mono) (gA.len) (fun cdv A outer s H E hr=>(aj (ar (ai (d_fraction _) (hr.mono (by decide)) (aa (v_add (v_mul (aL (vn 0) ac) (aL (vn 1) ac)) (v_mul (aL (vn 1) ac) (aL (vn 0) ac))) (aa (v_mul (aL (vn 0) ac) (aL (vn 1) ac)) ab)))))) ?_
 rintro ws Q ⟨q,r,rfl,⟨h1,h2⟩,hQ⟩
 refine aB ?_
 have m1:bV q.num r.den:=.bb h1.bn h2.bd
 have m2:bV r.num q.den:=.bb h2.bn h1.bd
 have m3:bV q.den r.den:=.bb h1.bd h2.bd
 have m4:bV q.num r.num:=.bb h1.bn h2.bn
 have d1:=den_pos q r
 have d2:=gK h1 h2
 simp_arith only[ag,ae,bY.eq,Hv,xo]
 exact av hQ
noncomputable def fP:List W->(Hy->Prop)->Prop:=fun ws Q=>∃(q r:Rat),ws=[.d (fr q),.d (fr r)]/\((EN 2000 q)/\(EN 2000 r))/\Q (fr (q-r))
theorem fP.mono:∀ws (Q Q':Hy->Prop),(∀d,Q d->Q' d)->fP ws Q->fP ws Q':=fun _ _ _ h_=>HD fun _=>HD fun _=>HA (HA (h_ _))
theorem fP.len:∀ws (Q:Hy->Prop),fP ws Q->ws.length=2:=fun _ _ h_=>by obtain⟨_,_,e_,_⟩:=h_;subst e_;rfl
theorem fP.eq(q r:Rat)(h1:EN 2000 q)(h2:EN 2000 r):fP [.d (fr q),.d (fr r)]=VL.ret (fr (q-r):Hy):=by
 refine ak fun Q=>⟨?_,fun q_=>⟨q,r,rfl,⟨h1,h2⟩,q_⟩⟩
 rintro⟨q',r',e_,_,q_⟩
 simp_arith only[cX,bw,bx,aO,aN,bE]at e_
 obtain⟨rfl,rfl⟩:=e_
 exact q_
theorem um:FnScope ["one", "other"] ["one", "other"] (defScope (Ed 13)):=⟨rfl,rfl,rfl,by decide +kernel,rfl,by decide +kernel,by decide +kernel⟩
theorem d_less(Fn:FnIn K mg "less" (Ed 13) ["one", "other"])(Z:Bz mg)(d_fraction:∀rl,Dfn P w K mg base rl "fraction" ["top", "bottom"] 2 bY)   : Dfn P w K mg base rl "less" ["one", "other"] 3 fP:=by
 have sc:=um
 refine Dfn.of Fn sc (fP.mono) (fP.len) (fun cdv A outer s H E hr=>(aj (ar (ai (d_fraction _) (hr.mono (by decide)) (aa (v_sub (v_mul (aL (vn 0) ac) (aL (vn 1) ac)) (v_mul (aL (vn 1) ac) (aL (vn 0) ac))) (aa (v_mul (aL (vn 0) ac) (aL (vn 1) ac)) ab)))))) ?_
 rintro ws Q ⟨q,r,rfl,⟨h1,h2⟩,hQ⟩
 refine aB ?_
 have m1:bV q.num r.den:=.bb h1.bn h2.bd
 have m2:bV r.num q.den:=.bb h2.bn h1.bd
 have m3:bV q.den r.den:=.bb h1.bd h2.bd
 have m4:bV q.num r.num:=.bb h1.bn h2.bn
 have d1:=den_pos q r
 have d2:=gK h1 h2
 simp_arith only[ag,ae,bY.eq,Hv,n6]
 exact av hQ
noncomputable def eS:List W->(Hy->Prop)->Prop:=fun ws Q=>∃(q r:Rat),ws=[.d (fr q),.d (fr r)]/\((EN 2000 q)/\(EN 2000 r))/\Q (fr (q*r))
theorem eS.mono:∀ws (Q Q':Hy->Prop),(∀d,Q d->Q' d)->eS ws Q->eS ws Q':=fun _ _ _ h_=>HD fun _=>HD fun _=>HA (HA (h_ _))
theorem eS.len:∀ws (Q:Hy->Prop),eS ws Q->ws.length=2:=fun _ _ h_=>by obtain⟨_,_,e_,_⟩:=h_;subst e_;rfl
theorem eS.eq(q r:Rat)(h1:EN 2000 q)(h2:EN 2000 r):eS [.d (fr q),.d (fr r)]=VL.ret (fr (q*r):Hy):=by
 refine ak fun Q=>⟨?_,fun q_=>⟨q,r,rfl,⟨h1,h2⟩,q_⟩⟩
 rintro⟨q',r',e_,_,q_⟩
 simp_arith only[cX,bw,bx,aO,aN,bE]at e_
 obtain⟨rfl,rfl⟩:=e_
 exact q_
theorem qH:FnScope ["one", "other"] ["one", "other"] (defScope (Ed 14)):=⟨rfl,rfl,rfl,by decide +kernel,rfl,by decide +kernel,by decide +kernel⟩
theorem d_times(Fn:FnIn K mg "times" (Ed 14) ["one", "other"])(Z:Bz mg)(d_fraction:∀rl,Dfn P w K mg base rl "fraction" ["top", "bottom"] 2 bY)   : Dfn P w K mg base rl "times" ["one", "other"] 3 eS:=by
 have sc:=qH
 refine Dfn.of Fn sc (eS.mono) (eS.len) (fun cdv A outer s H E hr=>(aj (ar (ai (d_fraction _) (hr.mono (by decide)) (aa (v_mul (aL (vn 0) ac) (aL (vn 1) ac)) (aa (v_mul (aL (vn 0) ac) (aL (vn 1) ac)) ab)))))) ?_
 rintro ws Q ⟨q,r,rfl,⟨h1,h2⟩,hQ⟩
 refine aB ?_
 have m1:bV q.num r.den:=.bb h1.bn h2.bd
 have m2:bV r.num q.den:=.bb h2.bn h1.bd
 have m3:bV q.den r.den:=.bb h1.bd h2.bd
 have m4:bV q.num r.num:=.bb h1.bn h2.bn
 have d1:=den_pos q r
 have d2:=gK h1 h2
 simp_arith only[ag,ae,bY.eq,Hv,sO]
 exact av hQ
noncomputable def bL:List W->(Hy->Prop)->Prop:=fun ws Q=>∃(q r:Rat),ws=[.d (fr q),.d (fr r)]/\((EN 2000 q)/\(EN 2000 r))/\Q (.bool (decide (q<r)))
theorem bL.mono:∀ws (Q Q':Hy->Prop),(∀d,Q d->Q' d)->bL ws Q->bL ws Q':=fun _ _ _ h_=>HD fun _=>HD fun _=>HA (HA (h_ _))
theorem bL.len:∀ws (Q:Hy->Prop),bL ws Q->ws.length=2:=fun _ _ h_=>by obtain⟨_,_,e_,_⟩:=h_;subst e_;rfl
theorem bL.eq(q r:Rat)(h1:EN 2000 q)(h2:EN 2000 r):bL [.d (fr q),.d (fr r)]=VL.ret (.bool (decide (q<r)):Hy):=by
 refine ak fun Q=>⟨?_,fun q_=>⟨q,r,rfl,⟨h1,h2⟩,q_⟩⟩
 rintro⟨q',r',e_,_,q_⟩
 simp_arith only[cX,bw,bx,aO,aN,bE]at e_
 obtain⟨rfl,rfl⟩:=e_
 exact q_
theorem kF:FnScope ["one", "other"] ["one", "other"] (defScope (Ed 16)):=⟨rfl,rfl,rfl,by decide +kernel,rfl,by decide +kernel,by decide +kernel⟩
theorem d_is_below(Fn:FnIn K mg "is_below" (Ed 16) ["one", "other"])(Z:Bz mg)    : Dfn P w K mg base rl "is_below" ["one", "other"] 1 bL:=by
 have sc:=kF
 refine Dfn.of Fn sc (bL.mono) (bL.len) (fun cdv A outer s H E hr=>(aj (ar (cW dE dY (aw _) (v_mul (aL (vn 0) ac) (aL (vn 1) ac)) (v_mul (aL (vn 1) ac) (aL (vn 0) ac)))))) ?_
 rintro ws Q ⟨q,r,rfl,⟨h1,h2⟩,hQ⟩
 refine aB ?_
 have m1:bV q.num r.den:=.bb h1.bn h2.bd
 have m2:bV r.num q.den:=.bb h2.bn h1.bd
 simp_arith only[ag,ae,Hv,vA]
 exact av hQ
noncomputable def dM:List W->(Hy->Prop)->Prop:=fun ws Q=>∃(q r:Rat),ws=[.d (fr q),.d (fr r)]/\((EN 2000 q)/\(EN 2000 r))/\Q (fr (mn q r))
theorem dM.mono:∀ws (Q Q':Hy->Prop),(∀d,Q d->Q' d)->dM ws Q->dM ws Q':=fun _ _ _ h_=>HD fun _=>HD fun _=>HA (HA (h_ _))
theorem dM.len:∀ws (Q:Hy->Prop),dM ws Q->ws.length=2:=fun _ _ h_=>by obtain⟨_,_,e_,_⟩:=h_;subst e_;rfl
theorem dM.eq(q r:Rat)(h1:EN 2000 q)(h2:EN 2000 r):dM [.d (fr q),.d (fr r)]=VL.ret (fr (mn q r):Hy):=by
 refine ak fun Q=>⟨?_,fun q_=>⟨q,r,rfl,⟨h1,h2⟩,q_⟩⟩
 rintro⟨q',r',e_,_,q_⟩
 simp_arith only[cX,bw,bx,aO,aN,bE]at e_
 obtain⟨rfl,rfl⟩:=e_
 exact q_
theorem nM:FnScope ["one", "other"] ["one", "other"] (defScope (Ed 17)):=⟨rfl,rfl,rfl,by decide +kernel,rfl,by decide +kernel,by decide +kernel⟩
theorem d_lesser(Fn:FnIn K mg "lesser" (Ed 17) ["one", "other"])(Z:Bz mg)(d_is_below:∀rl,Dfn P w K mg base rl "is_below" ["one", "other"] 1 bL)   : Dfn P w K mg base rl "lesser" ["one", "other"] 2 dM:=by
 have sc:=nM
 refine Dfn.of Fn sc (dM.mono) (dM.len) (fun cdv A outer s H E hr=>(aj (ar (cj (bZ (ai (d_is_below _) (hr.mono (by decide)) (aa (vn 0) (aa (vn 1) ab)))) (vn 0) (vn 1))))) ?_
 rintro ws Q ⟨q,r,rfl,⟨h1,h2⟩,hQ⟩
 refine aB ?_
 simp_arith only[ag,ae,bL.eq,Hv]
 unfold mn at hQ
 refine av ?_
 by_cases h:q<r<;>simp[h]at hQ ⊢ <;> exact hQ
noncomputable def dm:List W->(Hy->Prop)->Prop:=fun ws Q=>∃(q r:Rat),ws=[.d (fr q),.d (fr r)]/\((EN 2000 q)/\(EN 2000 r))/\Q (fr (mx q r))
theorem dm.mono:∀ws (Q Q':Hy->Prop),(∀d,Q d->Q' d)->dm ws Q->dm ws Q':=fun _ _ _ h_=>HD fun _=>HD fun _=>HA (HA (h_ _))
theorem dm.len:∀ws (Q:Hy->Prop),dm ws Q->ws.length=2:=fun _ _ h_=>by obtain⟨_,_,e_,_⟩:=h_;subst e_;rfl
theorem dm.eq(q r:Rat)(h1:EN 2000 q)(h2:EN 2000 r):dm [.d (fr q),.d (fr r)]=VL.ret (fr (mx q r):Hy):=by
 refine ak fun Q=>⟨?_,fun q_=>⟨q,r,rfl,⟨h1,h2⟩,q_⟩⟩
 rintro⟨q',r',e_,_,q_⟩
 simp_arith only[cX,bw,bx,aO,aN,bE]at e_
 obtain⟨rfl,rfl⟩:=e_
 exact q_
theorem mB:FnScope ["one", "other"] ["one", "other"] (defScope (Ed 18)):=⟨rfl,rfl,rfl,by decide +kernel,rfl,by decide +kernel,by decide +kernel⟩
theorem d_greater(Fn:FnIn K mg "greater" (Ed 18) ["one", "other"])(Z:Bz mg)(d_is_below:∀rl,Dfn P w K mg base rl "is_below" ["one", "other"] 1 bL)   : Dfn P w K mg base rl "greater" ["one", "other"] 2 dm:=by
 have sc:=mB
 refine Dfn.of Fn sc (dm.mono) (dm.len) (fun cdv A outer s H E hr=>(aj (ar (cj (bZ (ai (d_is_below _) (hr.mono (by decide)) (aa (vn 0) (aa (vn 1) ab)))) (vn 1) (vn 0))))) ?_
 rintro ws Q ⟨q,r,rfl,⟨h1,h2⟩,hQ⟩
 refine aB ?_
 simp_arith only[ag,ae,bL.eq,Hv]
 unfold mx at hQ
 refine av ?_
 by_cases h:q<r<;>simp[h]at hQ ⊢ <;> exact hQ
noncomputable def GJ(s:Sd):Prop:=EN 200 s.first/\EN 200 s.last
noncomputable def Hs(ss:List Sd):Prop:=1<=ss.length/\ss.length<=4/\∀s∈ss,GJ s
theorem Di:EN 1 0:=⟨by decide,by decide⟩
theorem xp:EN 1 1:=⟨by decide,by decide⟩
theorem Es{s:Sd}(h:GJ s):EN 404 (szQ s):=by
 have z:∀{n:Nat},1<=n->EN n 0:=fun h=>Di.mono h
 cases s with
 | to t=>exact(dZ h.2 (z (by decide))).mono (by decide)
 | «from» a b=>exact(dZ (eW (dZ h.2 (z (by decide))) (dZ h.1 (z (by decide)))) (z (by decide))).mono (by decide)
 | round a b=>exact(Ah (qf xp (eW (dZ h.2 (z (by decide))) (dZ h.1 (z (by decide))))) (xp.mono (by decide))).mono (by decide)
theorem qP:∀(qs:List Rat)(k:Nat)(a:Rat),EN k a->(∀q∈qs,EN 404 q)->EN (k+404*qs.length) (qs.foldl (· * ·) a)
 | [],k,a,h,_=>h
 | q::qs,k,a,h,hq=>by
   have:=qP qs (k+404) (a*q) (sV h (hq q Iw)) fun r hr=>hq r (Ic _ hr)
   rw[Kb]
   refine this.mono ?_
   rw[JP]
   omega
theorem wT(h:Hs ss):EN 1617 (cf ss):=by
 unfold cf jU
 refine(qP (ss.map szQ) 1 1 xp fun q mq=>?_).mono (by rw[HM];have:=h.2.1;omega)
 obtain⟨s,ms,rfl⟩:=IM.mp mq
 exact Es (h.2.2 s ms)
theorem GJ.up{s:Sd}(h:GJ s):EN 2000 s.first/\EN 2000 s.last:=⟨h.1.mono (by decide),h.2.mono (by decide)⟩
noncomputable def b0:List W->(Hy->Prop)->Prop:=fun ws Q=>∃(qs:List Rat),ws=[.d (.list (qs.map fr))]/\((qs.length<=4)/\(∀q∈qs,EN 404 q))/\Q (fr (jU qs))
theorem b0.mono:∀ws (Q Q':Hy->Prop),(∀d,Q d->Q' d)->b0 ws Q->b0 ws Q':=fun _ _ _ h_=>HD fun _=>HA (HA (h_ _))
theorem b0.len:∀ws (Q:Hy->Prop),b0 ws Q->ws.length=1:=fun _ _ h_=>by obtain⟨_,e_,_⟩:=h_;subst e_;rfl
theorem b0.eq(qs:List Rat)(h4:qs.length<=4)(hq:∀q∈qs,EN 404 q):b0 [.d (.list (qs.map fr))]=VL.ret (fr (jU qs):Hy):=by
 refine ak fun Q=>⟨?_,fun q_=>⟨qs,rfl,⟨h4,hq⟩,q_⟩⟩
 rintro⟨qs',e_,_,q_⟩
 simp_arith only[cX,bw,bx,aO,aN,bE]at e_
 obtain rfl:=e_
 exact q_
theorem iU:FnScope ["some", "product", "one"] ["some"] (defScope (Ed 15)):=⟨rfl,rfl,rfl,by decide +kernel,rfl,by decide +kernel,by decide +kernel⟩
theorem d_product_of(Fn:FnIn K mg "product_of" (Ed 15) ["some"])(Z:Bz mg)(d_times:∀rl,Dfn P w K mg base rl "times" ["one", "other"] 3 eS)(gl_ONE:GlD K mg "ONE" (pr 1 1))  : Dfn P w K mg base rl "product_of" ["some"] 4 b0:=by
 have sc:=iU
 refine Dfn.of Fn sc (b0.mono) (b0.len) (fun cdv A outer s H E hr=>(af (ax 1 sc.nd (eG gl_ONE))
  (af (dG [2] I_ rfl (gh (vn 0)) (am 2 sc.nd) (aj (ax 1 sc.nd (ai (d_times _) (hr.mono (by decide)) (aa (vn 1) (aa (vn 2) ab))))))
  (aj (ar (vn 1)))))) ?_
 rintro ws Q ⟨qs,rfl,⟨h4,hq⟩,hQ⟩
 refine aB ?_
 simp_arith only[ag,ae,eS.eq,Hv]
 refine jZ (xs:=qs) (fun i ρ=>ρ=[some (.d (.list (qs.map fr))),some (.d (fr ((qs.take i).foldl (· * ·) 1))),none]) rfl rfl ?_ ?_
 · rintro i hi ρ rfl K hK
   have hs:=qP (qs.take i) 1 1 xp fun r hr=>hq r (J5 hr)
   have hl:(qs.take i).length<=4:=by rw[IJ];omega
   have s1:EN 2000 ((qs.take i).foldl (· * ·) 1):=hs.mono (by omega)
   have s2:EN 2000 qs[i]:=(hq _ (Jr hi)).mono (by decide)
   simp_arith only[ag,ae,eS.eq,Hv]
   refine hK _ (dF ?_)
   simp_arith only[ae]
   rw[mL hi]
 · rintro ρ rfl
   simp_arith only[ae]
   rw[Je (HS _)]
   exact av hQ
noncomputable def cx:List W->(Hy->Prop)->Prop:=fun ws Q=>∃(s:Sd),ws=[.d (EA s)]/\((GJ s))/\Q (fr (szQ s))
theorem cx.mono:∀ws (Q Q':Hy->Prop),(∀d,Q d->Q' d)->cx ws Q->cx ws Q':=fun _ _ _ h_=>HD fun _=>HA (HA (h_ _))
theorem cx.len:∀ws (Q:Hy->Prop),cx ws Q->ws.length=1:=fun _ _ h_=>by obtain⟨_,e_,_⟩:=h_;subst e_;rfl
theorem cx.eq(s:Sd)(sm:GJ s):cx [.d (EA s)]=VL.ret (fr (szQ s):Hy):=by
 refine ak fun Q=>⟨?_,fun q_=>⟨s,rfl,sm,q_⟩⟩
 rintro⟨s',e_,_,q_⟩
 simp_arith only[cX,bw,bx,aO,aN,bE]at e_
 obtain rfl:=e_
 exact q_
theorem jB:FnScope ["side", "end", "width"] ["side"] (defScope (Ed 20)):=⟨rfl,rfl,rfl,by decide +kernel,rfl,by decide +kernel,by decide +kernel⟩
theorem d_side_size(Fn:FnIn K mg "side_size" (Ed 20) ["side"])(Z:Bz mg)(d_greater:∀rl,Dfn P w K mg base rl "greater" ["one", "other"] 2 dm)(d_less:∀rl,Dfn P w K mg base rl "less" ["one", "other"] 3 fP)(d_lesser:∀rl,Dfn P w K mg base rl "lesser" ["one", "other"] 2 dM)(d_plus:∀rl,Dfn P w K mg base rl "plus" ["one", "other"] 3 gA)(gl_ZERO:GlD K mg "ZERO" (pr 0 1))(gl_ONE:GlD K mg "ONE" (pr 1 1))  : Dfn P w K mg base rl "side_size" ["side"] 4 cx:=by
 have sc:=jB
 refine Dfn.of Fn sc (cx.mono) (cx.len) (fun cdv A outer s H E hr=>(af (ax 1 sc.nd (ai (d_greater _) (hr.mono (by decide)) (aa (aL (vn 0) (gW ac)) (aa (eG gl_ZERO) ab))))
  (af (aU (az dv cr (aw _) (aL (vn 0) ac) aF) (aj (ar (vn 1))) aH)
  (af (ax 2 sc.nd (ai (d_less _) (hr.mono (by decide)) (aa (vn 1) (aa (ai (d_greater _) (hr.mono (by decide)) (aa (aL (vn 0) ac) (aa (eG gl_ZERO) ab))) ab))))
  (af (aU (az dv cr (aw _) (aL (vn 0) ac) aF) (aj (ar (ai (d_greater _) (hr.mono (by decide)) (aa (vn 2) (aa (eG gl_ZERO) ab))))) aH)
  (aj (ar (ai (d_lesser _) (hr.mono (by decide)) (aa (ai (d_plus _) (hr.mono (by decide)) (aa (eG gl_ONE) (aa (vn 2) ab))) (aa (eG gl_ONE) ab)))))))))) ?_
 rintro ws Q ⟨s,rfl,sm,hQ⟩
 have w1:decide (Hw "from" = Hw "to")=false:=by decide +kernel
 have w2:decide (Hw "round" = Hw "to")=false:=by decide +kernel
 have w3:decide (Hw "round" = Hw "from")=false:=by decide +kernel
 have w4:decide (Hw "to" = Hw "to")=true:=by decide +kernel
 have w5:decide (Hw "from" = Hw "from")=true:=by decide +kernel
 refine aB ?_
 have z0:EN 2000 0:=Dh.up
 have z1:EN 2000 1:=Dg.mono (by decide)
 cases s with
 | to t =>
   have a1:EN 2000 t:=sm.up.2
   simp_arith only[ag,ae,dm.eq,fP.eq,dM.eq,gA.eq,Hv,w1,w2,w3,w4,w5,EA]
   exact av hQ
 | «from» a b =>
   have a1:EN 2000 b:=sm.up.2
   have a2:EN 2000 a:=sm.up.1
   have m1:EN 200 (mx b 0):=dZ sm.2 (Di.mono (by decide))
   have m2:EN 200 (mx a 0):=dZ sm.1 (Di.mono (by decide))
   have m3:EN 2000 (mx b 0):=m1.mono (by decide)
   have m4:EN 2000 (mx a 0):=m2.mono (by decide)
   have m5:EN 2000 (mx b 0-mx a 0):=(eW m1 m2).mono (by decide)
   simp_arith only[ag,ae,dm.eq,fP.eq,dM.eq,gA.eq,Hv,w1,w2,w3,w4,w5,EA]
   exact av hQ
 | round a b =>
   have a1:EN 2000 b:=sm.up.2
   have a2:EN 2000 a:=sm.up.1
   have m1:EN 200 (mx b 0):=dZ sm.2 (Di.mono (by decide))
   have m2:EN 200 (mx a 0):=dZ sm.1 (Di.mono (by decide))
   have m3:EN 2000 (mx b 0):=m1.mono (by decide)
   have m4:EN 2000 (mx a 0):=m2.mono (by decide)
   have m5:EN 2000 (mx b 0-mx a 0):=(eW m1 m2).mono (by decide)
   have m6:EN 2000 (1+(mx b 0-mx a 0)):=(qf xp (eW m1 m2)).mono (by decide)
   simp_arith only[ag,ae,dm.eq,fP.eq,dM.eq,gA.eq,Hv,w1,w2,w3,w4,w5,EA]
   exact av hQ
noncomputable def di:List W->(Hy->Prop)->Prop:=fun ws Q=>∃(ss:List Sd),ws=[.d (jq ss)]/\((Hs ss))/\Q (fr (cf ss))
theorem di.mono:∀ws (Q Q':Hy->Prop),(∀d,Q d->Q' d)->di ws Q->di ws Q':=fun _ _ _ h_=>HD fun _=>HA (HA (h_ _))
theorem di.len:∀ws (Q:Hy->Prop),di ws Q->ws.length=1:=fun _ _ h_=>by obtain⟨_,e_,_⟩:=h_;subst e_;rfl
theorem di.eq(ss:List Sd)(hb:Hs ss):di [.d (jq ss)]=VL.ret (fr (cf ss):Hy):=by
 refine ak fun Q=>⟨?_,fun q_=>⟨ss,rfl,hb,q_⟩⟩
 rintro⟨ss',e_,_,q_⟩
 simp_arith only[cX,bw,bx,aO,aN,bE]at e_
 obtain rfl:=e_
 exact q_
theorem mo:FnScope ["box"] ["box"] (defScope (Ed 21)):=⟨rfl,rfl,rfl,by decide +kernel,rfl,by decide +kernel,by decide +kernel⟩
theorem d_size_of(Fn:FnIn K mg "size_of" (Ed 21) ["box"])(Z:Bz mg)(d_product_of:∀rl,Dfn P w K mg base rl "product_of" ["some"] 4 b0)(d_side_size:∀rl,Dfn P w K mg base rl "side_size" ["side"] 4 cx)   : Dfn P w K mg base rl "size_of" ["box"] 5 di:=by
 have sc:=mo
 refine Dfn.of Fn sc (di.mono) (di.len) (fun cdv A outer s H E hr=>(aj (ar (ai (d_product_of _) (hr.mono (by decide)) (aa (cI ["side"] [none] rfl (dA (vn 0)) (fun _=>(am 0 (show IT (["side"]:List Str) by decide +kernel))) (fun _=>dr) (fun _=>(ai (d_side_size _) (hr.mono (by decide)) (aa (vn 0) ab)))) ab))))) ?_
 rintro ws Q ⟨ss,rfl,hb,hQ⟩
 refine aB ?_
 have sz:=HV
 have h4:=hb.2.1
 simp_arith only[ae,Hv]
 refine cM (xs:=ss) (fun s=>fr (szQ s)) rfl ?_ (by omega) ?_
 · intro s ms
   have:=hb.2.2 s ms
   simp_arith only[ag,ae,FB,b0.eq,cx.eq]
 · have e:ss.map (fun s=>fr (szQ s))=(ss.map szQ).map fr:=by rw[Jd];rfl
   have l4:(ss.map szQ).length<=4:=by rw[HM];exact h4
   have hq:∀q∈ss.map szQ,EN 404 q:=fun r hr=>by
    obtain⟨s,hs',rfl⟩:=IM.mp hr
    exact Es (hb.2.2 s hs')
   rw[e]
   simp_arith only[ag,ae,b0.eq,cx.eq]
   exact av hQ
noncomputable def ca:List W->(Hy->Prop)->Prop:=fun ws Q=>∃(x y:Rat)(b:Bool),ws=[.d (fr x),.d (fr y),.d (.bool b)]/\((EN 2000 x)/\(EN 2000 y))/\Q (.bool (FS x y b))
theorem ca.mono:∀ws (Q Q':Hy->Prop),(∀d,Q d->Q' d)->ca ws Q->ca ws Q':=fun _ _ _ h_=>HD fun _=>HD fun _=>HD fun _=>HA (HA (h_ _))
theorem ca.len:∀ws (Q:Hy->Prop),ca ws Q->ws.length=3:=fun _ _ h_=>by obtain⟨_,_,_,e_,_⟩:=h_;subst e_;rfl
theorem ca.eq(x y:Rat)(b:Bool)(h1:EN 2000 x)(h2:EN 2000 y):ca [.d (fr x),.d (fr y),.d (.bool b)]=VL.ret (.bool (FS x y b):Hy):=by
 refine ak fun Q=>⟨?_,fun q_=>⟨x,y,b,rfl,⟨h1,h2⟩,q_⟩⟩
 rintro⟨x',y',b',e_,_,q_⟩
 simp_arith only[cX,bw,bx,aO,aN,bE]at e_
 obtain⟨rfl,rfl,rfl⟩:=e_
 exact q_
theorem iY:FnScope ["one", "other", "may_meet"] ["one", "other", "may_meet"] (defScope (Ed 22)):=⟨rfl,rfl,rfl,by decide +kernel,rfl,by decide +kernel,by decide +kernel⟩
theorem d_goes_ahead(Fn:FnIn K mg "goes_ahead" (Ed 22) ["one", "other", "may_meet"])(Z:Bz mg)(d_is_below:∀rl,Dfn P w K mg base rl "is_below" ["one", "other"] 1 bL)   : Dfn P w K mg base rl "goes_ahead" ["one", "other", "may_meet"] 2 ca:=by
 have sc:=iY
 refine Dfn.of Fn sc (ca.mono) (ca.len) (fun cdv A outer s H E hr=>(af (aU (bZ (vn 2)) (aj (ar (v_not (ai (d_is_below _) (hr.mono (by decide)) (aa (vn 1) (aa (vn 0) ab)))))) aH)
  (aj (ar (ai (d_is_below _) (hr.mono (by decide)) (aa (vn 0) (aa (vn 1) ab))))))) ?_
 rintro ws Q ⟨x,y,b,rfl,⟨h1,h2⟩,hQ⟩
 refine aB ?_
 simp_arith only[ag,ae,bL.eq,Hv]
 cases b<;>simp only[FS,Jz,↓reduceIte]at hQ ⊢ <;> exact av hQ
noncomputable def gB:List W->(Hy->Prop)->Prop:=fun ws Q=>∃(x:Rat)(s:Sd)(w:Str),ws=[.d (fr x),.d (EA s),.d (.str w)]/\((EN 60 x)/\(GJ s)/\(FC w))/\Q (.bool (Fh s w x))
theorem gB.mono:∀ws (Q Q':Hy->Prop),(∀d,Q d->Q' d)->gB ws Q->gB ws Q':=fun _ _ _ h_=>HD fun _=>HD fun _=>HD fun _=>HA (HA (h_ _))
theorem gB.len:∀ws (Q:Hy->Prop),gB ws Q->ws.length=3:=fun _ _ h_=>by obtain⟨_,_,_,e_,_⟩:=h_;subst e_;rfl
theorem gB.eq(x:Rat)(s:Sd)(w:Str)(sx:EN 60 x)(sm:GJ s)(hw:FC w):gB [.d (fr x),.d (EA s),.d (.str w)]=VL.ret (.bool (Fh s w x):Hy):=by
 refine ak fun Q=>⟨?_,fun q_=>⟨x,s,w,rfl,⟨sx,sm,hw⟩,q_⟩⟩
 rintro⟨x',s',w',e_,_,q_⟩
 simp_arith only[cX,bw,bx,aO,aN,bE]at e_
 obtain⟨rfl,rfl,rfl⟩:=e_
 exact q_
theorem ul:FnScope ["x", "side", "way", "ahead", "behind"] ["x", "side", "way"] (defScope (Ed 23)):=⟨rfl,rfl,rfl,by decide +kernel,rfl,by decide +kernel,by decide +kernel⟩
theorem d_lies(Fn:FnIn K mg "lies" (Ed 23) ["x", "side", "way"])(Z:Bz mg)(d_goes_ahead:∀rl,Dfn P w K mg base rl "goes_ahead" ["one", "other", "may_meet"] 2 ca)   : Dfn P w K mg base rl "lies" ["x", "side", "way"] 3 gB:=by
 have sc:=ul
 refine Dfn.of Fn sc (gB.mono) (gB.len) (fun cdv A outer s H E hr=>(af (ax 3 sc.nd (ai (d_goes_ahead _) (hr.mono (by decide)) (aa (vn 0) (aa (aL (vn 1) (gW ac)) (aa (cW dv cr (aw _) (vn 2) aF) ab)))))
  (af (aU (az dv cr (aw _) (aL (vn 1) ac) aF) (aj (ar (vn 3))) aH)
  (af (ax 4 sc.nd (ai (d_goes_ahead _) (hr.mono (by decide)) (aa (aL (vn 1) ac) (aa (vn 0) (aa (cW mG h7 (aw _) (vn 2) aF) ab)))))
  (af (aU (az dv cr (aw _) (aL (vn 1) ac) aF) (aj (ar (v_and (vn 4) (iQ (vn 3))))) aH)
  (aj (ar (v_or (vn 4) (iQ (vn 3)))))))))) ?_
 rintro ws Q ⟨x,s,w,rfl,⟨sx,sm,hw⟩,hQ⟩
 have w1:decide (Hw "from" = Hw "to")=false:=by decide +kernel
 have w2:decide (Hw "round" = Hw "to")=false:=by decide +kernel
 have w3:decide (Hw "round" = Hw "from")=false:=by decide +kernel
 have w4:decide (Hw "to" = Hw "to")=true:=by decide +kernel
 have w5:decide (Hw "from" = Hw "from")=true:=by decide +kernel
 refine aB ?_
 have sx':=sx.up
 have a1:EN 2000 s.last:=sm.up.2
 have a2:EN 2000 s.first:=sm.up.1
 cases s with
 | to t =>
   have a1:EN 2000 t:=a1
   simp_arith only[ag,ae,ca.eq,Hv,w1,w2,w3,w4,w5,EA]
   exact av hQ
 | «from» a b =>
   have a1:EN 2000 b:=a1
   have a2:EN 2000 a:=a2
   simp_arith only[ag,ae,ca.eq,Hv,w1,w2,w3,w4,w5,EA]
   exact av hQ
 | round a b =>
   have a1:EN 2000 b:=a1
   have a2:EN 2000 a:=a2
   simp_arith only[ag,ae,ca.eq,Hv,w1,w2,w3,w4,w5,EA]
   exact av hQ
noncomputable def dj:List W->(Hy->Prop)->Prop:=fun ws Q=>∃(qs:List Rat)(ss:List Sd)(w:Str),ws=[.d (ET qs),.d (jq ss),.d (.str w)]/\((AN ss.length qs)/\(Hs ss)/\(FC w))/\Q (.bool (Fz qs ss w))
theorem dj.mono:∀ws (Q Q':Hy->Prop),(∀d,Q d->Q' d)->dj ws Q->dj ws Q':=fun _ _ _ h_=>HD fun _=>HD fun _=>HD fun _=>HA (HA (h_ _))
theorem dj.len:∀ws (Q:Hy->Prop),dj ws Q->ws.length=3:=fun _ _ h_=>by obtain⟨_,_,_,e_,_⟩:=h_;subst e_;rfl
theorem dj.eq(qs:List Rat)(ss:List Sd)(w:Str)(hp:AN ss.length qs)(hb:Hs ss)(hw:FC w):dj [.d (ET qs),.d (jq ss),.d (.str w)]=VL.ret (.bool (Fz qs ss w):Hy):=by
 refine ak fun Q=>⟨?_,fun q_=>⟨qs,ss,w,rfl,⟨hp,hb,hw⟩,q_⟩⟩
 rintro⟨qs',ss',w',e_,_,q_⟩
 simp_arith only[cX,bw,bx,aO,aN,bE]at e_
 obtain⟨rfl,rfl,rfl⟩:=e_
 exact q_
theorem mv:FnScope ["point", "box", "way"] ["point", "box", "way"] (defScope (Ed 24)):=⟨rfl,rfl,rfl,by decide +kernel,rfl,by decide +kernel,by decide +kernel⟩
theorem d_lies_in(Fn:FnIn K mg "lies_in" (Ed 24) ["point", "box", "way"])(Z:Bz mg)(d_lies:∀rl,Dfn P w K mg base rl "lies" ["x", "side", "way"] 3 gB)   : Dfn P w K mg base rl "lies_in" ["point", "box", "way"] 4 dj:=by
 have sc:=mv
 refine Dfn.of Fn sc (dj.mono) (dj.len) (fun cdv A outer s H E hr=>(aj (ar (v_all Z.all_ (aa (cI ["x", "side", "way"] [none,none,some 2] rfl (qr Z.zip_ (aa (vn 0) (aa (vn 1) ab))) (fun _=>(bH (n:=2) rfl (aq (am 0 (show IT (["x", "side", "way"]:List Str) by decide +kernel)) (aq (am 1 (show IT (["x", "side", "way"]:List Str) by decide +kernel)) aV)))) (fun _=>dr) (fun _=>(ai (d_lies _) (hr.mono (by decide)) (aa (vn 0) (aa (vn 1) (aa (vn 2) ab)))))) ab))))) ?_
 rintro ws Q ⟨qs,ss,w,rfl,⟨hp,hb,hw⟩,hQ⟩
 refine aB ?_
 have sz:=HV
 have h4:=hb.2.1
 simp_arith only[ae,Hv]
 rw[iG]
 refine cM (xs:=qs.zip ss) (fun p=>.bool (Fh p.2 w p.1)) rfl ?_ (by rw[Mk];omega) ?_
 · rintro⟨x,s⟩ hm
   obtain⟨mx,ms⟩:=Jx hm
   have:=hp.2 x mx
   have:=hb.2.2 s ms
   simp_arith only[ag,ae,FB,gB.eq]
 · have e:(qs.zip ss).map (fun p=>Kg (Fh p.2 w p.1))=((qs.zip ss).map fun p=>Fh p.2 w p.1).map .bool:=by rw[Jd];rfl
   rw[e]
   simp_arith only[ag,ae]
   refine av ?_
   rw[Mh]
   exact hQ
noncomputable def dN:List W->(Hy->Prop)->Prop:=fun ws Q=>∃(ps:List (List Rat))(ss:List Sd)(w:Str),ws=[.d (ptsQ ps),.d (jq ss),.d (.str w)]/\((qi ss.length ps)/\(Hs ss)/\(FC w))/\Q (.int (cntN ps ss w))
theorem dN.mono:∀ws (Q Q':Hy->Prop),(∀d,Q d->Q' d)->dN ws Q->dN ws Q':=fun _ _ _ h_=>HD fun _=>HD fun _=>HD fun _=>HA (HA (h_ _))
theorem dN.len:∀ws (Q:Hy->Prop),dN ws Q->ws.length=3:=fun _ _ h_=>by obtain⟨_,_,_,e_,_⟩:=h_;subst e_;rfl
theorem dN.eq(ps:List (List Rat))(ss:List Sd)(w:Str)(hp:qi ss.length ps)(hb:Hs ss)(hw:FC w):dN [.d (ptsQ ps),.d (jq ss),.d (.str w)]=VL.ret (.int (cntN ps ss w):Hy):=by
 refine ak fun Q=>⟨?_,fun q_=>⟨ps,ss,w,rfl,⟨hp,hb,hw⟩,q_⟩⟩
 rintro⟨ps',ss',w',e_,_,q_⟩
 simp_arith only[cX,bw,bx,aO,aN,bE]at e_
 obtain⟨rfl,rfl,rfl⟩:=e_
 exact q_
theorem nN:FnScope ["points", "box", "way"] ["points", "box", "way"] (defScope (Ed 25)):=⟨rfl,rfl,rfl,by decide +kernel,rfl,by decide +kernel,by decide +kernel⟩
theorem d_inside(Fn:FnIn K mg "inside" (Ed 25) ["points", "box", "way"])(Z:Bz mg)(d_lies_in:∀rl,Dfn P w K mg base rl "lies_in" ["point", "box", "way"] 4 dj)   : Dfn P w K mg base rl "inside" ["points", "box", "way"] 5 dN:=by
 have sc:=nN
 refine Dfn.of Fn sc (dN.mono) (dN.len) (fun cdv A outer s H E hr=>(aj (ar (cv Z.len_ (aa (cI ["point", "box", "way"] [none,some 1,some 2] rfl (dA (vn 0)) (fun _=>(am 0 (show IT (["point", "box", "way"]:List Str) by decide +kernel))) (fun _=>lv (bZ (ai (d_lies_in _) (hr.mono (by decide)) (aa (vn 0) (aa (vn 1) (aa (vn 2) ab)))))) (fun _=>(vn 0))) ab))))) ?_
 rintro ws Q ⟨ps,ss,w,rfl,⟨hp,hb,hw⟩,hQ⟩
 refine aB ?_
 have sz:=HV
 have h40:=hp.2.1
 simp_arith only[ae,Hv]
 refine pR (xs:=ps) (fun p=>if Fz p ss w=true then some (ET p)else none) rfl ?_ (by omega) ?_
 · intro p mp
   have:=hp.2.2 p mp
   simp_arith only[ag,ae,FB,dj.eq]
   split<;>rfl
 · try simp_arith only[ag,ae]
   rw[tj]
   exact av hQ
abbrev Rg:=Rat×Rat
abbrev Ce:=Fin 3×List Rg
noncomputable def DT(k:Fin 3):Str:=if k=0 then "to" else if k=1 then "from" else "round"
theorem cN{a b:Fin 3}:DT a=DT b↔a=b:=by revert a b;decide +kernel
noncomputable def EG(r:Rg):Hy:=.tuple [fr r.1,fr r.2]
theorem kK{x y:Rg}(h:EG x=EG y):x=y:=by
 obtain⟨a,b⟩:=x
 obtain⟨c,d⟩:=y
 unfold EG at h
 simp only[IB,Il,and_true]at h
 rw[fx h.1,fx h.2]
noncomputable def EC(rs:List Rg):Hy:=.tuple (rs.map EG)
theorem eZ{a b:List Rg}:EC a=EC b↔a=b:=by
 unfold EC
 rw[IB,JN fun x y h=>kK h]
noncomputable def Gf(c:Ce):Hy:=.tuple [.str (DT c.1),EC c.2]
noncomputable def Gc(cs:List Ce):Hy:=.tuple (cs.map Gf)
theorem fJ{a b:List Ce}:Gc a=Gc b↔a=b:=by
 unfold Gc
 rw[IB,JN fun x y h=>?_]
 obtain⟨a,b⟩:=x
 obtain⟨c,d⟩:=y
 unfold Gf at h
 simp only[IB,Il,and_true,K_]at h
 rw[cN.mp h.1,eZ.mp h.2]
noncomputable def Fd(k:Fin 3)(x y:Rat):Sd:=if k=0 then .to y else if k=1 then .from x y else .round x y
noncomputable def Fo(c:Ce):Sd:=if c.1=0 then .to (c.2.headD (0,0)).1 else Fd c.1 (c.2.headD (0,0)).2 (c.2.getD 1 (0,0)).1
noncomputable def FK(c:Ce):Sd:=if c.1=0 then .to (c.2.headD (0,0)).2 else Fd c.1 (c.2.headD (0,0)).1 (c.2.getD 1 (0,0)).2
noncomputable def GM(r:Rg):Prop:=EN 200 r.1/\EN 200 r.2/\r.1<r.2/\r.2<=1
noncomputable def Hr(c:Ce):Prop:=(c.1=0/\∃a,c.2=[a]/\GM a)\/(c.1=1/\∃a b,c.2=[a,b]/\GM a/\GM b)\/(c.1=2/\∃a b,c.2=[a,b]/\GM a/\GM b)
theorem Fq(a:Rg):Fo (0,[a]) = .to a.1:=rfl
theorem lo1(a b:Rg):Fo (1,[a,b]) = .from a.2 b.1:=rfl
theorem Fp(a b:Rg):Fo (2,[a,b]) = .round a.2 b.1:=rfl
theorem FN(a:Rg):FK (0,[a]) = .to a.2:=rfl
theorem hi1(a b:Rg):FK (1,[a,b]) = .from a.1 b.2:=rfl
theorem FM(a b:Rg):FK (2,[a,b]) = .round a.1 b.2:=rfl
theorem DW:DT 0=Hw "to" := rfl
theorem DV:DT 1=Hw "from" := rfl
theorem DU:DT 2=Hw "round" := rfl
theorem EE(a:Rg):EC [a] = .tuple [.tuple [fr a.1,fr a.2]]:=rfl
theorem ED(a b:Rg):EC [a,b] = .tuple [.tuple [fr a.1,fr a.2],.tuple [fr b.1,fr b.2]]:=rfl
noncomputable def GI(s:Sd):Prop:=EN 2000 s.first/\EN 2000 s.last
noncomputable def Eh(c:Ce)(x:Rat):Int:=if Fh (Fo c) "shut" x then 2 else if Fh (FK c) "open" x then 1 else 0
noncomputable def b9:List W->(Hy->Prop)->Prop:=fun ws Q=>∃(k:Fin 3)(rs:List Rg),ws=[.d (.str (DT k)),.d (EC rs)]/\((Hr (k,rs)))/\Q (EA (Fo (k,rs)))
theorem b9.mono:∀ws (Q Q':Hy->Prop),(∀d,Q d->Q' d)->b9 ws Q->b9 ws Q':=fun _ _ _ h_=>HD fun _=>HD fun _=>HA (HA (h_ _))
theorem b9.len:∀ws (Q:Hy->Prop),b9 ws Q->ws.length=2:=fun _ _ h_=>by obtain⟨_,_,e_,_⟩:=h_;subst e_;rfl
theorem b9.eq(k:Fin 3)(rs:List Rg)(hc:Hr (k,rs)):b9 [.d (.str (DT k)),.d (EC rs)]=VL.ret (EA (Fo (k,rs)):Hy):=by
 refine ak fun Q=>⟨?_,fun q_=>⟨k,rs,rfl,hc,q_⟩⟩
 rintro⟨k',rs',e_,_,q_⟩
 simp_arith only[cX,bw,bx,aO,aN,bE,cN,eZ,fJ]at e_
 obtain⟨rfl,rfl⟩:=e_
 exact q_
theorem iW:FnScope ["word", "ranges"] ["word", "ranges"] (defScope (Ed 29)):=⟨rfl,rfl,rfl,by decide +kernel,rfl,by decide +kernel,by decide +kernel⟩
theorem d_least_side(Fn:FnIn K mg "least_side" (Ed 29) ["word", "ranges"])(Z:Bz mg)    : Dfn P w K mg base rl "least_side" ["word", "ranges"] 1 b9:=by
 have sc:=iW
 refine Dfn.of Fn sc (b9.mono) (b9.len) (fun cdv A outer s H E hr=>(af (aU (az dv cr (aw _) (vn 0) aF) (aj (ar (aP (aa (vn 0) (aa (aL (aL (vn 1) ac) ac) ab))))) aH)
  (aj (ar (aP (aa (vn 0) (aa (aL (aL (vn 1) ac) ac) (aa (aL (aL (vn 1) ac) ac) ab)))))))) ?_
 rintro ws Q ⟨k,rs,rfl,hc,hQ⟩
 have w1:decide (Hw "from" = Hw "to")=false:=by decide +kernel
 have w2:decide (Hw "round" = Hw "to")=false:=by decide +kernel
 have w3:decide (Hw "round" = Hw "from")=false:=by decide +kernel
 have w4:decide (Hw "to" = Hw "to")=true:=by decide +kernel
 have w5:decide (Hw "from" = Hw "from")=true:=by decide +kernel
 refine aB ?_
 obtain⟨e,a,e2,⟨a1,a2,al,au⟩⟩|⟨e,a,b,e2,⟨a1,a2,al,au⟩,b1,b2,bl,bu⟩|⟨e,a,b,e2,⟨a1,a2,al,au⟩,b1,b2,bl,bu⟩:=hc
 · have e:k=0:=e
   have e2:rs=[a]:=e2
   subst e e2
   rw[Fq]at hQ
   simp_arith only[ag,ae,Hv,w1,w2,w3,w4,w5,DW,DV,DU,EE,ED]
   exact av hQ
 · have e:k=1:=e
   have e2:rs=[a,b]:=e2
   subst e e2
   rw[lo1]at hQ
   simp_arith only[ag,ae,Hv,w1,w2,w3,w4,w5,DW,DV,DU,EE,ED]
   exact av hQ
 · have e:k=2:=e
   have e2:rs=[a,b]:=e2
   subst e e2
   rw[Fp]at hQ
   simp_arith only[ag,ae,Hv,w1,w2,w3,w4,w5,DW,DV,DU,EE,ED]
   exact av hQ
noncomputable def cy:List W->(Hy->Prop)->Prop:=fun ws Q=>∃(k:Fin 3)(rs:List Rg),ws=[.d (.str (DT k)),.d (EC rs)]/\((Hr (k,rs)))/\Q (EA (FK (k,rs)))
theorem cy.mono:∀ws (Q Q':Hy->Prop),(∀d,Q d->Q' d)->cy ws Q->cy ws Q':=fun _ _ _ h_=>HD fun _=>HD fun _=>HA (HA (h_ _))
theorem cy.len:∀ws (Q:Hy->Prop),cy ws Q->ws.length=2:=fun _ _ h_=>by obtain⟨_,_,e_,_⟩:=h_;subst e_;rfl
theorem cy.eq(k:Fin 3)(rs:List Rg)(hc:Hr (k,rs)):cy [.d (.str (DT k)),.d (EC rs)]=VL.ret (EA (FK (k,rs)):Hy):=by
 refine ak fun Q=>⟨?_,fun q_=>⟨k,rs,rfl,hc,q_⟩⟩
 rintro⟨k',rs',e_,_,q_⟩
 simp_arith only[cX,bw,bx,aO,aN,bE,cN,eZ,fJ]at e_
 obtain⟨rfl,rfl⟩:=e_
 exact q_
theorem jC:FnScope ["word", "ranges"] ["word", "ranges"] (defScope (Ed 30)):=⟨rfl,rfl,rfl,by decide +kernel,rfl,by decide +kernel,by decide +kernel⟩
theorem d_most_side(Fn:FnIn K mg "most_side" (Ed 30) ["word", "ranges"])(Z:Bz mg)    : Dfn P w K mg base rl "most_side" ["word", "ranges"] 1 cy:=by
 have sc:=jC
 refine Dfn.of Fn sc (cy.mono) (cy.len) (fun cdv A outer s H E hr=>(af (aU (az dv cr (aw _) (vn 0) aF) (aj (ar (aP (aa (vn 0) (aa (aL (aL (vn 1) ac) ac) ab))))) aH)
  (aj (ar (aP (aa (vn 0) (aa (aL (aL (vn 1) ac) ac) (aa (aL (aL (vn 1) ac) ac) ab)))))))) ?_
 rintro ws Q ⟨k,rs,rfl,hc,hQ⟩
 have w1:decide (Hw "from" = Hw "to")=false:=by decide +kernel
 have w2:decide (Hw "round" = Hw "to")=false:=by decide +kernel
 have w3:decide (Hw "round" = Hw "from")=false:=by decide +kernel
 have w4:decide (Hw "to" = Hw "to")=true:=by decide +kernel
 have w5:decide (Hw "from" = Hw "from")=true:=by decide +kernel
 refine aB ?_
 obtain⟨e,a,e2,⟨a1,a2,al,au⟩⟩|⟨e,a,b,e2,⟨a1,a2,al,au⟩,b1,b2,bl,bu⟩|⟨e,a,b,e2,⟨a1,a2,al,au⟩,b1,b2,bl,bu⟩:=hc
 · have e:k=0:=e
   have e2:rs=[a]:=e2
   subst e e2
   rw[FN]at hQ
   simp_arith only[ag,ae,Hv,w1,w2,w3,w4,w5,DW,DV,DU,EE,ED]
   exact av hQ
 · have e:k=1:=e
   have e2:rs=[a,b]:=e2
   subst e e2
   rw[hi1]at hQ
   simp_arith only[ag,ae,Hv,w1,w2,w3,w4,w5,DW,DV,DU,EE,ED]
   exact av hQ
 · have e:k=2:=e
   have e2:rs=[a,b]:=e2
   subst e e2
   rw[FM]at hQ
   simp_arith only[ag,ae,Hv,w1,w2,w3,w4,w5,DW,DV,DU,EE,ED]
   exact av hQ
noncomputable def bJ:List W->(Hy->Prop)->Prop:=fun ws Q=>∃(q r:Rat),ws=[.d (fr q),.d (fr r)]/\((EN 2000 q)/\(EN 2000 r))/\Q (fr (q*r))
theorem bJ.mono:∀ws (Q Q':Hy->Prop),(∀d,Q d->Q' d)->bJ ws Q->bJ ws Q':=fun _ _ _ h_=>HD fun _=>HD fun _=>HA (HA (h_ _))
theorem bJ.len:∀ws (Q:Hy->Prop),bJ ws Q->ws.length=2:=fun _ _ h_=>by obtain⟨_,_,e_,_⟩:=h_;subst e_;rfl
theorem bJ.eq(q r:Rat)(h1:EN 2000 q)(h2:EN 2000 r):bJ [.d (fr q),.d (fr r)]=VL.ret (fr (q*r):Hy):=by
 refine ak fun Q=>⟨?_,fun q_=>⟨q,r,rfl,⟨h1,h2⟩,q_⟩⟩
 rintro⟨q',r',e_,_,q_⟩
 simp_arith only[cX,bw,bx,aO,aN,bE]at e_
 obtain⟨rfl,rfl⟩:=e_
 exact q_
theorem gq:FnScope ["_law_one", "_law_other"] ["_law_one", "_law_other"] (defScope (Ed 60)):=⟨rfl,rfl,rfl,by decide +kernel,rfl,by decide +kernel,by decide +kernel⟩
theorem d__law_product(Fn:FnIn K mg "_law_product" (Ed 60) ["_law_one", "_law_other"])(Z:Bz mg)(d__law_frac:∀rl,Dfn P w K mg base rl "_law_frac" ["_law_top", "_law_bottom"] 1 bi)   : Dfn P w K mg base rl "_law_product" ["_law_one", "_law_other"] 2 bJ:=by
 have sc:=gq
 refine Dfn.of Fn sc (bJ.mono) (bJ.len) (fun cdv A outer s H E hr=>(aj (ar (ai (d__law_frac _) (hr.mono (by decide)) (aa (v_mul (aL (vn 0) ac) (aL (vn 1) ac)) (aa (v_mul (aL (vn 0) ac) (aL (vn 1) ac)) ab)))))) ?_
 rintro ws Q ⟨q,r,rfl,⟨h1,h2⟩,hQ⟩
 refine aB ?_
 have m1:bV q.num r.num:=.bb h1.bn h2.bn
 have m2:bV (q.den:Int) (r.den:Int):=.bb h1.bd h2.bd
 have hb:0<(q.den:Int)*(r.den:Int):=den_pos q r
 have hz:((q.den:Int)*(r.den:Int)).natAbs<2^8000:=by
  rw[J4,Iq,Iq]
  exact HJ (ci h1.2 h2.2) (HP (by decide) (by decide))
 simp_arith only[ag,ae,Hv,bi.eq]
 rw[sO]
 exact av hQ
theorem dR(xs:List α)(f:α->Hy){k:Int}(h:0<=k):VL.cutD (xs.map f) (some k) none=(xs.drop k.toNat).map f:=by
 unfold VL.cutD
 rw[HT.sIx_none,nO h,HM,<- List.map_drop,<- MO]
 congr 1
 by_cases z:k.toNat<=xs.length
 · rw[Mi z,Je (by rw[JX];omega)]
 · rw[L3 (by omega),K3 (by omega),K3 (by omega)];simp
theorem vJ(x:Hy)(xs:List Hy):VL.cutD (x::xs) (some 1) none=xs:=by
 have h:VL.cutD ((x::xs).map id) (some 1) none=((x::xs).drop (1:Int).toNat).map id:=dR (x::xs) id (by decide)
 rw[Nc,Nc]at h
 exact h
theorem n9{x d:Int}(hd:0<d)(h:0<x):0<qd x d:=by
 refine Rat.lt_of_le_of_ne (n_ hd (by omega)) fun e=>?_
 have:=qM (a:=x) hd
 rw[<- e]at this
 simp at this
 omega
theorem xm(x:Int){d:Int}:qd (-x) d = -(qd x d):=by
 unfold qd
 rw[Rat.intCast_neg,Kp,Kp,Rat.neg_mul]
theorem zR{x d:Int}(hd:0<d):qd (max 0 x) d=mx (qd x d) 0:=by
 unfold mx
 rcases Int.lt_trichotomy x 0 with h|h|h
 · have e:max 0 x=0:=by omega
   have p:=n9 hd (show 0 < -x by omega)
   rw[xm]at p
   have:qd x d<0:=by grind
   rw[if_pos this,e]
   unfold qd;rw[Kp];show(0:Rat)*_=0;rw[Rat.zero_mul]
 · subst h
   have e:qd 0 d=0:=by unfold qd;rw[Kp];show(0:Rat)*_=0;rw[Rat.zero_mul]
   rw[show max 0 (0:Int)=0 from rfl,e,if_neg (by decide)]
 · have e:max 0 x=x:=by omega
   rw[e,if_neg (Kj.mpr (Kq (n9 hd h)))]
theorem sN{d:Int}(hd:0<d):qd d d=1:=by
 unfold qd
 rw[Kp]
 have hne:(d:Rat)≠0:=by
  intro z
  have e:d=0:=by exact_mod_cast z
  omega
 exact Rat.mul_inv_cancel _ hne
theorem sQ(a b:Int){d:Int}(h:0<d):qd (a+b) d=qd a d+qd b d:=by
 unfold qd
 rw[Rat.intCast_add,Kp,Kp,Kp,Rat.add_mul]
theorem zS{x d:Int}(hd:0<d):qd (min d (d+x)) d=mn (1+qd x d) 1:=by
 unfold mn
 by_cases h:x<0
 · have p:=n9 hd (show 0 < -x by omega)
   rw[xm]at p
   rw[show min d (d+x)=d+x by omega,sQ _ _ hd,sN hd,if_pos (by grind)]
 · have p:=n_ hd (show 0<=x by omega)
   rw[show min d (d+x)=d by omega,sN hd,if_neg (by grind)]
noncomputable def bf:List W->(Hy->Prop)->Prop:=fun ws Q=>∃(s:Sd),ws=[.d (EA s)]/\((GI s))/\Q (fr (szQ s))
theorem bf.mono:∀ws (Q Q':Hy->Prop),(∀d,Q d->Q' d)->bf ws Q->bf ws Q':=fun _ _ _ h_=>HD fun _=>HA (HA (h_ _))
theorem bf.len:∀ws (Q:Hy->Prop),bf ws Q->ws.length=1:=fun _ _ h_=>by obtain⟨_,e_,_⟩:=h_;subst e_;rfl
theorem bf.eq(s:Sd)(hs:GI s):bf [.d (EA s)]=VL.ret (fr (szQ s):Hy):=by
 refine ak fun Q=>⟨?_,fun q_=>⟨s,rfl,hs,q_⟩⟩
 rintro⟨s',e_,_,q_⟩
 simp_arith only[cX,bw,bx,aO,aN,bE]at e_
 obtain rfl:=e_
 exact q_
theorem fE:FnScope ["_law_side", "_law_ends_here", "_law_bottom", "_law_more"] ["_law_side"] (defScope (Ed 57)):=⟨rfl,rfl,rfl,by decide +kernel,rfl,by decide +kernel,by decide +kernel⟩
theorem d__law_side_size(Fn:FnIn K mg "_law_side_size" (Ed 57) ["_law_side"])(Z:Bz mg)(d__law_frac:∀rl,Dfn P w K mg base rl "_law_frac" ["_law_top", "_law_bottom"] 1 bi)   : Dfn P w K mg base rl "_law_side_size" ["_law_side"] 2 bf:=by
 have sc:=fE
 refine Dfn.of Fn sc (bf.mono) (bf.len) (fun cdv A outer s H E hr=>(af (cQ 1 sc.nd ["_law_one"] [none] rfl (dA (iP (vn 0) (cu ac) cR)) (fun _=>(am 0 (show IT (["_law_one"]:List Str) by decide +kernel))) (fun _=>dr) (fun _=>(cj (az jb iM (aw _) (aL (vn 0) ac) ac) (vn 0) (aP (aa ac (aa ac ab))))))
  (af (aU (az dv cr (aw _) (aL (vn 0) ac) aF) (aj (ar (aL (vn 1) ac))) aH)
  (af (ax 2 sc.nd (v_mul (aL (aL (vn 1) ac) ac) (aL (aL (vn 1) ac) ac)))
  (af (ax 3 sc.nd (v_sub (v_mul (aL (aL (vn 1) ac) ac) (aL (aL (vn 1) ac) ac)) (v_mul (aL (aL (vn 1) ac) ac) (aL (aL (vn 1) ac) ac))))
  (af (aU (az dv cr (aw _) (aL (vn 0) ac) aF) (aj (ar (ai (d__law_frac _) (hr.mono (by decide)) (aa (wm Z.max_ (aa ac (aa (vn 3) ab))) (aa (vn 2) ab))))) aH)
  (aj (ar (ai (d__law_frac _) (hr.mono (by decide)) (aa (wk Z.min_ (aa (vn 2) (aa (v_add (vn 2) (vn 3)) ab))) (aa (vn 2) ab))))))))))) ?_
 rintro ws Q ⟨s,rfl,hs,hQ⟩
 have w1:decide (Hw "from" = Hw "to")=false:=by decide +kernel
 have w2:decide (Hw "round" = Hw "to")=false:=by decide +kernel
 have w3:decide (Hw "round" = Hw "from")=false:=by decide +kernel
 have w4:decide (Hw "to" = Hw "to")=true:=by decide +kernel
 have w5:decide (Hw "from" = Hw "from")=true:=by decide +kernel
 have s1:HI (Mn "to")=true:=by decide +kernel
 have s2:HI (Mn "from")=true:=by decide +kernel
 have s3:HI (Mn "round")=true:=by decide +kernel
 have hw1:decide (Hw "half" = Hw "shut")=false:=by decide +kernel
 have hw2:decide (Hw "half" = Hw "open")=false:=by decide +kernel
 have eqi:∀i j:Int,HC (.int i) (.int j)=(i==j):=fun i j=>by simp[HC]
 refine aB ?_
 have sz:=HV
 have mxe:∀q:Rat,(if decide (0<q.num)=true then fr q else Jc [.int 0,.int 1])=fr (mx q 0):=fun q=>by
  unfold mx
  by_cases h:0<q.num
  · rw[if_pos (by simpa using h),if_neg];exact Kj.mpr (Rat.num_nonneg.mp (by omega))
  · rw[if_neg (by simpa using h)]
    by_cases h2:q<0
    · rw[if_pos h2];rfl
    · rw[if_neg h2]
      have h3:=Rat.num_nonneg.mpr (Kj.mp h2)
      have e:q=0:=Rat.num_eq_zero.mp (by omega)
      rw[e];rfl
 obtain⟨a1,a2⟩:=hs
 cases s with
 | to t =>
   simp_arith only[ag,ae,Hv,w1,w2,w3,w4,w5,EA,vJ]
   refine Eu (cM (xs:=[t]) (enc:=fr) (fun q=>fr (mx q 0)) rfl ?_ (by simp;omega) ?_)
   · intro q mq
     simp_arith only[ag,ae,FB,Hv]
     rw[mxe q]
   · simp_arith only[ag,ae,Hv,w1,w2,w3,w4,w5,pD]
     exact av hQ
 | «from» a b =>
   have a1:EN 2000 a:=a1
   have a2:EN 2000 b:=a2
   simp_arith only[ag,ae,Hv,w1,w2,w3,w4,w5,EA,vJ]
   refine Eu (cM (xs:=[a,b]) (enc:=fr) (fun q=>fr (mx q 0)) rfl ?_ (by simp;omega) ?_)
   · intro q mq
     simp_arith only[ag,ae,FB,Hv]
     rw[mxe q]
   have x1:EN 2000 (mx a 0):=dZ a1 (Di.mono (by decide))
   have x2:EN 2000 (mx b 0):=dZ a2 (Di.mono (by decide))
   have n1:bV ((mx a 0).den:Int) ((mx b 0).den:Int):=.bb x1.bd x2.bd
   have n2:bV (mx b 0).num ((mx a 0).den:Int):=.bb x2.bn x1.bd
   have n3:bV (mx a 0).num ((mx b 0).den:Int):=.bb x1.bn x2.bd
   have hb:0<((mx a 0).den:Int)*((mx b 0).den:Int):=den_pos _ _
   have hz:(((mx a 0).den:Int)*((mx b 0).den:Int)).natAbs<2^8000:=by
    rw[J4,Iq,Iq]
    exact HJ (ci x1.2 x2.2) (HP (by decide) (by decide))
   have ed:qd ((mx b 0).num*((mx a 0).den:Int)-(mx a 0).num*((mx b 0).den:Int)) (((mx a 0).den:Int)*((mx b 0).den:Int))=mx b 0-mx a 0:=by rw[Int.mul_comm ((mx a 0).den:Int)];exact n6 (mx b 0) (mx a 0)
   simp_arith only[ag,ae,Hv,w1,w2,w3,w4,w5,pD,bi.eq]
   rw[zR hb,ed]
   exact av hQ
 | round a b =>
   have a1:EN 2000 a:=a1
   have a2:EN 2000 b:=a2
   simp_arith only[ag,ae,Hv,w1,w2,w3,w4,w5,EA,vJ]
   refine Eu (cM (xs:=[a,b]) (enc:=fr) (fun q=>fr (mx q 0)) rfl ?_ (by simp;omega) ?_)
   · intro q mq
     simp_arith only[ag,ae,FB,Hv]
     rw[mxe q]
   have x1:EN 2000 (mx a 0):=dZ a1 (Di.mono (by decide))
   have x2:EN 2000 (mx b 0):=dZ a2 (Di.mono (by decide))
   have n1:bV ((mx a 0).den:Int) ((mx b 0).den:Int):=.bb x1.bd x2.bd
   have n2:bV (mx b 0).num ((mx a 0).den:Int):=.bb x2.bn x1.bd
   have n3:bV (mx a 0).num ((mx b 0).den:Int):=.bb x1.bn x2.bd
   have hb:0<((mx a 0).den:Int)*((mx b 0).den:Int):=den_pos _ _
   have hz:(((mx a 0).den:Int)*((mx b 0).den:Int)).natAbs<2^8000:=by
    rw[J4,Iq,Iq]
    exact HJ (ci x1.2 x2.2) (HP (by decide) (by decide))
   have ed:qd ((mx b 0).num*((mx a 0).den:Int)-(mx a 0).num*((mx b 0).den:Int)) (((mx a 0).den:Int)*((mx b 0).den:Int))=mx b 0-mx a 0:=by rw[Int.mul_comm ((mx a 0).den:Int)];exact n6 (mx b 0) (mx a 0)
   simp_arith only[ag,ae,Hv,w1,w2,w3,w4,w5,pD,bi.eq]
   rw[zS hb,ed]
   exact av hQ
theorem pP(q r:Rat):decide (F_ q r<=0) = !decide (r<q):=by
 rw[yB]
 by_cases h:r<q
 · simp[h];exact Rat.not_le.mpr h
 · simp[h];exact Kj.mp h
theorem Gj(x y:Bool):tF [.bool x,.bool y]=some [x,y]:=rfl
theorem all2(x y:Bool):[x,y].all id=(x&&y):=by cases x<;>cases y<;>rfl
theorem AJ(x y:Bool):[x,y].any id=(x||y):=by cases x<;>cases y<;>rfl
theorem ue{c:Ce}{x:Rat}{u v:Bool}(h1:Fh (Fo c) "shut" x=u)(h2:Fh (FK c) "open" x=v):Eh c x=if u=true then 2 else if v=true then 1 else 0:=by unfold Eh;rw[h1,h2]
theorem u0(t x:Rat):Fh (.to t) "shut" x = !decide (t<x):=by
 have hw1:decide (Hw "shut" = Hw "shut")=true:=by decide +kernel
 unfold Fh FS
 simp[Sd.last,hw1]
 all_goals first|rfl|congr
theorem u4(t x:Rat):Fh (.to t) "open" x=decide (x<t):=by
 have hw1:decide (Hw "open" = Hw "shut")=false:=by decide +kernel
 unfold Fh FS
 simp[Sd.last,hw1,Jz]
 all_goals first|rfl|congr
theorem uZ(a b x:Rat):Fh (.from a b) "shut" x=(!decide (x<a) && !decide (b<x)):=by
 have hw1:decide (Hw "shut" = Hw "shut")=true:=by decide +kernel
 have hw2:decide (Hw "shut" = Hw "open")=false:=by decide +kernel
 unfold Fh FS
 simp[Sd.last,Sd.first,hw1,hw2,Ms]
 all_goals first|rfl|congr
theorem u3(a b x:Rat):Fh (.from a b) "open" x=(decide (a<x)&&decide (x<b)):=by
 have hw1:decide (Hw "open" = Hw "shut")=false:=by decide +kernel
 have hw2:decide (Hw "open" = Hw "open")=true:=by decide +kernel
 unfold Fh FS
 simp[Sd.last,Sd.first,hw1,hw2,MN,Jz]
 all_goals first|rfl|congr
theorem x6(a b x:Rat):Fh (.round a b) "shut" x=(!decide (x<a) || !decide (b<x)):=by
 have hw1:decide (Hw "shut" = Hw "shut")=true:=by decide +kernel
 have hw2:decide (Hw "shut" = Hw "open")=false:=by decide +kernel
 unfold Fh FS
 simp[Sd.last,Sd.first,hw1,hw2,Ms]
 all_goals first|rfl|congr
theorem x8(a b x:Rat):Fh (.round a b) "open" x=(decide (a<x)||decide (x<b)):=by
 have hw1:decide (Hw "open" = Hw "shut")=false:=by decide +kernel
 have hw2:decide (Hw "open" = Hw "open")=true:=by decide +kernel
 unfold Fh FS
 simp[Sd.last,Sd.first,hw1,hw2,MN,Jz]
 all_goals first|rfl|congr
noncomputable def vO(n:Nat)(cs:List Ce):Prop:=cs.length=n/\1<=n/\n<=4/\∀c∈cs,Hr c
theorem nE{c:Ce}(h:Hr c):GJ (Fo c):=by
 obtain⟨k,rs⟩:=c
 obtain⟨rfl,a,rfl,⟨a1,a2,al,au⟩⟩|⟨rfl,a,b,rfl,⟨a1,a2,al,au⟩,b1,b2,bl,bu⟩|⟨rfl,a,b,rfl,⟨a1,a2,al,au⟩,b1,b2,bl,bu⟩:=h
 · exact⟨a1,a1⟩
 · exact⟨a2,b1⟩
 · exact⟨a2,b1⟩
theorem nF{c:Ce}(h:Hr c):GJ (FK c):=by
 obtain⟨k,rs⟩:=c
 obtain⟨rfl,a,rfl,⟨a1,a2,al,au⟩⟩|⟨rfl,a,b,rfl,⟨a1,a2,al,au⟩,b1,b2,bl,bu⟩|⟨rfl,a,b,rfl,⟨a1,a2,al,au⟩,b1,b2,bl,bu⟩:=h
 · exact⟨a2,a2⟩
 · exact⟨a1,b2⟩
 · exact⟨a1,b2⟩
theorem yC{cs:List Ce}(h:vO n cs):Hs (cs.map Fo):=by
 obtain⟨hl,h1,h4,hc⟩:=h
 refine⟨by rw[HM];omega,by rw[HM];omega,fun s ms=>?_⟩
 obtain⟨c,mc,rfl⟩:=IM.mp ms
 exact nE (hc c mc)
theorem yD{cs:List Ce}(h:vO n cs):Hs (cs.map FK):=by
 obtain⟨hl,h1,h4,hc⟩:=h
 refine⟨by rw[HM];omega,by rw[HM];omega,fun s ms=>?_⟩
 obtain⟨c,mc,rfl⟩:=IM.mp ms
 exact nF (hc c mc)
theorem yE(cs:List Ce):Jc (cs.map fun c=>EA (Fo c))=jq (cs.map Fo):=by unfold jq;rw[Jd];rfl
theorem yF(cs:List Ce):Jc (cs.map fun c=>EA (FK c))=jq (cs.map FK):=by unfold jq;rw[Jd];rfl
noncomputable def toldD(ps:List (List Rat))(cs:List Ce):Hy:=.tuple [.int (cntN ps (cs.map Fo) "shut"),.int ((cntN ps (cs.map FK) "open" : Int)-(cntN ps (cs.map Fo) "shut" : Int)),fr (cf (cs.map Fo)),fr (cf (cs.map FK))]
noncomputable def cB:List W->(Hy->Prop)->Prop:=fun ws Q=>∃(ps:List (List Rat))(cs:List Ce),ws=[.d (ptsQ ps),.d (Gc cs)]/\((qi cs.length ps)/\(vO cs.length cs))/\Q (toldD ps cs)
theorem cB.mono:∀ws (Q Q':Hy->Prop),(∀d,Q d->Q' d)->cB ws Q->cB ws Q':=fun _ _ _ h_=>HD fun _=>HD fun _=>HA (HA (h_ _))
theorem cB.len:∀ws (Q:Hy->Prop),cB ws Q->ws.length=2:=fun _ _ h_=>by obtain⟨_,_,e_,_⟩:=h_;subst e_;rfl
theorem cB.eq(ps:List (List Rat))(cs:List Ce)(hp:qi cs.length ps)(hc:vO cs.length cs):cB [.d (ptsQ ps),.d (Gc cs)]=VL.ret (toldD ps cs:Hy):=by
 refine ak fun Q=>⟨?_,fun q_=>⟨ps,cs,rfl,⟨hp,hc⟩,q_⟩⟩
 rintro⟨ps',cs',e_,_,q_⟩
 simp_arith only[cX,bw,bx,aO,aN,bE,cN,eZ,fJ]at e_
 obtain⟨rfl,rfl⟩:=e_
 exact q_
theorem jF:FnScope ["points", "cell", "least_box", "most_box", "sure", "perhaps"] ["points", "cell"] (defScope (Ed 31)):=⟨rfl,rfl,rfl,by decide +kernel,rfl,by decide +kernel,by decide +kernel⟩
theorem d_cell_told(Fn:FnIn K mg "cell_told" (Ed 31) ["points", "cell"])(Z:Bz mg)(d_inside:∀rl,Dfn P w K mg base rl "inside" ["points", "box", "way"] 5 dN)(d_size_of:∀rl,Dfn P w K mg base rl "size_of" ["box"] 5 di)(d_least_side:∀rl,Dfn P w K mg base rl "least_side" ["word", "ranges"] 1 b9)(d_most_side:∀rl,Dfn P w K mg base rl "most_side" ["word", "ranges"] 1 cy)   : Dfn P w K mg base rl "cell_told" ["points", "cell"] 6 cB:=by
 have sc:=jF
 refine Dfn.of Fn sc (cB.mono) (cB.len) (fun cdv A outer s H E hr=>(af (ax 2 sc.nd (gi Z.tuple_ (aa (cI ["word", "ranges"] [none,none] rfl (dA (vn 1)) (fun _=>(bH (n:=2) rfl (aq (am 0 (show IT (["word", "ranges"]:List Str) by decide +kernel)) (aq (am 1 (show IT (["word", "ranges"]:List Str) by decide +kernel)) aV)))) (fun _=>dr) (fun _=>(ai (d_least_side _) (hr.mono (by decide)) (aa (vn 0) (aa (vn 1) ab))))) ab)))
  (af (ax 3 sc.nd (gi Z.tuple_ (aa (cI ["word", "ranges"] [none,none] rfl (dA (vn 1)) (fun _=>(bH (n:=2) rfl (aq (am 0 (show IT (["word", "ranges"]:List Str) by decide +kernel)) (aq (am 1 (show IT (["word", "ranges"]:List Str) by decide +kernel)) aV)))) (fun _=>dr) (fun _=>(ai (d_most_side _) (hr.mono (by decide)) (aa (vn 0) (aa (vn 1) ab))))) ab)))
  (af (ax 4 sc.nd (ai (d_inside _) (hr.mono (by decide)) (aa (vn 0) (aa (vn 2) (aa aF ab)))))
  (af (ax 5 sc.nd (v_sub (ai (d_inside _) (hr.mono (by decide)) (aa (vn 0) (aa (vn 3) (aa aF ab)))) (vn 4)))
  (aj (ar (aP (aa (vn 4) (aa (vn 5) (aa (ai (d_size_of _) (hr.mono (by decide)) (aa (vn 2) ab)) (aa (ai (d_size_of _) (hr.mono (by decide)) (aa (vn 3) ab)) ab)))))))))))) ?_
 rintro ws Q ⟨ps,cs,rfl,⟨hp,hc⟩,hQ⟩
 refine aB ?_
 have sz:=HV
 have h4:=hc.2.2.1
 have bl:=yC hc
 have bh:=yD hc
 have hp1:qi (cs.map Fo).length ps:=by rw[HM];exact hp
 have hp2:qi (cs.map FK).length ps:=by rw[HM];exact hp
 have w1:FC "shut" := .inr (.inl rfl)
 have w2:FC "open" := .inr (.inr rfl)
 simp_arith only[ag,ae,Hv,Gc]
 refine Eu (cM (xs:=cs) (enc:=Gf) (fun c=>EA (Fo c)) rfl ?_ (by omega) ?_)
 · rintro⟨k,rs⟩ mc
   have hk:=hc.2.2.2 _ mc
   simp_arith only[ag,ae,FB,Hv,Gf,b9.eq]
 simp_arith only[ag,ae,Hv,yE]
 refine Eu (cM (xs:=cs) (enc:=Gf) (fun c=>EA (FK c)) rfl ?_ (by omega) ?_)
 · rintro⟨k,rs⟩ mc
   have hk:=hc.2.2.2 _ mc
   simp_arith only[ag,ae,FB,Hv,Gf,cy.eq]
 simp_arith only[ag,ae,Hv,yF,dN.eq,di.eq]
 exact av hQ
theorem jx{c:Ce}(h:Hr c){x:Rat}(hs:Fh (Fo c) "shut" x=true):Fh (FK c) "open" x=true:=by
 obtain⟨k,rs⟩:=c
 obtain⟨rfl,a,rfl,⟨a1,a2,al,au⟩⟩|⟨rfl,a,b,rfl,⟨a1,a2,al,au⟩,b1,b2,bl,bu⟩|⟨rfl,a,b,rfl,⟨a1,a2,al,au⟩,b1,b2,bl,bu⟩:=h
 · rw[Fq,u0]at hs
   rw[FN,u4]
   simp at hs ⊢
   grind
 · rw[lo1,uZ]at hs
   rw[hi1,u3]
   simp at hs ⊢
   grind
 · rw[Fp,x6]at hs
   rw[FM,x8]
   simp at hs ⊢
   grind
theorem lP(qs:List Rat)(cs:List Ce)(f:Ce->Sd)(w:Str):Fz qs (cs.map f) w=(qs.zip cs).all fun p=>Fh (f p.2) w p.1:=by
 unfold Fz
 rw[List.zip_map_right,Mh]
 rfl
theorem xW{qs:List Rat}{cs:List Ce}{M:Int}(h:uW ((qs.zip cs).map fun p=>Eh p.2 p.1) M):(M==2)=Fz qs (cs.map Fo) "shut" := by
 rw[lP]
 obtain⟨hm,hl⟩:=h
 obtain⟨p,mp,ep⟩:=IM.mp hm
 rw[Kn,beq_iff_eq,Jq]
 constructor
 · intro e q mq
   have:=hl _ (IM.mpr ⟨q,mq,rfl⟩)
   unfold Eh at this
   split at this
   · assumption
   · split at this<;>omega
 · intro e
   have:=e p mp
   unfold Eh at ep
   rw[if_pos this]at ep
   omega
theorem xX{qs:List Rat}{cs:List Ce}{M:Int}(hc:∀c∈cs,Hr c)(h:uW ((qs.zip cs).map fun p=>Eh p.2 p.1) M):(M==1)=(Fz qs (cs.map FK) "open" && !Fz qs (cs.map Fo) "shut"):=by
 rw[lP,lP]
 obtain⟨hm,hl⟩:=h
 obtain⟨p,mp,ep⟩:=IM.mp hm
 rw[Kn,beq_iff_eq,Kh,Bool.not_eq_true',Jq,List.all_eq_false]
 constructor
 · intro e
   refine⟨fun q mq=>?_,p,mp,?_⟩
   · have:=hl _ (IM.mpr ⟨q,mq,rfl⟩)
     unfold Eh at this
     split at this
     · exact jx (hc _ (Jx mq).2) (by assumption)
     · split at this
       · assumption
       · omega
   · intro z
     unfold Eh at ep
     rw[if_pos z]at ep
     omega
 · rintro⟨e,q,mq,nq⟩
   have h1:=hl _ (IM.mpr ⟨q,mq,rfl⟩)
   have h2:=e p mp
   unfold Eh at ep h1
   rw[if_neg nq]at h1
   rw[if_pos h2]at ep
   split at h1<;>split at ep<;>omega
theorem yz{p:List Rat}{w:Str}(hi:i<ps.length)(e:ps[i]=p):(cntN (ps.take (i+1)) ss w:Int)=(cntN (ps.take i) ss w:Int)+(if Fz p ss w=true then 1 else 0):=by
 unfold cntN
 rw[JD hi,e]
 simp
 split<;>simp_all
theorem x9{qs:List Rat}{cs:List Ce}(hc:∀c∈cs,Hr c)(h:Fz qs (cs.map Fo) "shut" = true):Fz qs (cs.map FK) "open" = true:=by
 rw[lP,Jq]at h ⊢
 exact fun p mp=>jx (hc _ (Jx mp).2) (h p mp)
theorem wS(h4:ss.length<=4)(h:∀s∈ss,GJ s):EN 2000 (cf ss):=by
 unfold cf jU
 refine(qP (ss.map szQ) 1 1 xp fun q mq=>?_).mono (by rw[HM];omega)
 obtain⟨s,ms,rfl⟩:=IM.mp mq
 exact Es (h s ms)
theorem wZ{A:Fl}{M:En->Mo Fl}{K:Fl->Prop}(h:sq (VL.ret A) M K):VL.ret A (fun a=>sq (fun Q=>Q a) M K):=h
theorem nI{s:Sd}:cf (ss++[s])=cf ss*szQ s:=by
 unfold cf jU
 rw[IS,List.foldl_append]
 rfl
noncomputable def EB(rs:List Rg):Hy:=.list (rs.map EG)
theorem eR{a b:List Rg}:EB a=EB b↔a=b:=by
 unfold EB
 rw[Kw,JN fun x y h=>kK h]
noncomputable def Ge(c:Ce):Hy:=.tuple [.str (DT c.1),EB c.2]
noncomputable def Gb(cs:List Ce):Hy:=.list (cs.map Ge)
theorem fy{a b:List Ce}:Gb a=Gb b↔a=b:=by
 unfold Gb
 rw[Kw,JN fun x y h=>?_]
 obtain⟨a,b⟩:=x
 obtain⟨c,d⟩:=y
 unfold Ge at h
 simp only[IB,Il,and_true,K_]at h
 rw[cN.mp h.1,eR.mp h.2]
theorem rl1(a:Rg):EB [a] = .list [.tuple [fr a.1,fr a.2]]:=rfl
theorem EF(a b:Rg):EB [a,b] = .list [.tuple [fr a.1,fr a.2],.tuple [fr b.1,fr b.2]]:=rfl
noncomputable def cD:List W->(Hy->Prop)->Prop:=fun ws Q=>∃(k:Fin 3)(rs:List Rg),ws=[.d (.str (DT k)),.d (EB rs)]/\((Hr (k,rs)))/\Q (.tuple [EA (Fo (k,rs)),EA (FK (k,rs))])
theorem cD.mono:∀ws (Q Q':Hy->Prop),(∀d,Q d->Q' d)->cD ws Q->cD ws Q':=fun _ _ _ h_=>HD fun _=>HD fun _=>HA (HA (h_ _))
theorem cD.len:∀ws (Q:Hy->Prop),cD ws Q->ws.length=2:=fun _ _ h_=>by obtain⟨_,_,e_,_⟩:=h_;subst e_;rfl
theorem cD.eq(k:Fin 3)(rs:List Rg)(hc:Hr (k,rs)):cD [.d (.str (DT k)),.d (EB rs)]=VL.ret (.tuple [EA (Fo (k,rs)),EA (FK (k,rs))]:Hy):=by
 refine ak fun Q=>⟨?_,fun q_=>⟨k,rs,rfl,hc,q_⟩⟩
 rintro⟨k',rs',e_,_,q_⟩
 simp_arith only[cX,bw,bx,aO,aN,bE,cN,eR,fy]at e_
 obtain⟨rfl,rfl⟩:=e_
 exact q_
theorem jM:FnScope ["_law_word_here", "_law_ranges", "_law_low", "_law_high", "_law_first_here", "_law_last"] ["_law_word_here", "_law_ranges"] (defScope (Ed 59)):=⟨rfl,rfl,rfl,by decide +kernel,rfl,by decide +kernel,by decide +kernel⟩
theorem d__law_ends(Fn:FnIn K mg "_law_ends" (Ed 59) ["_law_word_here", "_law_ranges"])(Z:Bz mg)    : Dfn P w K mg base rl "_law_ends" ["_law_word_here", "_law_ranges"] 1 cD:=by
 have sc:=jM
 refine Dfn.of Fn sc (cD.mono) (cD.len) (fun cdv A outer s H E hr=>(af (cq (aL (vn 1) ac) (bH (n:=2) rfl (aq (am 2 sc.nd) (aq (am 3 sc.nd) aV))))
  (af (aU (az dv cr (aw _) (vn 0) aF) (aj (ar (aP (aa (aP (aa (vn 0) (aa (vn 2) ab))) (aa (aP (aa (vn 0) (aa (vn 3) ab))) ab))))) aH)
  (af (cq (aL (vn 1) ac) (bH (n:=2) rfl (aq (am 4 sc.nd) (aq (am 5 sc.nd) aV))))
  (aj (ar (aP (aa (aP (aa (vn 0) (aa (vn 3) (aa (vn 4) ab)))) (aa (aP (aa (vn 0) (aa (vn 2) (aa (vn 5) ab)))) ab))))))))) ?_
 rintro ws Q ⟨k,rs,rfl,hc,hQ⟩
 have w1:decide (Hw "from" = Hw "to")=false:=by decide +kernel
 have w2:decide (Hw "round" = Hw "to")=false:=by decide +kernel
 have w3:decide (Hw "round" = Hw "from")=false:=by decide +kernel
 have w4:decide (Hw "to" = Hw "to")=true:=by decide +kernel
 have w5:decide (Hw "from" = Hw "from")=true:=by decide +kernel
 refine aB ?_
 obtain⟨e,a,e2,⟨a1,a2,al,au⟩⟩|⟨e,a,b,e2,⟨a1,a2,al,au⟩,b1,b2,bl,bu⟩|⟨e,a,b,e2,⟨a1,a2,al,au⟩,b1,b2,bl,bu⟩:=hc
 · have e:k=0:=e
   have e2:rs=[a]:=e2
   subst e e2
   rw[Fq,FN]at hQ
   simp_arith only[ag,ae,Hv,w1,w2,w3,w4,w5,DW,DV,DU,rl1,EF]
   exact av hQ
 · have e:k=1:=e
   have e2:rs=[a,b]:=e2
   subst e e2
   rw[lo1,hi1]at hQ
   simp_arith only[ag,ae,Hv,w1,w2,w3,w4,w5,DW,DV,DU,rl1,EF]
   exact av hQ
 · have e:k=2:=e
   have e2:rs=[a,b]:=e2
   subst e e2
   rw[Fp,FM]at hQ
   simp_arith only[ag,ae,Hv,w1,w2,w3,w4,w5,DW,DV,DU,rl1,EF]
   exact av hQ
noncomputable def be:List W->(Hy->Prop)->Prop:=fun ws Q=>∃(x:Rat)(k:Fin 3)(rs:List Rg),ws=[.d (fr x),.d (.str (DT k)),.d (EB rs)]/\((EN 2000 x)/\(Hr (k,rs)))/\Q (.int (Eh (k,rs) x))
theorem be.mono:∀ws (Q Q':Hy->Prop),(∀d,Q d->Q' d)->be ws Q->be ws Q':=fun _ _ _ h_=>HD fun _=>HD fun _=>HD fun _=>HA (HA (h_ _))
theorem be.len:∀ws (Q:Hy->Prop),be ws Q->ws.length=3:=fun _ _ h_=>by obtain⟨_,_,_,e_,_⟩:=h_;subst e_;rfl
theorem be.eq(x:Rat)(k:Fin 3)(rs:List Rg)(h1:EN 2000 x)(hc:Hr (k,rs)):be [.d (fr x),.d (.str (DT k)),.d (EB rs)]=VL.ret (.int (Eh (k,rs) x):Hy):=by
 refine ak fun Q=>⟨?_,fun q_=>⟨x,k,rs,rfl,⟨h1,hc⟩,q_⟩⟩
 rintro⟨x',k',rs',e_,_,q_⟩
 simp_arith only[cX,bw,bx,aO,aN,bE,cN,eR,fy]at e_
 obtain⟨rfl,rfl,rfl⟩:=e_
 exact q_
theorem fD:FnScope ["_law_x", "_law_word_here", "_law_ranges", "_law_low", "_law_high", "_law_sure", "_law_near", "_law_first_here", "_law_last"] ["_law_x", "_law_word_here", "_law_ranges"] (defScope (Ed 58)):=⟨rfl,rfl,rfl,by decide +kernel,rfl,by decide +kernel,by decide +kernel⟩
theorem d__law_side_told(Fn:FnIn K mg "_law_side_told" (Ed 58) ["_law_x", "_law_word_here", "_law_ranges"])(Z:Bz mg)(d__law_cmp:∀rl,Dfn P w K mg base rl "_law_cmp" ["_law_one", "_law_other"] 1 bc)   : Dfn P w K mg base rl "_law_side_told" ["_law_x", "_law_word_here", "_law_ranges"] 2 be:=by
 have sc:=fD
 refine Dfn.of Fn sc (be.mono) (be.len) (fun cdv A outer s H E hr=>(af (cq (aL (vn 2) ac) (bH (n:=2) rfl (aq (am 3 sc.nd) (aq (am 4 sc.nd) aV))))
  (af (aU (az dv cr (aw _) (vn 1) aF) (aj (lw 5 6 rfl sc.nd (aa (cW oE tQ (aw _) (ai (d__law_cmp _) (hr.mono (by decide)) (aa (vn 0) (aa (vn 3) ab))) ac) (aa (cW dE dY (aw _) (ai (d__law_cmp _) (hr.mono (by decide)) (aa (vn 0) (aa (vn 4) ab))) ac) ab)))) (af (cq (aL (vn 2) ac) (bH (n:=2) rfl (aq (am 7 sc.nd) (aq (am 8 sc.nd) aV))))
  (af (ax 5 sc.nd (cH (aa (cW oE tQ (aw _) (ai (d__law_cmp _) (hr.mono (by decide)) (aa (vn 4) (aa (vn 0) ab))) ac) (aa (cW oE tQ (aw _) (ai (d__law_cmp _) (hr.mono (by decide)) (aa (vn 0) (aa (vn 7) ab))) ac) ab))))
  (af (ax 6 sc.nd (cH (aa (cW dE dY (aw _) (ai (d__law_cmp _) (hr.mono (by decide)) (aa (vn 3) (aa (vn 0) ab))) ac) (aa (cW dE dY (aw _) (ai (d__law_cmp _) (hr.mono (by decide)) (aa (vn 0) (aa (vn 8) ab))) ac) ab))))
  (af (ax 5 sc.nd (cj (az dv cr (aw _) (vn 1) aF) (v_all Z.all_ (aa (vn 5) ab)) (v_any Z.any_ (aa (vn 5) ab))))
  (aj (ax 6 sc.nd (cj (az dv cr (aw _) (vn 1) aF) (v_all Z.all_ (aa (vn 6) ab)) (v_any Z.any_ (aa (vn 6) ab))))))))))
  (aj (ar (cj (bZ (vn 5)) ac (eF Z.int_ (aa (vn 6) ab)))))))) ?_
 rintro ws Q ⟨x,k,rs,rfl,⟨h1,hc⟩,hQ⟩
 have w1:decide (Hw "from" = Hw "to")=false:=by decide +kernel
 have w2:decide (Hw "round" = Hw "to")=false:=by decide +kernel
 have w3:decide (Hw "round" = Hw "from")=false:=by decide +kernel
 have w4:decide (Hw "to" = Hw "to")=true:=by decide +kernel
 have w5:decide (Hw "from" = Hw "from")=true:=by decide +kernel
 refine aB ?_
 obtain⟨e,a,e2,⟨a1,a2,al,au⟩⟩|⟨e,a,b,e2,⟨a1,a2,al,au⟩,b1,b2,bl,bu⟩|⟨e,a,b,e2,⟨a1,a2,al,au⟩,b1,b2,bl,bu⟩:=hc
 · have e:k=0:=e
   have e2:rs=[a]:=e2
   subst e e2
   have A1:EN 2000 a.1:=a1.mono (by decide)
   have A2:EN 2000 a.2:=a2.mono (by decide)
   rw[ue (c:=(0,[a])) (u0 a.1 x) (u4 a.2 x)]at hQ
   simp_arith only[ag,ae,Hv,w1,w2,w3,w4,w5,DW,DV,DU,rl1,EF,bc.eqQ,fS,pP,Gj,all2,AJ]
   exact av hQ
 · have e:k=1:=e
   have e2:rs=[a,b]:=e2
   subst e e2
   have A1:EN 2000 a.1:=a1.mono (by decide)
   have A2:EN 2000 a.2:=a2.mono (by decide)
   have B1:EN 2000 b.1:=b1.mono (by decide)
   have B2:EN 2000 b.2:=b2.mono (by decide)
   rw[ue (c:=(1,[a,b])) (uZ a.2 b.1 x) (u3 a.1 b.2 x)]at hQ
   simp_arith only[ag,ae,Hv,w1,w2,w3,w4,w5,DW,DV,DU,rl1,EF,bc.eqQ,fS,pP,Gj,all2,AJ]
   exact av hQ
 · have e:k=2:=e
   have e2:rs=[a,b]:=e2
   subst e e2
   have A1:EN 2000 a.1:=a1.mono (by decide)
   have A2:EN 2000 a.2:=a2.mono (by decide)
   have B1:EN 2000 b.1:=b1.mono (by decide)
   have B2:EN 2000 b.2:=b2.mono (by decide)
   rw[ue (c:=(2,[a,b])) (x6 a.2 b.1 x) (x8 a.1 b.2 x)]at hQ
   simp_arith only[ag,ae,Hv,w1,w2,w3,w4,w5,DW,DV,DU,rl1,EF,bc.eqQ,fS,pP,Gj,all2,AJ]
   exact av hQ
noncomputable def bj:List W->(Hy->Prop)->Prop:=fun ws Q=>∃(ps:List (List Rat))(cs:List Ce),ws=[.d (ptsQ ps),.d (Gb cs)]/\((qi cs.length ps)/\(vO cs.length cs))/\Q (toldD ps cs)
theorem bj.mono:∀ws (Q Q':Hy->Prop),(∀d,Q d->Q' d)->bj ws Q->bj ws Q':=fun _ _ _ h_=>HD fun _=>HD fun _=>HA (HA (h_ _))
theorem bj.len:∀ws (Q:Hy->Prop),bj ws Q->ws.length=2:=fun _ _ h_=>by obtain⟨_,_,e_,_⟩:=h_;subst e_;rfl
theorem bj.eq(ps:List (List Rat))(cs:List Ce)(hp:qi cs.length ps)(hc:vO cs.length cs):bj [.d (ptsQ ps),.d (Gb cs)]=VL.ret (toldD ps cs:Hy):=by
 refine ak fun Q=>⟨?_,fun q_=>⟨ps,cs,rfl,⟨hp,hc⟩,q_⟩⟩
 rintro⟨ps',cs',e_,_,q_⟩
 simp_arith only[cX,bw,bx,aO,aN,bE,cN,eR,fy]at e_
 obtain⟨rfl,rfl⟩:=e_
 exact q_
theorem fF:FnScope ["_law_pts", "_law_cell", "_law_sure", "_law_near", "_law_point", "_law_kinds", "_law_least", "_law_most", "_law_word_here", "_law_ranges", "_law_small", "_law_great"] ["_law_pts", "_law_cell"] (defScope (Ed 61)):=⟨rfl,rfl,rfl,by decide +kernel,rfl,by decide +kernel,by decide +kernel⟩
theorem d__law_cell_told(Fn:FnIn K mg "_law_cell_told" (Ed 61) ["_law_pts", "_law_cell"])(Z:Bz mg)(d__law_ends:∀rl,Dfn P w K mg base rl "_law_ends" ["_law_word_here", "_law_ranges"] 1 cD)(d__law_product:∀rl,Dfn P w K mg base rl "_law_product" ["_law_one", "_law_other"] 2 bJ)(d__law_side_told:∀rl,Dfn P w K mg base rl "_law_side_told" ["_law_x", "_law_word_here", "_law_ranges"] 2 be)(d__law_side_size:∀rl,Dfn P w K mg base rl "_law_side_size" ["_law_side"] 2 bf)   : Dfn P w K mg base rl "_law_cell_told" ["_law_pts", "_law_cell"] 3 bj:=by
 have sc:=fF
 refine Dfn.of Fn sc (bj.mono) (bj.len) (fun cdv A outer s H E hr=>(af (cq (aP (aa ac (aa ac ab))) (bH (n:=2) rfl (aq (am 2 sc.nd) (aq (am 3 sc.nd) aV))))
  (af (dG [4,5] I_ rfl (dA (vn 0)) (am 4 sc.nd) (af (cQ 5 sc.nd ["_law_x", "_law_side"] [none,none] rfl (qt Z.zip_ (aa (vn 4) (aa (vn 1) ab))) (fun _=>(bH (n:=2) rfl (aq (am 0 (show IT (["_law_x", "_law_side"]:List Str) by decide +kernel)) (aq (am 1 (show IT (["_law_x", "_law_side"]:List Str) by decide +kernel)) aV)))) (fun _=>dr) (fun _=>(ai (d__law_side_told _) (hr.mono (by decide)) (aa (vn 0) (aa (aL (vn 1) ac) (aa (aL (vn 1) ac) ab))))))
  (af (ax 2 sc.nd (v_add (vn 2) (eF Z.int_ (aa (cW (bM hr.units) aZ (aw _) (wl Z.min_ (aa (vn 5) ab)) ac) ab))))
  (aj (ax 3 sc.nd (v_add (vn 3) (eF Z.int_ (aa (cW (bM hr.units) aZ (aw _) (wl Z.min_ (aa (vn 5) ab)) ac) ab))))))))
  (af (cq (aP (aa (aP (aa ac (aa ac ab))) (aa (aP (aa ac (aa ac ab))) ab))) (bH (n:=2) rfl (aq (am 6 sc.nd) (aq (am 7 sc.nd) aV))))
  (af (dG [8,9,10,11] I_ rfl (gh (vn 1)) (bH (n:=2) rfl (aq (am 8 sc.nd) (aq (am 9 sc.nd) aV))) (af (cq (ai (d__law_ends _) (hr.mono (by decide)) (aa (vn 8) (aa (vn 9) ab))) (bH (n:=2) rfl (aq (am 10 sc.nd) (aq (am 11 sc.nd) aV))))
  (af (ax 6 sc.nd (ai (d__law_product _) (hr.mono (by decide)) (aa (vn 6) (aa (ai (d__law_side_size _) (hr.mono (by decide)) (aa (vn 10) ab)) ab))))
  (aj (ax 7 sc.nd (ai (d__law_product _) (hr.mono (by decide)) (aa (vn 7) (aa (ai (d__law_side_size _) (hr.mono (by decide)) (aa (vn 11) ab)) ab))))))))
  (aj (ar (aP (aa (vn 2) (aa (vn 3) (aa (vn 6) (aa (vn 7) ab)))))))))))) ?_
 rintro ws Q ⟨ps,cs,rfl,⟨hp,hc⟩,hQ⟩
 refine aB ?_
 have sz:=HV
 have h4:=hc.2.2.1
 have hcc:=hc.2.2.2
 have eqi:∀i j:Int,HC (.int i) (.int j)=(i==j):=fun i j=>by simp[HC]
 simp_arith only[ag,ae,Hv]
 refine jZ (xs:=ps) (enc:=ET) (fun i ρ=>ρ=[some (.d (ptsQ ps)),some (.d (Gb cs)),some (.d (.int (cntN (ps.take i) (cs.map Fo) "shut"))),some (.d (.int ((cntN (ps.take i) (cs.map FK) "open" : Int)-(cntN (ps.take i) (cs.map Fo) "shut" : Int)))),none,none,none,none,none,none,none,none]) rfl rfl ?_ ?_
 · rintro i hi ρ rfl K hK
   obtain⟨pl,pq⟩:=hp.2.2 _ (Jr hi)
   have t1:=fun(ss:List Sd)(w:Str)=>yz (ss:=ss) (w:=w) hi rfl
   generalize ps[i]=p at pl pq t1 ⊢
   simp_arith only[ag,ae,Hv,Gb]
   rw[iG]
   refine Eu (cM (xs:=p.zip cs) (fun z=>.int (Eh z.2 z.1)) rfl ?_ (by rw[Mk];omega) ?_)
   · rintro⟨x,k,rs⟩ hm
     obtain⟨mx,ms⟩:=Jx hm
     have x1:=(pq x mx).up
     have hk:=hcc _ ms
     simp_arith only[ag,ae,FB,Hv,Ge,be.eq]
   have e:(p.zip cs).map (fun z=>Io (Eh z.2 z.1))=((p.zip cs).map fun z=>Eh z.2 z.1).map .int:=by rw[Jd];rfl
   have n0:0<(p.zip cs).length:=by rw[Mk];have:=hc.2.1;omega
   rw[e]
   have io:∀ns:List Int,rm (.list (ns.map .int))=some ns:=fun ns=>yT.mpr rfl
   simp_arith only[ag,ae]
   refine wZ ?_
   simp_arith only[ag,ae,oQ,io,eqi]
   (with_reducible (first|refine aD fun m1 hm1=>?_|refine aK fun m1 hm1=>?_))
   simp_arith only[ag,ae,oQ,io,eqi]
   (with_reducible (first|refine aD fun m2 hm2=>?_|refine aK fun m2 hm2=>?_))
   refine hK _ (dF ?_)
   have q1:=xW hm1
   have q2:=xX hcc hm2
   have q3:=fun h=>x9 (qs:=p) hcc h
   have r1:=t1 (cs.map Fo) "shut"
   have r2:=t1 (cs.map FK) "open"
   rw[q1,q2,r1,r2]
   generalize Fz p (cs.map Fo) "shut" = u at q3 ⊢
   generalize Fz p (cs.map FK) "open" = v at q3 ⊢
   have z:∀s n:Int,n-s+(if(v && !u)=true then 1 else 0)=n+(if v=true then 1 else 0)-(s+if u=true then 1 else 0):=fun s n=>by
    cases u<;>cases v<;>simp at q3 ⊢ <;> omega
   rw[z]
   rfl
 · rintro ρ rfl
   rw[Je (HS _)]
   simp_arith only[ag,ae,Hv,Gb]
   refine jZ (xs:=cs) (enc:=Ge) (fun i ρ=>ρ=[some (.d (ptsQ ps)),some (.d (Gb cs)),some (.d (.int (cntN ps (cs.map Fo) "shut"))),some (.d (.int ((cntN ps (cs.map FK) "open" : Int)-(cntN ps (cs.map Fo) "shut" : Int)))),none,none,some (.d (fr (cf ((cs.take i).map Fo)))),some (.d (fr (cf ((cs.take i).map FK)))),none,none,none,none]) rfl rfl ?_ ?_
   · rintro i hi ρ rfl K hK
     have hk:=hcc _ (Jr hi)
     have s1:EN 2000 (cf ((cs.take i).map Fo)):=wS (by rw[HM,IJ];omega) fun s ms=>by
      obtain⟨c,mc,rfl⟩:=IM.mp ms
      exact nE (hcc c (J5 mc))
     have s2:EN 2000 (cf ((cs.take i).map FK)):=wS (by rw[HM,IJ];omega) fun s ms=>by
      obtain⟨c,mc,rfl⟩:=IM.mp ms
      exact nF (hcc c (J5 mc))
     have g1:cf ((cs.take (i+1)).map Fo)=cf ((cs.take i).map Fo)*szQ (Fo cs[i]):=by rw[JD hi,IS];exact nI
     have g2:cf ((cs.take (i+1)).map FK)=cf ((cs.take i).map FK)*szQ (FK cs[i]):=by rw[JD hi,IS];exact nI
     generalize cs[i]=c at hk g1 g2 ⊢
     have x1:=nE hk
     have x2:=nF hk
     have y1:EN 2000 (szQ (Fo c)):=(Es x1).mono (by decide)
     have y2:EN 2000 (szQ (FK c)):=(Es x2).mono (by decide)
     have x1:GI (Fo c):=x1.up
     have x2:GI (FK c):=x2.up
     obtain⟨k,rs⟩:=c
     simp_arith only[ag,ae,Hv,Ge,cD.eq,bf.eq,bJ.eq]
     refine hK _ (dF ?_)
     rw[g1,g2]
     rfl
   · rintro ρ rfl
     rw[Je (HS _)]
     simp_arith only[ag,ae]
     exact av hQ
theorem f3:∀k:Fin 3,k=0\/k=1\/k=2:=by decide
abbrev Co:=Option (Fin 3)×List Rg
noncomputable def DR:Option (Fin 3)->Hy
 | some k=>.str (DT k)
 | none=>.none
theorem db{a b:Option (Fin 3)}:DR a=DR b↔a=b:=by
 cases a<;>cases b<;>simp[DR,cN]
noncomputable def F9(c:Co):Hy:=.tuple [DR c.1,EC c.2]
noncomputable def F8(c:Co):Hy:=.tuple [DR c.1,EB c.2]
theorem hW{a b:Co}:F9 a=F9 b↔a=b:=by
 obtain⟨a1,a2⟩:=a
 obtain⟨b1,b2⟩:=b
 unfold F9
 simp[db,eZ]
theorem gQ{a b:Co}:F8 a=F8 b↔a=b:=by
 obtain⟨a1,a2⟩:=a
 obtain⟨b1,b2⟩:=b
 unfold F8
 simp[db,eR]
noncomputable def F0(cs:List Co):Hy:=.tuple (cs.map F9)
noncomputable def FZ(cs:List Co):Hy:=.list (cs.map F8)
theorem hV{a b:List Co}:F0 a=F0 b↔a=b:=by
 unfold F0
 rw[IB,JN fun x y h=>hW.mp h]
theorem fH{a b:List Co}:FZ a=FZ b↔a=b:=by
 unfold FZ
 rw[Kw,JN fun x y h=>gQ.mp h]
noncomputable def nC:Co:=(none,[])
noncomputable def D7(cs:List Co):List Ce:=cs.map fun c=>(c.1.getD 0,c.2)
noncomputable def aW(cs:List Co):Prop:=∀c∈cs,c.1≠none
theorem yu{cs:List Co}(h:aW cs):F0 cs=Gc (D7 cs):=by
 unfold F0 Gc D7
 rw[Jd]
 congr 1
 refine Lp fun c mc=>?_
 obtain⟨w,rs⟩:=c
 cases w with
 | none=>exact absurd rfl (h _ mc)
 | some k=>rfl
theorem yt{cs:List Co}(h:aW cs):FZ cs=Gb (D7 cs):=by
 unfold FZ Gb D7
 rw[Jd]
 congr 1
 refine Lp fun c mc=>?_
 obtain⟨w,rs⟩:=c
 cases w with
 | none=>exact absurd rfl (h _ mc)
 | some k=>rfl
noncomputable def DS(f:Fin 3):Str:=if f=0 then "corner" else if f=1 then "inner" else "round"
theorem dt{a b:Fin 3}:DS a=DS b↔a=b:=by revert a b;decide +kernel
noncomputable def zc(f:Fin 3)(c:Co):Prop:=(f=0/\c.1=some 0/\∃a,c.2=[a]/\GM a)\/(f=1/\c.1=some 1/\∃a b,c.2=[a,b]/\GM a/\GM b)\/(f=2/\c.1≠some 0/\∃a b,c.2=[a,b]/\GM a/\GM b)
noncomputable def Hn(f:Fin 3)(cs:List Co):Prop:=1<=cs.length/\cs.length<=4/\∀c∈cs,zc f c
theorem qB{cs:List Co}(h:Hn f cs)(ha:aW cs):vO (D7 cs).length (D7 cs):=by
 obtain⟨h1,h4,hc⟩:=h
 refine⟨rfl,by unfold D7;rw[HM];exact h1,by unfold D7;rw[HM];exact h4,fun c mc=>?_⟩
 obtain⟨⟨w,rs⟩,mw,rfl⟩:=IM.mp mc
 have hw:=ha _ mw
 obtain⟨rfl,e,a,e2,ra⟩|⟨rfl,e,a,b,e2,ra,rb⟩|⟨rfl,e,a,b,e2,ra,rb⟩:=hc _ mw
 · have e:w=some 0:=e
   subst e
   exact .inl ⟨rfl,a,e2,ra⟩
 · have e:w=some 1:=e
   subst e
   exact .inr (.inl ⟨rfl,a,b,e2,ra,rb⟩)
 · cases w with
   | none=>exact absurd rfl hw
   | some k =>
     have e:k≠0:=fun z=>e (by show some k=some 0;rw[z])
     obtain z|z|z:=f3 k
     · exact absurd z e
     · subst z;exact .inr (.inl ⟨rfl,a,b,e2,ra,rb⟩)
     · subst z;exact .inr (.inr ⟨rfl,a,b,e2,ra,rb⟩)
noncomputable def Gg(cs:List Co)(j:Nat):Co:=cs.getD j nC
noncomputable def EL(cs:List Co)(j w:Nat):Rg:=(Gg cs j).2.getD w (0,0)
noncomputable def fW(cs:List Co)(j:Nat)(k:Fin 3):List Co:=cs.set j (some k,(Gg cs j).2)
noncomputable def c0(cs:List Co)(j w:Nat)(r:Rg):List Co:=cs.set j ((Gg cs j).1,(Gg cs j).2.set w r)
theorem dn{cs:List Co}(h:j<cs.length):Gg cs j∈cs:=by
 unfold Gg
 rw[Ig,HZ h]
 exact Jr h
theorem fA{cs:List Co}(h:j<cs.length):cs[j]?=some (Gg cs j):=by
 unfold Gg
 rw[Ig,HZ h]
 rfl
theorem iH(cs:List Co)(j:Nat)(k:Fin 3):(fW cs j k).length=cs.length:=by unfold fW;rw[List.length_set]
theorem gN(cs:List Co)(j w:Nat)(r:Rg):(c0 cs j w r).length=cs.length:=by unfold c0;rw[List.length_set]
theorem su{cs:List Co}{k:Fin 3}(h:Hn 2 cs)(hj:j<cs.length)(hk:k≠0):Hn 2 (fW cs j k):=by
 obtain⟨h1,h4,hc⟩:=h
 refine⟨by rw[iH];exact h1,by rw[iH];exact h4,fun c mc=>?_⟩
 rcases Jp mc with m|rfl
 · exact hc c m
 · obtain⟨z,_⟩|⟨z,_⟩|⟨_,_,a,b,e2,ra,rb⟩:=hc _ (dn hj)
   · cases z
   · cases z
   · exact .inr (.inr ⟨rfl,fun z=>hk (Ii z),a,b,e2,ra,rb⟩)
noncomputable def De(c:Co):Prop:=∀r∈c.2,GM r
theorem qJ{c:Co}(h:zc f c):(c.2.length=if f=0 then 1 else 2)/\De c:=by
 obtain⟨rfl,e,a,e2,ra⟩|⟨rfl,e,a,b,e2,ra,rb⟩|⟨rfl,e,a,b,e2,ra,rb⟩:=h
 · exact⟨by rw[e2];rfl,fun r mr=>by rw[e2]at mr;cases Jl.mp mr;exact ra⟩
 · exact⟨by rw[e2];rfl,fun r mr=>by
     rw[e2]at mr
     rcases IC.mp mr with rfl|m
     · exact ra
     · cases Jl.mp m;exact rb⟩
 · exact⟨by rw[e2];rfl,fun r mr=>by
     rw[e2]at mr
     rcases IC.mp mr with rfl|m
     · exact ra
     · cases Jl.mp m;exact rb⟩
theorem wU{c:Co}{w:Nat}{r:Rg}(h:zc f c)(hr:GM r):zc f (c.1,c.2.set w r):=by
 have hs:∀(rs:List Rg)(a:Rg),rs=[a]->GM a->∃b,rs.set w r=[b]/\GM b:=fun rs a e ha=>by
  subst e
  cases w with
  | zero=>exact⟨r,rfl,hr⟩
  | succ w=>exact⟨a,rfl,ha⟩
 have hs2:∀(rs:List Rg)(a b:Rg),rs=[a,b]->GM a->GM b->∃c d,rs.set w r=[c,d]/\GM c/\GM d:=fun rs a b e ha hb=>by
  subst e
  match w with
  | 0=>exact⟨r,b,rfl,hr,hb⟩
  | 1=>exact⟨a,r,rfl,ha,hr⟩
  | _+2=>exact⟨a,b,rfl,ha,hb⟩
 obtain⟨rfl,e,a,e2,ra⟩|⟨rfl,e,a,b,e2,ra,rb⟩|⟨rfl,e,a,b,e2,ra,rb⟩:=h
 · exact .inl ⟨rfl,e,hs _ a e2 ra⟩
 · exact .inr (.inl ⟨rfl,e,hs2 _ a b e2 ra rb⟩)
 · exact .inr (.inr ⟨rfl,e,hs2 _ a b e2 ra rb⟩)
theorem tw{cs:List Co}{w:Nat}{r:Rg}(h:Hn f cs)(hj:j<cs.length)(hr:GM r):Hn f (c0 cs j w r):=by
 obtain⟨h1,h4,hc⟩:=h
 refine⟨by rw[gN];exact h1,by rw[gN];exact h4,fun c mc=>?_⟩
 rcases Jp mc with m|rfl
 · exact hc c m
 · exact wU (hc _ (dn hj)) hr
theorem mD{cs:List Co}{w:Nat}(hw:w<(Gg cs j).2.length):(Gg cs j).2[w]?=some (EL cs j w):=by
 unfold EL
 rw[Ig,HZ hw]
 rfl
theorem lH{cs:List Co}{w:Nat}(h:Hn f cs)(hj:j<cs.length)(hw:w<(Gg cs j).2.length):GM (EL cs j w):=by
 refine(qJ (h.2.2 _ (dn hj))).2 _ ?_
 exact JQ (mD hw)
inductive Tr where
 | leaf
 | cut (j w:Nat) (x:Rat) (p q:Tr)
 | ways (j:Nat) (p q:Tr)
inductive Hd where
 | cut (j w:Nat) (x:Rat)
 | ways (j:Nat)
noncomputable def FO:Hd->List Hy
 | .cut j w x=>[.str "cut", .int j,.int w,fr x]
 | .ways j=>[.str "ways", .int j]
noncomputable def E9(h:Hd)(r:List Hy):Hy:=.tuple (FO h++r)
theorem dw{h h':Hd}{r r':List Hy}:E9 h r=E9 h' r'↔h=h'/\r=r':=by
 have k:¬(Hw "cut" = Hw "ways"):=by decide +kernel
 unfold E9
 constructor
 · intro e
   cases h<;>cases h'<;>simp only[FO,IB,KB,Ko,Il,K_,K9]at e
   · obtain⟨_,a,b,c,d⟩:=e
     rw[fx c,d,MP.mp a,MP.mp b]
     exact⟨rfl,rfl⟩
   · exact absurd e.1 k
   · exact absurd e.1.symm k
   · obtain⟨_,a,d⟩:=e
     rw[d,MP.mp a]
     exact⟨rfl,rfl⟩
 · rintro⟨rfl,rfl⟩
   rfl
noncomputable def Ec:Tr->Hy
 | .leaf=>.tuple []
 | .cut j w x p q=>E9 (.cut j w x) [Ec p,Ec q]
 | .ways j p q=>E9 (.ways j) [Ec p,Ec q]
theorem qY{h:Hd}{r:List Hy}:E9 h r ≠ .tuple []:=by
 cases h<;>simp[E9,FO]
theorem gn:∀{a b:Tr},Ec a=Ec b->a=b
 | .leaf,.leaf,_=>rfl
 | .leaf,.cut ..,e=>absurd e.symm qY
 | .leaf,.ways ..,e=>absurd e.symm qY
 | .cut ..,.leaf,e=>absurd e qY
 | .ways ..,.leaf,e=>absurd e qY
 | .cut j w x p q,.cut j' w' x' p' q',e=>by
   obtain⟨h1,h2⟩:=dw.mp e
   cases h1
   simp only[Il,and_true]at h2
   rw[gn h2.1,gn h2.2]
 | .ways j p q,.ways j' p' q',e=>by
   obtain⟨h1,h2⟩:=dw.mp e
   cases h1
   simp only[Il,and_true]at h2
   rw[gn h2.1,gn h2.2]
 | .cut ..,.ways ..,e=>by have:=(dw.mp e).1;cases this
 | .ways ..,.cut ..,e=>by have:=(dw.mp e).1;cases this
theorem cY{a b:Tr}:Ec a=Ec b↔a=b:=⟨gn,fun h=>by rw[h]⟩
noncomputable def ht:Tr->Nat
 | .leaf=>0
 | .cut _ _ _ p q=>max (ht p) (ht q)+1
 | .ways _ p q=>max (ht p) (ht q)+1
noncomputable def Hm(cs:List Co):Hd->Prop
 | .cut j w x=>j<cs.length/\w<(Gg cs j).2.length/\(EL cs j w).1<x/\x<(EL cs j w).2/\EN 200 x
 | .ways j=>j<cs.length/\(Gg cs j).1=none
noncomputable def Gm(cs:List Co):Hd->List Co
 | .cut j w x=>c0 cs j w ((EL cs j w).1,x)
 | .ways j=>fW cs j 1
noncomputable def Gk(cs:List Co):Hd->List Co
 | .cut j w x=>c0 cs j w (x,(EL cs j w).2)
 | .ways j=>fW cs j 2
noncomputable def Wf:List Co->Tr->Prop
 | cs,.leaf=>aW cs
 | cs,.cut j w x p q=>Hm cs (.cut j w x)/\Wf (Gm cs (.cut j w x)) p/\Wf (Gk cs (.cut j w x)) q
 | cs,.ways j p q=>Hm cs (.ways j)/\Wf (Gm cs (.ways j)) p/\Wf (Gk cs (.ways j)) q
theorem AB{cs:List Co}(h:Hn f cs)(ft:Hm cs (.ways j)):f=2:=by
 obtain⟨hj,e⟩:=ft
 obtain⟨_,e1,_⟩|⟨_,e1,_⟩|⟨z,_⟩:=h.2.2 _ (dn hj)
 · rw[e]at e1;cases e1
 · rw[e]at e1;cases e1
 · exact z
theorem fK{cs:List Co}{h:Hd}(hc:Hn f cs)(ft:Hm cs h):Hn f (Gm cs h)/\Hn f (Gk cs h):=by
 cases h with
 | cut j w x =>
   obtain⟨hj,hw,l,u,sx⟩:=ft
   obtain⟨r1,r2,r3,r4⟩:=lH hc hj hw
   exact⟨tw hc hj ⟨r1,sx,l,IN (Kq u) r4⟩,tw hc hj ⟨sx,r2,u,r4⟩⟩
 | ways j =>
   have e:=AB hc ft
   subst e
   exact⟨su hc ft.1 (by decide),su hc ft.1 (by decide)⟩
theorem ko(cs:List Co)(h:Hd):(Gm cs h).length=cs.length/\(Gk cs h).length=cs.length:=by
 cases h with
 | cut j w x=>exact⟨gN ..,gN ..⟩
 | ways j=>exact⟨iH ..,iH ..⟩
noncomputable def EV(ps:List (List Rat))(cs:List Co):Rat:=qd (cntN ps ((D7 cs).map FK) "open" : Int) (ps.length:Int)-cf ((D7 cs).map Fo)
noncomputable def Ft(ps:List (List Rat))(cs:List Co):Rat:=cf ((D7 cs).map FK)-qd (cntN ps ((D7 cs).map Fo) "shut" : Int) (ps.length:Int)
noncomputable def ck(ps:List (List Rat)):List Co->Tr->Rat
 | cs,.leaf=>mx (EV ps cs) (Ft ps cs)
 | cs,.cut j w x p q=>mx (ck ps (Gm cs (.cut j w x)) p) (ck ps (Gk cs (.cut j w x)) q)
 | cs,.ways j p q=>mx (ck ps (Gm cs (.ways j)) p) (ck ps (Gk cs (.ways j)) q)
theorem fu(q r:Rat):q<=mx q r:=by unfold mx;split<;>grind
theorem gF(q r:Rat):r<=mx q r:=by unfold mx;split<;>grind
theorem uV{r n:Rat}(h1:q<=n)(h2:r<=n):mx q r<=n:=by unfold mx;split<;>assumption
noncomputable def FR(ps:List (List Rat))(s:Nat):Prop:=1<=ps.length/\ps.length<=8/\Pg s ps/\1<=s/\s<=4
theorem yg{s:Nat}(h:FR ps s):qi s ps:=⟨h.1,by have:=h.2.1;omega,fun p mp=>⟨(h.2.2.1 p mp).1,fun q mq=>((h.2.2.1 p mp).2 q mq).1.mono (by decide)⟩⟩
theorem AG{s:Nat}(h:FR ps s)(ss:List Sd)(w:Str):cntN ps ss w<=8:=JI (Kr ..) h.2.1
theorem yM{s:Nat}(h:FR ps s)(ss:List Sd)(w:Str):EN 4 (qd (cntN ps ss w:Int) (ps.length:Int)):=by
 have:=AG h ss w
 have h1:=h.1
 have h8:=h.2.1
 exact n8 (by omega) (by omega) (by omega)
theorem ig{cs:List Co}(hc:Hn f cs)(ha:aW cs):EN 1617 (cf ((D7 cs).map Fo))/\EN 1617 (cf ((D7 cs).map FK)):=⟨wT (yC (qB hc ha)),wT (yD (qB hc ha))⟩
theorem mF{cs:List Co}{s:Nat}(h:FR ps s)(hc:Hn f cs)(ha:aW cs):EN 1900 (EV ps cs)/\EN 1900 (Ft ps cs):=⟨(eW (yM h _ _) (ig hc ha).1).mono (by decide),(eW (ig hc ha).2 (yM h _ _)).mono (by decide)⟩
theorem d9{ps:List (List Rat)}{s:Nat}(h:FR ps s){f:Fin 3}:∀(t:Tr)(cs:List Co),Hn f cs->Wf cs t->EN 1900 (ck ps cs t)
 | .leaf,cs,hc,ha=>dZ (mF h hc ha).1 (mF h hc ha).2
 | .cut j w x p q,cs,hc,⟨ft,h1,h2⟩=>dZ (d9 h p _ (fK hc ft).1 h1) (d9 h q _ (fK hc ft).2 h2)
 | .ways j p q,cs,hc,⟨ft,h1,h2⟩=>dZ (d9 h p _ (fK hc ft).1 h1) (d9 h q _ (fK hc ft).2 h2)
noncomputable def EW(cs:List Co):Nat:=cs.countP fun c=>c.1.isNone
theorem xJ{cs:List Co}:EW cs=0↔aW cs:=by
 unfold EW aW
 rw[List.countP_eq_zero]
 exact⟨fun h c mc e=>h c mc (by rw[e];rfl),fun h c mc=>by have:=h c mc;cases e:c.1<;>simp_all⟩
theorem oA{cs:List Co}(hj:j<cs.length)(c:Co):EW (cs.set j c)+(if(Gg cs j).1.isNone then 1 else 0)=EW cs+(if c.1.isNone then 1 else 0):=by
 unfold EW Gg
 induction cs generalizing j with
 | nil=>simp at hj
 | cons d ds ih =>
   cases j with
   | zero=>rw[Lz,La,La];simp only[List.getD_cons_zero];omega
   | succ j =>
     have:=ih (j:=j) (by simpa using hj)
     rw[LA,La,La,List.getD_cons_succ]
     omega
theorem oB{cs:List Co}{w:Nat}{r:Rg}(hj:j<cs.length):EW (c0 cs j w r)=EW cs:=by
 have:=oA hj ((Gg cs j).1,(Gg cs j).2.set w r)
 unfold c0
 dsimp only at this
 omega
theorem oy{cs:List Co}{k:Fin 3}(hj:j<cs.length)(e:(Gg cs j).1=none):EW (fW cs j k)+1=EW cs:=by
 have:=oA hj (some k,(Gg cs j).2)
 unfold fW
 rw[e]at this
 simpa using this
noncomputable def Fg(f:Fin 3):List Rg:=if f=0 then [(-1,1)]else [(-1,1),(-1,1)]
noncomputable def FW(f:Fin 3)(s:Nat):List Co:=HR s ((if f=0 then some 0 else if f=1 then some 1 else none),Fg f)
theorem kJ:GM (-1,1):=⟨⟨by decide,by decide⟩,⟨by decide,by decide⟩,by decide,by decide⟩
theorem rP{s:Nat}(h1:1<=s)(h4:s<=4):Hn f (FW f s):=by
 refine⟨by unfold FW;rw[JJ];exact h1,by unfold FW;rw[JJ];exact h4,fun c mc=>?_⟩
 cases KM mc
 obtain rfl|rfl|rfl:=f3 f
 · exact .inl ⟨rfl,rfl,_,rfl,kJ⟩
 · exact .inr (.inl ⟨rfl,rfl,_,_,rfl,kJ,kJ⟩)
 · exact .inr (.inr ⟨rfl,by decide,_,_,rfl,kJ,kJ⟩)
theorem sL(cs:List Co)(c:Co)(h:j<cs.length):cs.set j c=cs.take j++c::cs.drop (j+1):=KY .. |>.trans (if_pos h)
noncomputable def dimP(ps:List (List Rat)):Nat:=(ps.headD []).length
theorem yr{s:Nat}(h:Pg s ps)(h1:1<=ps.length):dimP ps=s:=by
 cases ps with
 | nil=>simp at h1
 | cons p ps=>exact(h p Iw).1
theorem p9(h:1<=ps.length):atI ps 0=some (ps.headD []):=by
 cases ps with
 | nil=>simp at h
 | cons p l=>exact bG (j:=0) rfl
theorem FX(q:Rat):fr q = .tuple [.int q.num,.int (q.den:Int)]:=rfl
theorem du{x y:Rg}:EG x=EG y↔x=y:=⟨kK,fun h=>by rw[h]⟩
theorem zO(q:Rat):Ju q.num (q.den:Int)=1:=by
 have:=q.reduced
 unfold Nat.Coprime at this
 rw[Ju,Iq]
 exact this
theorem vE(cs:List Co)(c:Co)(h:j<cs.length):(cs.take j).map F9++[F9 c]++(cs.drop (j+1)).map F9=(cs.set j c).map F9:=by
 rw[sL cs c h,IS,IW,Kt]
 rfl
theorem lV(rs:List Rg)(c:Rg)(h:j<rs.length):(rs.take j).map EG++[EG c]++(rs.drop (j+1)).map EG=(rs.set j c).map EG:=by
 rw[show rs.set j c=rs.take j++c::rs.drop (j+1)from KY .. |>.trans (if_pos h),IS,IW,Kt]
 rfl
theorem yP{xs:List α}{c:α}(h:j<xs.length):(xs.take j).length+1+(xs.drop (j+1)).length=xs.length:=by rw[IJ,JX];omega
noncomputable def cG:List W->(Hy->Prop)->Prop:=fun ws Q=>∃(i:Int),ws=[.d (.int i)]/\(True)/\Q (.bool true)
theorem cG.mono:∀ws (Q Q':Hy->Prop),(∀d,Q d->Q' d)->cG ws Q->cG ws Q':=fun _ _ _ h_=>HD fun _=>HA (HA (h_ _))
theorem cG.len:∀ws (Q:Hy->Prop),cG ws Q->ws.length=1:=fun _ _ h_=>by obtain⟨_,e_,_⟩:=h_;subst e_;rfl
theorem cG.eq(i:Int)  : cG [.d (.int i)]=VL.ret (.bool true:Hy):=by
 refine ak fun Q=>⟨?_,fun q_=>⟨i,rfl,trivial,q_⟩⟩
 rintro⟨i',e_,_,q_⟩
 simp_arith only[and_true]at e_
 obtain rfl:=e_
 exact q_
theorem kD:FnScope ["thing"] ["thing"] (defScope (Ed 7)):=⟨rfl,rfl,rfl,by decide +kernel,rfl,by decide +kernel,by decide +kernel⟩
theorem d_is_whole(Fn:FnIn K mg "is_whole" (Ed 7) ["thing"])(Z:Bz mg)    : Dfn P w K mg base rl "is_whole" ["thing"] 1 cG:=by
 have sc:=kD
 refine Dfn.of Fn sc (cG.mono) (cG.len) (fun cdv A outer s H E hr=>(aj (ar (v_and (gk Z.isinstance_ (aa (vn 0) (aa (gv Z.int_ (by rfl)) ab))) (iQ (v_not (gk Z.isinstance_ (aa (vn 0) (aa (gv Z.bool_ (by rfl)) ab))))))))) ?_
 rintro ws Q ⟨i,rfl,_,hQ⟩
 refine aB ?_
 simp_arith only[ag,ae]
 exact av hQ
noncomputable def cT:List W->(Hy->Prop)->Prop:=fun ws Q=>∃(i m:Int),ws=[.d (.int i),.d (.int m)]/\(True)/\Q (.bool (decide (0<=i)&&decide (i<m)))
theorem cT.mono:∀ws (Q Q':Hy->Prop),(∀d,Q d->Q' d)->cT ws Q->cT ws Q':=fun _ _ _ h_=>HD fun _=>HD fun _=>HA (HA (h_ _))
theorem cT.len:∀ws (Q:Hy->Prop),cT ws Q->ws.length=2:=fun _ _ h_=>by obtain⟨_,_,e_,_⟩:=h_;subst e_;rfl
theorem cT.eq(i m:Int)  : cT [.d (.int i),.d (.int m)]=VL.ret (.bool (decide (0<=i)&&decide (i<m)):Hy):=by
 refine ak fun Q=>⟨?_,fun q_=>⟨i,m,rfl,trivial,q_⟩⟩
 rintro⟨i',m',e_,_,q_⟩
 simp_arith only[and_true]at e_
 obtain⟨rfl,rfl⟩:=e_
 exact q_
theorem kE:FnScope ["thing", "many"] ["thing", "many"] (defScope (Ed 8)):=⟨rfl,rfl,rfl,by decide +kernel,rfl,by decide +kernel,by decide +kernel⟩
theorem d_is_place(Fn:FnIn K mg "is_place" (Ed 8) ["thing", "many"])(Z:Bz mg)(d_is_whole:∀rl,Dfn P w K mg base rl "is_whole" ["thing"] 1 cG)   : Dfn P w K mg base rl "is_place" ["thing", "many"] 2 cT:=by
 have sc:=kE
 refine Dfn.of Fn sc (cT.mono) (cT.len) (fun cdv A outer s H E hr=>(aj (ar (v_and (ai (d_is_whole _) (hr.mono (by decide)) (aa (vn 0) ab)) (iQ (m_ oE dE ac (vn 0) (vn 1))))))) ?_
 rintro ws Q ⟨i,m,rfl,_,hQ⟩
 refine aB ?_
 simp_arith only[ag,ae,cG.eq]
 exact av hQ
noncomputable def bO:List W->(Hy->Prop)->Prop:=fun ws Q=>∃(q:Rat),ws=[.d (fr q)]/\((EN 2000 q))/\Q (.bool true)
theorem bO.mono:∀ws (Q Q':Hy->Prop),(∀d,Q d->Q' d)->bO ws Q->bO ws Q':=fun _ _ _ h_=>HD fun _=>HA (HA (h_ _))
theorem bO.len:∀ws (Q:Hy->Prop),bO ws Q->ws.length=1:=fun _ _ h_=>by obtain⟨_,e_,_⟩:=h_;subst e_;rfl
theorem bO.eq(q:Rat)(h:EN 2000 q):bO [.d (fr q)]=VL.ret (.bool true:Hy):=by
 refine ak fun Q=>⟨?_,fun q_=>⟨q,rfl,h,q_⟩⟩
 rintro⟨q',e_,_,q_⟩
 simp_arith only[cX,bw,bx,aO,aN,bE]at e_
 obtain rfl:=e_
 exact q_
theorem gX:FnScope ["thing", "top", "bottom"] ["thing"] (defScope (Ed 10)):=⟨rfl,rfl,rfl,by decide +kernel,rfl,by decide +kernel,by decide +kernel⟩
theorem d_is_fraction(Fn:FnIn K mg "is_fraction" (Ed 10) ["thing"])(Z:Bz mg)(d_common_divisor:∀rl,Dfn P w K mg base rl "common_divisor" ["one", "other"] 1 aY)(d_is_whole:∀rl,Dfn P w K mg base rl "is_whole" ["thing"] 1 cG)   : Dfn P w K mg base rl "is_fraction" ["thing"] 2 bO:=by
 have sc:=gX
 refine Dfn.of Fn sc (bO.mono) (bO.len) (fun cdv A outer s H E hr=>(af (aU (G0.pb (fT (dB (bZ (gk Z.isinstance_ (aa (vn 0) (aa (gv Z.tuple_ (by rfl)) ab))))) (eV (az (eN hr.units) aZ (aw _) (cv Z.len_ (aa (vn 0) ab)) ac)))) (aj (ar eC)) aH)
  (af (cq (vn 0) (bH (n:=2) rfl (aq (am 1 sc.nd) (aq (am 2 sc.nd) aV))))
  (af (aU (G0.pb (fT (dB (bZ (ai (d_is_whole _) (hr.mono (by decide)) (aa (vn 1) ab)))) (fT (dB (bZ (ai (d_is_whole _) (hr.mono (by decide)) (aa (vn 2) ab)))) (eV (az dE dY (aw _) (vn 2) ac))))) (aj (ar eC)) aH)
  (aj (ar (cW (bM hr.units) aZ (aw _) (ai (d_common_divisor _) (hr.mono (by decide)) (aa (vn 1) (aa (vn 2) ab))) ac))))))) ?_
 rintro ws Q ⟨q,rfl,h,hQ⟩
 refine aB ?_
 have e1:=zO q
 have e2:decide ((q.den:Int)<1)=false:=by have:=q.den_pos;simp;omega
 have eqi:∀i j:Int,HC (.int i) (.int j)=(i==j):=fun i j=>by simp[HC]
 simp_arith only[ag,ae,FX,cG.eq,aY.eq,e1,e2,eqi]
 exact av hQ
noncomputable def cS:List W->(Hy->Prop)->Prop:=fun ws Q=>∃(ps:List (List Rat)),ws=[.d (ptsQ ps)]/\((1<=ps.length))/\Q (.int (dimP ps:Int))
theorem cS.mono:∀ws (Q Q':Hy->Prop),(∀d,Q d->Q' d)->cS ws Q->cS ws Q':=fun _ _ _ h_=>HD fun _=>HA (HA (h_ _))
theorem cS.len:∀ws (Q:Hy->Prop),cS ws Q->ws.length=1:=fun _ _ h_=>by obtain⟨_,e_,_⟩:=h_;subst e_;rfl
theorem cS.eq(ps:List (List Rat))(h:1<=ps.length):cS [.d (ptsQ ps)]=VL.ret (.int (dimP ps:Int):Hy):=by
 refine ak fun Q=>⟨?_,fun q_=>⟨ps,rfl,h,q_⟩⟩
 rintro⟨ps',e_,_,q_⟩
 simp_arith only[cX,bw,bx,aO,aN,bE]at e_
 obtain rfl:=e_
 exact q_
theorem kB:FnScope ["points"] ["points"] (defScope (Ed 38)):=⟨rfl,rfl,rfl,by decide +kernel,rfl,by decide +kernel,by decide +kernel⟩
theorem d_sides_of(Fn:FnIn K mg "sides_of" (Ed 38) ["points"])(Z:Bz mg)    : Dfn P w K mg base rl "sides_of" ["points"] 1 cS:=by
 have sc:=kB
 refine Dfn.of Fn sc (cS.mono) (cS.len) (fun cdv A outer s H E hr=>(aj (ar (cv Z.len_ (aa (aL (vn 0) ac) ab))))) ?_
 rintro ws Q ⟨ps,rfl,h,hQ⟩
 refine aB ?_
 have e0:=p9 h
 have ed:(ps.headD []).length=dimP ps:=rfl
 simp_arith only[ag,ae,Hv,e0,ed]
 exact av hQ
noncomputable def aX:List W->(Hy->Prop)->Prop:=fun ws Q=>∃(cs:List Co)(j:Nat)(c:Co),ws=[.d (F0 cs),.d (.int (j:Int)),.d (F9 c)]/\((j<cs.length)/\(cs.length<=4))/\Q (F0 (cs.set j c))
theorem aX.mono:∀ws (Q Q':Hy->Prop),(∀d,Q d->Q' d)->aX ws Q->aX ws Q':=fun _ _ _ h_=>HD fun _=>HD fun _=>HD fun _=>HA (HA (h_ _))
theorem aX.len:∀ws (Q:Hy->Prop),aX ws Q->ws.length=3:=fun _ _ h_=>by obtain⟨_,_,_,e_,_⟩:=h_;subst e_;rfl
theorem aX.eq(cs:List Co)(j:Nat)(c:Co)(hj:j<cs.length)(h4:cs.length<=4):aX [.d (F0 cs),.d (.int (j:Int)),.d (F9 c)]=VL.ret (F0 (cs.set j c):Hy):=by
 refine ak fun Q=>⟨?_,fun q_=>⟨cs,j,c,rfl,⟨hj,h4⟩,q_⟩⟩
 rintro⟨cs',j',c',e_,_,q_⟩
 simp_arith only[cX,bw,bx,aO,aN,bE,cN,eZ,fJ,hV,hW,cY,dw,dt,du,db,Ir]at e_
 obtain⟨rfl,rfl,rfl⟩:=e_
 exact q_
theorem fB:FnScope ["cell", "side", "other"] ["cell", "side", "other"] (defScope (Ed 33)):=⟨rfl,rfl,rfl,by decide +kernel,rfl,by decide +kernel,by decide +kernel⟩
theorem d_exchanged_side(Fn:FnIn K mg "exchanged_side" (Ed 33) ["cell", "side", "other"])(Z:Bz mg)    : Dfn P w K mg base rl "exchanged_side" ["cell", "side", "other"] 1 aX:=by
 have sc:=fB
 refine Dfn.of Fn sc (aX.mono) (aX.len) (fun cdv A outer s H E hr=>(aj (ar (eI (eI (iP (vn 0) cR (cu (vn 1))) (aP (aa (vn 2) ab))) (iP (vn 0) (cu (v_add (vn 1) ac)) cR))))) ?_
 rintro ws Q ⟨cs,j,c,rfl,⟨hj,h4⟩,hQ⟩
 refine aB ?_
 have sz:=HV
 have e1:=vT cs F9 j
 have e2:=dR cs F9 (k:=(j:Int)+1) (by omega)
 have e3:((j:Int)+1).toNat=j+1:=by omega
 have e4:=yP (c:=c) hj
 have e5:(cs.take j).length+1<=sizeLine:=by rw[IJ];omega
 have e6:(cs.take j).length+1+(cs.drop (j+1)).length<=sizeLine:=by omega
 simp_arith only[ag,ae,Hv,F0,e1,e2,e3,Ij]
 rw[vE cs c hj]
 exact av hQ
noncomputable def dJ:List W->(Hy->Prop)->Prop:=fun ws Q=>∃(cs:List Co)(j:Nat)(k:Fin 3),ws=[.d (F0 cs),.d (.int (j:Int)),.d (.str (DT k))]/\((j<cs.length)/\(cs.length<=4))/\Q (F0 (fW cs j k))
theorem dJ.mono:∀ws (Q Q':Hy->Prop),(∀d,Q d->Q' d)->dJ ws Q->dJ ws Q':=fun _ _ _ h_=>HD fun _=>HD fun _=>HD fun _=>HA (HA (h_ _))
theorem dJ.len:∀ws (Q:Hy->Prop),dJ ws Q->ws.length=3:=fun _ _ h_=>by obtain⟨_,_,_,e_,_⟩:=h_;subst e_;rfl
theorem dJ.eq(cs:List Co)(j:Nat)(k:Fin 3)(hj:j<cs.length)(h4:cs.length<=4):dJ [.d (F0 cs),.d (.int (j:Int)),.d (.str (DT k))]=VL.ret (F0 (fW cs j k):Hy):=by
 refine ak fun Q=>⟨?_,fun q_=>⟨cs,j,k,rfl,⟨hj,h4⟩,q_⟩⟩
 rintro⟨cs',j',k',e_,_,q_⟩
 simp_arith only[cX,bw,bx,aO,aN,bE,cN,eZ,fJ,hV,hW,cY,dw,dt,du,db,Ir]at e_
 obtain⟨rfl,rfl,rfl⟩:=e_
 exact q_
theorem nK:FnScope ["cell", "side", "word"] ["cell", "side", "word"] (defScope (Ed 34)):=⟨rfl,rfl,rfl,by decide +kernel,rfl,by decide +kernel,by decide +kernel⟩
theorem d_worded(Fn:FnIn K mg "worded" (Ed 34) ["cell", "side", "word"])(Z:Bz mg)(d_exchanged_side:∀rl,Dfn P w K mg base rl "exchanged_side" ["cell", "side", "other"] 1 aX)   : Dfn P w K mg base rl "worded" ["cell", "side", "word"] 2 dJ:=by
 have sc:=nK
 refine Dfn.of Fn sc (dJ.mono) (dJ.len) (fun cdv A outer s H E hr=>(aj (ar (ai (d_exchanged_side _) (hr.mono (by decide)) (aa (vn 0) (aa (vn 1) (aa (aP (aa (vn 2) (aa (aL (aL (vn 0) (vn 1)) ac) ab))) ab))))))) ?_
 rintro ws Q ⟨cs,j,k,rfl,⟨hj,h4⟩,hQ⟩
 refine aB ?_
 have e1:atI cs (j:Int)=some (Gg cs j):=bG (fA hj)
 have e2:=aX.eq cs j (some k,(Gg cs j).2) hj h4
 simp_arith only[ag,ae,Hv,F0,e1,F9,bF]
 have e3:F9 (some k,(Gg cs j).2) = .tuple [.str (DT k),EC (Gg cs j).2]:=rfl
 rw[e3]at e2
 unfold F0 at e2
 simp_arith only[ag,ae,e2]
 exact av hQ
theorem Gp(a b c:α)(l:List α):atI (a::b::c::l) 2=some c:=bG (j:=2) rfl
theorem Go(a b c d:α)(l:List α):atI (a::b::c::d::l) 3=some d:=bG (j:=3) rfl
theorem AF(a b c d e f:Hy):VL.cutD [a,b,c,d,e,f] (some 1) (some 4)=[b,c,d]:=rfl
theorem CZ(j w:Nat)(x:Rat)(a b:Hy):E9 (.cut j w x) [a,b] = .tuple [.str "cut", .int j,.int w,fr x,a,b]:=rfl
theorem CY(j:Nat)(a b:Hy):E9 (.ways j) [a,b] = .tuple [.str "ways", .int j,a,b]:=rfl
theorem qE:Ec .leaf = .tuple []:=rfl
theorem nu(j w:Nat)(x:Rat)(p q:Tr):Ec (.cut j w x p q) = .tuple [.str "cut", .int j,.int w,fr x,Ec p,Ec q]:=rfl
theorem wF(j:Nat)(p q:Tr):Ec (.ways j p q) = .tuple [.str "ways", .int j,Ec p,Ec q]:=rfl
theorem qK(r:Rg):EG r = .tuple [fr r.1,fr r.2]:=rfl
theorem yy(c:Co):F9 c = .tuple [DR c.1,EC c.2]:=rfl
noncomputable def Nk(s:Int)(f:Fin 3):Tr->Prop
 | .leaf=>True
 | .cut j w x _ _=>(j:Int)<s/\(w:Int)<(if f=0 then 1 else 2)/\EN 2000 x
 | .ways j _ _=>(j:Int)<s
noncomputable def lfD(ps:List (List Rat))(n:Rat)(cs:List Co):Hy:=if n<EV ps cs then .str "over" else if n<Ft ps cs then .str "lack" else .none
noncomputable def Ns(cs:List Co):Tr->Prop
 | .leaf=>aW cs
 | .cut j w x _ _=>Hm cs (.cut j w x)
 | .ways j _ _=>Hm cs (.ways j)
noncomputable def nfD(ps:List (List Rat))(n:Rat)(cs:List Co):Tr->Hy
 | .leaf=>lfD ps n cs
 | _=>.none
noncomputable def dL:List W->(Hy->Prop)->Prop:=fun ws Q=>∃(cs:List Co)(j w:Nat)(r:Rg),ws=[.d (F0 cs),.d (.int (j:Int)),.d (.int (w:Int)),.d (EG r)]/\((j<cs.length)/\(cs.length<=4)/\(w<(Gg cs j).2.length)/\((Gg cs j).2.length<=2))/\Q (F0 (c0 cs j w r))
theorem dL.mono:∀ws (Q Q':Hy->Prop),(∀d,Q d->Q' d)->dL ws Q->dL ws Q':=fun _ _ _ h_=>HD fun _=>HD fun _=>HD fun _=>HD fun _=>HA (HA (h_ _))
theorem dL.len:∀ws (Q:Hy->Prop),dL ws Q->ws.length=4:=fun _ _ h_=>by obtain⟨_,_,_,_,e_,_⟩:=h_;subst e_;rfl
theorem dL.eq(cs:List Co)(j w:Nat)(r:Rg)(hj:j<cs.length)(h4:cs.length<=4)(hw:w<(Gg cs j).2.length)(h2:(Gg cs j).2.length<=2):dL [.d (F0 cs),.d (.int (j:Int)),.d (.int (w:Int)),.d (EG r)]=VL.ret (F0 (c0 cs j w r):Hy):=by
 refine ak fun Q=>⟨?_,fun q_=>⟨cs,j,w,r,rfl,⟨hj,h4,hw,h2⟩,q_⟩⟩
 rintro⟨cs',j',w',r',e_,_,q_⟩
 simp_arith only[cX,bw,bx,aO,aN,bE,cN,eZ,fJ,hV,hW,cY,dw,dt,du,db,Ir]at e_
 obtain⟨rfl,rfl,rfl,rfl⟩:=e_
 exact q_
theorem nL:FnScope ["cell", "side", "which", "new", "word", "ranges"] ["cell", "side", "which", "new"] (defScope (Ed 35)):=⟨rfl,rfl,rfl,by decide +kernel,rfl,by decide +kernel,by decide +kernel⟩
theorem d_ranged(Fn:FnIn K mg "ranged" (Ed 35) ["cell", "side", "which", "new"])(Z:Bz mg)(d_exchanged_side:∀rl,Dfn P w K mg base rl "exchanged_side" ["cell", "side", "other"] 1 aX)   : Dfn P w K mg base rl "ranged" ["cell", "side", "which", "new"] 2 dL:=by
 have sc:=nL
 refine Dfn.of Fn sc (dL.mono) (dL.len) (fun cdv A outer s H E hr=>(af (cq (aL (vn 0) (vn 1)) (bH (n:=2) rfl (aq (am 4 sc.nd) (aq (am 5 sc.nd) aV))))
  (aj (ar (ai (d_exchanged_side _) (hr.mono (by decide)) (aa (vn 0) (aa (vn 1) (aa (aP (aa (vn 4) (aa (eI (eI (iP (vn 5) cR (cu (vn 2))) (aP (aa (vn 3) ab))) (iP (vn 5) (cu (v_add (vn 2) ac)) cR)) ab))) ab)))))))) ?_
 rintro ws Q ⟨cs,j,w,r,rfl,⟨hj,h4,hw,h2⟩,hQ⟩
 refine aB ?_
 have sz:=HV
 have e1:atI cs (j:Int)=some (Gg cs j):=bG (fA hj)
 have e2:=aX.eq cs j ((Gg cs j).1,(Gg cs j).2.set w r) hj h4
 have f1:=vT (Gg cs j).2 EG w
 have f2:=dR (Gg cs j).2 EG (k:=(w:Int)+1) (by omega)
 have f3:((w:Int)+1).toNat=w+1:=by omega
 have f4:=yP (c:=r) hw
 have f5:((Gg cs j).2.take w).length+1<=sizeLine:=by rw[IJ];omega
 have f6:((Gg cs j).2.take w).length+1+((Gg cs j).2.drop (w+1)).length<=sizeLine:=by omega
 simp_arith only[ag,ae,Hv,F0,e1,yy,EC,bF,f1,f2,f3,Ij]
 rw[lV _ r hw]
 have e3:F9 ((Gg cs j).1,(Gg cs j).2.set w r) = .tuple [DR (Gg cs j).1,.tuple (((Gg cs j).2.set w r).map EG)]:=rfl
 rw[e3]at e2
 unfold F0 at e2
 simp_arith only[ag,ae,e2]
 exact av hQ
noncomputable def bm:List W->(Hy->Prop)->Prop:=fun ws Q=>∃(cs:List Co)(h:Hd)(a b:Hy),ws=[.d (F0 cs),.d (E9 h [a,b])]/\((cs.length<=4)/\(∀c∈cs,c.2.length<=2)/\(Hm cs h))/\Q (.tuple [F0 (Gm cs h),F0 (Gk cs h)])
theorem bm.mono:∀ws (Q Q':Hy->Prop),(∀d,Q d->Q' d)->bm ws Q->bm ws Q':=fun _ _ _ h_=>HD fun _=>HD fun _=>HD fun _=>HD fun _=>HA (HA (h_ _))
theorem bm.len:∀ws (Q:Hy->Prop),bm ws Q->ws.length=2:=fun _ _ h_=>by obtain⟨_,_,_,_,e_,_⟩:=h_;subst e_;rfl
theorem bm.eq(cs:List Co)(h:Hd)(a b:Hy)(h4:cs.length<=4)(h2:∀c∈cs,c.2.length<=2)(hf:Hm cs h):bm [.d (F0 cs),.d (E9 h [a,b])]=VL.ret (.tuple [F0 (Gm cs h),F0 (Gk cs h)]:Hy):=by
 refine ak fun Q=>⟨?_,fun q_=>⟨cs,h,a,b,rfl,⟨h4,h2,hf⟩,q_⟩⟩
 rintro⟨cs',h',a',b',e_,_,q_⟩
 simp_arith only[cX,bw,bx,aO,aN,bE,cN,eZ,fJ,hV,hW,cY,dw,dt,du,db,Ir]at e_
 obtain⟨rfl,rfl,rfl,rfl⟩:=e_
 exact q_
theorem gZ:FnScope ["cell", "node", "side", "which", "at", "low", "high"] ["cell", "node"] (defScope (Ed 36)):=⟨rfl,rfl,rfl,by decide +kernel,rfl,by decide +kernel,by decide +kernel⟩
theorem d_cells_below(Fn:FnIn K mg "cells_below" (Ed 36) ["cell", "node"])(Z:Bz mg)(d_ranged:∀rl,Dfn P w K mg base rl "ranged" ["cell", "side", "which", "new"] 2 dL)(d_worded:∀rl,Dfn P w K mg base rl "worded" ["cell", "side", "word"] 2 dJ)   : Dfn P w K mg base rl "cells_below" ["cell", "node"] 3 bm:=by
 have sc:=gZ
 refine Dfn.of Fn sc (bm.mono) (bm.len) (fun cdv A outer s H E hr=>(af (aU (az (bM hr.units) aZ (aw _) (aL (vn 1) ac) aF) (aj (ar (aP (aa (ai (d_worded _) (hr.mono (by decide)) (aa (vn 0) (aa (aL (vn 1) ac) (aa aF ab)))) (aa (ai (d_worded _) (hr.mono (by decide)) (aa (vn 0) (aa (aL (vn 1) ac) (aa aF ab)))) ab))))) aH)
  (af (cq (iP (vn 1) (cu ac) (cu ac)) (bH (n:=3) rfl (aq (am 2 sc.nd) (aq (am 3 sc.nd) (aq (am 4 sc.nd) aV)))))
  (af (cq (aL (aL (aL (vn 0) (vn 2)) ac) (vn 3)) (bH (n:=2) rfl (aq (am 5 sc.nd) (aq (am 6 sc.nd) aV))))
  (aj (ar (aP (aa (ai (d_ranged _) (hr.mono (by decide)) (aa (vn 0) (aa (vn 2) (aa (vn 3) (aa (aP (aa (vn 5) (aa (vn 4) ab))) ab))))) (aa (ai (d_ranged _) (hr.mono (by decide)) (aa (vn 0) (aa (vn 2) (aa (vn 3) (aa (aP (aa (vn 4) (aa (vn 6) ab))) ab))))) ab))))))))) ?_
 rintro ws Q ⟨cs,h,a,b,rfl,⟨h4,h2,hf⟩,hQ⟩
 have hf0:decide (Hw "corner" = Hw "corner")=true:=by decide +kernel
 have hf1:decide (Hw "inner" = Hw "corner")=false:=by decide +kernel
 have hf2:decide (Hw "round" = Hw "corner")=false:=by decide +kernel
 have hf3:decide (Hw "corner" = Hw "round")=false:=by decide +kernel
 have hf4:decide (Hw "inner" = Hw "round")=false:=by decide +kernel
 have hf5:decide (Hw "round" = Hw "round")=true:=by decide +kernel
 have he0:HC (.str "cut") (.str "cut")=true:=by decide +kernel
 have he1:HC (.str "cut") (.str "ways")=false:=by decide +kernel
 have he2:HC (.str "ways") (.str "cut")=false:=by decide +kernel
 have he3:HC (.str "ways") (.str "ways")=true:=by decide +kernel
 have hg0:decide (Hw "cut" = Hw "cut")=true:=by decide +kernel
 have hg1:decide (Hw "cut" = Hw "ways")=false:=by decide +kernel
 have hg2:decide (Hw "ways" = Hw "cut")=false:=by decide +kernel
 have hg3:decide (Hw "ways" = Hw "ways")=true:=by decide +kernel
 have sc1:HI (.str "cut")=true:=by decide +kernel
 have sc2:HI (.str "ways")=true:=by decide +kernel
 have eqi:∀i j:Int,HC (.int i) (.int j)=(i==j):=fun i j=>by simp[HC]
 refine aB ?_
 cases h with
 | ways j =>
   obtain⟨hj,_⟩:=hf
   have p1:=dJ.eq cs j 1 hj h4
   have p2:=dJ.eq cs j 2 hj h4
   have w1:DT 1=Hw "from" := rfl
   have w2:DT 2=Hw "round" := rfl
   rw[w1]at p1
   rw[w2]at p2
   simp_arith only[ag,ae,Hv,hf0,hf1,hf2,hf3,hf4,hf5,he0,he1,he2,he3,hg0,hg1,hg2,hg3,sc1,sc2,eqi,CY,p1,p2]
   exact av hQ
 | cut j w x =>
   obtain⟨hj,hw,_⟩:=hf
   have l2:=h2 _ (dn hj)
   have e1:atI cs (j:Int)=some (Gg cs j):=bG (fA hj)
   have e2:atI (Gg cs j).2 (w:Int)=some (EL cs j w):=bG (mD hw)
   have p1:=dL.eq cs j w ((EL cs j w).1,x) hj h4 hw l2
   have p2:=dL.eq cs j w (x,(EL cs j w).2) hj h4 hw l2
   rw[qK]at p1 p2
   have ec:F0 cs = .tuple (cs.map F9):=rfl
   rw[ec]at p1 p2
   simp_arith only[ag,ae,Hv,hf0,hf1,hf2,hf3,hf4,hf5,he0,he1,he2,he3,hg0,hg1,hg2,hg3,sc1,sc2,eqi,CZ,AF,F0,e1,yy,EC,e2,qK,bF]
   simp_arith only[ag,ae,Hv,p1,p2]
   exact av hQ
noncomputable def cA:List W->(Hy->Prop)->Prop:=fun ws Q=>∃(x:Rat)(r:Rg),ws=[.d (fr x),.d (EG r)]/\((EN 2000 x)/\(EN 2000 r.1)/\(EN 2000 r.2))/\Q (.bool (decide (r.1<x)&&decide (x<r.2)))
theorem cA.mono:∀ws (Q Q':Hy->Prop),(∀d,Q d->Q' d)->cA ws Q->cA ws Q':=fun _ _ _ h_=>HD fun _=>HD fun _=>HA (HA (h_ _))
theorem cA.len:∀ws (Q:Hy->Prop),cA ws Q->ws.length=2:=fun _ _ h_=>by obtain⟨_,_,e_,_⟩:=h_;subst e_;rfl
theorem cA.eq(x:Rat)(r:Rg)(h1:EN 2000 x)(h2:EN 2000 r.1)(h3:EN 2000 r.2):cA [.d (fr x),.d (EG r)]=VL.ret (.bool (decide (r.1<x)&&decide (x<r.2)):Hy):=by
 refine ak fun Q=>⟨?_,fun q_=>⟨x,r,rfl,⟨h1,h2,h3⟩,q_⟩⟩
 rintro⟨x',r',e_,_,q_⟩
 simp_arith only[cX,bw,bx,aO,aN,bE,cN,eZ,fJ,hV,hW,cY,dw,dt,du,db,Ir]at e_
 obtain⟨rfl,rfl⟩:=e_
 exact q_
theorem jE:FnScope ["at", "limits"] ["at", "limits"] (defScope (Ed 42)):=⟨rfl,rfl,rfl,by decide +kernel,rfl,by decide +kernel,by decide +kernel⟩
theorem d_is_within(Fn:FnIn K mg "is_within" (Ed 42) ["at", "limits"])(Z:Bz mg)(d_is_below:∀rl,Dfn P w K mg base rl "is_below" ["one", "other"] 1 bL)   : Dfn P w K mg base rl "is_within" ["at", "limits"] 2 cA:=by
 have sc:=jE
 refine Dfn.of Fn sc (cA.mono) (cA.len) (fun cdv A outer s H E hr=>(aj (ar (v_and (ai (d_is_below _) (hr.mono (by decide)) (aa (aL (vn 1) ac) (aa (vn 0) ab))) (iQ (ai (d_is_below _) (hr.mono (by decide)) (aa (vn 0) (aa (aL (vn 1) ac) ab)))))))) ?_
 rintro ws Q ⟨x,r,rfl,⟨h1,h2,h3⟩,hQ⟩
 refine aB ?_
 simp_arith only[ag,ae,Hv,qK,bL.eq]
 exact av hQ
noncomputable def cc:List W->(Hy->Prop)->Prop:=fun ws Q=>∃(s:Int)(f:Fin 3),ws=[.d (.int s),.d (.str (DS f))]/\((1<=s)/\(s<=4))/\Q (F0 (FW f s.toNat))
theorem cc.mono:∀ws (Q Q':Hy->Prop),(∀d,Q d->Q' d)->cc ws Q->cc ws Q':=fun _ _ _ h_=>HD fun _=>HD fun _=>HA (HA (h_ _))
theorem cc.len:∀ws (Q:Hy->Prop),cc ws Q->ws.length=2:=fun _ _ h_=>by obtain⟨_,_,e_,_⟩:=h_;subst e_;rfl
theorem cc.eq(s:Int)(f:Fin 3)(s1:1<=s)(s4:s<=4):cc [.d (.int s),.d (.str (DS f))]=VL.ret (F0 (FW f s.toNat):Hy):=by
 refine ak fun Q=>⟨?_,fun q_=>⟨s,f,rfl,⟨s1,s4⟩,q_⟩⟩
 rintro⟨s',f',e_,_,q_⟩
 simp_arith only[cX,bw,bx,aO,aN,bE,cN,eZ,fJ,hV,hW,cY,dw,dt,du,db,Ir]at e_
 obtain⟨rfl,rfl⟩:=e_
 exact q_
theorem iZ:FnScope ["s", "family", "ranges"] ["s", "family"] (defScope (Ed 32)):=⟨rfl,rfl,rfl,by decide +kernel,rfl,by decide +kernel,by decide +kernel⟩
theorem d_first_cell(Fn:FnIn K mg "first_cell" (Ed 32) ["s", "family"])(Z:Bz mg)(gl_WIDEST:GlD K mg "WIDEST" (.tuple [pr (-1) 1,pr 1 1]))(gt_FIRST_WORDS:GlTO P w K mg "FIRST_WORDS" [("corner", some "to"),("inner", some "from"),("round", none)]):Dfn P w K mg base rl "first_cell" ["s", "family"] 1 cc:=by
 have sc:=iZ
 refine Dfn.of Fn sc (cc.mono) (cc.len) (fun cdv A outer s H E hr=>(af (ax 2 sc.nd (cj (az dv cr (aw _) (vn 1) aF) (aP (aa (eG gl_WIDEST) ab)) (aP (aa (eG gl_WIDEST) (aa (eG gl_WIDEST) ab)))))
  (aj (ar (wg (aP (aa (aP (aa (zj gt_FIRST_WORDS (vn 1)) (aa (vn 2) ab))) ab)) (vn 0)))))) ?_
 rintro ws Q ⟨s,f,rfl,⟨s1,s4⟩,hQ⟩
 have hf0:decide (Hw "corner" = Hw "corner")=true:=by decide +kernel
 have hf1:decide (Hw "inner" = Hw "corner")=false:=by decide +kernel
 have hf2:decide (Hw "round" = Hw "corner")=false:=by decide +kernel
 have hf3:decide (Hw "corner" = Hw "round")=false:=by decide +kernel
 have hf4:decide (Hw "inner" = Hw "round")=false:=by decide +kernel
 have hf5:decide (Hw "round" = Hw "round")=true:=by decide +kernel
 have he0:HC (.str "cut") (.str "cut")=true:=by decide +kernel
 have he1:HC (.str "cut") (.str "ways")=false:=by decide +kernel
 have he2:HC (.str "ways") (.str "cut")=false:=by decide +kernel
 have he3:HC (.str "ways") (.str "ways")=true:=by decide +kernel
 have hg0:decide (Hw "cut" = Hw "cut")=true:=by decide +kernel
 have hg1:decide (Hw "cut" = Hw "ways")=false:=by decide +kernel
 have hg2:decide (Hw "ways" = Hw "cut")=false:=by decide +kernel
 have hg3:decide (Hw "ways" = Hw "ways")=true:=by decide +kernel
 have sc1:HI (.str "cut")=true:=by decide +kernel
 have sc2:HI (.str "ways")=true:=by decide +kernel
 have eqi:∀i j:Int,HC (.int i) (.int j)=(i==j):=fun i j=>by simp[HC]
 refine aB ?_
 have sz:=HV
 have d1:∀a b:Option Str,[((Hw "corner"),a),(Hw "inner", b),(Hw "round", none)].lookup (Hw "corner")=some a:=fun a b=>by rw[HX];rw[show(Hw "corner" == Hw "corner")=true by decide +kernel]
 have d2:∀a b:Option Str,[((Hw "corner"),a),(Hw "inner", b),(Hw "round", none)].lookup (Hw "inner")=some b:=fun a b=>by rw[HX,show(Hw "inner" == Hw "corner")=false by decide +kernel];dsimp only;rw[HX,show(Hw "inner" == Hw "inner")=true by decide +kernel]
 have d3:∀a b:Option Str,[((Hw "corner"),a),(Hw "inner", b),(Hw "round", none)].lookup (Hw "round")=some none:=fun a b=>by rw[HX,show(Hw "round" == Hw "corner")=false by decide +kernel];dsimp only;rw[HX,show(Hw "round" == Hw "inner")=false by decide +kernel];dsimp only;rw[HX,show(Hw "round" == Hw "round")=true by decide +kernel]
 have w0:DS 0=Hw "corner" := rfl
 have w1:DS 1=Hw "inner" := rfl
 have w2:DS 2=Hw "round" := rfl
 obtain rfl|rfl|rfl|rfl:s=1\/s=2\/s=3\/s=4:=by omega
 all_goals
  obtain rfl|rfl|rfl:=f3 f
  · simp_arith only[ag,ae,w0,hf0,hf1,hf2,hf3,hf4,hf5,he0,he1,he2,he3,hg0,hg1,hg2,hg3,sc1,sc2,eqi,oP,d1,dO]
    exact av hQ
  · simp_arith only[ag,ae,w1,hf0,hf1,hf2,hf3,hf4,hf5,he0,he1,he2,he3,hg0,hg1,hg2,hg3,sc1,sc2,eqi,oP,d2,dO]
    exact av hQ
  · simp_arith only[ag,ae,w2,hf0,hf1,hf2,hf3,hf4,hf5,he0,he1,he2,he3,hg0,hg1,hg2,hg3,sc1,sc2,eqi,oP,d3,dO]
    exact av hQ
noncomputable def cK:List W->(Hy->Prop)->Prop:=fun ws Q=>∃(s:Int)(f:Fin 3)(t:Tr),ws=[.d (.int s),.d (.str (DS f)),.d (Ec t)]/\((Nk s f t))/\Q (.bool true)
theorem cK.mono:∀ws (Q Q':Hy->Prop),(∀d,Q d->Q' d)->cK ws Q->cK ws Q':=fun _ _ _ h_=>HD fun _=>HD fun _=>HD fun _=>HA (HA (h_ _))
theorem cK.len:∀ws (Q:Hy->Prop),cK ws Q->ws.length=3:=fun _ _ h_=>by obtain⟨_,_,_,e_,_⟩:=h_;subst e_;rfl
theorem cK.eq(s:Int)(f:Fin 3)(t:Tr)(hk:Nk s f t):cK [.d (.int s),.d (.str (DS f)),.d (Ec t)]=VL.ret (.bool true:Hy):=by
 refine ak fun Q=>⟨?_,fun q_=>⟨s,f,t,rfl,hk,q_⟩⟩
 rintro⟨s',f',t',e_,_,q_⟩
 simp_arith only[cX,bw,bx,aO,aN,bE,cN,eZ,fJ,hV,hW,cY,dw,dt,du,db,Ir]at e_
 obtain⟨rfl,rfl,rfl⟩:=e_
 exact q_
theorem my:FnScope ["s", "family", "thing", "numbers"] ["s", "family", "thing"] (defScope (Ed 41)):=⟨rfl,rfl,rfl,by decide +kernel,rfl,by decide +kernel,by decide +kernel⟩
theorem d_is_node(Fn:FnIn K mg "is_node" (Ed 41) ["s", "family", "thing"])(Z:Bz mg)(d_is_place:∀rl,Dfn P w K mg base rl "is_place" ["thing", "many"] 2 cT)(d_is_fraction:∀rl,Dfn P w K mg base rl "is_fraction" ["thing"] 2 bO)   : Dfn P w K mg base rl "is_node" ["s", "family", "thing"] 3 cK:=by
 have sc:=my
 refine Dfn.of Fn sc (cK.mono) (cK.len) (fun cdv A outer s H E hr=>(af (aU (dB (bZ (gk Z.isinstance_ (aa (vn 2) (aa (gv Z.tuple_ (by rfl)) ab))))) (aj (ar eC)) aH)
  (af (aU (G0.pb (d7 (az (bM hr.units) aZ (aw _) (cv Z.len_ (aa (vn 2) ab)) ac) (df (az (bM hr.units) aZ (aw _) (aL (vn 2) ac) aF)))) (af (ax 3 sc.nd (cj (az dv cr (aw _) (vn 1) aF) ac ac))
  (aj (ar (v_and (ai (d_is_place _) (hr.mono (by decide)) (aa (aL (vn 2) ac) (aa (vn 0) ab))) (v_and (ai (d_is_place _) (hr.mono (by decide)) (aa (aL (vn 2) ac) (aa (vn 3) ab))) (iQ (ai (d_is_fraction _) (hr.mono (by decide)) (aa (aL (vn 2) ac) ab)))))))) aH)
  (af (aU (G0.pb (d7 (az (bM hr.units) aZ (aw _) (cv Z.len_ (aa (vn 2) ab)) ac) (df (az (bM hr.units) aZ (aw _) (aL (vn 2) ac) aF)))) (aj (ar (ai (d_is_place _) (hr.mono (by decide)) (aa (aL (vn 2) ac) (aa (vn 0) ab))))) aH)
  (aj (ar (cW (bM hr.units) aZ (aw _) (cv Z.len_ (aa (vn 2) ab)) ac))))))) ?_
 rintro ws Q ⟨s,f,t,rfl,hk,hQ⟩
 have hf0:decide (Hw "corner" = Hw "corner")=true:=by decide +kernel
 have hf1:decide (Hw "inner" = Hw "corner")=false:=by decide +kernel
 have hf2:decide (Hw "round" = Hw "corner")=false:=by decide +kernel
 have hf3:decide (Hw "corner" = Hw "round")=false:=by decide +kernel
 have hf4:decide (Hw "inner" = Hw "round")=false:=by decide +kernel
 have hf5:decide (Hw "round" = Hw "round")=true:=by decide +kernel
 have he0:HC (.str "cut") (.str "cut")=true:=by decide +kernel
 have he1:HC (.str "cut") (.str "ways")=false:=by decide +kernel
 have he2:HC (.str "ways") (.str "cut")=false:=by decide +kernel
 have he3:HC (.str "ways") (.str "ways")=true:=by decide +kernel
 have hg0:decide (Hw "cut" = Hw "cut")=true:=by decide +kernel
 have hg1:decide (Hw "cut" = Hw "ways")=false:=by decide +kernel
 have hg2:decide (Hw "ways" = Hw "cut")=false:=by decide +kernel
 have hg3:decide (Hw "ways" = Hw "ways")=true:=by decide +kernel
 have sc1:HI (.str "cut")=true:=by decide +kernel
 have sc2:HI (.str "ways")=true:=by decide +kernel
 have eqi:∀i j:Int,HC (.int i) (.int j)=(i==j):=fun i j=>by simp[HC]
 refine aB ?_
 have w0:DS 0=Hw "corner" := rfl
 have w1:DS 1=Hw "inner" := rfl
 have w2:DS 2=Hw "round" := rfl
 cases t with
 | leaf =>
   simp_arith only[ag,ae,qE,hf0,hf1,hf2,hf3,hf4,hf5,he0,he1,he2,he3,hg0,hg1,hg2,hg3,sc1,sc2,eqi]
   exact av hQ
 | ways j p q =>
   have c1:decide ((0:Int)<=(j:Int))=true:=by simp
   have c2:decide ((j:Int)<s)=true:=decide_eq_true hk
   simp_arith only[ag,ae,wF,hf0,hf1,hf2,hf3,hf4,hf5,he0,he1,he2,he3,hg0,hg1,hg2,hg3,sc1,sc2,eqi,cT.eq,c1,c2]
   exact av hQ
 | cut j w x p q =>
   obtain⟨k1,k2,k3⟩:=hk
   have c1:decide ((0:Int)<=(j:Int))=true:=by simp
   have c2:decide ((j:Int)<s)=true:=decide_eq_true k1
   have c3:decide ((0:Int)<=(w:Int))=true:=by simp
   obtain rfl|rfl|rfl:=f3 f
   · have c4:decide ((w:Int)<1)=true:=decide_eq_true k2
     simp_arith only[ag,ae,nu,w0,hf0,hf1,hf2,hf3,hf4,hf5,he0,he1,he2,he3,hg0,hg1,hg2,hg3,sc1,sc2,eqi,cT.eq,bO.eq,c1,c2,c3,c4,Gp,Go]
     exact av hQ
   · have c4:decide ((w:Int)<2)=true:=decide_eq_true k2
     simp_arith only[ag,ae,nu,w1,hf0,hf1,hf2,hf3,hf4,hf5,he0,he1,he2,he3,hg0,hg1,hg2,hg3,sc1,sc2,eqi,cT.eq,bO.eq,c1,c2,c3,c4,Gp,Go]
     exact av hQ
   · have c4:decide ((w:Int)<2)=true:=decide_eq_true k2
     simp_arith only[ag,ae,nu,w2,hf0,hf1,hf2,hf3,hf4,hf5,he0,he1,he2,he3,hg0,hg1,hg2,hg3,sc1,sc2,eqi,cT.eq,bO.eq,c1,c2,c3,c4,Gp,Go]
     exact av hQ
theorem qX{cs:List Co}(h:aW cs):((cs.map fun c=>DR c.1).any fun z=>HC z .none)=false:=by
 rw[List.any_eq_false]
 intro d md
 obtain⟨⟨w,rs⟩,mc,rfl⟩:=IM.mp md
 cases w with
 | none=>exact absurd rfl (h _ mc)
 | some k=>show ¬HC (.str (DT k)) .none=true;simp[HC]
theorem tM(cs:List Co):Ih (cs.map fun c=>DR c.1)=true:=by
 induction cs with
 | nil=>rfl
 | cons c cs ih =>
   have h:IG (DR c.1)=true:=by
    cases c.1 with
    | none=>rfl
    | some k=>obtain rfl|rfl|rfl:=f3 k<;>decide +kernel
   rw[IW]
   simp only[Ih,h,ih,Bool.and_self]
theorem jw:∀t:Tr,IG (Ec t)=true
 | .leaf=>rfl
 | .cut j w x p q=>by simp[Ec,E9,FO,fr,IG,Ih,jw p,jw q];exact bX _
 | .ways j p q=>by simp[Ec,E9,FO,IG,Ih,jw p,jw q];exact bX _
theorem ia:∀t:Tr,JB (Ec t)<=ht t+2
 | .leaf=>by simp[Ec,JB,IE]
 | .cut j w x p q=>by
   have h1:=ia p
   have h2:=ia q
   simp[Ec,E9,FO,fr,JB,IE,ht]
   omega
 | .ways j p q=>by
   have h1:=ia p
   have h2:=ia q
   simp[Ec,E9,FO,JB,IE,ht]
   omega
theorem dg{t:Tr}(h:ht t<=50):HI (Ec t)=true:=by
 have:=ia t
 simp[HI,jw]
 omega
theorem jv{t:Tr}(h:t ≠ .leaf):HC (Ec t) (.tuple [])=false:=by
 cases t with
 | leaf=>exact absurd rfl h
 | cut j w x p q=>rfl
 | ways j p q=>rfl
theorem sI(cs:List Co):(D7 cs).length=cs.length:=by unfold D7;rw[HM]
noncomputable def b_:List W->(Hy->Prop)->Prop:=fun ws Q=>∃(ps:List (List Rat))(n:Rat)(cs:List Co),ws=[.d (ptsQ ps),.d (fr n),.d (F0 cs)]/\((FR ps cs.length)/\(EN 1900 n)/\(∃f,Hn f cs)/\(aW cs))/\Q (lfD ps n cs)
theorem b_.mono:∀ws (Q Q':Hy->Prop),(∀d,Q d->Q' d)->b_ ws Q->b_ ws Q':=fun _ _ _ h_=>HD fun _=>HD fun _=>HD fun _=>HA (HA (h_ _))
theorem b_.len:∀ws (Q:Hy->Prop),b_ ws Q->ws.length=3:=fun _ _ h_=>by obtain⟨_,_,_,e_,_⟩:=h_;subst e_;rfl
theorem b_.eq(ps:List (List Rat))(n:Rat)(cs:List Co)(hp:FR ps cs.length)(hn:EN 1900 n)(hc:∃f,Hn f cs)(ha:aW cs):b_ [.d (ptsQ ps),.d (fr n),.d (F0 cs)]=VL.ret (lfD ps n cs:Hy):=by
 refine ak fun Q=>⟨?_,fun q_=>⟨ps,n,cs,rfl,⟨hp,hn,hc,ha⟩,q_⟩⟩
 rintro⟨ps',n',cs',e_,_,q_⟩
 simp_arith only[cX,bw,bx,aO,aN,bE,cN,eZ,fJ,hV,hW,cY,dw,dt,du,db,Ir]at e_
 obtain⟨rfl,rfl,rfl⟩:=e_
 exact q_
theorem iX:FnScope ["points", "number", "cell", "sure", "perhaps", "least", "most", "many"] ["points", "number", "cell"] (defScope (Ed 43)):=⟨rfl,rfl,rfl,by decide +kernel,rfl,by decide +kernel,by decide +kernel⟩
theorem d_leaf_fault(Fn:FnIn K mg "leaf_fault" (Ed 43) ["points", "number", "cell"])(Z:Bz mg)(d_cell_told:∀rl,Dfn P w K mg base rl "cell_told" ["points", "cell"] 6 cB)(d_is_below:∀rl,Dfn P w K mg base rl "is_below" ["one", "other"] 1 bL)(d_less:∀rl,Dfn P w K mg base rl "less" ["one", "other"] 3 fP)(d_fraction:∀rl,Dfn P w K mg base rl "fraction" ["top", "bottom"] 2 bY)   : Dfn P w K mg base rl "leaf_fault" ["points", "number", "cell"] 7 b_:=by
 have sc:=iX
 refine Dfn.of Fn sc (b_.mono) (b_.len) (fun cdv A outer s H E hr=>(af (aU (az (oF hr.u65) lz (by with_unfolding_all rfl) dC (cI ["word", "ranges"] [none,none] rfl (dA (vn 2)) (fun _=>(bH (n:=2) rfl (aq (am 0 (show IT (["word", "ranges"]:List Str) by decide +kernel)) (aq (am 1 (show IT (["word", "ranges"]:List Str) by decide +kernel)) aV)))) (fun _=>dr) (fun _=>(vn 0)))) (aj (ar aF)) aH)
  (af (cq (ai (d_cell_told _) (hr.mono (by decide)) (aa (vn 0) (aa (vn 2) ab))) (bH (n:=4) rfl (aq (am 3 sc.nd) (aq (am 4 sc.nd) (aq (am 5 sc.nd) (aq (am 6 sc.nd) aV))))))
  (af (ax 7 sc.nd (cv Z.len_ (aa (vn 0) ab)))
  (af (aU (bZ (ai (d_is_below _) (hr.mono (by decide)) (aa (vn 1) (aa (ai (d_less _) (hr.mono (by decide)) (aa (ai (d_fraction _) (hr.mono (by decide)) (aa (v_add (vn 3) (vn 4)) (aa (vn 7) ab))) (aa (vn 5) ab))) ab)))) (aj (ar aF)) aH)
  (af (aU (bZ (ai (d_is_below _) (hr.mono (by decide)) (aa (vn 1) (aa (ai (d_less _) (hr.mono (by decide)) (aa (vn 6) (aa (ai (d_fraction _) (hr.mono (by decide)) (aa (vn 3) (aa (vn 7) ab))) ab))) ab)))) (aj (ar aF)) aH)
  (aj (ar dC)))))))) ?_
 rintro ws Q ⟨ps,n,cs,rfl,⟨hp,hn,hc,ha⟩,hQ⟩
 refine aB ?_
 have sz:=HV
 obtain⟨f,hc⟩:=hc
 have h4:=hc.2.1
 have uk:=qB hc ha
 have ip:qi (D7 cs).length ps:=by rw[sI];exact yg hp
 have eD:=yu ha
 have s1:=(ig hc ha).1.mono (show 1617<=2000 by decide)
 have s2:=(ig hc ha).2.mono (show 1617<=2000 by decide)
 have q1:=(yM hp ((D7 cs).map FK) "open").mono (show 4<=2000 by decide)
 have q2:=(yM hp ((D7 cs).map Fo) "shut").mono (show 4<=2000 by decide)
 obtain⟨o1,o2⟩:=mF hp hc ha
 have o1:EN 2000 (EV ps cs):=o1.mono (by decide)
 have o2:EN 2000 (Ft ps cs):=o2.mono (by decide)
 have hn:EN 2000 n:=hn.mono (by decide)
 have p8:=hp.2.1
 have b1:0<(ps.length:Int):=by have:=hp.1;omega
 have b2:((ps.length:Int)).natAbs<2^8000:=HJ (show _<2^8 by omega) (HP (by decide) (by decide))
 have na:=qX ha
 have nl:=tM cs
 simp_arith only[ag,ae,Hv,F0]
 refine Eu (cM (xs:=cs) (enc:=F9) (fun c=>DR c.1) rfl ?_ (by omega) ?_)
 · rintro⟨k,rs⟩ mc
   simp_arith only[ag,ae,FB,yy]
 have eDt:Jc (cs.map F9)=Gc (D7 cs):=eD
 have ct:∀a b:Int,a+(b-a)=b:=by omega
 have ov:qd (cntN ps ((D7 cs).map FK) "open" : Int) (ps.length:Int)-cf ((D7 cs).map Fo)=EV ps cs:=rfl
 have lk:cf ((D7 cs).map FK)-qd (cntN ps ((D7 cs).map Fo) "shut" : Int) (ps.length:Int)=Ft ps cs:=rfl
 simp_arith only[ag,ae,Hv,na,nl,eDt,cB.eq,toldD,bY.eq,fP.eq,bL.eq,ct,ov,lk]
 unfold lfD at hQ
 by_cases c1:n<EV ps cs
 · rw[if_pos c1]at hQ
   have d1:=decide_eq_true c1
   simp_arith only[ag,ae,d1]
   exact av hQ
 · rw[if_neg c1]at hQ
   have d1:=decide_eq_false c1
   by_cases c2:n<Ft ps cs
   · rw[if_pos c2]at hQ
     have d2:=decide_eq_true c2
     simp_arith only[ag,ae,d1,d2]
     exact av hQ
   · rw[if_neg c2]at hQ
     have d2:=decide_eq_false c2
     simp_arith only[ag,ae,d1,d2]
     exact av hQ
noncomputable def bI:List W->(Hy->Prop)->Prop:=fun ws Q=>∃(ps:List (List Rat))(n:Rat)(cs:List Co)(t:Tr),ws=[.d (ptsQ ps),.d (fr n),.d (F0 cs),.d (Ec t)]/\((FR ps cs.length)/\(EN 1900 n)/\(∃f,Hn f cs)/\(Ns cs t)/\(ht t<=50))/\Q (nfD ps n cs t)
theorem bI.mono:∀ws (Q Q':Hy->Prop),(∀d,Q d->Q' d)->bI ws Q->bI ws Q':=fun _ _ _ h_=>HD fun _=>HD fun _=>HD fun _=>HD fun _=>HA (HA (h_ _))
theorem bI.len:∀ws (Q:Hy->Prop),bI ws Q->ws.length=4:=fun _ _ h_=>by obtain⟨_,_,_,_,e_,_⟩:=h_;subst e_;rfl
theorem bI.eq(ps:List (List Rat))(n:Rat)(cs:List Co)(t:Tr)(hp:FR ps cs.length)(hn:EN 1900 n)(hc:∃f,Hn f cs)(hs:Ns cs t)(h50:ht t<=50):bI [.d (ptsQ ps),.d (fr n),.d (F0 cs),.d (Ec t)]=VL.ret (nfD ps n cs t:Hy):=by
 refine ak fun Q=>⟨?_,fun q_=>⟨ps,n,cs,t,rfl,⟨hp,hn,hc,hs,h50⟩,q_⟩⟩
 rintro⟨ps',n',cs',t',e_,_,q_⟩
 simp_arith only[cX,bw,bx,aO,aN,bE,cN,eZ,fJ,hV,hW,cY,dw,dt,du,db,Ir]at e_
 obtain⟨rfl,rfl,rfl,rfl⟩:=e_
 exact q_
theorem iV:FnScope ["points", "number", "cell", "node", "word", "ranges"] ["points", "number", "cell", "node"] (defScope (Ed 44)):=⟨rfl,rfl,rfl,by decide +kernel,rfl,by decide +kernel,by decide +kernel⟩
theorem d_node_fault(Fn:FnIn K mg "node_fault" (Ed 44) ["points", "number", "cell", "node"])(Z:Bz mg)(d_leaf_fault:∀rl,Dfn P w K mg base rl "leaf_fault" ["points", "number", "cell"] 7 b_)(d_is_within:∀rl,Dfn P w K mg base rl "is_within" ["at", "limits"] 2 cA)   : Dfn P w K mg base rl "node_fault" ["points", "number", "cell", "node"] 8 bI:=by
 have sc:=iV
 refine Dfn.of Fn sc (bI.mono) (bI.len) (fun cdv A outer s H E hr=>(af (aU (az (bM hr.units) aZ (aw _) (vn 3) (aP ab)) (aj (ar (ai (d_leaf_fault _) (hr.mono (by decide)) (aa (vn 0) (aa (vn 1) (aa (vn 2) ab)))))) aH)
  (af (cq (aL (vn 2) (aL (vn 3) ac)) (bH (n:=2) rfl (aq (am 4 sc.nd) (aq (am 5 sc.nd) aV))))
  (af (aU (az (bM hr.units) aZ (aw _) (aL (vn 3) ac) aF) (aj (ar (cj (az jX js (aw _) (vn 4) dC) dC aF))) aH)
  (aj (ar (cj (bZ (ai (d_is_within _) (hr.mono (by decide)) (aa (aL (vn 3) ac) (aa (aL (vn 5) (aL (vn 3) ac)) ab)))) dC aF))))))) ?_
 rintro ws Q ⟨ps,n,cs,t,rfl,⟨hp,hn,hc,hs,h50⟩,hQ⟩
 have hf0:decide (Hw "corner" = Hw "corner")=true:=by decide +kernel
 have hf1:decide (Hw "inner" = Hw "corner")=false:=by decide +kernel
 have hf2:decide (Hw "round" = Hw "corner")=false:=by decide +kernel
 have hf3:decide (Hw "corner" = Hw "round")=false:=by decide +kernel
 have hf4:decide (Hw "inner" = Hw "round")=false:=by decide +kernel
 have hf5:decide (Hw "round" = Hw "round")=true:=by decide +kernel
 have he0:HC (.str "cut") (.str "cut")=true:=by decide +kernel
 have he1:HC (.str "cut") (.str "ways")=false:=by decide +kernel
 have he2:HC (.str "ways") (.str "cut")=false:=by decide +kernel
 have he3:HC (.str "ways") (.str "ways")=true:=by decide +kernel
 have hg0:decide (Hw "cut" = Hw "cut")=true:=by decide +kernel
 have hg1:decide (Hw "cut" = Hw "ways")=false:=by decide +kernel
 have hg2:decide (Hw "ways" = Hw "cut")=false:=by decide +kernel
 have hg3:decide (Hw "ways" = Hw "ways")=true:=by decide +kernel
 have sc1:HI (.str "cut")=true:=by decide +kernel
 have sc2:HI (.str "ways")=true:=by decide +kernel
 have eqi:∀i j:Int,HC (.int i) (.int j)=(i==j):=fun i j=>by simp[HC]
 refine aB ?_
 cases t with
 | leaf =>
   have hs:aW cs:=hs
   simp_arith only[ag,ae,qE,hf0,hf1,hf2,hf3,hf4,hf5,he0,he1,he2,he3,hg0,hg1,hg2,hg3,sc1,sc2,eqi,b_.eq]
   exact av hQ
 | ways j p q =>
   obtain⟨hj,hw⟩:=hs
   have e1:atI cs (j:Int)=some (Gg cs j):=bG (fA hj)
   have e2:DR (Gg cs j).1 = .none:=by rw[hw];rfl
   have sh:HI (Ec (.ways j p q))=true:=dg h50
   have ev:HC (Ec (.ways j p q)) (.tuple [])=false:=jv (by intro z;cases z)
   simp_arith only[ag,ae,sh,ev,hf0,hf1,hf2,hf3,hf4,hf5,he0,he1,he2,he3,hg0,hg1,hg2,hg3,sc1,sc2,eqi]
   simp_arith only[ag,ae,wF,hf0,hf1,hf2,hf3,hf4,hf5,he0,he1,he2,he3,hg0,hg1,hg2,hg3,sc1,sc2,eqi,F0,e1,yy,e2,bF]
   exact av hQ
 | cut j w x p q =>
   obtain⟨hj,hw,l,u,sx⟩:=hs
   obtain⟨f,hc⟩:=hc
   have r1:=lH hc hj hw
   have e1:atI cs (j:Int)=some (Gg cs j):=bG (fA hj)
   have e2:atI (Gg cs j).2 (w:Int)=some (EL cs j w):=bG (mD hw)
   have sh:HI (Ec (.cut j w x p q))=true:=dg h50
   have ev:HC (Ec (.cut j w x p q)) (.tuple [])=false:=jv (by intro z;cases z)
   have x1:EN 2000 x:=sx.mono (by decide)
   have x2:EN 2000 (EL cs j w).1:=r1.1.mono (by decide)
   have x3:EN 2000 (EL cs j w).2:=r1.2.1.mono (by decide)
   have d1:decide ((EL cs j w).1<x)=true:=decide_eq_true l
   have d2:decide (x<(EL cs j w).2)=true:=decide_eq_true u
   have pw:=cA.eq x (EL cs j w) x1 x2 x3
   simp_arith only[ag,ae,sh,ev,hf0,hf1,hf2,hf3,hf4,hf5,he0,he1,he2,he3,hg0,hg1,hg2,hg3,sc1,sc2,eqi]
   simp_arith only[ag,ae,nu,hf0,hf1,hf2,hf3,hf4,hf5,he0,he1,he2,he3,hg0,hg1,hg2,hg3,sc1,sc2,eqi,F0,e1,yy,EC,e2,bF,Gp,Go,pw,d1,d2]
   exact av hQ
structure Wk (ps:List (List Rat)) (f:Fin 3) (n:Rat) (cs:List Co) (path:List Int) (t:Tr):Prop where
 hp:FR ps cs.length
 hc:Hn f cs
 hw:Wf cs t
 hn:ck ps cs t<=n
 sn:EN 1900 n
 hl:path.length+ht t<=36
noncomputable def eM(m:Nat):List W->(Hy->Prop)->Prop:=fun ws Q=>∃(ps:List (List Rat))(f:Fin 3)(n:Rat)(cs:List Co)(path:List Int)(t:Tr),ws=[.d (ptsQ ps),.d (.str (DS f)),.d (fr n),.d (F0 cs),.d (.tuple (path.map .int)),.d (Ec t)]/\(ht t<m/\Wk ps f n cs path t)/\Q .none
theorem eM.mono(m:Nat):∀ws (Q Q':Hy->Prop),(∀d,Q d->Q' d)->eM m ws Q->eM m ws Q':=fun _ _ _ h_=>HD fun _=>HD fun _=>HD fun _=>HD fun _=>HD fun _=>HD fun _=>HA (HA (h_ _))
theorem eM.len(m:Nat):∀ws (Q:Hy->Prop),eM m ws Q->ws.length=6:=fun _ _ h_=>by obtain⟨_,_,_,_,_,_,e_,_⟩:=h_;subst e_;rfl
theorem eM.eq(m:Nat)(ps:List (List Rat))(f:Fin 3)(n:Rat)(cs:List Co)(path:List Int)(t:Tr)(h:ht t<m)(hk:Wk ps f n cs path t):eM m [.d (ptsQ ps),.d (.str (DS f)),.d (fr n),.d (F0 cs),.d (.tuple (path.map .int)),.d (Ec t)]=VL.ret (.none:Hy):=by
 refine ak fun Q=>⟨?_,fun q_=>⟨ps,f,n,cs,path,t,rfl,⟨h,hk⟩,q_⟩⟩
 rintro⟨_,_,_,_,_,_,_,_,q_⟩
 exact q_
theorem Wk.nk{n:Rat}{cs:List Co}{path:List Int}{t:Tr}(h:Wk ps f n cs path t):Nk (cs.length:Int) f t/\Ns cs t/\nfD ps n cs t = .none:=by
 obtain⟨hp,hc,hw,hn,sn,hl⟩:=h
 cases t with
 | leaf =>
   refine⟨trivial,hw,?_⟩
   have h1:EV ps cs<=n:=IN (fu _ _) hn
   have h2:Ft ps cs<=n:=IN (gF _ _) hn
   show lfD ps n cs = .none
   unfold lfD
   rw[if_neg (Kj.mpr h1),if_neg (Kj.mpr h2)]
 | cut j w x p q =>
   obtain⟨ft,_⟩:=hw
   obtain⟨hj,hw,l,u,sx⟩:=id ft
   have e:=(qJ (hc.2.2 _ (dn hj))).1
   refine⟨⟨by omega,?_,sx.mono (by decide)⟩,ft,rfl⟩
   rw[e]at hw
   split at hw
   · rename_i z;rw[if_pos z];omega
   · rename_i z;rw[if_neg z];omega
 | ways j p q =>
   obtain⟨ft,_⟩:=hw
   have:=ft.1
   exact⟨show(j:Int)<(cs.length:Int) by omega,ft,rfl⟩
theorem Wk.two{n:Rat}{cs:List Co}{path:List Int}{t:Tr}(h:Wk ps f n cs path t):t = .leaf\/∃hd p q,Ec t=E9 hd [Ec p,Ec q]/\Hm cs hd/\ht p<ht t/\ht q<ht t/\Wk ps f n (Gm cs hd) (path++[0]) p/\Wk ps f n (Gk cs hd) (path++[1]) q:=by
 obtain⟨hp,hc,hw,hn,sn,hl⟩:=h
 cases t with
 | leaf=>exact .inl rfl
 | cut j w x p q =>
   obtain⟨ft,w1,w2⟩:=hw
   obtain⟨b1,b2⟩:=fK hc ft
   obtain⟨l1,l2⟩:=ko cs (.cut j w x)
   have e:ht (.cut j w x p q)=max (ht p) (ht q)+1:=rfl
   exact .inr ⟨_,p,q,rfl,ft,by omega,by omega,⟨by rw[l1];exact hp,b1,w1,IN (fu _ _) hn,sn,by rw[Ij,JZ];omega⟩,⟨by rw[l2];exact hp,b2,w2,IN (gF _ _) hn,sn,by rw[Ij,JZ];omega⟩⟩
 | ways j p q =>
   obtain⟨ft,w1,w2⟩:=hw
   obtain⟨b1,b2⟩:=fK hc ft
   obtain⟨l1,l2⟩:=ko cs (.ways j)
   have e:ht (.ways j p q)=max (ht p) (ht q)+1:=rfl
   exact .inr ⟨_,p,q,rfl,ft,by omega,by omega,⟨by rw[l1];exact hp,b1,w1,IN (fu _ _) hn,sn,by rw[Ij,JZ];omega⟩,⟨by rw[l2];exact hp,b2,w2,IN (gF _ _) hn,sn,by rw[Ij,JZ];omega⟩⟩
theorem uT(h:Hd)(a b:Hy):∃xs,E9 h [a,b] = .tuple xs/\atI xs (-2)=some a/\atI xs (-1)=some b/\VL.cutD xs (some (-2)) none=[a,b]/\VL.cutD xs none (some (-2))=FO h/\xs.length<=6:=by
 cases h with
 | cut j w x=>exact⟨_,rfl,rfl,rfl,rfl,rfl,by simp[FO]⟩
 | ways j=>exact⟨_,rfl,rfl,rfl,rfl,rfl,by simp[FO]⟩
theorem p4{cs:List Co}(h:Hn f cs):∀c∈cs,c.2.length<=2:=fun c mc=>by
 have:=(qJ (h.2.2 c mc)).1
 split at this<;>omega
theorem ui:FnScope ["points", "family", "number", "cell", "path", "thing", "word", "way", "below"] ["points", "family", "number", "cell", "path", "thing"] (defScope (Ed 45)):=⟨rfl,rfl,rfl,by decide +kernel,rfl,by decide +kernel,by decide +kernel⟩
theorem rW(n:Nat)(Fn:FnIn K mg "walk" (Ed 45) ["points", "family", "number", "cell", "path", "thing"])(Z:Bz mg)(d_node_fault:∀rl,Dfn P w K mg base rl "node_fault" ["points", "number", "cell", "node"] 8 bI)(d_is_node:∀rl,Dfn P w K mg base rl "is_node" ["s", "family", "thing"] 3 cK)(d_cells_below:∀rl,Dfn P w K mg base rl "cells_below" ["cell", "node"] 3 bm)(gl_DEEPEST:GlD K mg "DEEPEST" (.int 36))(d_walk:∀rl,Dfn P w K mg base rl "walk" ["points", "family", "number", "cell", "path", "thing"] (8+n) (eM n)):Dfn P w K mg base rl "walk" ["points", "family", "number", "cell", "path", "thing"] (8+n+1) (eM (n+1)):=by
 have sc:=ui
 refine Dfn.of Fn sc (eM.mono _) (eM.len _) (fun cdv A outer s H E hr=>(af (aU (az jb iM (aw _) (cv Z.len_ (aa (vn 4) ab)) (eG gl_DEEPEST)) (aj fX) aH)
  (af (aU (dB (bZ (ai (d_is_node _) (hr.mono (by omega)) (aa (cv Z.len_ (aa (vn 3) ab)) (aa (vn 1) (aa (vn 5) ab)))))) (aj fX) aH)
  (af (ax 6 sc.nd (ai (d_node_fault _) (hr.mono (by omega)) (aa (vn 0) (aa (vn 2) (aa (vn 3) (aa (vn 5) ab))))))
  (af (aU (az oD mX (aw _) (vn 6) dC) (aj fX) aH)
  (aj (aU (az (eN hr.units) aZ (aw _) (vn 5) (aP ab)) (aj (dG [7,8] I_ rfl (iN Z.enumerate_ (aa (ai (d_cells_below _) (hr.mono (by omega)) (aa (vn 3) (aa (vn 5) ab))) ab)) (bH (n:=2) rfl (aq (am 7 sc.nd) (aq (am 8 sc.nd) aV))) (aj (mV (ai (d_walk _) (hr.mono (by omega)) (aa (vn 0) (aa (vn 1) (aa (vn 2) (aa (vn 8) (aa (eI (vn 4) (aP (aa (vn 7) ab))) (aa (aL (vn 5) (v_sub (vn 7) ac)) ab))))))))))) aH))))))) ?_
 rintro ws Q ⟨ps,f,x,cs,path,t,rfl,⟨hm,hk⟩,hQ⟩
 have eqi:∀i j:Int,HC (.int i) (.int j)=(i==j):=fun i j=>by simp[HC]
 refine aB ?_
 have sz:=HV
 obtain⟨k1,k2,k3⟩:=hk.nk
 have h4:=hk.hc.2.1
 have hl:=hk.hl
 have sn:=hk.sn
 have hp:=hk.hp
 have hc:∃f,Hn f cs:=⟨f,hk.hc⟩
 have c2:=p4 hk.hc
 have h50:ht t<=50:=by omega
 have c1:decide ((36:Int)<(path.length:Int))=false:=by simp;omega
 have lc:Jc (cs.map F9)=F0 cs:=rfl
 have sh:=dg h50
 simp_arith only[ag,ae,Hv,c1]
 have e0:mT (F0 cs)=some cs.length:=by show some (cs.map F9).length=_;rw[HM]
 simp_arith only[ag,ae,Hv,e0,cK.eq,bI.eq,k3]
 rcases hk.two with rfl|⟨hd,p,q,et,ft,t1,t2,w1,w2⟩
 · simp_arith only[ag,ae,qE]
   exact hQ
 · have tn:HC (Ec t) (.tuple [])=false:=jv (by rintro rfl;have:=k3;exact absurd t1 (JL _))
   have s0:HI (.tuple [])=true:=rfl
   have cb:=bm.eq cs hd (Ec p) (Ec q) h4 c2 ft
   obtain⟨xs,ex,x2,x1,_⟩:=uT hd (Ec p) (Ec q)
   rw[<- et]at cb
   have en:∀a b:Hy,AC [.d (.tuple [a,b])]=some [.tuple [.int 0,a],.tuple [.int 1,b]]:=fun a b=>rfl
   have ap:∀i:Int,path.map Io++[.int i]=(path++[i]).map Io:=fun i=>by rw[IS];rfl
   have pl:path.length+1<=sizeLine:=by omega
   simp_arith only[ag,ae,tn,s0,sh,cb,xY,en]
   refine Cs (jZ (xs:=[(0,Gm cs hd),(1,Gk cs hd)]) (enc:=fun z:Int×List Co=>Jc [.int z.1,F0 z.2]) (fun _ ρ=>ρ=[some (.d (ptsQ ps)),some (.d (.str (DS f))),some (.d (fr x)),some (.d (F0 cs)),some (.d (.tuple (path.map .int))),some (.d (Ec t)),some (.d .none),none,none]) rfl rfl ?_ ?_)
   · rintro i hi ρ rfl K hK
     have hi:i<2:=hi
     match i,hi with
     | 0,_ =>
       have pw:=eM.eq n ps f x _ _ p (by omega) w1
       have im:(0:Int)-2 = -2:=rfl
       simp_arith only[ag,ae,et,ex,im,x2,ap,pw,L7,L8]
       exact hK _ (dF (by rw[et,ex];rfl))
     | 1,_ =>
       have pw:=eM.eq n ps f x _ _ q (by omega) w2
       have im:(1:Int)-2 = -1:=rfl
       simp_arith only[ag,ae,et,ex,im,x1,ap,pw,L7,L8]
       exact hK _ (dF (by rw[et,ex];rfl))
   · rintro ρ rfl
     exact hQ
theorem rX(Fn:FnIn K mg "walk" (Ed 45) ["points", "family", "number", "cell", "path", "thing"])(Z:Bz mg)(d_node_fault:∀rl,Dfn P w K mg base rl "node_fault" ["points", "number", "cell", "node"] 8 bI)(d_is_node:∀rl,Dfn P w K mg base rl "is_node" ["s", "family", "thing"] 3 cK)(d_cells_below:∀rl,Dfn P w K mg base rl "cells_below" ["cell", "node"] 3 bm)(gl_DEEPEST:GlD K mg "DEEPEST" (.int 36))(n:Nat):∀rl,Dfn P w K mg base rl "walk" ["points", "family", "number", "cell", "path", "thing"] (8+n) (eM n):=by
 induction n with
 | zero=>exact fun rl=>Dfn.never Fn (fun _ _ ⟨_,_,_,_,_,_,_,⟨z,_⟩,_⟩=>absurd z (JL _))
 | succ n ih=>exact fun rl=>rW n Fn Z d_node_fault d_is_node d_cells_below gl_DEEPEST  ih
theorem d_walk(Fn:FnIn K mg "walk" (Ed 45) ["points", "family", "number", "cell", "path", "thing"])(Z:Bz mg)(d_node_fault:∀rl,Dfn P w K mg base rl "node_fault" ["points", "number", "cell", "node"] 8 bI)(d_is_node:∀rl,Dfn P w K mg base rl "is_node" ["s", "family", "thing"] 3 cK)(d_cells_below:∀rl,Dfn P w K mg base rl "cells_below" ["cell", "node"] 3 bm)(gl_DEEPEST:GlD K mg "DEEPEST" (.int 36))  : Dfn P w K mg base rl "walk" ["points", "family", "number", "cell", "path", "thing"] 20 (eM 12):=rX Fn Z d_node_fault d_is_node d_cells_below gl_DEEPEST  12 rl
noncomputable def cz:List W->(Hy->Prop)->Prop:=fun ws Q=>∃(ps:List (List Rat))(f:Fin 3)(n:Rat)(t:Tr),ws=[.d (ptsQ ps),.d (.str (DS f)),.d (fr n),.d (Ec t)]/\((Wk ps f n (FW f (dimP ps)) [] t)/\(ht t<12))/\Q (.bool true)
theorem cz.mono:∀ws (Q Q':Hy->Prop),(∀d,Q d->Q' d)->cz ws Q->cz ws Q':=fun _ _ _ h_=>HD fun _=>HD fun _=>HD fun _=>HD fun _=>HA (HA (h_ _))
theorem cz.len:∀ws (Q:Hy->Prop),cz ws Q->ws.length=4:=fun _ _ h_=>by obtain⟨_,_,_,_,e_,_⟩:=h_;subst e_;rfl
theorem cz.eq(ps:List (List Rat))(f:Fin 3)(n:Rat)(t:Tr)(hk:Wk ps f n (FW f (dimP ps)) [] t)(h8:ht t<12):cz [.d (ptsQ ps),.d (.str (DS f)),.d (fr n),.d (Ec t)]=VL.ret (.bool true:Hy):=by
 refine ak fun Q=>⟨?_,fun q_=>⟨ps,f,n,t,rfl,⟨hk,h8⟩,q_⟩⟩
 rintro⟨ps',f',n',t',e_,_,q_⟩
 simp_arith only[cX,bw,bx,aO,aN,bE,cN,eZ,fJ,hV,hW,cY,dw,dt,du,db,Ir]at e_
 obtain⟨rfl,rfl,rfl,rfl⟩:=e_
 exact q_
theorem jD:FnScope ["points", "family", "number", "thing"] ["points", "family", "number", "thing"] (defScope (Ed 46)):=⟨rfl,rfl,rfl,by decide +kernel,rfl,by decide +kernel,by decide +kernel⟩
theorem d_lets_even(Fn:FnIn K mg "lets_even" (Ed 46) ["points", "family", "number", "thing"])(Z:Bz mg)(d_walk:∀rl,Dfn P w K mg base rl "walk" ["points", "family", "number", "cell", "path", "thing"] 20 (eM 12))(d_first_cell:∀rl,Dfn P w K mg base rl "first_cell" ["s", "family"] 1 cc)(d_sides_of:∀rl,Dfn P w K mg base rl "sides_of" ["points"] 1 cS)   : Dfn P w K mg base rl "lets_even" ["points", "family", "number", "thing"] 21 cz:=by
 have sc:=jD
 refine Dfn.of Fn sc (cz.mono) (cz.len) (fun cdv A outer s H E hr=>(af (mV (ai (d_walk _) (hr.mono (by decide)) (aa (vn 0) (aa (vn 1) (aa (vn 2) (aa (ai (d_first_cell _) (hr.mono (by decide)) (aa (ai (d_sides_of _) (hr.mono (by decide)) (aa (vn 0) ab)) (aa (vn 1) ab))) (aa (aP ab) (aa (vn 3) ab))))))))
  (aj (ar eC)))) ?_
 rintro ws Q ⟨ps,f,n,t,rfl,⟨hk,h8⟩,hQ⟩
 refine aB ?_
 have hp:=hk.hp
 have e0:(FW f (dimP ps)).length=dimP ps:=by unfold FW;rw[JJ]
 rw[e0]at hp
 have g1:=hp.1
 have g2:1<=(dimP ps:Int):=by have:=hp.2.2.2.1;omega
 have g3:(dimP ps:Int)<=4:=by have:=hp.2.2.2.2;omega
 have e1:(dimP ps:Int).toNat=dimP ps:=JS _
 have fc:=cc.eq (dimP ps:Int) f g2 g3
 rw[e1]at fc
 have pw:=eM.eq 12 ps f n _ _ t h8 hk
 rw[K7]at pw
 simp_arith only[ag,ae,Hv,cS.eq,fc,pw]
 exact av hQ
theorem Fw(a b c:α):[((Hw "corner"),a),(Hw "inner", b),(Hw "round", c)].lookup (Hw "corner")=some a:=by rw[HX];rw[show(Hw "corner" == Hw "corner")=true by decide +kernel]
theorem Fv(a b c:α):[((Hw "corner"),a),(Hw "inner", b),(Hw "round", c)].lookup (Hw "inner")=some b:=by rw[HX,show(Hw "inner" == Hw "corner")=false by decide +kernel];dsimp only;rw[HX,show(Hw "inner" == Hw "inner")=true by decide +kernel]
theorem Fu(a b c:α):[((Hw "corner"),a),(Hw "inner", b),(Hw "round", c)].lookup (Hw "round")=some c:=by rw[HX,show(Hw "round" == Hw "corner")=false by decide +kernel];dsimp only;rw[HX,show(Hw "round" == Hw "inner")=false by decide +kernel];dsimp only;rw[HX,show(Hw "round" == Hw "round")=true by decide +kernel]
theorem Cn(h:Hd)(r:List Hy):E9 h r = .tuple (FO h++r):=rfl
theorem ka(c:Co):F8 c = .tuple [DR c.1,EB c.2]:=rfl
theorem vD(cs:List Co)(c:Co)(h:j<cs.length):(cs.take j).map F8++[F8 c]++(cs.drop (j+1)).map F8=(cs.set j c).map F8:=by
 rw[sL cs c h,IS,IW,Kt]
 rfl
noncomputable def bN:List W->(Hy->Prop)->Prop:=fun ws Q=>∃(s:Int)(f:Fin 3),ws=[.d (.int s),.d (.str (DS f))]/\((1<=s)/\(s<=4))/\Q (FZ (FW f s.toNat))
theorem bN.mono:∀ws (Q Q':Hy->Prop),(∀d,Q d->Q' d)->bN ws Q->bN ws Q':=fun _ _ _ h_=>HD fun _=>HD fun _=>HA (HA (h_ _))
theorem bN.len:∀ws (Q:Hy->Prop),bN ws Q->ws.length=2:=fun _ _ h_=>by obtain⟨_,_,e_,_⟩:=h_;subst e_;rfl
theorem bN.eq(s:Int)(f:Fin 3)(s1:1<=s)(s4:s<=4):bN [.d (.int s),.d (.str (DS f))]=VL.ret (FZ (FW f s.toNat):Hy):=by
 refine ak fun Q=>⟨?_,fun q_=>⟨s,f,rfl,⟨s1,s4⟩,q_⟩⟩
 rintro⟨s',f',e_,_,q_⟩
 simp_arith only[cX,bw,bx,aO,aN,bE,cN,eR,fy,fH,gQ,cY,dw,dt,du,db,Ir]at e_
 obtain⟨rfl,rfl⟩:=e_
 exact q_
theorem i5:FnScope ["_law_s", "_law_family", "_law_word_here", "_law_ranges"] ["_law_s", "_law_family"] (defScope (Ed 62)):=⟨rfl,rfl,rfl,by decide +kernel,rfl,by decide +kernel,by decide +kernel⟩
theorem d__law_first(Fn:FnIn K mg "_law_first" (Ed 62) ["_law_s", "_law_family"])(Z:Bz mg)    : Dfn P w K mg base rl "_law_first" ["_law_s", "_law_family"] 1 bN:=by
 have sc:=i5
 refine Dfn.of Fn sc (bN.mono) (bN.len) (fun cdv A outer s H E hr=>(af (ax 2 sc.nd (m9 (hr.mono (Ip _)) (by decide +kernel) aF aF dC (vn 1)))
  (af (ax 3 sc.nd (m8 (cH (aa (aP (aa (aP (aa (gW ac) (aa ac ab))) (aa (aP (aa ac (aa ac ab))) ab))) ab)) (v_add ac (eF Z.int_ (aa (cW mG h7 (aw _) (vn 1) aF) ab)))))
  (aj (ar (m8 (cH (aa (aP (aa (vn 2) (aa (vn 3) ab))) ab)) (vn 0))))))) ?_
 rintro ws Q ⟨s,f,rfl,⟨s1,s4⟩,hQ⟩
 have hf0:decide (Hw "corner" = Hw "corner")=true:=by decide +kernel
 have hf1:decide (Hw "inner" = Hw "corner")=false:=by decide +kernel
 have hf2:decide (Hw "round" = Hw "corner")=false:=by decide +kernel
 have hf3:decide (Hw "corner" = Hw "round")=false:=by decide +kernel
 have hf4:decide (Hw "inner" = Hw "round")=false:=by decide +kernel
 have hf5:decide (Hw "round" = Hw "round")=true:=by decide +kernel
 have he0:HC (.str "cut") (.str "cut")=true:=by decide +kernel
 have he1:HC (.str "cut") (.str "ways")=false:=by decide +kernel
 have he2:HC (.str "ways") (.str "cut")=false:=by decide +kernel
 have he3:HC (.str "ways") (.str "ways")=true:=by decide +kernel
 have hg0:decide (Hw "cut" = Hw "cut")=true:=by decide +kernel
 have hg1:decide (Hw "cut" = Hw "ways")=false:=by decide +kernel
 have hg2:decide (Hw "ways" = Hw "cut")=false:=by decide +kernel
 have hg3:decide (Hw "ways" = Hw "ways")=true:=by decide +kernel
 have sc1:HI (.str "cut")=true:=by decide +kernel
 have sc2:HI (.str "ways")=true:=by decide +kernel
 have eqi:∀i j:Int,HC (.int i) (.int j)=(i==j):=fun i j=>by simp[HC]
 have w0:DS 0=Hw "corner" := rfl
 have w1:DS 1=Hw "inner" := rfl
 have w2:DS 2=Hw "round" := rfl
 refine aB ?_
 have sz:=HV
 obtain rfl|rfl|rfl|rfl:s=1\/s=2\/s=3\/s=4:=by omega
 all_goals
  obtain rfl|rfl|rfl:=f3 f
  · simp_arith only[ag,ae,w0,hf0,hf1,hf2,hf3,hf4,hf5,he0,he1,he2,he3,hg0,hg1,hg2,hg3,sc1,sc2,eqi,eu,Fw]
    first|exact av hQ|exact eQ hQ
  · simp_arith only[ag,ae,w1,hf0,hf1,hf2,hf3,hf4,hf5,he0,he1,he2,he3,hg0,hg1,hg2,hg3,sc1,sc2,eqi,eu,Fv]
    first|exact av hQ|exact eQ hQ
  · simp_arith only[ag,ae,w2,hf0,hf1,hf2,hf3,hf4,hf5,he0,he1,he2,he3,hg0,hg1,hg2,hg3,sc1,sc2,eqi,eu,Fu]
    first|exact av hQ|exact eQ hQ
noncomputable def aM:List W->(Hy->Prop)->Prop:=fun ws Q=>∃(cs:List Co)(h:Hd)(r:List Hy),ws=[.d (FZ cs),.d (E9 h r)]/\((cs.length<=4)/\(∀c∈cs,c.2.length<=2)/\(Hm cs h))/\Q (.list [FZ (Gm cs h),FZ (Gk cs h)])
theorem aM.mono:∀ws (Q Q':Hy->Prop),(∀d,Q d->Q' d)->aM ws Q->aM ws Q':=fun _ _ _ h_=>HD fun _=>HD fun _=>HD fun _=>HA (HA (h_ _))
theorem aM.len:∀ws (Q:Hy->Prop),aM ws Q->ws.length=2:=fun _ _ h_=>by obtain⟨_,_,_,e_,_⟩:=h_;subst e_;rfl
theorem aM.eq(cs:List Co)(h:Hd)(r:List Hy)(h4:cs.length<=4)(h2:∀c∈cs,c.2.length<=2)(hf:Hm cs h):aM [.d (FZ cs),.d (E9 h r)]=VL.ret (.list [FZ (Gm cs h),FZ (Gk cs h)]:Hy):=by
 refine ak fun Q=>⟨?_,fun q_=>⟨cs,h,r,rfl,⟨h4,h2,hf⟩,q_⟩⟩
 rintro⟨cs',h',r',e_,_,q_⟩
 simp_arith only[cX,bw,bx,aO,aN,bE,cN,eR,fy,fH,gQ,cY,dw,dt,du,db,Ir]at e_
 obtain⟨rfl,rfl,rfl⟩:=e_
 exact q_
theorem hC:FnScope ["_law_cell", "_law_node", "_law_word_here", "_law_ranges", "_law_found", "_law_k", "_law_told", "_law_low", "_law_high", "_law_one"] ["_law_cell", "_law_node"] (defScope (Ed 63)):=⟨rfl,rfl,rfl,by decide +kernel,rfl,by decide +kernel,by decide +kernel⟩
theorem d__law_behind(Fn:FnIn K mg "_law_behind" (Ed 63) ["_law_cell", "_law_node"])(Z:Bz mg)    : Dfn P w K mg base rl "_law_behind" ["_law_cell", "_law_node"] 1 aM:=by
 have sc:=hC
 refine Dfn.of Fn sc (aM.mono) (aM.len) (fun cdv A outer s H E hr=>(af (cq (aL (vn 0) (aL (vn 1) ac)) (bH (n:=2) rfl (aq (am 2 sc.nd) (aq (am 3 sc.nd) aV))))
  (af (sv 4 sc.nd (cH ab))
  (af (dG [5,6,7,8,9] I_ rfl (de Z.range_ (aa ac ab)) (am 5 sc.nd) (af (ax 6 sc.nd (aP (aa (aL (cH (aa aF (aa aF ab))) (vn 5)) (aa (vn 3) ab))))
  (af (aU (az (bM hr.units) aZ (aw _) (aL (vn 1) ac) aF) (af (cq (aL (vn 3) (aL (vn 1) ac)) (bH (n:=2) rfl (aq (am 7 sc.nd) (aq (am 8 sc.nd) aV))))
  (af (ax 9 sc.nd (aL (cH (aa (aP (aa (vn 7) (aa (aL (vn 1) ac) ab))) (aa (aP (aa (aL (vn 1) ac) (aa (vn 8) ab))) ab))) (vn 5)))
  (aj (ax 6 sc.nd (aP (aa (vn 2) (aa (h9 (h9 (qw (vn 3) cR (cu (aL (vn 1) ac))) (cH (aa (vn 9) ab))) (qw (vn 3) (cu (v_add (aL (vn 1) ac) ac)) cR)) ab))))))) aH)
  (aj (sA 4 (aa (h9 (h9 (qw (vn 0) cR (cu (aL (vn 1) ac))) (cH (aa (vn 6) ab))) (qw (vn 0) (cu (v_add (aL (vn 1) ac) ac)) cR)) ab))))))
  (aj (v6 4 (ar (vn 4)))))))) ?_
 rintro ws Q ⟨cs,h,r,rfl,⟨h4,h2,hf⟩,hQ⟩
 have hf0:decide (Hw "corner" = Hw "corner")=true:=by decide +kernel
 have hf1:decide (Hw "inner" = Hw "corner")=false:=by decide +kernel
 have hf2:decide (Hw "round" = Hw "corner")=false:=by decide +kernel
 have hf3:decide (Hw "corner" = Hw "round")=false:=by decide +kernel
 have hf4:decide (Hw "inner" = Hw "round")=false:=by decide +kernel
 have hf5:decide (Hw "round" = Hw "round")=true:=by decide +kernel
 have he0:HC (.str "cut") (.str "cut")=true:=by decide +kernel
 have he1:HC (.str "cut") (.str "ways")=false:=by decide +kernel
 have he2:HC (.str "ways") (.str "cut")=false:=by decide +kernel
 have he3:HC (.str "ways") (.str "ways")=true:=by decide +kernel
 have hg0:decide (Hw "cut" = Hw "cut")=true:=by decide +kernel
 have hg1:decide (Hw "cut" = Hw "ways")=false:=by decide +kernel
 have hg2:decide (Hw "ways" = Hw "cut")=false:=by decide +kernel
 have hg3:decide (Hw "ways" = Hw "ways")=true:=by decide +kernel
 have sc1:HI (.str "cut")=true:=by decide +kernel
 have sc2:HI (.str "ways")=true:=by decide +kernel
 have eqi:∀i j:Int,HC (.int i) (.int j)=(i==j):=fun i j=>by simp[HC]
 refine aB ?_
 have sz:=HV
 have fin:∀j,j<cs.length->(cs.take j).length+1<=sizeLine/\(cs.take j).length+1+(cs.drop (j+1)).length<=sizeLine:=fun j hj=>by
  have:=yP (c:=nC) hj
  rw[IJ]at *
  omega
 cases h with
 | ways j =>
   obtain⟨hj,hw⟩:=hf
   obtain⟨g1,g2⟩:=fin j hj
   have e1:atI cs (j:Int)=some (Gg cs j):=bG (fA hj)
   have f1:=vT cs F8 j
   have f2:=dR cs F8 (k:=(j:Int)+1) (by omega)
   have f3:((j:Int)+1).toNat=j+1:=by omega
   have x1:=vD cs (some 1,(Gg cs j).2) hj
   have x2:=vD cs (some 2,(Gg cs j).2) hj
   simp_arith only[ag,ae,Hv,hf0,hf1,hf2,hf3,hf4,hf5,he0,he1,he2,he3,hg0,hg1,hg2,hg3,sc1,sc2,eqi,Cn,FO,FZ,e1,ka,bF]
   refine jd (fun i ρ=>ρ=[some (.d (.list (cs.map F8))),some (.d (.tuple (.str "ways" :: .int j::r))),some (.d (DR (Gg cs j).1)),some (.d (EB (Gg cs j).2)),some (.ml ([FZ (fW cs j 1),FZ (fW cs j 2)].take i)),none,none,none,none,none]) rfl ?_ ?_
   · rintro i hi ρ rfl K hK
     have hi:i<2:=hi
     match i,hi with
     | 0,_ =>
       have im:(0:Int)+((0:Nat):Int)=0:=rfl
       have tk:Nd 0 [FZ (fW cs j 1),FZ (fW cs j 2)]=[]:=rfl
       simp_arith only[ag,ae,Hv,hf0,hf1,hf2,hf3,hf4,hf5,he0,he1,he2,he3,hg0,hg1,hg2,hg3,sc1,sc2,eqi,im,tk,f1,f2,f3,Ij]
       refine hK _ (dF ?_)
       have y:(cs.take j).map F8++[Jc [.str "from", EB (Gg cs j).2]]++(cs.drop (j+1)).map F8=(fW cs j 1).map F8:=x1
       rw[y]
       rfl
     | 1,_ =>
       have im:(0:Int)+((1:Nat):Int)=1:=rfl
       have tk:Nd 1 [FZ (fW cs j 1),FZ (fW cs j 2)]=[FZ (fW cs j 1)]:=rfl
       simp_arith only[ag,ae,Hv,hf0,hf1,hf2,hf3,hf4,hf5,he0,he1,he2,he3,hg0,hg1,hg2,hg3,sc1,sc2,eqi,im,tk,f1,f2,f3,Ij]
       refine hK _ (dF ?_)
       have y:(cs.take j).map F8++[Jc [.str "round", EB (Gg cs j).2]]++(cs.drop (j+1)).map F8=(fW cs j 2).map F8:=x2
       rw[y]
       rfl
   · rintro ρ rfl
     simp_arith only[ag,ae]
     first|exact av hQ|exact eQ hQ
 | cut j w x =>
   obtain⟨hj,hw,_⟩:=hf
   obtain⟨g1,g2⟩:=fin j hj
   have l2:=h2 _ (dn hj)
   have e1:atI cs (j:Int)=some (Gg cs j):=bG (fA hj)
   have e2:atI (Gg cs j).2 (w:Int)=some (EL cs j w):=bG (mD hw)
   have f1:=vT cs F8 j
   have f2:=dR cs F8 (k:=(j:Int)+1) (by omega)
   have f3:((j:Int)+1).toNat=j+1:=by omega
   have k1:=vT (Gg cs j).2 EG w
   have k2:=dR (Gg cs j).2 EG (k:=(w:Int)+1) (by omega)
   have k3:((w:Int)+1).toNat=w+1:=by omega
   have k4:((Gg cs j).2.take w).length+1<=sizeLine:=by rw[IJ];omega
   have k5:((Gg cs j).2.take w).length+1+((Gg cs j).2.drop (w+1)).length<=sizeLine:=by have:=yP (c:=((0,0):Rg)) hw;omega
   have z:∀rg:Rg,(cs.take j).map F8++[Jc [DR (Gg cs j).1,.list (((Gg cs j).2.take w).map EG++[EG rg]++((Gg cs j).2.drop (w+1)).map EG)]]++(cs.drop (j+1)).map F8=(c0 cs j w rg).map F8:=fun rg=>by
    rw[lV _ rg hw]
    exact vD cs ((Gg cs j).1,(Gg cs j).2.set w rg) hj
   simp_arith only[ag,ae,Hv,hf0,hf1,hf2,hf3,hf4,hf5,he0,he1,he2,he3,hg0,hg1,hg2,hg3,sc1,sc2,eqi,Cn,FO,FZ,e1,ka,bF]
   refine jd (fun i ρ=>ρ=[some (.d (.list (cs.map F8))),some (.d (.tuple (.str "cut" :: .int j :: .int w::fr x::r))),some (.d (DR (Gg cs j).1)),some (.d (EB (Gg cs j).2)),some (.ml ([FZ (c0 cs j w ((EL cs j w).1,x)),FZ (c0 cs j w (x,(EL cs j w).2))].take i)),none,none,none,none,none]) rfl ?_ ?_
   · rintro i hi ρ rfl K hK
     have hi:i<2:=hi
     match i,hi with
     | 0,_ =>
       have im:(0:Int)+((0:Nat):Int)=0:=rfl
       have tk:Nd 0 [FZ (c0 cs j w ((EL cs j w).1,x)),FZ (c0 cs j w (x,(EL cs j w).2))]=[]:=rfl
       simp_arith only[ag,ae,Hv,hf0,hf1,hf2,hf3,hf4,hf5,he0,he1,he2,he3,hg0,hg1,hg2,hg3,sc1,sc2,eqi,im,tk,EB,e2,qK,Gp,Go,bF,f1,f2,f3,k1,k2,k3,Ij]
       refine hK _ (dF ?_)
       have y:=z ((EL cs j w).1,x)
       rw[qK]at y
       rw[y]
       rfl
     | 1,_ =>
       have im:(0:Int)+((1:Nat):Int)=1:=rfl
       have tk:Nd 1 [FZ (c0 cs j w ((EL cs j w).1,x)),FZ (c0 cs j w (x,(EL cs j w).2))]=[FZ (c0 cs j w ((EL cs j w).1,x))]:=rfl
       simp_arith only[ag,ae,Hv,hf0,hf1,hf2,hf3,hf4,hf5,he0,he1,he2,he3,hg0,hg1,hg2,hg3,sc1,sc2,eqi,im,tk,EB,e2,qK,Gp,Go,bF,f1,f2,f3,k1,k2,k3,Ij]
       refine hK _ (dF ?_)
       have y:=z (x,(EL cs j w).2)
       rw[qK]at y
       rw[y]
       rfl
   · rintro ρ rfl
     simp_arith only[ag,ae]
     first|exact av hQ|exact eQ hQ
theorem tm(q:Rat):((q.den:Int):Rat)≠0:=fun e=>by
 have z:(q.den:Int)=0:=by exact_mod_cast e
 have:=q.den_pos
 omega
theorem xn(a n:Int)(q:Rat)(hn:0<n):qd (a*(q.den:Int)-n*q.num) (n*(q.den:Int))=qd a n-q:=by
 have n1:(n:Rat)≠0:=fun e=>by
  have z:n=0:=by exact_mod_cast e
  omega
 have n2:=tm q
 have ra:(q.num:Rat)=q*((q.den:Int):Rat):=by have:=i9 q;unfold qd at this;grind
 unfold qd
 simp only[Rat.intCast_sub,Rat.intCast_mul]
 rw[ra]
 generalize ((q.den:Int):Rat)=u at n2 ⊢
 generalize (n:Rat)=v at n1 ⊢
 generalize (a:Rat)=r
 clear ra
 grind
theorem uq(a n:Int)(q:Rat)(hn:0<n):qd (n*q.num-a*(q.den:Int)) (n*(q.den:Int))=q-qd a n:=by
 have n1:(n:Rat)≠0:=fun e=>by
  have z:n=0:=by exact_mod_cast e
  omega
 have n2:=tm q
 have ra:(q.num:Rat)=q*((q.den:Int):Rat):=by have:=i9 q;unfold qd at this;grind
 unfold qd
 simp only[Rat.intCast_sub,Rat.intCast_mul]
 rw[ra]
 generalize ((q.den:Int):Rat)=u at n2 ⊢
 generalize (n:Rat)=v at n1 ⊢
 generalize (a:Rat)=r
 clear ra
 grind
noncomputable def bq:List W->(Hy->Prop)->Prop:=fun ws Q=>∃(ps:List (List Rat))(cs:List Co),ws=[.d (ptsQ ps),.d (FZ cs)]/\((FR ps cs.length)/\(∃f,Hn f cs)/\(aW cs))/\Q (.tuple [fr (EV ps cs),fr (Ft ps cs)])
theorem bq.mono:∀ws (Q Q':Hy->Prop),(∀d,Q d->Q' d)->bq ws Q->bq ws Q':=fun _ _ _ h_=>HD fun _=>HD fun _=>HA (HA (h_ _))
theorem bq.len:∀ws (Q:Hy->Prop),bq ws Q->ws.length=2:=fun _ _ h_=>by obtain⟨_,_,e_,_⟩:=h_;subst e_;rfl
theorem bq.eq(ps:List (List Rat))(cs:List Co)(hp:FR ps cs.length)(hc:∃f,Hn f cs)(ha:aW cs):bq [.d (ptsQ ps),.d (FZ cs)]=VL.ret (.tuple [fr (EV ps cs),fr (Ft ps cs)]:Hy):=by
 refine ak fun Q=>⟨?_,fun q_=>⟨ps,cs,rfl,⟨hp,hc,ha⟩,q_⟩⟩
 rintro⟨ps',cs',e_,_,q_⟩
 simp_arith only[cX,bw,bx,aO,aN,bE,cN,eR,fy,fH,gQ,cY,dw,dt,du,db,Ir]at e_
 obtain⟨rfl,rfl⟩:=e_
 exact q_
theorem i4:FnScope ["_law_pts", "_law_cell", "_law_sure", "_law_near", "_law_least", "_law_most", "_law_over_it"] ["_law_pts", "_law_cell"] (defScope (Ed 64)):=⟨rfl,rfl,rfl,by decide +kernel,rfl,by decide +kernel,by decide +kernel⟩
theorem d__law_needs(Fn:FnIn K mg "_law_needs" (Ed 64) ["_law_pts", "_law_cell"])(Z:Bz mg)(d__law_cell_told:∀rl,Dfn P w K mg base rl "_law_cell_told" ["_law_pts", "_law_cell"] 3 bj)(d__law_frac:∀rl,Dfn P w K mg base rl "_law_frac" ["_law_top", "_law_bottom"] 1 bi)   : Dfn P w K mg base rl "_law_needs" ["_law_pts", "_law_cell"] 4 bq:=by
 have sc:=i4
 refine Dfn.of Fn sc (bq.mono) (bq.len) (fun cdv A outer s H E hr=>(af (cq (ai (d__law_cell_told _) (hr.mono (by decide)) (aa (vn 0) (aa (vn 1) ab))) (bH (n:=4) rfl (aq (am 2 sc.nd) (aq (am 3 sc.nd) (aq (am 4 sc.nd) (aq (am 5 sc.nd) aV))))))
  (af (ax 6 sc.nd (ai (d__law_frac _) (hr.mono (by decide)) (aa (v_sub (v_mul (v_add (vn 2) (vn 3)) (aL (vn 4) ac)) (v_mul (cv Z.len_ (aa (vn 0) ab)) (aL (vn 4) ac))) (aa (v_mul (cv Z.len_ (aa (vn 0) ab)) (aL (vn 4) ac)) ab))))
  (aj (ar (aP (aa (vn 6) (aa (ai (d__law_frac _) (hr.mono (by decide)) (aa (v_sub (v_mul (cv Z.len_ (aa (vn 0) ab)) (aL (vn 5) ac)) (v_mul (vn 2) (aL (vn 5) ac))) (aa (v_mul (cv Z.len_ (aa (vn 0) ab)) (aL (vn 5) ac)) ab))) ab)))))))) ?_
 rintro ws Q ⟨ps,cs,rfl,⟨hp,hc,ha⟩,hQ⟩
 refine aB ?_
 obtain⟨f,hc⟩:=hc
 have uk:=qB hc ha
 have ip:qi (D7 cs).length ps:=by rw[sI];exact yg hp
 have eL:=yt ha
 have s1:=(ig hc ha).1.mono (show 1617<=2000 by decide)
 have s2:=(ig hc ha).2.mono (show 1617<=2000 by decide)
 have n1:=AG hp ((D7 cs).map FK) "open"
 have n2:=AG hp ((D7 cs).map Fo) "shut"
 have p8:=hp.2.1
 have p1:0<(ps.length:Int):=by have:=hp.1;omega
 unfold EV Ft at hQ
 rw[eL]
 have ct:∀a b:Int,a+(b-a)=b:=by omega
 simp_arith only[ae,Hv,bj.eq,toldD,ct]
 generalize cntN ps ((D7 cs).map FK) "open" = co at n1 hQ ⊢
 generalize cntN ps ((D7 cs).map Fo) "shut" = cl at n2 hQ ⊢
 generalize cf ((D7 cs).map Fo)=zl at s1 hQ ⊢
 generalize cf ((D7 cs).map FK)=zh at s2 hQ ⊢
 have m1:∀z:Int,bV (co:Int) z:=fun z=>.lt (by omega)
 have m2:∀z:Int,bV (cl:Int) z:=fun z=>.lt (by omega)
 have m3:∀z:Int,bV (ps.length:Int) z:=fun z=>.lt (by omega)
 have hb:∀q:Rat,0<(ps.length:Int)*(q.den:Int):=fun q=>Int.mul_pos p1 (by have:=q.den_pos;omega)
 have hz:∀q:Rat,EN 2000 q->((ps.length:Int)*(q.den:Int)).natAbs<2^8000:=fun q h=>by
  rw[J4,Iq,Iq]
  exact HJ (ci (show ps.length<2^8 by omega) h.2) (HP (by decide) (by decide))
 have f1:=bi.eq ((co:Int)*(zl.den:Int)-(ps.length:Int)*zl.num) ((ps.length:Int)*(zl.den:Int)) (hb zl) (hz zl s1)
 have f2:=bi.eq ((ps.length:Int)*zh.num-(cl:Int)*(zh.den:Int)) ((ps.length:Int)*(zh.den:Int)) (hb zh) (hz zh s2)
 rw[xn _ _ _ p1]at f1
 rw[uq _ _ _ p1]at f2
 refine cL (m1 _) (cL (m3 _) (cL (m3 _) ?_))
 simp_arith only[ae,Hv,f1]
 refine cL (m3 _) (cL (m2 _) (cL (m3 _) ?_))
 simp_arith only[ae,Hv,f2]
 exact av hQ
noncomputable def bK:List W->(Hy->Prop)->Prop:=fun ws Q=>∃(q:Rat),ws=[.d (fr q)]/\((EN 2000 q))/\Q (.bool true)
theorem bK.mono:∀ws (Q Q':Hy->Prop),(∀d,Q d->Q' d)->bK ws Q->bK ws Q':=fun _ _ _ h_=>HD fun _=>HA (HA (h_ _))
theorem bK.len:∀ws (Q:Hy->Prop),bK ws Q->ws.length=1:=fun _ _ h_=>by obtain⟨_,e_,_⟩:=h_;subst e_;rfl
theorem bK.eq(q:Rat)(h:EN 2000 q):bK [.d (fr q)]=VL.ret (.bool true:Hy):=by
 refine ak fun Q=>⟨?_,fun q_=>⟨q,rfl,h,q_⟩⟩
 rintro⟨q',e_,_,q_⟩
 simp_arith only[cX,bw,bx,aO,aN,bE,cN,eR,fy,fH,gQ,cY,dw,dt,du,db,Ir]at e_
 obtain rfl:=e_
 exact q_
theorem gr:FnScope ["_law_thing"] ["_law_thing"] (defScope (Ed 68)):=⟨rfl,rfl,rfl,by decide +kernel,rfl,by decide +kernel,by decide +kernel⟩
theorem d__law_is_frac(Fn:FnIn K mg "_law_is_frac" (Ed 68) ["_law_thing"])(Z:Bz mg)(d__law_frac:∀rl,Dfn P w K mg base rl "_law_frac" ["_law_top", "_law_bottom"] 1 bi)   : Dfn P w K mg base rl "_law_is_frac" ["_law_thing"] 2 bK:=by
 have sc:=gr
 refine Dfn.of Fn sc (bK.mono) (bK.len) (fun cdv A outer s H E hr=>(af (aU (G0.pb (fT (dB (bZ (gk Z.isinstance_ (aa (vn 0) (aa (gv Z.tuple_ (by rfl)) ab))))) (fT (az (eN hr.units) aZ (aw _) (cv Z.len_ (aa (vn 0) ab)) ac) (eV (az (oF hr.u65) lz (by with_unfolding_all rfl) eC (cI ["_law_one"] [none] rfl (dA (vn 0)) (fun _=>(am 0 (show IT (["_law_one"]:List Str) by decide +kernel))) (fun _=>dr) (fun _=>(gk Z.isinstance_ (aa (vn 0) (aa (gv Z.bool_ (by rfl)) ab)))))))))) (aj (ar eC)) aH)
  (af (aU (G0.pb (fT (az (oF hr.u65) lz (by with_unfolding_all rfl) eC (cI ["_law_one"] [none] rfl (dA (vn 0)) (fun _=>(am 0 (show IT (["_law_one"]:List Str) by decide +kernel))) (fun _=>dr) (fun _=>(gk Z.isinstance_ (aa (vn 0) (aa (gv Z.int_ (by rfl)) ab)))))) (eV (az dE dY (aw _) (aL (vn 0) ac) ac)))) (aj (ar eC)) aH)
  (aj (ar (cW (bM hr.units) aZ (aw _) (ai (d__law_frac _) (hr.mono (by decide)) (aa (aL (vn 0) ac) (aa (aL (vn 0) ac) ab))) (vn 0))))))) ?_
 rintro ws Q ⟨q,rfl,h,hQ⟩
 refine aB ?_
 have sz:=HV
 have it:∀xs:List Hy,qj (.tuple xs) "tuple" = true:=fun _=>rfl
 have i1:∀i:Int,qj (.int i) "bool" = false:=fun _=>rfl
 have i2:∀i:Int,qj (.int i) "int" = true:=fun _=>rfl
 have e2:decide ((q.den:Int)<1)=false:=by have:=q.den_pos;simp;omega
 have hb:0<(q.den:Int):=by have:=q.den_pos;omega
 have hz:((q.den:Int)).natAbs<2^8000:=by rw[Iq];exact HJ h.2 (HP (by decide) (by decide))
 have lf:=bi.eq q.num (q.den:Int) hb hz
 rw[i9]at lf
 have sf:HI (fr q)=true:=by simp[HI,fr,IG,Ih,JB,IE]
 have sf2:HI (.tuple [.int q.num,.int (q.den:Int)])=true:=sf
 have ev:HC (fr q) (.tuple [.int q.num,.int (q.den:Int)])=true:=(yp q q).trans (decide_eq_true rfl)
 simp_arith only[ag,ae,FX,it]
 refine Eu (cM (xs:=[q.num,(q.den:Int)]) (enc:=Io) (fun _=>.bool false) rfl ?_ (by simp;omega) ?_)
 · intro i mi
   simp_arith only[ag,ae,FB,i1]
 have a1:([q.num,(q.den:Int)].map fun _=>Kg false)=[.bool false,.bool false]:=rfl
 have a2:([q.num,(q.den:Int)].map fun _=>Kg true)=[.bool true,.bool true]:=rfl
 have c1:Ih [.bool false,.bool false]=true:=rfl
 have c2:Ih [.bool true,.bool true]=true:=rfl
 have y1:([Kg false,.bool false].any fun z=>HC z (.bool true))=false:=rfl
 have y2:([Kg true,.bool true].any fun z=>HC z (.bool false))=false:=rfl
 simp_arith only[ag,ae,a1,c1,y1]
 refine Eu (cM (xs:=[q.num,(q.den:Int)]) (enc:=Io) (fun _=>.bool true) rfl ?_ (by simp;omega) ?_)
 · intro i mi
   simp_arith only[ag,ae,FB,i2]
 simp_arith only[ag,ae,a2,c2,y2,e2,lf,sf,sf2,ev]
 exact av hQ
noncomputable def ce:List W->(Hy->Prop)->Prop:=fun ws Q=>∃(i m:Int),ws=[.d (.int i),.d (.int m)]/\(True)/\Q (.bool (decide (0<=i)&&decide (i<m)))
theorem ce.mono:∀ws (Q Q':Hy->Prop),(∀d,Q d->Q' d)->ce ws Q->ce ws Q':=fun _ _ _ h_=>HD fun _=>HD fun _=>HA (HA (h_ _))
theorem ce.len:∀ws (Q:Hy->Prop),ce ws Q->ws.length=2:=fun _ _ h_=>by obtain⟨_,_,e_,_⟩:=h_;subst e_;rfl
theorem ce.eq(i m:Int)  : ce [.d (.int i),.d (.int m)]=VL.ret (.bool (decide (0<=i)&&decide (i<m)):Hy):=by
 refine ak fun Q=>⟨?_,fun q_=>⟨i,m,rfl,trivial,q_⟩⟩
 rintro⟨i',m',e_,_,q_⟩
 simp_arith only[cX,bw,bx,aO,aN,bE,cN,eR,fy,fH,gQ,cY,dw,dt,du,db,Ir]at e_
 obtain⟨rfl,rfl⟩:=e_
 exact q_
theorem i7:FnScope ["_law_thing", "_law_many"] ["_law_thing", "_law_many"] (defScope (Ed 69)):=⟨rfl,rfl,rfl,by decide +kernel,rfl,by decide +kernel,by decide +kernel⟩
theorem d__law_below(Fn:FnIn K mg "_law_below" (Ed 69) ["_law_thing", "_law_many"])(Z:Bz mg)    : Dfn P w K mg base rl "_law_below" ["_law_thing", "_law_many"] 1 ce:=by
 have sc:=i7
 refine Dfn.of Fn sc (ce.mono) (ce.len) (fun cdv A outer s H E hr=>(aj (ar (v_and (gk Z.isinstance_ (aa (vn 0) (aa (gv Z.int_ (by rfl)) ab))) (v_and (v_not (gk Z.isinstance_ (aa (vn 0) (aa (gv Z.bool_ (by rfl)) ab)))) (iQ (m_ oE dE ac (vn 0) (vn 1)))))))) ?_
 rintro ws Q ⟨i,m,rfl,_,hQ⟩
 refine aB ?_
 simp_arith only[ag,ae]
 exact av hQ
noncomputable def bg(m:Nat):List W->(Hy->Prop)->Prop:=fun ws Q=>∃(ps:List (List Rat))(cs:List Co)(t:Tr),ws=[.d (ptsQ ps),.d (FZ cs),.d (Ec t)]/\(ht t<m/\FR ps cs.length/\(∃f,Hn f cs)/\Wf cs t/\ht t<=50)/\Q (fr (ck ps cs t))
theorem bg.mono(m:Nat):∀ws (Q Q':Hy->Prop),(∀d,Q d->Q' d)->bg m ws Q->bg m ws Q':=fun _ _ _ h_=>HD fun _=>HD fun _=>HD fun _=>HA (HA (h_ _))
theorem bg.len(m:Nat):∀ws (Q:Hy->Prop),bg m ws Q->ws.length=3:=fun _ _ h_=>by obtain⟨_,_,_,e_,_⟩:=h_;subst e_;rfl
theorem bg.eq(m:Nat)(ps:List (List Rat))(cs:List Co)(t:Tr)(h:ht t<m)(hp:FR ps cs.length)(hc:∃f,Hn f cs)(hw:Wf cs t)(h50:ht t<=50):bg m [.d (ptsQ ps),.d (FZ cs),.d (Ec t)]=VL.ret (fr (ck ps cs t)):=by
 refine ak fun Q=>⟨?_,fun q_=>⟨ps,cs,t,rfl,⟨h,hp,hc,hw,h50⟩,q_⟩⟩
 rintro⟨ps',cs',t',e_,_,q_⟩
 simp only[Il,W.d.injEq,aN,fH,cY,and_true]at e_
 obtain⟨rfl,rfl,rfl⟩:=e_
 exact q_
theorem wG{cs:List Co}{t:Tr}(h:Wf cs t):t = .leaf\/∃hd p q,Ec t=E9 hd [Ec p,Ec q]/\Hm cs hd/\ht p<ht t/\ht q<ht t/\Wf (Gm cs hd) p/\Wf (Gk cs hd) q/\∀ps,ck ps cs t=mx (ck ps (Gm cs hd) p) (ck ps (Gk cs hd) q):=by
 cases t with
 | leaf=>exact .inl rfl
 | cut j w x p q =>
   obtain⟨ft,w1,w2⟩:=h
   have e:ht (.cut j w x p q)=max (ht p) (ht q)+1:=rfl
   exact .inr ⟨_,p,q,rfl,ft,by omega,by omega,w1,w2,fun _=>rfl⟩
 | ways j p q =>
   obtain⟨ft,w1,w2⟩:=h
   have e:ht (.ways j p q)=max (ht p) (ht q)+1:=rfl
   exact .inr ⟨_,p,q,rfl,ft,by omega,by omega,w1,w2,fun _=>rfl⟩
theorem oJ{r:Rat}:atI [fr q,fr r] (if decide (q<r)=true then 1 else 0)=some (fr (mx q r)):=by
 unfold mx
 by_cases h:q<r
 · rw[if_pos (decide_eq_true h),if_pos h];rfl
 · rw[if_neg (by simpa using h),if_neg h];rfl
theorem jI:FnScope ["_law_pts", "_law_cell", "_law_node", "_law_both"] ["_law_pts", "_law_cell", "_law_node"] (defScope (Ed 65)):=⟨rfl,rfl,rfl,by decide +kernel,rfl,by decide +kernel,by decide +kernel⟩
theorem jj(n:Nat)(Fn:FnIn K mg "_law_need" (Ed 65) ["_law_pts", "_law_cell", "_law_node"])(Z:Bz mg)(d__law_needs:∀rl,Dfn P w K mg base rl "_law_needs" ["_law_pts", "_law_cell"] 4 bq)(d__law_behind:∀rl,Dfn P w K mg base rl "_law_behind" ["_law_cell", "_law_node"] 1 aM)(d__law_cmp:∀rl,Dfn P w K mg base rl "_law_cmp" ["_law_one", "_law_other"] 1 bc)(d__law_need:∀rl,Dfn P w K mg base rl "_law_need" ["_law_pts", "_law_cell", "_law_node"] (4+n) (bg n)):Dfn P w K mg base rl "_law_need" ["_law_pts", "_law_cell", "_law_node"] (4+n+1) (bg (n+1)):=by
 have sc:=jI
 refine Dfn.of Fn sc (bg.mono _) (bg.len _) (fun cdv A outer s H E hr=>(af (aU (az (bM hr.units) aZ (aw _) (vn 2) (aP ab)) (af (ax 3 sc.nd (ai (d__law_needs _) (hr.mono (by omega)) (aa (vn 0) (aa (vn 1) ab))))
  (aj (ar (aL (vn 3) (eF Z.int_ (aa (cW dE dY (aw _) (ai (d__law_cmp _) (hr.mono (by omega)) (aa (aL (vn 3) ac) (aa (aL (vn 3) ac) ab))) ac) ab)))))) aH)
  (af (cQ 3 sc.nd ["_law_inner", "_law_piece", "_law_pts"] [none,none,some 0] rfl (qu Z.zip_ (aa (ai (d__law_behind _) (hr.mono (by omega)) (aa (vn 1) (aa (vn 2) ab))) (aa (iP (vn 2) (cu (gW ac)) cR) ab))) (fun _=>(bH (n:=2) rfl (aq (am 0 (show IT (["_law_inner", "_law_piece", "_law_pts"]:List Str) by decide +kernel)) (aq (am 1 (show IT (["_law_inner", "_law_piece", "_law_pts"]:List Str) by decide +kernel)) aV)))) (fun _=>dr) (fun _=>(ai (d__law_need _) (hr.mono (by omega)) (aa (vn 2) (aa (vn 0) (aa (vn 1) ab))))))
  (aj (ar (aL (vn 3) (eF Z.int_ (aa (cW dE dY (aw _) (ai (d__law_cmp _) (hr.mono (by omega)) (aa (aL (vn 3) ac) (aa (aL (vn 3) ac) ab))) ac) ab)))))))) ?_
 rintro ws Q ⟨ps,cs,t,rfl,⟨hm,hp,hc,hw,h50⟩,hQ⟩
 refine aB ?_
 have sz:=HV
 obtain⟨f,hf⟩:=id hc
 have h4:=hf.2.1
 have c2:=p4 hf
 have sh:=dg h50
 have s0:HI (.tuple [])=true:=rfl
 rcases wG hw with rfl|⟨hd,p,q,et,ft,t1,t2,w1,w2,nq⟩
 · have ha:aW cs:=hw
   obtain⟨o1,o2⟩:=mF hp hf ha
   have o1:EN 2000 (EV ps cs):=o1.mono (by decide)
   have o2:EN 2000 (Ft ps cs):=o2.mono (by decide)
   simp_arith only[ag,ae,Hv,qE,bq.eq,bc.eqQ,fS,oJ]
   exact av hQ
 · have tn:HC (Ec t) (.tuple [])=false:=jv (by rintro rfl;exact absurd t1 (JL _))
   obtain⟨b1,b2⟩:=fK hf ft
   obtain⟨l1,l2⟩:=ko cs hd
   have p1:=bg.eq n ps _ p (by omega) (by rw[l1];exact hp) ⟨f,b1⟩ w1 (by omega)
   have p2:=bg.eq n ps _ q (by omega) (by rw[l2];exact hp) ⟨f,b2⟩ w2 (by omega)
   have s1:EN 2000 (ck ps (Gm cs hd) p):=(d9 (by rw[l1];exact hp:FR ps (Gm cs hd).length) p _ b1 w1).mono (by decide)
   have s2:EN 2000 (ck ps (Gk cs hd) q):=(d9 (by rw[l2];exact hp:FR ps (Gk cs hd).length) q _ b2 w2).mono (by decide)
   have bh:=aM.eq cs hd [Ec p,Ec q] h4 c2 ft
   rw[<- et]at bh
   obtain⟨xs,ex,x2,x1,xc,_⟩:=uT hd (Ec p) (Ec q)
   simp_arith only[ag,ae,Hv,tn,s0,sh]
   have ex:=et.trans ex
   simp_arith only[ag,ae,Hv,bh]
   simp_arith only[ag,ae,ex,xc]
   refine Eu (cM (xs:=[(Gm cs hd,p),(Gk cs hd,q)]) (enc:=fun z:List Co×Tr=>Jc [FZ z.1,Ec z.2]) (fun z=>fr (ck ps z.1 z.2)) rfl ?_ (by simp;omega) ?_)
   · intro z mz
     simp only[IC,JC,or_false]at mz
     rcases mz with rfl|rfl
     · simp_arith only[ag,ae,FB,p1]
     · simp_arith only[ag,ae,FB,p2]
   · rw[nq]at hQ
     simp_arith only[ag,ae,Hv,bc.eqQ,fS,oJ]
     exact av hQ
theorem jk(Fn:FnIn K mg "_law_need" (Ed 65) ["_law_pts", "_law_cell", "_law_node"])(Z:Bz mg)(d__law_needs:∀rl,Dfn P w K mg base rl "_law_needs" ["_law_pts", "_law_cell"] 4 bq)(d__law_behind:∀rl,Dfn P w K mg base rl "_law_behind" ["_law_cell", "_law_node"] 1 aM)(d__law_cmp:∀rl,Dfn P w K mg base rl "_law_cmp" ["_law_one", "_law_other"] 1 bc)(n:Nat):∀rl,Dfn P w K mg base rl "_law_need" ["_law_pts", "_law_cell", "_law_node"] (4+n) (bg n):=by
 induction n with
 | zero=>exact fun rl=>Dfn.never Fn (fun _ _ ⟨_,_,_,_,⟨z,_⟩,_⟩=>absurd z (JL _))
 | succ n ih=>exact fun rl=>jj n Fn Z d__law_needs d__law_behind d__law_cmp   ih
theorem d__law_need(Fn:FnIn K mg "_law_need" (Ed 65) ["_law_pts", "_law_cell", "_law_node"])(Z:Bz mg)(d__law_needs:∀rl,Dfn P w K mg base rl "_law_needs" ["_law_pts", "_law_cell"] 4 bq)(d__law_behind:∀rl,Dfn P w K mg base rl "_law_behind" ["_law_cell", "_law_node"] 1 aM)(d__law_cmp:∀rl,Dfn P w K mg base rl "_law_cmp" ["_law_one", "_law_other"] 1 bc)   : Dfn P w K mg base rl "_law_need" ["_law_pts", "_law_cell", "_law_node"] 16 (bg 12):=jk Fn Z d__law_needs d__law_behind d__law_cmp   12 rl
noncomputable def cuD:Option (Nat×Nat×Rat)->Hy
 | none=>.list []
 | some z=>.list [.tuple (FO (.cut z.1 z.2.1 z.2.2))]
noncomputable def FY(cs:List Co):Option (Nat×Nat×Rat)->Prop
 | none=>True
 | some z=>Hm cs (.cut z.1 z.2.1 z.2.2)
noncomputable def colQ(ps:List (List Rat))(j:Nat):List Rat:=ps.map fun p=>p.getD j 0
theorem yx{s:Nat}(hp:Pg s ps)(hj:j<s):∀q∈colQ ps j,Gd q:=fun q mq=>by
 obtain⟨p,mp,rfl⟩:=IM.mp mq
 obtain⟨pl,pg⟩:=hp p mp
 have hj':j<p.length:=by omega
 have e:p.getD j 0=p[j]:=by rw[Ig,HZ hj'];rfl
 show Gd (p.getD j 0)
 rw[e]
 exact pg _ (Jr _)
theorem yw{s:Nat}(hp:Pg s ps)(hj:j<s):∀p∈ps,atI p (j:Int)=some (p.getD j 0):=fun p mp=>bG (by
 have:=(hp p mp).1
 rw[Ig,HZ (by omega)];rfl)
theorem Au(h:Gd q):EN 200 q:=h.1.mono (by decide)
theorem Da:Jc [.int (-1),.int 2]=fr (-1 / 2):=by
 have:(-1 / 2:Rat)=⟨-1,2,by decide,by decide⟩:=by decide +kernel
 rw[this];rfl
theorem pB{β:Type}(p:α->Bool)(f:α->β)(xs:List α):xs.filterMap (fun x=>if p x=true then some (f x)else none)=(xs.filter p).map f:=by
 induction xs with
 | nil=>rfl
 | cons x xs ih =>
   rw[KE,List.filter_cons,ih]
   cases p x<;>simp
theorem EM:EN 200 (-1 / 2):=by
 have:(-1 / 2:Rat)=⟨-1,2,by decide,by decide⟩:=by decide +kernel
 rw[this]
 exact⟨by decide,by decide⟩
noncomputable def bS:List W->(Hy->Prop)->Prop:=fun ws Q=>∃(ps:List (List Rat))(cs:List Co),ws=[.reel,.d (ptsQ ps),.d (FZ cs)]/\((FR ps cs.length)/\(∃f,Hn f cs))/\∀o:Option (Nat×Nat×Rat),(FY cs o)->Q (cuD o)
theorem bS.mono:∀ws (Q Q':Hy->Prop),(∀d,Q d->Q' d)->bS ws Q->bS ws Q':=fun _ _ _ h_=>HD fun _=>HD fun _=>HA (HA fun q_ o_ ho_=>h_ _ (q_ o_ ho_))
theorem bS.len:∀ws (Q:Hy->Prop),bS ws Q->ws.length=3:=fun _ _ h_=>by obtain⟨_,_,e_,_⟩:=h_;subst e_;rfl
theorem bS.eq(ps:List (List Rat))(cs:List Co)(hp:FR ps cs.length)(hc:∃f,Hn f cs):bS [.reel,.d (ptsQ ps),.d (FZ cs)]=Gh (anyM fun o:Option (Nat×Nat×Rat)=>FY cs o) fun o=>VL.ret (cuD o:Hy):=by
 refine ak fun Q=>⟨?_,fun q_=>⟨ps,cs,rfl,⟨hp,hc⟩,q_⟩⟩
 rintro⟨ps',cs',e_,_,q_⟩
 simp_arith only[cX,bw,bx,aO,aN,bE,cN,eR,fy,fH,gQ,cY,dw,dt,du,db,Ir]at e_
 obtain⟨rfl,rfl⟩:=e_
 exact q_
theorem jO:FnScope ["_law_feed_here", "_law_pts", "_law_cell", "_law_side", "_law_which", "_law_low", "_law_high", "_law_some"] ["_law_feed_here", "_law_pts", "_law_cell"] (defScope (Ed 66)):=⟨rfl,rfl,rfl,by decide +kernel,rfl,by decide +kernel,by decide +kernel⟩
theorem d__law_cuts(Fn:FnIn K mg "_law_cuts" (Ed 66) ["_law_feed_here", "_law_pts", "_law_cell"])(Z:Bz mg)(d__law_draw:∀rl,Dfn P w K mg base rl "_law_draw" ["_law_feed_here", "_law_many"] 1 aT)(d__law_frac:∀rl,Dfn P w K mg base rl "_law_frac" ["_law_top", "_law_bottom"] 1 bi)(d__law_cmp:∀rl,Dfn P w K mg base rl "_law_cmp" ["_law_one", "_law_other"] 1 bc)   : Dfn P w K mg base rl "_law_cuts" ["_law_feed_here", "_law_pts", "_law_cell"] 2 bS:=by
 have sc:=jO
 refine Dfn.of Fn sc (bS.mono) (bS.len) (fun cdv A outer s H E hr=>(af (ax 3 sc.nd (ai (d__law_draw _) (hr.mono (by decide)) (aa (vn 0) (aa (cv Z.len_ (aa (vn 2) ab)) ab))))
  (af (ax 4 sc.nd (ai (d__law_draw _) (hr.mono (by decide)) (aa (vn 0) (aa (cv Z.len_ (aa (aL (aL (vn 2) (vn 3)) ac) ab)) ab))))
  (af (cq (aL (aL (aL (vn 2) (vn 3)) ac) (vn 4)) (bH (n:=2) rfl (aq (am 5 sc.nd) (aq (am 6 sc.nd) aV))))
  (af (ax 7 sc.nd (h9 (cI ["_law_point", "_law_side"] [none,some 3] rfl (dA (vn 1)) (fun _=>(am 0 (show IT (["_law_point", "_law_side"]:List Str) by decide +kernel))) (fun _=>dr) (fun _=>(aL (vn 0) (vn 1)))) (cH (aa (aP (aa ac (aa ac ab))) (aa (aP (aa (gW ac) (aa ac ab))) (aa (ai (d__law_frac _) (hr.mono (by decide)) (aa (v_add ac (ai (d__law_draw _) (hr.mono (by decide)) (aa (vn 0) (aa ac ab)))) (aa ac ab))) ab))))))
  (af (cQ 7 sc.nd ["_law_x", "_law_low", "_law_high"] [none,some 5,some 6] rfl (gh (vn 7)) (fun _=>(am 0 (show IT (["_law_x", "_law_low", "_law_high"]:List Str) by decide +kernel))) (fun _=>lv (G0.pb (d7 (az dE dY (aw _) (ai (d__law_cmp _) (hr.mono (by decide)) (aa (vn 1) (aa (vn 0) ab))) ac) (df (az dE dY (aw _) (ai (d__law_cmp _) (hr.mono (by decide)) (aa (vn 0) (aa (vn 2) ab))) ac))))) (fun _=>(vn 0)))
  (aj (ar (cj (az (eN hr.units) aZ (aw _) (vn 7) (cH ab)) (cH (aa (aP (aa aF (aa (vn 3) (aa (vn 4) (aa (aL (vn 7) (ai (d__law_draw _) (hr.mono (by decide)) (aa (vn 0) (aa (cv Z.len_ (aa (vn 7) ab)) ab)))) ab))))) ab)) (cH ab)))))))))) ?_
 rintro ws Q ⟨ps,cs,rfl,⟨hp,hc⟩,hQ⟩
 refine aB ?_
 have sz:=HV
 obtain⟨f,hc⟩:=hc
 obtain⟨h1,h8,hg,d1,d4⟩:=hp
 have g1:0<(cs.length:Int):=by omega
 have g2:(cs.length:Int)<2^60:=by omega
 have lc:mT (FZ cs)=some cs.length:=by show some (cs.map F8).length=_;rw[HM]
 simp_arith only[ag,ae,aQ,aR,aE,aS,aG,ay,Hv,lc,aT.eq]
 (with_reducible (first|refine aD fun j0 hj0=>?_|refine aK fun j0 hj0=>?_))
 obtain⟨j,rfl⟩:=JA hj0.1
 have hj:j<cs.length:=by omega
 have e1:atI cs (j:Int)=some (Gg cs j):=bG (fA hj)
 have rl:=(qJ (hc.2.2 _ (dn hj))).1
 have rl1:1<=(Gg cs j).2.length/\(Gg cs j).2.length<=2:=by split at rl<;>omega
 have g3:0<((Gg cs j).2.length:Int):=by omega
 have g4:((Gg cs j).2.length:Int)<2^60:=by omega
 simp_arith only[ag,ae,aQ,aR,aE,aS,aG,ay,Hv,FZ,e1,ka,EB,bF,aT.eq]
 (with_reducible (first|refine aD fun w0 hw0=>?_|refine aK fun w0 hw0=>?_))
 obtain⟨w,rfl⟩:=JA hw0.1
 have hw:w<(Gg cs j).2.length:=by omega
 have e2:atI (Gg cs j).2 (w:Int)=some (EL cs j w):=bG (mD hw)
 have ro:=lH hc hj hw
 simp_arith only[ag,ae,aQ,aR,aE,aS,aG,ay,Hv,e1,e2,ka,EB,qK,bF]
 refine Eu (cM (xs:=ps) (enc:=ET) (fun p=>fr (p.getD j 0)) rfl ?_ (by omega) ?_)
 · intro p mp
   have e:=yw hg hj p mp
   simp_arith only[ag,ae,FB,Hv,e]
 have ee:ps.map (fun p=>fr (p.getD j 0))=(colQ ps j).map fr:=by unfold colQ;rw[Jd];rfl
 have cg:=yx hg hj
 have c8:(colQ ps j).length<=8:=by unfold colQ;rw[HM];omega
 rw[ee]
 generalize colQ ps j=qs at cg c8 ⊢
 have hb:(0:Int)<16:=by decide
 have hz:(16:Int).natAbs<2^8000:=HJ (show _<2^200 by decide) (HP (by decide) (by decide))
 simp_arith only[ag,ae,aQ,aR,aE,aS,aG,ay,aT.eq]
 (with_reducible (first|refine aD fun u hu=>?_|refine aK fun u hu=>?_))
 have sg:EN 200 (qd (1+u) 16):=n8 hb (by omega) (by decide)
 have ql:qs.length+3<=sizeLine:=by omega
 simp_arith only[ag,ae,aQ,aR,aE,aS,aG,ay,Hv,bi.eq]
 generalize qd (1+u) 16=g at sg ⊢
 have ep:qs.map fr++[Jc [.int 0,.int 1],Jc [.int (-1),.int 2],fr g]=(qs++[0,-1 / 2,g]).map fr:=by
  rw[IS,Da];rfl
 rw[ep]
 have hpool:∀q∈qs++[0,-1 / 2,g],EN 200 q:=fun q mq=>by
  rcases Jw.mp mq with m|m
  · exact Au (cg q m)
  · simp only[IC,JC,or_false]at m
    rcases m with rfl|rfl|rfl
    · exact Di.mono (by decide)
    · exact EM
    · exact sg
 have pl:(qs++[0,-1 / 2,g]).length<=11:=by simp;omega
 generalize qs++[0,-1 / 2,g]=pool at hpool pl ⊢
 have r1:EN 2000 (EL cs j w).1:=ro.1.mono (by decide)
 have r2:EN 2000 (EL cs j w).2:=ro.2.1.mono (by decide)
 try simp_arith only[ag,ae,aQ,aR,aE,aS,aG,ay,Hv]
 refine Eu (pR (xs:=pool) (enc:=fr) (fun x=>if(decide ((EL cs j w).1<x)&&decide (x<(EL cs j w).2))=true then some (fr x)else none) rfl ?_ (by omega) ?_)
 · intro x mx
   have x1:EN 2000 x:=(hpool x mx).mono (by decide)
   simp_arith only[ag,ae,FB,Hv,bc.eqQ,fS]
   by_cases a1:(EL cs j w).1<x<;>by_cases a2:x<(EL cs j w).2<;>simp[a1,a2]<;>rfl
 rw[pB]
 have hin:∀x∈pool.filter (fun x=>decide ((EL cs j w).1<x)&&decide (x<(EL cs j w).2)),Hm cs (.cut j w x):=fun x mx=>by
  obtain⟨m1,m2⟩:=KO.mp mx
  rw[Kh,decide_eq_true_eq,decide_eq_true_eq]at m2
  exact⟨hj,hw,m2.1,m2.2,hpool x m1⟩
 have fl:(pool.filter (fun x=>decide ((EL cs j w).1<x)&&decide (x<(EL cs j w).2))).length<=11:=JI (Kr ..) pl
 generalize pool.filter (fun x=>decide ((EL cs j w).1<x)&&decide (x<(EL cs j w).2))=fs at hin fl ⊢
 have s0:HI (.list [])=true:=rfl
 have sf:=ii fs
 have ev:HC (.list (fs.map fr)) (.list [])=fs.isEmpty:=by rw[kZ];cases fs<;>rfl
 by_cases he:fs=[]
 · subst he
   simp_arith only[ag,ae,aQ,aR,aE,aS,aG,ay,Hv,s0,sf,ev]
   first|exact av (hQ none trivial)|exact eQ (hQ none trivial)
 · have em:fs.isEmpty=false:=by cases fs with|nil=>exact absurd rfl he|cons y ys=>rfl
   have g5:0<(fs.length:Int):=by have:=KF.mpr he;omega
   have g6:(fs.length:Int)<2^60:=by omega
   simp_arith only[ag,ae,aQ,aR,aE,aS,aG,ay,Hv,s0,sf,ev,em,aT.eq]
   (with_reducible (first|refine aD fun v hv=>?_|refine aK fun v hv=>?_))
   obtain⟨x,ex,mx⟩:=mM (xs:=fs) hv.1 hv.2
   have ex2:atI (fs.map fr) v=some (fr x):=by rw[bF,ex];rfl
   simp_arith only[ag,ae,aQ,aR,aE,aS,aG,ay,Hv,ex2]
   first|exact av (hQ (some (j,w,x)) (hin x mx))|exact eQ (hQ (some (j,w,x)) (hin x mx))
noncomputable def EX(cs:List Co):List Nat:=(Jj cs.length).filter fun j=>(Gg cs j).1.isNone
theorem Ab{cs:List Co}(h:j∈EX cs):Hm cs (.ways j):=by
 obtain⟨h1,h2⟩:=KO.mp h
 exact⟨K6.mp h1,by simpa using h2⟩
theorem xN{cs:List Co}(h:EX cs=[]):EW cs=0:=by
 rw[xJ]
 intro c mc e
 obtain⟨j,hj,rfl⟩:=Lo mc
 have z:j∈EX cs:=KO.mpr ⟨K6.mpr hj,by
  have:Gg cs j=cs[j]:=by have:=fA hj;rw[HZ hj]at this;exact(Ii this).symm
  show(Gg cs j).1.isNone=true
  rw[this,e];rfl⟩
 rw[h]at z
 cases z
theorem xO(cs:List Co):(EX cs).length<=cs.length:=by
 have:=Kr (fun j=>(Gg cs j).1.isNone) (Jj cs.length)
 rw[List.length_range]at this
 exact this
noncomputable def FJ:Option Hd->Hy
 | none=>.list []
 | some h=>.list [.tuple (FO h)]
noncomputable def Hk(cs:List Co)(deep:Int):Option Hd->Prop
 | none=>True
 | some (.cut j w x)=>Hm cs (.cut j w x)/\0<deep
 | some (.ways _)=>False
noncomputable def Hj(cs:List Co)(deep:Int):Option Hd->Prop
 | none=>EW cs=0
 | some (.cut j w x)=>Hm cs (.cut j w x)/\0<deep
 | some (.ways j)=>Hm cs (.ways j)
noncomputable def bD(m:Nat):List W->(Hy->Prop)->Prop:=fun ws Q=>∃(ps:List (List Rat))(cs:List Co)(deep:Int),ws=[.reel,.d (ptsQ ps),.d (FZ cs),.d (.int deep)]/\(deep.toNat+EW cs<m/\0<=deep/\deep<=10/\FR ps cs.length/\∃f,Hn f cs)/\∀t:Tr,(Wf cs t/\ht t<=deep.toNat+EW cs)->Q (Ec t)
theorem bD.mono(m:Nat):∀ws (Q Q':Hy->Prop),(∀d,Q d->Q' d)->bD m ws Q->bD m ws Q':=fun _ _ _ h_=>HD fun _=>HD fun _=>HD fun _=>HA (HA fun q_ t h=>h_ _ (q_ t h))
theorem bD.len(m:Nat):∀ws (Q:Hy->Prop),bD m ws Q->ws.length=4:=fun _ _ h_=>by obtain⟨_,_,_,e_,_⟩:=h_;subst e_;rfl
theorem bD.eq(m:Nat)(ps:List (List Rat))(cs:List Co)(deep:Int)(h:deep.toNat+EW cs<m)(h0:0<=deep)(h10:deep<=10)(hp:FR ps cs.length)(hc:∃f,Hn f cs):bD m [.reel,.d (ptsQ ps),.d (FZ cs),.d (.int deep)]=Gh (anyM fun t:Tr=>Wf cs t/\ht t<=deep.toNat+EW cs) fun t=>VL.ret (Ec t):=by
 refine ak fun Q=>⟨?_,fun q_=>⟨ps,cs,deep,rfl,⟨h,h0,h10,hp,hc⟩,q_⟩⟩
 rintro⟨ps',cs',deep',e_,_,q_⟩
 simp only[Il,W.d.injEq,K9,aN,fH,true_and,and_true]at e_
 obtain⟨rfl,rfl,rfl⟩:=e_
 exact q_
theorem lJ{a b:List Co}{P:List Co->Tr->Prop}{ds:List Hy}(h:I0 (fun c d=>∃t,P c t/\d=Ec t) [a,b] ds):∃p q,P a p/\P b q/\ds=[Ec p,Ec q]:=by
 cases h with
 | cons h1 h =>
   cases h with
   | cons h2 h =>
     cases h
     obtain⟨p,hp,rfl⟩:=h1
     obtain⟨q,hq,rfl⟩:=h2
     exact⟨p,q,hp,hq,rfl⟩
theorem vg(o:Option Hd):HI (FJ o)=true:=by
 match o with
 | none=>rfl
 | some (.cut j w x)=>simp[FJ,FO,HI,fr,IG,Ih,JB,IE];exact bX _
 | some (.ways j)=>simp[FJ,FO,HI,IG,Ih,JB,IE];exact bX _
theorem vj(o:Option Hd):HC (FJ o) (.list [])=o.isNone:=by cases o<;>rfl
theorem Ad(o:Option (Fin 3)):gG (DR o)=o.isNone:=by cases o<;>rfl
theorem yG{cs:List Co}{deep:Int}{h:Hd}(hh:Hj cs deep (some h))(h0:0<=deep):∃d2:Int,0<=d2/\d2<=deep/\d2.toNat+EW (Gm cs h)+1=deep.toNat+EW cs/\d2.toNat+EW (Gk cs h)+1=deep.toNat+EW cs/\d2=deep-(if HC ((FO h).headD .none) (.str "cut")=true then 1 else 0):=by
 cases h with
 | cut j w x =>
   obtain⟨⟨hj,_⟩,h1⟩:=hh
   have e:HC ((FO (.cut j w x)).headD .none) (.str "cut")=true:=by show HC (.str "cut") (.str "cut")=true;decide +kernel
   refine⟨deep-1,by omega,by omega,?_,?_,by rw[if_pos e]⟩
   · show(deep-1).toNat+EW (c0 ..)+1=_
     rw[oB hj];omega
   · show(deep-1).toNat+EW (c0 ..)+1=_
     rw[oB hj];omega
 | ways j =>
   obtain⟨hj,e0⟩:=hh
   have e:HC ((FO (.ways j)).headD .none) (.str "cut")=false:=by show HC (.str "ways") (.str "cut")=false;decide +kernel
   refine⟨deep,h0,by omega,?_,?_,by rw[e];simp⟩
   · have:=oy (k:=1) hj e0
     show deep.toNat+EW (fW ..)+1=_
     omega
   · have:=oy (k:=2) hj e0
     show deep.toNat+EW (fW ..)+1=_
     omega
theorem jH:FnScope ["_law_feed_here", "_law_pts", "_law_cell", "_law_deep", "_law_open_ones", "_law_head", "_law_less_deep", "_law_pieces_told"] ["_law_feed_here", "_law_pts", "_law_cell", "_law_deep"] (defScope (Ed 67)):=⟨rfl,rfl,rfl,by decide +kernel,rfl,by decide +kernel,by decide +kernel⟩
theorem jh(n:Nat)(Fn:FnIn K mg "_law_tree" (Ed 67) ["_law_feed_here", "_law_pts", "_law_cell", "_law_deep"])(Z:Bz mg)(d__law_cuts:∀rl,Dfn P w K mg base rl "_law_cuts" ["_law_feed_here", "_law_pts", "_law_cell"] 2 bS)(d__law_draw:∀rl,Dfn P w K mg base rl "_law_draw" ["_law_feed_here", "_law_many"] 1 aT)(d__law_behind:∀rl,Dfn P w K mg base rl "_law_behind" ["_law_cell", "_law_node"] 1 aM)(d__law_tree:∀rl,Dfn P w K mg base rl "_law_tree" ["_law_feed_here", "_law_pts", "_law_cell", "_law_deep"] (2+n) (bD n)):Dfn P w K mg base rl "_law_tree" ["_law_feed_here", "_law_pts", "_law_cell", "_law_deep"] (2+n+1) (bD (n+1)):=by
 have sc:=jH
 refine Dfn.of Fn sc (bD.mono _) (bD.len _) (fun cdv A outer s H E hr=>(af (cQ 4 sc.nd ["_law_side", "_law_cell"] [none,some 2] rfl (de Z.range_ (aa (cv Z.len_ (aa (vn 2) ab)) ab)) (fun _=>(am 0 (show IT (["_law_side", "_law_cell"]:List Str) by decide +kernel))) (fun _=>lv (az jX js (aw _) (aL (aL (vn 1) (vn 0)) ac) dC)) (fun _=>(vn 0)))
  (af (ax 5 sc.nd (cH ab))
  (af (aU (G0.pb (d7 (az jb iM (aw _) (vn 3) ac) (df (az jb iM (aw _) (ai (d__law_draw _) (hr.mono (by omega)) (aa (vn 0) (aa ac ab))) ac)))) (aj (ax 5 sc.nd (ai (d__law_cuts _) (hr.mono (by omega)) (aa (vn 0) (aa (vn 1) (aa (vn 2) ab)))))) aH)
  (af (aU (G0.pb (d7 (az (eN hr.units) aZ (aw _) (vn 4) (cH ab)) (df (G0.pb (fT (az (bM hr.units) aZ (aw _) (vn 5) (cH ab)) (eV (az (bM hr.units) aZ (aw _) (ai (d__law_draw _) (hr.mono (by omega)) (aa (vn 0) (aa ac ab))) ac))))))) (aj (ax 5 sc.nd (cH (aa (aP (aa aF (aa (aL (vn 4) (ai (d__law_draw _) (hr.mono (by omega)) (aa (vn 0) (aa (cv Z.len_ (aa (vn 4) ab)) ab)))) ab))) ab)))) aH)
  (af (aU (az (bM hr.units) aZ (aw _) (vn 5) (cH ab)) (aj (ar (aP ab))) aH)
  (af (ax 6 sc.nd (v_sub (vn 3) (eF Z.int_ (aa (cW dv cr (aw _) (aL (aL (vn 5) ac) ac) aF) ab))))
  (af (cQ 7 sc.nd ["_law_inner", "_law_feed_here", "_law_pts", "_law_less_deep"] [none,some 0,some 1,some 6] rfl (gh (ai (d__law_behind _) (hr.mono (by omega)) (aa (vn 2) (aa (aL (vn 5) ac) ab)))) (fun _=>(am 0 (show IT (["_law_inner", "_law_feed_here", "_law_pts", "_law_less_deep"]:List Str) by decide +kernel))) (fun _=>dr) (fun _=>(ai (d__law_tree _) (hr.mono (by omega)) (aa (vn 1) (aa (vn 2) (aa (vn 0) (aa (vn 3) ab)))))))
  (aj (ar (eI (aL (vn 5) ac) (gi Z.tuple_ (aa (vn 7) ab))))))))))))) ?_
 have hf0:decide (Hw "corner" = Hw "corner")=true:=by decide +kernel
 have hf1:decide (Hw "inner" = Hw "corner")=false:=by decide +kernel
 have hf2:decide (Hw "round" = Hw "corner")=false:=by decide +kernel
 have hf3:decide (Hw "corner" = Hw "round")=false:=by decide +kernel
 have hf4:decide (Hw "inner" = Hw "round")=false:=by decide +kernel
 have hf5:decide (Hw "round" = Hw "round")=true:=by decide +kernel
 have he0:HC (.str "cut") (.str "cut")=true:=by decide +kernel
 have he1:HC (.str "cut") (.str "ways")=false:=by decide +kernel
 have he2:HC (.str "ways") (.str "cut")=false:=by decide +kernel
 have he3:HC (.str "ways") (.str "ways")=true:=by decide +kernel
 have hg0:decide (Hw "cut" = Hw "cut")=true:=by decide +kernel
 have hg1:decide (Hw "cut" = Hw "ways")=false:=by decide +kernel
 have hg2:decide (Hw "ways" = Hw "cut")=false:=by decide +kernel
 have hg3:decide (Hw "ways" = Hw "ways")=true:=by decide +kernel
 have sc1:HI (.str "cut")=true:=by decide +kernel
 have sc2:HI (.str "ways")=true:=by decide +kernel
 have eqi:∀i j:Int,HC (.int i) (.int j)=(i==j):=fun i j=>by simp[HC]
 rintro ws Q ⟨ps,cs,deep,rfl,⟨hm,h0,h10,hp,hc⟩,hQ⟩
 refine aB ?_
 have sz:=HV
 obtain⟨f,hf⟩:=id hc
 have h4:=hf.2.1
 have c2:=p4 hf
 have lc:mT (FZ cs)=some cs.length:=by show some (cs.map F8).length=_;rw[HM]
 simp_arith only[ag,ae,aQ,aR,aE,aS,aG,ay,Hv,lc]
 refine Eu (vL (fun j=>if(Gg cs j).1.isNone=true then some (.int (j:Int))else none) ?_ (by omega) ?_)
 · intro j hj
   have e1:atI cs (j:Int)=some (Gg cs j):=bG (fA (by omega))
   have z:(0:Int)+(j:Int)=(j:Int):=by omega
   simp_arith only[ag,ae,FB,z,FZ,e1,ka,bF,Ad]
   cases(Gg cs j).1<;>rfl
 have eo:(Jj cs.length).filterMap (fun j=>if(Gg cs j).1.isNone=true then some (Io (j:Int))else none)=(EX cs).map fun j:Nat=>.int (j:Int):=by
  rw[pB (fun j=>(Gg cs j).1.isNone) (fun j:Nat=>Io (j:Int))];rfl
 have en:JK (cs.length:Int)=cs.length:=JS _
 rw[eo]
 refine(show sq (VL.ret (Fl.nx _)) (mS (zq _ _)) (vF Q)from ?_)
 rw[sq_nx,s_seq]
 refine lG (fun _:Unit=>True) (fun _=>.nx [some .reel,some (.d (ptsQ ps)),some (.d (FZ cs)),some (.d (.int deep)),some (.d (.list ((EX cs).map fun j:Nat=>.int (j:Int)))),some (.d (.list [])),none,none]) ?_ ?_
 · intro Q' hQ'
   simp_arith only[ag,ae,aQ,aR,aE,aS,aG,ay,Hv]
   exact hQ' () trivial
 rintro _ _
 rw[sq_nx,s_seq]
 refine lG (Hk cs deep) (fun o=>.nx [some .reel,some (.d (ptsQ ps)),some (.d (FZ cs)),some (.d (.int deep)),some (.d (.list ((EX cs).map fun j:Nat=>.int (j:Int)))),some (.d (FJ o)),none,none]) ?_ ?_
 · intro Q' hQ'
   simp_arith only[ag,ae,aQ,aR,aE,aS,aG,ay,Hv,aT.eq,bS.eq]
   refine cV (fun hd=>?_) fun _=>hQ' none trivial
   (with_reducible (first|refine aD fun u hu=>?_|refine aK fun u hu=>?_))
   try simp_arith only[ag,ae,aQ,aR,aE,aS,aG,ay,Hv,bS.eq]
   refine cV (fun _=>?_) fun _=>hQ' none trivial
   (with_reducible (first|refine aD fun o ho=>?_|refine aK fun o ho=>?_))
   cases o with
   | none=>exact hQ' none trivial
   | some z=>exact hQ' (some (.cut z.1 z.2.1 z.2.2)) ⟨ho,by simpa using hd⟩
 rintro o ho
 rw[sq_nx,s_seq]
 have so:HI (.list ((EX cs).map fun j:Nat=>.int (j:Int)))=true:=by
  have:=shaped_ints ((EX cs).map fun j:Nat=>(j:Int))
  rw[Jd]at this
  exact this
 have s0:HI (.list [])=true:=rfl
 have ev:HC (.list ((EX cs).map fun j:Nat=>.int (j:Int))) (.list [])=(EX cs).isEmpty:=by rw[kZ];cases EX cs<;>rfl
 refine lG (Hj cs deep) (fun o=>.nx [some .reel,some (.d (ptsQ ps)),some (.d (FZ cs)),some (.d (.int deep)),some (.d (.list ((EX cs).map fun j:Nat=>.int (j:Int)))),some (.d (FJ o)),none,none]) ?_ ?_
 · intro Q' hQ'
   have sh:=vg o
   have eh:=vj o
   by_cases e:EX cs=[]
   · have em:(EX cs).isEmpty=true:=by rw[e];rfl
     simp_arith only[ag,ae,aQ,aR,aE,aS,aG,ay,Hv,so,s0,ev,em]
     refine hQ' o ?_
     match o,ho with
     | none,_=>exact xN e
     | some (.cut j w x),ho=>exact ho
   · have em:(EX cs).isEmpty=false:=by cases z:EX cs with|nil=>exact absurd z e|cons y ys=>rfl
     have g1:0<((EX cs).length:Int):=by have:=KF.mpr e;omega
     have g2:((EX cs).length:Int)<2^60:=by have:=xO cs;omega
     have fin:∀v:Int,0<=v->v<((EX cs).length:Int)->∃j:Nat,atI ((EX cs).map fun j:Nat=>Io (j:Int)) v=some (.int (j:Int))/\Hm cs (.ways j):=fun v h1 h2=>by
      obtain⟨j,ej,mj⟩:=mM (xs:=EX cs) h1 h2
      exact⟨j,by rw[bF,ej];rfl,Ab mj⟩
     have eqi:∀i j:Int,HC (.int i) (.int j)=(i==j):=fun i j=>by simp[HC]
     simp_arith only[ag,ae,aQ,aR,aE,aS,aG,ay,Hv,so,s0,ev,em,sh,eh,aT.eq]
     refine cV (fun _=>?_) fun hn=>?_
     · (with_reducible (first|refine aD fun v hv=>?_|refine aK fun v hv=>?_))
       obtain⟨j,ej,fj⟩:=fin v hv.1 hv.2
       simp_arith only[ag,ae,aQ,aR,aE,aS,aG,ay,Hv,ej]
       exact hQ' (some (.ways j)) fj
     · (with_reducible (first|refine aD fun u hu=>?_|refine aK fun u hu=>?_))
       try simp_arith only[ag,ae,aQ,aR,aE,aS,aG,ay,Hv,eqi,aT.eq]
       refine cV (fun _=>?_) fun _=>?_
       · (with_reducible (first|refine aD fun v hv=>?_|refine aK fun v hv=>?_))
         obtain⟨j,ej,fj⟩:=fin v hv.1 hv.2
         simp_arith only[ag,ae,aQ,aR,aE,aS,aG,ay,Hv,ej]
         exact hQ' (some (.ways j)) fj
       · refine hQ' o ?_
         match o,ho,hn with
         | some (.cut j w x),ho,_=>exact ho
         | none,_,hn=>exact absurd rfl hn
 rintro o ho
 rw[sq_nx,s_seq]
 cases o with
 | none =>
   have n0:FJ none = .list []:=rfl
   have z:HC (.list []) (.list [])=true:=rfl
   simp_arith only[ag,ae,aQ,aR,aE,aS,aG,ay,Hv,n0,s0,z]
   exact av (hQ .leaf ⟨xJ.mp ho,Ip _⟩)
 | some h =>
   have ft:Hm cs h:=by cases h with|cut j w x=>exact ho.1|ways j=>exact ho
   obtain⟨d2,q1,q2,q3,q4,q5⟩:=yG ho h0
   cases h with
   | cut j w x =>
     have hoE:FJ (some (.cut j w x)) = .list [.tuple [.str "cut", .int j,.int w,fr x]]:=rfl
     have bh:=aM.eq cs (.cut j w x) [] h4 c2 ft
     rw[show E9 (.cut j w x) [] = .tuple [.str "cut", .int j,.int w,fr x]from rfl]at bh
     have q5:d2=deep-1:=by rw[q5,show(if HC ((FO (.cut j w x)).headD .none) (.str "cut")=true then(1:Int)else 0)=1 from if_pos he0]
     subst q5
     have sh:=vg (some (.cut j w x))
     have eh:=vj (some (.cut j w x))
     rw[hoE]at sh eh
     simp_arith only[ag,ae,aQ,aR,aE,aS,aG,ay,Hv,hoE,sh,eh,s0,Option.isNone_some,hg0,bh]
     refine Eu (pS (xs:=[Gm cs (.cut j w x),Gk cs (.cut j w x)]) (enc:=FZ) (fun c d=>∃t,(Wf c t/\ht t<=(deep-1).toNat+EW c)/\d=Ec t) rfl ?_ (by simp;omega) ?_)
     · intro c mc K hK
       have hcc:FR ps c.length/\(∃f,Hn f c)/\(deep-1).toNat+EW c<n:=by
        obtain⟨b1,b2⟩:=fK hf ft
        obtain⟨l1,l2⟩:=ko cs (.cut j w x)
        simp only[IC,JC,or_false]at mc
        rcases mc with rfl|rfl
        · exact⟨by rw[l1];exact hp,⟨f,b1⟩,by omega⟩
        · exact⟨by rw[l2];exact hp,⟨f,b2⟩,by omega⟩
       have pt:=bD.eq n ps c (deep-1) hcc.2.2 q1 (by omega) hcc.1 hcc.2.1
       simp_arith only[ag,ae,FB,aQ,aR,aE,aS,aG,ay,pt]
       (with_reducible (first|refine aD fun t ht=>?_|refine aK fun t ht=>?_))
       exact hK _ ⟨t,ht,rfl⟩
     · intro ds hds
       obtain⟨p,q,wp,wq,rfl⟩:=lJ hds
       simp_arith only[ag,ae,aQ,aR,aE,aS,aG,ay,Hv]
       refine av (hQ (.cut j w x p q) ⟨⟨ft,wp.1,wq.1⟩,?_⟩)
       show max (ht p) (ht q)+1<=_
       omega
   | ways j =>
     have hoE:FJ (some (.ways j)) = .list [.tuple [.str "ways", .int j]]:=rfl
     have bh:=aM.eq cs (.ways j) [] h4 c2 ft
     rw[show E9 (.ways j) [] = .tuple [.str "ways", .int j]from rfl]at bh
     have q5:d2=deep-(if decide (Hw "ways" = Hw "cut")=true then 1 else 0):=by rw[q5,hg2];rfl
     have sh:=vg (some (.ways j))
     have eh:=vj (some (.ways j))
     rw[hoE]at sh eh
     simp_arith only[ag,ae,aQ,aR,aE,aS,aG,ay,Hv,hoE,sh,eh,s0,Option.isNone_some,<- q5,bh]
     refine Eu (pS (xs:=[Gm cs (.ways j),Gk cs (.ways j)]) (enc:=FZ) (fun c d=>∃t,(Wf c t/\ht t<=d2.toNat+EW c)/\d=Ec t) rfl ?_ (by simp;omega) ?_)
     · intro c mc K hK
       have hcc:FR ps c.length/\(∃f,Hn f c)/\d2.toNat+EW c<n:=by
        obtain⟨b1,b2⟩:=fK hf ft
        obtain⟨l1,l2⟩:=ko cs (.ways j)
        simp only[IC,JC,or_false]at mc
        rcases mc with rfl|rfl
        · exact⟨by rw[l1];exact hp,⟨f,b1⟩,by omega⟩
        · exact⟨by rw[l2];exact hp,⟨f,b2⟩,by omega⟩
       have pt:=bD.eq n ps c d2 hcc.2.2 q1 (by omega) hcc.1 hcc.2.1
       simp_arith only[ag,ae,FB,aQ,aR,aE,aS,aG,ay,pt]
       (with_reducible (first|refine aD fun t ht=>?_|refine aK fun t ht=>?_))
       exact hK _ ⟨t,ht,rfl⟩
     · intro ds hds
       obtain⟨p,q,wp,wq,rfl⟩:=lJ hds
       simp_arith only[ag,ae,aQ,aR,aE,aS,aG,ay,Hv]
       refine av (hQ (.ways j p q) ⟨⟨ft,wp.1,wq.1⟩,?_⟩)
       show max (ht p) (ht q)+1<=_
       omega
theorem ji(Fn:FnIn K mg "_law_tree" (Ed 67) ["_law_feed_here", "_law_pts", "_law_cell", "_law_deep"])(Z:Bz mg)(d__law_cuts:∀rl,Dfn P w K mg base rl "_law_cuts" ["_law_feed_here", "_law_pts", "_law_cell"] 2 bS)(d__law_draw:∀rl,Dfn P w K mg base rl "_law_draw" ["_law_feed_here", "_law_many"] 1 aT)(d__law_behind:∀rl,Dfn P w K mg base rl "_law_behind" ["_law_cell", "_law_node"] 1 aM)(n:Nat):∀rl,Dfn P w K mg base rl "_law_tree" ["_law_feed_here", "_law_pts", "_law_cell", "_law_deep"] (2+n) (bD n):=by
 induction n with
 | zero=>exact fun rl=>Dfn.never Fn (fun _ _ ⟨_,_,_,_,⟨z,_⟩,_⟩=>absurd z (JL _))
 | succ n ih=>exact fun rl=>jh n Fn Z d__law_cuts d__law_draw d__law_behind   ih
theorem d__law_tree(Fn:FnIn K mg "_law_tree" (Ed 67) ["_law_feed_here", "_law_pts", "_law_cell", "_law_deep"])(Z:Bz mg)(d__law_cuts:∀rl,Dfn P w K mg base rl "_law_cuts" ["_law_feed_here", "_law_pts", "_law_cell"] 2 bS)(d__law_draw:∀rl,Dfn P w K mg base rl "_law_draw" ["_law_feed_here", "_law_many"] 1 aT)(d__law_behind:∀rl,Dfn P w K mg base rl "_law_behind" ["_law_cell", "_law_node"] 1 aM)   : Dfn P w K mg base rl "_law_tree" ["_law_feed_here", "_law_pts", "_law_cell", "_law_deep"] 14 (bD 12):=ji Fn Z d__law_cuts d__law_draw d__law_behind   12 rl
noncomputable def kdD:Tr->Hy
 | .leaf=>.str "leaf"
 | .cut ..=>.str "cut"
 | .ways ..=>.str "ways"
noncomputable def wrD(ps:List (List Rat))(n:Rat)(cs:List Co):Tr->Hy
 | .leaf=>if n<EV ps cs then .str "over" else if n<Ft ps cs then .str "lack" else .str ""
 | _=>.str ""
theorem l46(a b:α):[((4:Int),a),(6,b)].lookup 4=some a/\[((4:Int),a),(6,b)].lookup 6=some b:=⟨rfl,rfl⟩
noncomputable def cC:List W->(Hy->Prop)->Prop:=fun ws Q=>∃(s:Int)(f:Fin 3)(t:Tr),ws=[.d (.int s),.d (.str (DS f)),.d (Ec t)]/\((Nk s f t))/\Q (kdD t)
theorem cC.mono:∀ws (Q Q':Hy->Prop),(∀d,Q d->Q' d)->cC ws Q->cC ws Q':=fun _ _ _ h_=>HD fun _=>HD fun _=>HD fun _=>HA (HA (h_ _))
theorem cC.len:∀ws (Q:Hy->Prop),cC ws Q->ws.length=3:=fun _ _ h_=>by obtain⟨_,_,_,e_,_⟩:=h_;subst e_;rfl
theorem cC.eq(s:Int)(f:Fin 3)(t:Tr)(hk:Nk s f t):cC [.d (.int s),.d (.str (DS f)),.d (Ec t)]=VL.ret (kdD t:Hy):=by
 refine ak fun Q=>⟨?_,fun q_=>⟨s,f,t,rfl,hk,q_⟩⟩
 rintro⟨s',f',t',e_,_,q_⟩
 simp_arith only[cX,bw,bx,aO,aN,bE,cN,eR,fy,fH,gQ,cY,dw,dt,du,db,Ir]at e_
 obtain⟨rfl,rfl,rfl⟩:=e_
 exact q_
theorem jJ:FnScope ["_law_s", "_law_family", "_law_thing", "_law_word_here"] ["_law_s", "_law_family", "_law_thing"] (defScope (Ed 70)):=⟨rfl,rfl,rfl,by decide +kernel,rfl,by decide +kernel,by decide +kernel⟩
theorem d__law_kind(Fn:FnIn K mg "_law_kind" (Ed 70) ["_law_s", "_law_family", "_law_thing"])(Z:Bz mg)(d__law_below:∀rl,Dfn P w K mg base rl "_law_below" ["_law_thing", "_law_many"] 1 ce)(d__law_is_frac:∀rl,Dfn P w K mg base rl "_law_is_frac" ["_law_thing"] 2 bK)   : Dfn P w K mg base rl "_law_kind" ["_law_s", "_law_family", "_law_thing"] 3 cC:=by
 have sc:=jJ
 refine Dfn.of Fn sc (cC.mono) (cC.len) (fun cdv A outer s H E hr=>(af (aU (G0.pb (fT (dB (bZ (gk Z.isinstance_ (aa (vn 2) (aa (gv Z.tuple_ (by rfl)) ab))))) (eV (az (oC hr.u65) lz (by with_unfolding_all rfl) (cv Z.len_ (aa (vn 2) ab)) (aP (aa ac (aa ac (aa ac ab)))))))) (aj (ar aF)) aH)
  (af (aU (az (bM hr.units) aZ (aw _) (cv Z.len_ (aa (vn 2) ab)) ac) (aj (ar aF)) aH)
  (af (ax 3 sc.nd (qy (hr.mono (Ip _)) (by decide) (cv Z.len_ (aa (vn 2) ab))))
  (af (aU (G0.pb (fT (dB (bZ (gk Z.isinstance_ (aa (aL (vn 2) ac) (aa (gv Z.str_ (by rfl)) ab))))) (fT (az (eN hr.units) aZ (aw _) (aL (vn 2) ac) (vn 3)) (eV (dB (bZ (ai (d__law_below _) (hr.mono (by decide)) (aa (aL (vn 2) ac) (aa (vn 0) ab))))))))) (aj (ar aF)) aH)
  (af (aU (G0.pb (d7 (az dv cr (aw _) (vn 3) aF) (df (dB (G0.pb (d7 (bZ (ai (d__law_below _) (hr.mono (by decide)) (aa (aL (vn 2) ac) (aa (v_add ac (eF Z.int_ (aa (cW mG h7 (aw _) (vn 1) aF) ab))) ab)))) (df (bZ (ai (d__law_is_frac _) (hr.mono (by decide)) (aa (aL (vn 2) ac) ab)))))))))) (aj (ar aF)) aH)
  (aj (ar (vn 3))))))))) ?_
 rintro ws Q ⟨s,f,t,rfl,hk,hQ⟩
 have hf0:decide (Hw "corner" = Hw "corner")=true:=by decide +kernel
 have hf1:decide (Hw "inner" = Hw "corner")=false:=by decide +kernel
 have hf2:decide (Hw "round" = Hw "corner")=false:=by decide +kernel
 have hf3:decide (Hw "corner" = Hw "round")=false:=by decide +kernel
 have hf4:decide (Hw "inner" = Hw "round")=false:=by decide +kernel
 have hf5:decide (Hw "round" = Hw "round")=true:=by decide +kernel
 have he0:HC (.str "cut") (.str "cut")=true:=by decide +kernel
 have he1:HC (.str "cut") (.str "ways")=false:=by decide +kernel
 have he2:HC (.str "ways") (.str "cut")=false:=by decide +kernel
 have he3:HC (.str "ways") (.str "ways")=true:=by decide +kernel
 have hg0:decide (Hw "cut" = Hw "cut")=true:=by decide +kernel
 have hg1:decide (Hw "cut" = Hw "ways")=false:=by decide +kernel
 have hg2:decide (Hw "ways" = Hw "cut")=false:=by decide +kernel
 have hg3:decide (Hw "ways" = Hw "ways")=true:=by decide +kernel
 have sc1:HI (.str "cut")=true:=by decide +kernel
 have sc2:HI (.str "ways")=true:=by decide +kernel
 have eqi:∀i j:Int,HC (.int i) (.int j)=(i==j):=fun i j=>by simp[HC]
 have w0:DS 0=Hw "corner" := rfl
 have w1:DS 1=Hw "inner" := rfl
 have w2:DS 2=Hw "round" := rfl
 refine aB ?_
 have it:∀xs:List Hy,qj (.tuple xs) "tuple" = true:=fun _=>rfl
 have is:∀x:Str,qj (.str x) "str" = true:=fun _=>rfl
 have sh:∀i:Int,HI (.int i)=true:=fun _=>rfl
 have ly:Ih [.int 0,.int 4,.int 6]=true:=rfl
 have y0:([Io 0,.int 4,.int 6].any fun z=>HC z (.int 0))=true:=by decide +kernel
 have y4:([Io 0,.int 4,.int 6].any fun z=>HC z (.int 4))=true:=by decide +kernel
 have y6:([Io 0,.int 4,.int 6].any fun z=>HC z (.int 6))=true:=by decide +kernel
 have l4:=fun(a b:Str)=>(l46 a b).1
 have l6:=fun(a b:Str)=>(l46 a b).2
 cases t with
 | leaf =>
   simp_arith only[ag,ae,qE,hf0,hf1,hf2,hf3,hf4,hf5,he0,he1,he2,he3,hg0,hg1,hg2,hg3,sc1,sc2,eqi,it,sh,ly,y0]
   exact av hQ
 | ways j p q =>
   have c1:decide ((0:Int)<=(j:Int))=true:=by simp
   have c2:decide ((j:Int)<s)=true:=decide_eq_true hk
   simp_arith only[ag,ae,wF,hf0,hf1,hf2,hf3,hf4,hf5,he0,he1,he2,he3,hg0,hg1,hg2,hg3,sc1,sc2,eqi,it,is,sh,ly,y4,ff,l4,ce.eq,c1,c2]
   exact av hQ
 | cut j w x p q =>
   obtain⟨k1,k2,k3⟩:=hk
   have c1:decide ((0:Int)<=(j:Int))=true:=by simp
   have c2:decide ((j:Int)<s)=true:=decide_eq_true k1
   have c3:decide ((0:Int)<=(w:Int))=true:=by simp
   obtain rfl|rfl|rfl:=f3 f
   · have c4:decide ((w:Int)<1)=true:=decide_eq_true k2
     simp_arith only[ag,ae,nu,w0,hf0,hf1,hf2,hf3,hf4,hf5,he0,he1,he2,he3,hg0,hg1,hg2,hg3,sc1,sc2,eqi,it,is,sh,ly,y6,ff,l6,ce.eq,bK.eq,c1,c2,c3,c4,Gp,Go]
     exact av hQ
   · have c4:decide ((w:Int)<2)=true:=decide_eq_true k2
     simp_arith only[ag,ae,nu,w1,hf0,hf1,hf2,hf3,hf4,hf5,he0,he1,he2,he3,hg0,hg1,hg2,hg3,sc1,sc2,eqi,it,is,sh,ly,y6,ff,l6,ce.eq,bK.eq,c1,c2,c3,c4,Gp,Go]
     exact av hQ
   · have c4:decide ((w:Int)<2)=true:=decide_eq_true k2
     simp_arith only[ag,ae,nu,w2,hf0,hf1,hf2,hf3,hf4,hf5,he0,he1,he2,he3,hg0,hg1,hg2,hg3,sc1,sc2,eqi,it,is,sh,ly,y6,ff,l6,ce.eq,bK.eq,c1,c2,c3,c4,Gp,Go]
     exact av hQ
noncomputable def bP:List W->(Hy->Prop)->Prop:=fun ws Q=>∃(ps:List (List Rat))(f:Fin 3)(n:Rat)(cs:List Co)(path:List Int)(t:Tr),ws=[.d (ptsQ ps),.d (.str (DS f)),.d (fr n),.d (FZ cs),.d (.tuple (path.map .int)),.d (Ec t)]/\((FR ps cs.length)/\(EN 1900 n)/\(Hn f cs)/\(Ns cs t)/\(Nk (cs.length:Int) f t)/\(path.length<=36))/\Q (wrD ps n cs t)
theorem bP.mono:∀ws (Q Q':Hy->Prop),(∀d,Q d->Q' d)->bP ws Q->bP ws Q':=fun _ _ _ h_=>HD fun _=>HD fun _=>HD fun _=>HD fun _=>HD fun _=>HD fun _=>HA (HA (h_ _))
theorem bP.len:∀ws (Q:Hy->Prop),bP ws Q->ws.length=6:=fun _ _ h_=>by obtain⟨_,_,_,_,_,_,e_,_⟩:=h_;subst e_;rfl
theorem bP.eq(ps:List (List Rat))(f:Fin 3)(n:Rat)(cs:List Co)(path:List Int)(t:Tr)(hp:FR ps cs.length)(hn:EN 1900 n)(hc:Hn f cs)(hs:Ns cs t)(hk:Nk (cs.length:Int) f t)(hl:path.length<=36):bP [.d (ptsQ ps),.d (.str (DS f)),.d (fr n),.d (FZ cs),.d (.tuple (path.map .int)),.d (Ec t)]=VL.ret (wrD ps n cs t:Hy):=by
 refine ak fun Q=>⟨?_,fun q_=>⟨ps,f,n,cs,path,t,rfl,⟨hp,hn,hc,hs,hk,hl⟩,q_⟩⟩
 rintro⟨ps',f',n',cs',path',t',e_,_,q_⟩
 simp_arith only[cX,bw,bx,aO,aN,bE,cN,eR,fy,fH,gQ,cY,dw,dt,du,db,Ir]at e_
 obtain⟨rfl,rfl,rfl,rfl,rfl,rfl⟩:=e_
 exact q_
theorem jG:FnScope ["_law_pts", "_law_family", "_law_number_here", "_law_cell", "_law_path", "_law_thing", "_law_kind_here", "_law_low", "_law_high", "_law_both"] ["_law_pts", "_law_family", "_law_number_here", "_law_cell", "_law_path", "_law_thing"] (defScope (Ed 71)):=⟨rfl,rfl,rfl,by decide +kernel,rfl,by decide +kernel,by decide +kernel⟩
theorem d__law_word(Fn:FnIn K mg "_law_word" (Ed 71) ["_law_pts", "_law_family", "_law_number_here", "_law_cell", "_law_path", "_law_thing"])(Z:Bz mg)(d__law_kind:∀rl,Dfn P w K mg base rl "_law_kind" ["_law_s", "_law_family", "_law_thing"] 3 cC)(d__law_needs:∀rl,Dfn P w K mg base rl "_law_needs" ["_law_pts", "_law_cell"] 4 bq)(d__law_cmp:∀rl,Dfn P w K mg base rl "_law_cmp" ["_law_one", "_law_other"] 1 bc)   : Dfn P w K mg base rl "_law_word" ["_law_pts", "_law_family", "_law_number_here", "_law_cell", "_law_path", "_law_thing"] 5 bP:=by
 have sc:=jG
 refine Dfn.of Fn sc (bP.mono) (bP.len) (fun cdv A outer s H E hr=>(af (ax 6 sc.nd (ai (d__law_kind _) (hr.mono (by decide)) (aa (cv Z.len_ (aa (vn 3) ab)) (aa (vn 1) (aa (vn 5) ab)))))
  (af (aU (G0.pb (fT (az jb iM (aw _) (cv Z.len_ (aa (vn 4) ab)) ac) (eV (az dv cr (aw _) (vn 6) aF)))) (aj (ar (cj (az jb iM (aw _) (cv Z.len_ (aa (vn 4) ab)) ac) aF aF))) aH)
  (af (aU (az dv cr (aw _) (vn 6) aF) (af (cq (aL (aL (aL (vn 3) (aL (vn 5) ac)) ac) (aL (vn 5) ac)) (bH (n:=2) rfl (aq (am 7 sc.nd) (aq (am 8 sc.nd) aV))))
  (aj (ar (cj (G0.pb (d7 (az dE dY (aw _) (ai (d__law_cmp _) (hr.mono (by decide)) (aa (vn 7) (aa (aL (vn 5) ac) ab))) ac) (df (az dE dY (aw _) (ai (d__law_cmp _) (hr.mono (by decide)) (aa (aL (vn 5) ac) (aa (vn 8) ab))) ac)))) aF aF)))) aH)
  (af (aU (az dv cr (aw _) (vn 6) aF) (aj (ar (cj (G0.pb (d7 (az dv cr (aw _) (vn 1) aF) (df (az jX js (aw _) (aL (aL (vn 3) (aL (vn 5) ac)) ac) dC)))) aF aF))) aH)
  (af (aU (az (eN hr.units) aZ (aw _) (cI ["_law_side"] [none] rfl (gh (vn 3)) (fun _=>(am 0 (show IT (["_law_side"]:List Str) by decide +kernel))) (fun _=>lv (az jX js (aw _) (aL (vn 0) ac) dC)) (fun _=>(vn 0))) (cH ab)) (aj (ar aF)) aH)
  (af (ax 9 sc.nd (ai (d__law_needs _) (hr.mono (by decide)) (aa (vn 0) (aa (vn 3) ab))))
  (af (aU (az dE dY (aw _) (ai (d__law_cmp _) (hr.mono (by decide)) (aa (vn 2) (aa (aL (vn 9) ac) ab))) ac) (aj (ar aF)) aH)
  (aj (ar (cj (az dE dY (aw _) (ai (d__law_cmp _) (hr.mono (by decide)) (aa (vn 2) (aa (aL (vn 9) ac) ab))) ac) aF aF))))))))))) ?_
 rintro ws Q ⟨ps,f,n,cs,path,t,rfl,⟨hp,hn,hc,hs,hk,hl⟩,hQ⟩
 have hf0:decide (Hw "corner" = Hw "corner")=true:=by decide +kernel
 have hf1:decide (Hw "inner" = Hw "corner")=false:=by decide +kernel
 have hf2:decide (Hw "round" = Hw "corner")=false:=by decide +kernel
 have hf3:decide (Hw "corner" = Hw "round")=false:=by decide +kernel
 have hf4:decide (Hw "inner" = Hw "round")=false:=by decide +kernel
 have hf5:decide (Hw "round" = Hw "round")=true:=by decide +kernel
 have he0:HC (.str "cut") (.str "cut")=true:=by decide +kernel
 have he1:HC (.str "cut") (.str "ways")=false:=by decide +kernel
 have he2:HC (.str "ways") (.str "cut")=false:=by decide +kernel
 have he3:HC (.str "ways") (.str "ways")=true:=by decide +kernel
 have hg0:decide (Hw "cut" = Hw "cut")=true:=by decide +kernel
 have hg1:decide (Hw "cut" = Hw "ways")=false:=by decide +kernel
 have hg2:decide (Hw "ways" = Hw "cut")=false:=by decide +kernel
 have hg3:decide (Hw "ways" = Hw "ways")=true:=by decide +kernel
 have sc1:HI (.str "cut")=true:=by decide +kernel
 have sc2:HI (.str "ways")=true:=by decide +kernel
 have eqi:∀i j:Int,HC (.int i) (.int j)=(i==j):=fun i j=>by simp[HC]
 have w0:DS 0=Hw "corner" := rfl
 have w1:DS 1=Hw "inner" := rfl
 have w2:DS 2=Hw "round" := rfl
 refine aB ?_
 have sz:=HV
 have h4:=hc.2.1
 have lc:mT (FZ cs)=some cs.length:=by show some (cs.map F8).length=_;rw[HM]
 have c1:decide ((36:Int)<(path.length:Int))=false:=by simp;omega
 have n2:EN 2000 n:=hn.mono (by decide)
 have hx:∃f,Hn f cs:=⟨f,hc⟩
 have lk:=cC.eq (cs.length:Int) f t hk
 have v1:decide (Hw "leaf" = Hw "")=false:=by decide +kernel
 have v2:decide (Hw "cut" = Hw "")=false:=by decide +kernel
 have v3:decide (Hw "ways" = Hw "")=false:=by decide +kernel
 have v4:decide (Hw "leaf" = Hw "cut")=false:=by decide +kernel
 have v5:decide (Hw "leaf" = Hw "ways")=false:=by decide +kernel
 cases t with
 | leaf =>
   have ha:aW cs:=hs
   have k0:kdD .leaf = .str "leaf" := rfl
   have ll:lstD (FZ cs)=some (cs.map F8):=rfl
   simp_arith only[ag,ae,Hv,lc,lk,k0,c1,v1,v4,v5,ll,hf0,hf1,hf2,hf3,hf4,hf5,he0,he1,he2,he3,hg0,hg1,hg2,hg3,sc1,sc2,eqi]
   refine Eu (pR (xs:=cs) (enc:=F8) (fun _=>none) rfl ?_ (by omega) ?_)
   · intro c mc
     obtain⟨k,hk⟩:∃k,c.1=some k:=by have:=ha c mc;cases z:c.1<;>simp_all
     simp_arith only[ag,ae,FB,ka,hk,DR]
   have fm0:cs.filterMap (fun _=>(none:Option Hy))=[]:=by rw[List.filterMap_eq_nil_iff];exact fun _ _=>rfl
   have s0:HI (.list [])=true:=rfl
   have z0:HC (.list []) (.list [])=true:=rfl
   obtain⟨o1,o2⟩:=mF hp hc ha
   have o1:EN 2000 (EV ps cs):=o1.mono (by decide)
   have o2:EN 2000 (Ft ps cs):=o2.mono (by decide)
   rw[fm0]
   simp_arith only[ag,ae,Hv,s0,z0,bq.eq,bc.eqQ,fS]
   have hQ:Q (if n<EV ps cs then .str "over" else if n<Ft ps cs then .str "lack" else .str ""):=hQ
   by_cases q1:n<EV ps cs
   · rw[if_pos q1]at hQ
     have d1:=decide_eq_true q1
     simp_arith only[ag,ae,d1]
     exact av hQ
   · rw[if_neg q1]at hQ
     have d1:=decide_eq_false q1
     by_cases q2:n<Ft ps cs
     · rw[if_pos q2]at hQ
       have d2:=decide_eq_true q2
       simp_arith only[ag,ae,d1,d2]
       exact av hQ
     · rw[if_neg q2]at hQ
       have d2:=decide_eq_false q2
       simp_arith only[ag,ae,d1,d2]
       exact av hQ
 | ways j p q =>
   obtain⟨hj,hw⟩:=hs
   have e2:=AB hc (show Hm cs (.ways j)from⟨hj,hw⟩)
   subst e2
   have e1:atI cs (j:Int)=some (Gg cs j):=bG (fA hj)
   have e2:DR (Gg cs j).1 = .none:=by rw[hw];rfl
   have k0:kdD (.ways j p q) = .str "ways" := rfl
   simp_arith only[ag,ae,Hv,lc,lk,k0,c1,v3,hf0,hf1,hf2,hf3,hf4,hf5,he0,he1,he2,he3,hg0,hg1,hg2,hg3,sc1,sc2,eqi]
   simp_arith only[ag,ae,wF,w2,hf0,hf1,hf2,hf3,hf4,hf5,he0,he1,he2,he3,hg0,hg1,hg2,hg3,sc1,sc2,eqi,FZ,e1,ka,e2,bF]
   exact av hQ
 | cut j w x p q =>
   obtain⟨hj,hw,l,u,sx⟩:=hs
   have r1:=lH hc hj hw
   have e1:atI cs (j:Int)=some (Gg cs j):=bG (fA hj)
   have e2:atI (Gg cs j).2 (w:Int)=some (EL cs j w):=bG (mD hw)
   have x1:EN 2000 x:=sx.mono (by decide)
   have x2:EN 2000 (EL cs j w).1:=r1.1.mono (by decide)
   have x3:EN 2000 (EL cs j w).2:=r1.2.1.mono (by decide)
   have d1:decide ((EL cs j w).1<x)=true:=decide_eq_true l
   have d2:decide (x<(EL cs j w).2)=true:=decide_eq_true u
   have k0:kdD (.cut j w x p q) = .str "cut" := rfl
   simp_arith only[ag,ae,Hv,lc,lk,k0,c1,v2,hf0,hf1,hf2,hf3,hf4,hf5,he0,he1,he2,he3,hg0,hg1,hg2,hg3,sc1,sc2,eqi]
   simp_arith only[ag,ae,nu,hf0,hf1,hf2,hf3,hf4,hf5,he0,he1,he2,he3,hg0,hg1,hg2,hg3,sc1,sc2,eqi,FZ,e1,ka,EB,e2,qK,bF,Gp,Go,bc.eqQ,fS,d1,d2]
   exact av hQ
noncomputable def br(m:Nat):List W->(Hy->Prop)->Prop:=fun ws Q=>∃(ps:List (List Rat))(f:Fin 3)(n:Rat)(cs:List Co)(path:List Int)(t:Tr),ws=[.d (ptsQ ps),.d (.str (DS f)),.d (fr n),.d (FZ cs),.d (.tuple (path.map .int)),.d (Ec t)]/\(ht t<m/\Wk ps f n cs path t)/\Q .none
theorem br.mono(m:Nat):∀ws (Q Q':Hy->Prop),(∀d,Q d->Q' d)->br m ws Q->br m ws Q':=fun _ _ _ h_=>HD fun _=>HD fun _=>HD fun _=>HD fun _=>HD fun _=>HD fun _=>HA (HA (h_ _))
theorem br.len(m:Nat):∀ws (Q:Hy->Prop),br m ws Q->ws.length=6:=fun _ _ h_=>by obtain⟨_,_,_,_,_,_,e_,_⟩:=h_;subst e_;rfl
theorem br.eq(m:Nat)(ps:List (List Rat))(f:Fin 3)(n:Rat)(cs:List Co)(path:List Int)(t:Tr)(h:ht t<m)(hk:Wk ps f n cs path t):br m [.d (ptsQ ps),.d (.str (DS f)),.d (fr n),.d (FZ cs),.d (.tuple (path.map .int)),.d (Ec t)]=VL.ret (.none:Hy):=by
 refine ak fun Q=>⟨?_,fun q_=>⟨ps,f,n,cs,path,t,rfl,⟨h,hk⟩,q_⟩⟩
 rintro⟨_,_,_,_,_,_,_,_,q_⟩
 exact q_
theorem Wk.wr{n:Rat}{cs:List Co}{path:List Int}{t:Tr}(h:Wk ps f n cs path t):wrD ps n cs t = .str "" := by
 obtain⟨hp,hc,hw,hn,sn,hl⟩:=h
 cases t with
 | leaf =>
   have h1:EV ps cs<=n:=IN (fu _ _) hn
   have h2:Ft ps cs<=n:=IN (gF _ _) hn
   show(if n<EV ps cs then _ else if n<Ft ps cs then _ else _)=_
   rw[if_neg (Kj.mpr h1),if_neg (Kj.mpr h2)]
 | cut=>rfl
 | ways=>rfl
theorem i6:FnScope ["_law_pts", "_law_family", "_law_number_here", "_law_cell", "_law_path", "_law_thing", "_law_word_here", "_law_cells", "_law_first_here"] ["_law_pts", "_law_family", "_law_number_here", "_law_cell", "_law_path", "_law_thing"] (defScope (Ed 72)):=⟨rfl,rfl,rfl,by decide +kernel,rfl,by decide +kernel,by decide +kernel⟩
theorem hR(n:Nat)(Fn:FnIn K mg "_law_fault" (Ed 72) ["_law_pts", "_law_family", "_law_number_here", "_law_cell", "_law_path", "_law_thing"])(Z:Bz mg)(d__law_word:∀rl,Dfn P w K mg base rl "_law_word" ["_law_pts", "_law_family", "_law_number_here", "_law_cell", "_law_path", "_law_thing"] 5 bP)(d__law_behind:∀rl,Dfn P w K mg base rl "_law_behind" ["_law_cell", "_law_node"] 1 aM)(d__law_fault:∀rl,Dfn P w K mg base rl "_law_fault" ["_law_pts", "_law_family", "_law_number_here", "_law_cell", "_law_path", "_law_thing"] (5+n) (br n)):Dfn P w K mg base rl "_law_fault" ["_law_pts", "_law_family", "_law_number_here", "_law_cell", "_law_path", "_law_thing"] (5+n+1) (br (n+1)):=by
 have sc:=i6
 refine Dfn.of Fn sc (br.mono _) (br.len _) (fun cdv A outer s H E hr=>(af (ax 6 sc.nd (ai (d__law_word _) (hr.mono (by omega)) (aa (vn 0) (aa (vn 1) (aa (vn 2) (aa (vn 3) (aa (vn 4) (aa (vn 5) ab))))))))
  (af (aU (az mG h7 (aw _) (vn 6) aF) (aj (ar (aP (aa (vn 4) (aa (vn 6) ab))))) aH)
  (af (aU (az (bM hr.units) aZ (aw _) (vn 5) (aP ab)) (aj (ar dC)) aH)
  (af (ax 7 sc.nd (ai (d__law_behind _) (hr.mono (by omega)) (aa (vn 3) (aa (vn 5) ab))))
  (af (ax 8 sc.nd (ai (d__law_fault _) (hr.mono (by omega)) (aa (vn 0) (aa (vn 1) (aa (vn 2) (aa (aL (vn 7) ac) (aa (eI (vn 4) (aP (aa ac ab))) (aa (aL (vn 5) (gW ac)) ab))))))))
  (af (aU (az oD mX (aw _) (vn 8) dC) (aj (ar (vn 8))) aH)
  (aj (ar (ai (d__law_fault _) (hr.mono (by omega)) (aa (vn 0) (aa (vn 1) (aa (vn 2) (aa (aL (vn 7) ac) (aa (eI (vn 4) (aP (aa ac ab))) (aa (aL (vn 5) (gW ac)) ab)))))))))))))))) ?_
 rintro ws Q ⟨ps,f,x,cs,path,t,rfl,⟨hm,hk⟩,hQ⟩
 refine aB ?_
 have sz:=HV
 obtain⟨k1,k2,k3⟩:=hk.nk
 have kw:=hk.wr
 have h4:=hk.hc.2.1
 have hl:=hk.hl
 have hl2:path.length<=36:=by omega
 have c2:=p4 hk.hc
 have h50:ht t<=50:=by omega
 have sh:=dg h50
 have s0:HI (.tuple [])=true:=rfl
 have v1:decide (Hw "" = Hw "")=true:=by decide +kernel
 have pw:=bP.eq ps f x cs path t hk.hp hk.sn hk.hc k2 k1 hl2
 rcases hk.two with rfl|⟨hd,p,q,et,ft,t1,t2,w1,w2⟩
 · rw[qE]at pw
   simp_arith only[ag,ae,qE,pw,kw,v1]
   exact av hQ
 · have tn:HC (Ec t) (.tuple [])=false:=jv (by rintro rfl;exact absurd t1 (JL _))
   have bh:=aM.eq cs hd [Ec p,Ec q] h4 c2 ft
   rw[<- et]at bh
   obtain⟨xs,ex,x2,x1,_⟩:=uT hd (Ec p) (Ec q)
   have ex:=et.trans ex
   have i1:VL.itemAt (Ec t) (-1)=some (Ec q):=by rw[ex];exact x1
   have i2:VL.itemAt (Ec t) (-2)=some (Ec p):=by rw[ex];exact x2
   have ap:∀i:Int,path.map Io++[.int i]=(path++[i]).map Io:=fun i=>by rw[IS];rfl
   have pl:path.length+1<=sizeLine:=by omega
   have p1:=br.eq n ps f x _ _ p (by omega) w1
   have p2:=br.eq n ps f x _ _ q (by omega) w2
   simp_arith only[ag,ae,pw,kw,v1,tn,s0,sh,bh,i1,i2,ap,p1,p2]
   exact av hQ
theorem hU(Fn:FnIn K mg "_law_fault" (Ed 72) ["_law_pts", "_law_family", "_law_number_here", "_law_cell", "_law_path", "_law_thing"])(Z:Bz mg)(d__law_word:∀rl,Dfn P w K mg base rl "_law_word" ["_law_pts", "_law_family", "_law_number_here", "_law_cell", "_law_path", "_law_thing"] 5 bP)(d__law_behind:∀rl,Dfn P w K mg base rl "_law_behind" ["_law_cell", "_law_node"] 1 aM)(n:Nat):∀rl,Dfn P w K mg base rl "_law_fault" ["_law_pts", "_law_family", "_law_number_here", "_law_cell", "_law_path", "_law_thing"] (5+n) (br n):=by
 induction n with
 | zero=>exact fun rl=>Dfn.never Fn (fun _ _ ⟨_,_,_,_,_,_,_,⟨z,_⟩,_⟩=>absurd z (JL _))
 | succ n ih=>exact fun rl=>hR n Fn Z d__law_word d__law_behind   ih
theorem d__law_fault(Fn:FnIn K mg "_law_fault" (Ed 72) ["_law_pts", "_law_family", "_law_number_here", "_law_cell", "_law_path", "_law_thing"])(Z:Bz mg)(d__law_word:∀rl,Dfn P w K mg base rl "_law_word" ["_law_pts", "_law_family", "_law_number_here", "_law_cell", "_law_path", "_law_thing"] 5 bP)(d__law_behind:∀rl,Dfn P w K mg base rl "_law_behind" ["_law_cell", "_law_node"] 1 aM)   : Dfn P w K mg base rl "_law_fault" ["_law_pts", "_law_family", "_law_number_here", "_law_cell", "_law_path", "_law_thing"] 17 (br 12):=hU Fn Z d__law_word d__law_behind   12 rl
noncomputable def cU:List W->(Hy->Prop)->Prop:=fun ws Q=>∃(ps:List (List Rat))(f:Fin 3)(n:Rat)(t:Tr),ws=[.d (ptsQ ps),.d (.str (DS f)),.d (fr n),.d (Ec t)]/\((Wk ps f n (FW f (dimP ps)) [] t)/\(ht t<12))/\Q (.bool true)
theorem cU.mono:∀ws (Q Q':Hy->Prop),(∀d,Q d->Q' d)->cU ws Q->cU ws Q':=fun _ _ _ h_=>HD fun _=>HD fun _=>HD fun _=>HD fun _=>HA (HA (h_ _))
theorem cU.len:∀ws (Q:Hy->Prop),cU ws Q->ws.length=4:=fun _ _ h_=>by obtain⟨_,_,_,_,e_,_⟩:=h_;subst e_;rfl
theorem cU.eq(ps:List (List Rat))(f:Fin 3)(n:Rat)(t:Tr)(hk:Wk ps f n (FW f (dimP ps)) [] t)(h8:ht t<12):cU [.d (ptsQ ps),.d (.str (DS f)),.d (fr n),.d (Ec t)]=VL.ret (.bool true:Hy):=by
 refine ak fun Q=>⟨?_,fun q_=>⟨ps,f,n,t,rfl,⟨hk,h8⟩,q_⟩⟩
 rintro⟨ps',f',n',t',e_,_,q_⟩
 simp_arith only[cX,bw,bx,aO,aN,bE,cN,eR,fy,fH,gQ,cY,dw,dt,du,db,Ir]at e_
 obtain⟨rfl,rfl,rfl,rfl⟩:=e_
 exact q_
theorem kH:FnScope ["_law_pts", "_law_family", "_law_number_here", "_law_thing", "_law_found"] ["_law_pts", "_law_family", "_law_number_here", "_law_thing"] (defScope (Ed 73)):=⟨rfl,rfl,rfl,by decide +kernel,rfl,by decide +kernel,by decide +kernel⟩
theorem d__law_due(Fn:FnIn K mg "_law_due" (Ed 73) ["_law_pts", "_law_family", "_law_number_here", "_law_thing"])(Z:Bz mg)(d__law_fault:∀rl,Dfn P w K mg base rl "_law_fault" ["_law_pts", "_law_family", "_law_number_here", "_law_cell", "_law_path", "_law_thing"] 17 (br 12))(d__law_first:∀rl,Dfn P w K mg base rl "_law_first" ["_law_s", "_law_family"] 1 bN)   : Dfn P w K mg base rl "_law_due" ["_law_pts", "_law_family", "_law_number_here", "_law_thing"] 18 cU:=by
 have sc:=kH
 refine Dfn.of Fn sc (cU.mono) (cU.len) (fun cdv A outer s H E hr=>(af (ax 4 sc.nd (ai (d__law_fault _) (hr.mono (by decide)) (aa (vn 0) (aa (vn 1) (aa (vn 2) (aa (ai (d__law_first _) (hr.mono (by decide)) (aa (cv Z.len_ (aa (aL (vn 0) ac) ab)) (aa (vn 1) ab))) (aa (aP ab) (aa (vn 3) ab))))))))
  (aj (ar (cj (az jX js (aw _) (vn 4) dC) eC (vn 4)))))) ?_
 rintro ws Q ⟨ps,f,n,t,rfl,⟨hk,h8⟩,hQ⟩
 refine aB ?_
 have hp:=hk.hp
 have e0:(FW f (dimP ps)).length=dimP ps:=by unfold FW;rw[JJ]
 rw[e0]at hp
 have g1:=hp.1
 have ah:=p9 g1
 have ed:(ps.headD []).length=dimP ps:=rfl
 have g2:1<=(dimP ps:Int):=by have:=hp.2.2.2.1;omega
 have g3:(dimP ps:Int)<=4:=by have:=hp.2.2.2.2;omega
 have e1:(dimP ps:Int).toNat=dimP ps:=JS _
 have fc:=bN.eq (dimP ps:Int) f g2 g3
 rw[e1]at fc
 have pw:=br.eq 12 ps f n _ _ t h8 hk
 rw[K7]at pw
 simp_arith only[ag,ae,Hv,ah,ed,fc,pw]
 exact av hQ
noncomputable def bp:List W->(Hy->Prop)->Prop:=fun ws Q=>∃(ps:List (List Rat))(f:Fin 3)(n:Rat)(t:Tr),ws=[.d (ptsQ ps),.d (.str (DS f)),.d (fr n),.d (Ec t)]/\((Wk ps f n (FW f (dimP ps)) [] t)/\(ht t<12))/\Q (.bool true)
theorem bp.mono:∀ws (Q Q':Hy->Prop),(∀d,Q d->Q' d)->bp ws Q->bp ws Q':=fun _ _ _ h_=>HD fun _=>HD fun _=>HD fun _=>HD fun _=>HA (HA (h_ _))
theorem bp.len:∀ws (Q:Hy->Prop),bp ws Q->ws.length=4:=fun _ _ h_=>by obtain⟨_,_,_,_,e_,_⟩:=h_;subst e_;rfl
theorem bp.eq(ps:List (List Rat))(f:Fin 3)(n:Rat)(t:Tr)(hk:Wk ps f n (FW f (dimP ps)) [] t)(h8:ht t<12):bp [.d (ptsQ ps),.d (.str (DS f)),.d (fr n),.d (Ec t)]=VL.ret (.bool true:Hy):=by
 refine ak fun Q=>⟨?_,fun q_=>⟨ps,f,n,t,rfl,⟨hk,h8⟩,q_⟩⟩
 rintro⟨ps',f',n',t',e_,_,q_⟩
 simp_arith only[cX,bw,bx,aO,aN,bE,cN,eR,fy,fH,gQ,cY,dw,dt,du,db,Ir]at e_
 obtain⟨rfl,rfl,rfl,rfl⟩:=e_
 exact q_
theorem i3:FnScope ["_law_pts", "_law_family", "_law_number_here", "_law_paper"] ["_law_pts", "_law_family", "_law_number_here", "_law_paper"] (defScope (Ed 75)):=⟨rfl,rfl,rfl,by decide +kernel,rfl,by decide +kernel,by decide +kernel⟩
theorem d__law_right(Fn:FnIn K mg "_law_right" (Ed 75) ["_law_pts", "_law_family", "_law_number_here", "_law_paper"])(Z:Bz mg)(d__law_due:∀rl,Dfn P w K mg base rl "_law_due" ["_law_pts", "_law_family", "_law_number_here", "_law_thing"] 18 cU)(d_lets_even:∀rl,Dfn P w K mg base rl "lets_even" ["points", "family", "number", "thing"] 21 cz)   : Dfn P w K mg base rl "_law_right" ["_law_pts", "_law_family", "_law_number_here", "_law_paper"] 22 bp:=by
 have sc:=i3
 refine Dfn.of Fn sc (bp.mono) (bp.len) (fun cdv A outer s H E hr=>(aj (ar (v_and (cW sU sB (aw _) (ai (d__law_due _) (hr.mono (by decide)) (aa (vn 0) (aa (vn 1) (aa (vn 2) (aa (vn 3) ab))))) eC) (iQ (cW sU sB (aw _) (ai (d_lets_even _) (hr.mono (by decide)) (aa (vn 0) (aa (vn 1) (aa (vn 2) (aa (vn 3) ab))))) eC)))))) ?_
 rintro ws Q ⟨ps,f,n,t,rfl,⟨hk,h8⟩,hQ⟩
 refine aB ?_
 simp_arith only[ag,ae,cU.eq,cz.eq]
 exact av hQ
noncomputable def Ea(f:Fin 3)(s:Nat)(z:List (List Rat)×List (List Rat)×Tr):Hy:=.tuple [ptsQ z.1,ptsQ z.2.1,FZ (FW f s),Ec z.2.2]
noncomputable def D_(f:Fin 3)(s:Nat)(z:List (List Rat)×List (List Rat)×Tr):Prop:=FR z.1 s/\FR z.2.1 s/\Wf (FW f s) z.2.2/\ht z.2.2<=8
theorem yh{s:Nat}(h:AL s m ps)(hm:m<=6)(s1:1<=s)(s4:s<=4):FR ps s:=by
 obtain⟨h1,h2,hp,_⟩:=h
 exact⟨h1,by omega,hp,s1,s4⟩
theorem xI(cs:List Co):EW cs<=cs.length:=List.countP_le_length ..
theorem lU(f:Fin 3)(s:Nat):(FW f s).length=s:=by unfold FW;rw[JJ]
noncomputable def a_:List W->(Hy->Prop)->Prop:=fun ws Q=>∃(s:Int)(f:Fin 3),ws=[.reel,.d (.int s),.d (.str (DS f))]/\((1<=s)/\(s<=4))/\∀z:List (List Rat)×List (List Rat)×Tr,(D_ f s.toNat z)->Q (Ea f s.toNat z)
theorem a_.mono:∀ws (Q Q':Hy->Prop),(∀d,Q d->Q' d)->a_ ws Q->a_ ws Q':=fun _ _ _ h_=>HD fun _=>HD fun _=>HA (HA fun q_ o_ ho_=>h_ _ (q_ o_ ho_))
theorem a_.len:∀ws (Q:Hy->Prop),a_ ws Q->ws.length=3:=fun _ _ h_=>by obtain⟨_,_,e_,_⟩:=h_;subst e_;rfl
theorem a_.eq(s:Int)(f:Fin 3)(s1:1<=s)(s4:s<=4):a_ [.reel,.d (.int s),.d (.str (DS f))]=Gh (anyM fun z:List (List Rat)×List (List Rat)×Tr=>D_ f s.toNat z) fun z=>VL.ret (Ea f s.toNat z:Hy):=by
 refine ak fun Q=>⟨?_,fun q_=>⟨s,f,rfl,⟨s1,s4⟩,q_⟩⟩
 rintro⟨s',f',e_,_,q_⟩
 simp_arith only[cX,bw,bx,aO,aN,bE,cN,eR,fy,fH,gQ,cY,dw,dt,du,db,Ir]at e_
 obtain⟨rfl,rfl⟩:=e_
 exact q_
theorem eX:FnScope ["_law_feed_here", "_law_s", "_law_family", "_law_pts", "_law_others", "_law_cell", "_law_most"] ["_law_feed_here", "_law_s", "_law_family"] (defScope (Ed 74)):=⟨rfl,rfl,rfl,by decide +kernel,rfl,by decide +kernel,by decide +kernel⟩
theorem d__law_tree_world(Fn:FnIn K mg "_law_tree_world" (Ed 74) ["_law_feed_here", "_law_s", "_law_family"])(Z:Bz mg)(d__law_points:∀rl,Dfn P w K mg base rl "_law_points" ["_law_feed_here", "_law_s", "_law_most"] 3 bQ)(d__law_first:∀rl,Dfn P w K mg base rl "_law_first" ["_law_s", "_law_family"] 1 bN)(d__law_tree:∀rl,Dfn P w K mg base rl "_law_tree" ["_law_feed_here", "_law_pts", "_law_cell", "_law_deep"] 14 (bD 12))(d__law_draw:∀rl,Dfn P w K mg base rl "_law_draw" ["_law_feed_here", "_law_many"] 1 aT)   : Dfn P w K mg base rl "_law_tree_world" ["_law_feed_here", "_law_s", "_law_family"] 15 a_:=by
 have sc:=eX
 refine Dfn.of Fn sc (a_.mono) (a_.len) (fun cdv A outer s H E hr=>(af (ax 3 sc.nd (ai (d__law_points _) (hr.mono (by decide)) (aa (vn 0) (aa (vn 1) (aa (aL (cH (aa ac (aa ac (aa ac (aa ac ab))))) (v_sub (vn 1) ac)) ab)))))
  (af (ax 4 sc.nd (ai (d__law_points _) (hr.mono (by decide)) (aa (vn 0) (aa (vn 1) (aa ac ab)))))
  (af (ax 5 sc.nd (ai (d__law_first _) (hr.mono (by decide)) (aa (vn 1) (aa (vn 2) ab))))
  (af (ax 6 sc.nd (aL (m9 (hr.mono (Ip _)) (by decide +kernel) (aP (aa ac (aa ac (aa ac (aa ac ab))))) (aP (aa ac (aa ac (aa ac (aa ac ab))))) (aP (aa ac (aa ac (aa ac (aa ac ab))))) (vn 2)) (v_sub (vn 1) ac)))
  (aj (ar (aP (aa (vn 3) (aa (vn 4) (aa (vn 5) (aa (ai (d__law_tree _) (hr.mono (by decide)) (aa (vn 0) (aa (vn 3) (aa (vn 5) (aa (v_add ac (ai (d__law_draw _) (hr.mono (by decide)) (aa (vn 0) (aa (vn 6) ab)))) ab))))) ab)))))))))))) ?_
 rintro ws Q ⟨s,f,rfl,⟨s1,s4⟩,hQ⟩
 have hf0:decide (Hw "corner" = Hw "corner")=true:=by decide +kernel
 have hf1:decide (Hw "inner" = Hw "corner")=false:=by decide +kernel
 have hf2:decide (Hw "round" = Hw "corner")=false:=by decide +kernel
 have hf3:decide (Hw "corner" = Hw "round")=false:=by decide +kernel
 have hf4:decide (Hw "inner" = Hw "round")=false:=by decide +kernel
 have hf5:decide (Hw "round" = Hw "round")=true:=by decide +kernel
 have he0:HC (.str "cut") (.str "cut")=true:=by decide +kernel
 have he1:HC (.str "cut") (.str "ways")=false:=by decide +kernel
 have he2:HC (.str "ways") (.str "cut")=false:=by decide +kernel
 have he3:HC (.str "ways") (.str "ways")=true:=by decide +kernel
 have hg0:decide (Hw "cut" = Hw "cut")=true:=by decide +kernel
 have hg1:decide (Hw "cut" = Hw "ways")=false:=by decide +kernel
 have hg2:decide (Hw "ways" = Hw "cut")=false:=by decide +kernel
 have hg3:decide (Hw "ways" = Hw "ways")=true:=by decide +kernel
 have sc1:HI (.str "cut")=true:=by decide +kernel
 have sc2:HI (.str "ways")=true:=by decide +kernel
 have eqi:∀i j:Int,HC (.int i) (.int j)=(i==j):=fun i j=>by simp[HC]
 have w0:DS 0=Hw "corner" := rfl
 have w1:DS 1=Hw "inner" := rfl
 have w2:DS 2=Hw "round" := rfl
 refine aB ?_
 have sz:=HV
 have fc:=bN.eq s f s1 s4
 have fl:=lU f s.toNat
 have fo:=rP (f:=f) (s:=s.toNat) (by omega) (by omega)
 have ol:=xI (FW f s.toNat)
 rw[fl]at ol
 simp_arith only[ag,ae,aQ,aR,aE,aS,aG,ay,Hv]
 refine Et (c_ (xs:=[6,5,4,3]) (enc:=Io) (fun y:Int=>1<=y/\y<=6) rfl (by omega) (by show s-1<4;omega) (by decide) fun m hm=>?_)
 obtain⟨m1,m6⟩:=hm
 simp_arith only[ag,ae,aQ,aR,aE,aS,aG,ay,Hv,bQ.eq]
 (with_reducible (first|refine aD fun ps hps=>?_|refine aK fun ps hps=>?_))
 simp_arith only[ag,ae,aQ,aR,aE,aS,aG,ay,Hv,bQ.eq]
 (with_reducible (first|refine aD fun qs hqs=>?_|refine aK fun qs hqs=>?_))
 have hp:=yh hps (by omega) (by omega) (by omega)
 have hq:=yh hqs (by decide) (by omega) (by omega)
 have fin:∀m:Int,1<=m->m<=4->∀k:Int,0<=k->k<m->bD 12 [.reel,.d (ptsQ ps),.d (FZ (FW f s.toNat)),.d (.int (1+k))]=Gh (anyM fun t:Tr=>Wf (FW f s.toNat) t/\ht t<=(1+k).toNat+EW (FW f s.toNat)) fun t=>VL.ret (Ec t):=fun m h1 h2 k h3 h4=>bD.eq 12 ps _ (1+k) (by omega) (by omega) (by omega) (by rw[fl];exact hp) ⟨f,fo⟩
 have four:∀{k:Hy->Mo Fl}{QQ:Fl->Prop}(a b c d:Int),(1<=a/\a<=4)/\(1<=b/\b<=4)/\(1<=c/\c<=4)/\(1<=d/\d<=4)->(∀m:Int,1<=m->m<=4->k (.int m) QQ)->bB (atI [Io a,.int b,.int c,.int d] (s-1)) k QQ:=fun a b c d h hk=>c_ (xs:=[a,b,c,d]) (enc:=Io) (fun y:Int=>1<=y/\y<=4) rfl (by omega) (by show s-1<4;omega) (by intro z mz;simp only[IC,JC,or_false]at mz;rcases mz with rfl|rfl|rfl|rfl<;>omega) fun y hy=>hk y hy.1 hy.2
 simp_arith only[ag,ae,aQ,aR,aE,aS,aG,ay,Hv,fc]
 clear fc
 obtain rfl|rfl|rfl:=f3 f
 · simp_arith only[ag,ae,aQ,aR,aE,aS,aG,ay,Hv,w0,hf0,hf1,hf2,hf3,hf4,hf5,he0,he1,he2,he3,hg0,hg1,hg2,hg3,sc1,sc2,eqi,eu,Fw]
   refine Et (four _ _ _ _ (by decide) fun m h1 h2=>?_)
   have g1:0<m:=by omega
   have g2:m<2^60:=by omega
   simp_arith only[ag,ae,aQ,aR,aE,aS,aG,ay,Hv,aT.eq]
   (with_reducible (first|refine aD fun k hk=>?_|refine aK fun k hk=>?_))
   have pt:=fin m h1 h2 k hk.1 hk.2
   simp_arith only[ag,ae,aQ,aR,aE,aS,aG,ay,Hv,pt]
   (with_reducible (first|refine aD fun t htt=>?_|refine aK fun t htt=>?_))
   exact av (hQ (ps,qs,t) ⟨hp,hq,htt.1,by have:=htt.2;show ht t<=8;omega⟩)
 · simp_arith only[ag,ae,aQ,aR,aE,aS,aG,ay,Hv,w1,hf0,hf1,hf2,hf3,hf4,hf5,he0,he1,he2,he3,hg0,hg1,hg2,hg3,sc1,sc2,eqi,eu,Fv]
   refine Et (four _ _ _ _ (by decide) fun m h1 h2=>?_)
   have g1:0<m:=by omega
   have g2:m<2^60:=by omega
   simp_arith only[ag,ae,aQ,aR,aE,aS,aG,ay,Hv,aT.eq]
   (with_reducible (first|refine aD fun k hk=>?_|refine aK fun k hk=>?_))
   have pt:=fin m h1 h2 k hk.1 hk.2
   simp_arith only[ag,ae,aQ,aR,aE,aS,aG,ay,Hv,pt]
   (with_reducible (first|refine aD fun t htt=>?_|refine aK fun t htt=>?_))
   exact av (hQ (ps,qs,t) ⟨hp,hq,htt.1,by have:=htt.2;show ht t<=8;omega⟩)
 · simp_arith only[ag,ae,aQ,aR,aE,aS,aG,ay,Hv,w2,hf0,hf1,hf2,hf3,hf4,hf5,he0,he1,he2,he3,hg0,hg1,hg2,hg3,sc1,sc2,eqi,eu,Fu]
   refine Et (four _ _ _ _ (by decide) fun m h1 h2=>?_)
   have g1:0<m:=by omega
   have g2:m<2^60:=by omega
   simp_arith only[ag,ae,aQ,aR,aE,aS,aG,ay,Hv,aT.eq]
   (with_reducible (first|refine aD fun k hk=>?_|refine aK fun k hk=>?_))
   have pt:=fin m h1 h2 k hk.1 hk.2
   simp_arith only[ag,ae,aQ,aR,aE,aS,aG,ay,Hv,pt]
   (with_reducible (first|refine aD fun t htt=>?_|refine aK fun t htt=>?_))
   exact av (hQ (ps,qs,t) ⟨hp,hq,htt.1,by have:=htt.2;show ht t<=8;omega⟩)
noncomputable def FE:Tr->Tr
 | .leaf=>.leaf
 | .ways _ p _=>FE p
 | .cut j w x p q=>.cut j w x (FE p) (FE q)
noncomputable def F7:Tr->Tr
 | .leaf=>.leaf
 | .ways _ _ _=>.leaf
 | .cut j w x p q=>if w=0 then F7 p else .cut j 0 x (F7 p) (F7 q)
noncomputable def E8:Tr->Prop
 | .leaf=>True
 | .ways _ _ _=>False
 | .cut _ _ _ p q=>E8 p/\E8 q
theorem rq:∀t:Tr,ht (FE t)<=ht t
 | .leaf=>HS _
 | .ways _ p q=>by
   have:=rq p
   show ht (FE p)<=max (ht p) (ht q)+1
   omega
 | .cut _ _ _ p q=>by
   have h1:=rq p
   have h2:=rq q
   show max (ht (FE p)) (ht (FE q))+1<=max (ht p) (ht q)+1
   omega
theorem r_:∀t:Tr,ht (F7 t)<=ht t
 | .leaf=>HS _
 | .ways _ p q=>Ip _
 | .cut j w x p q=>by
   have h1:=r_ p
   have h2:=r_ q
   unfold F7
   split
   · show _<=max (ht p) (ht q)+1
     omega
   · show max (ht (F7 p)) (ht (F7 q))+1<=max (ht p) (ht q)+1
     omega
theorem rp:∀t:Tr,E8 (FE t)
 | .leaf=>trivial
 | .ways _ p _=>rp p
 | .cut _ _ _ p q=>⟨rp p,rp q⟩
noncomputable def bo(m:Nat):List W->(Hy->Prop)->Prop:=fun ws Q=>∃t:Tr,ws=[.d (Ec t)]/\(ht t<m/\ht t<=50)/\Q (Ec (FE t))
theorem bo.mono(m:Nat):∀ws (Q Q':Hy->Prop),(∀d,Q d->Q' d)->bo m ws Q->bo m ws Q':=fun _ _ _ h_=>HD fun _=>HA (HA (h_ _))
theorem bo.len(m:Nat):∀ws (Q:Hy->Prop),bo m ws Q->ws.length=1:=fun _ _ h_=>by obtain⟨_,e_,_⟩:=h_;subst e_;rfl
theorem bo.eq(m:Nat)(t:Tr)(h:ht t<m)(h50:ht t<=50):bo m [.d (Ec t)]=VL.ret (Ec (FE t)):=by
 refine ak fun Q=>⟨?_,fun q_=>⟨t,rfl,⟨h,h50⟩,q_⟩⟩
 rintro⟨t',e_,_,q_⟩
 simp only[Il,W.d.injEq,cY,and_true]at e_
 subst e_
 exact q_
noncomputable def ba(m:Nat):List W->(Hy->Prop)->Prop:=fun ws Q=>∃t:Tr,ws=[.d (Ec t)]/\(ht t<m/\ht t<=50/\E8 t)/\Q (Ec (F7 t))
theorem ba.mono(m:Nat):∀ws (Q Q':Hy->Prop),(∀d,Q d->Q' d)->ba m ws Q->ba m ws Q':=fun _ _ _ h_=>HD fun _=>HA (HA (h_ _))
theorem ba.len(m:Nat):∀ws (Q:Hy->Prop),ba m ws Q->ws.length=1:=fun _ _ h_=>by obtain⟨_,e_,_⟩:=h_;subst e_;rfl
theorem ba.eq(m:Nat)(t:Tr)(h:ht t<m)(h50:ht t<=50)(hn:E8 t):ba m [.d (Ec t)]=VL.ret (Ec (F7 t)):=by
 refine ak fun Q=>⟨?_,fun q_=>⟨t,rfl,⟨h,h50,hn⟩,q_⟩⟩
 rintro⟨t',e_,_,q_⟩
 simp only[Il,W.d.injEq,cY,and_true]at e_
 subst e_
 exact q_
theorem tz(a b c d e f:Hy):VL.cutD [a,b,c,d,e,f] (some (-2)) none=[e,f]/\VL.cutD [a,b,c,d,e,f] none (some (-2))=[a,b,c,d]:=⟨rfl,rfl⟩
theorem i0:FnScope ["paper"] ["paper"] (defScope (Ed 48)):=⟨rfl,rfl,rfl,by decide +kernel,rfl,by decide +kernel,by decide +kernel⟩
theorem hG(n:Nat)(Fn:FnIn K mg "even_inner" (Ed 48) ["paper"])(Z:Bz mg)(d_even_inner:∀rl,Dfn P w K mg base rl "even_inner" ["paper"] (0+n) (bo n)):Dfn P w K mg base rl "even_inner" ["paper"] (0+n+1) (bo (n+1)):=by
 have sc:=i0
 refine Dfn.of Fn sc (bo.mono _) (bo.len _) (fun cdv A outer s H E hr=>(af (aU (az (bM hr.units) aZ (aw _) (vn 0) (aP ab)) (aj (ar (aP ab))) aH)
  (af (aU (az (bM hr.units) aZ (aw _) (aL (vn 0) ac) aF) (aj (ar (ai (d_even_inner _) (hr.mono (by omega)) (aa (aL (vn 0) ac) ab)))) aH)
  (aj (ar (eI (iP (vn 0) cR (cu (gW ac))) (gi Z.tuple_ (aa (cI ["part"] [none] rfl (dA (iP (vn 0) (cu (gW ac)) cR)) (fun _=>(am 0 (show IT (["part"]:List Str) by decide +kernel))) (fun _=>dr) (fun _=>(ai (d_even_inner _) (hr.mono (by omega)) (aa (vn 0) ab)))) ab)))))))) ?_
 have hf0:decide (Hw "corner" = Hw "corner")=true:=by decide +kernel
 have hf1:decide (Hw "inner" = Hw "corner")=false:=by decide +kernel
 have hf2:decide (Hw "round" = Hw "corner")=false:=by decide +kernel
 have hf3:decide (Hw "corner" = Hw "round")=false:=by decide +kernel
 have hf4:decide (Hw "inner" = Hw "round")=false:=by decide +kernel
 have hf5:decide (Hw "round" = Hw "round")=true:=by decide +kernel
 have he0:HC (.str "cut") (.str "cut")=true:=by decide +kernel
 have he1:HC (.str "cut") (.str "ways")=false:=by decide +kernel
 have he2:HC (.str "ways") (.str "cut")=false:=by decide +kernel
 have he3:HC (.str "ways") (.str "ways")=true:=by decide +kernel
 have hg0:decide (Hw "cut" = Hw "cut")=true:=by decide +kernel
 have hg1:decide (Hw "cut" = Hw "ways")=false:=by decide +kernel
 have hg2:decide (Hw "ways" = Hw "cut")=false:=by decide +kernel
 have hg3:decide (Hw "ways" = Hw "ways")=true:=by decide +kernel
 have sc1:HI (.str "cut")=true:=by decide +kernel
 have sc2:HI (.str "ways")=true:=by decide +kernel
 have eqi:∀i j:Int,HC (.int i) (.int j)=(i==j):=fun i j=>by simp[HC]
 rintro ws Q ⟨t,rfl,⟨hm,h50⟩,hQ⟩
 refine aB ?_
 have sz:=HV
 have sh:=dg h50
 have s0:HI (.tuple [])=true:=rfl
 have m1:=fun a b c d e f=>(tz a b c d e f).1
 have m2:=fun a b c d e f=>(tz a b c d e f).2
 cases t with
 | leaf =>
   simp_arith only[ag,ae,qE]
   exact av hQ
 | ways j p q =>
   have tn:HC (Ec (.ways j p q)) (.tuple [])=false:=rfl
   have e:ht (.ways j p q)=max (ht p) (ht q)+1:=rfl
   have pi:=bo.eq n p (by omega) (by omega)
   simp_arith only[ag,ae,sh,s0,tn]
   simp_arith only[ag,ae,wF,hf0,hf1,hf2,hf3,hf4,hf5,he0,he1,he2,he3,hg0,hg1,hg2,hg3,sc1,sc2,eqi,Gp,pi]
   exact av hQ
 | cut j w x p q =>
   have tn:HC (Ec (.cut j w x p q)) (.tuple [])=false:=rfl
   have e:ht (.cut j w x p q)=max (ht p) (ht q)+1:=rfl
   have p1:=bo.eq n p (by omega) (by omega)
   have p2:=bo.eq n q (by omega) (by omega)
   simp_arith only[ag,ae,sh,s0,tn]
   simp_arith only[ag,ae,nu,hf0,hf1,hf2,hf3,hf4,hf5,he0,he1,he2,he3,hg0,hg1,hg2,hg3,sc1,sc2,eqi,m1,m2]
   refine cM (xs:=[p,q]) (enc:=Ec) (fun t=>Ec (FE t)) rfl ?_ (by simp;omega) ?_
   · intro t mt
     simp only[IC,JC,or_false]at mt
     rcases mt with rfl|rfl
     · simp_arith only[ag,ae,FB,p1]
     · simp_arith only[ag,ae,FB,p2]
   · simp_arith only[ag,ae]
     exact av hQ
theorem hJ(Fn:FnIn K mg "even_inner" (Ed 48) ["paper"])(Z:Bz mg)(n:Nat):∀rl,Dfn P w K mg base rl "even_inner" ["paper"] (0+n) (bo n):=by
 induction n with
 | zero=>exact fun rl=>Dfn.never Fn (fun _ _ ⟨_,_,⟨z,_⟩,_⟩=>absurd z (JL _))
 | succ n ih=>exact fun rl=>hG n Fn Z    ih
theorem d_even_inner(Fn:FnIn K mg "even_inner" (Ed 48) ["paper"])(Z:Bz mg)    : Dfn P w K mg base rl "even_inner" ["paper"] 12 (bo 12):=hJ Fn Z    12 rl
theorem gY:FnScope ["paper", "word", "side", "which", "at", "low", "high"] ["paper"] (defScope (Ed 49)):=⟨rfl,rfl,rfl,by decide +kernel,rfl,by decide +kernel,by decide +kernel⟩
theorem gL(n:Nat)(Fn:FnIn K mg "even_corner" (Ed 49) ["paper"])(Z:Bz mg)(d_even_corner:∀rl,Dfn P w K mg base rl "even_corner" ["paper"] (0+n) (ba n)):Dfn P w K mg base rl "even_corner" ["paper"] (0+n+1) (ba (n+1)):=by
 have sc:=gY
 refine Dfn.of Fn sc (ba.mono _) (ba.len _) (fun cdv A outer s H E hr=>(af (aU (az (bM hr.units) aZ (aw _) (vn 0) (aP ab)) (aj (ar (aP ab))) aH)
  (af (cq (vn 0) (bH (n:=6) rfl (aq (am 1 sc.nd) (aq (am 2 sc.nd) (aq (am 3 sc.nd) (aq (am 4 sc.nd) (aq (am 5 sc.nd) (aq (am 6 sc.nd) aV))))))))
  (af (aU (az (bM hr.units) aZ (aw _) (vn 3) ac) (aj (ar (ai (d_even_corner _) (hr.mono (by omega)) (aa (vn 5) ab)))) aH)
  (aj (ar (aP (aa (vn 1) (aa (vn 2) (aa ac (aa (vn 4) (aa (ai (d_even_corner _) (hr.mono (by omega)) (aa (vn 5) ab)) (aa (ai (d_even_corner _) (hr.mono (by omega)) (aa (vn 6) ab)) ab))))))))))))) ?_
 have hf0:decide (Hw "corner" = Hw "corner")=true:=by decide +kernel
 have hf1:decide (Hw "inner" = Hw "corner")=false:=by decide +kernel
 have hf2:decide (Hw "round" = Hw "corner")=false:=by decide +kernel
 have hf3:decide (Hw "corner" = Hw "round")=false:=by decide +kernel
 have hf4:decide (Hw "inner" = Hw "round")=false:=by decide +kernel
 have hf5:decide (Hw "round" = Hw "round")=true:=by decide +kernel
 have he0:HC (.str "cut") (.str "cut")=true:=by decide +kernel
 have he1:HC (.str "cut") (.str "ways")=false:=by decide +kernel
 have he2:HC (.str "ways") (.str "cut")=false:=by decide +kernel
 have he3:HC (.str "ways") (.str "ways")=true:=by decide +kernel
 have hg0:decide (Hw "cut" = Hw "cut")=true:=by decide +kernel
 have hg1:decide (Hw "cut" = Hw "ways")=false:=by decide +kernel
 have hg2:decide (Hw "ways" = Hw "cut")=false:=by decide +kernel
 have hg3:decide (Hw "ways" = Hw "ways")=true:=by decide +kernel
 have sc1:HI (.str "cut")=true:=by decide +kernel
 have sc2:HI (.str "ways")=true:=by decide +kernel
 have eqi:∀i j:Int,HC (.int i) (.int j)=(i==j):=fun i j=>by simp[HC]
 rintro ws Q ⟨t,rfl,⟨hm,h50,hno⟩,hQ⟩
 refine aB ?_
 have sz:=HV
 have sh:=dg h50
 have s0:HI (.tuple [])=true:=rfl
 cases t with
 | leaf =>
   simp_arith only[ag,ae,qE]
   exact av hQ
 | ways j p q=>exact hno.elim
 | cut j w x p q =>
   have tn:HC (Ec (.cut j w x p q)) (.tuple [])=false:=rfl
   have e:ht (.cut j w x p q)=max (ht p) (ht q)+1:=rfl
   have p1:=ba.eq n p (by omega) (by omega) hno.1
   have p2:=ba.eq n q (by omega) (by omega) hno.2
   unfold F7 at hQ
   simp_arith only[ag,ae,sh,s0,tn]
   by_cases w0:w=0
   · subst w0
     rw[if_pos rfl]at hQ
     have z:((0:Nat):Int)=0:=rfl
     simp_arith only[ag,ae,nu,hf0,hf1,hf2,hf3,hf4,hf5,he0,he1,he2,he3,hg0,hg1,hg2,hg3,sc1,sc2,eqi,z,p1,p2]
     exact av hQ
   · rw[if_neg w0]at hQ
     have z:((w:Int)==0)=false:=by simpa using w0
     simp_arith only[ag,ae,nu,hf0,hf1,hf2,hf3,hf4,hf5,he0,he1,he2,he3,hg0,hg1,hg2,hg3,sc1,sc2,eqi,z,p1,p2]
     exact av hQ
theorem gM(Fn:FnIn K mg "even_corner" (Ed 49) ["paper"])(Z:Bz mg)(n:Nat):∀rl,Dfn P w K mg base rl "even_corner" ["paper"] (0+n) (ba n):=by
 induction n with
 | zero=>exact fun rl=>Dfn.never Fn (fun _ _ ⟨_,_,⟨z,_⟩,_⟩=>absurd z (JL _))
 | succ n ih=>exact fun rl=>gL n Fn Z    ih
theorem d_even_corner(Fn:FnIn K mg "even_corner" (Ed 49) ["paper"])(Z:Bz mg)    : Dfn P w K mg base rl "even_corner" ["paper"] 12 (ba 12):=gM Fn Z    12 rl
theorem jT:∀(xs ys:List Rat)(a b:Rat),0<=a->a<=b->xs.length=ys.length->(∀p∈xs.zip ys,0<=p.1/\p.1<=p.2)->0<=xs.foldl (· * ·) a/\xs.foldl (· * ·) a<=ys.foldl (· * ·) b
 | [],[],a,b,h0,h,_,_=>⟨h0,h⟩
 | x::xs,y::ys,a,b,h0,h,hl,hp=>by
   obtain⟨p0,p1⟩:=hp (x,y) (by simp)
   have p0:0<=x:=p0
   have p1:x<=y:=p1
   have m1:0<=a*x:=LH h0 p0
   have m2:0<=b*(y-x):=LH (by grind) (by grind)
   have m3:0<=(b-a)*x:=LH (by grind) p0
   have m4:a*x<=b*y:=by grind
   exact jT xs ys (a*x) (b*y) m1 m4 (by simpa using hl) fun p mp=>hp p (by rw[List.zip_cons_cons];exact Ic _ mp)
theorem sa{ts:List Sd}{v w:Str}(h:∀p∈ps,Fz p ss v=true->Fz p ts w=true):cntN ps ss v<=cntN ps ts w:=by
 unfold cntN
 rw[<- Ld,<- Ld]
 exact List.countP_mono_left h
theorem qp{xs:List α}{z:α×α}(h:z∈xs.zip xs):z.1=z.2:=by
 induction xs with
 | nil=>simp at h
 | cons x xs ih =>
   rw[List.zip_cons_cons]at h
   rcases IC.mp h with rfl|m
   · rfl
   · exact ih m
noncomputable def FF(cs:List Co):List Co:=cs.map fun c=>(some (c.1.getD 1),c.2)
noncomputable def Fa(cs:List Co):Prop:=∀c∈cs,c.1=none\/c.1=some 1
theorem pj{cs:List Co}(h:j<cs.length):Gg (FF cs) j=(some ((Gg cs j).1.getD 1),(Gg cs j).2):=by
 unfold Gg FF
 rw[Ig,Ig,Ix,HZ h]
 rfl
theorem ve(cs:List Co):(FF cs).length=cs.length:=by unfold FF;rw[HM]
theorem vf{cs:List Co}{w:Nat}{r:Rg}(h:j<cs.length):FF (c0 cs j w r)=c0 (FF cs) j w r:=by
 unfold c0
 rw[pj h]
 unfold FF
 rw[MY]
theorem vd{cs:List Co}(h:j<cs.length)(e:(Gg cs j).1=none):FF (fW cs j 1)=FF cs:=by
 unfold fW
 refine List.ext_getElem? fun i=>?_
 unfold FF
 rw[Ix,Ix]
 by_cases z:j=i
 · subst z
   rw[Ia h,fA h]
   show some ((some 1,(Gg cs j).2):Co)=some (some ((Gg cs j).1.getD 1),(Gg cs j).2)
   rw[e]
   rfl
 · rw[HY z]
theorem uU{cs:List Co}(h:Fa cs):Fa (fW cs j 1):=fun c mc=>by
 rcases Jp mc with m|rfl
 · exact h c m
 · exact .inr rfl
theorem oI{cs:List Co}{w:Nat}{r:Rg}(h:Fa cs)(hj:j<cs.length):Fa (c0 cs j w r):=fun c mc=>by
 rcases Jp mc with m|rfl
 · exact h c m
 · exact h (Gg cs j) (dn hj)
theorem s_{cs:List Co}(h:Fa cs)(ha:aW cs):FF cs=cs:=by
 unfold FF
 conv=>rhs;rw[<- Nc cs]
 refine Lp fun c mc=>?_
 obtain⟨w,rs⟩:=c
 rcases h _ mc with e|e
 · exact absurd e (ha _ mc)
 · have e:w=some 1:=e
   subst e
   rfl
theorem rn:∀(t:Tr)(cs:List Co),Fa cs->Wf cs t->Wf (FF cs) (FE t)/\∀ps,ck ps (FF cs) (FE t)<=ck ps cs t
 | .leaf,cs,hn,hw=>by
   have ha:aW cs:=hw
   refine⟨?_,fun ps=>?_⟩
   · show aW (FF cs)
     rw[s_ hn ha]
     exact ha
   · show ck ps (FF cs) .leaf<=ck ps cs .leaf
     rw[s_ hn ha]
     exact Nb
 | .ways j p q,cs,hn,⟨ft,h1,h2⟩=>by
   obtain⟨a,b⟩:=rn p (fW cs j 1) (uU hn) h1
   rw[vd ft.1 ft.2]at a b
   exact⟨a,fun ps=>IN (b ps) (fu _ _)⟩
 | .cut j w x p q,cs,hn,⟨ft,h1,h2⟩=>by
   obtain⟨hj,hw,l,u,sx⟩:=ft
   have er:EL (FF cs) j w=EL cs j w:=by unfold EL;rw[pj hj]
   have ei:∀r,FF (c0 cs j w r)=c0 (FF cs) j w r:=fun r=>vf hj
   obtain⟨a1,b1⟩:=rn p _ (oI hn hj) h1
   obtain⟨a2,b2⟩:=rn q _ (oI hn hj) h2
   rw[ei]at a1 b1 a2 b2
   refine⟨⟨⟨by rw[ve];exact hj,by rw[pj hj];exact hw,by rw[er];exact l,by rw[er];exact u,sx⟩,?_,?_⟩,fun ps=>?_⟩
   · show Wf (c0 (FF cs) j w ((EL (FF cs) j w).1,x)) (FE p)
     rw[er];exact a1
   · show Wf (c0 (FF cs) j w (x,(EL (FF cs) j w).2)) (FE q)
     rw[er];exact a2
   · show mx (ck ps (c0 (FF cs) j w ((EL (FF cs) j w).1,x)) (FE p)) (ck ps (c0 (FF cs) j w (x,(EL (FF cs) j w).2)) (FE q))<=mx _ _
     rw[er]
     exact uV (IN (b1 ps) (fu _ _)) (IN (b2 ps) (gF _ _))
theorem Ap(s:Nat):FF (FW 2 s)=FW 1 s:=by
 unfold FF FW
 rw[List.map_replicate]
 rfl
theorem xT(s:Nat):Fa (FW 2 s):=fun c mc=>by cases KM mc;exact .inl rfl
noncomputable def Ef(cs:List Co):List Co:=cs.map fun c=>(some 0,c.2.drop 1)
noncomputable def sZ(cs:List Co):Prop:=∀c∈cs,∃h b,c=(some 1,[(-1,h),b])/\GM (-1,h)/\GM b
theorem ny(cs:List Co):(Ef cs).length=cs.length:=by unfold Ef;rw[HM]
theorem lF{cs:List Co}(h:j<cs.length):Gg (Ef cs) j=(some 0,(Gg cs j).2.drop 1):=by
 unfold Gg Ef
 rw[Ig,Ig,Ix,HZ h]
 rfl
theorem sY{cs:List Co}(h:sZ cs)(hj:j<cs.length):∃a b,Gg cs j=(some 1,[(-1,a),b])/\GM (-1,a)/\GM b:=h _ (dn hj)
theorem nv{cs:List Co}{c:Co}:Ef (cs.set j c)=(Ef cs).set j (some 0,c.2.drop 1):=by
 unfold Ef
 rw[MY]
theorem oR{cs:List Co}{c:Co}(h:sZ cs)(hc:∃h b,c=(some 1,[(-1,h),b])/\GM (-1,h)/\GM b):sZ (cs.set j c):=fun d md=>by
 rcases Jp md with m|rfl
 · exact h d m
 · exact hc
theorem qG{cs:List Co}(h:j<cs.length):cs.set j (Gg cs j)=cs:=by
 refine List.ext_getElem? fun i=>?_
 by_cases z:j=i
 · subst z
   rw[Ia h,fA h]
 · rw[HY z]
theorem oa{a b n:Int}(hn:0<n)(h:a<=b):qd a n<=qd b n:=by
 have e:qd b n=qd a n+qd (b-a) n:=by rw[<- sQ _ _ hn];congr 1;omega
 have:=n_ hn (show 0<=b-a by omega)
 grind
theorem u8{s:Nat}{cs:List Co}(hp:FR ps s)(hl:sZ cs):EV ps (Ef cs)<=EV ps cs/\Ft ps (Ef cs)<=Ft ps cs:=by
 have p1:0<(ps.length:Int):=by have:=hp.1;omega
 have un:∀c∈cs,∃h b,c=(some 1,[(-1,h),b])/\GM (-1,h)/\GM b:=hl
 have e1:(D7 (Ef cs)).map FK=cs.map fun c=>FK (0,c.2.drop 1):=by unfold D7 Ef;rw[Jd,Jd];rfl
 have e2:(D7 (Ef cs)).map Fo=cs.map fun c=>Fo (0,c.2.drop 1):=by unfold D7 Ef;rw[Jd,Jd];rfl
 have e3:(D7 cs).map FK=cs.map fun c=>FK (c.1.getD 0,c.2):=by unfold D7;rw[Jd];rfl
 have e4:(D7 cs).map Fo=cs.map fun c=>Fo (c.1.getD 0,c.2):=by unfold D7;rw[Jd];rfl
 have g0:∀p∈ps,∀x∈p,(0:Rat)<=x:=fun p mp x mx=>((hp.2.2.1 p mp).2 x mx).2.1
 have li:∀(f g:Co->Sd)(v w:Str),(∀c∈cs,∀x:Rat,0<=x->Fh (f c) v x=true->Fh (g c) w x=true)->cntN ps (cs.map f) v<=cntN ps (cs.map g) w:=fun f g v w h=>sa fun p mp hb=>by
  unfold Fz at hb ⊢
  rw[List.zip_map_right,Mh,Jq]at hb ⊢
  exact fun z mz=>h z.2 (Jx mz).2 z.1 (g0 p mp _ (Jx mz).1) (hb z mz)
 have szs:∀f g:Co->Sd,(∀c∈cs,0<=szQ (f c)/\szQ (f c)<=szQ (g c))->cf (cs.map f)<=cf (cs.map g):=fun f g h=>by
  unfold cf jU
  rw[Jd,Jd]
  refine(jT _ _ 1 1 (by decide) Nb (by simp) ?_).2
  intro p mp
  rw[List.zip_map,IM]at mp
  obtain⟨q,mq,rfl⟩:=mp
  obtain⟨m1,_⟩:=Jx mq
  have:q.1=q.2:=qp mq
  obtain⟨a,b⟩:=q
  have this:a=b:=this
  subst this
  exact h a m1
 have o1:cntN ps ((D7 (Ef cs)).map FK) "open" <= cntN ps ((D7 cs).map FK) "open" := by
  rw[e1,e3]
  refine li _ _ _ _ fun c mc x x0 h=>?_
  obtain⟨u,b,rfl,_,_⟩:=un c mc
  have h:Fh (.to b.2) "open" x=true:=h
  show Fh (.from (-1) b.2) "open" x=true
  rw[u4]at h
  rw[u3]
  simp at h ⊢
  grind
 have o2:cntN ps ((D7 cs).map Fo) "shut" <= cntN ps ((D7 (Ef cs)).map Fo) "shut" := by
  rw[e2,e4]
  refine li _ _ _ _ fun c mc x x0 h=>?_
  obtain⟨u,b,rfl,_,_⟩:=un c mc
  have h:Fh (.from u b.1) "shut" x=true:=h
  show Fh (.to b.1) "shut" x=true
  rw[uZ]at h
  rw[u0]
  simp at h ⊢
  grind
 have o3:cf ((D7 cs).map Fo)<=cf ((D7 (Ef cs)).map Fo):=by
  rw[e2,e4]
  refine szs _ _ fun c mc=>?_
  obtain⟨u,b,rfl,_,_⟩:=un c mc
  show 0<=szQ (.from u b.1)/\szQ (.from u b.1)<=szQ (.to b.1)
  simp only[szQ,mx]
  constructor<;>grind
 have o4:cf ((D7 (Ef cs)).map FK)<=cf ((D7 cs).map FK):=by
  rw[e1,e3]
  refine szs _ _ fun c mc=>?_
  obtain⟨u,b,rfl,_,_⟩:=un c mc
  show 0<=szQ (.to b.2)/\szQ (.to b.2)<=szQ (.from (-1) b.2)
  simp only[szQ,mx]
  constructor<;>grind
 have q1:=oa p1 (show((cntN ps ((D7 (Ef cs)).map FK) "open" : Nat):Int)<=(cntN ps ((D7 cs).map FK) "open" : Nat) by omega)
 have q2:=oa p1 (show((cntN ps ((D7 cs).map Fo) "shut" : Nat):Int)<=(cntN ps ((D7 (Ef cs)).map Fo) "shut" : Nat) by omega)
 unfold EV Ft
 constructor<;>grind
theorem pO{ps:List (List Rat)}{s:Nat}(hp:FR ps s):∀(t:Tr)(cs:List Co),sZ cs->Wf cs t->Wf (Ef cs) (F7 t)/\ck ps (Ef cs) (F7 t)<=ck ps cs t
 | .leaf,cs,hl,hw=>by
   obtain⟨a,b⟩:=u8 hp hl
   refine⟨fun c mc=>?_,uV (IN a (fu _ _)) (IN b (gF _ _))⟩
   obtain⟨d,_,rfl⟩:=IM.mp mc
   intro z
   cases z
 | .ways j p q,cs,hl,⟨ft,_⟩=>by
   obtain⟨a,b,e,_⟩:=sY hl ft.1
   have:=ft.2
   rw[e]at this
   cases this
 | .cut j w x p q,cs,hl,⟨ft,h1,h2⟩=>by
   obtain⟨hj,hw,l,u,sx⟩:=ft
   obtain⟨a,b,e,ra,rb⟩:=sY hl hj
   have hw:w<(Gg cs j).2.length:=hw
   rw[e]at hw
   have hw:w<2:=hw
   have h1:Wf (c0 cs j w ((EL cs j w).1,x)) p:=h1
   have h2:Wf (c0 cs j w (x,(EL cs j w).2)) q:=h2
   match w,hw with
   | 0,_ =>
     have er:EL cs j 0=(-1,a):=by unfold EL;rw[e];rfl
     rw[er]at l u h1
     have ec:c0 cs j 0 (-1,x)=cs.set j (some 1,[(-1,x),b]):=by unfold c0;rw[e];rfl
     have tc:Ef (c0 cs j 0 (-1,x))=Ef cs:=by
      rw[ec,nv]
      have:((some 0,List.drop 1 [(-1,x),b]):Co)=Gg (Ef cs) j:=by rw[lF hj,e];rfl
      show(Ef cs).set j (some 0,List.drop 1 [(-1,x),b])=Ef cs
      rw[this]
      exact qG (by rw[ny];exact hj)
     have h1:Wf (c0 cs j 0 (-1,x)) p:=h1
     have lo:sZ (c0 cs j 0 (-1,x)):=by
      rw[ec]
      exact oR hl ⟨x,b,rfl,⟨ra.1,sx,l,IN (Kq u) ra.2.2.2⟩,rb⟩
     obtain⟨c1,c2⟩:=pO hp p _ lo h1
     rw[tc]at c1 c2
     have k:F7 (.cut j 0 x p q)=F7 p:=by rw[F7];rfl
     rw[k]
     refine⟨c1,IN c2 ?_⟩
     show _<=mx (ck ps (c0 cs j 0 ((EL cs j 0).1,x)) p) _
     rw[er]
     exact fu _ _
   | 1,_ =>
     have er:EL cs j 1=b:=by unfold EL;rw[e];rfl
     rw[er]at l u h1 h2
     have er2:EL (Ef cs) j 0=b:=by unfold EL;rw[lF hj,e];rfl
     have ec:∀r,c0 cs j 1 r=cs.set j (some 1,[(-1,a),r]):=fun r=>by unfold c0;rw[e];rfl
     have tc:∀r,Ef (c0 cs j 1 r)=c0 (Ef cs) j 0 r:=fun r=>by
      rw[ec,nv]
      unfold c0
      rw[lF hj,e]
      rfl
     have lo:∀r,GM r->sZ (c0 cs j 1 r):=fun r hr=>by
      rw[ec]
      exact oR hl ⟨a,r,rfl,ra,hr⟩
     obtain⟨c1,c2⟩:=pO hp p _ (lo (b.1,x) ⟨rb.1,sx,l,IN (Kq u) rb.2.2.2⟩) h1
     obtain⟨c3,c4⟩:=pO hp q _ (lo (x,b.2) ⟨sx,rb.2.1,u,rb.2.2.2⟩) h2
     rw[tc]at c1 c2 c3 c4
     have k:F7 (.cut j 1 x p q) = .cut j 0 x (F7 p) (F7 q):=by rw[F7];rfl
     rw[k]
     refine⟨⟨⟨by rw[ny];exact hj,by rw[lF hj,e];exact Nat.zero_lt_one,by rw[er2];exact l,by rw[er2];exact u,sx⟩,?_,?_⟩,?_⟩
     · show Wf (c0 (Ef cs) j 0 ((EL (Ef cs) j 0).1,x)) (F7 p)
       rw[er2];exact c1
     · show Wf (c0 (Ef cs) j 0 (x,(EL (Ef cs) j 0).2)) (F7 q)
       rw[er2];exact c3
     · show mx (ck ps (c0 (Ef cs) j 0 ((EL (Ef cs) j 0).1,x)) (F7 p)) (ck ps (c0 (Ef cs) j 0 (x,(EL (Ef cs) j 0).2)) (F7 q))<=mx (ck ps (c0 cs j 1 ((EL cs j 1).1,x)) p) (ck ps (c0 cs j 1 (x,(EL cs j 1).2)) q)
       rw[er2,er]
       exact uV (IN c2 (fu _ _)) (IN c4 (gF _ _))
theorem wH(s:Nat):Ef (FW 1 s)=FW 0 s:=by
 unfold Ef FW
 rw[List.map_replicate]
 rfl
theorem sX(s:Nat):sZ (FW 1 s):=fun c mc=>by cases KM mc;exact⟨1,(-1,1),rfl,kJ,kJ⟩
theorem tJ{s:Nat}{n:Rat}{t:Tr}(hp:FR ps s)(hw:Wf (FW f s) t)(hn:ck ps (FW f s) t<=n)(sn:EN 1900 n)(h8:ht t<=8):Wk ps f n (FW f (dimP ps)) [] t:=by
 have e:=yr hp.2.2.1 hp.1
 rw[e]
 exact⟨by rw[lU];exact hp,rP hp.2.2.2.1 hp.2.2.2.2,hw,hn,sn,by show 0+ht t<=36;omega⟩
noncomputable def E_(t:Tr):Nat:=match t with
 | .leaf=>1
 | .cut _ _ _ p q=>E_ p+E_ q+1
 | .ways _ p q=>E_ p+E_ q+1
theorem oH:∀t:Tr,E_ t+1<=2^(ht t+1)
 | .leaf=>by decide
 | .cut _ _ _ p q=>by
   have h1:=oH p
   have h2:=oH q
   have e1:2^(ht p+1)<=2^(max (ht p) (ht q)+1):=HP (by decide) (by omega)
   have e2:2^(ht q+1)<=2^(max (ht p) (ht q)+1):=HP (by decide) (by omega)
   show E_ p+E_ q+1+1<=2^(max (ht p) (ht q)+1+1)
   rw[MX 2 (max (ht p) (ht q)+1)]
   omega
 | .ways _ p q=>by
   have h1:=oH p
   have h2:=oH q
   have e1:2^(ht p+1)<=2^(max (ht p) (ht q)+1):=HP (by decide) (by omega)
   have e2:2^(ht q+1)<=2^(max (ht p) (ht q)+1):=HP (by decide) (by omega)
   show E_ p+E_ q+1+1<=2^(max (ht p) (ht q)+1+1)
   rw[MX 2 (max (ht p) (ht q)+1)]
   omega
theorem gl{f:Fin 3}:∀(t:Tr)(cs:List Co),Hn f cs->Wf cs t->za (Ec t)
 | .leaf,_,_,_=>trivial
 | .cut j w x p q,cs,hc,⟨ft,h1,h2⟩=>by
   obtain⟨b1,b2⟩:=fK hc ft
   have n1:=gl p _ b1 h1
   have n2:=gl q _ b2 h2
   obtain⟨hj,hw,_,_,sx⟩:=ft
   have h4:=hc.2.1
   have l2:=p4 hc _ (dn hj)
   have i8:∀k:Nat,k<8->((k:Int)).natAbs<2^1900:=fun k hk=>HJ (show _<2^8 by omega) (HP (by decide) (by decide))
   exact⟨bX _,i8 j (by omega),i8 w (by omega),⟨HJ sx.1 (HP (by decide) (by decide)),by show(Int.natAbs (x.den:Int))<_;rw[Iq];exact HJ sx.2 (HP (by decide) (by decide)),trivial⟩,n1,n2,trivial⟩
 | .ways j p q,cs,hc,⟨ft,h1,h2⟩=>by
   obtain⟨b1,b2⟩:=fK hc ft
   have n1:=gl p _ b1 h1
   have n2:=gl q _ b2 h2
   have hj:=ft.1
   have h4:=hc.2.1
   have i8:∀k:Nat,k<8->((k:Int)).natAbs<2^1900:=fun k hk=>HJ (show _<2^8 by omega) (HP (by decide) (by decide))
   exact⟨bX _,i8 j (by omega),n1,n2,trivial⟩
theorem uR:∀(t:Tr)(cs:List Co),Hn 1 cs->Wf cs t->E8 t
 | .leaf,_,_,_=>trivial
 | .ways j p q,cs,hc,⟨ft,_⟩=>by
   have:=AB hc ft
   cases this
 | .cut j w x p q,cs,hc,⟨ft,h1,h2⟩=>⟨uR p _ (fK hc ft).1 h1,uR q _ (fK hc ft).2 h2⟩
theorem gm:∀t:Tr,Lq (Ec t)<=14*E_ t
 | .leaf=>by simp[Ec,Lq,Mu]
 | .cut j w x p q=>by
   have h1:=gm p
   have h2:=gm q
   have hc:Lq (.str "cut")<=4:=by decide +kernel
   have e:E_ (.cut j w x p q)=E_ p+E_ q+1:=rfl
   simp only[Ec,E9,FO,fr,Lq,Mu,KB,Ko]at hc ⊢
   omega
 | .ways j p q=>by
   have h1:=gm p
   have h2:=gm q
   have hc:Lq (.str "ways")<=5:=by decide +kernel
   have e:E_ (.ways j p q)=E_ p+E_ q+1:=rfl
   simp only[Ec,E9,FO,Lq,Mu,KB,Ko]at hc ⊢
   omega
theorem sJ{t:Tr}{cs:List Co}(hc:Hn f cs)(hw:Wf cs t)(h8:ht t<=8):GL (Ec t):=by
 refine⟨gl t cs hc hw,by have:=ia t;omega,?_⟩
 have h1:=gm t
 have h2:=oH t
 have h3:2^(ht t+1)<=2^9:=HP (by decide) (by omega)
 have h4:(2:Nat)^9=512:=by decide
 omega
theorem wV:FnScope ["_law_script", "_law_feed_here", "_law_k", "_law_pts", "_law_others", "_law_cell", "_law_node", "_law_kept", "_law_inner", "_law_corner", "_law_some", "_law_number_here"] ["_law_script"] (defScope (Ed 76)):=⟨rfl,rfl,rfl,by decide +kernel,rfl,by decide +kernel,by decide +kernel⟩
theorem re(Z:Bz mg)(d__law_feed:DfnR P w K mg base "_law_feed" ["_law_script"] 2 yN)(d__law_tree_world:∀rl,Dfn P w K mg base rl "_law_tree_world" ["_law_feed_here", "_law_s", "_law_family"] 15 a_)(d_even_inner:∀rl,Dfn P w K mg base rl "even_inner" ["paper"] 12 (bo 12))(d_even_corner:∀rl,Dfn P w K mg base rl "even_corner" ["paper"] 12 (ba 12))(d__law_need:∀rl,Dfn P w K mg base rl "_law_need" ["_law_pts", "_law_cell", "_law_node"] 16 (bg 12))(d__law_draw:∀rl,Dfn P w K mg base rl "_law_draw" ["_law_feed_here", "_law_many"] 1 aT)(d__law_right:∀rl,Dfn P w K mg base rl "_law_right" ["_law_pts", "_law_family", "_law_number_here", "_law_paper"] 22 bp){f:Addr}(F:Fun K "law" "law" (Ed 76) f fd):FnOk P w K mg base Hq 24 f fd ["_law_script"] (ib K):=by
 have sc:=wV
 refine uP F sc (fun cdv A outer s H E hr=>(tN 1 d__law_feed (hr.mono (by decide)) sc.nd (aa (vn 0) ab) (fun r _=>(af (dG [2,3,4,5,6,7,8,9,10,11] I_ rfl (de Z.range_ (aa ac ab)) (am 2 sc.nd) (af (cq (ai (d__law_tree_world _) (hr.mono (by decide)) (aa (vn 1) (aa (v_add ac (ai (d__law_draw _) (hr.mono (by decide)) (aa (vn 1) (aa ac ab)))) (aa aF ab)))) (bH (n:=4) rfl (aq (am 3 sc.nd) (aq (am 4 sc.nd) (aq (am 5 sc.nd) (aq (am 6 sc.nd) aV))))))
  (af (ax 7 sc.nd (lC (hr.mono (Ip _)) Z.repr_ (aa (vn 6) ab)))
  (af (ax 8 sc.nd (ai (d_even_inner _) (hr.mono (by decide)) (aa (vn 6) ab)))
  (af (ax 9 sc.nd (ai (d_even_corner _) (hr.mono (by decide)) (aa (vn 8) ab)))
  (af (dG [10,11] I_ rfl (dA (aP (aa (vn 3) (aa (vn 4) ab)))) (am 10 sc.nd) (af (ax 11 sc.nd (ai (d__law_need _) (hr.mono (by decide)) (aa (vn 10) (aa (vn 5) (aa (vn 6) ab)))))
  (aj (aU (G0.pb (fT (dB (bZ (ai (d__law_right _) (hr.mono (by decide)) (aa (vn 10) (aa aF (aa (vn 11) (aa (vn 8) ab))))))) (eV (dB (bZ (ai (d__law_right _) (hr.mono (by decide)) (aa (vn 10) (aa aF (aa (vn 11) (aa (vn 9) ab)))))))))) (aj (ar eC)) aH))))
  (af (aU (az mG h7 (aw _) (lC (hr.mono (Ip _)) Z.repr_ (aa (vn 6) ab)) (vn 7)) (aj (ar eC)) aH)
  (af (cq (ai (d__law_tree_world _) (hr.mono (by decide)) (aa (vn 1) (aa (v_add ac (ai (d__law_draw _) (hr.mono (by decide)) (aa (vn 1) (aa ac ab)))) (aa aF ab)))) (bH (n:=4) rfl (aq (am 3 sc.nd) (aq (am 4 sc.nd) (aq (am 5 sc.nd) (aq (am 6 sc.nd) aV))))))
  (af (ax 7 sc.nd (lC (hr.mono (Ip _)) Z.repr_ (aa (vn 6) ab)))
  (af (ax 9 sc.nd (ai (d_even_corner _) (hr.mono (by decide)) (aa (vn 6) ab)))
  (af (dG [10] I_ rfl (dA (aP (aa (vn 3) (aa (vn 4) ab)))) (am 10 sc.nd) (aj (aU (dB (bZ (ai (d__law_right _) (hr.mono (by decide)) (aa (vn 10) (aa aF (aa (ai (d__law_need _) (hr.mono (by decide)) (aa (vn 10) (aa (vn 5) (aa (vn 6) ab)))) (aa (vn 9) ab))))))) (aj (ar eC)) aH)))
  (aj (aU (az mG h7 (aw _) (lC (hr.mono (Ip _)) Z.repr_ (aa (vn 6) ab)) (vn 7)) (aj (ar eC)) aH)))))))))))))
  (aj (ar eC)))))) ?_
 have hf0:decide (Hw "corner" = Hw "corner")=true:=by decide +kernel
 have hf1:decide (Hw "inner" = Hw "corner")=false:=by decide +kernel
 have hf2:decide (Hw "round" = Hw "corner")=false:=by decide +kernel
 have hf3:decide (Hw "corner" = Hw "round")=false:=by decide +kernel
 have hf4:decide (Hw "inner" = Hw "round")=false:=by decide +kernel
 have hf5:decide (Hw "round" = Hw "round")=true:=by decide +kernel
 have he0:HC (.str "cut") (.str "cut")=true:=by decide +kernel
 have he1:HC (.str "cut") (.str "ways")=false:=by decide +kernel
 have he2:HC (.str "ways") (.str "cut")=false:=by decide +kernel
 have he3:HC (.str "ways") (.str "ways")=true:=by decide +kernel
 have hg0:decide (Hw "cut" = Hw "cut")=true:=by decide +kernel
 have hg1:decide (Hw "cut" = Hw "ways")=false:=by decide +kernel
 have hg2:decide (Hw "ways" = Hw "cut")=false:=by decide +kernel
 have hg3:decide (Hw "ways" = Hw "ways")=true:=by decide +kernel
 have sc1:HI (.str "cut")=true:=by decide +kernel
 have sc2:HI (.str "ways")=true:=by decide +kernel
 have eqi:∀i j:Int,HC (.int i) (.int j)=(i==j):=fun i j=>by simp[HC]
 intro ns hn
 have sz:=HV
 have pf:=yN.eq hn
 have w1:Hw "inner" = DS 1:=rfl
 have w2:Hw "round" = DS 2:=rfl
 have w0:Hw "corner" = DS 0:=rfl
 simp_arith only[ag,ae,aQ,aR,aE,aS,aG,ay,pf]
 refine rT ?_ ?_
 · intro i hi K hK
   simp_arith only[ag,ae,aQ,aR,aE,aS,aG,ay,aT.eq]
   (with_reducible (first|refine aD fun s0 hs0=>?_|refine aK fun s0 hs0=>?_))
   have g1:1<=1+s0:=by omega
   have g2:1+s0<=4:=by omega
   simp_arith only[ag,ae,aQ,aR,aE,aS,aG,ay,w2,a_.eq]
   (with_reducible (first|refine aD fun z hz=>?_|refine aK fun z hz=>?_))
   obtain⟨ps,qs,t⟩:=z
   obtain⟨hp,hq,hw,h8⟩:=hz
   have hp:FR ps (1+s0).toNat:=hp
   have hq:FR qs (1+s0).toNat:=hq
   have hw:Wf (FW 2 (1+s0).toNat) t:=hw
   have h8:ht t<=8:=h8
   generalize (1+s0).toNat=S at hp hq hw ⊢
   have S1:=hp.2.2.2.1
   have S4:=hp.2.2.2.2
   have fo:=rP (f:=2) S1 S4
   have sw:=sJ fo hw h8
   have hi1:=rq t
   have hc1:=r_ (FE t)
   have pin:=bo.eq 12 t (by omega) (by omega)
   have pco:=ba.eq 12 (FE t) (by omega) (by omega) (rp t)
   obtain⟨iw,inq⟩:=rn t _ (xT S) hw
   rw[Ap]at iw inq
   have one:∀xs,FR xs S->bg 12 [.d (ptsQ xs),.d (FZ (FW 2 S)),.d (Ec t)]=VL.ret (fr (ck xs (FW 2 S) t))/\bp [.d (ptsQ xs),.d (.str (DS 1)),.d (fr (ck xs (FW 2 S) t)),.d (Ec (FE t))]=VL.ret (.bool true)/\bp [.d (ptsQ xs),.d (.str (DS 0)),.d (fr (ck xs (FW 2 S) t)),.d (Ec (F7 (FE t)))]=VL.ret (.bool true):=fun xs hx=>by
    have sn:=d9 hx t _ fo hw
    obtain⟨cw,cn⟩:=pO hx (FE t) _ (sX S) iw
    rw[wH]at cw cn
    exact⟨bg.eq 12 xs _ t (by omega) (by rw[lU];exact hx) ⟨2,fo⟩ hw (by omega),bp.eq xs 1 _ _ (tJ hx iw (inq xs) sn (by omega)) (by omega),bp.eq xs 0 _ _ (tJ hx cw (IN cn (inq xs)) sn (by omega)) (by omega)⟩
   simp_arith only[ag,ae,aQ,aR,aE,aS,aG,ay,Hv,Ea,sw,pin,pco]
   refine pE (xs:=[ps,qs]) (enc:=ptsQ) rfl ?_ ?_
   · intro xs mx K2 hK2
     have hx:FR xs S:=by
      simp only[IC,JC,or_false]at mx
      rcases mx with rfl|rfl
      · exact hp
      · exact hq
     obtain⟨o1,o2,o3⟩:=one xs hx
     simp_arith only[ag,ae,aQ,aR,aE,aS,aG,ay,w1,w0,o1,o2,o3]
     exact hK2 _ (dF rfl)
   clear one inq iw pin pco
   simp_arith only[ag,ae,aQ,aR,aE,aS,aG,ay,sw,aT.eq]
   (with_reducible (first|refine aD fun s1 hs1=>?_|refine aK fun s1 hs1=>?_))
   have g1:1<=1+s1:=by omega
   have g2:1+s1<=4:=by omega
   simp_arith only[ag,ae,aQ,aR,aE,aS,aG,ay,w1,a_.eq]
   (with_reducible (first|refine aD fun z hz=>?_|refine aK fun z hz=>?_))
   obtain⟨ps,qs,t⟩:=z
   obtain⟨hp,hq,hw,h8⟩:=hz
   have hp:FR ps (1+s1).toNat:=hp
   have hq:FR qs (1+s1).toNat:=hq
   have hw:Wf (FW 1 (1+s1).toNat) t:=hw
   have h8:ht t<=8:=h8
   generalize (1+s1).toNat=S at hp hq hw ⊢
   have S1:=hp.2.2.2.1
   have S4:=hp.2.2.2.2
   have fo:=rP (f:=1) S1 S4
   have sw:=sJ fo hw h8
   have hc1:=r_ t
   have nw:=uR t _ fo hw
   have pco:=ba.eq 12 t (by omega) (by omega) nw
   have one:∀xs,FR xs S->bg 12 [.d (ptsQ xs),.d (FZ (FW 1 S)),.d (Ec t)]=VL.ret (fr (ck xs (FW 1 S) t))/\bp [.d (ptsQ xs),.d (.str (DS 0)),.d (fr (ck xs (FW 1 S) t)),.d (Ec (F7 t))]=VL.ret (.bool true):=fun xs hx=>by
    have sn:=d9 hx t _ fo hw
    obtain⟨cw,cn⟩:=pO hx t _ (sX S) hw
    rw[wH]at cw cn
    exact⟨bg.eq 12 xs _ t (by omega) (by rw[lU];exact hx) ⟨1,fo⟩ hw (by omega),bp.eq xs 0 _ _ (tJ hx cw cn sn (by omega)) (by omega)⟩
   simp_arith only[ag,ae,aQ,aR,aE,aS,aG,ay,Hv,Ea,sw,pco]
   refine pE (xs:=[ps,qs]) (enc:=ptsQ) rfl ?_ ?_
   · intro xs mx K2 hK2
     have hx:FR xs S:=by
      simp only[IC,JC,or_false]at mx
      rcases mx with rfl|rfl
      · exact hp
      · exact hq
     obtain⟨o1,o2⟩:=one xs hx
     simp_arith only[ag,ae,aQ,aR,aE,aS,aG,ay,w0,o1,o2]
     exact hK2 _ (dF rfl)
   simp_arith only[ag,ae,aQ,aR,aE,aS,aG,ay,sw]
   exact hK _ (dF rfl)
 · simp_arith only[ag,ae]
   exact u9
structure Txt (K:Kd) (mg:Str->Option HE):Prop where
 bz:Bz mg
 f__law_feed:FnIn K mg "_law_feed" (Ed 51) ["_law_script"]
 f__law_draw:FnIn K mg "_law_draw" (Ed 52) ["_law_feed_here", "_law_many"]
 f__law_frac:FnIn K mg "_law_frac" (Ed 53) ["_law_top", "_law_bottom"]
 f__law_cmp:FnIn K mg "_law_cmp" (Ed 54) ["_law_one", "_law_other"]
 f__law_number:FnIn K mg "_law_number" (Ed 55) ["_law_feed_here", "_law_seen", "_law_is_first"]
 f__law_points:FnIn K mg "_law_points" (Ed 56) ["_law_feed_here", "_law_s", "_law_most"]
 f_common_divisor:FnIn K mg "common_divisor" (Ed 9) ["one", "other"]
 f_fraction:FnIn K mg "fraction" (Ed 11) ["top", "bottom"]
 f_plus:FnIn K mg "plus" (Ed 12) ["one", "other"]
 f_less:FnIn K mg "less" (Ed 13) ["one", "other"]
 f_times:FnIn K mg "times" (Ed 14) ["one", "other"]
 f_is_below:FnIn K mg "is_below" (Ed 16) ["one", "other"]
 f_lesser:FnIn K mg "lesser" (Ed 17) ["one", "other"]
 f_greater:FnIn K mg "greater" (Ed 18) ["one", "other"]
 f_product_of:FnIn K mg "product_of" (Ed 15) ["some"]
 f_side_size:FnIn K mg "side_size" (Ed 20) ["side"]
 f_size_of:FnIn K mg "size_of" (Ed 21) ["box"]
 f_goes_ahead:FnIn K mg "goes_ahead" (Ed 22) ["one", "other", "may_meet"]
 f_lies:FnIn K mg "lies" (Ed 23) ["x", "side", "way"]
 f_lies_in:FnIn K mg "lies_in" (Ed 24) ["point", "box", "way"]
 f_inside:FnIn K mg "inside" (Ed 25) ["points", "box", "way"]
 f_least_side:FnIn K mg "least_side" (Ed 29) ["word", "ranges"]
 f_most_side:FnIn K mg "most_side" (Ed 30) ["word", "ranges"]
 f__law_product:FnIn K mg "_law_product" (Ed 60) ["_law_one", "_law_other"]
 f__law_side_size:FnIn K mg "_law_side_size" (Ed 57) ["_law_side"]
 f_cell_told:FnIn K mg "cell_told" (Ed 31) ["points", "cell"]
 f__law_ends:FnIn K mg "_law_ends" (Ed 59) ["_law_word_here", "_law_ranges"]
 f__law_side_told:FnIn K mg "_law_side_told" (Ed 58) ["_law_x", "_law_word_here", "_law_ranges"]
 f__law_cell_told:FnIn K mg "_law_cell_told" (Ed 61) ["_law_pts", "_law_cell"]
 f_is_whole:FnIn K mg "is_whole" (Ed 7) ["thing"]
 f_is_place:FnIn K mg "is_place" (Ed 8) ["thing", "many"]
 f_is_fraction:FnIn K mg "is_fraction" (Ed 10) ["thing"]
 f_sides_of:FnIn K mg "sides_of" (Ed 38) ["points"]
 f_exchanged_side:FnIn K mg "exchanged_side" (Ed 33) ["cell", "side", "other"]
 f_worded:FnIn K mg "worded" (Ed 34) ["cell", "side", "word"]
 f_ranged:FnIn K mg "ranged" (Ed 35) ["cell", "side", "which", "new"]
 f_cells_below:FnIn K mg "cells_below" (Ed 36) ["cell", "node"]
 f_is_within:FnIn K mg "is_within" (Ed 42) ["at", "limits"]
 f_first_cell:FnIn K mg "first_cell" (Ed 32) ["s", "family"]
 f_is_node:FnIn K mg "is_node" (Ed 41) ["s", "family", "thing"]
 f_leaf_fault:FnIn K mg "leaf_fault" (Ed 43) ["points", "number", "cell"]
 f_node_fault:FnIn K mg "node_fault" (Ed 44) ["points", "number", "cell", "node"]
 f_walk:FnIn K mg "walk" (Ed 45) ["points", "family", "number", "cell", "path", "thing"]
 f_lets_even:FnIn K mg "lets_even" (Ed 46) ["points", "family", "number", "thing"]
 f__law_first:FnIn K mg "_law_first" (Ed 62) ["_law_s", "_law_family"]
 f__law_behind:FnIn K mg "_law_behind" (Ed 63) ["_law_cell", "_law_node"]
 f__law_needs:FnIn K mg "_law_needs" (Ed 64) ["_law_pts", "_law_cell"]
 f__law_is_frac:FnIn K mg "_law_is_frac" (Ed 68) ["_law_thing"]
 f__law_below:FnIn K mg "_law_below" (Ed 69) ["_law_thing", "_law_many"]
 f__law_need:FnIn K mg "_law_need" (Ed 65) ["_law_pts", "_law_cell", "_law_node"]
 f__law_cuts:FnIn K mg "_law_cuts" (Ed 66) ["_law_feed_here", "_law_pts", "_law_cell"]
 f__law_tree:FnIn K mg "_law_tree" (Ed 67) ["_law_feed_here", "_law_pts", "_law_cell", "_law_deep"]
 f__law_kind:FnIn K mg "_law_kind" (Ed 70) ["_law_s", "_law_family", "_law_thing"]
 f__law_word:FnIn K mg "_law_word" (Ed 71) ["_law_pts", "_law_family", "_law_number_here", "_law_cell", "_law_path", "_law_thing"]
 f__law_fault:FnIn K mg "_law_fault" (Ed 72) ["_law_pts", "_law_family", "_law_number_here", "_law_cell", "_law_path", "_law_thing"]
 f__law_due:FnIn K mg "_law_due" (Ed 73) ["_law_pts", "_law_family", "_law_number_here", "_law_thing"]
 f__law_right:FnIn K mg "_law_right" (Ed 75) ["_law_pts", "_law_family", "_law_number_here", "_law_paper"]
 f__law_tree_world:FnIn K mg "_law_tree_world" (Ed 74) ["_law_feed_here", "_law_s", "_law_family"]
 f_even_inner:FnIn K mg "even_inner" (Ed 48) ["paper"]
 f_even_corner:FnIn K mg "even_corner" (Ed 49) ["paper"]
 g_ZERO:GlD K mg "ZERO" (pr 0 1)
 g_ONE:GlD K mg "ONE" (pr 1 1)
 g_DEEPEST:GlD K mg "DEEPEST" (.int 36)
 g_WIDEST:GlD K mg "WIDEST" (.tuple [pr (-1) 1,pr 1 1])
theorem xR{f:Addr}(F:Fun K "law" "law" (Ed 76) f fd)(T:Txt K mg)(gt_FIRST_WORDS:GlTO P w K mg "FIRST_WORDS" [("corner", some "to"),("inner", some "from"),("round", none)]):FnOk P w K mg base Hq 24 f fd ["_law_script"] (ib K):=by
 have d__law_feed:DfnR P w K mg base "_law_feed" ["_law_script"] 2 yN:=K33.d__law_feed T.f__law_feed T.bz   
 have d__law_draw:∀rl,Dfn P w K mg base rl "_law_draw" ["_law_feed_here", "_law_many"] 1 aT:=fun rl=>K33.d__law_draw T.f__law_draw T.bz   
 have d__law_frac:∀rl,Dfn P w K mg base rl "_law_frac" ["_law_top", "_law_bottom"] 1 bi:=fun rl=>K33.d__law_frac T.f__law_frac T.bz   
 have d__law_cmp:∀rl,Dfn P w K mg base rl "_law_cmp" ["_law_one", "_law_other"] 1 bc:=fun rl=>K33.d__law_cmp T.f__law_cmp T.bz   
 have d__law_number:∀rl,Dfn P w K mg base rl "_law_number" ["_law_feed_here", "_law_seen", "_law_is_first"] 2 bR:=fun rl=>K33.d__law_number T.f__law_number T.bz d__law_draw d__law_frac  
 have d__law_points:∀rl,Dfn P w K mg base rl "_law_points" ["_law_feed_here", "_law_s", "_law_most"] 3 bQ:=fun rl=>K33.d__law_points T.f__law_points T.bz d__law_draw d__law_number  
 have d_common_divisor:∀rl,Dfn P w K mg base rl "common_divisor" ["one", "other"] 1 aY:=fun rl=>K33.d_common_divisor T.f_common_divisor T.bz   
 have d_fraction:∀rl,Dfn P w K mg base rl "fraction" ["top", "bottom"] 2 bY:=fun rl=>K33.d_fraction T.f_fraction T.bz d_common_divisor  
 have d_plus:∀rl,Dfn P w K mg base rl "plus" ["one", "other"] 3 gA:=fun rl=>K33.d_plus T.f_plus T.bz d_fraction  
 have d_less:∀rl,Dfn P w K mg base rl "less" ["one", "other"] 3 fP:=fun rl=>K33.d_less T.f_less T.bz d_fraction  
 have d_times:∀rl,Dfn P w K mg base rl "times" ["one", "other"] 3 eS:=fun rl=>K33.d_times T.f_times T.bz d_fraction  
 have d_is_below:∀rl,Dfn P w K mg base rl "is_below" ["one", "other"] 1 bL:=fun rl=>K33.d_is_below T.f_is_below T.bz   
 have d_lesser:∀rl,Dfn P w K mg base rl "lesser" ["one", "other"] 2 dM:=fun rl=>K33.d_lesser T.f_lesser T.bz d_is_below  
 have d_greater:∀rl,Dfn P w K mg base rl "greater" ["one", "other"] 2 dm:=fun rl=>K33.d_greater T.f_greater T.bz d_is_below  
 have d_product_of:∀rl,Dfn P w K mg base rl "product_of" ["some"] 4 b0:=fun rl=>K33.d_product_of T.f_product_of T.bz d_times T.g_ONE 
 have d_side_size:∀rl,Dfn P w K mg base rl "side_size" ["side"] 4 cx:=fun rl=>K33.d_side_size T.f_side_size T.bz d_greater d_less d_lesser d_plus T.g_ZERO T.g_ONE 
 have d_size_of:∀rl,Dfn P w K mg base rl "size_of" ["box"] 5 di:=fun rl=>K33.d_size_of T.f_size_of T.bz d_product_of d_side_size  
 have d_goes_ahead:∀rl,Dfn P w K mg base rl "goes_ahead" ["one", "other", "may_meet"] 2 ca:=fun rl=>K33.d_goes_ahead T.f_goes_ahead T.bz d_is_below  
 have d_lies:∀rl,Dfn P w K mg base rl "lies" ["x", "side", "way"] 3 gB:=fun rl=>K33.d_lies T.f_lies T.bz d_goes_ahead  
 have d_lies_in:∀rl,Dfn P w K mg base rl "lies_in" ["point", "box", "way"] 4 dj:=fun rl=>K33.d_lies_in T.f_lies_in T.bz d_lies  
 have d_inside:∀rl,Dfn P w K mg base rl "inside" ["points", "box", "way"] 5 dN:=fun rl=>K33.d_inside T.f_inside T.bz d_lies_in  
 have d_least_side:∀rl,Dfn P w K mg base rl "least_side" ["word", "ranges"] 1 b9:=fun rl=>K33.d_least_side T.f_least_side T.bz   
 have d_most_side:∀rl,Dfn P w K mg base rl "most_side" ["word", "ranges"] 1 cy:=fun rl=>K33.d_most_side T.f_most_side T.bz   
 have d__law_product:∀rl,Dfn P w K mg base rl "_law_product" ["_law_one", "_law_other"] 2 bJ:=fun rl=>K33.d__law_product T.f__law_product T.bz d__law_frac  
 have d__law_side_size:∀rl,Dfn P w K mg base rl "_law_side_size" ["_law_side"] 2 bf:=fun rl=>K33.d__law_side_size T.f__law_side_size T.bz d__law_frac  
 have d_cell_told:∀rl,Dfn P w K mg base rl "cell_told" ["points", "cell"] 6 cB:=fun rl=>K33.d_cell_told T.f_cell_told T.bz d_inside d_size_of d_least_side d_most_side  
 have d__law_ends:∀rl,Dfn P w K mg base rl "_law_ends" ["_law_word_here", "_law_ranges"] 1 cD:=fun rl=>K33.d__law_ends T.f__law_ends T.bz   
 have d__law_side_told:∀rl,Dfn P w K mg base rl "_law_side_told" ["_law_x", "_law_word_here", "_law_ranges"] 2 be:=fun rl=>K33.d__law_side_told T.f__law_side_told T.bz d__law_cmp  
 have d__law_cell_told:∀rl,Dfn P w K mg base rl "_law_cell_told" ["_law_pts", "_law_cell"] 3 bj:=fun rl=>K33.d__law_cell_told T.f__law_cell_told T.bz d__law_ends d__law_product d__law_side_told d__law_side_size  
 have d_is_whole:∀rl,Dfn P w K mg base rl "is_whole" ["thing"] 1 cG:=fun rl=>K33.d_is_whole T.f_is_whole T.bz   
 have d_is_place:∀rl,Dfn P w K mg base rl "is_place" ["thing", "many"] 2 cT:=fun rl=>K33.d_is_place T.f_is_place T.bz d_is_whole  
 have d_is_fraction:∀rl,Dfn P w K mg base rl "is_fraction" ["thing"] 2 bO:=fun rl=>K33.d_is_fraction T.f_is_fraction T.bz d_common_divisor d_is_whole  
 have d_sides_of:∀rl,Dfn P w K mg base rl "sides_of" ["points"] 1 cS:=fun rl=>K33.d_sides_of T.f_sides_of T.bz   
 have d_exchanged_side:∀rl,Dfn P w K mg base rl "exchanged_side" ["cell", "side", "other"] 1 aX:=fun rl=>K33.d_exchanged_side T.f_exchanged_side T.bz   
 have d_worded:∀rl,Dfn P w K mg base rl "worded" ["cell", "side", "word"] 2 dJ:=fun rl=>K33.d_worded T.f_worded T.bz d_exchanged_side  
 have d_ranged:∀rl,Dfn P w K mg base rl "ranged" ["cell", "side", "which", "new"] 2 dL:=fun rl=>K33.d_ranged T.f_ranged T.bz d_exchanged_side  
 have d_cells_below:∀rl,Dfn P w K mg base rl "cells_below" ["cell", "node"] 3 bm:=fun rl=>K33.d_cells_below T.f_cells_below T.bz d_ranged d_worded  
 have d_is_within:∀rl,Dfn P w K mg base rl "is_within" ["at", "limits"] 2 cA:=fun rl=>K33.d_is_within T.f_is_within T.bz d_is_below  
 have d_first_cell:∀rl,Dfn P w K mg base rl "first_cell" ["s", "family"] 1 cc:=fun rl=>K33.d_first_cell T.f_first_cell T.bz  T.g_WIDEST gt_FIRST_WORDS
 have d_is_node:∀rl,Dfn P w K mg base rl "is_node" ["s", "family", "thing"] 3 cK:=fun rl=>K33.d_is_node T.f_is_node T.bz d_is_place d_is_fraction  
 have d_leaf_fault:∀rl,Dfn P w K mg base rl "leaf_fault" ["points", "number", "cell"] 7 b_:=fun rl=>K33.d_leaf_fault T.f_leaf_fault T.bz d_cell_told d_is_below d_less d_fraction  
 have d_node_fault:∀rl,Dfn P w K mg base rl "node_fault" ["points", "number", "cell", "node"] 8 bI:=fun rl=>K33.d_node_fault T.f_node_fault T.bz d_leaf_fault d_is_within  
 have d_walk:∀rl,Dfn P w K mg base rl "walk" ["points", "family", "number", "cell", "path", "thing"] 20 (eM 12):=fun rl=>K33.d_walk T.f_walk T.bz d_node_fault d_is_node d_cells_below T.g_DEEPEST 
 have d_lets_even:∀rl,Dfn P w K mg base rl "lets_even" ["points", "family", "number", "thing"] 21 cz:=fun rl=>K33.d_lets_even T.f_lets_even T.bz d_walk d_first_cell d_sides_of  
 have d__law_first:∀rl,Dfn P w K mg base rl "_law_first" ["_law_s", "_law_family"] 1 bN:=fun rl=>K33.d__law_first T.f__law_first T.bz   
 have d__law_behind:∀rl,Dfn P w K mg base rl "_law_behind" ["_law_cell", "_law_node"] 1 aM:=fun rl=>K33.d__law_behind T.f__law_behind T.bz   
 have d__law_needs:∀rl,Dfn P w K mg base rl "_law_needs" ["_law_pts", "_law_cell"] 4 bq:=fun rl=>K33.d__law_needs T.f__law_needs T.bz d__law_cell_told d__law_frac  
 have d__law_is_frac:∀rl,Dfn P w K mg base rl "_law_is_frac" ["_law_thing"] 2 bK:=fun rl=>K33.d__law_is_frac T.f__law_is_frac T.bz d__law_frac  
 have d__law_below:∀rl,Dfn P w K mg base rl "_law_below" ["_law_thing", "_law_many"] 1 ce:=fun rl=>K33.d__law_below T.f__law_below T.bz   
 have d__law_need:∀rl,Dfn P w K mg base rl "_law_need" ["_law_pts", "_law_cell", "_law_node"] 16 (bg 12):=fun rl=>K33.d__law_need T.f__law_need T.bz d__law_needs d__law_behind d__law_cmp  
 have d__law_cuts:∀rl,Dfn P w K mg base rl "_law_cuts" ["_law_feed_here", "_law_pts", "_law_cell"] 2 bS:=fun rl=>K33.d__law_cuts T.f__law_cuts T.bz d__law_draw d__law_frac d__law_cmp  
 have d__law_tree:∀rl,Dfn P w K mg base rl "_law_tree" ["_law_feed_here", "_law_pts", "_law_cell", "_law_deep"] 14 (bD 12):=fun rl=>K33.d__law_tree T.f__law_tree T.bz d__law_cuts d__law_draw d__law_behind  
 have d__law_kind:∀rl,Dfn P w K mg base rl "_law_kind" ["_law_s", "_law_family", "_law_thing"] 3 cC:=fun rl=>K33.d__law_kind T.f__law_kind T.bz d__law_below d__law_is_frac  
 have d__law_word:∀rl,Dfn P w K mg base rl "_law_word" ["_law_pts", "_law_family", "_law_number_here", "_law_cell", "_law_path", "_law_thing"] 5 bP:=fun rl=>K33.d__law_word T.f__law_word T.bz d__law_kind d__law_needs d__law_cmp  
 have d__law_fault:∀rl,Dfn P w K mg base rl "_law_fault" ["_law_pts", "_law_family", "_law_number_here", "_law_cell", "_law_path", "_law_thing"] 17 (br 12):=fun rl=>K33.d__law_fault T.f__law_fault T.bz d__law_word d__law_behind  
 have d__law_due:∀rl,Dfn P w K mg base rl "_law_due" ["_law_pts", "_law_family", "_law_number_here", "_law_thing"] 18 cU:=fun rl=>K33.d__law_due T.f__law_due T.bz d__law_fault d__law_first  
 have d__law_right:∀rl,Dfn P w K mg base rl "_law_right" ["_law_pts", "_law_family", "_law_number_here", "_law_paper"] 22 bp:=fun rl=>K33.d__law_right T.f__law_right T.bz d__law_due d_lets_even  
 have d__law_tree_world:∀rl,Dfn P w K mg base rl "_law_tree_world" ["_law_feed_here", "_law_s", "_law_family"] 15 a_:=fun rl=>K33.d__law_tree_world T.f__law_tree_world T.bz d__law_points d__law_first d__law_tree d__law_draw  
 have d_even_inner:∀rl,Dfn P w K mg base rl "even_inner" ["paper"] 12 (bo 12):=fun rl=>K33.d_even_inner T.f_even_inner T.bz   
 have d_even_corner:∀rl,Dfn P w K mg base rl "even_corner" ["paper"] 12 (ba 12):=fun rl=>K33.d_even_corner T.f_even_corner T.bz   
 exact re T.bz d__law_feed d__law_tree_world d_even_inner d_even_corner d__law_need d__law_draw d__law_right   F
end
theorem CD(hl:us.length=0):us=[]:=List.eq_nil_of_length_eq_zero hl
theorem mR(hl:us.length=1):∃a0,us=[a0]:=by
 cases us with
 | nil=>cases hl
 | cons a0 t=>cases CD (K8 hl);exact⟨a0,rfl⟩
theorem fN(hl:us.length=2):∃a0 a1,us=[a0,a1]:=by
 cases us with
 | nil=>cases hl
 | cons a0 t=>obtain⟨a1,rfl⟩:=mR (K8 hl);exact⟨a0,a1,rfl⟩
theorem ky(hl:us.length=3):∃a0 a1 a2,us=[a0,a1,a2]:=by
 cases us with
 | nil=>cases hl
 | cons a0 t=>obtain⟨a1,a2,rfl⟩:=fN (K8 hl);exact⟨a0,a1,a2,rfl⟩
theorem ua(hl:us.length=4):∃a0 a1 a2 a3,us=[a0,a1,a2,a3]:=by
 cases us with
 | nil=>cases hl
 | cons a0 t=>obtain⟨a1,a2,a3,rfl⟩:=ky (K8 hl);exact⟨a0,a1,a2,a3,rfl⟩
theorem CC(hl:us.length=5):∃a0 a1 a2 a3 a4,us=[a0,a1,a2,a3,a4]:=by
 cases us with
 | nil=>cases hl
 | cons a0 t=>obtain⟨a1,a2,a3,a4,rfl⟩:=ua (K8 hl);exact⟨a0,a1,a2,a3,a4,rfl⟩
theorem zy(hl:us.length=6):∃a0 a1 a2 a3 a4 a5,us=[a0,a1,a2,a3,a4,a5]:=by
 cases us with
 | nil=>cases hl
 | cons a0 t=>obtain⟨a1,a2,a3,a4,a5,rfl⟩:=CC (K8 hl);exact⟨a0,a1,a2,a3,a4,a5,rfl⟩
theorem aI{K:Kd}(X:K.In h)(G:h.Ns Iv mg){st:Stmt}{ps:List Str}{f:Addr}{oc kV dc pm cd ct:HE}{od an:Option Addr}{sl:Array (Option HE)}(a:MZ K Iv x=some (some (.ref f)))(l:K.lookup f=some ⟨oc,od,.func (M0 x x (defArgs st) (defBody st) (defScope st) .none kV dc pm an cd ct),sl⟩)(c:HF K cd x=true)(k:HG K (.ref f)=true)(hb:∀(kV doc pm:HE)(an:Option Addr)(cdv ct:HE)(us:List HE),us.length=ps.length->bindArgs (M0 x x (defArgs st) (defBody st) (defScope st) .none kV doc pm an cdv ct) ⟨us,[]⟩=pure (ps.zip us)):FnIn K mg x st ps:=⟨⟨f,_,PySem.W.mg_of X G a,pA l c k,(pA l c k).binds hb⟩⟩
abbrev NI(K:Kd)(x:Str)(f:Addr):Prop:=MZ K Iv x=some (some (.ref f))
abbrev NZ(K:Kd)(x:Str):Prop:=MZ K Iv x=some none
abbrev LK(K:Kd)(x:Str)(st:Stmt)(f:Addr)(oc:HE)(od:Option Addr)(kV dc pm:HE)(an:Option Addr)(cd ct:HE)(sl:Array (Option HE)):Prop:=K.lookup f=some ⟨oc,od,.func (M0 x x (defArgs st) (defBody st) (defScope st) .none kV dc pm an cd ct),sl⟩
theorem all_mk{l:Ml}{K:Kd}{fa:Addr}(X:K.In h)(G:h.Ns Iv mg)(hfa:mg "law" = some (.ref fa))
 {f1 f2 f3 f4 f5 f6 f7 f8 f9 f10 f11 f12 f13 f14 f15 f16 f17 f18 f19 f20 f21 f22 f23 f24 f25 f26 f27 f28 f29 f30 f31 f32 f33 f34 f35 f36 f37 f38 f39 f40 f41 f42 f43 f44 f45 f46 f47 f48 f49 f50 f51 f52 f53 f54 f55 f56 f57 f58 f59 f60 f61:Addr}{od1 an1 od2 an2 od3 an3 od4 an4 od5 an5 od6 an6 od7 an7 od8 an8 od9 an9 od10 an10 od11 an11 od12 an12 od13 an13 od14 an14 od15 an15 od16 an16 od17 an17 od18 an18 od19 an19 od20 an20 od21 an21 od22 an22 od23 an23 od24 an24 od25 an25 od26 an26 od27 an27 od28 an28 od29 an29 od30 an30 od31 an31 od32 an32 od33 an33 od34 an34 od35 an35 od36 an36 od37 an37 od38 an38 od39 an39 od40 an40 od41 an41 od42 an42 od43 an43 od44 an44 od45 an45 od46 an46 od47 an47 od48 an48 od49 an49 od50 an50 od51 an51 od52 an52 od53 an53 od54 an54 od55 an55 od56 an56 od57 an57 od58 an58 od59 an59 od60 an60 od61 an61:Option Addr}{sl1 sl2 sl3 sl4 sl5 sl6 sl7 sl8 sl9 sl10 sl11 sl12 sl13 sl14 sl15 sl16 sl17 sl18 sl19 sl20 sl21 sl22 sl23 sl24 sl25 sl26 sl27 sl28 sl29 sl30 sl31 sl32 sl33 sl34 sl35 sl36 sl37 sl38 sl39 sl40 sl41 sl42 sl43 sl44 sl45 sl46 sl47 sl48 sl49 sl50 sl51 sl52 sl53 sl54 sl55 sl56 sl57 sl58 sl59 sl60 sl61:Array (Option HE)}{oc1 kV1 dc1 pm1 cd1 ct1 oc2 kV2 dc2 pm2 cd2 ct2 oc3 kV3 dc3 pm3 cd3 ct3 oc4 kV4 dc4 pm4 cd4 ct4 oc5 kV5 dc5 pm5 cd5 ct5 oc6 kV6 dc6 pm6 cd6 ct6 oc7 kV7 dc7 pm7 cd7 ct7 oc8 kV8 dc8 pm8 cd8 ct8 oc9 kV9 dc9 pm9 cd9 ct9 oc10 kV10 dc10 pm10 cd10 ct10 oc11 kV11 dc11 pm11 cd11 ct11 oc12 kV12 dc12 pm12 cd12 ct12 oc13 kV13 dc13 pm13 cd13 ct13 oc14 kV14 dc14 pm14 cd14 ct14 oc15 kV15 dc15 pm15 cd15 ct15 oc16 kV16 dc16 pm16 cd16 ct16 oc17 kV17 dc17 pm17 cd17 ct17 oc18 kV18 dc18 pm18 cd18 ct18 oc19 kV19 dc19 pm19 cd19 ct19 oc20 kV20 dc20 pm20 cd20 ct20 oc21 kV21 dc21 pm21 cd21 ct21 oc22 kV22 dc22 pm22 cd22 ct22 oc23 kV23 dc23 pm23 cd23 ct23 oc24 kV24 dc24 pm24 cd24 ct24 oc25 kV25 dc25 pm25 cd25 ct25 oc26 kV26 dc26 pm26 cd26 ct26 oc27 kV27 dc27 pm27 cd27 ct27 oc28 kV28 dc28 pm28 cd28 ct28 oc29 kV29 dc29 pm29 cd29 ct29 oc30 kV30 dc30 pm30 cd30 ct30 oc31 kV31 dc31 pm31 cd31 ct31 oc32 kV32 dc32 pm32 cd32 ct32 oc33 kV33 dc33 pm33 cd33 ct33 oc34 kV34 dc34 pm34 cd34 ct34 oc35 kV35 dc35 pm35 cd35 ct35 oc36 kV36 dc36 pm36 cd36 ct36 oc37 kV37 dc37 pm37 cd37 ct37 oc38 kV38 dc38 pm38 cd38 ct38 oc39 kV39 dc39 pm39 cd39 ct39 oc40 kV40 dc40 pm40 cd40 ct40 oc41 kV41 dc41 pm41 cd41 ct41 oc42 kV42 dc42 pm42 cd42 ct42 oc43 kV43 dc43 pm43 cd43 ct43 oc44 kV44 dc44 pm44 cd44 ct44 oc45 kV45 dc45 pm45 cd45 ct45 oc46 kV46 dc46 pm46 cd46 ct46 oc47 kV47 dc47 pm47 cd47 ct47 oc48 kV48 dc48 pm48 cd48 ct48 oc49 kV49 dc49 pm49 cd49 ct49 oc50 kV50 dc50 pm50 cd50 ct50 oc51 kV51 dc51 pm51 cd51 ct51 oc52 kV52 dc52 pm52 cd52 ct52 oc53 kV53 dc53 pm53 cd53 ct53 oc54 kV54 dc54 pm54 cd54 ct54 oc55 kV55 dc55 pm55 cd55 ct55 oc56 kV56 dc56 pm56 cd56 ct56 oc57 kV57 dc57 pm57 cd57 ct57 oc58 kV58 dc58 pm58 cd58 ct58 oc59 kV59 dc59 pm59 cd59 ct59 oc60 kV60 dc60 pm60 cd60 ct60 oc61 kV61 dc61 pm61 cd61 ct61:HE}
 (a1:NI K "_law_feed" f1)(l1:LK K "_law_feed" (Ed 51) f1 oc1 od1 kV1 dc1 pm1 an1 cd1 ct1 sl1)(c1:HF K cd1 "_law_feed" = true)(k1:HG K (.ref f1)=true)(a2:NI K "_law_draw" f2)(l2:LK K "_law_draw" (Ed 52) f2 oc2 od2 kV2 dc2 pm2 an2 cd2 ct2 sl2)(c2:HF K cd2 "_law_draw" = true)(k2:HG K (.ref f2)=true)(a3:NI K "_law_frac" f3)(l3:LK K "_law_frac" (Ed 53) f3 oc3 od3 kV3 dc3 pm3 an3 cd3 ct3 sl3)(c3:HF K cd3 "_law_frac" = true)(k3:HG K (.ref f3)=true)(a4:NI K "_law_cmp" f4)(l4:LK K "_law_cmp" (Ed 54) f4 oc4 od4 kV4 dc4 pm4 an4 cd4 ct4 sl4)(c4:HF K cd4 "_law_cmp" = true)(k4:HG K (.ref f4)=true)(a5:NI K "_law_number" f5)(l5:LK K "_law_number" (Ed 55) f5 oc5 od5 kV5 dc5 pm5 an5 cd5 ct5 sl5)(c5:HF K cd5 "_law_number" = true)(k5:HG K (.ref f5)=true)(a6:NI K "_law_points" f6)(l6:LK K "_law_points" (Ed 56) f6 oc6 od6 kV6 dc6 pm6 an6 cd6 ct6 sl6)(c6:HF K cd6 "_law_points" = true)(k6:HG K (.ref f6)=true)(a7:NI K "common_divisor" f7)(l7:LK K "common_divisor" (Ed 9) f7 oc7 od7 kV7 dc7 pm7 an7 cd7 ct7 sl7)(c7:HF K cd7 "common_divisor" = true)(k7:HG K (.ref f7)=true)(a8:NI K "fraction" f8)(l8:LK K "fraction" (Ed 11) f8 oc8 od8 kV8 dc8 pm8 an8 cd8 ct8 sl8)(c8:HF K cd8 "fraction" = true)(k8:HG K (.ref f8)=true)(a9:NI K "plus" f9)(l9:LK K "plus" (Ed 12) f9 oc9 od9 kV9 dc9 pm9 an9 cd9 ct9 sl9)(c9:HF K cd9 "plus" = true)(k9:HG K (.ref f9)=true)(a10:NI K "less" f10)(l10:LK K "less" (Ed 13) f10 oc10 od10 kV10 dc10 pm10 an10 cd10 ct10 sl10)(c10:HF K cd10 "less" = true)(k10:HG K (.ref f10)=true)(a11:NI K "times" f11)(l11:LK K "times" (Ed 14) f11 oc11 od11 kV11 dc11 pm11 an11 cd11 ct11 sl11)(c11:HF K cd11 "times" = true)(k11:HG K (.ref f11)=true)(a12:NI K "is_below" f12)(l12:LK K "is_below" (Ed 16) f12 oc12 od12 kV12 dc12 pm12 an12 cd12 ct12 sl12)(c12:HF K cd12 "is_below" = true)(k12:HG K (.ref f12)=true)(a13:NI K "lesser" f13)(l13:LK K "lesser" (Ed 17) f13 oc13 od13 kV13 dc13 pm13 an13 cd13 ct13 sl13)(c13:HF K cd13 "lesser" = true)(k13:HG K (.ref f13)=true)(a14:NI K "greater" f14)(l14:LK K "greater" (Ed 18) f14 oc14 od14 kV14 dc14 pm14 an14 cd14 ct14 sl14)(c14:HF K cd14 "greater" = true)(k14:HG K (.ref f14)=true)(a15:NI K "product_of" f15)(l15:LK K "product_of" (Ed 15) f15 oc15 od15 kV15 dc15 pm15 an15 cd15 ct15 sl15)(c15:HF K cd15 "product_of" = true)(k15:HG K (.ref f15)=true)(a16:NI K "side_size" f16)(l16:LK K "side_size" (Ed 20) f16 oc16 od16 kV16 dc16 pm16 an16 cd16 ct16 sl16)(c16:HF K cd16 "side_size" = true)(k16:HG K (.ref f16)=true)(a17:NI K "size_of" f17)(l17:LK K "size_of" (Ed 21) f17 oc17 od17 kV17 dc17 pm17 an17 cd17 ct17 sl17)(c17:HF K cd17 "size_of" = true)(k17:HG K (.ref f17)=true)(a18:NI K "goes_ahead" f18)(l18:LK K "goes_ahead" (Ed 22) f18 oc18 od18 kV18 dc18 pm18 an18 cd18 ct18 sl18)(c18:HF K cd18 "goes_ahead" = true)(k18:HG K (.ref f18)=true)(a19:NI K "lies" f19)(l19:LK K "lies" (Ed 23) f19 oc19 od19 kV19 dc19 pm19 an19 cd19 ct19 sl19)(c19:HF K cd19 "lies" = true)(k19:HG K (.ref f19)=true)(a20:NI K "lies_in" f20)(l20:LK K "lies_in" (Ed 24) f20 oc20 od20 kV20 dc20 pm20 an20 cd20 ct20 sl20)(c20:HF K cd20 "lies_in" = true)(k20:HG K (.ref f20)=true)(a21:NI K "inside" f21)(l21:LK K "inside" (Ed 25) f21 oc21 od21 kV21 dc21 pm21 an21 cd21 ct21 sl21)(c21:HF K cd21 "inside" = true)(k21:HG K (.ref f21)=true)(a22:NI K "least_side" f22)(l22:LK K "least_side" (Ed 29) f22 oc22 od22 kV22 dc22 pm22 an22 cd22 ct22 sl22)(c22:HF K cd22 "least_side" = true)(k22:HG K (.ref f22)=true)(a23:NI K "most_side" f23)(l23:LK K "most_side" (Ed 30) f23 oc23 od23 kV23 dc23 pm23 an23 cd23 ct23 sl23)(c23:HF K cd23 "most_side" = true)(k23:HG K (.ref f23)=true)(a24:NI K "_law_product" f24)(l24:LK K "_law_product" (Ed 60) f24 oc24 od24 kV24 dc24 pm24 an24 cd24 ct24 sl24)(c24:HF K cd24 "_law_product" = true)(k24:HG K (.ref f24)=true)(a25:NI K "_law_side_size" f25)(l25:LK K "_law_side_size" (Ed 57) f25 oc25 od25 kV25 dc25 pm25 an25 cd25 ct25 sl25)(c25:HF K cd25 "_law_side_size" = true)(k25:HG K (.ref f25)=true)(a26:NI K "cell_told" f26)(l26:LK K "cell_told" (Ed 31) f26 oc26 od26 kV26 dc26 pm26 an26 cd26 ct26 sl26)(c26:HF K cd26 "cell_told" = true)(k26:HG K (.ref f26)=true)(a27:NI K "_law_ends" f27)(l27:LK K "_law_ends" (Ed 59) f27 oc27 od27 kV27 dc27 pm27 an27 cd27 ct27 sl27)(c27:HF K cd27 "_law_ends" = true)(k27:HG K (.ref f27)=true)(a28:NI K "_law_side_told" f28)(l28:LK K "_law_side_told" (Ed 58) f28 oc28 od28 kV28 dc28 pm28 an28 cd28 ct28 sl28)(c28:HF K cd28 "_law_side_told" = true)(k28:HG K (.ref f28)=true)(a29:NI K "_law_cell_told" f29)(l29:LK K "_law_cell_told" (Ed 61) f29 oc29 od29 kV29 dc29 pm29 an29 cd29 ct29 sl29)(c29:HF K cd29 "_law_cell_told" = true)(k29:HG K (.ref f29)=true)(a30:NI K "is_whole" f30)(l30:LK K "is_whole" (Ed 7) f30 oc30 od30 kV30 dc30 pm30 an30 cd30 ct30 sl30)(c30:HF K cd30 "is_whole" = true)(k30:HG K (.ref f30)=true)(a31:NI K "is_place" f31)(l31:LK K "is_place" (Ed 8) f31 oc31 od31 kV31 dc31 pm31 an31 cd31 ct31 sl31)(c31:HF K cd31 "is_place" = true)(k31:HG K (.ref f31)=true)(a32:NI K "is_fraction" f32)(l32:LK K "is_fraction" (Ed 10) f32 oc32 od32 kV32 dc32 pm32 an32 cd32 ct32 sl32)(c32:HF K cd32 "is_fraction" = true)(k32:HG K (.ref f32)=true)(a33:NI K "sides_of" f33)(l33:LK K "sides_of" (Ed 38) f33 oc33 od33 kV33 dc33 pm33 an33 cd33 ct33 sl33)(c33:HF K cd33 "sides_of" = true)(k33:HG K (.ref f33)=true)(a34:NI K "exchanged_side" f34)(l34:LK K "exchanged_side" (Ed 33) f34 oc34 od34 kV34 dc34 pm34 an34 cd34 ct34 sl34)(c34:HF K cd34 "exchanged_side" = true)(k34:HG K (.ref f34)=true)(a35:NI K "worded" f35)(l35:LK K "worded" (Ed 34) f35 oc35 od35 kV35 dc35 pm35 an35 cd35 ct35 sl35)(c35:HF K cd35 "worded" = true)(k35:HG K (.ref f35)=true)(a36:NI K "ranged" f36)(l36:LK K "ranged" (Ed 35) f36 oc36 od36 kV36 dc36 pm36 an36 cd36 ct36 sl36)(c36:HF K cd36 "ranged" = true)(k36:HG K (.ref f36)=true)(a37:NI K "cells_below" f37)(l37:LK K "cells_below" (Ed 36) f37 oc37 od37 kV37 dc37 pm37 an37 cd37 ct37 sl37)(c37:HF K cd37 "cells_below" = true)(k37:HG K (.ref f37)=true)(a38:NI K "is_within" f38)(l38:LK K "is_within" (Ed 42) f38 oc38 od38 kV38 dc38 pm38 an38 cd38 ct38 sl38)(c38:HF K cd38 "is_within" = true)(k38:HG K (.ref f38)=true)(a39:NI K "first_cell" f39)(l39:LK K "first_cell" (Ed 32) f39 oc39 od39 kV39 dc39 pm39 an39 cd39 ct39 sl39)(c39:HF K cd39 "first_cell" = true)(k39:HG K (.ref f39)=true)(a40:NI K "is_node" f40)(l40:LK K "is_node" (Ed 41) f40 oc40 od40 kV40 dc40 pm40 an40 cd40 ct40 sl40)(c40:HF K cd40 "is_node" = true)(k40:HG K (.ref f40)=true)(a41:NI K "leaf_fault" f41)(l41:LK K "leaf_fault" (Ed 43) f41 oc41 od41 kV41 dc41 pm41 an41 cd41 ct41 sl41)(c41:HF K cd41 "leaf_fault" = true)(k41:HG K (.ref f41)=true)(a42:NI K "node_fault" f42)(l42:LK K "node_fault" (Ed 44) f42 oc42 od42 kV42 dc42 pm42 an42 cd42 ct42 sl42)(c42:HF K cd42 "node_fault" = true)(k42:HG K (.ref f42)=true)(a43:NI K "walk" f43)(l43:LK K "walk" (Ed 45) f43 oc43 od43 kV43 dc43 pm43 an43 cd43 ct43 sl43)(c43:HF K cd43 "walk" = true)(k43:HG K (.ref f43)=true)(a44:NI K "lets_even" f44)(l44:LK K "lets_even" (Ed 46) f44 oc44 od44 kV44 dc44 pm44 an44 cd44 ct44 sl44)(c44:HF K cd44 "lets_even" = true)(k44:HG K (.ref f44)=true)(a45:NI K "_law_first" f45)(l45:LK K "_law_first" (Ed 62) f45 oc45 od45 kV45 dc45 pm45 an45 cd45 ct45 sl45)(c45:HF K cd45 "_law_first" = true)(k45:HG K (.ref f45)=true)(a46:NI K "_law_behind" f46)(l46:LK K "_law_behind" (Ed 63) f46 oc46 od46 kV46 dc46 pm46 an46 cd46 ct46 sl46)(c46:HF K cd46 "_law_behind" = true)(k46:HG K (.ref f46)=true)(a47:NI K "_law_needs" f47)(l47:LK K "_law_needs" (Ed 64) f47 oc47 od47 kV47 dc47 pm47 an47 cd47 ct47 sl47)(c47:HF K cd47 "_law_needs" = true)(k47:HG K (.ref f47)=true)(a48:NI K "_law_is_frac" f48)(l48:LK K "_law_is_frac" (Ed 68) f48 oc48 od48 kV48 dc48 pm48 an48 cd48 ct48 sl48)(c48:HF K cd48 "_law_is_frac" = true)(k48:HG K (.ref f48)=true)(a49:NI K "_law_below" f49)(l49:LK K "_law_below" (Ed 69) f49 oc49 od49 kV49 dc49 pm49 an49 cd49 ct49 sl49)(c49:HF K cd49 "_law_below" = true)(k49:HG K (.ref f49)=true)(a50:NI K "_law_need" f50)(l50:LK K "_law_need" (Ed 65) f50 oc50 od50 kV50 dc50 pm50 an50 cd50 ct50 sl50)(c50:HF K cd50 "_law_need" = true)(k50:HG K (.ref f50)=true)(a51:NI K "_law_cuts" f51)(l51:LK K "_law_cuts" (Ed 66) f51 oc51 od51 kV51 dc51 pm51 an51 cd51 ct51 sl51)(c51:HF K cd51 "_law_cuts" = true)(k51:HG K (.ref f51)=true)(a52:NI K "_law_tree" f52)(l52:LK K "_law_tree" (Ed 67) f52 oc52 od52 kV52 dc52 pm52 an52 cd52 ct52 sl52)(c52:HF K cd52 "_law_tree" = true)(k52:HG K (.ref f52)=true)(a53:NI K "_law_kind" f53)(l53:LK K "_law_kind" (Ed 70) f53 oc53 od53 kV53 dc53 pm53 an53 cd53 ct53 sl53)(c53:HF K cd53 "_law_kind" = true)(k53:HG K (.ref f53)=true)(a54:NI K "_law_word" f54)(l54:LK K "_law_word" (Ed 71) f54 oc54 od54 kV54 dc54 pm54 an54 cd54 ct54 sl54)(c54:HF K cd54 "_law_word" = true)(k54:HG K (.ref f54)=true)(a55:NI K "_law_fault" f55)(l55:LK K "_law_fault" (Ed 72) f55 oc55 od55 kV55 dc55 pm55 an55 cd55 ct55 sl55)(c55:HF K cd55 "_law_fault" = true)(k55:HG K (.ref f55)=true)(a56:NI K "_law_due" f56)(l56:LK K "_law_due" (Ed 73) f56 oc56 od56 kV56 dc56 pm56 an56 cd56 ct56 sl56)(c56:HF K cd56 "_law_due" = true)(k56:HG K (.ref f56)=true)(a57:NI K "_law_right" f57)(l57:LK K "_law_right" (Ed 75) f57 oc57 od57 kV57 dc57 pm57 an57 cd57 ct57 sl57)(c57:HF K cd57 "_law_right" = true)(k57:HG K (.ref f57)=true)(a58:NI K "_law_tree_world" f58)(l58:LK K "_law_tree_world" (Ed 74) f58 oc58 od58 kV58 dc58 pm58 an58 cd58 ct58 sl58)(c58:HF K cd58 "_law_tree_world" = true)(k58:HG K (.ref f58)=true)(a59:NI K "even_inner" f59)(l59:LK K "even_inner" (Ed 48) f59 oc59 od59 kV59 dc59 pm59 an59 cd59 ct59 sl59)(c59:HF K cd59 "even_inner" = true)(k59:HG K (.ref f59)=true)(a60:NI K "even_corner" f60)(l60:LK K "even_corner" (Ed 49) f60 oc60 od60 kV60 dc60 pm60 an60 cd60 ct60 sl60)(c60:HF K cd60 "even_corner" = true)(k60:HG K (.ref f60)=true)(a61:NI K "law" f61)(l61:LK K "law" (Ed 76) f61 oc61 od61 kV61 dc61 pm61 an61 cd61 ct61 sl61)(c61:HF K cd61 "law" = true)(k61:HG K (.ref f61)=true)
 (z_int:NZ K "int")(z_bool:NZ K "bool")(z_str:NZ K "str")(z_list:NZ K "list")(z_tuple:NZ K "tuple")(z_dict:NZ K "dict")(z_isinstance:NZ K "isinstance")(z_len:NZ K "len")(z_abs:NZ K "abs")(z_repr:NZ K "repr")(z_range:NZ K "range")(z_all:NZ K "all")(z_any:NZ K "any")(z_sum:NZ K "sum")(z_min:NZ K "min")(z_max:NZ K "max")(z_sorted:NZ K "sorted")(z_zip:NZ K "zip")(z_enumerate:NZ K "enumerate")(z_reversed:NZ K "reversed")(z_divmod:NZ K "divmod")(z_set:NZ K "set")(g_ZERO:GlK K "ZERO" (pr 0 1))(g_ONE:GlK K "ONE" (pr 1 1))(g_DEEPEST:GlK K "DEEPEST" (.int 36))(g_WIDEST:GlK K "WIDEST" (.tuple [pr (-1) 1,pr 1 1]))(t_FIRST_WORDS:GlTOK l.prog w K "FIRST_WORDS" [("corner", some "to"),("inner", some "from"),("round", none)]) :
 ∃fd:Kf,(∀(s:HH)(v:HE),M5 s fd ⟨[v],[]⟩ [("_law_script", v)])/\∀base:Heap,K.In base->base.Ns Iv mg->FnOk l.prog w K mg base Hq 24 fa fd ["_law_script"] (ib K):=by
 have e:=hfa.symm.trans (PySem.W.mg_of X G a61)
 cases e
 have B:Bz mg:=⟨H_ X G z_int,H_ X G z_bool,H_ X G z_str,H_ X G z_list,H_ X G z_tuple,H_ X G z_dict,H_ X G z_isinstance,H_ X G z_len,H_ X G z_abs,H_ X G z_repr,H_ X G z_range,H_ X G z_all,H_ X G z_any,H_ X G z_sum,H_ X G z_min,H_ X G z_max,H_ X G z_sorted,H_ X G z_zip,H_ X G z_enumerate,H_ X G z_reversed,H_ X G z_divmod,H_ X G z_set⟩
 have T:Txt K mg:=⟨B,(aI X G a1 l1 c1 k1 fun _ _ _ _ _ _ us hl=>(by obtain⟨_,rfl⟩:=mR hl;exact rfl)),(aI X G a2 l2 c2 k2 fun _ _ _ _ _ _ us hl=>(by obtain⟨_,_,rfl⟩:=fN hl;exact rfl)),(aI X G a3 l3 c3 k3 fun _ _ _ _ _ _ us hl=>(by obtain⟨_,_,rfl⟩:=fN hl;exact rfl)),(aI X G a4 l4 c4 k4 fun _ _ _ _ _ _ us hl=>(by obtain⟨_,_,rfl⟩:=fN hl;exact rfl)),(aI X G a5 l5 c5 k5 fun _ _ _ _ _ _ us hl=>(by obtain⟨_,_,_,rfl⟩:=ky hl;exact rfl)),(aI X G a6 l6 c6 k6 fun _ _ _ _ _ _ us hl=>(by obtain⟨_,_,_,rfl⟩:=ky hl;exact rfl)),(aI X G a7 l7 c7 k7 fun _ _ _ _ _ _ us hl=>(by obtain⟨_,_,rfl⟩:=fN hl;exact rfl)),(aI X G a8 l8 c8 k8 fun _ _ _ _ _ _ us hl=>(by obtain⟨_,_,rfl⟩:=fN hl;exact rfl)),(aI X G a9 l9 c9 k9 fun _ _ _ _ _ _ us hl=>(by obtain⟨_,_,rfl⟩:=fN hl;exact rfl)),(aI X G a10 l10 c10 k10 fun _ _ _ _ _ _ us hl=>(by obtain⟨_,_,rfl⟩:=fN hl;exact rfl)),(aI X G a11 l11 c11 k11 fun _ _ _ _ _ _ us hl=>(by obtain⟨_,_,rfl⟩:=fN hl;exact rfl)),(aI X G a12 l12 c12 k12 fun _ _ _ _ _ _ us hl=>(by obtain⟨_,_,rfl⟩:=fN hl;exact rfl)),(aI X G a13 l13 c13 k13 fun _ _ _ _ _ _ us hl=>(by obtain⟨_,_,rfl⟩:=fN hl;exact rfl)),(aI X G a14 l14 c14 k14 fun _ _ _ _ _ _ us hl=>(by obtain⟨_,_,rfl⟩:=fN hl;exact rfl)),(aI X G a15 l15 c15 k15 fun _ _ _ _ _ _ us hl=>(by obtain⟨_,rfl⟩:=mR hl;exact rfl)),(aI X G a16 l16 c16 k16 fun _ _ _ _ _ _ us hl=>(by obtain⟨_,rfl⟩:=mR hl;exact rfl)),(aI X G a17 l17 c17 k17 fun _ _ _ _ _ _ us hl=>(by obtain⟨_,rfl⟩:=mR hl;exact rfl)),(aI X G a18 l18 c18 k18 fun _ _ _ _ _ _ us hl=>(by obtain⟨_,_,_,rfl⟩:=ky hl;exact rfl)),(aI X G a19 l19 c19 k19 fun _ _ _ _ _ _ us hl=>(by obtain⟨_,_,_,rfl⟩:=ky hl;exact rfl)),(aI X G a20 l20 c20 k20 fun _ _ _ _ _ _ us hl=>(by obtain⟨_,_,_,rfl⟩:=ky hl;exact rfl)),(aI X G a21 l21 c21 k21 fun _ _ _ _ _ _ us hl=>(by obtain⟨_,_,_,rfl⟩:=ky hl;exact rfl)),(aI X G a22 l22 c22 k22 fun _ _ _ _ _ _ us hl=>(by obtain⟨_,_,rfl⟩:=fN hl;exact rfl)),(aI X G a23 l23 c23 k23 fun _ _ _ _ _ _ us hl=>(by obtain⟨_,_,rfl⟩:=fN hl;exact rfl)),(aI X G a24 l24 c24 k24 fun _ _ _ _ _ _ us hl=>(by obtain⟨_,_,rfl⟩:=fN hl;exact rfl)),(aI X G a25 l25 c25 k25 fun _ _ _ _ _ _ us hl=>(by obtain⟨_,rfl⟩:=mR hl;exact rfl)),(aI X G a26 l26 c26 k26 fun _ _ _ _ _ _ us hl=>(by obtain⟨_,_,rfl⟩:=fN hl;exact rfl)),(aI X G a27 l27 c27 k27 fun _ _ _ _ _ _ us hl=>(by obtain⟨_,_,rfl⟩:=fN hl;exact rfl)),(aI X G a28 l28 c28 k28 fun _ _ _ _ _ _ us hl=>(by obtain⟨_,_,_,rfl⟩:=ky hl;exact rfl)),(aI X G a29 l29 c29 k29 fun _ _ _ _ _ _ us hl=>(by obtain⟨_,_,rfl⟩:=fN hl;exact rfl)),(aI X G a30 l30 c30 k30 fun _ _ _ _ _ _ us hl=>(by obtain⟨_,rfl⟩:=mR hl;exact rfl)),(aI X G a31 l31 c31 k31 fun _ _ _ _ _ _ us hl=>(by obtain⟨_,_,rfl⟩:=fN hl;exact rfl)),(aI X G a32 l32 c32 k32 fun _ _ _ _ _ _ us hl=>(by obtain⟨_,rfl⟩:=mR hl;exact rfl)),(aI X G a33 l33 c33 k33 fun _ _ _ _ _ _ us hl=>(by obtain⟨_,rfl⟩:=mR hl;exact rfl)),(aI X G a34 l34 c34 k34 fun _ _ _ _ _ _ us hl=>(by obtain⟨_,_,_,rfl⟩:=ky hl;exact rfl)),(aI X G a35 l35 c35 k35 fun _ _ _ _ _ _ us hl=>(by obtain⟨_,_,_,rfl⟩:=ky hl;exact rfl)),(aI X G a36 l36 c36 k36 fun _ _ _ _ _ _ us hl=>(by obtain⟨_,_,_,_,rfl⟩:=ua hl;exact rfl)),(aI X G a37 l37 c37 k37 fun _ _ _ _ _ _ us hl=>(by obtain⟨_,_,rfl⟩:=fN hl;exact rfl)),(aI X G a38 l38 c38 k38 fun _ _ _ _ _ _ us hl=>(by obtain⟨_,_,rfl⟩:=fN hl;exact rfl)),(aI X G a39 l39 c39 k39 fun _ _ _ _ _ _ us hl=>(by obtain⟨_,_,rfl⟩:=fN hl;exact rfl)),(aI X G a40 l40 c40 k40 fun _ _ _ _ _ _ us hl=>(by obtain⟨_,_,_,rfl⟩:=ky hl;exact rfl)),(aI X G a41 l41 c41 k41 fun _ _ _ _ _ _ us hl=>(by obtain⟨_,_,_,rfl⟩:=ky hl;exact rfl)),(aI X G a42 l42 c42 k42 fun _ _ _ _ _ _ us hl=>(by obtain⟨_,_,_,_,rfl⟩:=ua hl;exact rfl)),(aI X G a43 l43 c43 k43 fun _ _ _ _ _ _ us hl=>(by obtain⟨_,_,_,_,_,_,rfl⟩:=zy hl;exact rfl)),(aI X G a44 l44 c44 k44 fun _ _ _ _ _ _ us hl=>(by obtain⟨_,_,_,_,rfl⟩:=ua hl;exact rfl)),(aI X G a45 l45 c45 k45 fun _ _ _ _ _ _ us hl=>(by obtain⟨_,_,rfl⟩:=fN hl;exact rfl)),(aI X G a46 l46 c46 k46 fun _ _ _ _ _ _ us hl=>(by obtain⟨_,_,rfl⟩:=fN hl;exact rfl)),(aI X G a47 l47 c47 k47 fun _ _ _ _ _ _ us hl=>(by obtain⟨_,_,rfl⟩:=fN hl;exact rfl)),(aI X G a48 l48 c48 k48 fun _ _ _ _ _ _ us hl=>(by obtain⟨_,rfl⟩:=mR hl;exact rfl)),(aI X G a49 l49 c49 k49 fun _ _ _ _ _ _ us hl=>(by obtain⟨_,_,rfl⟩:=fN hl;exact rfl)),(aI X G a50 l50 c50 k50 fun _ _ _ _ _ _ us hl=>(by obtain⟨_,_,_,rfl⟩:=ky hl;exact rfl)),(aI X G a51 l51 c51 k51 fun _ _ _ _ _ _ us hl=>(by obtain⟨_,_,_,rfl⟩:=ky hl;exact rfl)),(aI X G a52 l52 c52 k52 fun _ _ _ _ _ _ us hl=>(by obtain⟨_,_,_,_,rfl⟩:=ua hl;exact rfl)),(aI X G a53 l53 c53 k53 fun _ _ _ _ _ _ us hl=>(by obtain⟨_,_,_,rfl⟩:=ky hl;exact rfl)),(aI X G a54 l54 c54 k54 fun _ _ _ _ _ _ us hl=>(by obtain⟨_,_,_,_,_,_,rfl⟩:=zy hl;exact rfl)),(aI X G a55 l55 c55 k55 fun _ _ _ _ _ _ us hl=>(by obtain⟨_,_,_,_,_,_,rfl⟩:=zy hl;exact rfl)),(aI X G a56 l56 c56 k56 fun _ _ _ _ _ _ us hl=>(by obtain⟨_,_,_,_,rfl⟩:=ua hl;exact rfl)),(aI X G a57 l57 c57 k57 fun _ _ _ _ _ _ us hl=>(by obtain⟨_,_,_,_,rfl⟩:=ua hl;exact rfl)),(aI X G a58 l58 c58 k58 fun _ _ _ _ _ _ us hl=>(by obtain⟨_,_,_,rfl⟩:=ky hl;exact rfl)),(aI X G a59 l59 c59 k59 fun _ _ _ _ _ _ us hl=>(by obtain⟨_,rfl⟩:=mR hl;exact rfl)),(aI X G a60 l60 c60 k60 fun _ _ _ _ _ _ us hl=>(by obtain⟨_,rfl⟩:=mR hl;exact rfl)),g_ZERO.of X G,g_ONE.of X G,g_DEEPEST.of X G,g_WIDEST.of X G⟩
 have FL:=pA (st:=Ed 76) l61 c61 k61
 exact⟨_,fun s v=>.of_eq rfl,fun base _ _=>xR FL T (t_FIRST_WORDS.of X G)⟩
theorem walk{l:Ml}{q:Ie}{YP:II->Heap->Prop}{d:DefRec}{K:Ng->Kd}(hn:l.most=some 63)(hdf:d.params.defaults=[])
 (hY:∀(w:II)(h:Heap),YP w h->(K w.params).In h)
 (F:∀(w:II)(mg:Str->Option HE)(fa:Addr)(h:Heap),(K w.params).In h->h.Ns Iv mg->mg d.name=some (.ref fa) ->
  ∃fd:Kf,(∀(s:HH)(u:HE),M5 s fd ⟨[u],[]⟩ [("_law_script", u)])/\∀base:Heap,(K w.params).In base->base.Ns Iv mg->FnOk l.prog w (K w.params) mg base Hq 24 fa fd ["_law_script"] (ib (K w.params))) :
 PySem.W.WalkO q loose XP YP l.row.toRowW d [] (fun f vs=>PySem.call f vs) :=
 L2.walk_of (n:=63) (k:=24) (x := "_law_script") (CX:=fun _=>Hq) (sp:=fun w=>ib (K w.params)) hn (by decide) hdf ⟨rfl,by decide,by decide,rfl⟩ hY F (fun _ _ a ns hl _ hS=>⟨a,ns,rfl,hS,hl,fun _=>rfl⟩) fun _ _ _ _ _ z=>z
end K33
noncomputable def PySem.W.Fast.tw17447527254472988384:PySem.Params->Kd:=K33.heapK
theorem PySem.W.Fast.te17447527254472988384:K33.heapK=PySem.W.Fast.tw17447527254472988384:=rfl
open PySem PySem.W PyProof.Rows
set_option maxRecDepth 100000 in
set_option maxHeartbeats 0 in
theorem PySem.Challenge.cw_evenpoints_k33_papers_for_fewer_boxes_holds : PySem.Challenge.rw_evenpoints_k33_papers_for_fewer_boxes.Holds := by
 refine(congrArg Ml.Holds K33.rw_eq).mpr ?_
 w_on;o_law
 refine holds_open (loose:=["FIRST_WORDS"]) (XP:=XL K33.zview []) (YP:=Hook.says (kHook K33.heapK K33.heapA K33.heapE)) K33.zleft
  (Hook.of _) (Hook.keeps _) (fun s e=>xl_of s (Ib.mp e).1)
  XL.keeps (by rfl) (by rfl) (by rfl) (fun s e=>recFacts_of (Ib.mp e).2) (by rfl)
  (by first|assumption|decide +kernel) (by decide +kernel) ⟨rfl,rfl,rfl,rfl,rfl,by decide +kernel⟩ ?hw ?hc
 (case hw=>w_witness2)
 k_fill
 refine K33.walk (l:=K33.rwN) rfl rfl (fun w h Y=>PySem.W.kIn_of (as:=K33.heapA) (e:=K33.heapE) Y) ?F
 case F =>
  intro w mg fa h KX G hmg
  refine' K33.all_mk KX G hmg ?a1 ?l1 ?c1 ?k1 ?a2 ?l2 ?c2 ?k2 ?a3 ?l3 ?c3 ?k3 ?a4 ?l4 ?c4 ?k4 ?a5 ?l5 ?c5 ?k5 ?a6 ?l6 ?c6 ?k6 ?a7 ?l7 ?c7 ?k7 ?a8 ?l8 ?c8 ?k8 ?a9 ?l9 ?c9 ?k9 ?a10 ?l10 ?c10 ?k10 ?a11 ?l11 ?c11 ?k11 ?a12 ?l12 ?c12 ?k12 ?a13 ?l13 ?c13 ?k13 ?a14 ?l14 ?c14 ?k14 ?a15 ?l15 ?c15 ?k15 ?a16 ?l16 ?c16 ?k16 ?a17 ?l17 ?c17 ?k17 ?a18 ?l18 ?c18 ?k18 ?a19 ?l19 ?c19 ?k19 ?a20 ?l20 ?c20 ?k20 ?a21 ?l21 ?c21 ?k21 ?a22 ?l22 ?c22 ?k22 ?a23 ?l23 ?c23 ?k23 ?a24 ?l24 ?c24 ?k24 ?a25 ?l25 ?c25 ?k25 ?a26 ?l26 ?c26 ?k26 ?a27 ?l27 ?c27 ?k27 ?a28 ?l28 ?c28 ?k28 ?a29 ?l29 ?c29 ?k29 ?a30 ?l30 ?c30 ?k30 ?a31 ?l31 ?c31 ?k31 ?a32 ?l32 ?c32 ?k32 ?a33 ?l33 ?c33 ?k33 ?a34 ?l34 ?c34 ?k34 ?a35 ?l35 ?c35 ?k35 ?a36 ?l36 ?c36 ?k36 ?a37 ?l37 ?c37 ?k37 ?a38 ?l38 ?c38 ?k38 ?a39 ?l39 ?c39 ?k39 ?a40 ?l40 ?c40 ?k40 ?a41 ?l41 ?c41 ?k41 ?a42 ?l42 ?c42 ?k42 ?a43 ?l43 ?c43 ?k43 ?a44 ?l44 ?c44 ?k44 ?a45 ?l45 ?c45 ?k45 ?a46 ?l46 ?c46 ?k46 ?a47 ?l47 ?c47 ?k47 ?a48 ?l48 ?c48 ?k48 ?a49 ?l49 ?c49 ?k49 ?a50 ?l50 ?c50 ?k50 ?a51 ?l51 ?c51 ?k51 ?a52 ?l52 ?c52 ?k52 ?a53 ?l53 ?c53 ?k53 ?a54 ?l54 ?c54 ?k54 ?a55 ?l55 ?c55 ?k55 ?a56 ?l56 ?c56 ?k56 ?a57 ?l57 ?c57 ?k57 ?a58 ?l58 ?c58 ?k58 ?a59 ?l59 ?c59 ?k59 ?a60 ?l60 ?c60 ?k60 ?a61 ?l61 ?c61 ?k61 ?zint ?zbool ?zstr ?zlist ?ztuple ?zdict ?zisinstance ?zlen ?zabs ?zrepr ?zrange ?zall ?zany ?zsum ?zmin ?zmax ?zsorted ?zzip ?zenumerate ?zreversed ?zdivmod ?zset ?gZERO ?gONE ?gDEEPEST ?gWIDEST ?tFIRST_WORDS
  all_goals (try change _=_)
  (case a1=>k_is);(case l1=>k_is);(case c1=>k_is);(case k1=>k_is)
  (case a2=>k_is);(case l2=>k_is);(case c2=>k_is);(case k2=>k_is)
  (case a3=>k_is);(case l3=>k_is);(case c3=>k_is);(case k3=>k_is)
  (case a4=>k_is);(case l4=>k_is);(case c4=>k_is);(case k4=>k_is)
  (case a5=>k_is);(case l5=>k_is);(case c5=>k_is);(case k5=>k_is)
  (case a6=>k_is);(case l6=>k_is);(case c6=>k_is);(case k6=>k_is)
  (case a7=>k_is);(case l7=>k_is);(case c7=>k_is);(case k7=>k_is)
  (case a8=>k_is);(case l8=>k_is);(case c8=>k_is);(case k8=>k_is)
  (case a9=>k_is);(case l9=>k_is);(case c9=>k_is);(case k9=>k_is)
  (case a10=>k_is);(case l10=>k_is);(case c10=>k_is);(case k10=>k_is)
  (case a11=>k_is);(case l11=>k_is);(case c11=>k_is);(case k11=>k_is)
  (case a12=>k_is);(case l12=>k_is);(case c12=>k_is);(case k12=>k_is)
  (case a13=>k_is);(case l13=>k_is);(case c13=>k_is);(case k13=>k_is)
  (case a14=>k_is);(case l14=>k_is);(case c14=>k_is);(case k14=>k_is)
  (case a15=>k_is);(case l15=>k_is);(case c15=>k_is);(case k15=>k_is)
  (case a16=>k_is);(case l16=>k_is);(case c16=>k_is);(case k16=>k_is)
  (case a17=>k_is);(case l17=>k_is);(case c17=>k_is);(case k17=>k_is)
  (case a18=>k_is);(case l18=>k_is);(case c18=>k_is);(case k18=>k_is)
  (case a19=>k_is);(case l19=>k_is);(case c19=>k_is);(case k19=>k_is)
  (case a20=>k_is);(case l20=>k_is);(case c20=>k_is);(case k20=>k_is)
  (case a21=>k_is);(case l21=>k_is);(case c21=>k_is);(case k21=>k_is)
  (case a22=>k_is);(case l22=>k_is);(case c22=>k_is);(case k22=>k_is)
  (case a23=>k_is);(case l23=>k_is);(case c23=>k_is);(case k23=>k_is)
  (case a24=>k_is);(case l24=>k_is);(case c24=>k_is);(case k24=>k_is)
  (case a25=>k_is);(case l25=>k_is);(case c25=>k_is);(case k25=>k_is)
  (case a26=>k_is);(case l26=>k_is);(case c26=>k_is);(case k26=>k_is)
  (case a27=>k_is);(case l27=>k_is);(case c27=>k_is);(case k27=>k_is)
  (case a28=>k_is);(case l28=>k_is);(case c28=>k_is);(case k28=>k_is)
  (case a29=>k_is);(case l29=>k_is);(case c29=>k_is);(case k29=>k_is)
  (case a30=>k_is);(case l30=>k_is);(case c30=>k_is);(case k30=>k_is)
  (case a31=>k_is);(case l31=>k_is);(case c31=>k_is);(case k31=>k_is)
  (case a32=>k_is);(case l32=>k_is);(case c32=>k_is);(case k32=>k_is)
  (case a33=>k_is);(case l33=>k_is);(case c33=>k_is);(case k33=>k_is)
  (case a34=>k_is);(case l34=>k_is);(case c34=>k_is);(case k34=>k_is)
  (case a35=>k_is);(case l35=>k_is);(case c35=>k_is);(case k35=>k_is)
  (case a36=>k_is);(case l36=>k_is);(case c36=>k_is);(case k36=>k_is)
  (case a37=>k_is);(case l37=>k_is);(case c37=>k_is);(case k37=>k_is)
  (case a38=>k_is);(case l38=>k_is);(case c38=>k_is);(case k38=>k_is)
  (case a39=>k_is);(case l39=>k_is);(case c39=>k_is);(case k39=>k_is)
  (case a40=>k_is);(case l40=>k_is);(case c40=>k_is);(case k40=>k_is)
  (case a41=>k_is);(case l41=>k_is);(case c41=>k_is);(case k41=>k_is)
  (case a42=>k_is);(case l42=>k_is);(case c42=>k_is);(case k42=>k_is)
  (case a43=>k_is);(case l43=>k_is);(case c43=>k_is);(case k43=>k_is)
  (case a44=>k_is);(case l44=>k_is);(case c44=>k_is);(case k44=>k_is)
  (case a45=>k_is);(case l45=>k_is);(case c45=>k_is);(case k45=>k_is)
  (case a46=>k_is);(case l46=>k_is);(case c46=>k_is);(case k46=>k_is)
  (case a47=>k_is);(case l47=>k_is);(case c47=>k_is);(case k47=>k_is)
  (case a48=>k_is);(case l48=>k_is);(case c48=>k_is);(case k48=>k_is)
  (case a49=>k_is);(case l49=>k_is);(case c49=>k_is);(case k49=>k_is)
  (case a50=>k_is);(case l50=>k_is);(case c50=>k_is);(case k50=>k_is)
  (case a51=>k_is);(case l51=>k_is);(case c51=>k_is);(case k51=>k_is)
  (case a52=>k_is);(case l52=>k_is);(case c52=>k_is);(case k52=>k_is)
  (case a53=>k_is);(case l53=>k_is);(case c53=>k_is);(case k53=>k_is)
  (case a54=>k_is);(case l54=>k_is);(case c54=>k_is);(case k54=>k_is)
  (case a55=>k_is);(case l55=>k_is);(case c55=>k_is);(case k55=>k_is)
  (case a56=>k_is);(case l56=>k_is);(case c56=>k_is);(case k56=>k_is)
  (case a57=>k_is);(case l57=>k_is);(case c57=>k_is);(case k57=>k_is)
  (case a58=>k_is);(case l58=>k_is);(case c58=>k_is);(case k58=>k_is)
  (case a59=>k_is);(case l59=>k_is);(case c59=>k_is);(case k59=>k_is)
  (case a60=>k_is);(case l60=>k_is);(case c60=>k_is);(case k60=>k_is)
  (case a61=>k_is);(case l61=>k_is);(case c61=>k_is);(case k61=>k_is)
  (case zint=>k_is)
  (case zbool=>k_is)
  (case zstr=>k_is)
  (case zlist=>k_is)
  (case ztuple=>k_is)
  (case zdict=>k_is)
  (case zisinstance=>k_is)
  (case zlen=>k_is)
  (case zabs=>k_is)
  (case zrepr=>k_is)
  (case zrange=>k_is)
  (case zall=>k_is)
  (case zany=>k_is)
  (case zsum=>k_is)
  (case zmin=>k_is)
  (case zmax=>k_is)
  (case zsorted=>k_is)
  (case zzip=>k_is)
  (case zenumerate=>k_is)
  (case zreversed=>k_is)
  (case zdivmod=>k_is)
  (case zset=>k_is)
  (case gZERO=>refine' L2.VL.GlK.pair ?h1 ?h2;(case h1=>k_is);(case h2=>k_is))
  (case gONE=>refine' L2.VL.GlK.pair ?h1 ?h2;(case h1=>k_is);(case h2=>k_is))
  (case gDEEPEST=>refine' L2.VL.GlK.int ?h1;(case h1=>k_is))
  (case gWIDEST=>refine' L2.VL.GlK.pair2 ?h1 ?h2 ?h3 ?h4;(case h1=>k_is);(case h2=>k_is);(case h3=>k_is);(case h4=>k_is))
  (case tFIRST_WORDS=>refine' L2.GlTOK.mk' ?h1 ?h2 (by decide) ?h3;(case h1=>k_is);(case h2=>kernel_rfl);(case h3=>kernel_rfl))
