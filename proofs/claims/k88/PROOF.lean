import PyProof.Rows.All
import Wide.All
import OpenK.AllK
import Wide.FinOn
import Lean
import PyProof.EqAt
import PyProof.EqKinds
import PyProof.TupleCall
import KE.KDictSum
import KE.KMinKey
import PyProof.Rows.CallKwBuiltin
import PyProof.SumWalkG
import PyProof.WalksMore
import PyProof.AutoSeq1
import KE.KDictOf
import PyProof.AttrMissHeap
import PySem.Challenge.RW_evenpoints_k88_whole_means_miss_no_more
set_option compiler.extract_closed false
set_option bootstrap.genMatcherCode false
set_option Elab.async false
set_option linter.all false
set_option maxRecDepth 100000
set_option maxHeartbeats 4000000
open And renaming intro->Hj, imp_right->Ho
open Array renaming length_toList->J_, getElem?_eq_getElem->L3, getElem?_eq_none->MC, mk->N2
open Bool renaming and_eq_true_iff->Hz, or_eq_true_iff->HW, false_ne_true->H_, and_eq_true->Ki, false_eq_true->Km, eq_iff_iff->LD, true_and->NE
open Classical renaming choose_spec->Hm, choose->HR, byContradiction->L5, axiomOfChoice->Mq
open Exists renaming imp->HC
open False renaming elim->Jk
open ForInStep renaming yield->Kr
open Iff renaming rfl->K7
open Int renaming gcd->IC, natAbs_natCast->Jm, fdiv_eq_ediv_of_nonneg->JA, fmod_nonneg_of_pos->JD, toNat_natCast->JE, mul_le_mul_of_nonneg_right->JJ, mul_le_mul_of_nonneg_left->JM, eq_ofNat_of_zero_le->Kd, fmod_lt_of_pos->Kn, gcd_pos_of_ne_zero_right->Ko, natAbs_mul->KG, mul_pos->KJ, mul_ediv_cancel_left->KR, natCast_mul->K5, lt_of_lt_of_le->K8, natAbs_neg->Ll, mul_nonneg->Lm, mul_lt_mul_of_pos_right->LJ, le_of_lt->LR, mul_neg_of_pos_of_neg->L1, gcd_dvd_natAbs_right->Mb, fmod_add_mul_fdiv->ML, fdiv_nonneg->MX, natAbs_of_nonneg->M9, le_refl->No, le_trans->NV, pow_pos->Oa
open List renaming mem_cons_self->Hr, length_map->Hs, mem_cons_of_mem->Hv, replicate->HB, map_cons->HE, take_of_length_le->HF, take_succ_eq_append_getElem->HG, mem_append_right->HH, mem_singleton->HI, size_toArray->HL, getElem?_eq_some_iff->HM, getElem?_set_ne->HQ, length_append->HS, getElem?_set_self->HU, mem_map->HX, getElem_mem->HZ, mem_cons->Ic, Nodup->Ij, mem_append->Ik, length_cons->Il, getElem?_eq_getElem->Ip, getD_eq_getElem?_getD->Iq, map_append->Ir, length_take->Iz, of_mem_zip->IB, zipWith->ID, foldl_cons->IH, range->IJ, length_zip->IR, filter_cons_of_pos->IS, drop_eq_getElem_cons->IT, map_map->IU, lookup_cons->IV, getElem?_set->IW, filter_cons_of_neg->I0, getElem?_map->Ja, replicate_succ->Jg, length_filter_le->Jh, find?_cons->Jo, length_zipWith->Jq, map_nil->Jr, append_nil->Jx, mem_append_left->Jy, mem_flatMap->Jz, foldl_append->JF, getElem?_eq_none->JI, all_eq_true->JL, drop_length->JN, length_singleton->JX, getElem?_append_left->J0, flatten_cons->J8, length_flatMap->Ke, length_eq_zero_iff->Kf, map_congr_left->Kg, length_replicate->Kq, getElem?_append_right->KA, getElem_zipWith->KC, length_reverse->KH, getElem_of_mem->KN, foldl->KQ, any_cons->K1, forIn_cons->K4, reverse_cons->Lg, pairwise_map->Lj, cons_append->Lq, getElem_map->Lu, all_cons->Lw, mem_filter->LA, filterMap_cons->LB, nodup_cons->LF, filter_append->LU, pairwise_cons->LV, mem_range->LW, append_assoc->L9, flatMap_cons->Mc, getElem?_replicate->Mh, length_drop->Ms, map_flatMap->Mv, filterMap_eq_map'->MA, getElem_replicate->MB, drop_eq_nil_of_le->MD, length_nil->MI, nil_append->MM, mem_of_getElem?->M7, mem_of_mem_take->M_, pairwise_append->Na, foldl_nil->Nd, filter_eq_self->Nq, flatMap_append->Nr, sum_cons->NF, getD->N_
open List.cons renaming injEq->Ie
open Nat renaming le_refl->Hw, lt_of_lt_of_le->Hy, pow_le_pow_right->HJ, ne_of_lt->Io, zero_le->II, le_trans->Je, lt_irrefl->Jj, lt_of_le_of_lt->JY, le_of_succ_le->Kx, le_add_right->Lr, mul_lt_mul''->Ls, min_self->LS, min_eq_right->Mu, ne_of_gt->MG, mul_ne_zero->MP, pow_succ->MQ, min_eq_left->MW, pow_add->Np, le_of_lt->NP, succ_mul->NS, mul_succ->NT, sub_zero->NU, sub_self->NX
open Nat.succ renaming inj->N0
open Ne renaming symm->Me
open Option renaming isSome_iff_exists->J7, map_eq_some_iff->Kl
open Option.some renaming inj->IA
open Or renaming inr->I_, inl->JC
open Prod renaming ext->N3
open PyProof.Rows renaming slot_tuple_getitem->H0, callWith_type1->Jw, tupleItemsOf_->K0, assignInOrder_cons->LN, args_tuple_getitem->LP, envOfC->L8, subscriptTail_builtinR->Mw, AllBare->Ni, IntsAre->Nm, subscriptTail->Nz, Subscript_->NH, IsTup->N1
open PySem renaming PyData->Hi, wpAny_bind->Hl, wpAny_pure->Hn, Value->Hq, Shared->Ht, starEach->HA, sizeLine_eq->HN, wpAny->HP, Program->HV, wpAny_newObj_type->Ia, model->Ib, foldedSetIterable->Ig, wpAny_mono->Im, wpAny_callSpecial?_slot->Is, World->IF, mainGlobals->IG, Around->IM, mem_of_lookup->IZ, Paired->Jc, wpAny_field->Jf, wpAny_call_entry->Ji, backTo->Jl, wpAny_comprehension_free->Js, swapsWith->Ju, wpAny_standAt->Jv, cellsFrom->JB, letOwnedTupleGo->JH, sysModules->JK, wpAny_typeNameOfWhole_keyiter->JO, codeAny->JU, wpAny_setField_rec->JZ, wpAny_seqItems->J1, tupleKind->J4, wpAny_truthy_bool->J5, wpAny_passesOwn->J6, wpAny_typeNameOf_keyiter->J9, binaryOp->Ka, FuncData->Kb, compareOp->Kh, assignEach->Kk, bootBuiltins->Kp, behindInMarks->Kt, wpAny_holding->Ku, wpAny_sequenceKey->Kv, attributeBase->Kw, assign->Kz, wpAny_Call_Name_kw->KU, Keyword->KW, NameKind->KY, tupleKind_room_in1->K3, wpAny_assign_Name->La, wpAny_rule->Lb, wpAny_pyIter_list->Lc, sliceBounds->Ld, keywordEach->Lf, newFunctionEnv->Lk, exec_Assign_Name_used->Ln, wpAny_isOneOf_keyiter->Lp, wpAny_updateSeq_pair->Lv, DictEntry->Ly, intKind->Lz, wpAny_execs_nil->LC, getItem->LG, theTreesLotGoes->LH, IsPair->LI, cLine->LM, codeAny_mono->LO, wpAny_typeOf->LQ, wpAny_setField->LZ, firstArgMember->L0, wpAny_fieldsOf->L4, pyNext->L6, wpAny_dictEntries->Md, swapsWithSole->Mf, swappedStores->Mg, storedH->Mi, wpAny_of_eq->Mk, wpAny_onRaise->Ml, wpAny_attempt->Mm, noFill_tuple_add->Mr, codeAny_compStart_list->Mz, importedModules->ME, IsPart->MH, atKey->MJ, codeAny_loop->MK, wpAny_dictEpoch->MU, backToKw->M5, wpAny_loadName_local->M6, rawInt->Nb, intBits_le_iff->Nc, wpAny_loadName_cell->Nj, standAt->Nk, subscripted->Nl, wpAny_noted->Nn, assignInOrder->Nu, Operator->Nv, PassesOwn->Nw, seq_tuple_add->Nx, evalPart_none->Ny, compTurn->NA, noteFrame->NB, compPost->NC, comprehension->ND, entryOfKey->NG, call_meets->NJ, valueAt->NK, callerA->NL, IsZip->NN, pyIter->NQ, concat_meets->NR, Result->N6, BindsTo->N7, pushCells->N9, wpAny_letGo->Oc, Params->Oe, relabel->Og
open PySem.Builtin.Dict renaming showsAll->MT
open PySem.Builtin.Dict_items renaming ownsTuple->Lx
open PySem.Builtin.Slice renaming slicePlaces->Jb, sliceApplied->JV, sliceAdjust->KE, sliceFields->LX
open PySem.Builtin.SmallTypes renaming nextOf->Iu, ownedTupleIsFree->Jp, ownedTupleHandOut->KF
open PySem.Builtin.Tuple renaming tupleExact->Ix, tupleItemsOf->JW, tupleIsExact->KB
open PySem.Calls renaming spliced_cons->KS, Name_function_global->LL, spliced_nil->L7, callWith_builtin->Mx, evalArgs_plain->M8
open PySem.F renaming args_tuple_add_2->KP, entry_tuple_add->KZ, slot_tuple_add->K9, slot_dict_getitem->LY, slot_list_append->L_, type_list_append->Ma, plainAttrs_list->Mj, slot_dict_get->MV
open PySem.Heap renaming get?_push_of_some->Hu, lt_size->HD, get?_push_size->HK, size_push->JG, SameBut->JQ, get?_update_self->MN, ExtBut->Ob
open PySem.Heap.SameBut renaming update->KI, refl->Li
open PySem.NameKind renaming free->IP, cell->JP
open PySem.Obj renaming data_mapFields->K6, isFreed_of_fields->MO
open PySem.Paired renaming length->Jt, snoc->N8
open PySem.PassesOwn renaming never->Ih
open PySem.PyData renaming tuple->Ii, int->Iv, canLayAll0->IE, eqv->IL, depthAll->IN, canLay0->JR, bool->JT, eqvAll->Kc, depth->Ks, str->NM
open PySem.PyData.int renaming injEq->Mt
open PySem.PyData.list renaming injEq->Ky
open PySem.PyData.tuple renaming injEq->Iy
open PySem.SeqAt renaming shaped->IK, canLay_of_shaped->My
open PySem.Str renaming ofString->Iw
open PySem.Value renaming ref->Jd, none->J3, int->MF, isInt->N4, str->N5
open PySem.W renaming mg_none_of->HY, boot_heap->Jn, Frag->JS, nsIn->MZ, fnOf->M0, OpenLaw->M3, boot_drawn->M4, codeIn->Nf, keepIn->Ng, boot_toks->Nt, OpenLaw->Of
open Rat renaming intCast_mul->IQ, mul_le_mul_of_nonneg_left->Kj, div_def->KL, one_mul->KM, le_refl->KO, le_of_lt->Lo, normalize->Mn, neg_num->Mp, intCast_sub->MR, add_zero->MS, mul_zero->MY, lt_iff->NO, zero_add->NW, mul_comm->NY, neg_den->Od
open Sum renaming inr->K_, inl->Nh
open True renaming intro->Lh
open PySem PySem.Spec PyProof.Rows
variable{loose N N':List Str}{α:Type}{m t' i n:Nat}{xs xs':List Hi}{us:List Hq}{a it f:Addr}{b j:Int}{P:HV}{w:IF}{h h':Heap}{x qual:Str}{A:IM}{E Q:Hq->Ht->Prop}{u:List (List Int×Addr×Hq)×Obj}{pos pos' px spos:Pos}{pins:List (Addr×Obj)}{tg iter:Expr}{fp:List Addr}{op:CmpOp}{fd:Kb}{ps:List (List Rat)}{mg:Str->Option Hq}{scope:Scope}{kvs:List (List Int×Hi)}{XP:(Str->Option Hq)->Heap->Prop}{ns p:List Int}{d:Hi}{ifs:List Expr}{tn:Nat->Heap->Prop}{Rp:Addr->N6->Ht->Prop}{q:Rat}{c es:List Rat}{z:List Rat×Rat}
theorem æa(h:True:=by rfl):True:=trivial
theorem æb(h:True:=by decide):True:=trivial
theorem æc(h:True:=by intro _;rfl):True:=trivial
theorem æd(h:True:=by first|exact JC rfl|exact I_ (JC rfl)|exact I_ (I_ rfl)):True:=trivial
theorem æe(h:True:=by first|exact JC rfl|exact I_ rfl):True:=trivial
theorem æf(h:True:=by first|exact .inl rfl|exact .inr rfl):True:=trivial
theorem æg(h:True:=by exact fun _ _=>rfl):True:=trivial
theorem æh(h:True:=by first|exact .inl rfl|exact .inr rfl|assumption):True:=trivial
theorem æi(h:True:=by intro _ _;rfl):True:=trivial
noncomputable section
namespace L2
open PySem
noncomputable def wv(s:Stmt)(j:Nat):Stmt:=match s with
 | .ClassDef _ _ _ body _ _ _ _ _ _ _=>body.getD j (.Pass ⟨0,0,0,0⟩)
 | _=>.Pass ⟨0,0,0,0⟩
noncomputable def defArgs(s:Stmt):Arguments:=match s with
 | .FunctionDef _ a _ _ _ _ _ _ _ _=>a
 | _=>{posonlyargs:=[],args:=[],vararg:=none,kwonlyargs:=[],kw_defaults:=[],kwarg:=none,defaults:=[]}
noncomputable def defBody(s:Stmt):List Stmt:=match s with
 | .FunctionDef _ _ b _ _ _ _ _ _ _=>b
 | _=>[]
noncomputable def defScope(s:Stmt):Scope:=match s with
 | .FunctionDef _ _ _ _ _ _ sc _ _ _=>sc
 | _=>{kind:=.function,names:=[],isGenerator:=false,isCoroutine:=false}
end L2
namespace L2.TT
open PySem PySem.W
noncomputable def FP(tb:String->Option Builtin)(p:HV)(w:IF)(m:Nat)(ann:Option Hq):Nat->SharedT->Thread->Option SharedT
 | 0,_,_=>none
 | n+1,s,t=>match through t with
   | true=>some s
   | false=>match stepOk m ann t with
     | false=>none
     | true=>match stepT (denote tb) p w s t with
       | some r=>FP tb p w m ann n r.1 r.2
       | none=>none
theorem uq{tb:String->Option Builtin}{p:HV}{w:IF}{m:Nat}{ann:Option Hq}:∀{n:Nat}{s s':SharedT}{t:Thread},FP tb p w m ann n s t=some s'->topRun tb p w m ann n s.abs t=some s'.abs
 | 0,_,_,_,h=>by cases h
 | n+1,s,s',t,h=>by
   unfold FP at h;unfold topRun
   cases he:through t with
   | true=>rw[he]at h;cases h;rfl
   | false =>
     rw[he]at h
     cases hk:stepOk m ann t with
     | false=>rw[hk]at h;cases h
     | true =>
       rw[hk]at h
       cases hs:stepT (denote tb) p w s t with
       | none=>rw[hs]at h;cases h
       | some r=>rw[hs]at h;rw[stepT_spec hs];exact uq h
noncomputable def bt(os:List Obj):Nat->Nat->Nat->BT
 | 0,_,_=>.nil
 | f+1,a,b=>match os[b]? with
   | some o=>.node o (bt os f (2*a) (a+b)) (bt os f (2*a) (2*a+b))
   | none=>.nil
theorem boot_abs(P:Oe):absHeap (bt (Jn P).objs.toList 12 1 0) (Jn P).objs.size (Jn P).life=Jn P:=by kernel_rfl
abbrev yU(p q:HV)(loose:List Str)(Xt:Ht->Bool){α:Type}(Yf:Ht->α)(h₀:Heap)(s:Ht) :=
 (staticsOk (ME p.main.body) h₀ s.heap&&namesBound p s.heap&&gensDone s&&laidKept h₀ s.heap,openSeen q loose (ME p.main.body) Xt true s,Yf s)
theorem left_of{p q:HV}{Xt:Ht->Bool}{Yf:Ht->α}{Ya:IF->α}{N M:Nat}{ann:Option Hq}
 (e:opening p=plainProg p.main.scope.names)(hN:Nat.ble 600 N=true)(f:∀s,fenceModules? p s=some s)(le:Nat.ble M N=true)
 (size:∀w:IF,((Jn w.params).isNs IG,(Jn w.params).objs.size,(Jn w.params).nsMap IG "__annotations__")=(true,m,ann))
 (run:∀(w:IF)(os:OsState),(FP treeTable p w m ann M ⟨bt (Jn w.params).objs.toList 12 1 0,(Jn w.params).objs.size,(Jn w.params).life,N2 [],M4,Nt,os⟩ (topStub p)).map (fun s=>yU p q loose Xt Yf (Jn w.params) s.abs)=some (true,openGood q loose,Ya w)) :
 LeftO p q loose Xt Yf Ya N:=fun w=>by
 obtain⟨⟨h,gs,d,k,os⟩,eo,e'⟩:=Kl.mp (boot_open e hN f w);obtain⟨rfl,rfl,rfl,rfl⟩:h=Jn w.params/\gs=N2 []/\d=M4/\k=Nt:=by simpa using e'
 obtain⟨z1,z2,z3⟩:_/\_/\_:=by simpa only[Prod.mk.injEq]using size w
 obtain⟨s',r,l⟩:=Kl.mp (run w os);obtain⟨l1,l2,l3⟩:_/\_/\_:=by simpa only[yU,Prod.mk.injEq]using l
 have r:=uq r
 have hb:SharedT.abs ⟨bt (Jn w.params).objs.toList 12 1 0,(Jn w.params).objs.size,(Jn w.params).life,N2 [],M4,Nt,os⟩=⟨Jn w.params,N2 [],M4,Nt,os⟩:=by
  show Ht.mk (absHeap _ _ _) _ _ _ _=_;rw[boot_abs]
 rw[hb]at r;have r:=topRun_mono (N-M) _ _ _ _ r;rw[show M+(N-M)=N by have:=Nat.le_of_ble_eq_true le;omega]at r
 have t:topFrom treeTable p w N ⟨Jn w.params,N2 [],M4,Nt,os⟩=some s'.abs:=by
  unfold topFrom;dsimp only;rw[z1,z2,z3,r];show(match staticsOk (ME p.main.body) (Jn w.params) s'.abs.heap&&namesBound p s'.abs.heap&&gensDone s'.abs&&laidKept (Jn w.params) s'.abs.heap with|true=>_|false=>_)=_;rw[l1]
 unfold openEnds;rw[eo];show(topFrom treeTable p w N _).map _=_;rw[t];exact congrArg some (N3 l2 l3)
end L2.TT
namespace K88
open PySem
def EE(i:Nat):Stmt:=PySem.Challenge.pw_evenpoints_k88_whole_means_miss_no_more.main.body.getD i (.Pass ⟨0,0,0,0⟩)
end K88
noncomputable def PySem.W.Fast.tw17003860720320867589:PySem.Program:=PySem.Challenge.pw_evenpoints_k88_whole_means_miss_no_more
theorem PySem.W.Fast.te17003860720320867589:PySem.Challenge.pw_evenpoints_k88_whole_means_miss_no_more=PySem.W.Fast.tw17003860720320867589:=rfl
namespace K88
open PySem PySem.W L2
def D5:Stmt:=EE 0
def D4:Stmt:=EE 1
def D3:Stmt:=EE 2
def D2:Stmt:=EE 3
def D1:Stmt:=EE 4
def D0:Stmt:=EE 5
def DZ:Stmt:=EE 6
def DY:Stmt:=EE 7
def DX:Stmt:=EE 8
def DW:Stmt:=EE 9
def CG:Stmt:=EE 10
def CF:Stmt:=EE 11
def CD:Stmt:=EE 12
def CC:Stmt:=EE 13
def CA:Stmt:=EE 14
def Di:Stmt:=EE 15
def Cz:Stmt:=EE 16
def Cy:Stmt:=EE 17
def Cw:Stmt:=EE 18
def Dh:Stmt:=EE 19
def Cv:Stmt:=EE 20
def Dg:Stmt:=EE 21
def Cu:Stmt:=EE 22
def Ct:Stmt:=EE 23
def Cs:Stmt:=EE 24
def Df:Stmt:=EE 25
def Cr:Stmt:=EE 26
def Cq:Stmt:=EE 27
def Cp:Stmt:=EE 28
def Co:Stmt:=EE 29
def Cn:Stmt:=EE 30
def Cm:Stmt:=EE 31
def Ck:Stmt:=EE 32
def Cj:Stmt:=EE 33
def Ci:Stmt:=EE 34
def Ch:Stmt:=EE 35
def Cg:Stmt:=EE 36
def Cf:Stmt:=EE 37
def Ce:Stmt:=EE 38
def De:Stmt:=EE 39
def Cd:Stmt:=EE 40
def Cc:Stmt:=EE 41
def Cb:Stmt:=EE 42
def Ca:Stmt:=EE 43
def B_:Stmt:=EE 44
def B9:Stmt:=EE 45
def B8:Stmt:=EE 46
def B7:Stmt:=EE 47
def B6:Stmt:=EE 48
def B5:Stmt:=EE 49
def B4:Stmt:=EE 50
def B3:Stmt:=EE 51
def B2:Stmt:=EE 52
def BZ:Stmt:=EE 53
def BY:Stmt:=EE 54
def BX:Stmt:=EE 55
def Fa:HV:={PySem.Challenge.pw_evenpoints_k88_whole_means_miss_no_more with main:={PySem.Challenge.pw_evenpoints_k88_whole_means_miss_no_more.main with body:=[D5,D4,D3,D2,D1,D0,DZ,DY,DX,DW,CG,CF,CD,CC,CA,Di,Cz,Cy,Cw,Dh,Cv,Dg,Cu,Ct,Cs,Df,Cr,Cq,Cp,Co,Cn,Cm,Ck,Cj,Ci,Ch,Cg,Cf,Ce,De,Cd,Cc,Cb,Ca,B_,B9,B8,B7,B6,B5,B4,B3,B2,BZ,BY,BX]}}
def rwN:Of:={PySem.Challenge.rw_evenpoints_k88_whole_means_miss_no_more with prog:=Fa}
noncomputable def zview:HV:={PySem.Challenge.pw_evenpoints_k88_whole_means_miss_no_more with main:={PySem.Challenge.pw_evenpoints_k88_whole_means_miss_no_more.main with body:=[D4,D3,D1,D0,DZ,DY,DX,DW,CG,CF,CD,CC,CA,Cz,Cy,Cw,Cv,Cu,Ct,Cs,Cr,Cq,Cp,Co,Cn,Cm,Ck,Cj,Ci,Ch,Cg,Cf,Ce,Cd,Cc,Cb,Ca,B_,B9,B8,B7,B6,B5,B4,B3,B2,BZ,BY,BX]}}
theorem rw_eq:PySem.Challenge.rw_evenpoints_k88_whole_means_miss_no_more=rwN:=rfl
noncomputable def Ee(P:Oe)(x:Str)(t:Nat)(v:Hq):Ly:=⟨Hi.keyHash P x,.str x t,v⟩
noncomputable def Ed(n q:Str)(s:Stmt)(pm cd:Hq):Obj:=⟨.type "function", none,.func (fnOf n q (defArgs s) (defBody s) (defScope s) .none .none .none pm none cd .none),#[]⟩
noncomputable def Eg(n q:Str)(a b c:Nat)(l x y:Int)(r:Nat)(z:Int)(r2:Nat)(v1 v2 v3:Hq)(r3:Nat)(u:Int)(c2:Nat):Obj:=⟨.type "code", none,.fields #[.str n a,.str q b,.str "/claim/cut.py" c,.int l 0,.int x 0,.int 0 0,.int 0 0,.int y 0,.ref r,.bool true,.int z 0,.ref r2,v1,v2,v3,.ref r3,.int u 0,.int l 0,.str "/claim/cut.py" c2],#[]⟩
noncomputable def Eb:Hq:=.str "evenpoints.errors" 187
noncomputable def Ea:Hq:=.str "evenpoints.fractions" 232
noncomputable def D_:Hq:=.str "evenpoints.boxes" 312
noncomputable def D9:Hq:=.str "evenpoints.choices" 340
noncomputable def D8:Hq:=.str "evenpoints.patches" 348
noncomputable def D7:Hq:=.str "evenpoints.sums" 368
noncomputable def D6:Hq:=.str "law_evenpoints_k88_whole_means_miss_no_more" 466
abbrev Ec(n:Str):=Ed n n
abbrev Ef(n:Str):=Eg n n
noncomputable def heapK(P:Oe):Frag :=
 (nat_lit 2,(.mk .none none (.dict #[] 0) #[])) ::
 (nat_lit 3,(.mk (.type "dict") none (.dict #[Ee P "__name__" 165 (.str "law_evenpoints_k88_whole_means_miss_no_more" 466),Ee P "__doc__" 166 .none,Ee P "__package__" 167 .none,Ee P "__loader__" 168 (.builtin "__main__.__loader__#opaque"),Ee P "__spec__" 169 .none,Ee P "__annotations__" 170 (.ref 6),Ee P "__builtins__" 171 (.ref 4),Ee P "__file__" 173 (.str "/claim/cut.py" 172),Ee P "__cached__" 174 .none,Ee P "EvenError" 206 (.ref 24),Ee P "Nought" 231 (.ref 44),Ee P "ZERO" 236 (.ref 47),Ee P "ONE" 239 (.ref 48),Ee P "common_divisor" 247 (.ref 55),Ee P "fraction" 256 (.ref 62),Ee P "plus" 264 (.ref 69),Ee P "less" 272 (.ref 76),Ee P "times" 280 (.ref 83),Ee P "sum_of" 286 (.ref 88),Ee P "product_of" 295 (.ref 95),Ee P "over" 303 (.ref 102),Ee P "is_below" 311 (.ref 109),Ee P "goes_ahead" 322 (.ref 116),Ee P "lies" 333 (.ref 123),Ee P "lies_in" 339 (.ref 128),Ee P "choices" 347 (.ref 133),Ee P "stretch_of" 355 (.ref 138),Ee P "patch_of" 361 (.ref 143),Ee P "patches_of" 367 (.ref 148),Ee P "value_in" 379 (.ref 155),Ee P "value_at" 387 (.ref 162),Ee P "mean_of" 393 (.ref 167),Ee P "stretch_length" 402 (.ref 174),Ee P "patch_size" 408 (.ref 179),Ee P "whole_of" 414 (.ref 184),Ee P "next_patch" 422 (.ref 191),Ee P "falls_of" 428 (.ref 196),Ee P "patch_corner" 434 (.ref 201),Ee P "weights_of" 440 (.ref 206),Ee P "values_from" 446 (.ref 211),Ee P "sheet_of" 454 (.ref 218),Ee P "swing_of" 465 (.ref 225),Ee P "_law_feed" 474 (.ref 232),Ee P "_law_draw" 487 (.ref 239),Ee P "_law_frac" 497 (.ref 246),Ee P "_law_below" 505 (.ref 253),Ee P "_law_number" 513 (.ref 260),Ee P "_law_points" 519 (.ref 265),Ee P "_law_corner" 525 (.ref 270),Ee P "_law_uneven" 531 (.ref 275),Ee P "_law_cuts" 545 (.ref 282),Ee P "_law_value" 552 (.ref 289),Ee P "_law_sheet" 558 (.ref 294),Ee P "_law_plus" 566 (.ref 301),Ee P "_law_times" 574 (.ref 308),Ee P "_law_one_box" 580 (.ref 313),Ee P "_law_added" 586 (.ref 318),Ee P "law" 592 (.ref 323)] 58) #[])) ::
 (nat_lit 6,(.mk (.type "dict") none (.dict #[] 0) #[])) ::
 (nat_lit 15,(.mk (.type "tuple") none (.seq #[(.type "ValueError")] 0) #[])) ::
 (nat_lit 22,(.mk (.type "tuple") none (.seq #[] 0) #[])) ::
 (nat_lit 23,(.mk (.type "dict") none (.dict #[Ee P "__module__" 196 (.str "evenpoints.errors" 187),Ee P "__firstlineno__" 200 (.int 2 199),Ee P "__static_attributes__" 201 (.ref 22),Ee P "__weakref__" 203 (.ref 25),Ee P "__doc__" 204 .none] 3) #[])) ::
 (nat_lit 24,(.mk (.type "type") none (.cls (.mk "EvenError" [(.type "ValueError")] [(.ref 24),(.type "ValueError"),(.type "Exception"),(.type "BaseException"),(.type "object")] 23 "EvenError" true [] [(.ref 44)] false none false)) #[(some (.ref 15)),none,(some (.str "EvenError" 189)),(some (.str "EvenError" 197)),(some (.builtin "ValueError.__new__")),(some (.bool true))])) ::
 (nat_lit 25,(.mk (.type "getset_descriptor") none (.fields #[(.str "__weakref__" 202),(.ref 24),(.builtin "ExceptionGroup.__weakref__"),.none]) #[])) ::
 (nat_lit 28,(.mk (.type "tuple") none (.seq #[(.ref 24)] 0) #[])) ::
 (nat_lit 40,Eg "__init__" "Nought.__init__" 219 220 221 6 2 3 35 181 36 .none (.ref 37) (.ref 38) 39 224 225) ::
 (nat_lit 41,Ed "__init__" "Nought.__init__" (wv (EE 2) 0) Eb (.ref 40)) ::
 (nat_lit 42,(.mk (.type "tuple") none (.seq #[(.str "word" 227)] 0) #[])) ::
 (nat_lit 43,(.mk (.type "dict") none (.dict #[Ee P "__module__" 214 (.str "evenpoints.errors" 187),Ee P "__firstlineno__" 218 (.int 4 217),Ee P "__init__" 226 (.ref 41),Ee P "__static_attributes__" 228 (.ref 42),Ee P "__doc__" 229 .none] 2) #[])) ::
 (nat_lit 44,(.mk (.type "type") none (.cls (.mk "Nought" [(.ref 24)] [(.ref 44),(.ref 24),(.type "ValueError"),(.type "Exception"),(.type "BaseException"),(.type "object")] 43 "Nought" true [] [] false none false)) #[(some (.ref 28)),none,(some (.str "Nought" 207)),(some (.str "Nought" 215)),(some (.builtin "ValueError.__new__")),(some (.bool true))])) ::
 (nat_lit 47,(.mk (.type "tuple") none (.seq #[(.int 0 234),(.int 1 235)] 0) #[])) ::
 (nat_lit 48,(.mk (.type "tuple") none (.seq #[(.int 1 237),(.int 1 238)] 0) #[])) ::
 (nat_lit 54,Ef "common_divisor" 240 241 242 11 2 3 49 181 50 .none (.ref 51) (.ref 52) 53 245 246) ::
 (nat_lit 55,Ec "common_divisor" (EE 6) Ea (.ref 54)) ::
 (nat_lit 61,Ef "fraction" 248 249 250 15 2 3 56 181 57 .none (.ref 58) (.ref 59) 60 254 255) ::
 (nat_lit 62,Ec "fraction" (EE 7) Ea (.ref 61)) ::
 (nat_lit 68,Ef "plus" 257 258 259 22 2 3 63 181 64 .none (.ref 65) (.ref 66) 67 262 263) ::
 (nat_lit 69,Ec "plus" (EE 8) Ea (.ref 68)) ::
 (nat_lit 75,Ef "less" 265 266 267 24 2 3 70 181 71 .none (.ref 72) (.ref 73) 74 270 271) ::
 (nat_lit 76,Ec "less" (EE 9) Ea (.ref 75)) ::
 (nat_lit 82,Ef "times" 273 274 275 26 2 3 77 181 78 .none (.ref 79) (.ref 80) 81 278 279) ::
 (nat_lit 83,Ec "times" (EE 10) Ea (.ref 82)) ::
 (nat_lit 87,Ef "sum_of" 281 282 283 28 1 3 84 181 85 .none .none .none 86 284 285) ::
 (nat_lit 88,Ec "sum_of" (EE 11) Ea (.ref 87)) ::
 (nat_lit 94,Ef "product_of" 287 288 289 33 1 3 89 181 90 .none (.ref 91) (.ref 92) 93 293 294) ::
 (nat_lit 95,Ec "product_of" (EE 12) Ea (.ref 94)) ::
 (nat_lit 101,Ef "over" 296 297 298 38 2 3 96 181 97 .none (.ref 98) (.ref 99) 100 301 302) ::
 (nat_lit 102,Ec "over" (EE 13) Ea (.ref 101)) ::
 (nat_lit 108,Ef "is_below" 304 305 306 42 2 3 103 181 104 .none (.ref 105) (.ref 106) 107 309 310) ::
 (nat_lit 109,Ec "is_below" (EE 14) Ea (.ref 108)) ::
 (nat_lit 115,Ef "goes_ahead" 314 315 316 45 3 3 110 181 111 .none (.ref 112) (.ref 113) 114 320 321) ::
 (nat_lit 116,Ec "goes_ahead" (EE 16) D_ (.ref 115)) ::
 (nat_lit 122,Ef "lies" 323 324 325 49 3 3 117 181 118 .none (.ref 119) (.ref 120) 121 331 332) ::
 (nat_lit 123,Ec "lies" (EE 17) D_ (.ref 122)) ::
 (nat_lit 127,Ef "lies_in" 334 335 336 57 3 3 124 181 125 .none .none .none 126 337 338) ::
 (nat_lit 128,Ec "lies_in" (EE 18) D_ (.ref 127)) ::
 (nat_lit 132,Ef "choices" 342 343 344 60 1 3 129 181 130 .none .none .none 131 345 346) ::
 (nat_lit 133,Ec "choices" (EE 20) D9 (.ref 132)) ::
 (nat_lit 137,Ef "stretch_of" 350 351 352 66 2 3 134 181 135 .none .none .none 136 353 354) ::
 (nat_lit 138,Ec "stretch_of" (EE 22) D8 (.ref 137)) ::
 (nat_lit 142,Ef "patch_of" 356 357 358 68 2 3 139 181 140 .none .none .none 141 359 360) ::
 (nat_lit 143,Ec "patch_of" (EE 23) D8 (.ref 142)) ::
 (nat_lit 147,Ef "patches_of" 362 363 364 70 1 3 144 181 145 .none .none .none 146 365 366) ::
 (nat_lit 148,Ec "patches_of" (EE 24) D8 (.ref 147)) ::
 (nat_lit 154,Ef "value_in" 370 371 372 73 2 3 149 181 150 .none (.ref 151) (.ref 152) 153 377 378) ::
 (nat_lit 155,Ec "value_in" (EE 26) D7 (.ref 154)) ::
 (nat_lit 161,Ef "value_at" 380 381 382 78 2 3 156 181 157 .none (.ref 158) (.ref 159) 160 385 386) ::
 (nat_lit 162,Ec "value_at" (EE 27) D7 (.ref 161)) ::
 (nat_lit 166,Ef "mean_of" 388 389 390 80 2 3 163 181 164 .none .none .none 165 391 392) ::
 (nat_lit 167,Ec "mean_of" (EE 28) D7 (.ref 166)) ::
 (nat_lit 173,Ef "stretch_length" 394 395 396 82 2 3 168 181 169 .none (.ref 170) (.ref 171) 172 400 401) ::
 (nat_lit 174,Ec "stretch_length" (EE 29) D7 (.ref 173)) ::
 (nat_lit 178,Ef "patch_size" 403 404 405 85 2 3 175 181 176 .none .none .none 177 406 407) ::
 (nat_lit 179,Ec "patch_size" (EE 30) D7 (.ref 178)) ::
 (nat_lit 183,Ef "whole_of" 409 410 411 87 1 3 180 181 181 .none .none .none 182 412 413) ::
 (nat_lit 184,Ec "whole_of" (EE 31) D7 (.ref 183)) ::
 (nat_lit 190,Ef "next_patch" 415 416 417 90 2 3 185 181 186 .none (.ref 187) (.ref 188) 189 420 421) ::
 (nat_lit 191,Ec "next_patch" (EE 32) D7 (.ref 190)) ::
 (nat_lit 195,Ef "falls_of" 423 424 425 92 1 3 192 181 193 .none .none .none 194 426 427) ::
 (nat_lit 196,Ec "falls_of" (EE 33) D7 (.ref 195)) ::
 (nat_lit 200,Ef "patch_corner" 429 430 431 98 2 3 197 181 198 .none .none .none 199 432 433) ::
 (nat_lit 201,Ec "patch_corner" (EE 34) D7 (.ref 200)) ::
 (nat_lit 205,Ef "weights_of" 435 436 437 100 1 3 202 181 203 .none .none .none 204 438 439) ::
 (nat_lit 206,Ec "weights_of" (EE 35) D7 (.ref 205)) ::
 (nat_lit 210,Ef "values_from" 441 442 443 103 3 3 207 181 208 .none .none .none 209 444 445) ::
 (nat_lit 211,Ec "values_from" (EE 36) D7 (.ref 210)) ::
 (nat_lit 217,Ef "sheet_of" 447 448 449 108 2 3 212 181 213 .none (.ref 214) (.ref 215) 216 452 453) ::
 (nat_lit 218,Ec "sheet_of" (EE 37) D7 (.ref 217)) ::
 (nat_lit 224,Ef "swing_of" 455 456 457 110 1 3 219 181 220 .none (.ref 221) (.ref 222) 223 463 464) ::
 (nat_lit 225,Ec "swing_of" (EE 38) D7 (.ref 224)) ::
 (nat_lit 231,Ef "_law_feed" 468 469 470 117 1 3 226 181 227 .none (.ref 228) (.ref 229) 230 472 473) ::
 (nat_lit 232,Ec "_law_feed" (EE 40) D6 (.ref 231)) ::
 (nat_lit 238,Ef "_law_draw" 475 476 477 119 2 3 233 181 234 .none (.ref 235) (.ref 236) 237 485 486) ::
 (nat_lit 239,Ec "_law_draw" (EE 41) D6 (.ref 238)) ::
 (nat_lit 245,Ef "_law_frac" 488 489 490 133 2 3 240 181 241 .none (.ref 242) (.ref 243) 244 495 496) ::
 (nat_lit 246,Ec "_law_frac" (EE 42) D6 (.ref 245)) ::
 (nat_lit 252,Ef "_law_below" 498 499 500 139 2 3 247 181 248 .none (.ref 249) (.ref 250) 251 503 504) ::
 (nat_lit 253,Ec "_law_below" (EE 43) D6 (.ref 252)) ::
 (nat_lit 259,Ef "_law_number" 506 507 508 141 1 3 254 181 255 .none (.ref 256) (.ref 257) 258 511 512) ::
 (nat_lit 260,Ec "_law_number" (EE 44) D6 (.ref 259)) ::
 (nat_lit 264,Ef "_law_points" 514 515 516 144 3 3 261 181 262 .none .none .none 263 517 518) ::
 (nat_lit 265,Ec "_law_points" (EE 45) D6 (.ref 264)) ::
 (nat_lit 269,Ef "_law_corner" 520 521 522 152 2 3 266 181 267 .none .none .none 268 523 524) ::
 (nat_lit 270,Ec "_law_corner" (EE 46) D6 (.ref 269)) ::
 (nat_lit 274,Ef "_law_uneven" 526 527 528 165 1 3 271 181 272 .none .none .none 273 529 530) ::
 (nat_lit 275,Ec "_law_uneven" (EE 47) D6 (.ref 274)) ::
 (nat_lit 281,Ef "_law_cuts" 532 533 534 182 2 3 276 181 277 .none (.ref 278) (.ref 279) 280 543 544) ::
 (nat_lit 282,Ec "_law_cuts" (EE 48) D6 (.ref 281)) ::
 (nat_lit 288,Ef "_law_value" 546 547 548 194 1 3 283 181 284 .none (.ref 285) (.ref 286) 287 550 551) ::
 (nat_lit 289,Ec "_law_value" (EE 49) D6 (.ref 288)) ::
 (nat_lit 293,Ef "_law_sheet" 553 554 555 196 2 3 290 181 291 .none .none .none 292 556 557) ::
 (nat_lit 294,Ec "_law_sheet" (EE 50) D6 (.ref 293)) ::
 (nat_lit 300,Ef "_law_plus" 559 560 561 204 2 3 295 181 296 .none (.ref 297) (.ref 298) 299 564 565) ::
 (nat_lit 301,Ec "_law_plus" (EE 51) D6 (.ref 300)) ::
 (nat_lit 307,Ef "_law_times" 567 568 569 206 2 3 302 181 303 .none (.ref 304) (.ref 305) 306 572 573) ::
 (nat_lit 308,Ec "_law_times" (EE 52) D6 (.ref 307)) ::
 (nat_lit 312,Ef "_law_one_box" 575 576 577 208 3 3 309 181 310 .none .none .none 311 578 579) ::
 (nat_lit 313,Ec "_law_one_box" (EE 53) D6 (.ref 312)) ::
 (nat_lit 317,Ef "_law_added" 581 582 583 221 2 3 314 181 315 .none .none .none 316 584 585) ::
 (nat_lit 318,Ec "_law_added" (EE 54) D6 (.ref 317)) ::
 (nat_lit 322,Ef "law" 587 588 589 228 1 3 319 181 320 .none .none .none 321 590 591) ::
 (nat_lit 323,Ec "law" (EE 55) D6 (.ref 322))::[]
noncomputable def heapA:List Addr:=nat_lit 2::nat_lit 3::nat_lit 6::nat_lit 15::nat_lit 22::nat_lit 23::nat_lit 24::nat_lit 25::nat_lit 28::nat_lit 40::nat_lit 41::nat_lit 42::nat_lit 43::nat_lit 44::nat_lit 47::nat_lit 48::nat_lit 54::nat_lit 55::nat_lit 61::nat_lit 62::nat_lit 68::nat_lit 69::nat_lit 75::nat_lit 76::nat_lit 82::nat_lit 83::nat_lit 87::nat_lit 88::nat_lit 94::nat_lit 95::nat_lit 101::nat_lit 102::nat_lit 108::nat_lit 109::nat_lit 115::nat_lit 116::nat_lit 122::nat_lit 123::nat_lit 127::nat_lit 128::nat_lit 132::nat_lit 133::nat_lit 137::nat_lit 138::nat_lit 142::nat_lit 143::nat_lit 147::nat_lit 148::nat_lit 154::nat_lit 155::nat_lit 161::nat_lit 162::nat_lit 166::nat_lit 167::nat_lit 173::nat_lit 174::nat_lit 178::nat_lit 179::nat_lit 183::nat_lit 184::nat_lit 190::nat_lit 191::nat_lit 195::nat_lit 196::nat_lit 200::nat_lit 201::nat_lit 205::nat_lit 206::nat_lit 210::nat_lit 211::nat_lit 217::nat_lit 218::nat_lit 224::nat_lit 225::nat_lit 231::nat_lit 232::nat_lit 238::nat_lit 239::nat_lit 245::nat_lit 246::nat_lit 252::nat_lit 253::nat_lit 259::nat_lit 260::nat_lit 264::nat_lit 265::nat_lit 269::nat_lit 270::nat_lit 274::nat_lit 275::nat_lit 281::nat_lit 282::nat_lit 288::nat_lit 289::nat_lit 293::nat_lit 294::nat_lit 300::nat_lit 301::nat_lit 307::nat_lit 308::nat_lit 312::nat_lit 313::nat_lit 317::nat_lit 318::nat_lit 322::nat_lit 323::[]
theorem heapE:∀P,heapA=(heapK P).map (·.1):=fun _=>rfl
theorem Ai:∀w:IF,((Jn w.params).isNs IG,(Jn w.params).objs.size,(Jn w.params).nsMap IG "__annotations__")=(true,11,some (.ref 6)):=fun w=>by kernel_rfl
set_option maxHeartbeats 0 in
theorem zleft:LeftO Fa zview [] (fun s=>xlAt zview [] s&&recOk (RowW.records rwN.row.toRowW) s) (Hook.obs (kHook heapK heapA heapE)) (Hook.val (kHook heapK heapA heapE)) 4348 :=
 L2.TT.left_of (M:=4348) (by kernel_rfl) rfl (fun s=>by kernel_rfl) rfl Ai fun w os=>by kernel_rfl
end K88
namespace L2
abbrev GP:=Sum Int Str
noncomputable def nE:GP->Hq->Bool
 | .inl k,v=>N4 k v
 | .inr x,v=>Hq.isStrOf x v
noncomputable def DN(w:IF):GP->Int
 | .inl k=>hashInt k
 | .inr x=>hashStr w x
theorem bP:∀{k:GP}{v:Hq},nE k v=true->(∃i t,k=Nh i/\v=MF i t)\/(∃x t,k=K_ x/\v=N5 x t)
 | .inl i,v,h=>by
   obtain⟨t,e⟩:=Hq.isInt_shape (k:=i) (v:=v) h
   exact .inl ⟨i,t,rfl,e⟩
 | .inr x,v,h=>by
   obtain⟨t,e⟩:=Hq.isStrOf_shape (x:=x) (v:=v) h;exact .inr ⟨x,t,rfl,e⟩
theorem pU(i:Int)(t:Tok):nE (.inl i) (.int i t)=true:=by simp[nE,N4]
theorem pS(x:Str)(t:Tok):nE (.inr x) (.str x t)=true:=by simp[nE,Hq.isStrOf]
theorem y9(a b:Int):decide ((Nh a:GP)=Nh b)=(a==b):=by
 by_cases e:a=b
 · subst e;simp
 · have h:¬(Nh a:GP)=Nh b:=fun q=>e (Nh.inj q);rw[decide_eq_false h];exact(beq_eq_false_iff_ne.mpr e).symm
theorem yZ(a b:Str):decide ((K_ a:GP)=K_ b)=decide (a=b):=by
 by_cases e:a=b
 · subst e;simp
 · have h:¬(K_ a:GP)=K_ b:=fun q=>e (K_.inj q);rw[decide_eq_false h,decide_eq_false e]
theorem y8(a:Int)(b:Str):decide ((Nh a:GP)=K_ b)=false:=decide_eq_false (fun q=>nomatch q)
theorem y7(a:Str)(b:Int):decide ((K_ a:GP)=Nh b)=false:=decide_eq_false (fun q=>nomatch q)
noncomputable def cA(prog:HV)(w:IF):PySem.KeyKind prog w GP where
 is:=nE
 hash:=DN w
 inj:=fun v a b ha hb=>by
  rcases bP ha with⟨i,t,rfl,rfl⟩|⟨x,t,rfl,rfl⟩
  · rcases bP hb with⟨j,u,rfl,e⟩|⟨y,u,rfl,e⟩
    · injection e with e1 _;rw[e1]
    · exact nomatch e
  · rcases bP hb with⟨j,u,rfl,e⟩|⟨y,u,rfl,e⟩
    · exact nomatch e
    · injection e with e1 _;rw[e1]
 byValue:=fun k v h=>by
   rcases bP h with⟨i,t,rfl,rfl⟩|⟨x,t,rfl,rfl⟩<;>rfl
 pyHash:=fun hv h=>by
  rcases bP hv with⟨i,t,rfl,rfl⟩|⟨x,t,rfl,rfl⟩
  · exact wpAny_pyHash_int h
  · exact wpAny_pyHash_str h
 eqBool:=fun hu hv h=>by
  rcases bP hu with⟨i,t,rfl,rfl⟩|⟨x,t,rfl,rfl⟩
  · rcases bP hv with⟨j,u,rfl,rfl⟩|⟨y,u,rfl,rfl⟩
    · rw[y9]at h;exact wpAny_eqBool_int h
    · rw[y8]at h;exact SeqAt.EqAt.int_str i t y u _ _ _ _ h
  · rcases bP hv with⟨j,u,rfl,rfl⟩|⟨y,u,rfl,rfl⟩
    · rw[y7]at h;exact SeqAt.EqAt.str_int x t j u _ _ _ _ h
    · rw[yZ]at h;exact wpAny_eqBool_str h
 «strs»:=fun k x t v h=>by
  rcases bP h with⟨i,u,rfl,e⟩|⟨y,u,rfl,e⟩
  · exact nomatch e
  · injection e with e1 _
    subst e1;cases v<;>rfl
theorem lb(prog:HV)(w:IF)(i:Int)(t:Tok):(cA prog w).is (.inl i) (.int i t)=true:=pU i t
theorem k_(prog:HV)(w:IF)(x:Str)(t:Tok):(cA prog w).is (.inr x) (.str x t)=true:=pS x t
inductive V where
 | non|bl (b:Bool)|int (i:Int)|str (x:Str)|byt (b:Array UInt8)|flt (b:UInt64)|ref (a:Addr)|ty (n:String)
 deriving DecidableEq
noncomputable def RelV:V->Hq->Prop
 | .non,u=>u=J3
 | .bl b,u=>u=Hq.bool b
 | .int i,u=>∃t,u=MF i t
 | .str x,u=>∃t,u=N5 x t
 | .byt b,u=>∃t,u=Hq.bytes b t
 | .flt b,u=>∃t,u=Hq.float b t
 | .ref a,u=>u=Jd a
 | .ty n,u=>u=Hq.type n
abbrev de:List V->List Hq->Prop:=Jc RelV
theorem de.length{xs:List V}(r:de xs us):xs.length=us.length:=Jt r
theorem de.get:∀{xs:List V}{us:List Hq}{i:Nat}{x:V},de xs us->xs[i]?=some x->∃u,us[i]?=some u/\RelV x u
 | _,_,_,_,.nil,e=>by simp at e
 | _,_,0,_,.cons r _,e=>by simp at e;subst e;exact⟨_,rfl,r⟩
 | _,_,i+1,x,.cons _ t,e=>by
   obtain⟨u,h1,h2⟩:=de.get (i:=i) (x:=x) t (by simpa using e);exact⟨u,by simpa using h1,h2⟩
theorem de.append:∀{xs ys:List V}{us ws:List Hq},de xs us->de ys ws->de (xs++ys) (us++ws)
 | _,_,_,_,.nil,s=>s
 | _,_,_,_,.cons r t,s=>.cons r (de.append t s)
theorem de.take:∀{xs:List V}{us:List Hq}(n:Nat),de xs us->de (xs.take n) (us.take n)
 | _,_,0,_=>.nil
 | _,_,_+1,.nil=>.nil
 | _,_,n+1,.cons r t=>.cons r (de.take n t)
theorem de.drop:∀{xs:List V}{us:List Hq}(n:Nat),de xs us->de (xs.drop n) (us.drop n)
 | _,_,0,r=>r
 | _,_,_+1,.nil=>.nil
 | _,_,n+1,.cons _ t=>de.drop n t
noncomputable def wZ:Option V->Option Hq->Prop
 | some v,some u=>RelV v u
 | none,none=>True
 | _,_=>False
noncomputable def KV{κ:Type}:List (κ×V)->List (κ×Hq)->Prop:=Jc fun(p:κ×V)(q:κ×Hq)=>p.1=q.1/\RelV p.2 q.2
noncomputable def kV:GP->V
 | .inl i=>.int i
 | .inr x=>.str x
inductive HO where
 | lst (xs:List V)
 | tup (xs:List V)
 | dK (kvs:List (GP×V))|dT (kvs:List (List GP×V))
 | set (S:Int->Bool) (n:Nat)
 | ins (C dx:Addr) (fs:List (Str×V))
 | own (x:Addr)
 | xd (fs:List (Str×V))
 | met (f x:Addr)
 | rng (lo hi:Int)
 | frz (o:Obj) (u:HO)
 | tbl (ps:Array Hq)
 | ext (φ:Heap->Prop)
abbrev Hp:=Addr->Option HO
noncomputable def Ex(H:Hp)(a:Addr)(o:HO):Hp:=fun b=>if b=a then some o else H b
theorem aG{H:Hp}{o:HO}:Ex H a o a=some o:=by unfold Ex;rw[if_pos rfl]
theorem ar{H:Hp}{b:Addr}{o:HO}(h:b≠a):Ex H a o b=H b:=by unfold Ex;rw[if_neg h]
theorem A7{H:Hp}{b:Addr}{o u:HO}(h:H a=some o)(h':H b=some u)(d:o≠u):a≠b:=by
 intro e;subst e;rw[h]at h';exact d (IA h')
theorem bi{H:Hp}{b:Addr}{o:HO}(h:H a=some o)(h':H b=none):a≠b:=by
 intro e;subst e;rw[h]at h';cases h'
section
variable(P:HV)(w:IF)
noncomputable def rb(h:Heap)(a:Addr)(items:Array Hq):Prop:=∃o,h.get? a=some o/\o.cls = .type "tuple" /\ (∃n,o.data = .seq items n)/\o.dict=none
theorem rb.tup{h:Heap}{a:Addr}{items:Array Hq}(x:rb h a items):N1 h a items:=let ⟨o,e1,e2,e3,_⟩:=x;⟨o,e1,e2,e3⟩
theorem rb.new(h:Heap)(items:Array Hq):rb (h.push {cls:=.type "tuple", data:=.seq items}) h.objs.size items:=⟨_,HK _ rfl,rfl,⟨_,rfl⟩,rfl⟩
noncomputable def cZ(H:Hp)(h:Heap)(a:Addr):HO->Prop
 | .lst xs=>xs.length<=sizeLine/\∃(its:List Hq)(n:Nat),de xs its/\h.get? a=some {cls:=.type "list", data:=.seq its.toArray n}
 | .tup xs=>xs.length<=sizeLine/\∃its:List Hq,de xs its/\rb h a its.toArray
 | .dK kvs=>kvs.length<=sizeLine/\(a==JK)=false/\∃vs,KV kvs vs/\h.DictOf (cA P w) a vs
 | .dT kvs=>kvs.length<=sizeLine/\(a==JK)=false/\∃xs:List (List GP×Addr×Hq),
     Jc (fun(p:List GP×V)(q:List GP×Addr×Hq)=>p.1=q.1/\H q.2.1=some (.tup (p.1.map kV))/\RelV p.2 q.2.2) kvs xs /\
     ∃o es ep,h.get? a=some o/\o.ExactDict/\o.data = .dict es ep/\es.toList=xs.map (NG (J4 (cA P w)))/\(xs.map (·.1)).Nodup
 | .set S n=>h.SetOf (Lz P w) a S n
 | .ins C dx fs=>H dx=some (.own a)/\fs.length<=1000/\dx≠a/\h.get? a=some (W.instObj C dx) /\
     ∃mA,h.Ns1 dx mA/\(∀f,wZ (fs.lookup f) (mA f))/\PySem.Within mA (fs.map (·.1))
 | .own _=>∃o,h.get? a=some o
 | .xd fs=>∃mA,h.Ns1 a mA/\∀f,wZ (fs.lookup f) (mA f)
 | .rng lo hi=>∃t u v,h.get? a=some {cls:=.type "range", data:=.fields #[.int lo t,.int hi u,.int 1 v]}
 | .frz o u=>h.get? a=some o/\cZ H h a u
 | .tbl ps=>h.get? a=some {cls:=.none,data:=.fields ps}
 | .met f x=>h.get? a=some (W.methodObj (.ref f) (.ref x))
 | .ext φ=>φ h/\(∃o,h.get? a=some o)/\∀h1 h2:Heap,φ h1->(∀o,h1.get? a=some o->h2.get? a=some o)->φ h2
noncomputable def G0(H:Hp)(h:Heap):Prop:=∀a o,H a=some o->cZ P w H h a o
end
section
variable{P:HV}{w:IF}{H H':Hp}{h h':Heap}{a:Addr}{o:HO}
theorem cZ.lt(x:cZ P w H h a o):a<h.objs.size:=by
 cases o with
 | lst xs=>obtain⟨_,_,_,_,e⟩:=x;exact HD e
 | tup xs=>obtain⟨_,_,_,p⟩:=x;exact p.tup.lt
 | dK kvs=>obtain⟨_,_,_,_,o,_,_,e,_⟩:=x;exact HD e
 | dT kvs=>obtain⟨_,_,_,_,o,_,_,e,_⟩:=x;exact HD e
 | set S n=>obtain⟨o,_,_,_,e,_⟩:=x;exact HD e
 | ins C dx fs=>obtain⟨_,_,_,e,_⟩:=x;exact HD e
 | own y=>obtain⟨_,e⟩:=x;exact HD e
 | xd fs=>obtain⟨_,⟨_,_,_,e,_⟩,_⟩:=x;exact HD e
 | rng lo hi=>obtain⟨_,_,_,e⟩:=x;exact HD e
 | frz ob u=>obtain⟨e,_⟩:=x;exact HD e
 | tbl ps=>exact HD (show h.get? a=some _ from x)
 | met f y=>exact HD (show h.get? a=some _ from x)
 | ext φ=>obtain⟨_,⟨_,e⟩,_⟩:=x;exact HD e
theorem Jc.mapP{α β:Type}{F G:α->β->Prop}:∀{l₁:List α}{l₂:List β},Jc F l₁ l₂->(∀a b,F a b->G a b)->Jc G l₁ l₂
 | _,_,.nil,_=>.nil
 | _,_,.cons r t,f=>.cons (f _ _ r) (Jc.mapP t f)
theorem cZ.stay(x:cZ P w H h a o)(k:∀b u,(b=a\/H b=some (.own a))->h.get? b=some u->h'.get? b=some u)
 (ho:∀b,H b=some (.own a)->H' b=some (.own a))(ht:∀b xs,H b=some (.tup xs)->H' b=some (.tup xs)):cZ P w H' h' a o:=by
 induction o with
 | lst xs=>obtain⟨z,its,n,r,e⟩:=x;exact⟨z,its,n,r,k _ _ (.inl rfl) e⟩
 | tup xs=>obtain⟨z,its,r,ob,e,c⟩:=x;exact⟨z,its,r,ob,k _ _ (.inl rfl) e,c⟩
 | dK kvs=>obtain⟨z,y,vs,r,ob,es,ep,e,c⟩:=x;exact⟨z,y,vs,r,ob,es,ep,k _ _ (.inl rfl) e,c⟩
 | dT kvs =>
   obtain⟨z,y,xs,r,ob,es,ep,e,c⟩:=x
   exact⟨z,y,xs,Jc.mapP r fun p q z=>⟨z.1,ht _ _ z.2.1,z.2.2⟩,ob,es,ep,k _ _ (.inl rfl) e,c⟩
 | set S n=>obtain⟨ob,es,ep,t,e,c⟩:=x;exact⟨ob,es,ep,t,k _ _ (.inl rfl) e,c⟩
 | ins C dx fs =>
   obtain⟨d,z,ne,e,mA,⟨od,es,ep,e2,c⟩,r⟩:=x
   exact⟨ho _ d,z,ne,k _ _ (.inl rfl) e,mA,⟨od,es,ep,k _ _ (.inr d) e2,c⟩,r⟩
 | own y=>obtain⟨ob,e⟩:=x;exact⟨ob,k _ _ (.inl rfl) e⟩
 | xd fs=>obtain⟨mA,⟨od,es,ep,e,c⟩,r⟩:=x;exact⟨mA,⟨od,es,ep,k _ _ (.inl rfl) e,c⟩,r⟩
 | rng lo hi=>obtain⟨t,u,v,e⟩:=x;exact⟨t,u,v,k _ _ (.inl rfl) e⟩
 | frz ob u ih=>obtain⟨e,q⟩:=x;exact⟨k _ _ (.inl rfl) e,ih q⟩
 | tbl ps =>
   have e:h.get? a=some {cls:=.none,data:=.fields ps}:=x;show h'.get? a=some {cls:=.none,data:=.fields ps}
   exact k a _ (.inl rfl) e
 | met f y =>
   have e:h.get? a=some (W.methodObj (.ref f) (.ref y)):=x;show h'.get? a=some (W.methodObj (.ref f) (.ref y))
   exact k a _ (.inl rfl) e
 | ext φ=>obtain⟨p,⟨o,e⟩,st⟩:=x;exact⟨st _ _ p fun o q=>k _ _ (.inl rfl) q,⟨o,k _ _ (.inl rfl) e⟩,st⟩
theorem G0.lt(x:G0 P w H h)(e:H a=some o):a<h.objs.size:=(x a o e).lt
theorem G0.fresh(x:G0 P w H h)(e:h.objs.size<=a):H a=none:=by
 cases q:H a with
 | none=>rfl
 | some u=>exact absurd (Hy (x.lt q) e) (Jj _)
theorem G0.kept(x:G0 P w H h)(k:∀b u,h.get? b=some u->h'.get? b=some u):G0 P w H h':=fun a o e =>
 (x a o e).stay (fun b u _ q=>k b u q) (fun _ q=>q) fun _ _ q=>q
theorem G0.laid(x:G0 P w H h)(k:∀b u,h.get? b=some u->h'.get? b=some u)(hp:h.objs.size<=a)(new:cZ P w (Ex H a o) h' a o):G0 P w (Ex H a o) h':=fun b u e=>by
 have hn:=x.fresh hp;by_cases hb:b=a
 · subst hb;rw[aG]at e;cases e;exact new
 · rw[ar hb]at e;exact(x b u e).stay (fun c v _ q=>k c v q) (fun c q=>by rw[ar (bi q hn)];exact q) fun c xs q=>by rw[ar (bi q hn)];exact q
end
noncomputable def Rd(H:Hp)(a:Addr)(u:HO):Prop:=H a=some u\/∃o,H a=some (.frz o u)
theorem Rd.ok{H:Hp}{u:HO}(r:Rd H a u)(x:G0 P w H h):cZ P w H h a u:=by
 rcases r with r|⟨o,r⟩
 · exact x a u r
 · obtain⟨_,q⟩:=x a _ r;exact q
noncomputable def GM:Option HO->Prop
 | some (.lst _)=>True
 | some (.dK _)=>True
 | some (.dT _)=>True
 | some (.set _ _)=>True
 | some (.ins _ _ _)=>True
 | some (.ext _)=>True
 | _=>False
section
variable{P:HV}{w:IF}{H:Hp}{h h':Heap}{x e:Addr}{o':HO}
theorem G0.write(ok:G0 P w H h)(mu:GM (H x))(he:e=x\/H e=some (.own x))(k:∀b u,b≠e->h.get? b=some u->h'.get? b=some u)(heo:∃u,h'.get? e=some u)
 (new:cZ P w (Ex H x o') h' x o'):G0 P w (Ex H x o') h':=fun b u q=>by
 have nown:∀c y,H c=some (.own y)->c≠x:=fun c y r z=>by subst z;rw[r]at mu;exact mu
 have ntup:∀c xs,H c=some (.tup xs)->c≠x:=fun c xs r z=>by subst z;rw[r]at mu;exact mu
 by_cases hb:b=x
 · subst hb;rw[aG]at q;cases q;exact new
 · rw[ar hb]at q;by_cases hbe:b=e
   · have q':H b=some (.own x):=by
       rcases he with z|z
       · exact absurd (hbe.trans z) hb
       · rw[hbe];exact z
     rw[q]at q';cases q';obtain⟨v,hv⟩:=heo;exact⟨v,by rw[hbe];exact hv⟩
   · refine(ok b u q).stay (fun c v hc r=>k c v ?_ r) (fun c r=>by rw[ar (nown c b r)];exact r) fun c xs r=>by rw[ar (ntup c xs r)];exact r
     rcases hc with rfl|hc
     · exact hbe
     · rintro rfl;rcases he with z|z
       · exact nown c b hc z
       · rw[hc]at z;cases z;exact hb rfl
end
structure Un (fs ex:List Addr) (H H':Hp) (h h':Heap):Prop where
 keep:∀b o,h.get? b=some o->H b=none->b∉fs->b∉ex->h'.get? b=some o
 slot:∀b o,h.get? b=some o->H b=none->b∈fs->b∉ex->∃sl,h'.get? b=some {o with slots:=sl}
 free:∀b o,h.get? b=some o->H b=none->b∉ex->H' b=none
 there:∀b o,h.get? b=some o->b∉ex->∃o',h'.get? b=some o'
 tups:∀b xs,H b=some (.tup xs)->H' b=some (.tup xs)
 frzs:∀b o u,H b=some (.frz o u)->H' b=some (.frz o u)
 tbls:∀b ps,H b=some (.tbl ps)->∃more,H' b=some (.tbl (ps++more))
section
variable{fs fs' ex ex':List Addr}{H H1 H2:Hp}{h h1 h2 h':Heap}{a x e:Addr}{o:HO}
theorem Un.any(u:Un fs ex H H1 h h1){b:Addr}{ob:Obj}(q:h.get? b=some ob)(n:H b=none)(hx:b∉ex):∃sl,h1.get? b=some {ob with slots:=sl}:=by
 by_cases hb:b∈fs
 · exact u.slot b ob q n hb hx
 · exact⟨ob.slots,u.keep b ob q n hb hx⟩
theorem Un.kept(k:∀b u,h.get? b=some u->h'.get? b=some u):Un fs ex H H h h' :=
 ⟨fun b ob q _ _ _=>k b ob q,fun b ob q _ _ _=>⟨ob.slots,k b ob q⟩,fun _ _ _ n _=>n,fun b ob q _=>⟨ob,k b ob q⟩,fun _ _ q=>q,fun _ _ _ q=>q,fun _ ps q=>⟨#[],by rw[q];simp⟩⟩
theorem Un.refl:Un fs ex H H h h:=Un.kept fun _ _ q=>q
theorem Un.laid(k:∀b u,h.get? b=some u->h'.get? b=some u)(hp:h.objs.size<=a)(hn:H a=none):Un fs ex H (Ex H a o) h h' where
 keep:=fun b u q _ _ _=>k b u q
 slot:=fun b u q _ _ _=>⟨u.slots,k b u q⟩
 free:=fun b u q n _=>by rw[ar (Io (Hy (HD q) hp))];exact n
 there:=fun b u q _=>⟨u,k b u q⟩
 tups:=fun b xs q=>by rw[ar (bi q hn)];exact q
 frzs:=fun b u xs q=>by rw[ar (bi q hn)];exact q
 tbls:=fun b ps q=>⟨#[],by rw[ar (bi q hn),q];simp⟩
theorem Un.write(mu:GM (H x))(he:e=x\/H e=some (.own x))(k:∀b u,b≠e->h.get? b=some u->h'.get? b=some u)(heo:∃u,h'.get? e=some u):Un fs ex H (Ex H x o) h h':=by
 have hx:∀b,H b=none->b≠x:=fun b n z=>by subst z;rw[n]at mu;exact mu
 have hb:∀b,H b=none->b≠e:=fun b n z=>by
  subst z;rcases he with r|r
  · exact hx b n r
  · rw[n]at r;cases r
 have hm:∀b u,H b=some u->¬GM (some u)->b≠x:=fun b u q nm z=>by subst z;rw[q]at mu;exact nm mu
 refine⟨fun b u q n _ _=>k b u (hb b n) q,fun b u q n _ _=>⟨u.slots,k b u (hb b n) q⟩,fun b u q n _=>by rw[ar (hx b n)];exact n,fun b u q _=>?_,
  fun b xs q=>by rw[ar (hm b _ q fun z=>z)];exact q,fun b u xs q=>by rw[ar (hm b _ q fun z=>z)];exact q,fun b ps q=>⟨#[],by rw[ar (hm b _ q fun z=>z),q];simp⟩⟩
 by_cases hbe:b=e
 · subst hbe;exact heo
 · exact⟨u,k b u hbe q⟩
end
noncomputable def ED(h:Heap)(H:Hp):List Addr:=(IJ h.objs.size).filter fun a=>(H a).isSome
noncomputable def sK(h:Heap)(H:Hp):Heap:=W.hideAll h (ED h H)
theorem p7(h:Heap)(H:Hp):(sK h H).objs.size=h.objs.size:=W.hideAll_size _ _
theorem sJ{H:Hp}{b:Addr}{o:Obj}(e:h.get? b=some o)(n:H b=none):(sK h H).get? b=some o :=
 W.hideAll_get _ e fun hm=>by
  have q:(H b).isSome=true:=(LA.mp hm).2;rw[n]at q;simp at q
theorem v6{H:Hp}{b:Addr}{o:Obj}(e:(sK h H).get? b=some o):h.get? b=some o/\H b=none:=by
 have e':h.get? b=some o:=W.of_hideAll (ED h H) e;refine⟨e',?_⟩
 cases q:H b with
 | none=>rfl
 | some x =>
   have hm:b∈ED h H:=LA.mpr ⟨LW.mpr (HD e'),by simp[q]⟩;have z:(sK h H).get? b=none:=W.hideAll_none (ED h H) hm;rw[z]at e;cases e
noncomputable def wP(g h:Heap)(L:Addr):List (Addr×Obj):=(IJ h.objs.size).filterMap fun a=>if a=L\/(g.get? a).isSome=true then none else(h.get? a).map fun o=>(a,o)
noncomputable def rest(g h:Heap)(L d:Addr):List (Addr×Obj):=(wP g h L).filter fun p=>decide (p.1≠d)
structure Mod (K:W.Frag) (mg:Str->Option Hq) (base:Heap):Prop where
 kin:K.In base
 glob:base.Ns IG mg
 blt:∃mb,base.Ns builtinsNs mb/\∀x:Str,x ≠ "__name__" -> mb x=Kp x
 nolimit:base.NoLimit
structure Cx where
 prog:HV
 w:IF
 K:W.Frag
 mg:Str->Option Hq
 base:Heap
 A:IM
 N:List Str
 s₀:Ht
 H₀:Hp
 env:Env
 outer:List Env
 stack:List Env
 ex:List Addr
 fn:Str->Bool
 calm:Bool
 pn:List (Addr×Obj)
 xe:Hq->Ht->Prop
noncomputable def frs(l:List Env):List Addr:=l.filterMap (·.frame)
abbrev Cx.fs(X:Cx):List Addr:=frs X.outer
noncomputable def Gf(sc:Scope)(x:Str):Prop:=sc.names.lookup x=some .local\/sc.names.lookup x=some .cell\/sc.names.lookup x=some .free
noncomputable def Loc(sc:Scope)(x:Str):Prop:=sc.names.lookup x=some .local\/sc.names.lookup x=some .cell
noncomputable def Look(env:Env)(h:Heap)(m:Str->Option Hq)(x:Str)(u:Hq):Prop :=
 (env.kindOf x=some .local/\m x=some u)\/((env.kindOf x=some .cell\/env.kindOf x=some .free)/\∃c,env.cells.lookup x=some c/\h.IsCell c (some u))
structure Cx.Ok (X:Cx):Prop where
 mod:Mod X.K X.mg X.base
 kind:X.env.scope.kind = .function
 glob:X.env.globals=IG
 blt:X.env.builtins=builtinsNs
 above:X.s₀.heap.objs.size<=X.env.locals
 inj:∀x y c,X.env.cells.lookup x=some c->X.env.cells.lookup y=some c->x=y
 has:∀x,(X.env.kindOf x=some .cell\/X.env.kindOf x=some .free)->∃c,X.env.cells.lookup x=some c
 cab:∀x c,X.fn x=true->X.env.cells.lookup x=some c->X.s₀.heap.objs.size<=c
 hd:X.calm=true->X.A.handled=none
 frames:X.A.frames=some X.stack
 stk:X.stack=X.outer\/(X.stack=X.env::X.outer/\X.env.frame=some X.env.locals)
 exf:∀b∈X.ex,b≠X.env.locals/\∀x c,X.env.cells.lookup x=some c->c≠b
 bs:∀b o,X.base.get? b=some o->X.s₀.heap.get? b=some o/\X.H₀ b=none
 bsz:X.base.objs.size<=X.s₀.heap.objs.size
 noex:∀b o,X.base.get? b=some o->b∉X.ex
 exfs:∀b∈X.ex,b∉X.fs
 funs:X.s₀.heap.FunFrames X.base X.outer
 frf:∀b∈X.fs,X.H₀ b=none
structure Inv (X:Cx) (pins:List (Addr×Obj)) (σ:List (Option V)) (H:Hp) (s:Ht):Prop where
 ok:X.Ok
 os:s.os=X.s₀.os
 bare:Ni s.gens
 base:Un X.fs X.ex X.H₀ H X.s₀.heap s.heap
 loc:∃m,s.heap.Ns X.env.locals m/\∀(i:Nat)(x:Str)(v:V),X.N[i]?=some x->σ[i]?=some (some v)->Gf X.env.scope x->∃u,RelV v u/\Look X.env s.heap m x u
 cell:∀x c,X.env.cells.lookup x=some c->∃v,s.heap.IsCell c v
 free:H X.env.locals=none
 freeC:∀x c,X.env.cells.lookup x=some c->H c=none
 pin:∀p∈X.pn++pins,s.heap.get? p.1=some p.2/\H p.1=none/\p.1≠X.env.locals/\p.1∉X.fs/\∀v,p.2.data ≠ .cell v
 hok:G0 X.prog X.w H s.heap
 len:σ.length=X.N.length
section
variable{X:Cx}{pins:List (Addr×Obj)}{σ:List (Option V)}{H H':Hp}{s:Ht}{h':Heap}
theorem Cx.Ok.nofr(ok:X.Ok){b:Addr}{o:Obj}(e:X.base.get? b=some o):b∉X.fs:=fun hb=>by
 have:=(ok.funs.mem hb).1;rw[e]at this;cases this
theorem Inv.bs(I:Inv X pins σ H s):∀b o,X.base.get? b=some o->s.heap.get? b=some o/\H b=none:=fun b o e =>
 ⟨I.base.keep b o (I.ok.bs b o e).1 (I.ok.bs b o e).2 (I.ok.nofr e) (I.ok.noex b o e),I.base.free b o (I.ok.bs b o e).1 (I.ok.bs b o e).2 (I.ok.noex b o e)⟩
theorem Inv.bk(I:Inv X pins σ H s):∀b o,X.base.get? b=some o->s.heap.get? b=some o:=fun b o e=>(I.bs b o e).1
theorem Inv.mod(I:Inv X pins σ H s):Mod X.K X.mg X.base:=I.ok.mod
theorem Inv.kIn(I:Inv X pins σ H s):X.K.In s.heap:=I.ok.mod.kin.keeps I.bk
theorem Inv.lt(I:Inv X pins σ H s):X.env.locals<s.heap.objs.size:=let ⟨_,hn,_⟩:=I.loc;hn.lt
theorem Inv.sz(I:Inv X pins σ H s):X.s₀.heap.objs.size<=s.heap.objs.size:=Je I.ok.above (NP I.lt)
theorem Inv.nofs(I:Inv X pins σ H s)(h:s.heap.objs.size<=a):a∉X.fs:=fun hb=>by
 obtain⟨_,o,ho,_⟩:=I.ok.funs.mem hb;exact absurd (Hy (HD ho) (Je I.sz h)) (Jj _)
theorem Inv.cne(I:Inv X pins σ H s):∀x c,X.env.cells.lookup x=some c->c≠X.env.locals:=fun x c e z=>by
 obtain⟨v,o,ho,hd⟩:=I.cell x c e;obtain⟨m,⟨o',es,ep,ho',hd',_⟩,_⟩:=I.loc;rw[z,ho']at ho;cases ho;rw[hd']at hd;cases hd
theorem Inv.funs(I:Inv X pins σ H s):s.heap.FunFrames X.base X.outer:=by
 have all:∀(l:List Env),(∀b∈frs l,b∈X.fs)->X.s₀.heap.FunFrames X.base l->s.heap.FunFrames X.base l:=by
  intro l
  induction l with
  | nil=>intro _ _;trivial
  | cons env r ih =>
    intro hs hl;obtain⟨hk,⟨L,o,hf,hn,ho,hd⟩,hr⟩:=hl;have hL:L∈X.fs:=hs L (by unfold frs;rw[LB,hf];exact Hr);obtain⟨sl,e⟩:=I.base.slot L o ho (I.ok.frf L hL) hL fun z=>I.ok.exfs L z hL;exact⟨hk,⟨L,_,hf,hn,e,hd⟩,ih (fun b hb=>hs b (by unfold frs;rw[LB,hf];exact Hv _ hb)) hr⟩
 exact all X.outer (fun _ hb=>hb) I.ok.funs
theorem Inv.stack(I:Inv X pins σ H s):s.heap.FunFrames X.base X.stack:=by
 rcases I.ok.stk with e|⟨e,hf⟩
 · rw[e];exact I.funs
 · rw[e];obtain⟨m,hn,_⟩:=I.loc;refine .cons (by rw[I.ok.kind];decide) hf hn ?_ I.funs;exact Heap.get?_none_of_le (Je I.ok.bsz I.ok.above)
theorem Inv.stkSub(I:Inv X pins σ H s):∀b∈frs X.stack,b∈X.env.locals::X.fs:=fun b hb=>by
 rcases I.ok.stk with e|⟨e,hf⟩
 · rw[e]at hb;exact Hv _ hb
 · rw[e]at hb;unfold frs at hb;rw[LB,hf]at hb;exact hb
theorem Inv.stkFree(I:Inv X pins σ H s):∀b∈frs X.stack,H b=none:=fun b hb=>by
 rcases Ic.mp (I.stkSub b hb)with e|hb
 · rw[e];exact I.free
 · obtain⟨_,o,ho,_⟩:=I.ok.funs.mem hb;exact I.base.free b o ho (I.ok.frf b hb) fun z=>I.ok.exfs b z hb
theorem Inv.step{g':Array GenState}{d':Drawn}{ch:List Addr}(I:Inv X pins σ H s)
 (hch:∀b∈ch,(b∈X.ex\/X.s₀.heap.objs.size<=b)/\b≠X.env.locals/\(∀x c,X.env.cells.lookup x=some c->c≠b)/\∀p∈X.pn++pins,p.1≠b)
 (keep:∀b o,b≠X.env.locals->b∉X.fs->b∉ch->s.heap.get? b=some o->H b=none->h'.get? b=some o)
 (slot:∀b o,b≠X.env.locals->b∈X.fs->b∉ch->s.heap.get? b=some o->H b=none->∃sl,h'.get? b=some {o with slots:=sl})(free:∀b o,b∉ch->s.heap.get? b=some o->H b=none->H' b=none)
 (there:∀b o,b∉ch->s.heap.get? b=some o->∃o',h'.get? b=some o')
 (tups:∀b xs,H b=some (.tup xs)->H' b=some (.tup xs))(frzs:∀b o u,H b=some (.frz o u)->H' b=some (.frz o u))(tbls:∀b ps,H b=some (.tbl ps)->∃more,H' b=some (.tbl (ps++more)))
 (ns:∀m,s.heap.Ns X.env.locals m->h'.Ns X.env.locals m)(hok:G0 X.prog X.w H' h')(hg:Ni g') :
 Inv X pins σ H' {s with heap:=h',gens:=g',drawn:=d',toks:=t' }:=by
 have neL:∀b o,X.s₀.heap.get? b=some o->b≠X.env.locals:=fun b o e=>Io (Hy (HD e) I.ok.above)
 have neC:∀b o,X.s₀.heap.get? b=some o->b∉X.ex->b∉ch:=fun b o e hx hb=>by
  rcases(hch b hb).1 with z|z
  · exact hx z
  · exact absurd (Hy (HD e) z) (Jj _)
 have cellK:∀x c,X.env.cells.lookup x=some c->∀v,s.heap.IsCell c v->h'.IsCell c v:=fun x c e v ⟨o,ho,hd⟩=>by
  have nch:c∉ch:=fun z=>(hch c z).2.2.1 x c e rfl;by_cases hc:c∈X.fs
  · obtain⟨sl,q⟩:=slot c o (I.cne x c e) hc nch ho (I.freeC x c e);exact⟨_,q,hd⟩
  · exact⟨o,keep c o (I.cne x c e) hc nch ho (I.freeC x c e),hd⟩
 refine⟨I.ok,I.os,hg,⟨fun b o e n hb hx=>?_,fun b o e n hb hx=>?_,fun b o e n hx=>?_,fun b o e hx=>?_,fun b xs e=>tups b xs (I.base.tups b xs e),fun b o xs e=>frzs b o xs (I.base.frzs b o xs e),fun b ps e=>?_⟩,?_,fun x c e=>?_,?_,fun x c e=>?_,fun p hp=>?_,hok,I.len⟩
 · exact keep b o (neL b o e) hb (neC b o e hx) (I.base.keep b o e n hb hx) (I.base.free b o e n hx)
 · obtain⟨sl,e1⟩:=I.base.slot b o e n hb hx;obtain⟨sl',e2⟩:=slot b _ (neL b o e) hb (neC b o e hx) e1 (I.base.free b o e n hx);exact⟨sl',e2⟩
 · obtain⟨o',e1⟩:=I.base.there b o e hx;exact free b o' (neC b o e hx) e1 (I.base.free b o e n hx)
 · obtain⟨o',e1⟩:=I.base.there b o e hx;exact there b o' (neC b o e hx) e1
 · obtain⟨m1,e1⟩:=I.base.tbls b ps e;obtain⟨m2,e2⟩:=tbls b _ e1;exact⟨m1++m2,by rw[e2,Array.append_assoc]⟩
 · obtain⟨m,hn,hl⟩:=I.loc;refine⟨m,ns m hn,fun i x v e1 e2 e3=>?_⟩;obtain⟨u,r,l⟩:=hl i x v e1 e2 e3;refine⟨u,r,?_⟩;rcases l with l|⟨k,c,e,z⟩
   · exact .inl l
   · exact .inr ⟨k,c,e,cellK x c e _ z⟩
 · obtain⟨v,z⟩:=I.cell x c e;exact⟨v,cellK x c e v z⟩
 · obtain⟨m,⟨o,_,_,ho,_⟩,_⟩:=I.loc;exact free _ o (fun z=>(hch _ z).2.1 rfl) ho I.free
 · obtain⟨v,o,ho,hd⟩:=I.cell x c e;exact free c o (fun z=>(hch c z).2.2.1 x c e rfl) ho (I.freeC x c e)
 · obtain⟨e,n,ne,nf,d⟩:=I.pin p hp;have nch:p.1∉ch:=fun z=>(hch p.1 z).2.2.2 p hp rfl;exact⟨keep p.1 p.2 ne nf nch e n,free p.1 p.2 nch e n,ne,nf,d⟩
theorem Inv.un(I:Inv X pins σ H s)(u:Un X.fs [] H H' s.heap h')(hok:G0 X.prog X.w H' h'):Inv X pins σ H' {s with heap:=h',toks:=t' }:=by
 obtain⟨m,⟨o,es,ep,ho,r⟩,_⟩:=id I.loc;obtain⟨sl,hL⟩:=u.any ho I.free (by simp)
 exact I.step (g':=s.gens) (d':=s.drawn) (ch:=[]) (fun _ z=>nomatch z) (fun b o _ hb _ e n=>u.keep b o e n hb (by simp)) (fun b o _ hb _ e n=>u.slot b o e n hb (by simp)) (fun b o _ e n=>u.free b o e n (by simp)) (fun b o _ e=>u.there b o e (by simp)) u.tups u.frzs u.tbls (fun m' hm=>by
  obtain⟨o',es',ep',ho',r'⟩:=hm;rw[ho]at ho';cases ho'
  exact⟨_,es',ep',hL,r'⟩) hok I.bare
theorem Inv.call{g':Array GenState}{d':Drawn}{ch:List Addr}(I:Inv X pins σ H s)(u:Un (frs X.stack) ch H H' s.heap h')(hok:G0 X.prog X.w H' h')(hg:Ni g')
 (hch:∀b∈ch,(b∈X.ex\/X.s₀.heap.objs.size<=b)/\b≠X.env.locals/\(∀x c,X.env.cells.lookup x=some c->c≠b)/\∀p∈X.pn++pins,p.1≠b) :
 Inv X pins σ H' {s with heap:=h',gens:=g',drawn:=d',toks:=t' }:=by
 obtain⟨m,⟨o,es,ep,ho,r⟩,_⟩:=id I.loc;obtain⟨sl,hL⟩:=u.any ho I.free fun z=>(hch _ z).2.1 rfl
 exact I.step (ch:=ch) hch (fun b o hL hb hc e n=>u.keep b o e n (fun z=>(Ic.mp (I.stkSub b z)).elim hL hb) hc) (fun b o _ _ hc e n=>u.any e n hc) (fun b o hc e n=>u.free b o e n hc) (fun b o hc e=>u.there b o e hc) u.tups u.frzs u.tbls (fun m' hm=>by
  obtain⟨o',es',ep',ho',r'⟩:=hm;rw[ho]at ho';cases ho'
  exact⟨_,es',ep',hL,r'⟩) hok hg
theorem Inv.turned(I:Inv X pins σ H s)(k:∀b o,b≠it->s.heap.get? b=some o->h'.get? b=some o)(hn:H it=none)(hL:it≠X.env.locals)
 (h1:it∈X.ex\/X.s₀.heap.objs.size<=it)(h2:∀x c,X.env.cells.lookup x=some c->c≠it)(h3:∀p∈X.pn++pins,p.1≠it):Inv X pins σ H {s with heap:=h',toks:=t' }:=by
 have nit:∀b u,H b=some u->b≠it:=fun b u e z=>by rw[z,hn]at e;cases e
 refine I.step (g':=s.gens) (d':=s.drawn) (ch:=[it]) (fun b hb=>?_) (fun b o _ _ hc e _=>k b o (fun z=>hc (by simp[z])) e) (fun b o _ _ hc e _=>⟨o.slots,k b o (fun z=>hc (by simp[z])) e⟩) (fun _ _ _ _ n=>n)
  (fun b o hc e=>⟨o,k b o (fun z=>hc (by simp[z])) e⟩) (fun _ _ e=>e) (fun _ _ _ e=>e) (fun b ps e=>⟨#[],by rw[e];simp⟩) (fun m hm=>?_) (fun b u e=>?_) I.bare
 · have e:b=it:=by simpa using hb
   subst e;exact⟨h1,hL,h2,h3⟩
 · obtain⟨o,es,ep,ho,r⟩:=hm;exact⟨o,es,ep,k _ o (Me hL) ho,r⟩
 · refine(I.hok b u e).stay (fun c v hc q=>k c v ?_ q) (fun _ q=>q) fun _ _ q=>q;rcases hc with z|z
   · rw[z];exact nit b u e
   · exact nit c _ z
theorem Inv.tok(I:Inv X pins σ H s)(t:Nat):Inv X pins σ H {s with toks:=t}:=I.un (h':=s.heap) (t':=t) Un.refl I.hok
theorem Inv.kept{t':Nat}(I:Inv X pins σ H s)(k:∀b u,s.heap.get? b=some u->h'.get? b=some u):Inv X pins σ H {s with heap:=h',toks:=t' }:=I.un (Un.kept k) (I.hok.kept k)
theorem Inv.laid{a:Addr}{o:HO}{t':Nat}(I:Inv X pins σ H s)(k:∀b u,s.heap.get? b=some u->h'.get? b=some u)(hp:s.heap.objs.size<=a)(new:cZ X.prog X.w (Ex H a o) h' a o) :
 Inv X pins σ (Ex H a o) {s with heap:=h',toks:=t' }:=I.un (Un.laid k hp (I.hok.fresh hp)) (I.hok.laid k hp new)
theorem Inv.write{x e:Addr}{o:HO}{t':Nat}(I:Inv X pins σ H s)(mu:GM (H x))(he:e=x\/H e=some (.own x))(k:∀b u,b≠e->s.heap.get? b=some u->h'.get? b=some u)(heo:∃u,h'.get? e=some u)
 (new:cZ X.prog X.w (Ex H x o) h' x o):Inv X pins σ (Ex H x o) {s with heap:=h',toks:=t' }:=I.un (Un.write mu he k heo) (I.hok.write mu he k heo new)
theorem Inv.pins_of{pins':List (Addr×Obj)}(I:Inv X pins σ H s)(h:∀p∈pins',s.heap.get? p.1=some p.2/\H p.1=none/\p.1≠X.env.locals/\p.1∉X.fs/\∀v,p.2.data ≠ .cell v):Inv X pins' σ H s :=
 ⟨I.ok,I.os,I.bare,I.base,I.loc,I.cell,I.free,I.freeC,fun p hp=>(Ik.mp hp).elim (fun z=>I.pin p (Jy _ z)) (h p),I.hok,I.len⟩
theorem mm(hN:N.Nodup){j:Nat}(a:N[i]?=some x)(b:N[j]?=some x):i=j:=by
 obtain⟨h1,e1⟩:=HM.mp a;obtain⟨h2,e2⟩:=HM.mp b;exact(List.getElem_inj hN).mp (e1.trans e2.symm)
theorem eS{M:Model}{v:V}{u:Hq}{Q:Unit->Ht->Prop}(I:Inv X pins σ H s)(hN:X.N.Nodup)(hi:X.N[i]?=some x)(hx:Loc X.env.scope x)(r:RelV v u)
 (h:∀s',Inv X pins (σ.set i (some v)) H s'->(∃a,JQ a s.heap s'.heap/\(a=X.env.locals\/X.env.cells.lookup x=some a))->Q () s')(hf:autoParam (X.fn x=true\/X.env.scope.names.lookup x=some .local) æh._auto_1):HP M A (storeName X.env x u) Q E s:=by
 obtain⟨m,hn,hl⟩:=id I.loc;have hcls:(X.env.scope.kind == .class||(X.env.scope.kind == .module&&X.env.locals != X.env.globals))=false:=by rw[I.ok.kind];rfl
 have hiσ:i<σ.length:=by rw[I.len];exact(HM.mp hi).1
 have cne:=I.cne
 have tracked:∀{a:Addr}{h':Heap},(∃o,s.heap.get? a=some o/\H a=none)->JQ a s.heap h'->G0 X.prog X.w H h':=fun{a h'} ha hs b ob e=>by
  obtain⟨_,_,hfree⟩:=ha;refine(I.hok b ob e).stay (fun c w' hc q=>(hs.2 c ?_).trans q) (fun _ q=>q) fun _ _ q=>q;rintro rfl;rcases hc with rfl|hc
  · rw[hfree]at e;cases e
  · rw[hfree]at hc;cases hc
 rcases hx with hk|hk
 · refine wpAny_storeName_local hk hn (fun h' hn' hs=>?_) hcls;obtain⟨oL,_,_,hoL,_⟩:=id hn;refine h _ ⟨I.ok,I.os,I.bare,⟨fun b o e n hb hx=>?_,fun b o e n hb hx=>?_,I.base.free,fun b o e hx=>?_,I.base.tups,I.base.frzs,I.base.tbls⟩,⟨_,hn',fun j y v' e1 e2 e3=>?_⟩,fun y c e=>?_,I.free,I.freeC,fun p hp=>?_,tracked ⟨oL,hoL,I.free⟩ hs,by simpa using I.len⟩ ⟨_,hs,.inl rfl⟩
   · exact(hs.2 b (Io (Hy (HD e) I.ok.above))).trans (I.base.keep b o e n hb hx)
   · obtain⟨sl,e1⟩:=I.base.slot b o e n hb hx;exact⟨sl,(hs.2 b (Io (Hy (HD e) I.ok.above))).trans e1⟩
   · obtain⟨o',e1⟩:=I.base.there b o e hx;exact⟨o',(hs.2 b (Io (Hy (HD e) I.ok.above))).trans e1⟩
   · by_cases hj:j=i
     · subst hj;rw[hi]at e1;cases e1;rw[HU hiσ]at e2;cases e2;exact⟨u,r,.inl ⟨hk,by simp⟩⟩
     · rw[HQ (Me hj)]at e2;obtain⟨u',r',q⟩:=hl j y v' e1 e2 e3;refine⟨u',r',?_⟩;rcases q with⟨k,e⟩|⟨k,c,e,z⟩
       · refine .inl ⟨k,?_⟩;have:y≠x:=fun e=>hj (mm hN e1 (e▸hi));simp[this,e]
       · exact .inr ⟨k,c,e,z.sameBut hs (cne y c e)⟩
   · obtain⟨w',z⟩:=I.cell y c e;exact⟨w',z.sameBut hs (cne y c e)⟩
   · obtain⟨e,n,ne,nf,d⟩:=I.pin p hp;exact⟨(hs.2 p.1 ne).trans e,n,ne,nf,d⟩
 · have hfn:X.fn x=true:=by
     rcases hf with z|z
     · exact z
     · rw[z]at hk;cases hk
   obtain⟨c,hc⟩:=I.ok.has x (.inl hk);obtain⟨w',z⟩:=I.cell x c hc;refine wpAny_storeName_cell I.ok.kind hk hc z (fun h' hc' hs=>?_);obtain⟨oc,hoc,hocd⟩:=id z;refine h {s with heap:=h' } ⟨I.ok,I.os,I.bare,⟨fun b o e n hb hx=>?_,fun b o e n hb hx=>?_,I.base.free,fun b o e hx=>?_,I.base.tups,I.base.frzs,I.base.tbls⟩,⟨m,hn.sameBut hs (Me (cne x c hc)),fun j y v' e1 e2 e3=>?_⟩,fun y c' e=>?_,I.free,I.freeC,fun p hp=>?_,tracked ⟨oc,hoc,I.freeC x c hc⟩ hs,by simpa using I.len⟩ ⟨c,hs,.inr hc⟩
   · exact(hs.2 b (Io (Hy (HD e) (I.ok.cab x c hfn hc)))).trans (I.base.keep b o e n hb hx)
   · obtain⟨sl,e1⟩:=I.base.slot b o e n hb hx;exact⟨sl,(hs.2 b (Io (Hy (HD e) (I.ok.cab x c hfn hc)))).trans e1⟩
   · obtain⟨o',e1⟩:=I.base.there b o e hx;exact⟨o',(hs.2 b (Io (Hy (HD e) (I.ok.cab x c hfn hc)))).trans e1⟩
   · by_cases hj:j=i
     · subst hj;rw[hi]at e1;cases e1;rw[HU hiσ]at e2;cases e2;exact⟨u,r,.inr ⟨.inl hk,c,hc,hc'⟩⟩
     · rw[HQ (Me hj)]at e2;obtain⟨u',r',q⟩:=hl j y v' e1 e2 e3;refine⟨u',r',?_⟩;rcases q with q|⟨k,c',e,z'⟩
       · exact .inl q
       · refine .inr ⟨k,c',e,z'.sameBut hs ?_⟩;rintro rfl;exact hj (mm hN e1 (I.ok.inj _ _ _ e hc▸hi))
   · by_cases hcc:c'=c
     · subst hcc;exact⟨_,hc'⟩
     · obtain⟨w2,z2⟩:=I.cell y c' e;exact⟨w2,z2.sameBut hs hcc⟩
   · obtain⟨e,n,ne,nf,d⟩:=I.pin p hp;refine⟨(hs.2 p.1 ?_).trans e,n,ne,nf,d⟩;intro q;rw[q,hoc]at e;have q':oc=p.2:=IA e;exact d w' (by rw[<- q'];exact hocd)
theorem eT{M:Model}{v:V}{u:Hq}{Q:Unit->Ht->Prop}(I:Inv X pins σ H s)(hN:X.N.Nodup)(hi:X.N[i]?=some x)(hx:Loc X.env.scope x)(r:RelV v u)
 (h:∀s',Inv X pins (σ.set i (some v)) H s'->Q () s')(hf:autoParam (X.fn x=true\/X.env.scope.names.lookup x=some .local) æh._auto_1):HP M A (storeName X.env x u) Q E s :=
 eS I hN hi hx r (fun s' I' _=>h s' I') hf
end
abbrev XK:=Hq->Option Addr->Hp->Prop
abbrev St:=List (Option V)
abbrev VK:=V->Hp->Prop
abbrev TE:=St->Hp->VK->Prop
abbrev TT:=St->Hp->(Bool->Hp->Prop)->Prop
abbrev TA:=St->Hp->(List V->Hp->Prop)->Prop
structure Ends where
 nx:St->Hp->Prop
 rt:VK
 bk:St->Hp->Prop:=fun _ _=>False
 ct:St->Hp->Prop:=fun _ _=>False
abbrev TS:=Ends->St->Hp->Prop
noncomputable def EP(X:Cx)(pins:List (Addr×Obj))(σ:St)(Q:VK)(u:Hq)(s':Ht):Prop:=∃v H',Inv X pins σ H' s'/\RelV v u/\Q v H'
noncomputable def TP(X:Cx)(pins:List (Addr×Obj))(σ:St)(Q:Bool->Hp->Prop)(b:Bool)(s':Ht):Prop:=∃H',Inv X pins σ H' s'/\Q b H'
noncomputable def AP(X:Cx)(pins:List (Addr×Obj))(σ:St)(Q:List V->Hp->Prop)(us:List Hq)(s':Ht):Prop:=∃vs H',Inv X pins σ H' s'/\de vs us/\Q vs H'
noncomputable def SP(X:Cx)(pins:List (Addr×Obj))(D:Ends)(f:Flow)(s':Ht):Prop :=
 match f with
 | .next=>∃σ' H',Inv X pins σ' H' s'/\D.nx σ' H'
 | .brk=>∃σ' H',Inv X pins σ' H' s'/\D.bk σ' H'
 | .cont=>∃σ' H',Inv X pins σ' H' s'/\D.ct σ' H'
 | .ret u=>∃v σ' H',Inv X pins σ' H' s'/\RelV v u/\D.rt v H'
noncomputable def PE(X:Cx)(e:Expr)(t:TE):Prop :=
 ∀(pins:List (Addr×Obj))(s:Ht)(σ:St)(H:Hp)(Q:VK),Inv X pins σ H s->t σ H Q->HP (Ib X.prog X.w) X.A (eval e X.env) (EP X pins σ Q) X.xe s
noncomputable def PT(X:Cx)(e:Expr)(t:TT):Prop :=
 ∀(pins:List (Addr×Obj))(s:Ht)(σ:St)(H:Hp)(Q:Bool->Hp->Prop),Inv X pins σ H s->t σ H Q->HP (Ib X.prog X.w) X.A (isTrue e X.env (eval e X.env)) (TP X pins σ Q) X.xe s
noncomputable def PW(X:Cx)(e:Expr)(t:TT):Prop :=
 ∀(whole:Sem Hq)(pins:List (Addr×Obj))(s:Ht)(σ:St)(H:Hp)(Q:Bool->Hp->Prop),Inv X pins σ H s->t σ H Q->HP (Ib X.prog X.w) X.A (isTrue e X.env whole) (TP X pins σ Q) X.xe s
theorem PW.pt{X:Cx}{e:Expr}{t:TT}(h:PW X e t):PT X e t:=h _
noncomputable def PA(X:Cx)(es:List Expr)(t:TA):Prop :=
 ∀(pos:Pos)(pins:List (Addr×Obj))(s:Ht)(σ:St)(H:Hp)(Q:List V->Hp->Prop),Inv X pins σ H s->t σ H Q->HP (Ib X.prog X.w) X.A (spliced (Jl pos (HA es X.env))) (AP X pins σ Q) X.xe s
noncomputable def PS(X:Cx)(st:Stmt)(t:TS):Prop :=
 ∀(pins:List (Addr×Obj))(s:Ht)(σ:St)(H:Hp)(D:Ends),Inv X pins σ H s->t D σ H->HP (Ib X.prog X.w) X.A (exec st X.env) (SP X pins D) X.xe s
noncomputable def GC(X:Cx)(st:List Stmt)(t:TS):Prop :=
 ∀(pins:List (Addr×Obj))(s:Ht)(σ:St)(H:Hp)(D:Ends),Inv X pins σ H s->t D σ H->HP (Ib X.prog X.w) X.A (execs st X.env) (SP X pins D) X.xe s
theorem EH{t:Sem α}{Q Q':α->Ht->Prop}{M:Model}{s:Ht}(h:HP M A t Q E s)(hQ:∀a s,Q a s->Q' a s):HP M A t Q' E s:=Im h hQ fun _ _ x=>x
section
variable{X:Cx}
noncomputable def CO(i:Nat):TE:=fun σ H Q=>∃v,σ[i]?=some (some v)/\Q v H
noncomputable def tC(v:V):TE:=fun _ H Q=>Q v H
theorem dR(hN:X.N[i]?=some x)(hv:Gf X.env.scope x)(hd:autoParam ((x==("__debug__" : Str))=false) æb._auto_1)(hcd:autoParam ((x==("__classdict__" : Str))=false) æb._auto_1):PE X (.Name x pos) (CO i):=by
 intro pins s σ H Q I h;obtain⟨v,e,h⟩:=h;obtain⟨m,hn,hl⟩:=I.loc;obtain⟨u,r,l⟩:=hl i x v hN e hv;have fin:EP X pins σ Q u s:=⟨v,H,I,r,h⟩;rcases l with⟨hk,hm⟩|⟨hk,c,hc,hcell⟩
 · exact wpAny_Name (M6 I.ok.kind hk hn hm fin) hd
 · rcases hk with hk|hk
   · exact wpAny_Name (Nj I.ok.kind hk hc hcell fin) hd
   · exact wpAny_Name (wpAny_loadName_free I.ok.kind hk hc hcell fin hcd) hd
theorem l9{i j pos}:PE X (.Constant (.int i) j pos) (tC (.int i)):=fun _ _ _ H _ I h=>wpAny_Constant_int ⟨.int i,H,I.tok _,⟨_,rfl⟩,h⟩
theorem AZ{b j pos}:PE X (.Constant (.bool b) j pos) (tC (.bl b)):=fun _ _ _ H _ I h=>Constant_bool ⟨.bl b,H,I,rfl,h⟩
theorem eX{x j pos}:PE X (.Constant (.str x) j pos) (tC (.str x)):=fun _ _ _ H _ I h=>Calls.Constant_str ⟨.str x,H,I.tok _,⟨_,rfl⟩,h⟩
noncomputable def Gl(X:Cx)(x:Str):Prop:=X.env.kindOf x=some .globalImplicit
theorem pP{s:Ht}{σ:St}{H:Hp}{u:Hq}(I:Inv X pins σ H s)(hg:Gl X x)(hm:X.mg x=some u)(h:Q u s)
 (hd:autoParam ((x==("__debug__" : Str))=false) æb._auto_1):HP (Ib X.prog X.w) X.A (eval (.Name x pos) X.env) Q E s :=
 LL I.ok.kind hg (Calls.loadGlobal_global (by rw[I.ok.glob];exact I.mod.glob.keeps I.bk) hm h) hd
theorem iq{s:Ht}{σ:St}{H:Hp}{u:Hq}(I:Inv X pins σ H s)(hg:Gl X x)(hm:X.mg x=none)(hv:Kp x=some u)(h:Q u s)
 (hn:autoParam (x ≠ "__name__") æb._auto_1)(hd:autoParam ((x==("__debug__" : Str))=false) æb._auto_1):HP (Ib X.prog X.w) X.A (eval (.Name x pos) X.env) Q E s:=by
 obtain⟨mb,h1,h2⟩:=I.mod.blt;exact LL I.ok.kind hg (Calls.loadGlobal_builtin (by rw[I.ok.glob];exact I.mod.glob.keeps I.bk) hm (by rw[I.ok.blt];exact h1.keeps I.bk) ((h2 x hn).trans hv) h) hd
theorem vP{v:V}{u:Hq}(hg:Gl X x)(hm:X.mg x=some u)(r:RelV v u)(hd:autoParam ((x==("__debug__" : Str))=false) æb._auto_1):PE X (.Name x pos) (tC v) :=
 fun _ _ _ H _ I h=>pP I hg hm ⟨v,H,I,r,h⟩ hd
variable{a b:Expr}{ta tb:TE}{pos:Pos}
noncomputable def tB(t:TE):TT:=fun σ H Q=>t σ H fun x H1=>∃c,x = .bl c/\Q c H1
theorem t_{e:Expr}{t:TE}(h:PE X e t)(he:autoParam (∀whole,isTrue e X.env whole=(do let v <- whole;Nk e.pos;holding [v] (truthy v))) æc._auto_1):PT X e (tB t):=by
 intro pins s σ H Q I hw;refine isTrue_plain (EH (h pins s σ H _ I hw) fun v s1 ⟨x,H1,I1,r1,q1⟩=>?_) (he _);obtain⟨d,rfl,q⟩:=q1;cases r1;exact J5 ⟨H1,I1,q⟩
variable{tA tB':TT}{rest:List Expr}
noncomputable def DB(t u:TT):TT:=fun σ H Q=>t σ H fun c H1=>if c=true then u σ H1 Q else Q false H1
noncomputable def Dt(t:TT):TT:=fun σ H Q=>t σ H fun c H1=>Q (!c) H1
theorem o7(ha:PT X a tA):PW X (.BoolOp .And [a] pos) tA:=by
 intro wh pins s σ H Q I h;refine isTrue_and (EH (ha pins s σ H Q I h) fun c s1 e=>?_)
 cases c with
 | true=>exact isTrue_and_nil e
 | false=>exact e
theorem t7(ha:PT X a tA)(hb:PW X (.BoolOp .And (b::rest) pos) tB'):PW X (.BoolOp .And (a::b::rest) pos) (DB tA tB'):=by
 intro wh pins s σ H Q I h;refine isTrue_and (EH (ha pins s σ H _ I h) fun c s1 ⟨H1,I1,q1⟩=>?_)
 cases c with
 | true=>exact hb wh pins s1 σ H1 Q I1 q1
 | false=>exact⟨H1,I1,q1⟩
theorem ua(ha:PT X a tA):PT X (.UnaryOp .Not a pos) (Dt tA):=by
 intro pins s σ H Q I h;exact isTrue_not (ha pins s σ H (fun c H1=>Q (!c) H1) I h)
noncomputable def AS(ta tb:TE):TE:=fun σ H Q=>ta σ H fun x H1=>∃c,x = .bl c/\if c=true then tb σ H1 Q else Q (.bl false) H1
noncomputable def Ds(ta tb:TE):TE:=fun σ H Q=>ta σ H fun x H1=>∃c,x = .bl c/\if c=true then Q (.bl true) H1 else tb σ H1 Q
noncomputable def AL(ta:TE):TE:=fun σ H Q=>ta σ H fun x H1=>∃c,x = .bl c/\Q (.bl (!c)) H1
theorem yE{op}{t:TE}(h:PE X a t):PE X (.BoolOp op [a] pos) t:=fun pins s σ H Q I hw=>BoolOp_one (h pins s σ H Q I hw)
theorem yJ(ha:PE X a ta)(hb:PE X (.BoolOp .And (b::rest) pos) tb):PE X (.BoolOp .And (a::b::rest) pos) (AS ta tb):=by
 intro pins s σ H Q I h;refine BoolOp_and (EH (ha pins s σ H _ I h) fun v s1 ⟨x,H1,I1,r1,q1⟩=>?_);obtain⟨c,rfl,q1⟩:=q1;cases r1;refine J5 ?_
 cases c with
 | true=>exact hb pins s1 σ H1 Q I1 q1
 | false=>exact⟨.bl false,H1,I1,rfl,q1⟩
theorem AY(ha:PE X a ta)(hb:PE X (.BoolOp .Or (b::rest) pos) tb):PE X (.BoolOp .Or (a::b::rest) pos) (Ds ta tb):=by
 intro pins s σ H Q I h;refine BoolOp_or (EH (ha pins s σ H _ I h) fun v s1 ⟨x,H1,I1,r1,q1⟩=>?_);obtain⟨c,rfl,q1⟩:=q1;cases r1;refine J5 ?_
 cases c with
 | false=>exact hb pins s1 σ H1 Q I1 q1
 | true=>exact⟨.bl true,H1,I1,rfl,q1⟩
theorem yF(ha:PE X a ta):PE X (.UnaryOp .Not a pos) (AL ta):=by
 intro pins s σ H Q I h;refine UnaryOp_ (EH (ha pins s σ H _ I h) fun v s1 ⟨x,H1,I1,r1,q1⟩=>?_);obtain⟨c,rfl,q1⟩:=q1;cases r1;exact not_of (J5 ⟨.bl (!c),H1,I1,rfl,q1⟩)
noncomputable def EO(t:TT)(ta tb:TE):TE:=fun σ H Q=>t σ H fun c H1=>if c=true then ta σ H1 Q else tb σ H1 Q
theorem rY{c:Expr}(hc:PT X c tA)(ha:PE X a ta)(hb:PE X b tb):PE X (.IfExp c a b pos) (EO tA ta tb):=by
 intro pins s σ H Q I h;refine wpAny_IfExp (EH (hc pins s σ H _ I h) fun d s1 ⟨H1,I1,q1⟩=>?_)
 cases d with
 | true=>exact ha pins s1 σ H1 Q I1 q1
 | false=>exact hb pins s1 σ H1 Q I1 q1
end
noncomputable def Gq(K:W.Frag)(H:Hp)(a:Addr)(xs:List V):Prop :=
 Rd H a (.lst xs) \/
  ∃(o:Obj)(its:Array Hq)(n:Nat),K.lookup a=some o/\o.cls = .type "list" /\ o.dict=none/\o.data = .seq its n/\its.size<=sizeLine/\de xs its.toList
noncomputable def Gp(K:W.Frag)(H:Hp)(a:Addr)(xs:List V):Prop :=
 Rd H a (.tup xs) \/
  ∃(o:Obj)(its:Array Hq)(n:Nat),K.lookup a=some o/\o.cls = .type "tuple" /\ o.data = .seq its n/\its.size<=sizeLine/\de xs its.toList/\o.dict=none
noncomputable def DV:Hq->Option V
 | .none=>some .non
 | .bool b=>some (.bl b)
 | .int i _=>some (.int i)
 | .str x _=>some (.str x)
 | .bytes b _=>some (.byt b)
 | .float b _=>some (.flt b)
 | .ref a=>some (.ref a)
 | .type n=>some (.ty n)
 | _=>none
theorem RelV.abs{x:V}{u:Hq}(r:RelV x u):DV u=some x:=by
 cases x with
 | non=>cases r;rfl
 | bl _=>cases r;rfl
 | int _=>obtain⟨t,rfl⟩:=r;rfl
 | str _=>obtain⟨t,rfl⟩:=r;rfl
 | byt _=>obtain⟨t,rfl⟩:=r;rfl
 | flt _=>obtain⟨t,rfl⟩:=r;rfl
 | ref _=>cases r;rfl
 | ty _=>cases r;rfl
theorem RelV.inj{x y:V}{u:Hq}(r:RelV x u)(q:RelV y u):x=y:=IA (r.abs.symm.trans q.abs)
theorem de.inj:∀{xs ys:List V}{us:List Hq},de xs us->de ys us->xs=ys
 | _,_,_,.nil,.nil=>rfl
 | _,_,_,.cons r t,.cons r' t'=>by rw[r.inj r',de.inj t t']
section
variable{X:Cx}{pins:List (Addr×Obj)}{σ:St}{H:Hp}{s:Ht}{a:Addr}{xs ys:List V}
theorem Inv.list(I:Inv X pins σ H s)(h:Gq X.K H a xs):∃its:List Hq,de xs its/\PlainL s.heap a its.toArray/\xs.length<=sizeLine:=by
 rcases h with h|⟨o,its,n,hk,hc,hd,hs,hz,r⟩
 · obtain⟨z,its,n,r,e⟩:=h.ok I.hok;exact⟨its,r,⟨_,n,e,rfl,rfl,rfl⟩,z⟩
 · refine⟨its.toList,r,⟨o,n,I.kIn a o hk,hc,hd,by simpa using hs⟩,?_⟩;have e:=r.length;simp only[J_]at e;omega
theorem Inv.tuple(I:Inv X pins σ H s)(h:Gp X.K H a xs):∃its:List Hq,de xs its/\N1 s.heap a its.toArray/\xs.length<=sizeLine:=by
 rcases h with h|⟨o,its,n,hk,hc,hs,hz,r,hd⟩
 · obtain⟨z,its,r,p⟩:=h.ok I.hok;exact⟨its,r,p.tup,z⟩
 · refine⟨its.toList,r,⟨o,I.kIn a o hk,hc,n,by simpa using hs⟩,?_⟩;have e:=r.length;simp only[J_]at e;omega
theorem Inv.list_inj(I:Inv X pins σ H s)(h:Gq X.K H a xs)(h':Gq X.K H a ys):xs=ys:=by
 obtain⟨its,r,⟨o,n,e,_,_,d⟩,_⟩:=I.list h;obtain⟨its',r',⟨o',n',e',_,_,d'⟩,_⟩:=I.list h';rw[e]at e';cases e';rw[d]at d'
 injection d' with d1 _
 have:its=its':=by simpa using congrArg Array.toList d1
 subst this;exact r.inj r'
theorem Inv.tupleD(I:Inv X pins σ H s)(h:Gp X.K H a xs):∃ob,s.heap.get? a=some ob/\ob.cls = .type "tuple" /\ ob.dict=none:=by
 rcases h with h|⟨o,its,n,hk,hc,hs,hz,r,hd⟩
 · obtain⟨z,its,r,⟨o,e1,e2,_,e3⟩⟩:=h.ok I.hok;exact⟨o,e1,e2,e3⟩
 · exact⟨o,I.kIn a o hk,hc,hd⟩
theorem Inv.tuple_inj(I:Inv X pins σ H s)(h:Gp X.K H a xs)(h':Gp X.K H a ys):xs=ys:=by
 obtain⟨its,r,⟨o,e,_,n,d⟩,_⟩:=I.tuple h;obtain⟨its',r',⟨o',e',_,n',d'⟩,_⟩:=I.tuple h';rw[e]at e';cases e';rw[d]at d'
 injection d' with d1 _
 have:its=its':=by simpa using congrArg Array.toList d1
 subst this;exact r.inj r'
end
abbrev Cx.wish(X:Cx)(E:Hq->Ht->Prop):Cx:={X with xe:=E}
abbrev Cx.nox(X:Cx):Cx:=X.wish fun _ _=>False
theorem Cx.Ok.wish{X:Cx}(ok:X.Ok)(E:Hq->Ht->Prop):(X.wish E).Ok :=
 ⟨ok.mod,ok.kind,ok.glob,ok.blt,ok.above,ok.inj,ok.has,ok.cab,ok.hd,ok.frames,ok.stk,ok.exf,ok.bs,ok.bsz,ok.noex,ok.exfs,ok.funs,ok.frf⟩
theorem Cx.Ok.unwish{X:Cx}(ok:(X.wish E).Ok):X.Ok :=
 ⟨ok.mod,ok.kind,ok.glob,ok.blt,ok.above,ok.inj,ok.has,ok.cab,ok.hd,ok.frames,ok.stk,ok.exf,ok.bs,ok.bsz,ok.noex,ok.exfs,ok.funs,ok.frf⟩
section
variable{X:Cx}{pins:List (Addr×Obj)}{σ:St}{H:Hp}{s:Ht}{E:Hq->Ht->Prop}
theorem Inv.wish(I:Inv X pins σ H s)(E:Hq->Ht->Prop):Inv (X.wish E) pins σ H s:=⟨I.ok.wish E,I.os,I.bare,I.base,I.loc,I.cell,I.free,I.freeC,I.pin,I.hok,I.len⟩
theorem Inv.unwish(I:Inv (X.wish E) pins σ H s):Inv X pins σ H s:=⟨I.ok.unwish,I.os,I.bare,I.base,I.loc,I.cell,I.free,I.freeC,I.pin,I.hok,I.len⟩
theorem SP.unwish{D:Ends}{f:Flow}{s':Ht}(h:SP (X.wish E) pins D f s'):SP X pins D f s':=by
 cases f with
 | next=>obtain⟨σ',H',I,q⟩:=h;exact⟨σ',H',I.unwish,q⟩
 | brk=>obtain⟨σ',H',I,q⟩:=h;exact⟨σ',H',I.unwish,q⟩
 | cont=>obtain⟨σ',H',I,q⟩:=h;exact⟨σ',H',I.unwish,q⟩
 | ret u=>obtain⟨v,σ',H',I,r,q⟩:=h;exact⟨v,σ',H',I.unwish,r,q⟩
theorem GC.nox{st:List Stmt}{t:TS}(h:GC X.nox st t):GC X st t:=fun pins s σ H D I hw =>
 Im (h pins s σ H D (I.wish _) hw) (fun _ _ q=>q.unwish) fun _ _ z=>Jk z
end
section
variable{X:Cx}{st:Stmt}{rest:List Stmt}{t u:TS}{e:Expr}{te:TE}{pos:Pos}
noncomputable def AM:TS:=fun D σ H=>D.nx σ H
noncomputable def Dp(t u:TS):TS:=fun D σ H=>t {D with nx:=u D} σ H
theorem vH:GC X [] AM:=fun _ _ σ H _ I h=>LC ⟨σ,H,I,h⟩
theorem eW(h1:PS X st t)(h2:GC X rest u):GC X (st::rest) (Dp t u):=by
 intro pins s σ H D I h;refine wpAny_execs_cons (EH (h1 pins s σ H {D with nx:=u D} I h) fun f s1 q=>?_)
 cases f with
 | next =>
   obtain⟨σ',H',I',q⟩:=q
   exact h2 pins s1 σ' H' D I' q
 | ret v=>exact q
 | brk=>exact q
 | cont=>exact q
theorem kX(h1:PS X st t):GC X [st] t:=by
 intro pins s σ H D I h;refine wpAny_execs_cons (EH (h1 pins s σ H D I h) fun f s1 q=>?_)
 cases f with
 | next=>exact LC q
 | ret v=>exact q
 | brk=>exact q
 | cont=>exact q
theorem Inv.quiet{σ:St}{H:Hp}{s:Ht}(I:Inv X pins σ H s):interactive X.env=false:=by simp[interactive,I.ok.kind]
noncomputable def AN(te:TE):TS:=fun D σ H=>te σ H fun _ H1=>D.nx σ H1
theorem pi(he:PE X e te)(hs:autoParam (Ju e none pos.line X.env=pure false) æa._auto_1):PS X (.Expr e pos) (AN te):=by
 intro pins s σ H D I h;exact wpAny_Expr_any (EH (he pins s σ H _ I h) fun v s1 ⟨x,H1,I1,r1,q1⟩=>⟨σ,H1,I1,q1⟩) I.quiet hs
noncomputable def Dq(te:TE):TS:=fun D σ H=>te σ H D.rt
theorem pg(he:PE X e te):PS X (.Return (some e) pos) (Dq te):=by
 intro pins s σ H D I h;exact wpAny_Return_some (EH (he pins s σ H _ I h) fun v s1 ⟨x,H1,I1,r1,q1⟩=>⟨x,σ,H1,I1,r1,q1⟩)
noncomputable def Dy(c:TT)(t u:TS):TS:=fun D σ H=>c σ H fun b H1=>if b=true then t D σ H1 else u D σ H1
theorem yw{c:Expr}{a b:List Stmt}{tc:TT}(hc:PT X c tc)(ha:GC X a t)(hb:GC X b u):PS X (.If c a b pos) (Dy tc t u):=by
 intro pins s σ H D I h;refine wpAny_If (EH (hc pins s σ H _ I h) fun d s1 ⟨H1,I1,q1⟩=>?_)
 cases d with
 | true=>exact ha pins s1 σ H1 D I1 q1
 | false=>exact hb pins s1 σ H1 D I1 q1
noncomputable def x3:TS:=fun _ _ _=>False
theorem rQ:PS X st x3:=fun _ _ _ _ _ _ h=>h.elim
end
abbrev TG:=V->St->Hp->(St->Hp->Prop)->Prop
abbrev Go:=List V->St->Hp->(St->Hp->Prop)->Prop
noncomputable def PG(X:Cx)(target:Expr)(t:TG):Prop :=
 ∀ (pins:List (Addr×Obj))(s:Ht)(σ:St)(H:Hp)(v:V)(u:Hq)(Q:St->Hp->Prop),Inv X pins σ H s->RelV v u->t v σ H Q ->
   HP (Ib X.prog X.w) X.A (Kz target X.env u) (fun _ s'=>∃σ' H',Inv X pins σ' H' s'/\Q σ' H') X.xe s
noncomputable def GI(X:Cx)(ts:List Expr)(t:Go):Prop :=
 ∀ (pins:List (Addr×Obj))(s:Ht)(σ:St)(H:Hp)(vs:List V)(us:List Hq)(Q:St->Hp->Prop),Inv X pins σ H s->de vs us->t vs σ H Q ->
   HP (Ib X.prog X.w) X.A (Nu ((Kk ts X.env).map (·.2)) us) (fun _ s'=>∃σ' H',Inv X pins σ' H' s'/\Q σ' H') X.xe s
abbrev Gm:=V->V->Hp->VK->Prop
noncomputable def GF(X:Cx)(op:Nv)(t:Gm):Prop :=
 ∀ (pins:List (Addr×Obj))(s:Ht)(σ:St)(H:Hp)(x y:V)(v u:Hq)(Q:VK),Inv X pins σ H s->RelV x v->RelV y u->t x y H Q ->
   HP (Ib X.prog X.w) X.A (inplaceOp op v u) (EP X pins σ Q) X.xe s
section
variable{X:Cx}{pos:Pos}
noncomputable def jf(i:Nat):TG:=fun v σ H Q=>Q (σ.set i (some v)) H
theorem vN(hN:X.N.Nodup)(hi:X.N[i]?=some x)(hx:Loc X.env.scope x)(hf:autoParam (X.fn x=true\/X.env.scope.names.lookup x=some .local) æh._auto_1):PG X (.Name x pos) (jf i):=by
 intro pins s σ H v u Q I r h;exact La (eT I hN hi hx r (fun s' I'=>⟨_,H,I',h⟩) hf)
noncomputable def DR:Go:=fun vs σ H Q=>vs=[]/\Q σ H
noncomputable def Bl(t:TG)(u:Go):Go:=fun vs σ H Q=>∃v r,vs=v::r/\t v σ H fun σ' H'=>u r σ' H' Q
theorem vM:GI X [] DR:=by
 intro pins s σ H vs us Q I r h;obtain⟨e,h⟩:=h;subst e;cases r;exact assignInOrder_nil ⟨σ,H,I,h⟩
theorem rW{e:Expr}{es:List Expr}{t:TG}{u:Go}(h1:PG X e t)(h2:GI X es u)
 (hs:autoParam ((Kk (e::es) X.env).map (·.2)=Kz e X.env::(Kk es X.env).map (·.2)) æa._auto_1):GI X (e::es) (Bl t u):=by
 intro pins s σ H vs us Q I r h;obtain⟨v,vr,e1,h⟩:=h;subst e1
 cases r with
 | cons r rr =>
   rw[hs];refine LN (EH (h1 pins s σ H _ _ _ I r h) fun _ s1 ⟨σ1,H1,I1,q1⟩=>?_);exact h2 pins s1 σ1 H1 _ _ Q I1 rr q1
noncomputable def DQ(K:W.Frag)(n:Nat)(t:Go):TG:=fun v σ H Q=>∃a xs,v = .ref a/\Gp K H a xs/\xs.length=n/\t xs σ H Q
theorem yB{es:List Expr}{k:Nat}{t:Go}(hc:X.calm=true)(h:GI X es t)
 (hn:autoParam ((Kk es X.env).length=n) æa._auto_1)(hst:autoParam ((Kk es X.env).findIdx? (·.1)=none) æa._auto_1):PG X (.Tuple es k pos) (DQ X.K n t):=by
 intro pins s σ H v u Q I r hw;obtain⟨a,xs,e1,hq,hl,hw⟩:=hw;subst e1;cases r;obtain⟨its,rv,ht,hz⟩:=I.tuple hq;refine assign_Tuple_tuple (I.ok.hd hc) ht (by simp[hn,<- hl,rv.length]) hst fun h' hx=>?_;have I1:Inv X pins σ H {s with heap:=h' }:=I.kept (t':=s.toks) fun b o e=>hx b o (Io (HD e)) e;exact h pins _ σ H xs _ Q I1 (by simpa using rv) hw
noncomputable def x5(te:TE)(g:TG):TS:=fun D σ H=>te σ H fun x H1=>g x σ H1 D.nx
theorem yy{e:Expr}{te:TE}{g:TG}(he:PE X e te)(hg:PG X tg g)(hs:autoParam (Mf [tg] e pos.line X.env=pure false) æa._auto_1)(hw:autoParam (Mg [tg] e X.env=pure none) æa._auto_1)
 (h1:autoParam ((Kk [tg] X.env).map (·.2)=[Kz tg X.env]) æa._auto_1):PS X (.Assign [tg] e pos) (x5 te g):=by
 intro pins s σ H D I h;refine wpAny_Assign_stores (EH (he pins s σ H _ I h) fun v s1 ⟨x,H1,I1,r1,q1⟩=>?_) hs hw;rw[h1];exact EH (hg pins s1 σ H1 x v _ I1 r1 q1) fun _ s2 q=>q
theorem gC{e:Expr}{te:TE}(hN:X.N.Nodup)(hi:X.N[i]?=some x)(hx:Loc X.env.scope x)(he:PE X e te)(hs:autoParam (Ju e (some (.Name x pos')) pos.line X.env=pure false) æa._auto_1)(hf:autoParam (X.fn x=true\/X.env.scope.names.lookup x=some .local) æh._auto_1) :
 PS X (.Assign [.Name x pos'] e pos) (x5 te (jf i)):=by
 intro pins s σ H D I h;refine wpAny_Assign_Name (EH (he pins s σ H _ I h) fun v s1 ⟨y,H1,I1,r1,q1⟩=>?_) hs;exact eT I1 hN hi hx r1 (fun s2 I2=>⟨_,H1,I2,q1⟩) hf
noncomputable def Dr(i j:Nat)(ta:TA):TS:=fun D σ H=>ta σ H fun vs H1=>∃v w,vs=[v,w]/\D.nx ((σ.set i (some v)).set j (some w)) H1
theorem yu{j:Nat}{y:Str}{a b:Expr}{ta:TA}{py pt:Pos}{kt k2 pt2}(hc:X.calm=true)(hN:X.N.Nodup)(hi:X.N[i]?=some x)(hj:X.N[j]?=some y)(hij:i≠j)
 (hx:X.env.scope.names.lookup x=some .local)(hy:X.env.scope.names.lookup y=some .local)(ha:PA X [a,b] ta)
 (hw:Mg [.Tuple [.Name x px,.Name y py] kt pt] (.Tuple [a,b] k2 pt2) X.env=pure (some [x,y]))
 (hs:autoParam (Mf [.Tuple [.Name x px,.Name y py] kt pt] (.Tuple [a,b] k2 pt2) pos.line X.env=pure false) æa._auto_1) :
 PS X (.Assign [.Tuple [.Name x px,.Name y py] kt pt] (.Tuple [a,b] k2 pt2) pos) (Dr i j ta):=by
 intro pins s σ H D I h;rw[exec_Assign_arm];refine Hl (Jv ?_);rw[hs];refine Hl (Hn ?_);rw[if_neg (by decide)];refine Hl (Tuple_ (EH (ha _ pins s σ H _ I h) fun us s1 ⟨vs,H1,I1,r1,q1⟩=>?_));obtain⟨v,w,e1,q1⟩:=q1;subst e1
 obtain⟨u1,u2,rfl,rv,rw'⟩:∃u1 u2,us=[u1,u2]/\RelV v u1/\RelV w u2:=by
  cases r1 with
  | cons p q =>
    cases q with
    | cons p' q' =>
      cases q';exact⟨_,_,rfl,p,p'⟩
 refine Ia ?_ (by show 2<=sizeLine;decide);have I2:Inv X pins σ H1 {s1 with heap:=s1.heap.push {cls:=.type "tuple", data:=.seq [u1,u2].toArray}}:=I1.kept (t':=s1.toks) fun b o e=>Hu _ e;rw[hw];refine Hl (Hn ?_);show HP (Ib X.prog X.w) X.A (do rule "assign.swapped-stores"; let items <- unpackItems (.ref s1.heap.objs.size) 2 none;Nu [fun v=>bindName X.env y v,fun v=>bindName X.env x v] items.reverse;pure Flow.next) _ _ _;refine Hl (Lb (Hl (unpackItems_tuple (items:=#[u1,u2]) (I.ok.hd hc) (N1.new s1.heap _) fun h' hx'=>?_)));have I3:=I2.kept (h':=h') (t':=s1.toks) fun b o e=>hx' b o (Io (HD e)) e;show HP _ _ (Nu [fun v=>bindName X.env y v,fun v=>bindName X.env x v] [u2,u1] >>= fun _=>pure Flow.next) _ _ _;refine Hl (LN (wpAny_bindName (eT I3 hN hj (.inl hy) rw' (fun s2 I4=>?_) (.inr hy))));refine LN (wpAny_bindName (eT I4 hN hi (.inl hx) rv (fun s3 I5=>assignInOrder_nil (Hn ?_)) (.inr hx)));rw[List.set_comm _ _ (Me hij)]at I5;exact⟨_,H1,I5,q1⟩
noncomputable def DA(i:Nat)(te:TE)(ti:Gm):TS:=fun D σ H=>∃x,σ[i]?=some (some x)/\te σ H fun y H1=>ti x y H1 fun z H2=>D.nx (σ.set i (some z)) H2
theorem yx{e:Expr}{te:TE}{op:Nv}{ti:Gm}(hN:X.N.Nodup)(hi:X.N[i]?=some x)(hx:Loc X.env.scope x)(he:PE X e te)(ho:GF X op ti)(hf:autoParam (X.fn x=true\/X.env.scope.names.lookup x=some .local) æh._auto_1) :
 PS X (.AugAssign (.Name x pos') op e pos) (DA i te ti):=by
 intro pins s σ H D I h;obtain⟨v,e1,h⟩:=h;obtain⟨m,hn,hl⟩:=I.loc;have vis:Gf X.env.scope x:=by rcases hx with k|k;exact .inl k;exact .inr (.inl k)
 obtain⟨u,r,l⟩:=hl i x v hi e1 vis;refine wpAny_AugAssign_Name ?_
 have go:HP (Ib X.prog X.w) X.A (eval e X.env) (fun w s₂=>HP (Ib X.prog X.w) X.A (inplaceOp op u w) (fun r s₃=>HP (Ib X.prog X.w) X.A (storeName X.env x r) (fun _=>SP X pins D .next) X.xe s₃) X.xe s₂) X.xe s:=by
  refine EH (he pins s σ H _ I h) fun w s1 ⟨y,H1,I1,r1,q1⟩=>?_;refine EH (ho pins s1 σ H1 v y u w _ I1 r r1 q1) fun z s2 ⟨zv,H2,I2,r2,q2⟩=>?_;exact eT I2 hN hi hx r2 (fun s3 I3=>⟨_,H2,I3,q2⟩) hf
 rcases l with⟨hk,hm⟩|⟨hk,c,hc,hcell⟩
 · exact M6 I.ok.kind hk hn hm go
 · rcases hk with hk|hk
   · exact Nj I.ok.kind hk hc hcell go
   · rcases hx with k|k
     · have:X.env.scope.names.lookup x=some .free:=hk;rw[k]at this;cases this
     · have:X.env.scope.names.lookup x=some .free:=hk;rw[k]at this;cases this
end
section
variable{X:Cx}{pos:Pos}
noncomputable def xZ(c:TT)(tb:TS):TS:=fun D σ H=>∃W:Nat->St->Hp->Prop,(∃m,W m σ H)/\∀m σ H,W m σ H ->
 c σ H fun b H1=>if b=true then ∃N:St->Hp->Prop,(∀σ' H',N σ' H'->∃m',m'<m/\W m' σ' H')/\tb {D with nx:=N,ct:=N,bk:=D.nx} σ H1 else D.nx σ H1
theorem rP{c:Expr}{body:List Stmt}{tc:TT}{tb:TS}(hp:Nw (Ib X.prog X.w) X.A X.env X.xe)(hc:PT X c tc)(hb:GC X body tb):PS X (.While c body [] pos) (xZ tc tb):=by
 intro pins s σ H D I h;obtain⟨W,⟨m0,w0⟩,turn⟩:=h;refine wpAny_While (codeAny_whileLoop (fun n s'=>∃σ' H',Inv X pins σ' H' s'/\W n σ' H') ?_ m0 ⟨σ,H,I,w0⟩);rintro n s1 ⟨σ1,H1,I1,w1⟩;refine J6 hp (EH (hc pins s1 σ1 H1 _ I1 (turn n σ1 H1 w1)) fun b s2 ⟨H2,I2,q2⟩=>?_)
 cases b with
 | true =>
   obtain⟨N,hN,q2⟩:=q2;rw[if_pos rfl];refine J6 hp (EH (hb pins s2 σ1 H2 _ I2 q2) fun f s3 q3=>?_)
   cases f with
   | next =>
     obtain⟨σ3,H3,I3,n3⟩:=q3;obtain⟨m',hm,w3⟩:=hN σ3 H3 n3
     exact⟨m',hm,σ3,H3,I3,w3⟩
   | cont =>
     obtain⟨σ3,H3,I3,n3⟩:=q3;obtain⟨m',hm,w3⟩:=hN σ3 H3 n3
     exact⟨m',hm,σ3,H3,I3,w3⟩
   | brk=>exact q3
   | ret v=>exact q3
 | false =>
   rw[if_neg H_];exact LC ⟨σ1,H2,I2,q2⟩
end
structure It where
 go:Nat->Hp->Prop
 yld:Nat->Hp->V->Hp->Prop
 stop:Nat->Hp->Prop
noncomputable def lG(X:Cx)(pins:List (Addr×Obj))(H:Hp)(b:Addr):Prop :=
 H b=none/\b≠X.env.locals/\b∉X.fs/\(b∈X.ex\/X.s₀.heap.objs.size<=b)/\(∀x c,X.env.cells.lookup x=some c->c≠b)/\∀p∈X.pn++pins,p.1≠b
theorem Inv.fpOk{X:Cx}{σ:St}{H H':Hp}{s:Ht}{b:Addr}(I:Inv X pins σ H s)(hb:s.heap.objs.size<=b)(hn:H' b=none):lG X pins H' b:=by
 refine⟨hn,MG (Hy I.lt hb),I.nofs hb,.inr (Je I.sz hb),fun x c e z=>?_,fun p hp z=>?_⟩
 · obtain⟨v,q⟩:=I.cell x c e;exact absurd (Hy q.lt (by rw[z];exact hb)) (Jj _)
 · exact absurd (Hy (HD (I.pin p hp).1) (by rw[z];exact hb)) (Jj _)
structure Turn (P:HV) (w:IF) (K:W.Frag) (tg:Expr) (J:It) (fp:List Addr) (it:Addr) (tn:Nat->Heap->Prop):Prop where
 mem:it∈fp
 obj:∀i h,tn i h->∀b∈fp,∃o,h.get? b=some o/\∀v,o.data ≠ .cell v
 keep:∀i h h',tn i h->(∀b∈fp,∀o,h.get? b=some o->h'.get? b=some o)->tn i h'
 item:∀(X:Cx),X.prog=P->X.w=w->X.K=K->X.calm=true->∀(i:Nat)(pins:List (Addr×Obj))(s:Ht)(σ:St)(H:Hp)(E:Hq->Ht->Prop),Inv X pins σ H s->(∀b∈fp,lG X pins H b)->tn i s.heap->J.go i H ->
  HP (Ib P w) X.A (L6 (.ref it)) (fun r s1=>∃u,r=some u /\
   HP (Ib P w) X.A (JH tg (.ref it) u) (fun _ s2=>∃x H',Inv X pins σ H' s2/\RelV x u/\J.yld i H x H'/\tn (i+1) s2.heap/\∀b∈fp,H' b=none) E s1) E s
 done:∀(X:Cx),X.prog=P->X.w=w->X.K=K->X.calm=true->∀(i:Nat)(pins:List (Addr×Obj))(s:Ht)(σ:St)(H:Hp)(E:Hq->Ht->Prop),Inv X pins σ H s->(∀b∈fp,lG X pins H b)->tn i s.heap->J.stop i H ->
  HP (Ib P w) X.A (L6 (.ref it)) (fun r s1=>r=none/\Inv X pins σ H s1) E s
 self:∀(A:IM)(i:Nat)(s:Ht)(Q:Hq->Ht->Prop)(E:Hq->Ht->Prop),tn i s.heap->Q (.ref it) s->HP (Ib P w) A (NQ (.ref it)) Q E s
abbrev TI:=St->Hp->(It->Hp->Prop)->Prop
noncomputable def GH(X:Cx)(pins:List (Addr×Obj))(σ:St)(tg:Expr)(R:It->Hp->Prop)(itv:Hq)(s2:Ht):Prop :=
 ∃(it:Addr)(fp:List Addr)(tn:Nat->Heap->Prop)(J:It)(H':Hp),itv = .ref it/\Inv X pins σ H' s2/\Turn X.prog X.w X.K tg J fp it tn/\tn 0 s2.heap/\(∀b∈fp,lG X pins H' b)/\R J H'
noncomputable def PI(X:Cx)(tg iter:Expr)(wi:TI):Prop :=
 ∀ (pins:List (Addr×Obj))(s:Ht)(σ:St)(H:Hp)(R:It->Hp->Prop),Inv X pins σ H s->wi σ H R ->
   HP (Ib X.prog X.w) X.A (eval iter X.env) (fun v s1=>HP (Ib X.prog X.w) X.A (NQ v) (GH X pins σ tg R) X.xe s1) X.xe s
theorem sN{M:Model}{s:Ht}{u:Hq}{o:Obj}{n:String}{vs:Array Hq}{Q:Unit->Ht->Prop}(ho:s.heap.get? it=some o)(hc:o.cls = .type n)(hd:o.data = .fields vs)
 (hn:["enumerate", "zip", "dict_itemiterator", "dict_reverseitemiterator", "odict_iterator", "itertools.zip_longest", "itertools.pairwise"].contains n=false)(hQ:Q () s):HP M A (JH tg (.ref it) u) Q E s:=by
 unfold JH
 cases tg<;>first
  | exact Hn hQ
  | (cases u<;>first
      | exact Hn hQ
      | (refine Hl (wpAny_load ho ?_)
         rw[hc,hd];show HP M A (if(["enumerate", "zip", "dict_itemiterator", "dict_reverseitemiterator", "odict_iterator", "itertools.zip_longest", "itertools.pairwise"].contains n&&vs[0]?==some (Nb _))=true then _ else _) Q E s;rw[if_neg (by intro h;rw[hn,Bool.false_and]at h;cases h)]
         exact Hn hQ))
noncomputable def GW(K:W.Frag)(a:Addr):It :=
 ⟨fun i H=>∃xs x,Gq K H a xs/\xs[i]?=some x,fun i H x H'=>H'=H/\∀xs,Gq K H a xs->xs[i]?=some x,fun i H=>∃xs,Gq K H a xs/\xs.length<=i⟩
noncomputable def GU(K:W.Frag)(a:Addr):It :=
 ⟨fun i H=>∃xs x,Gp K H a xs/\xs[i]?=some x,fun i H x H'=>H'=H/\∀xs,Gp K H a xs->xs[i]?=some x,fun i H=>∃xs,Gp K H a xs/\xs.length<=i⟩
noncomputable def GV(lo:Int)(n:Nat):It:=⟨fun i _=>i<n,fun i H x H'=>H'=H/\x = .int (lo+i),fun i _=>n<=i⟩
theorem oy{K:W.Frag}(a it:Addr):Turn P w K tg (GW K a) [it] it (fun i h=>h.IsListIter it a i) where
 mem:=by simp
 obj:=fun i h st b hb=>by
  have e:b=it:=by simpa using hb
  subst e;obtain⟨o,e,c,d⟩:=st;exact⟨o,e,fun v z=>by rw[d]at z;cases z⟩
 keep:=fun i h h' st k=>st.at fun o e=>k it (by simp) o e
 item:=by
  intro X hP hw hK hc i pins s σ H E I hf st hg;subst hP hw hK;obtain⟨xs,x,hq,hx⟩:=hg;obtain⟨its,rv,p,hz⟩:=I.list hq;obtain⟨u,hu,ru⟩:=rv.get hx;obtain⟨f0,f1,f2,f3,f4,f5⟩:=hf it (by simp);refine wpAny_pyNext_list_item st p.isList (x:=u) (by simpa using hu) fun h' st' sb=>?_;have I1:Inv X pins σ H {s with heap:=h' }:=I.turned (t':=s.toks) (fun b o hb e=>(sb.2 b hb).trans e) f0 f1 f3 f4 f5;obtain⟨o,e,c,d⟩:=id st';exact⟨u,rfl,sN (s:={s with heap:=h' }) e c d (by decide) ⟨x,H,I1,ru,⟨rfl,fun ys hy=>by rw[I.list_inj hy hq];exact hx⟩,st',fun b hb=>(hf b hb).1⟩⟩
 done:=by
  intro X hP hw hK hc i pins s σ H E I hf st hg;subst hP hw hK;obtain⟨xs,hq,hx⟩:=hg;obtain⟨its,rv,p,hz⟩:=I.list hq;obtain⟨f0,f1,f2,f3,f4,f5⟩:=hf it (by simp);have hl:=rv.length;exact wpAny_pyNext_list_end (I.ok.hd hc) st p.isList (by simp;omega) fun h' eb=>⟨rfl,I.turned (t':=s.toks) (fun b o hb e=>eb b o hb e) f0 f1 f3 f4 f5⟩
 self:=fun _ _ _ _ _ st h=>wpAny_pyIter_listiter st h
theorem m8{K:W.Frag}(a it:Addr):Turn P w K tg (GU K a) [it] it (fun i h=>h.IsTupleIter it a i) where
 mem:=by simp
 obj:=fun i h st b hb=>by
  have e:b=it:=by simpa using hb
  subst e;obtain⟨o,e,c,d⟩:=st;exact⟨o,e,fun v z=>by rw[d]at z;cases z⟩
 keep:=fun i h h' st k=>st.at fun o e=>k it (by simp) o e
 item:=by
  intro X hP hw hK hc i pins s σ H E I hf st hg;subst hP hw hK;obtain⟨xs,x,hq,hx⟩:=hg;obtain⟨its,rv,p,hz⟩:=I.tuple hq;obtain⟨u,hu,ru⟩:=rv.get hx;obtain⟨f0,f1,f2,f3,f4,f5⟩:=hf it (by simp);refine wpAny_pyNext_tuple_item st (show s.heap.IsTuple a its.toArray from p) (x:=u) (by simpa using hu) fun h' st' sb=>?_;have I1:Inv X pins σ H {s with heap:=h' }:=I.turned (t':=s.toks) (fun b o hb e=>(sb.2 b hb).trans e) f0 f1 f3 f4 f5;obtain⟨o,e,c,d⟩:=id st';exact⟨u,rfl,sN (s:={s with heap:=h' }) e c d (by decide) ⟨x,H,I1,ru,⟨rfl,fun ys hy=>by rw[I.tuple_inj hy hq];exact hx⟩,st',fun b hb=>(hf b hb).1⟩⟩
 done:=by
  intro X hP hw hK hc i pins s σ H E I hf st hg;subst hP hw hK;obtain⟨xs,hq,hx⟩:=hg;obtain⟨its,rv,p,hz⟩:=I.tuple hq;obtain⟨f0,f1,f2,f3,f4,f5⟩:=hf it (by simp);have hl:=rv.length;exact wpAny_pyNext_tuple_end (I.ok.hd hc) st (show s.heap.IsTuple a its.toArray from p) (by simp;omega) fun h' eb=>⟨rfl,I.turned (t':=s.toks) (fun b o hb e=>eb b o hb e) f0 f1 f3 f4 f5⟩
 self:=fun _ _ _ _ _ st h=>wpAny_pyIter_tupleiter st h
theorem m9{K:W.Frag}(it:Addr)(lo:Int)(n:Nat):Turn P w K tg (GV lo n) [it] it (fun i h=>IsRangeIter h it (lo+(i:Nat)*1) ((n:Int)-(i:Nat)) 1) where
 mem:=by simp
 obj:=fun i h st b hb=>by
  have e:b=it:=by simpa using hb
  subst e
  exact⟨_,st,fun v z=>by
   have z':Data.fields _=Data.cell v:=z
   cases z'⟩
 keep:=fun i h h' st k=>k it (by simp) _ st
 item:=by
  intro X hP hw hK hc i pins s σ H E I hf st hg;subst hP hw hK;obtain⟨f0,f1,f2,f3,f4,f5⟩:=hf it (by simp);have W:=Walks.range (prog:=X.prog) (w:=X.w) (I.ok.hd hc) it lo 1 n;refine W.item i s _ _ hg st fun v h' tk hv st' kk=>?_;obtain⟨t,rfl⟩:=hv;have I1:Inv X pins σ H {s with heap:=h',toks:=tk}:=I.turned (fun b o hb e=>kk b o (by simpa using hb) e) f0 f1 f3 f4 f5;refine⟨_,rfl,sN (s:={s with heap:=h',toks:=tk}) (n := "range_iterator") st' rfl rfl (by decide) ⟨.int (lo+i),H,I1,⟨t,?_⟩,⟨rfl,rfl⟩,st',fun b hb=>(hf b hb).1⟩⟩;rw[Int.mul_one]
 done:=by
  intro X hP hw hK hc i pins s σ H E I hf st hg;subst hP hw hK;obtain⟨f0,f1,f2,f3,f4,f5⟩:=hf it (by simp);exact wpAny_pyNext_range_end (I.ok.hd hc) st (by have:n<=i:=hg;omega) fun h' eb=>⟨rfl,I.turned (t':=s.toks) (fun b o hb e=>eb b o hb e) f0 f1 f3 f4 f5⟩
 self:=fun _ _ _ _ _ st h=>wpAny_pyIter_rangeiter st h
section
variable{X:Cx}{tg:Expr}
noncomputable def Bf(K:W.Frag)(tl:TE):TI:=fun σ H R=>tl σ H fun x H1=>∃a,x = .ref a/\(∃xs,Gq K H1 a xs)/\R (GW K a) H1
noncomputable def DP(K:W.Frag)(tl:TE):TI:=fun σ H R=>tl σ H fun x H1=>∃a,x = .ref a/\(∃xs,Gp K H1 a xs)/\R (GU K a) H1
theorem vL{l:Expr}{tl:TE}(hl:PE X l tl):PI X tg l (Bf X.K tl):=by
 intro pins s σ H R I h;refine EH (hl pins s σ H _ I h) fun v s1 ⟨x,H1,I1,r1,q1⟩=>?_;obtain⟨a,e,⟨xs,hq⟩,q⟩:=q1;subst e;cases r1;obtain⟨its,rv,p,hz⟩:=I1.list hq;refine Lc p.isList ?_;refine⟨s1.heap.objs.size,[s1.heap.objs.size],_,_,H1,rfl,I1.kept (t':=s1.toks) fun b o e=>Hu _ e,oy a _,⟨_,HK _ rfl,rfl,rfl⟩,fun b hb=>?_,q⟩;have e:b=s1.heap.objs.size:=by simpa using hb
 subst e;exact I1.fpOk (Hw _) (I1.hok.fresh (Hw _))
theorem uc{l:Expr}{tl:TE}(hl:PE X l tl):PI X tg l (DP X.K tl):=by
 intro pins s σ H R I h;refine EH (hl pins s σ H _ I h) fun v s1 ⟨x,H1,I1,r1,q1⟩=>?_;obtain⟨a,e,⟨xs,hq⟩,q⟩:=q1;subst e;cases r1;obtain⟨its,rv,p,hz⟩:=I1.tuple hq;refine wpAny_pyIter_tuple (show s1.heap.IsTuple a its.toArray from p) ?_;refine⟨s1.heap.objs.size,[s1.heap.objs.size],_,_,H1,rfl,I1.kept (t':=s1.toks) fun b o e=>Hu _ e,m8 a _,⟨_,HK _ rfl,rfl,rfl⟩,fun b hb=>?_,q⟩;have e:b=s1.heap.objs.size:=by simpa using hb
 subst e;exact I1.fpOk (Hw _) (I1.hok.fresh (Hw _))
theorem rN{σ:St}{H:Hp}{s:Ht}{R:It->Hp->Prop}{lo hi:Int}{t u v:Tok}{tk:Nat}(I:Inv X pins σ H s)(h1 : -(2^62)<=lo)(h2:lo<2^62)(h3 : -(2^62)<=hi)(h4:hi<2^62)
 (q:R (GV lo (hi-lo).toNat) H):HP (Ib X.prog X.w) X.A (NQ (.ref s.heap.objs.size)) (GH X pins σ tg R) E {s with heap:=s.heap.push {cls:=.type "range", data:=.fields #[.int lo t,.int hi u,.int 1 v]},toks:=tk}:=by
 refine wpAny_pyIter_range (IsRange.new ..) (small_one h1 h2 h3 h4) ?_;have I1:Inv X pins σ H {s with heap:=s.heap.push {cls:=.type "range", data:=.fields #[.int lo t,.int hi u,.int 1 v]},toks:=tk}:=I.kept fun b o e=>Hu _ e
 refine⟨(s.heap.push {cls:=.type "range", data:=.fields #[.int lo t,.int hi u,.int 1 v]}).objs.size,[(s.heap.push {cls:=.type "range", data:=.fields #[.int lo t,.int hi u,.int 1 v]}).objs.size],_,_,H,rfl,
  I1.kept (t':=tk) fun b o e=>Hu _ e,m9 _ lo (hi-lo).toNat,?_,fun b hb=>?_,q⟩
 · have e1:lo+((0:Nat):Int)*1=lo:=by simp
   have e2:(((hi-lo).toNat:Nat):Int)-((0:Nat):Int)=Builtin.Range.rangeSize lo hi 1:=by rw[rangeSize_one];split<;>omega
   show IsRangeIter _ _ (lo+((0:Nat):Int)*1) ((((hi-lo).toNat:Nat):Int)-((0:Nat):Int)) 1;rw[e1,e2];exact HK _ rfl
 · have e:b=(s.heap.push {cls:=.type "range", data:=.fields #[.int lo t,.int hi u,.int 1 v]}).objs.size:=by simpa using hb
   subst e;exact I1.fpOk (Hw _) (I1.hok.fresh (Hw _))
noncomputable def Be(ta:TA):TI:=fun σ H R=>ta σ H fun vs H1=>∃j:Int,vs=[.int j] /\ -(2^62)<=j/\j<2^62/\R (GV 0 j.toNat) H1
theorem jN{a:Expr}{ta:TA}{p:Pos}(hg:Gl X "range")(hm:X.mg "range" = none)(ha:PA X [a] ta)(hs:autoParam (HA [a] X.env=[(false,eval a X.env)]) æa._auto_1):PI X tg (.Call (.Name "range" p) [a] [] pos) (Be ta):=by
 intro pins s σ H R I h;refine Call_ (iq I hg hm boot_range (Jw (EH (ha pos pins s σ H _ I h) fun us s1 ⟨vs,H1,I1,r1,q1⟩=>?_) hs rfl));obtain⟨j,e,q1,q2,q⟩:=q1;subst e
 cases r1 with
 | cons r rr =>
   cases rr;obtain⟨t,rfl⟩:=r;exact call_range_1 (rN I1 (by omega) (by omega) q1 q2 (by simpa using q))
noncomputable def Dz(wi:TI)(g:TG)(tb:TS):TS:=fun D σ H=>wi σ H fun J H1=>∃W:Nat->Nat->St->Hp->Prop,(∃m,W 0 m σ H1)/\∀i m σ H,W i m σ H ->
 (J.stop i H/\D.nx σ H)\/(J.go i H/\∃N:St->Hp->Prop,(∀σ' H',N σ' H'->∃m',m'<m/\W (i+1) m' σ' H')/\∀x H',J.yld i H x H'->g x σ H' fun σ2 H2=>tb {D with nx:=N,ct:=N,bk:=D.nx} σ2 H2)
noncomputable def fU(fp:List Addr)(h:Heap):List (Addr×Obj):=fp.filterMap fun b=>(h.get? b).map fun o=>(b,o)
theorem bT{b:Addr}{o:Obj}(hb:b∈fp)(e:h.get? b=some o):(b,o)∈fU fp h:=List.mem_filterMap.mpr ⟨b,hb,by rw[e];rfl⟩
theorem pI{p:Addr×Obj}(hp:p∈fU fp h):p.1∈fp/\h.get? p.1=some p.2:=by
 obtain⟨b,hb,e⟩:=List.mem_filterMap.mp hp
 cases q:h.get? b with
 | none=>rw[q]at e;cases e
 | some o =>
   rw[q]at e;have e':(b,o)=p:=IA e;subst e';exact⟨hb,q⟩
theorem Inv.pinned{σ:St}{H:Hp}{s:Ht}(I:Inv X pins σ H s)(hf:∀b∈fp,lG X pins H b)(ho:∀b∈fp,∃o,s.heap.get? b=some o/\∀v,o.data ≠ .cell v):Inv X (pins++fU fp s.heap) σ H s :=
 I.pins_of fun p hp=>(Ik.mp hp).elim (fun z=>I.pin p (HH _ z)) fun z=>by
  obtain⟨hb,e⟩:=pI z;obtain⟨f0,f1,f2,_⟩:=hf p.1 hb;obtain⟨o,e',d⟩:=ho p.1 hb;rw[e]at e';cases e';exact⟨e,f0,f1,f2,d⟩
theorem Inv.unpinned{pl:List (Addr×Obj)}{σ:St}{H:Hp}{s:Ht}(I:Inv X (pins++pl) σ H s):Inv X pins σ H s:=I.pins_of fun p hp=>I.pin p (HH _ (Jy _ hp))
theorem ub{body:List Stmt}{wi:TI}{g:TG}{tb:TS}(hp:Nw (Ib X.prog X.w) X.A X.env X.xe)(hc:X.calm=true)(hi:PI X tg iter wi)(hg:PG X tg g)(hb:GC X body tb)
 (hs:autoParam (∀x,Ig iter X.env x=pure x) æc._auto_1):PS X (.For tg iter body [] pos) (Dz wi g tb):=by
 intro pins s σ H D I h;refine wpAny_For (EH (hi pins s σ H _ I h) fun v s1 h1=>EH h1 fun itv s2 h2=>?_) hs;obtain⟨it,fp,tn,J,H2,e,I2,T,st2,f2,W,⟨m0,w0⟩,turn⟩:=h2;subst e;have stat:∀{H':Hp},(∀b∈fp,H' b=none)->∀b∈fp,lG X pins H' b:=fun hn b hb=>⟨hn b hb,(f2 b hb).2⟩;refine codeAny_forLoop_any (fun n s'=>∃i σ' H',Inv X pins σ' H' s'/\tn i s'.heap/\(∀b∈fp,H' b=none)/\W i n σ' H') ?_ m0 ⟨0,σ,H2,I2,st2,fun b hb=>(f2 b hb).1,w0⟩;rintro n s3 ⟨i,σ3,H3,I3,st3,fr3,w3⟩;rcases turn i n σ3 H3 w3 with⟨stop,qn⟩|⟨go,N,hN,step⟩
 · refine J6 hp (EH (T.done X rfl rfl rfl hc i pins s3 σ3 H3 X.xe I3 (stat fr3) st3 stop) fun r s4 ⟨hr,I4⟩=>?_);subst hr;exact LC ⟨σ3,H3,I4,qn⟩
 · refine J6 hp (EH (T.item X rfl rfl rfl hc i pins s3 σ3 H3 X.xe I3 (stat fr3) st3 go) fun r s4 ⟨u,hr,h4⟩=>?_);subst hr;refine J6 hp (EH h4 fun _ s5 ⟨x,H5,I5,r5,y5,st5,fr5⟩=>?_);have I5':=I5.pinned (stat fr5) (T.obj _ _ st5);refine J6 hp (EH (hg _ s5 σ3 H5 x u _ I5' r5 (step x H5 y5)) fun _ s6 ⟨σ6,H6,I6,q6⟩=>?_);refine J6 hp (EH (hb _ s6 σ6 H6 _ I6 q6) fun f s7 q7=>?_)
   have again:∀{σ7:St}{H7:Hp},Inv X (pins++fU fp s5.heap) σ7 H7 s7->N σ7 H7->∃m,m<n/\∃i σ' H',Inv X pins σ' H' s7/\tn i s7.heap/\(∀b∈fp,H' b=none)/\W i m σ' H':=fun{σ7 H7} I7 n7=>by
    obtain⟨m',hm,w7⟩:=hN σ7 H7 n7;refine⟨m',hm,i+1,σ7,H7,I7.unpinned,T.keep _ _ _ st5 fun b hb o e=>(I7.pin (b,o) (HH _ (HH _ (bT hb e)))).1,fun b hb=>?_,w7⟩;obtain⟨o,e,d⟩:=T.obj _ _ st5 b hb;exact(I7.pin (b,o) (HH _ (HH _ (bT hb e)))).2.1
   cases f with
   | next=>obtain⟨σ7,H7,I7,n7⟩:=q7;exact again I7 n7
   | cont=>obtain⟨σ7,H7,I7,n7⟩:=q7;exact again I7 n7
   | brk=>obtain⟨σ7,H7,I7,q7⟩:=q7;exact⟨σ7,H7,I7.unpinned,q7⟩
   | ret v=>obtain⟨x7,σ7,H7,I7,r7,q7⟩:=q7;exact⟨x7,σ7,H7,I7.unpinned,r7,q7⟩
end
abbrev R2:=V->V->Hp->VK->Prop
noncomputable def GL(X:Cx)(f:Hq->Hq->Sem Hq)(r:R2):Prop :=
 ∀ (pins:List (Addr×Obj))(s:Ht)(σ:St)(H:Hp)(x y:V)(v u:Hq)(Q:VK),Inv X pins σ H s->RelV x v->RelV y u->r x y H Q ->
   HP (Ib X.prog X.w) X.A (f v u) (EP X pins σ Q) X.xe s
noncomputable def Gh(X:Cx)(f:Hq->Sem Hq)(r:V->Hp->VK->Prop):Prop :=
 ∀ (pins:List (Addr×Obj))(s:Ht)(σ:St)(H:Hp)(x:V)(v:Hq)(Q:VK),Inv X pins σ H s->RelV x v->r x H Q ->
   HP (Ib X.prog X.w) X.A (f v) (EP X pins σ Q) X.xe s
noncomputable def fG(X:Cx)(f:Hq)(r:List V->Hp->VK->Prop):Prop :=
 ∀ (pins:List (Addr×Obj))(s:Ht)(σ:St)(H:Hp)(xs:List V)(us:List Hq)(Q:VK),Inv X pins σ H s->de xs us->r xs H Q ->
   HP (Ib X.prog X.w) X.A (call f us) (EP X pins σ Q) X.xe s
noncomputable def EM(r:R2)(ta tb:TE):TE:=fun σ H Q=>ta σ H fun x H1=>tb σ H1 fun y H2=>r x y H2 Q
noncomputable def EK(r:V->Hp->VK->Prop)(ta:TE):TE:=fun σ H Q=>ta σ H fun x H1=>r x H1 Q
noncomputable def rI(C:Int->Int->Prop)(g:Int->Int->V):R2:=fun x y H Q=>∃i j,x = .int i/\y = .int j/\C i j/\Q (g i j) H
noncomputable def E6(g:Int->Int->V):R2:=fun x y H Q=>∃i j,x = .int i/\y = .int j/\Q (g i j) H
noncomputable def rU(g:Int->V):V->Hp->VK->Prop:=fun x H Q=>∃i,x = .int i/\Q (g i) H
section
variable{X:Cx}{a b c:Expr}{ta tb tc:TE}{pos:Pos}
theorem Bx(ha:PE X a ta)(hb:PE X b tb){s:Ht}{σ:St}{H:Hp}{R:V->V->Hp->Prop}(I:Inv X pins σ H s)
 (h:ta σ H fun x H1=>tb σ H1 fun y H2=>R x y H2){f:Hq->Hq->Sem Hq}
 (hf:∀v u s2 x y H2,Inv X pins σ H2 s2->RelV x v->RelV y u->R x y H2->HP (Ib X.prog X.w) X.A (f v u) Q X.xe s2) :
 HP (Ib X.prog X.w) X.A (eval a X.env) (fun v s₁=>HP (Ib X.prog X.w) X.A (eval b X.env) (fun u s₂=>HP (Ib X.prog X.w) X.A (f v u) Q X.xe s₂) X.xe s₁) X.xe s:=by
 refine EH (ha pins s σ H _ I h) fun v s1 ⟨x,H1,I1,r1,q1⟩=>?_;refine EH (hb pins s1 σ H1 _ I1 q1) fun u s2 ⟨y,H2,I2,r2,q2⟩=>?_;exact hf v u s2 x y H2 I2 r1 r2 q2
theorem yD{op:Nv}{r:R2}(ho:GL X (Ka op) r)(ha:PE X a ta)(hb:PE X b tb):PE X (.BinOp a op b pos) (EM r ta tb):=by
 intro pins s σ H Q I h;exact wpAny_BinOp (Bx ha hb I h fun v u s2 x y H2 I2 rx ry q=>ho pins s2 σ H2 x y v u Q I2 rx ry q)
theorem yC{op:UnaryOp}{r:V->Hp->VK->Prop}(ho:Gh X (unaryOp op) r)(ha:PE X a ta):PE X (.UnaryOp op a pos) (EK r ta):=by
 intro pins s σ H Q I h;exact UnaryOp_ (EH (ha pins s σ H _ I h) fun v s1 ⟨x,H1,I1,r1,q1⟩=>ho pins s1 σ H1 x v Q I1 r1 q1)
theorem Ff{f:Hq->Hq->Sem Hq}{C:Int->Int->Prop}{g:Int->Int->Int}
 (rule:∀(i j:Int)(t u:Tok)(s:Ht)(Q:Hq->Ht->Prop)(E:Hq->Ht->Prop),C i j->Q (.int (g i j) s.toks) {s with toks:=s.toks+1}->HP (Ib X.prog X.w) X.A (f (.int i t) (.int j u)) Q E s) :
 GL X f (rI C fun i j=>.int (g i j)):=by
 intro pins s σ H x y v u Q I rx ry h;obtain⟨i,j,rfl,rfl,hc,q⟩:=h;obtain⟨t,rfl⟩:=rx;obtain⟨t',rfl⟩:=ry;exact rule i j t t' s _ _ hc ⟨.int (g i j),H,I.tok _,⟨_,rfl⟩,q⟩
theorem C2{f:Hq->Hq->Sem Hq}{g:Int->Int->Int}
 (rule:∀(i j:Int)(t u:Tok)(s:Ht)(Q:Hq->Ht->Prop)(E:Hq->Ht->Prop),Q (.int (g i j) s.toks) {s with toks:=s.toks+1}->HP (Ib X.prog X.w) X.A (f (.int i t) (.int j u)) Q E s) :
 GL X f (E6 fun i j=>.int (g i j)):=by
 intro pins s σ H x y v u Q I rx ry h;obtain⟨i,j,rfl,rfl,q⟩:=h;obtain⟨t,rfl⟩:=rx;obtain⟨t',rfl⟩:=ry;exact rule i j t t' s _ _ ⟨.int (g i j),H,I.tok _,⟨_,rfl⟩,q⟩
theorem A6{f:Hq->Hq->Sem Hq}{g:Int->Int->Bool}
 (rule:∀(i j:Int)(t u:Tok)(s:Ht)(Q:Hq->Ht->Prop)(E:Hq->Ht->Prop),Q (.bool (g i j)) s->HP (Ib X.prog X.w) X.A (f (.int i t) (.int j u)) Q E s) :
 GL X f (E6 fun i j=>.bl (g i j)):=by
 intro pins s σ H x y v u Q I rx ry h;obtain⟨i,j,rfl,rfl,q⟩:=h;obtain⟨t,rfl⟩:=rx;obtain⟨t',rfl⟩:=ry;exact rule i j t t' s _ _ ⟨.bl (g i j),H,I,rfl,q⟩
noncomputable def Ah(i j:Int):Prop:=0<=j/\j<=1000000/\i.natAbs<2^64
theorem ug:GL X (Ka .Add) (E6 fun i j=>.int (i+j)):=C2 fun _ _ _ _ _ _ _ q=>add_int q
theorem uf:GL X (Ka .Sub) (E6 fun i j=>.int (i-j)):=C2 fun _ _ _ _ _ _ _ q=>sub_int q
theorem vV:GL X (Ka .Mod) (rI (fun _ j=>j≠0) fun i j=>.int (i.fmod j)):=Ff fun _ _ _ _ _ _ _ hc q=>mod_int' hc q
theorem yM:GL X (Ka .Pow) (rI Ah fun i j=>.int (i^j.toNat)):=Ff fun _ _ _ _ _ _ _ hc q=>pow_int_small hc.1 hc.2.1 hc.2.2 q
theorem EA{f:Hq->Sem Hq}{g:Int->Int}
 (rule:∀(i:Int)(t:Tok)(s:Ht)(Q:Hq->Ht->Prop)(E:Hq->Ht->Prop),Q (.int (g i) s.toks) {s with toks:=s.toks+1}->HP (Ib X.prog X.w) X.A (f (.int i t)) Q E s) :
 Gh X f (rU fun i=>.int (g i)):=by
 intro pins s σ H x v Q I rx h;obtain⟨i,rfl,q⟩:=h;obtain⟨t,rfl⟩:=rx;exact rule i t s _ _ ⟨.int (g i),H,I.tok _,⟨_,rfl⟩,q⟩
theorem tN:Gh X (unaryOp .USub) (rU fun i=>.int (-i)):=EA fun _ _ _ _ _ q=>neg_int q
end
noncomputable def CQ:V->V->Bool
 | .non,.non=>true | .non,.int _=>true | .int _,.non=>true | .non,.bl _=>true | .bl _,.non=>true | .non,.str _=>true | .str _,.non=>true
 | .int _,.int _=>true | .bl _,.bl _=>true | .str _,.str _=>true | .byt _,.byt _=>true
 | .int _,.str _=>true | .str _,.int _=>true | .bl _,.str _=>true | .str _,.bl _=>true
 | _,_=>false
noncomputable def E7:R2:=fun x y H Q=>CQ x y=true/\Q (.bl (decide (x=y))) H
noncomputable def E4:R2:=fun x y H Q=>CQ x y=true/\Q (.bl (!decide (x=y))) H
theorem qt{i:Int}:decide (V.int i=V.int j)=(i==j):=by
 rw[LD];simp
theorem uu{i j:Bool}:decide (V.bl i=V.bl j)=(i==j):=by
 rw[LD];simp
theorem qr{i j:Str}:decide (V.str i=V.str j)=(i==j):=by
 rw[LD];simp
theorem qu{i j:Array UInt8}:decide (V.byt i=V.byt j)=(i.toList==j.toList):=by
 rw[LD];cases i;cases j;simp
section
variable{X:Cx}{a b c:Expr}{ta tb tc:TE}{pos:Pos}
theorem bq{σ:St}{H:Hp}{s:Ht}{Q:VK}{k k':Bool}(I:Inv X pins σ H s)(q:Q (.bl k) H)(e:k=k'):EP X pins σ Q (.bool k') s:=by
 subst e;exact⟨.bl k,H,I,rfl,q⟩
theorem vW:GL X (Kh .Eq) E7:=by
 intro pins s σ H x y v u Q I rx ry h;obtain⟨hs,q⟩:=h
 cases x with
 | non =>
   cases rx
   cases y with
   | non=>cases ry;exact PySem.EqNone.eq_none_none (bq I q (by simp))
   | bl j=>cases ry;exact PySem.EqNone.eq_none_bool (bq I q (by simp))
   | int j=>obtain⟨t',rfl⟩:=ry;exact PySem.EqNone.eq_none_int (bq I q (by simp))
   | str j=>obtain⟨t',rfl⟩:=ry;exact PySem.EqNone.eq_none_str (bq I q (by simp))
   | _=>exact absurd (show false=true from hs) H_
 | bl i =>
   cases rx
   cases y with
   | non=>cases ry;exact PySem.EqNone.eq_bool_none (bq I q (by simp))
   | bl j=>cases ry;exact eq_bool (bq I q uu)
   | str j=>obtain⟨t',rfl⟩:=ry;exact PySem.EqMixed.eq_bool_str (bq I q (by simp))
   | _=>exact absurd (show false=true from hs) H_
 | int i =>
   obtain⟨t,rfl⟩:=rx
   cases y with
   | non=>cases ry;exact PySem.EqNone.eq_int_none (bq I q (by simp))
   | int j=>obtain⟨t',rfl⟩:=ry;exact eq_int (bq I q qt)
   | str j=>obtain⟨t',rfl⟩:=ry;exact PySem.EqMixed.eq_int_str (bq I q (by simp))
   | _=>exact absurd (show false=true from hs) H_
 | str i =>
   obtain⟨t,rfl⟩:=rx
   cases y with
   | non=>cases ry;exact PySem.EqNone.eq_str_none (bq I q (by simp))
   | bl j=>cases ry;exact PySem.EqMixed.eq_str_bool (bq I q (by simp))
   | int j=>obtain⟨t',rfl⟩:=ry;exact PySem.EqMixed.eq_str_int (bq I q (by simp))
   | str j=>obtain⟨t',rfl⟩:=ry;exact eq_str (bq I q qr)
   | _=>exact absurd (show false=true from hs) H_
 | byt i =>
   obtain⟨t,rfl⟩:=rx
   cases y with
   | byt j=>obtain⟨t',rfl⟩:=ry;exact W.eq_bytes (bq I q qu)
   | _=>exact absurd (show false=true from hs) H_
 | _=>cases y<;>exact absurd (show false=true from hs) H_
theorem A4:GL X (Kh .NotEq) E4:=by
 intro pins s σ H x y v u Q I rx ry h;obtain⟨hs,q⟩:=h
 cases x with
 | non =>
   cases rx
   cases y with
   | non=>cases ry;exact PySem.EqNone.ne_none_none (bq I q (by simp))
   | bl j=>cases ry;exact PySem.EqNone.ne_none_bool (bq I q (by simp))
   | int j=>obtain⟨t',rfl⟩:=ry;exact PySem.EqNone.ne_none_int (bq I q (by simp))
   | str j=>obtain⟨t',rfl⟩:=ry;exact PySem.EqNone.ne_none_str (bq I q (by simp))
   | _=>exact absurd (show false=true from hs) H_
 | bl i =>
   cases rx
   cases y with
   | non=>cases ry;exact PySem.EqNone.ne_bool_none (bq I q (by simp))
   | bl j=>cases ry;exact ne_bool (bq I q (congrArg not uu))
   | str j=>obtain⟨t',rfl⟩:=ry;exact PySem.EqMixed.ne_bool_str (bq I q (by simp))
   | _=>exact absurd (show false=true from hs) H_
 | int i =>
   obtain⟨t,rfl⟩:=rx
   cases y with
   | non=>cases ry;exact PySem.EqNone.ne_int_none (bq I q (by simp))
   | int j=>obtain⟨t',rfl⟩:=ry;exact ne_int (bq I q (congrArg not qt))
   | str j=>obtain⟨t',rfl⟩:=ry;exact PySem.EqMixed.ne_int_str (bq I q (by simp))
   | _=>exact absurd (show false=true from hs) H_
 | str i =>
   obtain⟨t,rfl⟩:=rx
   cases y with
   | non=>cases ry;exact PySem.EqNone.ne_str_none (bq I q (by simp))
   | bl j=>cases ry;exact PySem.EqMixed.ne_str_bool (bq I q (by simp))
   | int j=>obtain⟨t',rfl⟩:=ry;exact PySem.EqMixed.ne_str_int (bq I q (by simp))
   | str j=>obtain⟨t',rfl⟩:=ry;exact ne_str (bq I q (congrArg not qr))
   | _=>exact absurd (show false=true from hs) H_
 | byt i =>
   obtain⟨t,rfl⟩:=rx
   cases y with
   | byt j=>obtain⟨t',rfl⟩:=ry;exact W.ne_bytes (bq I q (congrArg not qu))
   | _=>exact absurd (show false=true from hs) H_
 | _=>cases y<;>exact absurd (show false=true from hs) H_
theorem pG:GL X (Kh .Lt) (E6 fun i j=>.bl (decide (i<j))):=A6 fun _ _ _ _ _ _ _ q=>lt_int q
theorem yN:GL X (Kh .Gt) (E6 fun i j=>.bl (decide (j<i))):=A6 fun _ _ _ _ _ _ _ q=>gt_int q
theorem A5:GL X (Kh .GtE) (E6 fun i j=>.bl (decide (j<=i))):=A6 fun _ _ _ _ _ _ _ q=>ge_int q
theorem bH(b:Expr)(h:autoParam (op ≠ .In) æb._auto_1)(h2:autoParam (op ≠ .NotIn) æb._auto_1):Kt op b=false:=by
 have e1:(op==CmpOp.In)=false:=by cases op<;>first|rfl|exact absurd rfl h
 have e2:(op==CmpOp.NotIn)=false:=by cases op<;>first|rfl|exact absurd rfl h2
 cases b<;>simp[Kt,e1,e2]
theorem vR{r:R2}(ho:GL X (Kh op) r)(ha:PE X a ta)(hb:PE X b tb)(hm:Kt op b=false):PE X (.Compare a [op] [b] pos) (EM r ta tb):=by
 intro pins s σ H Q I h;exact wpAny_Compare1 (Bx ha hb I h fun v u s2 x y H2 I2 rx ry q=>ho pins s2 σ H2 x y v u Q I2 rx ry q) hm
noncomputable def AI(t:TE):TT:=fun σ H Q=>t σ H fun x H'=>∃k,x = .bl k/\Q k H'
theorem pd{r:R2}(ho:GL X (Kh op) r)(ha:PE X a ta)(hb:PE X b tb)(hm:Kt op b=false):PT X (.Compare a [op] [b] pos) (AI (EM r ta tb)):=by
 intro pins s σ H Q I h
 refine wpAny_isTrue_Compare1 (EH (ha pins s σ H _ I h) fun v s1 ⟨x,H1,I1,r1,q1⟩=>EH (hb pins s1 σ H1 _ I1 q1) fun u s2 ⟨y,H2,I2,r2,q2⟩ =>
  EH (ho pins s2 σ H2 x y v u _ I2 r1 r2 q2) fun c s3 ⟨z,H3,I3,r3,k,e,q3⟩=>?_) hm
 subst e;cases r3;exact J5 ⟨H3,I3,q3⟩
theorem mF:(sizeLine:Nat)<2^63:=by rw[sizeLine_eq];decide
theorem vals1{x:V}(r:de [x] us):∃u,us=[u]/\RelV x u:=by
 cases r with
 | cons r1 r2=>cases r2;exact⟨_,rfl,r1⟩
theorem vals2{x y:V}(r:de [x,y] us):∃u w',us=[u,w']/\RelV x u/\RelV y w':=by
 cases r with
 | cons r1 r2 =>
   cases r2 with
   | cons r3 r4=>cases r4;exact⟨_,_,rfl,r1,r3⟩
theorem tm:fG X (.builtin "abs") (fun xs H Q=>∃i,xs=[.int i]/\Q (.int (if i<0 then -i else i)) H):=by
 intro pins s σ H xs us Q I r h;obtain⟨i,rfl,q⟩:=h;obtain⟨u,rfl,t,rfl⟩:=vals1 r;exact call_abs_int fun u tk=>⟨.int (if i<0 then -i else i),H,I.tok _,⟨_,rfl⟩,q⟩
theorem qO(hc:X.calm=true):fG X (.builtin "max") (fun xs H Q=>∃i j,xs=[.int i,.int j]/\Q (.int (if j>i then j else i)) H):=by
 intro pins s σ H xs us Q I r h;obtain⟨i,j,rfl,q⟩:=h;obtain⟨u,w',rfl,⟨t,rfl⟩,⟨t',rfl⟩⟩:=vals2 r;refine max_two_ints (I.ok.hd hc) fun h' tk k=>⟨_,H,I.kept k,?_,q⟩;by_cases hj:j>i
 · rw[if_pos hj,if_pos hj];exact⟨_,rfl⟩
 · rw[if_neg hj,if_neg hj];exact⟨_,rfl⟩
theorem qN(hc:X.calm=true):fG X (.builtin "min") (fun xs H Q=>∃i j,xs=[.int i,.int j]/\Q (.int (if j<i then j else i)) H):=by
 intro pins s σ H xs us Q I r h;obtain⟨i,j,rfl,q⟩:=h;obtain⟨u,w',rfl,⟨t,rfl⟩,⟨t',rfl⟩⟩:=vals2 r;refine min_two_ints (I.ok.hd hc) fun h' tk k=>⟨_,H,I.kept k,?_,q⟩;by_cases hj:j<i
 · rw[if_pos hj,if_pos hj];exact⟨_,rfl⟩
 · rw[if_neg hj,if_neg hj];exact⟨_,rfl⟩
theorem qP:fG X (.type "int") (fun xs H Q=>(∃i,xs=[.int i]/\Q (.int i) H)\/∃k,xs=[.bl k]/\Q (.int (if k then 1 else 0)) H):=by
 intro pins s σ H xs us Q I r h;rcases h with⟨i,rfl,q⟩|⟨k,rfl,q⟩
 · obtain⟨u,rfl,t,rfl⟩:=vals1 r;exact call_int_int ⟨.int i,H,I,⟨_,rfl⟩,q⟩
 · obtain⟨u,rfl,r1⟩:=vals1 r;cases r1;exact call_int_bool ⟨.int (if k then 1 else 0),H,I.tok _,⟨_,rfl⟩,q⟩
end
section
variable{prog:HV}{w:IF}{A:IM}{E:Hq->Ht->Prop}{s:Ht}{K:W.Frag}{x dx C f:Addr}{mA:Str->Option Hq}{name:Str}{v:Hq}
end
theorem wZ.some_of{v:V}{o:Option Hq}(r:wZ (some v) o):∃u,o=some u/\RelV v u:=by
 cases o with
 | none=>exact(show False from r).elim
 | some u=>exact⟨u,rfl,r⟩
section
variable{P:HV}{w:IF}{H H':Hp}{h h':Heap}{a C dx:Addr}{fs fs':List (Str×V)}
end
section
variable{X:Cx}{pins:List (Addr×Obj)}{σ:St}{H:Hp}{s:Ht}{a C dx:Addr}{fs:List (Str×V)}{f:Str}{v:V}{A:IM}{E:Hq->Ht->Prop}
end
section
variable{X:Cx}{o e value:Expr}{f:Str}{pos pos' tpos:Pos}{ta tv:TE}
end
section
variable{X:Cx}{pins:List (Addr×Obj)}{σ:St}{H:Hp}{s:Ht}{A:IM}{E:Hq->Ht->Prop}{Q:Hq->Ht->Prop}{c:Hq}{b:Bool}
end
structure Room (k:Nat) (A:IM):Prop where
 hd:A.handled=none
 dp:A.depth+3*k+5<recursionLimit
 un:A.units+16*k+200<LM
 gd:A.guards=some []
theorem Room.mono{j k:Nat}(r:Room k A)(h:j<=k):Room j A:=⟨r.hd,by have:=r.dp;omega,by have:=r.un;omega,r.gd⟩
theorem Room.deeper{k:Nat}(r:Room (k+1) A)(env:Env):Room k (A.deeper env) :=
 ⟨r.hd,by have:=r.dp;show A.depth+1+3*k+5<_;omega,by have:=r.un;show A.units+3+16*k+200<_;omega,r.gd⟩
theorem Room.depth{k:Nat}(r:Room k A):A.depth<recursionLimit:=by have:=r.dp;omega
theorem Room.units{k:Nat}(r:Room k A):A.units+64<LM:=by have:=r.un;omega
noncomputable def Du:TA:=fun _ H Q=>Q [] H
noncomputable def AR(ta:TE)(tr:TA):TA:=fun σ H Q=>ta σ H fun x H1=>tr σ H1 fun xs H2=>Q (x::xs) H2
section
variable{X:Cx}{e:Expr}{es:List Expr}{te:TE}{t:TA}{pos:Pos}
theorem yL:PA X [] Du:=fun _ _ _ _ H Q I h=>L7 ⟨[],H,I,.nil,h⟩
theorem pF(ha:PE X e te)(hr:PA X es t)(hs:autoParam (HA (e::es) X.env=(false,eval e X.env)::HA es X.env) æa._auto_1):PA X (e::es) (AR te t):=by
 intro pos pins s σ H Q I h;rw[hs];show HP _ _ (spliced ((false,eval e X.env)::Jl pos (HA es X.env))) _ _ s;refine KS (EH (ha pins s σ H _ I h) fun u s1 ⟨x,H1,I1,r1,q1⟩=>?_);exact EH (hr pos pins s1 σ H1 _ I1 q1) fun us s2 ⟨xs,H2,I2,r2,q2⟩=>⟨x::xs,H2,I2,.cons r1 r2,q2⟩
noncomputable def Do(t:TA):TE:=fun σ H Q=>t σ H fun xs H1=>xs.length<=sizeLine/\∀p,H1 p=none->Q (.ref p) (Ex H1 p (.tup xs))
noncomputable def Dw(t:TA):TE:=fun σ H Q=>t σ H fun xs H1=>xs.length<=sizeLine/\∀p,H1 p=none->Q (.ref p) (Ex H1 p (.lst xs))
theorem ud{x1}(h:PA X es t):PE X (.Tuple es x1 pos) (Do t):=by
 intro pins s σ H Q I hq;refine wpAny_Tuple_spliced (EH (h pos pins s σ H _ I hq) fun us s1 ⟨xs,H1,I1,r,z,q⟩=>⟨by rw[<- r.length];exact z,?_⟩);have hf:H1 s1.heap.objs.size=none:=I1.hok.fresh (Hw _);refine⟨.ref s1.heap.objs.size,Ex H1 s1.heap.objs.size (.tup xs),I1.laid (t':=s1.toks) (fun b u e=>Hu _ e) (Hw _) ?_,rfl,q _ hf⟩;exact⟨z,us,r,rb.new _ _⟩
theorem yG(h:PA X es t):PE X (.List es pos) (Dw t):=by
 intro pins s σ H Q I hq;refine wpAny_List_spliced (EH (h pos pins s σ H _ I hq) fun us s1 ⟨xs,H1,I1,r,z,q⟩=>⟨by rw[<- r.length];exact z,?_⟩);have hf:H1 s1.heap.objs.size=none:=I1.hok.fresh (Hw _);refine⟨.ref s1.heap.objs.size,Ex H1 s1.heap.objs.size (.lst xs),I1.laid (t':=s1.toks) (fun b u e=>Hu _ e) (Hw _) ?_,rfl,q _ hf⟩;exact⟨z,us,0,r,HK _ rfl⟩
end
abbrev Sp:=List V->Hp->VK->XK->Prop
abbrev G5:=List Env->Hp->Ht->XK->Hq->Ht->Prop
structure Env0 (P:HV) (w:IF) (K:W.Frag) (mg:Str->Option Hq) (base:Heap) (A:IM) (outer:List Env) (s:Ht) (H:Hp):Prop where
 frames:A.frames=some outer
 mod:Mod K mg base
 bs:∀b o,base.get? b=some o->s.heap.get? b=some o/\H b=none
 bsz:base.objs.size<=s.heap.objs.size
 funs:s.heap.FunFrames base outer
 frf:∀b∈frs outer,H b=none
 hok:G0 P w H s.heap
 bare:Ni s.gens
noncomputable def CE(outer:List Env)(P:HV)(w:IF)(H:Hp)(s:Ht)(Q:VK)(u:Hq)(s':Ht):Prop :=
 ∃v H',s'.os=s.os/\Ni s'.gens/\Un (frs outer) [] H H' s.heap s'.heap/\G0 P w H' s'.heap/\RelV v u/\Q v H'
noncomputable def CR(CX:G5)(outer:List Env)(P:HV)(w:IF)(H:Hp)(s:Ht)(Q:VK)(E:XK)(r:N6)(s':Ht):Prop :=
 match r with
 | .ok (.ret u)=>CE outer P w H s Q u s'
 | .ok _=>False
 | .error e=>CX outer H s E e s'
structure FnOk (P:HV) (w:IF) (K:W.Frag) (mg:Str->Option Hq) (base:Heap) (CX:G5) (k:Nat) (f:Addr) (fd:Kb) (ps:List Str) (sp:Sp):Prop where
 len:∀vs H Q E,sp vs H Q E->vs.length=ps.length
 run:∀(A:IM)(outer:List Env)(s:Ht)(H:Hp)(args:Args)(us:List Hq)(vs:List V)(Q:VK)(E:XK),Room k A->Env0 P w K mg base A outer s H->N7 s fd args (ps.zip us)->de vs us->sp vs H Q E ->
  JU (Ib P w) A (.call (.ref f) args) (CR CX outer P w H s Q E) s
section
variable{X:Cx}{pins:List (Addr×Obj)}{σ:St}{H:Hp}{s s':Ht}
theorem Inv.env0(I:Inv X pins σ H s):Env0 X.prog X.w X.K X.mg X.base X.A X.stack s H :=
 ⟨I.ok.frames,I.ok.mod,I.bs,Je I.ok.bsz I.sz,I.stack,I.stkFree,I.hok,I.bare⟩
theorem Inv.after{Q:VK}{u:Hq}(I:Inv X pins σ H s)(h:CE X.stack X.prog X.w H s Q u s'):EP X pins σ Q u s':=by
 obtain⟨v,H',os,bare,un,hok,r,q⟩:=h;obtain⟨hh,g,d,t,os'⟩:=s';obtain rfl:os'=s.os:=os;exact⟨v,H',I.call (h':=hh) (g':=g) (d':=d) (t':=t) (ch:=[]) un hok bare (fun b z=>absurd z (by simp)),r,q⟩
end
noncomputable def x4(sp:Sp)(dvs:List V)(E:XK)(t:TA):TE:=fun σ H Q=>t σ H fun vs H1=>sp (vs++dvs) H1 Q E
noncomputable def Binds(K:W.Frag)(fd:Kb)(ps:List Str)(ds:List Hq):Prop :=
 ∀(s:Ht)(us:List Hq),K.In s.heap->(us++ds).length=ps.length->N7 s fd ⟨us,[]⟩ (ps.zip (us++ds))
theorem Binds.all{K:W.Frag}{ps:List Str}(h:∀us:List Hq,us.length=ps.length->bindArgs fd ⟨us,[]⟩=pure (ps.zip us)):Binds K fd ps []:=fun s us _ hl=>by
 rw[Jx]at hl ⊢;exact .of_eq (h us hl)
noncomputable def qX(CX:G5)(X:Cx)(E:XK):Prop:=∀(pins:List (Addr×Obj))(σ:St)(H:Hp)(s:Ht)(e:Hq)(s':Ht),Inv X pins σ H s->CX X.stack H s E e s'->X.xe e s'
section
variable{X:Cx}{CX:G5}{k:Nat}{f C:Addr}{fd:Kb}{ps:List Str}{sp:Sp}{dvs:List V}{ds:List Hq}{E:XK}{x m:Str}{p pos apos:Pos}{e o:Expr}{es:List Expr}{ta:TE}{t:TA}
theorem yi{σ:St}{H:Hp}{s:Ht}{Q:VK}{vs:List V}(F:FnOk X.prog X.w X.K X.mg X.base CX k f fd ps sp)(hr:Room k X.A)(hb:Binds X.K fd ps ds)(hd:de dvs ds)(hx:qX CX X E)
 (I:Inv X pins σ H s)(r:de vs us)(h:sp (vs++dvs) H Q E):HP (Ib X.prog X.w) X.A (call (.ref f) us) (EP X pins σ Q) X.xe s:=by
 have r2:de (vs++dvs) (us++ds):=r.append hd;have hl:(us++ds).length=ps.length:=by rw[<- r2.length];exact F.len _ _ _ _ h
 refine wpAny_call (LO (F.run X.A X.stack s H ⟨us,[]⟩ (us++ds) (vs++dvs) Q E hr I.env0 (hb s us I.kIn hl) r2 h) fun r s' hq=>?_)
 cases r with
 | error e=>exact hx pins σ H s e s' I hq
 | ok fl =>
   cases fl with
   | ret u=>exact I.after hq
   | next=>exact Jk hq
   | brk=>exact Jk hq
   | cont=>exact Jk hq
theorem gE(F:FnOk X.prog X.w X.K X.mg X.base CX k f fd ps sp)(hr:Room k X.A)(hg:Gl X x)(hm:X.mg x=some (.ref f))(hk:W.keepIn X.K (.ref f)=true)(hb:Binds X.K fd ps ds)(hd:de dvs ds)(hx:qX CX X E)
 (ha:PA X (e::es) t)(hdb:autoParam ((x==("__debug__" : Str))=false) æb._auto_1)(he:autoParam (HA (e::es) X.env=(false,eval e X.env)::HA es X.env) æa._auto_1)(hpl:autoParam ((Jl pos (HA es X.env)).any (·.1)=false) æa._auto_1) :
 PE X (.Call (.Name x p) (e::es) [] pos) (x4 sp dvs E t):=by
 intro pins s σ H Q I h;refine KU (pP I hg hm ?_ hdb);refine W.callWith_K (h₀:=X.base) I.ok.mod.kin hk (EH (ha pos pins s σ H _ I h) fun us s1 ⟨vs,H1,I1,r,q⟩=>⟨I1.kIn,?_⟩) he hpl;exact yi F hr hb hd hx I1 r q
end
section
variable{X:Cx}{CX:G5}{k:Nat}{f C:Addr}{fd:Kb}{ps ks:List Str}{sp:Sp}{E:XK}{x m:Str}{p pos apos kpos:Pos}{e o:Expr}{es:List Expr}{kws:List KW}{te ta:TE}{t tk:TA}{nm:Option Str}
variable{g:List Hq->List Hq->List Hq}{gV:List V->List V->List V}
end
structure FnScope (N P:List Str) (sc:Scope):Prop where
 kind:sc.kind = .function
 co:sc.isCoroutine=false
 gen:sc.isGenerator=false
 nd:N.Nodup
 pre:N.take P.length=P
 par:∀x∈P,sc.names.lookup x=some .local\/sc.names.lookup x=some .cell
 nofree:∀y∈sc.names,y.2 ≠ .free
theorem j6{kindOf:Str->Option KY}{x:Str}:∀{binds:List (Str×Hq)}{m:Str->Option Hq},(∀v,(x,v)∉binds)->bindL kindOf binds m x=m x
 | [],_,_=>rfl
 | (n,v)::r,m,h=>by
   unfold bindL;rw[j6 fun w hw=>h w (Hv _ hw)];split
   · have:x≠n:=by rintro rfl;exact h v Hr
     simp[this]
   · rfl
theorem j8{kindOf:Str->Option KY}{x:Str}:∀{binds:List (Str×Hq)}{m:Str->Option Hq},(∀v,(x,v)∉binds)->bindC kindOf binds m x=m x
 | [],_,_=>rfl
 | (n,v)::r,m,h=>by
   unfold bindC;rw[j8 fun w hw=>h w (Hv _ hw)];split
   · rfl
   · have:x≠n:=by rintro rfl;exact h v Hr
     simp[this]
theorem j7{kindOf:Str->Option KY}{x:Str}{v:Hq}:∀{P:List Str}{vs:List Hq}{i:Nat}{m:Str->Option Hq},P.Nodup->P[i]?=some x->vs[i]?=some v->kindOf x=some .local ->
 bindL kindOf (P.zip vs) m x=some v
 | [],_,_,_,_,h,_,_=>by simp at h
 | _::_,[],_,_,_,_,h,_=>by simp at h
 | p::P,w::vs,0,m,nd,h1,h2,hk=>by
   simp at h1 h2;subst h1;subst h2;show bindL kindOf ((p,w)::P.zip vs) m p=_;unfold bindL;rw[j6 fun v hv=>(LF.mp nd).1 (IB hv).1,if_pos hk]
   simp
 | p::P,w::vs,i+1,m,nd,h1,h2,hk=>by
   show bindL kindOf ((p,w)::P.zip vs) m x=_;unfold bindL;exact j7 (i:=i) (LF.mp nd).2 (by simpa using h1) (by simpa using h2) hk
theorem j9{kindOf:Str->Option KY}{x:Str}{v:Hq}:∀{P:List Str}{vs:List Hq}{i:Nat}{m:Str->Option Hq},P.Nodup->P[i]?=some x->vs[i]?=some v->kindOf x≠some .local ->
 bindC kindOf (P.zip vs) m x=some v
 | [],_,_,_,_,h,_,_=>by simp at h
 | _::_,[],_,_,_,_,h,_=>by simp at h
 | p::P,w::vs,0,m,nd,h1,h2,hk=>by
   simp at h1 h2;subst h1;subst h2;show bindC kindOf ((p,w)::P.zip vs) m p=_;unfold bindC;rw[j8 fun v hv=>(LF.mp nd).1 (IB hv).1,if_neg hk]
   simp
 | p::P,w::vs,i+1,m,nd,h1,h2,hk=>by
   show bindC kindOf ((p,w)::P.zip vs) m x=_;unfold bindC;exact j9 (i:=i) (LF.mp nd).2 (by simpa using h1) (by simpa using h2) hk
noncomputable def start(N:List Str)(vs:List V):St:=vs.map some++HB (N.length-vs.length) none
noncomputable def nP(CX:G5)(P:HV)(w:IF)(K:W.Frag)(mg:Str->Option Hq)(base:Heap)(N:List Str)(qual:Str)(scope:Scope)(f:Addr)(cd:Hq)(A:IM)(outer:List Env)(s:Ht)(H:Hp)(E:XK):Cx where
 prog:=P
 w:=w
 K:=K
 mg:=mg
 base:=base
 A:=A.deeper (L8 qual scope s.heap.objs.size f cd)
 N:=N
 s₀:=s
 H₀:=H
 env:=L8 qual scope s.heap.objs.size f cd
 outer:=outer
 stack:=L8 qual scope s.heap.objs.size f cd::outer
 ex:=[]
 calm:=true
 fn:=fun _=>true
 pn:=[]
 xe:=fun e s'=>HP (Ib P w) (A.deeper (L8 qual scope s.heap.objs.size f cd)) (leaving (L8 qual scope s.heap.objs.size f cd) e) (fun _ s''=>CX outer H s E e s'') (fun e' s''=>CX outer H s E e' s'') s'
theorem mR{sc:Scope}(h:sc.names.lookup x=some .cell):∃c,(JB n sc.names []).lookup x=some c:=by
 have q:=W.cellsFrom_some sc.names n [] (.inl h);exact J7.mp q
theorem pW{CX:G5}{K:W.Frag}{base:Heap}{ps:List Str}{cd:Hq}{outer:List Env}{s s1:Ht}{H:Hp}{E:XK}{vs:List V}
 (S:FnScope N ps scope)(hd:A.handled=none)(e0:Env0 P w K mg base A outer s H)(hl:vs.length=ps.length)(r:de vs us)
 (x:InCallC s s.heap.objs.size (bindL (L8 qual scope s.heap.objs.size f cd).kindOf (ps.zip us) fun _=>none) (JB (s.heap.objs.size+1) scope.names []) (bindC (L8 qual scope s.heap.objs.size f cd).kindOf (ps.zip us) fun _=>none) s1) :
 Inv (nP CX P w K mg base N qual scope f cd A outer s H E) [] (start N vs) H s1:=by
 have hpl:ps.length<=N.length:=by have:=congrArg List.length S.pre;rw[Iz]at this;omega
 obtain⟨h1,tk,rfl,hk⟩:=x.done;have noA:∀b:Addr,b∉(nP CX P w K mg base N qual scope f cd A outer s H E).ex:=fun b z=>absurd (show b∈([]:List Addr)from z) (by simp)
 refine⟨⟨e0.mod,S.kind,rfl,rfl,Hw _,fun y z c h1 h2=>?_,fun y hy=>?_,fun y c _ h=>?_,fun _=>hd,IM.frames_deeper e0.frames,.inr ⟨rfl,rfl⟩,fun b z=>absurd z (noA b),e0.bs,e0.bsz,fun b _ _=>noA b,fun b z=>absurd z (noA b),e0.funs,e0.frf⟩,
  rfl,e0.bare,Un.kept hk,⟨_,x.toInCall.ns,fun i y v h1 h2 h3=>?_⟩,fun y c h=>⟨_,x.cell y c h⟩,e0.hok.fresh (Hw _),fun y c h=>?_,fun p hp=>absurd (show p∈([]:List (Addr×Obj))from hp) (by simp),e0.hok.kept hk,?_⟩
 · exact name_of_addr x.apart (IZ h1) (IZ h2)
 · have hy:scope.names.lookup y=some .cell\/scope.names.lookup y=some .free:=hy;rcases hy with hy|hy
   · exact mR hy
   · exact absurd rfl (S.nofree _ (IZ hy))
 · exact NP (x.above y c (IZ h))
 · have hi:i<vs.length:=by
     unfold start at h2;by_cases hi:i<vs.length
     · exact hi
     · rw[KA (by simpa using hi)]at h2;rw[Mh]at h2;split at h2<;>cases h2
   have ha:vs[i]?=some v:=by
    unfold start at h2;rw[J0 (by simpa using hi),Ja]at h2
    cases e:vs[i]? with
    | none=>rw[e]at h2;cases h2
    | some a=>rw[e]at h2;cases h2;rfl
   obtain⟨u,hu,rv⟩:=r.get ha
   have hp:ps[i]?=some y:=by
    rw[<- S.pre,List.getElem?_take_of_lt (by omega)];exact h1
   have ndP:ps.Nodup:=by rw[<- S.pre];exact S.nd.sublist (List.take_sublist _ _)
   refine⟨u,rv,?_⟩;rcases S.par y (M7 hp)with k|k
   · exact .inl ⟨k,j7 ndP hp hu k⟩
   · obtain⟨c,e⟩:=mR (n:=s.heap.objs.size+1) k;refine .inr ⟨.inl k,c,e,?_⟩;have q:=x.cell y c e;rw[j9 ndP hp hu (by show scope.names.lookup y≠_;rw[k];decide)]at q;exact q
 · exact e0.hok.fresh (NP (x.above y c (IZ h)))
 · unfold start;show _=N.length;rw[HS,Hs,Kq];omega
theorem Bp{CX:G5}{K:W.Frag}{base:Heap}{k:Nat}{name:Str}{params:Arguments}{body:List Stmt}{dV kV doc pm cdv ct oc:Hq}{an od:Option Addr}
 {osl:Array (Option Hq)}{ps:List Str}{sp:Sp}(lk:K.lookup f=some ⟨oc,od,.func (W.fnOf name qual params body scope dV kV doc pm an cdv ct),osl⟩)(hcd:W.codeIn K cdv qual=true)(S:FnScope N ps scope)
 (len:∀vs H Q E,sp vs H Q E->vs.length=ps.length)
 (hbody:∀(A:IM)(outer:List Env)(s:Ht)(H:Hp)(vs:List V)(Q:VK)(E:XK),Room k (A.deeper (L8 qual scope s.heap.objs.size f cdv))->sp vs H Q E ->
  ∃t,GC (nP CX P w K mg base N qual scope f cdv A outer s H E) body t/\t {nx:=fun _ H'=>Q .non H',rt:=Q} (start N vs) H) :
 FnOk P w K mg base CX (k+1) f (W.fnOf name qual params body scope dV kV doc pm an cdv ct) ps sp:=by
 refine⟨len,fun A outer s H args us vs Q E hr e0 hb r hsp=>?_⟩;have hl:=len _ _ _ _ hsp;have KX:K.In s.heap:=e0.mod.kin.keeps fun b o e=>(e0.bs b o e).1;have lim:s.heap.NoLimit:=e0.mod.nolimit.keeps fun b o e=>(e0.bs b o e).1
 have hkind:∀y∈ps.zip us,scope.names.lookup y.1=some .local\/(scope.names.lookup y.1=some .cell/\((JB (s.heap.objs.size+1) scope.names []).lookup y.1).isSome=true):=fun⟨n,v⟩ hy=>by
  rcases S.par n (IB hy).1 with q|q
  · exact .inl q
  · exact .inr ⟨q,W.cellsFrom_some _ _ _ (.inl q)⟩
 refine codeAny_call_function hr.depth (KX _ _ lk) rfl S.co S.gen rfl (W.codeRec_of KX hcd) (hb _ _ _ _ ?_);refine wpAny_newFunctionEnv_cells S.kind hkind fun env he s1 x=>?_;subst he;refine⟨lim.keeps x.toInCall.keep,codeAny_func ?_⟩;obtain⟨t,ht,hq⟩:=hbody A outer s H vs Q E (hr.deeper _) hsp;have I:Inv (nP CX P w K mg base N qual scope f cdv A outer s H E) [] (start N vs) H s1:=pW S hr.hd e0 hl r x;refine Im (ht [] s1 (start N vs) H _ I hq) (fun fl s' hs=>?_) fun e s' hs=>hs
 have fin:∀{σ':St}{H':Hp}{v:V}{u:Hq},Inv (nP CX P w K mg base N qual scope f cdv A outer s H E) [] σ' H' s'->RelV v u->Q v H'->CE outer P w H s Q u s' :=
  fun{σ' H' v u} J rv q=>⟨v,H',J.os,J.bare,J.base,J.hok,rv,q⟩
 cases fl with
 | ret u =>
   obtain⟨v,σ',H',J,rv,q⟩:=hs
   exact fin J rv q
 | next =>
   obtain⟨σ',H',J,q⟩:=hs
   exact fin (v:=V.non) (u:=J3) J rfl q
 | brk =>
   obtain⟨_,_,_,q⟩:=hs
   exact Jk q
 | cont =>
   obtain⟨_,_,_,q⟩:=hs;exact Jk q
section
variable{X:Cx}{x:Str}{p pos:Pos}{e:Expr}{es:List Expr}{t:TA}{id T:String}{r:List V->Hp->VK->Prop}
noncomputable def EQ(r:List V->Hp->VK->Prop)(t:TA):TE:=fun σ H Q=>t σ H fun vs H1=>r vs H1 Q
theorem rZ(hc:fG X (.builtin id) r)(hg:Gl X x)(hm:X.mg x=none)(hv:Kp x=some (.builtin id))(ha:PA X (e::es) t)(hn:autoParam (x ≠ "__name__") æb._auto_1)(hdb:autoParam ((x==("__debug__" : Str))=false) æb._auto_1)
 (he:autoParam (HA (e::es) X.env=(false,eval e X.env)::HA es X.env) æa._auto_1)(hpl:autoParam ((Jl pos (HA es X.env)).any (·.1)=false) æa._auto_1):PE X (.Call (.Name x p) (e::es) [] pos) (EQ r t):=by
 intro pins s σ H Q I h;refine KU (iq I hg hm hv ?_ hn hdb);exact PyProof.Rows.callWith_builtin1 (EH (ha pos pins s σ H _ I h) fun us s1 ⟨vs,H1,I1,r1,q1⟩=>hc pins s1 σ H1 vs us Q I1 r1 q1) he hpl
theorem jO(hc:fG X (.type T) r)(hg:Gl X x)(hm:X.mg x=none)(hv:Kp x=some (.type T))(ha:PA X (e::es) t)(hn:autoParam (x ≠ "__name__") æb._auto_1)(hdb:autoParam ((x==("__debug__" : Str))=false) æb._auto_1)
 (he:autoParam (HA (e::es) X.env=(false,eval e X.env)::HA es X.env) æa._auto_1)(hpl:autoParam ((Jl pos (HA es X.env)).any (·.1)=false) æa._auto_1):PE X (.Call (.Name x p) (e::es) [] pos) (EQ r t):=by
 intro pins s σ H Q I h;refine KU (iq I hg hm hv ?_ hn hdb);exact Jw (EH (ha pos pins s σ H _ I h) fun us s1 ⟨vs,H1,I1,r1,q1⟩=>hc pins s1 σ H1 vs us Q I1 r1 q1) he hpl
end
end L2
variable{H H' F F' F₀ H₀:L2.Hp}{v:L2.V}{X:L2.Cx}{σ:L2.St}{r:List L2.V->L2.Hp->L2.VK->Prop}{vs:List L2.V}
namespace HT
open PySem PyProof.Rows
section
open PySem.SeqAt
open PySem.AutoSeq1 (wpAny_loadPart')
open PySem.MeetsSeq PySem.MeetsSeq2 PySem.MeetsSeq3
end
section
variable{prog:HV}{w:IF}{A:IM}{E:Hq->Ht->Prop}{s:Ht}
theorem cat_tup{t b:Addr}{vs ws:List Hq}(ht:N1 s.heap t vs.toArray)(hb:N1 s.heap b ws.toArray)(hv:vs≠[])
 (h1:ws=[]->Q (.ref t) s)(h2:ws≠[]->Q (.ref s.heap.objs.size) {s with heap:=s.heap.push {cls:=.type "tuple", data:=.seq (vs++ws).toArray}})
 (hsz:vs.length+ws.length<=sizeLine):HP (Ib prog w) A (Ka .Add (.ref t) (.ref b)) Q E s:=by
 obtain⟨⟨cls,dd,data,sl⟩,ho,hc,n,hd⟩:=id ht;obtain⟨⟨cls2,dd2,data2,sl2⟩,ho2,hc2,n2,hd2⟩:=id hb;simp only at hc hd hc2 hd2;subst hc hd hc2 hd2;have e:vs.toArray++ws.toArray=(vs++ws).toArray:=by simp
 by_cases hw:ws=[]
 · exact NR ⟨_,ho,rfl⟩ ⟨_,ho2,rfl⟩ Mr Nx K9 KZ (KP _ _)
     (tuple_addW1 t b vs.toArray ws.toArray n n2 dd dd2 sl sl2 (by simpa using hv) (by simp[hw])) ⟨ho,ho2,h1 hw⟩
 · refine NR ⟨_,ho,rfl⟩ ⟨_,ho2,rfl⟩ Mr Nx K9 KZ (KP _ _)
     (tuple_addW2 t b vs.toArray ws.toArray n n2 dd dd2 sl sl2 (by simpa using hv) (by simpa using hw) (by rw[HL,HL];exact hsz)) ⟨ho,ho2,?_⟩
   rw[e];exact h2 hw
noncomputable def sIx(n d:Nat):Option Int->Nat
 | none=>d
 | some v=>if v<0 then(v+(n:Int)).toNat else min v.toNat n
theorem sIx_none(n d:Nat):sIx n d none=d:=rfl
theorem sIx_nat(n d k:Nat):sIx n d (some (k:Int))=min k n:=by
 show(if(k:Int)<0 then((k:Int)+(n:Int)).toNat else min (k:Int).toNat n)=min k n;rw[if_neg (by omega),JE]
theorem yf(n d:Nat)(hd:d<=n)(o:Option Int):sIx n d o<=n:=by
 cases o with
 | none=>exact hd
 | some v =>
   show(if v<0 then(v+(n:Int)).toNat else min v.toNat n)<=n;by_cases hv:v<0
   · rw[if_pos hv];omega
   · rw[if_neg hv];exact Nat.min_le_right _ _
theorem qH(v:Int)(n d:Nat):(if v<0 then max (v+(n:Int)) 0 else min v (n:Int))=((sIx n d (some v):Nat):Int):=by
 show(if v<0 then max (v+(n:Int)) 0 else min v (n:Int))=(((if v<0 then(v+(n:Int)).toNat else min v.toNat n):Nat):Int);by_cases hv:v<0
 · simp only[if_pos hv];omega
 · simp only[if_neg hv];omega
theorem nJ(lo hi:Option Int)(n:Nat):KE lo hi 1 (n:Int)=(((sIx n 0 lo:Nat):Int),((sIx n n hi:Nat):Int)):=by
 have h1:¬((1:Int)<0):=by omega
 unfold KE;simp only[h1,if_false];refine N3 ?_ ?_
 · cases lo with
   | none=>rfl
   | some v=>exact qH v n 0
 · cases hi with
   | none=>rfl
   | some v=>exact qH v n n
theorem nv(i j:Nat):Jb (i:Int) (j:Int) 1=j-i:=by
 unfold Jb;have h1:(1:Int)>0:=by omega
 simp only[h1,if_true,Int.ediv_one];split<;>omega
theorem slicePart_{v:Hq}{o:Option Int}{Q:Option Int->Ht->Prop}(p:MH v o)(h:Q o s):HP (Ib prog w) A (Builtin.Slice.slicePartIndex v) Q E s:=by
 cases p with
 | none=>exact slicePart_none h
 | int i t=>exact slicePart_int h
theorem sliceApplied_gen{sl:Addr}{vl vu:Hq}{lo hi:Option Int}{Q:Int×Int×Nat->Ht->Prop}(hs:s.heap.IsSliceOf sl vl vu .none)(pl:MH vl lo)(pu:MH vu hi)
 (h:Q (((sIx n 0 lo:Nat):Int),1,sIx n n hi-sIx n 0 lo) s):HP (Ib prog w) A (JV (.ref sl) (pure (n:Int))) Q E s:=by
 obtain⟨os,hos,hcs,hds⟩:=id hs;unfold JV LX;refine Hl (Hl (Jf hos hds (x:=vl) rfl (Hl (Jf hos hds (x:=vu) rfl (Hl (Jf hos hds (x:=.none) rfl (Hn ?_)))))));refine Hl (slicePart_none ?_);show HP _ _ (if((1:Int)==0)=true then _ else _) _ _ s;rw[if_neg (by decide)];refine Hl (slicePart_ pl (Hl (slicePart_ pu (Hl (Hn ?_)))));show HP _ _ (match KE lo hi 1 (n:Int)with|(lo,hi)=>pure (lo,(1:Int),Jb lo hi 1)) _ _ s;rw[nJ lo hi n];show HP _ _ (pure (((sIx n 0 lo:Nat):Int),(1:Int),Jb ((sIx n 0 lo:Nat):Int) ((sIx n n hi:Nat):Int) 1)) _ _ s;rw[nv];exact Hn h
theorem rT(xs:Array Hq)(i k:Nat):((IJ k).filterMap fun(m:Nat)=>xs[((i:Int)+(m:Int)*1).toNat]?).toArray=((xs.toList.drop i).take k).toArray:=by
 have e:(fun(m:Nat)=>xs[((i:Int)+(m:Int)*1).toNat]?)=fun m=>xs[i+m]?:=by
  funext m;have:((i:Int)+(m:Int)*1).toNat=i+m:=by omega
  rw[this]
 rw[e];have:=pick_run xs i k;rw[List.filterMap_map]at this;have e2:((fun x=>xs[x]?) ∘ fun x=>i+x)=fun m=>xs[i+m]?:=rfl;rw[e2]at this;rw[this]
theorem getItem_tuple_cut{t sl:Addr}{items:Array Hq}{vl vu:Hq}{lo hi:Option Int}(ht:N1 s.heap t items)(hs:s.heap.IsSliceOf sl vl vu .none)(pl:MH vl lo)(pu:MH vu hi)
 (hw:¬(sIx items.size 0 lo=0/\sIx items.size items.size hi=items.size))
 (h:Q (.ref s.heap.objs.size) {s with heap:=s.heap.push {cls:=.type "tuple", data:=.seq ((items.toList.drop (sIx items.size 0 lo)).take (sIx items.size items.size hi-sIx items.size 0 lo)).toArray}})
 (hsz:items.size<=sizeLine):HP (Ib prog w) A (LG (.ref t) (.ref sl)) Q E s:=by
 have htake:sizeOk (.seq ((items.toList.drop (sIx items.size 0 lo)).take (sIx items.size items.size hi-sIx items.size 0 lo)).toArray):=by
  show((items.toList.drop (sIx items.size 0 lo)).take (sIx items.size items.size hi-sIx items.size 0 lo)).toArray.size<=sizeLine;rw[HL,Iz,Ms,J_];omega
 have hj:sIx items.size items.size hi<=items.size:=yf _ _ (Hw _) hi;obtain⟨os,hos,hcs,hds⟩:=id hs;have hTs:s.TypeIs (.ref sl) "slice" := ⟨os,hos,hcs⟩;unfold LG
 try with_reducible refine Ku ?_
 first|refine Hl (Hn ?_)|skip
 refine Hl (Kv ht.typeIs (by decide) ?_)
 refine Hl (Is (name:=Iw "__getitem__") ht.typeIs H0
  (Ji H0 ht.typeIs entry_tuple_getitem ?_ (LP _ _)))
 show HP _ _ (JW (.ref t) >>= _) _ _ s;refine Hl (K0 ht ?_);refine Hl (LQ hTs ?_);rw[if_pos (by decide)];refine Hl (sliceApplied_gen hs pl pu ?_)
 have hno:¬((((sIx items.size 0 lo:Nat):Int)==0&&(1:Int)==1&&(sIx items.size items.size hi-sIx items.size 0 lo)==items.size)=true):=by
  intro q;rw[Ki,Ki]at q;have q1:((sIx items.size 0 lo:Nat):Int)=0:=eq_of_beq q.1.1;have q2:sIx items.size items.size hi-sIx items.size 0 lo=items.size:=eq_of_beq q.2;exact hw ⟨by omega,by omega⟩
 show HP _ _ (if(((sIx items.size 0 lo:Nat):Int)==0&&(1:Int)==1&&(sIx items.size items.size hi-sIx items.size 0 lo)==items.size)=true then _ else _) _ _ s;rw[if_neg hno,rT]
 first
  | exact Hl (m:=Ix _) (Ia (Hn ⟨_,rfl,Hn h⟩) htake)
  | exact Hl (m:=Ix _) (Ia (Hl (Hn (Hn ⟨_,rfl,Hn h⟩))) htake)
  | exact Hl (Hl (m:=Ix _) (Ia (Hn (Hn ⟨_,rfl,Hn h⟩)) htake))
  | exact Hl (Hl (m:=Ix _) (Ia (Hn ⟨_,rfl,Hn h⟩) htake))
end
end HT
namespace L2
abbrev TO:=St->Hp->(Option Int->Hp->Prop)->Prop
noncomputable def PO(X:Cx)(e:Option Expr)(t:TO):Prop :=
 ∀ (pins:List (Addr×Obj))(s:Ht)(σ:St)(H:Hp)(Q:Option Int->Hp->Prop),Inv X pins σ H s->t σ H Q ->
   HP (Ib X.prog X.w) X.A (evalPart e X.env) (fun u s'=>∃o H',Inv X pins σ H' s'/\MH u o/\Q o H') X.xe s
noncomputable def u8:TO:=fun _ H Q=>Q none H
noncomputable def AK(t:TE):TO:=fun σ H Q=>t σ H fun x H1=>∃i,x = .int i/\Q (some i) H1
section
variable{X:Cx}{e:Expr}{te:TE}{lo hi:Option Expr}{tl th:TO}{pos p2:Pos}
theorem vK:PO X none u8:=by
 intro pins s σ H Q I h;rw[Ny];exact Hn ⟨none,H,I,.none,h⟩
theorem pA(h:PE X e te):PO X (some e) (AK te):=by
 intro pins s σ H Q I hw;rw[evalPart_some];refine EH (h pins s σ H _ I hw) fun u s1 ⟨x,H1,I1,r1,q1⟩=>?_;obtain⟨i,rfl,q⟩:=q1;obtain⟨t,rfl⟩:=r1;exact⟨some i,H1,I1,.int i t,q⟩
noncomputable def Gu(X:Cx)(r:V->Option Int->Option Int->Hp->VK->Prop):Prop :=
 ∀ (pins:List (Addr×Obj))(s:Ht)(σ:St)(H:Hp)(x:V)(v vl vu:Hq)(lo hi:Option Int)(sl:Addr)(Q:VK),Inv X pins σ H s->RelV x v->s.heap.IsSliceOf sl vl vu .none->MH vl lo->MH vu hi->r x lo hi H Q ->
   ∃T id,typeLookup (.type T) "__getitem__" = pure (some (.builtin id))/\s.TypeIs v T/\HP (Ib X.prog X.w) X.A (LG v (.ref sl)) (EP X pins σ Q) X.xe s
noncomputable def EL(r:V->Option Int->Option Int->Hp->VK->Prop)(te:TE)(tl th:TO):TE:=fun σ H Q=>te σ H fun x H1=>tl σ H1 fun l H2=>th σ H2 fun u H3=>r x l u H3 Q
theorem l5{r:V->Option Int->Option Int->Hp->VK->Prop}(hr:Gu X r)(he:PE X e te)(hl:PO X lo tl)(hu:PO X hi th):PE X (.Subscript e (.Slice lo hi none p2) pos) (EL r te tl th):=by
 intro pins s σ H Q I h;refine NH (EH (he pins s σ H _ I h) fun v s1 ⟨x,H1,I1,r1,q1⟩=>?_);refine wpAny_Slice (EH (hl pins s1 σ H1 _ I1 q1) fun vl s2 ⟨l,H2,I2,pl,q2⟩=>EH (hu pins s2 σ H2 _ I2 q2) fun vu s3 ⟨u,H3,I3,pu,q3⟩=>?_);rw[Ny];refine Hn ?_;have I4:Inv X pins σ H3 {s3 with heap:=s3.heap.push {cls:=.type "slice", data:=.fields #[vl,vu,.none]}}:=I3.kept (t':=s3.toks) fun b ob q=>Hu _ q;obtain⟨T,id,hT,ht,hg⟩:=hr pins {s3 with heap:=s3.heap.push {cls:=.type "slice", data:=.fields #[vl,vu,.none]}} σ H3 x v vl vu l u s3.heap.objs.size Q I4 r1 (Heap.IsSliceOf.new ..) pl pu q3;show HP (Ib X.prog X.w) X.A (Nz e (.Slice lo hi none p2) v (.ref s3.heap.objs.size)) (EP X pins σ Q) X.xe {s3 with heap:=s3.heap.push {cls:=.type "slice", data:=.fields #[vl,vu,.none]}};exact tail_any (ops:=[.ref s3.heap.objs.size,v]) ht hT hg (by with_unfolding_all rfl)
noncomputable def sY(xs:List V)(lo hi:Option Int):List V:=(xs.drop (HT.sIx xs.length 0 lo)).take (HT.sIx xs.length xs.length hi-HT.sIx xs.length 0 lo)
theorem gU(xs:List V)(lo hi:Option Int):(sY xs lo hi).length<=xs.length:=by
 unfold sY;rw[Iz,Ms];omega
noncomputable def CU(K:W.Frag):V->Option Int->Option Int->Hp->VK->Prop:=fun x lo hi H Q=>∃a xs,x = .ref a/\Gp K H a xs /\
 ¬(HT.sIx xs.length 0 lo=0/\HT.sIx xs.length xs.length hi=xs.length)/\∀p,H p=none->Q (.ref p) (Ex H p (.tup (sY xs lo hi)))
theorem yb:Gu X (CU X.K):=by
 intro pins s σ H x v vl vu lo hi sl Q I rx hs pl pu h;obtain⟨a,xs,rfl,hx,hw,q⟩:=h;cases rx;obtain⟨its,r,ht,hz⟩:=I.tuple hx;have hlen:its.toArray.size=xs.length:=by rw[HL];exact r.length.symm
 refine⟨"tuple", _,H0.lookup,ht.typeIs,?_⟩;refine HT.getItem_tuple_cut ht hs pl pu (by rw[hlen];exact hw) ?_ (by rw[hlen];exact hz);rw[hlen];refine⟨.ref s.heap.objs.size,_,I.laid (t':=s.toks) (o:=.tup (sY xs lo hi)) (fun b ob q=>Hu _ q) (Hw _) ?_,rfl,q _ (I.hok.fresh (Hw _))⟩;exact⟨Je (gU xs lo hi) hz,_,(r.drop (HT.sIx xs.length 0 lo)).take (HT.sIx xs.length xs.length hi-HT.sIx xs.length 0 lo),rb.new _ _⟩
noncomputable def vq(K:W.Frag):R2:=fun x y H Q=>∃a b xs ys,x = .ref a/\y = .ref b/\Gp K H a xs/\Gp K H b ys/\xs≠[]/\xs.length+ys.length<=sizeLine /\
 (ys=[]->Q (.ref a) H)/\(ys≠[]->∀p,H p=none->Q (.ref p) (Ex H p (.tup (xs++ys))))
theorem de.nil_iff{xs:List V}(r:de xs us):us=[]↔xs=[]:=by
 cases r with
 | nil=>simp
 | cons _ _=>simp
theorem vX:GL X (Ka .Add) (vq X.K):=by
 intro pins s σ H x y v u Q I rx ry h;obtain⟨a,b,xs,ys,rfl,rfl,ha,hb,hx,hz,q1,q2⟩:=h;cases rx;cases ry;obtain⟨its,r1,p1,_⟩:=I.tuple ha;obtain⟨its2,r2,p2,_⟩:=I.tuple hb;refine HT.cat_tup p1 p2 (fun z=>hx (r1.nil_iff.mp z)) (fun z=>⟨.ref a,H,I,rfl,q1 (r2.nil_iff.mp z)⟩) (fun z=>?_) (by rw[<- r1.length,<- r2.length];exact hz);refine⟨.ref s.heap.objs.size,_,I.laid (t':=s.toks) (o:=.tup (xs++ys)) (fun b ob q=>Hu _ q) (Hw _) ?_,rfl,q2 (fun w=>z (r2.nil_iff.mpr w)) _ (I.hok.fresh (Hw _))⟩;exact⟨by rw[HS];exact hz,_,r1.append r2,rb.new _ _⟩
end
noncomputable def ixN(n:Nat)(i:Int):Option Nat:=if 0<=i then(if i<n then some i.toNat else none)else if -(n:Int)<=i then some (i+n).toNat else none
noncomputable def atI{α:Type}(xs:List α)(i:Int):Option α:=(ixN xs.length i).bind fun j=>xs[j]?
theorem wn{i:Int}{j:Nat}(h:ixN n i=some j):seqIndex? i n=some j/\j<n /\ -(n:Int)<=i/\i<n:=by
 unfold ixN at h;by_cases h0:0<=i
 · rw[if_pos h0]at h;by_cases h1:i<n
   · rw[if_pos h1]at h;have e:i.toNat=j:=IA h;exact⟨by rw[seqIndex_of h0 h1,e],by omega,by omega,h1⟩
   · rw[if_neg h1]at h;cases h
 · rw[if_neg h0]at h;by_cases h1 : -(n:Int)<=i
   · rw[if_pos h1]at h;have e:(i+n).toNat=j:=IA h;exact⟨by rw[seqIndex_neg (by omega) h1,e],by omega,h1,by omega⟩
   · rw[if_neg h1]at h;cases h
theorem lB{xs:List α}{i:Int}{v:α}(h:atI xs i=some v):∃j,seqIndex? i xs.length=some j/\xs[j]?=some v/\j<xs.length /\ -(xs.length:Int)<=i/\i<xs.length:=by
 unfold atI at h
 cases e:ixN xs.length i with
 | none=>rw[e]at h;cases h
 | some j =>
   rw[e]at h;obtain⟨h1,h2,h3,h4⟩:=wn e;exact⟨j,h1,h,h2,h3,h4⟩
theorem lA{xs:List α}{j:Nat}{v:α}(h:xs[j]?=some v):atI xs (j:Int)=some v:=by
 have hj:j<xs.length:=(HM.mp h).1
 have e:ixN xs.length (j:Int)=some j:=by
  unfold ixN;rw[if_pos (by omega),if_pos (by omega)];simp
 unfold atI;rw[e];exact h
noncomputable def lE(b:Expr):Prop:=∀o i,Nl b false o i=operate [o,i] (LG o i)
noncomputable def GS(X:Cx)(r:R2):Prop :=
 ∀ (value slice:Expr)(pins:List (Addr×Obj))(s:Ht)(σ:St)(H:Hp)(x y:V)(v u:Hq)(Q:VK),Inv X pins σ H s->RelV x v->RelV y u->r x y H Q ->
   Nl slice false v u=operate [v,u] (LG v u)->HP (Ib X.prog X.w) X.A (Nz value slice v u) (EP X pins σ Q) X.xe s
noncomputable def GN(X:Cx)(id:String)(r:V->List V->Hp->VK->Prop):Prop :=
 ∀ (pins:List (Addr×Obj))(s:Ht)(σ:St)(H:Hp)(x:V)(xs:List V)(v:Hq)(us:List Hq)(Q:VK),Inv X pins σ H s->RelV x v->de xs us->r x xs H Q ->
   HP (Ib X.prog X.w) X.A (call (.builtin id) (v::us)) (EP X pins σ Q) X.xe s
section
variable{X:Cx}{a b:Expr}{ta tb:TE}{pos:Pos}
theorem GS.or{r r':R2}(h:GS X r)(h':GS X r'):GS X (fun x y H Q=>r x y H Q\/r' x y H Q):=by
 intro value slice pins s σ H x y v u Q I rx ry q hs;rcases q with q|q
 · exact h value slice pins s σ H x y v u Q I rx ry q hs
 · exact h' value slice pins s σ H x y v u Q I rx ry q hs
theorem yH{r:R2}(hr:GS X r)(ha:PE X a ta)(hb:PE X b tb)(hs:lE b):PE X (.Subscript a b pos) (EM r ta tb):=by
 intro pins s σ H Q I h;exact NH (Bx ha hb I h fun v u s2 x y H2 I2 rx ry q=>hr a b pins s2 σ H2 x y v u Q I2 rx ry q (hs _ _))
noncomputable def CZ(K:W.Frag):R2:=fun x y H Q=>∃p xs i v,x = .ref p/\y = .int i/\Gq K H p xs/\atI xs i=some v/\Q v H
noncomputable def CW(K:W.Frag):R2:=fun x y H Q=>∃p xs i v,x = .ref p/\y = .int i/\Gp K H p xs/\atI xs i=some v/\Q v H
noncomputable def CY:R2:=fun x y H Q=>∃z i c,x = .str z/\y = .int i/\z.length<=sizeLine/\atI z.cps.toList i=some c/\Q (.str ⟨#[c]⟩) H
theorem Bd:GS X (CZ X.K):=by
 intro value slice pins s σ H x y v u Q I rx ry h hs;obtain⟨p,xs,i,z,rfl,rfl,hq,he,q⟩:=h;cases rx;obtain⟨t,rfl⟩:=ry;obtain⟨its,r,pl,hz⟩:=I.list hq;obtain⟨j,h1,h2,h3,h4,h5⟩:=lB he;obtain⟨w,ew,rw'⟩:=r.get h2;have hl:=r.length;have hn:=mF;have fin:EP X pins σ Q w s:=⟨z,H,I,rw',q⟩;by_cases h0:0<=i
 · have hj:i.toNat=j:=by
     rw[seqIndex_of h0 h5]at h1;exact IA h1
   exact item_listR pl.isList h0 (by omega) (by rw[hj];simpa using ew) fin hs
 · have hj:(i+(its.toArray.size:Int)).toNat=j:=by
     rw[seqIndex_neg (by omega) h4]at h1;rw[HL,<- hl];exact IA h1
   exact Mw (x:=w) pl.isList.typeIs slot_list_getitem.lookup
    (wpAny_getItem_list_neg (Q:=fun r s'=>r=w/\EP X pins σ Q r s') pl.isList (by omega) (by rw[HL]<;>omega) (by omega) (by rw[hj];simpa using ew) ⟨rfl,fin⟩) hs
theorem C3:GS X (CW X.K):=by
 intro value slice pins s σ H x y v u Q I rx ry h hs;obtain⟨p,xs,i,z,rfl,rfl,hq,he,q⟩:=h;cases rx;obtain⟨t,rfl⟩:=ry;obtain⟨its,r,pl,hz⟩:=I.tuple hq;obtain⟨j,h1,h2,h3,h4,h5⟩:=lB he;obtain⟨w,ew,rw'⟩:=r.get h2;have hl:=r.length;have hn:=mF;have fin:EP X pins σ Q w s:=⟨z,H,I,rw',q⟩
 exact Mw (x:=w) pl.typeIs slot_tuple_getitem.lookup
  (getItem_tuple (j:=j) (Q:=fun r s'=>r=w/\EP X pins σ Q r s') pl (by omega) (by omega) (by rw[HL,<- hl];exact h1) (by simpa using ew) ⟨rfl,fin⟩) hs
theorem y_:GS X CY:=by
 intro value slice pins s σ H x y v u Q I rx ry h hs;obtain⟨z,i,c,rfl,rfl,hz,he,q⟩:=h;obtain⟨t,rfl⟩:=rx;obtain⟨t',rfl⟩:=ry;obtain⟨j,h1,h2,h3,h4,h5⟩:=lB he;have hl:z.cps.toList.length=z.length:=by simp[Str.length]
 rw[hl]at h1 h4 h5;have hn:=mF
 exact tail_any (typeIs_str s z t) slot_str_getitem.lookup (getItem_str (c:=c) (by
  have e1:decide (i < -(2^63:Int))=false:=decide_eq_false (by omega);have e2:decide (i ≥ 2^63)=false:=decide_eq_false (by omega)
  rw[e1,e2,Bool.or_false]) (by rw[h1];simpa using h2) ⟨.str ⟨#[c]⟩,H,I.tok _,⟨_,rfl⟩,q⟩) hs
noncomputable def E5(K:W.Frag):R2:=fun x y H Q=>CZ K x y H Q\/CW K x y H Q\/CY x y H Q
theorem ul:GS X (E5 X.K):=Bd.or (C3.or y_)
theorem jz(lo hi:Option Int)(n:Nat):(Ld lo hi none n).1=((HT.sIx n 0 lo:Nat):Int)/\(Ld lo hi none n).2.1=((HT.sIx n n hi:Nat):Int)/\(Ld lo hi none n).2.2=1:=by
 refine⟨?_,?_,rfl⟩
 · cases lo with
   | none=>simp[Ld,HT.sIx]
   | some i =>
     simp only[Ld,HT.sIx,Option.getD_none,show(1:Int)>0 by decide,if_true];by_cases h:i<0
     · simp only[h,if_true]<;>omega
     · simp only[h,if_false]<;>omega
 · cases hi with
   | none=>simp[Ld,HT.sIx]
   | some i =>
     simp only[Ld,HT.sIx,Option.getD_none,show(1:Int)>0 by decide,if_true];by_cases h:i<0
     · simp only[h,if_true]<;>omega
     · simp only[h,if_false]<;>omega
theorem iP(its:List Hq)(lo hi:Option Int):slicePick its.toArray lo hi none=((its.drop (HT.sIx its.length 0 lo)).take (HT.sIx its.length its.length hi-HT.sIx its.length 0 lo)).toArray:=by
 obtain⟨h1,h2,h3⟩:=jz lo hi its.toArray.size;unfold slicePick;rw[h1,h2,h3];simp only[sliceRange_one,pick_run,HL]<;>rfl
noncomputable def DH(K:W.Frag):V->Option Int->Option Int->Hp->VK->Prop:=fun x lo hi H Q=>∃a xs,x = .ref a/\Gq K H a xs/\∀p,H p=none->Q (.ref p) (Ex H p (.lst (sY xs lo hi)))
theorem u_:Gu X (DH X.K):=by
 intro pins s σ H x v vl vu lo hi sl Q I rx hs pl pu h;obtain⟨a,xs,rfl,hx,q⟩:=h;cases rx;obtain⟨its,r,ht,hz⟩:=I.list hx;have hlen:=r.length;refine⟨"list", _,slot_list_getitem.lookup,ht.isList.typeIs,?_⟩;refine wpAny_getItem_list_slice ht.isList hs pl pu .none (by simp) ?_ (by rw[HL]<;>omega);rw[iP,<- hlen];refine⟨.ref s.heap.objs.size,_,I.laid (t':=s.toks) (o:=.lst (sY xs lo hi)) (fun b ob q=>Hu _ q) (Hw _) ?_,rfl,q _ (I.hok.fresh (Hw _))⟩;exact⟨Je (gU xs lo hi) hz,_,0,(r.drop (HT.sIx xs.length 0 lo)).take (HT.sIx xs.length xs.length hi-HT.sIx xs.length 0 lo),HK _ rfl⟩
theorem jZ:fG X (.builtin "len") (fun xs H Q=>∃p ys,xs=[.ref p]/\(Gq X.K H p ys\/Gp X.K H p ys)/\Q (.int ys.length) H):=by
 intro pins s σ H xs us Q I r h;obtain⟨p,ys,rfl,hq,q⟩:=h;obtain⟨u,rfl,rx⟩:=vals1 r;cases rx;have hn:=mF;rcases hq with hq|hq
 · obtain⟨its,r',pl,hz⟩:=I.list hq;have hlen:=r'.length;exact Calls.call_len_list pl.isList (by simp only[HL]<;>omega) ⟨.int ys.length,H,I.tok _,⟨s.toks+1,by rw[HL,hlen]⟩,q⟩
 · obtain⟨its,r',pl,hz⟩:=I.tuple hq;have hlen:=r'.length;exact len_tuple pl (by simp only[HL]<;>omega) ⟨.int ys.length,H,I.tok _,⟨s.toks+1,by rw[HL,hlen]⟩,q⟩
theorem jY:fG X (.type "list") (fun xs H Q=>∃p ys,xs=[.ref p]/\(Gq X.K H p ys\/Gp X.K H p ys)/\∀l,H l=none->Q (.ref l) (Ex H l (.lst ys))):=by
 intro pins s σ H xs us Q I r h;obtain⟨p,ys,rfl,hq,q⟩:=h;obtain⟨u,rfl,rx⟩:=vals1 r;cases rx
 have fin:∀(its:List Hq),de ys its->ys.length<=sizeLine->∀(h':Heap)(c':Nat),(∀b o',s.heap.get? b=some o'->h'.get? b=some o') ->
  h'.get? s.heap.objs.size=some {cls:=.type "list", dict:=none,data:=.seq its.toArray c',slots:=#[]}->EP X pins σ Q (.ref s.heap.objs.size) {s with heap:=h' }:=fun its r' hz h' c' kp e =>
  ⟨.ref s.heap.objs.size,_,I.laid (t':=s.toks) kp (Hw _) (show cZ X.prog X.w _ h' _ (.lst ys)from⟨hz,its,c',r',e⟩),rfl,q _ (I.hok.fresh (Hw _))⟩
 rcases hq with hq|hq
 · obtain⟨its,r',pl,hz⟩:=I.list hq;have hlen:=r'.length;obtain⟨o,ho,hc,n,hd⟩:=pl.isList;exact call_list_seq p (.inl rfl) ho hc hd (fun h' c' kp e=>fin its r' hz h' c' kp e) (by simp only[HL]<;>omega)
 · obtain⟨its,r',pl,hz⟩:=I.tuple hq;have hlen:=r'.length;obtain⟨o,ho,hc,n,hd⟩:=pl;exact call_list_seq p (.inr rfl) ho hc hd (fun h' c' kp e=>fin its r' hz h' c' kp e) (by simp only[HL]<;>omega)
theorem fD:fG X (.type "tuple") (fun xs H Q=>∃p ys,xs=[.ref p]/\((Gq X.K H p ys/\∀l,H l=none->Q (.ref l) (Ex H l (.tup ys)))\/(Gp X.K H p ys/\Q (.ref p) H))):=by
 intro pins s σ H xs us Q I r h;obtain⟨p,ys,rfl,h⟩:=h;obtain⟨u,rfl,rx⟩:=vals1 r;cases rx;rcases h with⟨hq,q⟩|⟨hq,q⟩
 · obtain⟨its,r',pl,hz⟩:=I.list hq;have hlen:=r'.length;refine call_tuple_list pl.isList (fun h' kp=>?_) (by simp only[HL]<;>omega);have I1:Inv X pins σ H {s with heap:=h' }:=I.kept (t':=s.toks) kp
   have I2:Inv X pins σ (Ex H h'.objs.size (.tup ys)) {s with heap:=h'.push {cls:=.type "tuple", data:=.seq its.toArray}} :=
    I1.laid (t':=s.toks) (fun b o e=>Hu _ e) (Hw _) (show cZ X.prog X.w _ _ _ (.tup ys)from⟨hz,its,r',rb.new _ _⟩)
   exact⟨.ref h'.objs.size,_,I2,rfl,q _ (I1.hok.fresh (Hw _))⟩
 · obtain⟨its,r',pl,hz⟩:=I.tuple hq;exact call_tuple_same pl ⟨.ref p,H,I,rfl,q⟩
noncomputable def EB(K:W.Frag)(T:String)(x:V)(H:Hp):Prop:=match x with
 | .str _=>T = "str"
 | .int _=>T = "int"
 | .ref p=>(T = "list" /\ ∃xs,Gq K H p xs)\/(T = "tuple" /\ ∃xs,Gp K H p xs) \/
     (T = "dict" /\ ((∃kvs,H p=some (.dK kvs))\/∃kvs,H p=some (.dT kvs)))\/(T = "set" /\ ∃S n,H p=some (.set S n))
 | _=>False
theorem xT{s:Ht}{T:String}{x:V}{v:Hq}(I:Inv X pins σ H s)(r:RelV x v)(ty:EB X.K T x H) :
 s.TypeIs v T/\∀a,v = .ref a->∃ob,s.heap.get? a=some ob/\ob.dict=none:=by
 cases x with
 | str z =>
   obtain⟨t,rfl⟩:=r;cases(show T = "str" from ty)
   exact⟨typeIs_str s z t,fun _ e=>nomatch e⟩
 | int i =>
   obtain⟨t,rfl⟩:=r;cases(show T = "int" from ty)
   exact⟨typeIs_int s i t,fun _ e=>nomatch e⟩
 | ref p =>
   cases r;rcases ty with⟨rfl,xs,hq⟩|⟨rfl,xs,hq⟩|⟨rfl,hk⟩|⟨rfl,S,n,hk⟩
   · obtain⟨its,_,pl,_⟩:=I.list hq;refine⟨pl.isList.typeIs,fun a e=>?_⟩;cases e;obtain⟨o,n,e,c,hd,_⟩:=pl;exact⟨o,e,hd⟩
   · obtain⟨o,e1,e2,e3⟩:=I.tupleD hq;refine⟨⟨o,e1,e2⟩,fun a e=>?_⟩;cases e;exact⟨o,e1,e3⟩
   · have z:∃o,s.heap.get? p=some o/\o.ExactDict:=by
       rcases hk with⟨kvs,hk⟩|⟨kvs,hk⟩
       · obtain⟨_,_,_,_,o,_,_,e,ex,_⟩:=I.hok p _ hk;exact⟨o,e,ex⟩
       · obtain⟨_,_,_,_,o,_,_,e,ex,_⟩:=I.hok p _ hk;exact⟨o,e,ex⟩
     obtain⟨o,e,ex⟩:=z;refine⟨⟨o,e,ex.1⟩,fun a e2=>?_⟩;cases e2;exact⟨o,e,ex.2.1⟩
   · obtain⟨o,_,_,_,e,ex,_⟩:=I.hok p _ hk;refine⟨⟨o,e,ex.1⟩,fun a e2=>?_⟩;cases e2
     exact⟨o,e,ex.2.1⟩
 | _=>exact Jk ty
noncomputable def ER(K:W.Frag)(T:String)(r:V->List V->Hp->VK->Prop)(to:TE)(t:TA):TE:=fun σ H Q=>to σ H fun x H1=>EB K T x H1/\t σ H1 fun xs H2=>r x xs H2 Q
variable{o e:Expr}{es:List Expr}{to:TE}{t:TA}{name:Str}{apos cpos:Pos}{T id:String}{r:V->List V->Hp->VK->Prop}
theorem yI(pa:PlainAttrs T)(slot:Slot T name id)(hty:typeOf (.builtin id)=pure (.type "method_descriptor"))(hm:GN X id r)(ho:PE X o to)(ha:PA X (e::es) t)
 (hbase:autoParam (Kw o name X.env (eval o X.env)=eval o X.env) æa._auto_1)
 (hfew:autoParam (((Jl cpos (HA (e::es) X.env)).all (fun x=>!x.1)&&(M5 cpos (Lf [] X.env)).all (fun x=>x.1.isSome)
  && decide ((e::es).length+([]:List KW).length+(if([]:List KW).isEmpty then 0 else 1)<30))=true) æa._auto_1)
 (hline:autoParam ((apos.endLine==cpos.line)=true) æa._auto_1)(hs:autoParam (HA (e::es) X.env=(false,eval e X.env)::HA es X.env) æa._auto_1)(hplain:autoParam ((Jl cpos (HA es X.env)).any (·.1)=false) æa._auto_1) :
 PE X (.Call (.Attribute o name apos) (e::es) [] cpos) (ER X.K T r to t):=by
 intro pins s σ H Q I h;refine wpAny_Call_method_late hbase hfew hline rfl (EH (ho pins s σ H _ I h) fun v s1 ⟨x,H1,I1,r1,ty,q1⟩=>?_);obtain⟨h1,h2⟩:=xT I1 r1 ty;refine⟨T,id,pa,slot,hty,h1,h2,?_⟩;have hA:=ha cpos pins s1 σ H1 _ I1 q1;rw[hs]at hA ⊢;refine Mx (by show(false||(Jl cpos (HA es X.env)).any (·.1))=false;rw[hplain]<;>rfl) (M8 ?_);exact EH hA fun us s2 ⟨vs,H2,I2,r2,q2⟩=>hm pins s2 σ H2 x vs v us Q I2 r1 r2 q2
end
noncomputable def GO(X:Cx)(id:String)(r:V->List V->Hp->VK->Prop):Prop :=
 ∀ (pins:List (Addr×Obj))(s:Ht)(σ:St)(H:Hp)(x:V)(xs:List V)(v:Hq)(us:List Hq)(Q:VK),Inv X pins σ H s->RelV x v->de xs us->r x xs H Q ->
   HP (Ib X.prog X.w) X.A (call (.builtin id) (v::us)) (EP X pins σ Q) X.xe s
theorem de.one:∀{x:V}{us:List Hq},de [x] us->∃u,us=[u]/\RelV x u
 | _,_,.cons r .nil=>⟨_,rfl,r⟩
theorem de.reverse{xs:List V}(h:de xs us):de xs.reverse us.reverse:=by
 induction h with
 | nil=>exact .nil
 | cons r t ih=>rw[Lg,Lg];exact de.append ih (.cons r .nil)
theorem de.rep{xs:List V}{us:List Hq}(h:de xs us):∀k:Nat,de (HB k xs).flatten (HB k us).flatten
 | 0=>.nil
 | k+1=>by
   rw[Jg,Jg,J8,J8];exact de.append h (de.rep h k)
theorem foldl_rep(its:List Hq):∀(k:Nat)(acc:List Hq),
 KQ (fun x1 x2=>x1++x2) acc.toArray (HB k its.toArray)=(acc++(HB k its).flatten).toArray
 | 0,acc=>by simp
 | k+1,acc=>by
   have e:acc.toArray++its.toArray=(acc++its).toArray:=by simp
   have e2:(acc++its)++(HB k its).flatten=acc++(HB (k+1) its).flatten:=by
    rw[Jg,J8,L9]
   rw[<- e2,<- foldl_rep its k (acc++its),<- e,Jg,IH]
section
variable{X:Cx}{pins:List (Addr×Obj)}{σ:St}{H:Hp}{s:Ht}{l b:Addr}{xs ys zs:List V}
theorem Inv.lset{its its':List Hq}{f:Array Hq->Array Hq}(I:Inv X pins σ H s)(hH:H l=some (.lst xs))
 (e:s.heap.get? l=some {cls:=.type "list", data:=.seq its.toArray n})(hf:f its.toArray=its'.toArray)(hv:de ys its')(hz:ys.length<=sizeLine) :
 Inv X pins σ (Ex H l (.lst ys)) {s with heap:=s.heap.update l (Obj.mapSeq f),toks:=t' }:=by
 have q:=PySem.IsL.update e f;rw[hf]at q;refine I.write (x:=l) (e:=l) (by rw[hH];exact trivial) (.inl rfl) (fun b' u hb hu=>(Heap.get?_update_other s.heap (Obj.mapSeq f) (Me hb)).trans hu) ⟨_,q⟩ ?_;exact⟨hz,its',_,hv,q⟩
theorem Inv.lnew{its:List Hq}(I:Inv X pins σ H s)(hv:de ys its)(hz:ys.length<=sizeLine) :
 Inv X pins σ (Ex H s.heap.objs.size (.lst ys)) {s with heap:=s.heap.push {cls:=.type "list", data:=.seq its.toArray},toks:=t' } :=
 I.laid (fun _ _ q=>Hu _ q) (Hw _) ⟨hz,its,0,hv,HK _ rfl⟩
theorem Inv.fresh(I:Inv X pins σ H s):H s.heap.objs.size=none:=I.hok.fresh (Hw _)
theorem Inv.lstM(I:Inv X pins σ H s)(hH:H l=some (.lst xs)):xs.length<=sizeLine/\∃(its:List Hq)(n:Nat),de xs its/\xs.length=its.length/\s.heap.get? l=some {cls:=.type "list", data:=.seq its.toArray n}:=by
 obtain⟨z,its,n,r,e⟩:=I.hok l _ hH;exact⟨z,its,n,r,r.length,e⟩
end
section
variable{X:Cx}
noncomputable def oZ:V->List V->Hp->VK->Prop:=fun x vs H Q=>∃l xs y,x = .ref l/\vs=[y]/\H l=some (.lst xs)/\xs.length<sizeLine/\Q .non (Ex H l (.lst (xs++[y])))
theorem e8:GO X "list.append" oZ:=by
 intro pins s σ H x vs v us Q I rx rv h;obtain⟨l,xs,y,rfl,rfl,hH,hz,q⟩:=h;cases rx;obtain⟨u,rfl,ru⟩:=rv.one;obtain⟨z,its,n,r,hl,e⟩:=I.lstM hH;refine NJ F.slot_list_append ⟨_,e,rfl⟩ F.entry_list_append (F.args_list_append_2 _ _) (PySem.list_append l its.toArray n u (by rw[HL];omega)) ⟨e,?_⟩;refine⟨.non,_,I.lset (its':=its++[u]) hH e (by simp) (r.append (.cons ru .nil)) ?_,rfl,q⟩;rw[HS,JX];omega
noncomputable def C1:R2:=fun x y H Q=>∃l b xs zs,x = .ref l/\y = .ref b/\H l=some (.lst xs)/\H b=some (.lst zs)/\xs.length+zs.length<=sizeLine/\∀p,H p=none->Q (.ref p) (Ex H p (.lst (xs++zs)))
theorem yO:GL X (Ka .Add) C1:=by
 intro pins s σ H x y v u Q I rx ry h;obtain⟨l,b,xs,zs,rfl,rfl,hH,hB,hz,q⟩:=h;cases rx;cases ry;obtain⟨z,its,n,r,hl,e⟩:=I.lstM hH;obtain⟨z2,its2,n2,r2,hl2,e2⟩:=I.lstM hB;refine PySem.P.add_list e e2 ?_ (by rw[HL,HL];omega);have ea:its.toArray++its2.toArray=(its++its2).toArray:=by simp
 rw[ea];exact⟨.ref _,_,I.lnew (t':=s.toks) (r.append r2) (by rw[HS];omega),rfl,q _ I.fresh⟩
theorem wg(xs:List α)(k:Nat):(HB k xs).flatten.length=k*xs.length:=by
 induction k with
 | zero=>simp
 | succ k ih=>rw[Jg,J8,HS,ih,NS,Nat.add_comm]
end
section
variable{prog:HV}{w:IF}{A:IM}{E:Hq->Ht->Prop}{s:Ht}
end
section
variable{X:Cx}
end
section
variable{κ:Type}[DecidableEq κ]
noncomputable def jv(kvs:List (κ×V))(k:κ):Option V:=(kvs.find? fun kv=>decide (kv.1=k)).map (·.2)
noncomputable def ic(kvs:List (κ×V))(k:κ)(v:V):List (κ×V) :=
 if(kvs.any fun kv=>decide (kv.1=k))=true then kvs.map (fun kv=>if kv.1=k then(kv.1,v)else kv)else kvs++[(k,v)]
theorem d4{p:κ×V}{r:List (κ×V)}{k:κ}(e:p.1=k):jv (p::r) k=some p.2:=by simp[jv,Jo,e]
theorem iI{p:κ×V}{r:List (κ×V)}{k:κ}(e:¬p.1=k):jv (p::r) k=jv r k:=by simp[jv,Jo,e]
theorem lP(k:κ):∀kvs:List (κ×V),(kvs.any fun kv=>decide (kv.1=k))=(jv kvs k).isSome
 | []=>rfl
 | p::r=>by
   rw[K1];by_cases e:p.1=k
   · simp only[d4 e,decide_eq_true e,Bool.true_or,Option.isSome_some]
   · rw[iI e,decide_eq_false e,Bool.false_or];exact lP k r
theorem eM(kvs:List (κ×V))(k:κ)(v:V):(ic kvs k v).length<=kvs.length+1:=by
 unfold ic;split
 · rw[Hs];omega
 · rw[HS,Il,MI];omega
theorem wZ.isSome_eq{o:Option V}{u:Option Hq}(r:wZ o u):o.isSome=u.isSome:=by
 cases o with
 | none=>cases u with
   | none=>rfl
   | some _=>exact(show False from r).elim
 | some _=>cases u with
   | none=>exact(show False from r).elim
   | some _=>rfl
theorem KV.val{kvs:List (κ×V)}{vs:List (κ×Hq)}(r:KV kvs vs)(k:κ):wZ (jv kvs k) (NK vs k):=by
 unfold KV at r
 induction r with
 | nil=>exact Lh
 | @cons p q ps qs h t ih =>
   obtain⟨h1,h2⟩:=h;by_cases e:p.1=k
   · have e':q.1=k:=h1.symm.trans e;have b:NK (q::qs) k=some q.2:=by simp[NK,Jo,e']
     rw[d4 e,b];exact h2
   · have e':¬q.1=k:=fun z=>e (h1.trans z);have b:NK (q::qs) k=NK qs k:=by simp[NK,Jo,e']
     rw[iI e,b];exact ih
theorem KV.any{kvs:List (κ×V)}{vs:List (κ×Hq)}(r:KV kvs vs)(k:κ):(kvs.any fun kv=>decide (kv.1=k))=vs.any fun kv=>decide (kv.1=k):=by
 unfold KV at r
 induction r with
 | nil=>rfl
 | cons h t ih=>rw[K1,K1,ih,h.1]
theorem KV.repl{kvs:List (κ×V)}{vs:List (κ×Hq)}(r:KV kvs vs)(k:κ){y:V}{u:Hq}(ry:RelV y u) :
 KV (kvs.map fun kv=>if kv.1=k then(kv.1,y)else kv) (vs.map fun kv=>if kv.1=k then(kv.1,u)else kv):=by
 unfold KV at r ⊢
 induction r with
 | nil=>exact .nil
 | @cons p q ps qs h t ih =>
   rw[HE,HE];refine .cons ?_ ih;obtain⟨h1,h2⟩:=h;by_cases e:p.1=k
   · rw[if_pos e,if_pos (h1.symm.trans e)];exact⟨h1,ry⟩
   · rw[if_neg e,if_neg (fun z=>e (h1.trans z))];exact⟨h1,h2⟩
theorem KV.put{kvs:List (κ×V)}{vs:List (κ×Hq)}(r:KV kvs vs)(k:κ){y:V}{u:Hq}(ry:RelV y u):KV (ic kvs k y) (stored vs k u):=by
 unfold ic stored;rw[r.any k];by_cases e:(vs.any fun kv=>decide (kv.1=k))=true
 · rw[if_pos e,if_pos e];exact r.repl k ry
 · rw[if_neg e,if_neg e];exact N8 r ⟨rfl,ry⟩
theorem KV.length{kvs:List (κ×V)}{vs:List (κ×Hq)}(r:KV kvs vs):kvs.length=vs.length:=Jt r
end
theorem sF{k:GP}{u:Hq}(r:RelV (kV k) u):(cA P w).is k u=true:=by
 cases k with
 | inl i=>obtain⟨t,e⟩:=(show ∃t,u=MF i t from r);subst e;exact lb P w i t
 | inr x=>obtain⟨t,e⟩:=(show ∃t,u=N5 x t from r);subst e;exact k_ P w x t
theorem jS{P:HV}{w:IF}:∀{ks:List GP}{us:List Hq},de (ks.map kV) us->ItemsAre (cA P w) ks us
 | [],_,r=>by rw[Jr]at r;cases r;exact .nil
 | k::ks,_,r=>by
   rw[HE]at r
   cases r with
   | cons h t=>exact .cons (sF h) (jS t)
abbrev KT(H:Hp):List (List GP×V)->List (List GP×Addr×Hq)->Prop:=Jc fun p q=>p.1=q.1/\H q.2.1=some (.tup (p.1.map kV))/\RelV p.2 q.2.2
theorem KT.val{kvs:List (List GP×V)}{xs:List (List GP×Addr×Hq)}(r:KT H kvs xs)(k:List GP):wZ (jv kvs k) ((MJ xs k).map (·.2)):=by
 induction r with
 | nil=>exact Lh
 | @cons p q ps qs h t ih =>
   obtain⟨h1,_,h2⟩:=h;by_cases e:p.1=k
   · have e':q.1=k:=h1.symm.trans e;have b:MJ (q::qs) k=some q.2:=by simp[MJ,Jo,e']
     rw[d4 e,b];exact h2
   · have e':¬q.1=k:=fun z=>e (h1.trans z);have b:MJ (q::qs) k=MJ qs k:=by simp[MJ,Jo,e']
     rw[iI e,b];exact ih
theorem KT.repl{kvs:List (List GP×V)}{xs:List (List GP×Addr×Hq)}(r:KT H kvs xs)(k:List GP){y:V}{u:Hq}(ry:RelV y u) :
 KT H (kvs.map fun kv=>if kv.1=k then(kv.1,y)else kv) (xs.map (putAt k u)):=by
 induction r with
 | nil=>exact .nil
 | @cons p q ps qs h t ih =>
   rw[HE,HE];refine .cons ?_ ih;obtain⟨h1,h2,h3⟩:=h;unfold putAt;by_cases e:p.1=k
   · rw[if_pos e,if_pos (h1.symm.trans e)];exact⟨h1,h2,ry⟩
   · rw[if_neg e,if_neg (fun z=>e (h1.trans z))];exact⟨h1,h2,h3⟩
theorem KT.put{kvs:List (List GP×V)}{xs:List (List GP×Addr×Hq)}(r:KT H kvs xs)(k:List GP){b:Addr}{y:V}{u:Hq}(hb:H b=some (.tup (k.map kV)))(ry:RelV y u) :
 KT H (ic kvs k y) (Mi xs k b u):=by
 have e:(kvs.any fun kv=>decide (kv.1=k))=(MJ xs k).isSome:=by
  rw[lP,(r.val k).isSome_eq,Option.isSome_map]
 unfold ic Mi;rw[e];by_cases q:(MJ xs k).isSome=true
 · rw[if_pos q,if_pos q];exact r.repl k ry
 · rw[if_neg q,if_neg q];exact N8 r ⟨rfl,hb,ry⟩
theorem KT.keeps{kvs:List (List GP×V)}{xs:List (List GP×Addr×Hq)}(r:KT H kvs xs)(ht:∀b ys,H b=some (.tup ys)->H' b=some (.tup ys)):KT H' kvs xs :=
 Jc.mapP r fun _ _ z=>⟨z.1,ht _ _ z.2.1,z.2.2⟩
section
variable{P:HV}{w:IF}{H:Hp}{h:Heap}{a:Addr}
theorem yl{u:HO}(ok:G0 P w H h)(e:Rd H a u):cZ P w H h a u:=e.ok ok
theorem wE{kvs:List (GP×V)}(ok:G0 P w H h)(e:Rd H a (.dK kvs)):kvs.length<=sizeLine/\(a==JK)=false/\∃vs,KV kvs vs/\h.DictOf (cA P w) a vs :=
 show cZ P w H h a (.dK kvs)from yl ok e
theorem zx{kvs:List (GP×V)}(ok:G0 P w H h)(e:H a=some (.dK kvs)):kvs.length<=sizeLine/\(a==JK)=false/\∃vs,KV kvs vs/\h.DictOf (cA P w) a vs:=wE ok (.inl e)
theorem pR{ks:List GP}(ok:G0 P w H h)(e:H a=some (.tup (ks.map kV))):(J4 (cA P w)).is h ks a:=by
 obtain⟨_,its,r,o,h1,h2,⟨n,h3⟩,_⟩:=(show cZ P w H h a (.tup (ks.map kV))from ok a _ e);exact⟨o,its.toArray,n,h1,h2,h3,by simpa using jS r⟩
theorem wD{kvs:List (List GP×V)}(ok:G0 P w H h)(e:Rd H a (.dT kvs)):kvs.length<=sizeLine/\(a==JK)=false /\
 ∃xs,KT H kvs xs/\h.DictOfH (J4 (cA P w)) a xs:=by
 obtain⟨z,y,xs,r,o,es,ep,h1,h2,h3,h4,h5⟩:=(show cZ P w H h a (.dT kvs)from yl ok e);refine⟨z,y,xs,r,o,es,ep,h1,h2,h3,h4,fun x hx=>?_,h5⟩
 have all:∀{l:List (List GP×V)}{m:List (List GP×Addr×Hq)},KT H l m->∀x∈m,(J4 (cA P w)).is h x.1 x.2.1:=by
  intro l m q
  induction q with
  | nil=>intro x hx;exact nomatch hx
  | @cons p q ps qs hq t ih =>
    intro x hx;rcases Ic.mp hx with e|hx
    · subst e;exact pR ok (by rw[<- hq.1];exact hq.2.1)
    · exact ih x hx
 exact all r x hx
theorem Bq{kvs:List (List GP×V)}(ok:G0 P w H h)(e:H a=some (.dT kvs)):kvs.length<=sizeLine/\(a==JK)=false /\
 ∃xs,KT H kvs xs/\h.DictOfH (J4 (cA P w)) a xs:=wD ok (.inl e)
end
noncomputable def Ag(H:Hp)(a:Addr)(y:V)(r:Option V):Prop :=
 (∃kvs k,Rd H a (.dK kvs)/\y=kV k/\r=jv kvs k)\/∃kvs k b,Rd H a (.dT kvs)/\y = .ref b/\H b=some (.tup (k.map kV))/\r=jv kvs k
noncomputable def BF(H:Hp)(a:Addr)(y v:V)(H':Hp):Prop :=
 (∃kvs k,H a=some (.dK kvs)/\y=kV k/\kvs.length<sizeLine/\H'=Ex H a (.dK (ic kvs k v))) \/
 ∃kvs k b,H a=some (.dT kvs)/\y = .ref b/\H b=some (.tup (k.map kV))/\kvs.length<sizeLine/\H'=Ex H a (.dT (ic kvs k v))
theorem Ag.k{H:Hp}{a:Addr}{kvs:List (GP×V)}{k:GP}(e:H a=some (.dK kvs)):Ag H a (kV k) (jv kvs k):=.inl ⟨kvs,k,.inl e,rfl,rfl⟩
theorem BF.k{H:Hp}{a:Addr}{kvs:List (GP×V)}{k:GP}{v:V}(e:H a=some (.dK kvs))(hl:kvs.length<sizeLine):BF H a (kV k) v (Ex H a (.dK (ic kvs k v))):=.inl ⟨kvs,k,e,rfl,hl,rfl⟩
section
variable{X:Cx}{pins:List (Addr×Obj)}{σ:St}{H:Hp}{s:Ht}{a:Addr}{y v:V}{u r:Hq}{o:Option V}{A:IM}{E:Hq->Ht->Prop}
theorem Inv.big(I:Inv X pins σ H s):JK<s.heap.objs.size:=by
 have h:IG<s.heap.objs.size:=(I.mod.glob.keeps I.bk).lt;exact Nat.lt_trans (by decide) h
theorem qA(hu:A.units+1<LM)(I:Inv X pins σ H s)(g:Ag H a y (some v))(ry:RelV y u)(h:∀w' s',Inv X pins σ H s'->RelV v w'->Q w' s') :
 HP (Ib X.prog X.w) A (LG (.ref a) u) Q E s:=by
 rcases g with⟨kvs,k,e,ey,l⟩|⟨kvs,k,b,e,ey,eb,l⟩
 · subst ey;obtain⟨z,hd,vs,rel,dd⟩:=wE I.hok e;obtain⟨w',hw,rw'⟩:=wZ.some_of (v:=v) (o:=NK vs k) (by rw[l];exact rel.val k);exact wpAny_getItem_of (sF ry) dd.mapOf hw (h w' _ (I.tok _) rw')
 · subst ey;cases(show u=Jd b from ry);obtain⟨z,hd,xs,rel,dd⟩:=wD I.hok e;obtain⟨w',hw,rw'⟩:=wZ.some_of (v:=v) (o:=(MJ xs k).map (·.2)) (by rw[l];exact rel.val k);obtain⟨p,hp,hp2⟩:=Kl.mp hw;refine wpAny_getItem_heap (K3 hu) (pR I.hok eb) dd hp ?_;rw[hp2];exact h w' _ (I.tok _) rw'
theorem gR{ob:HO}(I:Inv X pins σ H s)(mu:GM (H a))(hs:JQ a s.heap h')(he:∃q,h'.get? a=some q)(new:cZ X.prog X.w (Ex H a ob) h' a ob) :
 Inv X pins σ (Ex H a ob) {s with heap:=h',toks:=t' } :=
 I.write (x:=a) (e:=a) mu (.inl rfl) (fun b q hb z=>(hs.2 b hb).trans z) he new
theorem dk_new{kvs:List (GP×V)}{vs:List (GP×Hq)}(z:kvs.length<=sizeLine)(hd:(a==JK)=false)(rel:KV kvs vs)(dd:h'.DictOf (cA P w) a vs) :
 cZ P w H' h' a (.dK kvs):=⟨z,hd,vs,rel,dd⟩
theorem qy{Q:Unit->Ht->Prop}(hu:A.units+1<LM)(I:Inv X pins σ H s)(g:BF H a y v H')(ry:RelV y u)(rv:RelV v r)(h:∀s',Inv X pins σ H' s'->Q () s') :
 HP (Ib X.prog X.w) A (setItem (.ref a) u r) Q E s:=by
 rcases g with⟨kvs,k,e,ey,l,eH⟩|⟨kvs,k,b,e,ey,eb,l,eH⟩
 · subst ey eH;obtain⟨z,hd,vs,rel,dd⟩:=zx I.hok e;have hz:vs.length<=sizeLine:=by rw[<- rel.length];exact z
   have hl:(ic kvs k v).length<=sizeLine:=by have:=eM kvs k v;omega
   refine wpAny_setItem_pairs (hsz:=hz) (sF ry) dd fun h' dd' hs=>h _ ?_;have he:∃q,h'.get? a=some q:=let ⟨q,_,_,hq,_⟩:=dd';⟨q,hq⟩
   exact gR I (by rw[e];exact Lh) hs he (dk_new hl hd (rel.put k rv) dd')
 · subst ey eH;cases(show u=Jd b from ry);obtain⟨z,hd,xs,rel,dd⟩:=Bq I.hok e;have hz:xs.length<=sizeLine:=by rw[<- Jt rel];exact z
   have hl:(ic kvs k v).length<=sizeLine:=by have:=eM kvs k v;omega
   refine wpAny_setItem_heap (hsz:=hz) (K3 hu) (pR I.hok eb) dd fun h' dd' hs=>h _ ?_;obtain⟨q,es,ep,hq,h2,h3,h4,_,h5⟩:=dd';refine gR I (by rw[e];exact Lh) hs ⟨q,hq⟩ ⟨hl,hd,_,(rel.put k eb rv).keeps fun c ys ec=>?_,q,es,ep,hq,h2,h3,h4,h5⟩;rw[ar (A7 ec e (fun z=>nomatch z))];exact ec
end
section
variable{X:Cx}{pins:List (Addr×Obj)}{σ:St}{H:Hp}{s:Ht}{a:Addr}{kvs:List (GP×V)}{k:GP}{u:Hq}{A:IM}{E:Hq->Ht->Prop}
end
noncomputable def uz(i:Expr):Prop:=∀ov iv,Nl i false ov iv=operate [ov,iv] (LG ov iv)
theorem oH{prog:HV}{s:Ht}{env:Env}{value slice:Expr}{T id:String}
 (hl:typeLookup (.type T) "__getitem__" = pure (some (.builtin id)))(hs:uz slice)
 (h:HP (Ib prog w) A (eval value env) (fun o s₁=>HP (Ib prog w) A (eval slice env) (fun i s₂=>s₂.TypeIs o T/\HP (Ib prog w) A (LG o i) Q E s₂) E s₁) E s) :
 HP (Ib prog w) A (eval (.Subscript value slice pos) env) Q E s:=by
 refine NH (Im h (fun o s₁ h₁=>Im h₁ (fun i s₂ h₂=>?_) fun _ _ x=>x) fun _ _ x=>x);obtain⟨hT,h₂⟩:=h₂;unfold Nz;refine Hl ?_;rw[getitemInPython_of_ne hT.not_modules];refine Hl (wpAny_specialOf hT hl ?_)
 have fin:HP (Ib prog w) A (Nl slice false o i) (fun r s₃=>HP (Ib prog w) A (letTemporaryGo value o r >>= fun _=>pure r) Q E s₃) E s₂:=by
  rw[hs o i];exact wpAny_operating (Im h₂ (fun r s₃ h₃=>Hl (wpAny_letTemporaryGo (Hn h₃))) fun _ _ x=>x)
 first
  | exact Hn (Hl fin)
  | exact Hl (Hn (Hl fin))
  | exact Hl fin
theorem lr{s:Ht}{y:V}{o:Option V}(I:Inv X pins σ H s)(g:Ag H a y o):s.TypeIs (.ref a) "dict" := by
 rcases g with⟨kvs,k,e,_,_⟩|⟨kvs,k,b,e,_,_,_⟩
 · obtain⟨_,_,vs,_,dd⟩:=wE I.hok e;exact dd.typeIs
 · obtain⟨_,_,xs,_,dd⟩:=wD I.hok e;exact dd.typeIs
noncomputable def AQ(td ty:TE):TE:=fun σ H Q=>td σ H fun x H1=>ty σ H1 fun y H2=>∃a v,x = .ref a/\Ag H2 a y (some v)/\Q v H2
noncomputable def AT(td ty tv:TE):TS:=fun D σ H=>tv σ H fun v H1=>td σ H1 fun x H2=>ty σ H2 fun y H3=>∃a H4,x = .ref a/\BF H3 a y v H4/\D.nx σ H4
section
variable{X:Cx}{o i e value:Expr}{pos pos' tpos:Pos}{td ty tv:TE}
theorem kZ(hu:X.A.units+1<LM)(ho:PE X o td)(hi:PE X i ty)(hs:uz i):PE X (.Subscript o i pos) (AQ td ty):=by
 intro pins s σ H Q I h;refine oH LY.lookup hs (EH (ho pins s σ H _ I h) fun u s1 ⟨x,H1,I1,rx,q1⟩=>EH (hi pins s1 σ H1 _ I1 q1) fun iv s2 ⟨y,H2,I2,ry,a,v,ex,g,q2⟩=>?_);subst ex;obtain rfl:u=Jd a:=rx;exact⟨lr I2 g,qA hu I2 g ry fun w' s3 I3 rw'=>⟨v,H2,I3,rw',q2⟩⟩
theorem pj(hu:X.A.units+1<LM)(ho:PE X o td)(hi:PE X i ty)(hv:PE X value tv)(hs:Ju value (some (.Subscript o i pos')) pos.line X.env=pure false) :
 PS X (.Assign [.Subscript o i pos'] value pos) (AT td ty tv):=by
 intro pins s σ H D I h;refine wpAny_Assign_Subscript (EH (hv pins s σ H _ I h) fun r s1 ⟨v,H1,I1,rv,q1⟩=>EH (ho pins s1 σ H1 _ I1 q1) fun u s2 ⟨x,H2,I2,rx,q2⟩=>EH (hi pins s2 σ H2 _ I2 q2) fun iv s3 ⟨y,H3,I3,ry,a,H4,ex,g,q3⟩=>?_) hs;subst ex;obtain rfl:u=Jd a:=rx;exact qy hu I3 g ry rv fun s4 I4=>⟨σ,H4,I4,q3⟩
end
theorem sW(h:Heap)(hb:JK<h.objs.size):cZ P w H (h.push {cls:=.type "dict", data:=.dict #[]}) h.objs.size (.dK []) :=
 ⟨II _,beq_eq_false_iff_ne.mpr (Me (Io hb)),[],.nil,Heap.DictOf.new h⟩
section
variable{X:Cx}{pos:Pos}
end
noncomputable def oB:List (TE×TE)->St->Hp->(List (V×V)->Hp->Prop)->Prop
 | [],_,H,Q=>Q [] H
 | (tk,tv)::r,σ,H,Q=>tk σ H fun x H1=>tv σ H1 fun y H2=>oB r σ H2 fun ps H3=>Q ((x,y)::ps) H3
abbrev VV:List (V×V)->List (Hq×Hq)->Prop:=Jc fun p q=>RelV p.1 q.1/\RelV p.2 q.2
noncomputable def GE(X:Cx)(pos:Pos)(keys:List (Option Expr))(values:List Expr)(trs:List (TE×TE)):Prop :=
 ∀ (pins:List (Addr×Obj))(s:Ht)(σ:St)(H:Hp)(Q:List (V×V)->Hp->Prop),Inv X pins σ H s->oB trs σ H Q ->
   HP (Ib X.prog X.w) X.A (evalPairs (pairTrees keys values X.env pos)) (fun vs s'=>∃ps H',Inv X pins σ H' s'/\VV ps vs/\Q ps H') X.xe s
theorem vJ:GE X pos [] [] []:=fun pins s σ H Q I h=>pairTrees_nil_walk ⟨[],H,I,.nil,h⟩
theorem ja{k v:Expr}{ks:List (Option Expr)}{vs:List Expr}{tk tv:TE}{trs:List (TE×TE)}(hk:PE X k tk)(hv:PE X v tv)(hr:GE X pos ks vs trs) :
 GE X pos (some k::ks) (v::vs) ((tk,tv)::trs):=fun pins s σ H Q I h =>
 pairTrees_cons_walk (EH (hk pins s σ H _ I h) fun u s1 ⟨x,H1,I1,rx,q1⟩=>EH (hv pins s1 σ H1 _ I1 q1) fun w2 s2 ⟨y,H2,I2,ry,q2⟩ =>
  EH (hr pins s2 σ H2 _ I2 q2) fun ws s3 ⟨ps,H3,I3,rel,q3⟩=>⟨(x,y)::ps,H3,I3,.cons ⟨rx,ry⟩ rel,q3⟩)
noncomputable def gK(kvs more:List (GP×V)):List (GP×V):=more.foldl (fun acc kv=>ic acc kv.1 kv.2) kvs
theorem KV.merge:∀{more:List (GP×V)}{rs:List (GP×Hq)}{kvs:List (GP×V)}{vs:List (GP×Hq)},KV more rs->KV kvs vs->KV (gK kvs more) (merged vs rs):=by
 intro more rs kvs vs r;unfold KV at r
 induction r generalizing kvs vs with
 | nil=>intro q;exact q
 | @cons p q ps qs h t ih =>
   intro r0
   have e:KV (ic kvs p.1 p.2) (stored vs q.1 q.2):=by
    have:=r0.put p.1 h.2;rw[<- h.1];exact this
   exact ih e
theorem fg:∀(more kvs:List (GP×V)),(gK kvs more).length<=kvs.length+more.length
 | [],kvs=>by show kvs.length<=kvs.length+0;omega
 | p::r,kvs=>by
   have h1:=fg r (ic kvs p.1 p.2);have h2:=eM kvs p.1 p.2;show(gK (ic kvs p.1 p.2) r).length<=_;rw[Il];omega
theorem iB{P:HV}{w:IF}:∀{kvs:List (GP×V)}{ws:List (Hq×Hq)},VV (kvs.map fun kv=>(kV kv.1,kv.2)) ws->∃rs,Carries (cA P w) ws rs/\KV kvs rs
 | [],_,r=>by rw[Jr]at r;cases r;exact⟨[],Lh,.nil⟩
 | p::kvs,_,r=>by
   rw[HE]at r
   cases r with
   | @cons a b as bs h t =>
     obtain⟨rs,c,q⟩:=iB (P:=P) (w:=w) t;obtain⟨b1,b2⟩:=b;exact⟨(p.1,b2)::rs,⟨sF h.1,rfl,c⟩,.cons ⟨rfl,h.2⟩ q⟩
noncomputable def AO(trs:List (TE×TE)):TE:=fun σ H Q=>∀p,H p=none->oB trs σ (Ex H p (.dK [])) fun ps H2=>H2 p=some (.dK [])/\∃kvs:List (GP×V),ps=kvs.map (fun kv=>(kV kv.1,kv.2))/\kvs.length<=15/\Q (.ref p) (Ex H2 p (.dK (gK [] kvs)))
theorem vQ{keys:List (Option Expr)}{values:List Expr}{trs:List (TE×TE)}(h:GE X pos keys values trs)(hall:keys.all (·.isSome)=true)(hl:keys.length=values.length)(h0:keys≠[])
 (h15:keys.length<=15):PE X (.Dict keys values pos) (AO trs):=by
 intro pins s σ H Q I q;have hn:=I.hok.fresh (Hw s.heap.objs.size);have I1:=I.laid (a:=s.heap.objs.size) (o:=.dK []) (h':=s.heap.push {cls:=.type "dict", data:=.dict #[]}) (t':=s.toks) (fun _ _ q=>Hu _ q) (Hw _) (sW s.heap I.big);refine wpAny_Dict_walk (knd:=cA X.prog X.w) hall hl h0 h15 (EH (h pins _ σ _ _ I1 (q _ hn)) fun ws s2 ⟨ps,H2,I2,rel,e,kvs,ep,lk,q2⟩=>?_);subst ep;obtain⟨rs,c,rk⟩:=iB (P:=X.prog) (w:=X.w) rel;obtain⟨z,hd,vs0,r0,dd⟩:=zx I2.hok e;cases r0;refine⟨rs,c,dd,fun h' dd' hs=>⟨.ref s.heap.objs.size,_,?_,rfl,q2⟩⟩
 have hz:(gK [] kvs).length<=sizeLine:=by
  have h1:=fg kvs [];rw[MI]at h1;rw[sizeLine_eq];omega
 have he:∃q,h'.get? s.heap.objs.size=some q:=let ⟨q,_,_,hq,_⟩:=dd';⟨q,hq⟩
 exact gR I2 (by rw[e];exact Lh) hs he (dk_new hz hd (rk.merge .nil) dd')
structure M1 (X:Cx) (o:Expr) (m:Str) (apos:Pos) (e:Expr) (cpos:Pos):Prop where
 base:Kw o m X.env (eval o X.env)=eval o X.env
 few:((Jl cpos (HA [e] X.env)).all (fun x=>!x.1)&&(M5 cpos (Lf [] X.env)).all (fun x=>x.1.isSome)
  && decide (([e]:List Expr).length+([]:List KW).length+(if([]:List KW).isEmpty then 0 else 1)<30))=true
 line:(apos.endLine==cpos.line)=true
 trees:Jl cpos (HA [e] X.env)=[(false,eval e X.env)]
structure M2 (X:Cx) (o:Expr) (m:Str) (apos:Pos) (e f:Expr) (cpos:Pos):Prop where
 base:Kw o m X.env (eval o X.env)=eval o X.env
 few:((Jl cpos (HA [e,f] X.env)).all (fun x=>!x.1)&&(M5 cpos (Lf [] X.env)).all (fun x=>x.1.isSome)
  && decide (([e,f]:List Expr).length+([]:List KW).length+(if([]:List KW).isEmpty then 0 else 1)<30))=true
 line:(apos.endLine==cpos.line)=true
 trees:Jl cpos (HA [e,f] X.env)=[(false,eval e X.env),(false,eval f X.env)]
section
variable{X:Cx}{pins:List (Addr×Obj)}{σ:St}{H:Hp}{s:Ht}{a:Addr}{y d:V}{u r:Hq}{o:Option V}{A:IM}{E:Hq->Ht->Prop}
end
section
variable{X:Cx}{o e f:Expr}{apos cpos:Pos}{td ty tx:TE}
end
section
variable{X:Cx}{pins:List (Addr×Obj)}{σ:St}{H:Hp}{s:Ht}{a:Addr}{kvs:List (GP×V)}{A:IM}{E:Hq->Ht->Prop}
end
section
variable{X:Cx}{pins:List (Addr×Obj)}{σ:St}{H:Hp}{s:Ht}{a:Addr}{y:V}{u:Hq}{A:IM}{E:Hq->Ht->Prop}
end
end L2
namespace Att
open PySem PySem.W PySem.Calls PyProof.Rows
theorem gN{P:Oe}:∀(ns:List Int)(vs:List Hq),WellAll P h vs (ns.map WData.int)->Nm vs ns:=by
 intro ns
 induction ns with
 | nil =>
   intro vs w;rw[Jr]at w;cases w
   exact .nil
 | cons n ns ih =>
   intro vs w;rw[HE]at w
   cases w with
   | cons a b =>
     cases a;exact .cons _ _ (ih _ b)
theorem oN{l:Of}(hn:l.most=some n){P:Oe}{args:List WData}{vals:List Hq}
 (hpre:l.row.toRowW.claim.pre args=true)(hwl:WellAll P h vals args) :
 ∃a vs ns,vals=[Jd a]/\args=[WData.list (ns.map WData.int)]/\h.get? a=some {cls:=.type "list", data:=.seq vs.toArray}/\Nm vs ns/\ns.length<=n:=by
 have hsh:WShape.hasAll [] args [.list .int]=true:=(pre_splitW hpre).1;have hc:l.pre.holds [] {args:=args}=true:=(pre_splitW hpre).2;obtain⟨d,r,rfl,h1,h2⟩:=hasAllW_cons hsh;obtain rfl:=hasAllW_nil h2;obtain⟨xs,rfl,h3⟩:=hasW_list h1;obtain⟨ns,rfl⟩:=items_int h3
 have hlen:ns.length<=n:=by
  unfold Of.pre at hc
  have h4:(WTm.not (.lt (.lit (.int (n:Int))) (.len (.arg 0)))).holds [] {args:=[.list (ns.map .int)]}=true:=by
   have h4:=(holds_andW hc).1;rw[hn]at h4;exact h4
  have h5:=condW_of h4 (w_not (w_lt w_lit (w_len_list (w_arg rfl))));rw[Hs]at h5;refine Nat.le_of_not_lt fun q=>?_;have q':(n:Int)<((ns.length:Nat):Int):=by omega
  first
   | (rw[decide_eq_true q']at h5;exact absurd h5 (by decide))
   | (simp at h5;omega)
 cases hwl with
 | cons w1 w2 =>
   cases w2
   cases w1 with
   | list ho hall=>exact⟨_,_,ns,rfl,rfl,ho,gN ns _ hall,hlen⟩
theorem pq(l:Of)(args:List WData):l.row.toRowW.claim.post args (.bool true) args=true :=
 postW_of (r:=l.row.toRowW) (X:=(true==true))
  (show WShape.has [] (.bool true) .bool=true by first|rfl|decide|simp[WShape.has,WShape.arms,WShape.armsAll])
  (show(WTm.eq .res (.lit (.bool true))).value [] {args:=args,res:=some (.bool true),after:=args}=some (.bool (true==true))from w_eq_bool (w_res rfl) w_lit) rfl
theorem attach_call{l:Of}{q:HV}{YP:IF->Heap->Prop}{d:DefRec}
 (hn:l.most=some n)(hdf:d.params.defaults=[])
 (call:∀(w:IF)(s₀ s₁:Ht)(mg mb:Str->Option Hq)(fa:Addr)(o:Obj)(pm cd doc:Hq)(a:Addr)(vs:List Hq)(ns:List Int),
  Ground q loose [] XP w s₀ mg mb s₁.heap->YP w s₁.heap ->
  s₁.heap.get? fa=some o->o.data = .func (docDef d.name d.params d.body d.scope pm cd doc)->s₁.heap.CodeRec cd d.name->mg d.name=some (.ref fa) ->
  s₁.heap.get? a=some {cls:=.type "list", data:=.seq vs.toArray}->Nm vs ns->ns.length<=n->s₁.gens = #[] ->
  JU (Ib l.prog w) NL (.call (.ref fa) ⟨[.ref a],[]⟩) (fun r s'=>r = .ok (.ret (.bool true))/\OldK s₁.heap s'.heap/\s'.os=s₁.os/\Ni s'.gens) s₁) :
 WalkO q loose XP YP l.row.toRowW d [] (fun f vs=>PySem.call f vs):=by
 intro w s₀ s₁ mg mb G Y fa o pm cd doc dV kV ho hd hcd hD hmg hg args vals as hpre hlay hrd hwl hlo;obtain rfl:dV = .none:=Dflts.none hD hdf;obtain rfl:kV = .none:=Dflts.noKw hD;obtain⟨a,vs,ns,rfl,rfl,hobj,hints,hlen⟩:=oN hn hpre hwl;refine enter_call (LO (call w s₀ s₁ mg mb fa o pm cd doc a vs ns G Y ho (fd_plain hd) hcd hmg hobj hints hlen hg) fun r s' hq=>?_);obtain⟨rfl,h2,h3,h4⟩:=hq;exact⟨.inl ⟨.bool true,.bool true,[],rfl,fun _=>rfl,.bool true,pq l _,fun _=>⟨List.Pairwise.nil,fun _ hm=>(nomatch hm)⟩⟩,h2,h3,h4⟩
section
variable{prog:HV}{w:IF}{A:IM}{E:Hq->Ht->Prop}{s:Ht}{K:Frag}
end
end Att
namespace L2
theorem ju:∀{vs:List Hq}{ns:List Int},Nm vs ns->de (ns.map V.int) vs
 | _,_,.nil=>.nil
 | _,_,.cons n t h=>.cons ⟨t,rfl⟩ (ju h)
noncomputable def BB(H:Hp):Prop:=∀b,H b=none\/∃o xs,H b=some (.frz o (.lst xs))
theorem sD{K:W.Frag}{mb:Str->Option Hq}{CX:G5}{k:Nat}{fa:Addr}{sp:Sp}{s₁:Ht}{vs:List Hq}
 (KX:K.In s₁.heap)(hns:s₁.heap.Ns IG mg)(hb:s₁.heap.Ns builtinsNs mb)(hbb:∀x:Str,x ≠ "__name__" -> mb x=Kp x)(hlim:s₁.heap.NoLimit)(hg:s₁.gens = #[])
 (ha:s₁.heap.get? a=some {cls:=.type "list", data:=.seq vs.toArray})(hi:Nm vs ns)(hl:ns.length<=sizeLine)(hr:Room k NL)
 (F:∀base:Heap,K.In base->base.Ns IG mg->FnOk P w K mg base CX k fa fd [x] sp)(hbind:∀(s:Ht)(u:Hq),N7 s fd ⟨[u],[]⟩ [(x,u)])
 (hsp:∀H:Hp,BB H->Gq K H a (ns.map V.int)->sp [.ref a] H (fun v _=>v = .bl true) fun _ _ _=>False)
 (hCX:∀H e s',CX [] H s₁ (fun _ _ _=>False) e s'->False) :
 JU (Ib P w) NL (.call (.ref fa) ⟨[.ref a],[]⟩) (fun r s'=>r = .ok (.ret (.bool true))/\OldK s₁.heap s'.heap/\s'.os=s₁.os/\Ni s'.gens) s₁:=by
 have rv:=ju hi;have lenV:=hi.length
 have core:∀H:Hp,BB H->Gq K H a (ns.map V.int)->G0 P w H s₁.heap->(∀b,H b≠none->b=a)->(H a≠none->K.lookup a=none) ->
  JU (Ib P w) NL (.call (.ref fa) ⟨[.ref a],[]⟩) (fun r s'=>r = .ok (.ret (.bool true))/\OldK s₁.heap s'.heap/\s'.os=s₁.os/\Ni s'.gens) s₁:=by
  intro H hO hS hok hA hK;have base_of:∀{b:Addr}{o:Obj},s₁.heap.get? b=some o->H b=none->(sK s₁.heap H).get? b=some o:=fun e n=>sJ e n
  have noA:∀{b:Addr}{o:Obj}{es:Array Ly}{ep:Nat},s₁.heap.get? b=some o->o.data = .dict es ep->H b=none:=fun{b o es ep} e d=>by
   cases q:H b with
   | none=>rfl
   | some u =>
     have e':b=a:=hA b (by rw[q];simp);subst e';rw[ha]at e;cases e;have d':Data.seq vs.toArray _=Data.dict es ep:=d;cases d'
  have nsK:∀{b:Addr}{m:Str->Option Hq},s₁.heap.Ns b m->(sK s₁.heap H).Ns b m:=fun{b m} ⟨o,es,ep,e,d,r⟩=>⟨o,es,ep,base_of e (noA e d),d,r⟩
  have hKb:K.In (sK s₁.heap H):=fun b o e=>base_of (KX b o e) (by
   cases q:H b with
   | none=>rfl
   | some u =>
     have e':b=a:=hA b (by rw[q];simp);subst e'
     rw[hK (by rw[q];simp)]at e;cases e)
  have hM:Mod K mg (sK s₁.heap H):=⟨hKb,nsK hns,⟨mb,nsK hb,hbb⟩,let ⟨mc,h1,h2⟩:=hlim;⟨mc,nsK h1,h2⟩⟩;have e0:Env0 P w K mg (sK s₁.heap H) NL [] s₁ H:=⟨rfl,hM,fun b o e=>v6 e,Nat.le_of_eq (p7 _ _),trivial,fun b hb=>absurd (show b∈([]:List Addr)from hb) (by simp),hok,.of_eq hg⟩;refine LO ((F _ hKb (nsK hns)).run NL [] s₁ H ⟨[.ref a],[]⟩ [.ref a] [.ref a] _ _ hr e0 (hbind s₁ (.ref a)) (.cons rfl .nil) (hsp H hO hS)) fun r s' h=>?_
  cases r with
  | error e=>exact(hCX H e s' h).elim
  | ok fl =>
    cases fl with
    | next=>exact Jk h
    | brk=>exact Jk h
    | cont=>exact Jk h
    | ret u =>
      obtain⟨v,H',os,bare,un,hok',r',q⟩:=h;have q':v = .bl true:=q;subst q';obtain rfl:u=Hq.bool true:=r';refine⟨rfl,OldK.of_keep fun b o e=>?_,os,bare⟩
      cases q:H b with
      | none=>exact un.keep b o e q (by intro z;exact absurd (show b∈([]:List Addr)from z) (by simp)) (by simp)
      | some u =>
        rcases hO b with z|⟨ob,xs,z⟩
        · rw[q]at z;cases z
        · have z2:=un.frzs b ob _ z;obtain⟨e1,_⟩:=hok b _ z;obtain⟨e2,_⟩:=hok' b _ z2;rw[e]at e1;cases e1;exact e2
 cases hk:K.lookup a with
 | some o =>
   have e:=KX a o hk;rw[ha]at e;cases e
   refine core (fun _=>none) (fun _=>.inl rfl) (.inr ⟨_,vs.toArray,_,hk,rfl,rfl,rfl,by rw[HL,lenV];exact hl,by simpa using rv⟩) (fun b u z=>by have z':(none:Option HO)=some u:=z;cases z') (fun b z=>absurd rfl z) fun z=>absurd rfl z
 | none =>
   refine core (fun b=>if b=a then some (.frz {cls:=.type "list", data:=.seq vs.toArray} (.lst (ns.map V.int)))else none) (fun b=>?_) (.inl (.inr ⟨{cls:=.type "list", data:=.seq vs.toArray},if_pos rfl⟩)) (fun b u z=>?_) (fun b z=>?_) fun _=>hk
   · by_cases hb:b=a
     · exact .inr ⟨_,_,if_pos hb⟩
     · exact .inl (if_neg hb)
   · by_cases hb:b=a
     · have z':=(if_pos hb).symm.trans z;cases z';subst hb;exact⟨ha,by rw[Hs];exact hl,vs,_,rv,ha⟩
     · have z':=(if_neg hb).symm.trans z;cases z'
   · by_cases hb:b=a
     · exact hb
     · exact absurd (if_neg hb) z
theorem walk_of{l:W.OpenLaw}{k:Nat}{q:HV}{YP:IF->Heap->Prop}{d:DefRec}{K:Oe->W.Frag}{CX:IF->G5}{sp:IF->Sp}
 (hn:l.most=some n)(hn2:n<=sizeLine)(hdf:d.params.defaults=[])(hr:Room k NL)
 (hY:∀(w:IF)(h:Heap),YP w h->(K w.params).In h)
 (F:∀(w:IF)(mg:Str->Option Hq)(fa:Addr)(h:Heap),(K w.params).In h->h.Ns IG mg->mg d.name=some (.ref fa) ->
  ∃ fd:Kb,(∀(s:Ht)(u:Hq),N7 s fd ⟨[u],[]⟩ [(x,u)]) /\
    ∀base:Heap,(K w.params).In base->base.Ns IG mg->FnOk l.prog w (K w.params) mg base (CX w) k fa fd [x] (sp w))
 (hsp:∀(w:IF)(H:Hp)(a:Addr)(ns:List Int),ns.length<=n->BB H->Gq (K w.params) H a (ns.map V.int)->sp w [.ref a] H (fun v _=>v = .bl true) fun _ _ _=>False)
 (hCX:∀(w:IF)(H:Hp)(s:Ht)(e:Hq)(s':Ht),CX w [] H s (fun _ _ _=>False) e s'->False) :
 W.WalkO q loose XP YP l.row.toRowW d [] (fun f vs=>PySem.call f vs):=by
 refine Att.attach_call hn hdf fun w s₀ s₁ mg mb fa o pm cd doc a vs ns G Y ho hd hcd hmg hobj hints hlen hg=>?_;have KX:=hY w _ Y;obtain⟨fd,hb,hF⟩:=F w mg fa _ KX G.T.g hmg;exact sD KX G.T.g G.T.b G.T.builtins G.T.nolimit hg hobj hints (Je hlen hn2) hr hF hb (fun H hO hS=>hsp w H a ns hlen hO hS) fun H e s'=>hCX w H s₁ e s'
abbrev G6:G5:=fun _ _ _ _ _ _=>False
abbrev E0:XK:=fun _ _ _=>False
theorem pE:qX G6 X E0:=fun _ _ _ _ _ _ _ h=>h.elim
structure Fun (K:W.Frag) (x qual:Str) (st:Stmt) (f:Addr) (fd:Kb):Prop where
 ex:∃(oc:Hq)(od:Option Addr)(kV doc pm:Hq)(an:Option Addr)(cdv ct:Hq)(osl:Array (Option Hq)),
  fd=W.fnOf x qual (defArgs st) (defBody st) (defScope st) .none kV doc pm an cdv ct/\K.lookup f=some ⟨oc,od,.func fd,osl⟩/\W.codeIn K cdv qual=true
 kp:W.keepIn K (.ref f)=true
section
variable{P:HV}{w:IF}{K:W.Frag}{mg:Str->Option Hq}{base:Heap}
theorem Fun.ok{st:Stmt}{ps:List Str}{k:Nat}{sp:Sp}(F:Fun K x qual st f fd)(S:FnScope N ps (defScope st))(len:∀vs H Q E,sp vs H Q E->vs.length=ps.length)
 (hbody:∀(cdv:Hq)(A:IM)(outer:List Env)(s:Ht)(H:Hp)(vs:List V)(Q:VK)(E:XK),Room k (A.deeper (L8 qual (defScope st) s.heap.objs.size f cdv))->sp vs H Q E ->
  ∃t,GC (nP G6 P w K mg base N qual (defScope st) f cdv A outer s H E).nox (defBody st) t/\t {nx:=fun _ H'=>Q .non H',rt:=Q} (start N vs) H):FnOk P w K mg base G6 (k+1) f fd ps sp:=by
 obtain⟨oc,od,kV,doc,pm,an,cdv,ct,osl,rfl,lk,hcd⟩:=F.ex;refine Bp lk hcd S len fun A outer s H vs Q E hr hsp=>?_;obtain⟨t,h,q⟩:=hbody cdv A outer s H vs Q E hr hsp;exact⟨t,h.nox,q⟩
theorem Fun.binds{st:Stmt}{ps:List Str}(F:Fun K x qual st f fd)
 (h:∀(kV doc pm:Hq)(an:Option Addr)(cdv ct:Hq)(us:List Hq),us.length=ps.length->bindArgs (W.fnOf x qual (defArgs st) (defBody st) (defScope st) .none kV doc pm an cdv ct) ⟨us,[]⟩=pure (ps.zip us)):Binds K fd ps []:=by
 obtain⟨oc,od,kV,doc,pm,an,cdv,ct,osl,rfl,lk,hcd⟩:=F.ex;exact .all (h kV doc pm an cdv ct)
theorem qf{st:Stmt}{oc:Hq}{od an:Option Addr}{osl:Array (Option Hq)}{kV doc pm cdv ct:Hq}(l:K.lookup f=some ⟨oc,od,.func (W.fnOf x qual (defArgs st) (defBody st) (defScope st) .none kV doc pm an cdv ct),osl⟩)
 (c:W.codeIn K cdv qual=true)(k:W.keepIn K (.ref f)=true):Fun K x qual st f (W.fnOf x qual (defArgs st) (defBody st) (defScope st) .none kV doc pm an cdv ct):=⟨⟨oc,od,kV,doc,pm,an,cdv,ct,osl,rfl,l,c⟩,k⟩
end
theorem p6{k:Nat}(hr:Room k A):A.units+1<LM:=JY (Nat.add_le_add_left (by decide:1<=64) _) hr.units
theorem jy(h:n<=1000):n<sizeLine:=JY h (by decide)
section
variable{X:Cx}
theorem pv(i:Nat)(hN:autoParam (X.N[i]?=some x) æa._auto_1)(hv:autoParam (Gf X.env.scope x) æd._auto_1)(hd:autoParam ((x==("__debug__" : Str))=false) æb._auto_1)
 (hcd:autoParam ((x==("__classdict__" : Str))=false) æb._auto_1):PE X (.Name x pos) (CO i):=dR hN hv hd hcd
end
noncomputable def bU(H H':Hp):Prop:=∀b o,H b=some o->H' b=some o
theorem bU.refl(H:Hp):bU H H:=fun _ _ h=>h
theorem bU.trans{H1 H2:Hp}(a:bU H H1)(b:bU H1 H2):bU H H2:=fun c o h=>b c o (a c o h)
theorem bU.free(e:bU H H'){l:Addr}(h:H' l=Option.none):H l=Option.none:=by
 cases q:H l with
 | none=>rfl
 | some o =>
   rw[e l o q]at h;cases h
section
variable{X:Cx}
end
section
variable{κ:Type}[DecidableEq κ]
end
end L2
namespace L2.VL
structure RlT where
 a:Option Addr
 b:Nat
abbrev RlT.no:RlT:=⟨none,0⟩
abbrev RlT.at'(r:Addr)(b:Nat):RlT:=⟨some r,b⟩
noncomputable def BM:Nat:=2^50000
noncomputable def RO(b:Nat)(F:Hp)(o:HO):Prop:=∃(c:Addr)(ns:List Int)(a l:Int),o = .dK [(K_ "cells", .ref c),(K_ "at", .int a),(K_ "left", .int l)]/\F c=some (.lst (ns.map V.int))/\ns.length<=63/\0<=a/\0<=l/\a+b<2^59990
theorem RO.mono{b:Nat}{o:HO}(s:bU F F')(h:RO b F o):RO b F' o:=by
 obtain⟨c,ns,a,l,e,q,r⟩:=h;exact⟨c,ns,a,l,e,s _ _ q,r⟩
theorem RO.pay{b b':Nat}{o:HO}(s:b'<=b)(h:RO b F o):RO b' F o:=by
 obtain⟨c,ns,a,l,e,q,h0,h1,h2,h3⟩:=h;exact⟨c,ns,a,l,e,q,h0,h1,h2,by omega⟩
mutual
inductive Rep (K:W.Frag) (F:Hp):V->Hi->Prop
 | non:Rep K F .non .none
 | bl (b:Bool):Rep K F (.bl b) (.bool b)
 | int (i:Int):Rep K F (.int i) (.int i)
 | str (x:Str):Rep K F (.str x) (.str x)
 | tup {a:Addr} {vs:List V} {ds:List Hi}:Gp K F a vs->Reps K F vs ds->Rep K F (.ref a) (.tuple ds)
 | lst {a:Addr} {vs:List V} {ds:List Hi}:F a=some (.lst vs)->Reps K F vs ds->Rep K F (.ref a) (.list ds)
inductive Reps (K:W.Frag) (F:Hp):List V->List Hi->Prop
 | nil:Reps K F [] []
 | cons {v:V} {d:Hi} {vs:List V} {ds:List Hi}:Rep K F v d->Reps K F vs ds->Reps K F (v::vs) (d::ds)
end
theorem c_{K:W.Frag}{xs:List V}(e:bU H H')(h:Gp K H a xs):Gp K H' a xs:=by
 rcases h with(h|⟨o,h⟩)|h
 · exact .inl (.inl (e _ _ h))
 · exact .inl (.inr ⟨o,e _ _ h⟩)
 · exact .inr h
theorem oP{K:W.Frag}{xs:List V}(e:bU H H')(h:Gq K H a xs):Gq K H' a xs:=by
 rcases h with(h|⟨o,h⟩)|h
 · exact .inl (.inl (e _ _ h))
 · exact .inl (.inr ⟨o,e _ _ h⟩)
 · exact .inr h
mutual
theorem Rep.mono{K:W.Frag}{F F':Hp}(s:bU F F'):∀{v:V}{d:Hi},Rep K F v d->Rep K F' v d
 | _,_,.non=>.non
 | _,_,.bl b=>.bl b
 | _,_,.int i=>.int i
 | _,_,.str x=>.str x
 | _,_,.tup h r=>.tup (c_ s h) (Reps.mono s r)
 | _,_,.lst h r=>.lst (s _ _ h) (Reps.mono s r)
theorem Reps.mono{K:W.Frag}{F F':Hp}(s:bU F F'):∀{vs:List V}{ds:List Hi},Reps K F vs ds->Reps K F' vs ds
 | _,_,.nil=>.nil
 | _,_,.cons h r=>.cons (Rep.mono s h) (Reps.mono s r)
end
theorem Reps.length{K:W.Frag}{F:Hp}:∀{vs:List V}{ds:List Hi},Reps K F vs ds->vs.length=ds.length
 | _,_,.nil=>rfl
 | _,_,.cons _ r=>by simp[Reps.length r]
theorem Reps.get{K:W.Frag}{F:Hp}:∀{vs:List V}{ds:List Hi}{i:Nat}{d:Hi},Reps K F vs ds->ds[i]?=some d->∃v,vs[i]?=some v/\Rep K F v d
 | _,_,_,_,.nil,e=>by simp at e
 | _,_,0,_,.cons h _,e=>by simp at e;subst e;exact⟨_,rfl,h⟩
 | _,_,i+1,d,.cons _ r,e=>by
   obtain⟨v,h1,h2⟩:=Reps.get (i:=i) (d:=d) r (by simpa using e);exact⟨v,by simpa using h1,h2⟩
theorem Reps.append{K:W.Frag}{F:Hp}:∀{vs us:List V}{ds es:List Hi},Reps K F vs ds->Reps K F us es->Reps K F (vs++us) (ds++es)
 | _,_,_,_,.nil,s=>s
 | _,_,_,_,.cons h r,s=>.cons h (Reps.append r s)
theorem Reps.snoc{K:W.Frag}{ds:List Hi}(r:Reps K F vs ds)(h:Rep K F v d):Reps K F (vs++[v]) (ds++[d]):=r.append (.cons h .nil)
theorem Reps.take{K:W.Frag}{F:Hp}:∀{vs:List V}{ds:List Hi}(n:Nat),Reps K F vs ds->Reps K F (vs.take n) (ds.take n)
 | _,_,0,_=>.nil
 | _,_,_+1,.nil=>.nil
 | _,_,n+1,.cons h r=>.cons h (Reps.take n r)
theorem Reps.drop{K:W.Frag}{F:Hp}:∀{vs:List V}{ds:List Hi}(n:Nat),Reps K F vs ds->Reps K F (vs.drop n) (ds.drop n)
 | _,_,0,r=>r
 | _,_,_+1,.nil=>.nil
 | _,_,n+1,.cons _ r=>Reps.drop n r
theorem Reps.nil_iff{K:W.Frag}(h:Reps K F vs []):vs=[]:=by cases h;rfl
mutual
theorem Rep.reads{X:Cx}{pins:List (Addr×Obj)}{σ:St}{H F:Hp}{s:Ht}(I:Inv X pins σ H s)(sub:bU F H):∀{v:V}{d:Hi},Rep X.K F v d->∀u,RelV v u->∃as,Reads s.heap u d as
 | _,_,.non,u,r=>by cases(show u=J3 from r);exact⟨_,.none⟩
 | _,_,.bl b,u,r=>by cases(show u=Hq.bool b from r);exact⟨_,.bool b⟩
 | _,_,.int i,u,r=>by obtain⟨t,q⟩:=(show ∃t,u=MF i t from r);cases q;exact⟨_,.int i t⟩
 | _,_,.str x,u,r=>by obtain⟨t,q⟩:=(show ∃t,u=N5 x t from r);cases q;exact⟨_,.str x t⟩
 | _,_,.tup (a:=a) h q,u,r=>by
   cases(show u=Jd a from r);obtain⟨its,rv,⟨o,h1,h2,n,h3⟩,hz⟩:=I.tuple (c_ sub h);obtain⟨as,ra⟩:=Reps.reads I sub q its rv
   exact⟨_,.tuple h1 h2 h3 (by simpa using ra)⟩
 | _,_,.lst (a:=a) h q,u,r=>by
   cases(show u=Jd a from r);obtain⟨its,rv,p,hz⟩:=I.list (.inl (.inl (sub _ _ h)));obtain⟨o,h1,h2,n,h3⟩:=p.isList;obtain⟨as,ra⟩:=Reps.reads I sub q its rv;exact⟨_,.list h1 h2 h3 (by simpa using ra)⟩
theorem Reps.reads{X:Cx}{pins:List (Addr×Obj)}{σ:St}{H F:Hp}{s:Ht}(I:Inv X pins σ H s)(sub:bU F H):∀{vs:List V}{ds:List Hi},Reps X.K F vs ds->∀us,de vs us->∃as,ReadsAll s.heap us ds as
 | _,_,.nil,us,r=>by cases r;exact⟨_,.nil⟩
 | _,_,.cons h q,us,r=>by
   cases r with
   | cons r1 r2 =>
     obtain⟨as,a1⟩:=Rep.reads I sub h _ r1;obtain⟨bs,a2⟩:=Reps.reads I sub q _ r2;exact⟨_,.cons a1 a2⟩
end
structure ReelOk (b:Nat) (F H:Hp) (r:Addr):Prop where
 ex:∃o,H r=some o/\RO b F o
noncomputable def Gx(rl:RlT)(F H:Hp):Prop:=∀r,rl.a=some r->F r=none/\ReelOk rl.b F H r
theorem Gx.live{rl:RlT}(h:Gx rl F H){r:Addr}(e:rl.a=some r):∃o,H r=some o:=by
 obtain⟨_,⟨o,q,_⟩⟩:=h r e;exact⟨_,q⟩
structure Grow (rl:RlT) (F H F' H':Hp):Prop where
 same:∀b o,H b=some o->rl.a≠some b->H' b=some o
 fs:bU F F'
 sub:bU F' H'
 old:∀b o,H b=some o->F' b=F b
 reel:Gx rl F' H'
theorem Grow.refl{rl:RlT}{F H:Hp}(s:bU F H)(r:Gx rl F H):Grow rl F H F H:=⟨fun _ _ e _=>e,.refl F,s,fun _ _ _=>rfl,r⟩
theorem Grow.live{rl:RlT}{F H F' H':Hp}(g:Grow rl F H F' H'){b:Addr}{o:HO}(e:H b=some o):∃o',H' b=some o':=by
 by_cases h:rl.a=some b
 · exact g.reel.live h
 · exact⟨o,g.same b o e h⟩
theorem Grow.trans{rl:RlT}{F H F1 H1 F2 H2:Hp}(a:Grow rl F H F1 H1)(b:Grow rl F1 H1 F2 H2):Grow rl F H F2 H2 :=
 ⟨fun c o e n=>b.same c o (a.same c o e n) n,a.fs.trans b.fs,b.sub,fun c o e=>by obtain⟨o',e'⟩:=a.live e;rw[b.old c o' e',a.old c o e],b.reel⟩
theorem Grow.freeB{rl:RlT}(g:Grow rl F H F' H'){b:Addr}(e:H' b=none):H b=none:=by
 cases q:H b with
 | none=>rfl
 | some o=>obtain⟨o',e'⟩:=g.live q;rw[e]at e';cases e'
theorem Grow.laid{rl:RlT}{o:HO}(s:bU F H)(r:Gx rl F H)(n:H a=none):Grow rl F H F (Ex H a o):=by
 have ne:∀b u,H b=some u->b≠a:=fun b u e=>bi e n;refine⟨fun b u e _=>by rw[ar (ne b u e)];exact e,.refl F,fun b u e=>by rw[ar (ne b u (s b u e))];exact s b u e,fun _ _ _=>rfl,fun q e=>?_⟩;obtain⟨z,⟨u,h1,h2⟩⟩:=r q e;exact⟨z,⟨u,by rw[ar (ne _ _ h1)];exact h1,h2⟩⟩
theorem Grow.data{rl:RlT}{o:HO}(s:bU F H)(r:Gx rl F H)(n:H a=none):Grow rl F H (Ex F a o) (Ex H a o):=by
 have ne:∀b u,H b=some u->b≠a:=fun b u e=>bi e n;have neF:∀b u,F b=some u->b≠a:=fun b u e=>ne b u (s b u e);refine⟨fun b u e _=>by rw[ar (ne b u e)];exact e,fun b u e=>by rw[ar (neF b u e)];exact e,fun b u e=>?_,fun b u e=>by rw[ar (ne b u e)],fun q e=>?_⟩
 · by_cases hb:b=a
   · subst hb;rw[aG]at e ⊢;exact e
   · rw[ar hb]at e ⊢;exact s b u e
 · obtain⟨z,⟨u,h1,h2⟩⟩:=r q e;exact⟨by rw[ar (ne _ _ h1)];exact z,⟨u,by rw[ar (ne _ _ h1)];exact h1,RO.mono (fun b u e=>by rw[ar (neF b u e)];exact e) h2⟩⟩
theorem Grow.freeze{rl:RlT}{F1 H1:Hp}{o:HO}(g:Grow rl F H F1 H1)(n:H a=none)(e:H1 a=some o)(f:F1 a=none)(hr:rl.a≠some a):Grow rl F H (Ex F1 a o) H1:=by
 have neF:∀b u,F1 b=some u->b≠a:=fun b u q z=>by subst z;rw[f]at q;cases q
 refine⟨g.same,fun b u q=>by rw[ar (neF b u (g.fs b u q))];exact g.fs b u q,fun b u q=>?_,fun b u q=>by rw[ar (bi q n)];exact g.old b u q,fun q z=>?_⟩
 · by_cases hb:b=a
   · subst hb;rw[aG]at q;rw[e];exact q
   · rw[ar hb]at q;exact g.sub b u q
 · obtain⟨z1,⟨u,h1,h2⟩⟩:=g.reel q z;exact⟨by rw[ar (fun y=>hr (by rw[<- y];exact z))];exact z1,⟨u,h1,RO.mono (fun b u e=>by rw[ar (neF b u e)];exact e) h2⟩⟩
inductive W where
 | d (x:Hi)
 | ml (xs:List Hi)
 | pk (xs:List Hi)
 | reel
 | vv (v:V)
 | md (kvs:List (List GP×Hi))
 | mk (kvs:List (GP×Hi))
 | xm (kvs:List (List Int×Hi))
 | nt (ds:List Hi)
 | lk
 | sc (ns:List Int)
 | fd (kvs:List (GP×Hi))
 | xr (kvs:List (List Int×Hi))
 | xw (a:Addr) (kvs:List (List Int×Hi))
 | fw (kvs:List (GP×Hi))
 | ft (kvs:List (List GP×Hi))
 | xc (x:Str) (fs:List (Str×Hi))
 | dp (kvs:List (GP×Hi)) (x:Hi)
noncomputable def W.dat:W->Option Hi
 | .d x=>some x
 | .ml xs=>some (.list xs)
 | .pk xs=>some (.list xs)
 | .nt ds=>some (.tuple ds)
 | _=>none
noncomputable def W.peek:W->W
 | .ml xs=>.pk xs
 | .md _=>.lk
 | .mk _=>.lk
 | .xm _=>.lk
 | w=>w
noncomputable def W.own:W->Bool
 | .ml _=>true
 | .md _=>true
 | .mk _=>true
 | .xm _=>true
 | _=>false
abbrev KD(K:W.Frag)(F:Hp):List (List GP×V)->List (List GP×Hi)->Prop:=Jc fun p q=>p.1=q.1/\Rep K F p.2 q.2
abbrev GR(K:W.Frag)(F:Hp):List (GP×V)->List (GP×Hi)->Prop:=Jc fun p q=>p.1=q.1/\Rep K F p.2 q.2
abbrev GQ(K:W.Frag)(F:Hp):List (Str×V)->List (Str×Hi)->Prop:=Jc fun p q=>p.1=q.1/\Rep K F p.2 q.2
noncomputable def BE(e C dx:Addr):Heap->Prop:=fun h=>∃oe vs,h.get? e=some oe/\oe.cls = .ref C/\oe.dict=some dx/\oe.data = .fields vs
noncomputable def wS(K:W.Frag)(rl:RlT)(F H:Hp)(v:V)(kvs:List (List GP×Hi)):Prop:=∃a us,v = .ref a/\F a=none/\rl.a≠some a/\H a=some (.dT us)/\KD K F us kvs
noncomputable def DAt(a:Addr)(xs:List (List Int×Addr×Hq)):Heap->Prop:=fun h=>∃o es ep,h.get? a=some o/\o.ExactDict/\o.data = .dict es ep/\(∀(P:HV)(w:IF),es.toList=xs.map (NG (J4 (Lz P w))))/\(xs.map (·.1)).Nodup/\(a==JK)=false/\xs.length<=sizeLine
noncomputable def DAtO(a:Addr)(u:List (List Int×Addr×Hq)×Obj):Heap->Prop:=fun h=>DAt a u.1 h/\h.get? a=some u.2
noncomputable def KX(K:W.Frag)(F:Hp):List (List Int×Addr×Hq)->List (List Int×Hi)->Prop:=Jc fun p q=>p.1=q.1/\Gp K F p.2.1 (p.1.map V.int)/\∃v,RelV v p.2.2/\Rep K F v q.2
theorem KX.mono{K:W.Frag}{F F':Hp}{xs:List (List Int×Addr×Hq)}{kvs:List (List Int×Hi)}(h:KX K F xs kvs)(s:bU F F'):KX K F' xs kvs:=Jc.mapP h fun _ _ z=>⟨z.1,c_ s z.2.1,let ⟨v,r,q⟩:=z.2.2;⟨v,r,q.mono s⟩⟩
noncomputable def tD(K:W.Frag)(rl:RlT)(F H:Hp)(v:V)(kvs:List (List Int×Hi)):Prop:=∃a xs,v = .ref a/\F a=none/\rl.a≠some a/\H a=some (.ext (DAt a xs))/\KX K F xs kvs
noncomputable def wR(K:W.Frag)(rl:RlT)(F H:Hp)(v:V)(kvs:List (GP×Hi)):Prop:=∃a us,v = .ref a/\F a=none/\rl.a≠some a/\H a=some (.dK us)/\GR K F us kvs
noncomputable def iF(K:W.Frag)(rl:RlT)(F H:Hp)(v:V)(xs:List Hi):Prop:=∃a vs,v = .ref a/\F a=none/\rl.a≠some a/\H a=some (.lst vs)/\Reps K F vs xs
noncomputable def dB(K:W.Frag)(rl:RlT)(F H:Hp)(v:V):W->Prop
 | .d x=>Rep K F v x
 | .ml xs=>iF K rl F H v xs
 | .pk xs=>iF K rl F H v xs
 | .reel=>∃r,rl.a=some r/\v = .ref r
 | .vv u=>v=u
 | .md kvs=>wS K rl F H v kvs
 | .mk kvs=>wR K rl F H v kvs
 | .xm kvs=>tD K rl F H v kvs
 | .nt ds=>∃a vs,v = .ref a/\F a=some (.tup vs)/\Reps K F vs ds
 | .lk=>True
 | .sc ns=>∃a,v = .ref a/\Gq K F a (ns.map V.int)
 | .fd kvs=>∃a us,v = .ref a/\F a=some (.dK us)/\GR K F us kvs
 | .xr kvs=>∃a us,v = .ref a/\F a=some (.ext (DAtO a us))/\KX K F us.1 kvs
 | .xw a kvs=>∃us,v = .ref a/\F a=some (.ext (DAtO a us))/\KX K F us.1 kvs
 | .fw kvs=>∃a us o,v = .ref a/\F a=some (.frz o (.dK us))/\GR K F us kvs
 | .ft kvs=>∃a us o,v = .ref a/\F a=some (.frz o (.dT us))/\KD K F us kvs
 | .xc x fs=>∃e dx us C,v = .ref e/\W.nsIn K IG x=some (some (.ref C))/\F e=some (.ext (BE e C dx))/\F dx=some (.xd us)/\GQ K F us fs
 | .dp kvs x=>∃a b us u o,v = .ref a/\F a=some (.tup [.ref b,u])/\F b=some (.frz o (.dK us))/\GR K F us kvs/\Rep K F u x
theorem wS.grow{K:W.Frag}{rl:RlT}{kvs:List (List GP×Hi)}(g:Grow rl F H F' H')(r:wS K rl F H v kvs):wS K rl F' H' v kvs:=by
 obtain⟨a,us,rfl,h1,h2,h3,h4⟩:=r;exact⟨a,us,rfl,by rw[g.old a _ h3];exact h1,h2,g.same a _ h3 h2,Jc.mapP h4 fun _ _ z=>⟨z.1,z.2.mono g.fs⟩⟩
theorem wR.grow{K:W.Frag}{rl:RlT}{kvs:List (GP×Hi)}(g:Grow rl F H F' H')(r:wR K rl F H v kvs):wR K rl F' H' v kvs:=by
 obtain⟨a,us,rfl,h1,h2,h3,h4⟩:=r;exact⟨a,us,rfl,by rw[g.old a _ h3];exact h1,h2,g.same a _ h3 h2,Jc.mapP h4 fun _ _ z=>⟨z.1,z.2.mono g.fs⟩⟩
theorem tD.grow{K:W.Frag}{rl:RlT}(g:Grow rl F H F' H')(r:tD K rl F H v kvs):tD K rl F' H' v kvs:=by
 obtain⟨a,us,rfl,h1,h2,h3,h4⟩:=r;exact⟨a,us,rfl,by rw[g.old a _ h3];exact h1,h2,g.same a _ h3 h2,h4.mono g.fs⟩
theorem iF.grow{K:W.Frag}{rl:RlT}(g:Grow rl F H F' H')(r:iF K rl F H v xs):iF K rl F' H' v xs:=by
 obtain⟨a,vs,rfl,h1,h2,h3,h4⟩:=r;exact⟨a,vs,rfl,by rw[g.old a _ h3];exact h1,h2,g.same a _ h3 h2,h4.mono g.fs⟩
theorem dB.grow{K:W.Frag}{rl:RlT}{F H F' H':Hp}{v:V}{w:W}(g:Grow rl F H F' H')(r:dB K rl F H v w):dB K rl F' H' v w:=by
 cases w with
 | d x=>exact Rep.mono g.fs r
 | ml xs=>exact iF.grow g r
 | pk xs=>exact iF.grow g r
 | reel=>exact r
 | vv u=>exact r
 | md kvs=>exact wS.grow g r
 | mk kvs=>exact wR.grow g r
 | xm kvs=>exact tD.grow g r
 | nt ds=>obtain⟨a,vs,e,h,q⟩:=r;exact⟨a,vs,e,g.fs _ _ h,q.mono g.fs⟩
 | lk=>trivial
 | sc ns=>obtain⟨a,e,h⟩:=r;exact⟨a,e,oP g.fs h⟩
 | fd kvs=>obtain⟨a,us,e,h,q⟩:=r;exact⟨a,us,e,g.fs _ _ h,Jc.mapP q fun _ _ z=>⟨z.1,z.2.mono g.fs⟩⟩
 | xr kvs=>obtain⟨a,us,e,h,q⟩:=r;exact⟨a,us,e,g.fs _ _ h,KX.mono q g.fs⟩
 | xw a kvs=>obtain⟨us,e,h,q⟩:=r;exact⟨us,e,g.fs _ _ h,KX.mono q g.fs⟩
 | fw kvs=>obtain⟨a,us,o,e,h,q⟩:=r;exact⟨a,us,o,e,g.fs _ _ h,Jc.mapP q fun _ _ z=>⟨z.1,z.2.mono g.fs⟩⟩
 | ft kvs=>obtain⟨a,us,o,e,h,q⟩:=r;exact⟨a,us,o,e,g.fs _ _ h,Jc.mapP q fun _ _ z=>⟨z.1,z.2.mono g.fs⟩⟩
 | xc _ _=>obtain⟨a,dx,us,C,e,n,h1,h2,q⟩:=r;exact⟨a,dx,us,C,e,n,g.fs _ _ h1,g.fs _ _ h2,Jc.mapP q fun _ _ z=>⟨z.1,z.2.mono g.fs⟩⟩
 | dp _ _=>obtain⟨a,b,us,u,o,e,h1,h2,q,z⟩:=r;exact⟨a,b,us,u,o,e,g.fs _ _ h1,g.fs _ _ h2,Jc.mapP q fun _ _ z=>⟨z.1,z.2.mono g.fs⟩,z.mono g.fs⟩
theorem dB.peek{K:W.Frag}{rl:RlT}{w:W}(r:dB K rl F H v w):dB K rl F H v w.peek:=by cases w<;>first|exact r|trivial
theorem iF.rep{K:W.Frag}{rl:RlT}(s:bU F H)(r:iF K rl F H v xs):Rep K H v (.list xs):=by
 obtain⟨a,vs,rfl,h1,h2,h3,h4⟩:=r;exact .lst h3 (h4.mono s)
theorem dB.dat{K:W.Frag}{rl:RlT}{w:W}{x:Hi}(s:bU F H)(r:dB K rl F H v w)(e:w.dat=some x):Rep K H v x:=by
 cases w with
 | d y=>cases e;exact Rep.mono s r
 | ml xs=>cases e;exact iF.rep s r
 | pk xs=>cases e;exact iF.rep s r
 | reel=>cases e
 | vv u=>cases e
 | md kvs=>cases e
 | mk kvs=>cases e
 | xm kvs=>cases e
 | nt ds=>cases e;obtain⟨a,vs,rfl,h,q⟩:=r;exact .tup (.inl (.inl (s _ _ h))) (q.mono s)
 | lk=>cases e
 | sc _=>cases e
 | fd _=>cases e
 | xr _=>cases e
 | xw _ _=>cases e
 | fw _=>cases e
 | ft _=>cases e
 | xc _ _=>cases e
 | dp _ _=>cases e
theorem dB.items{K:W.Frag}{rl:RlT}{w:W}(s:bU F H)(r:dB K rl F H v w)(e:w.dat=some (.list xs)):∃a vs,v = .ref a/\Gq K H a vs/\Reps K F vs xs:=by
 have own:iF K rl F H v xs->∃a vs,v = .ref a/\Gq K H a vs/\Reps K F vs xs:=fun⟨a,vs,e1,_,_,e2,e3⟩=>⟨a,vs,e1,.inl (.inl e2),e3⟩
 cases w with
 | d y =>
   cases e
   cases(show Rep K F v (.list xs)from r)with
   | lst h q=>exact⟨_,_,rfl,.inl (.inl (s _ _ h)),q⟩
 | ml ys=>cases e;exact own r
 | pk ys=>cases e;exact own r
 | reel=>cases e
 | vv u=>cases e
 | md kvs=>cases e
 | mk kvs=>cases e
 | xm kvs=>cases e
 | nt ds=>cases e
 | lk=>cases e
 | sc _=>cases e
 | fd _=>cases e
 | xr _=>cases e
 | xw _ _=>cases e
 | fw _=>cases e
 | ft _=>cases e
 | xc _ _=>cases e
 | dp _ _=>cases e
theorem dB.itemsT{K:W.Frag}{rl:RlT}{w:W}(s:bU F H)(r:dB K rl F H v w)(e:w.dat=some (.tuple xs)):∃a vs,v = .ref a/\Gp K H a vs/\Reps K F vs xs:=by
 cases w with
 | d y =>
   cases e
   cases(show Rep K F v (.tuple xs)from r)with
   | tup h q=>exact⟨_,_,rfl,c_ s h,q⟩
 | ml ys=>cases e
 | pk ys=>cases e
 | reel=>cases e
 | vv u=>cases e
 | md kvs=>cases e
 | mk kvs=>cases e
 | xm kvs=>cases e
 | nt ds=>cases e;obtain⟨a,vs,rfl,h,q⟩:=r;exact⟨a,vs,rfl,.inl (.inl (s _ _ h)),q⟩
 | lk=>cases e
 | sc _=>cases e
 | fd _=>cases e
 | xr _=>cases e
 | xw _ _=>cases e
 | fw _=>cases e
 | ft _=>cases e
 | xc _ _=>cases e
 | dp _ _=>cases e
noncomputable def eB(H:Hp)(v:V):W->Prop
 | .ml _=>∀a,v = .ref a->H a=none
 | .md _=>∀a,v = .ref a->H a=none
 | .mk _=>∀a,v = .ref a->H a=none
 | .xm _=>∀a,v = .ref a->H a=none
 | _=>True
theorem dB.live{K:W.Frag}{rl:RlT}{w:W}(r:dB K rl F H v w)(h:w.own=true):∃a o,v = .ref a/\H a=some o:=by
 cases w with
 | ml xs=>obtain⟨a,vs,e,_,_,hh,_⟩:=r;exact⟨a,_,e,hh⟩
 | md xs=>obtain⟨a,vs,e,_,_,hh,_⟩:=r;exact⟨a,_,e,hh⟩
 | mk xs=>obtain⟨a,vs,e,_,_,hh,_⟩:=r;exact⟨a,_,e,hh⟩
 | xm xs=>obtain⟨a,vs,e,_,_,hh,_⟩:=r;exact⟨a,_,e,hh⟩
 | _=>cases h
theorem eB.none{w:W}(n:eB H v w)(h:w.own=true)(e:v = .ref a):H a=none:=by
 cases w with
 | ml xs=>exact n a e
 | md xs=>exact n a e
 | mk xs=>exact n a e
 | xm xs=>exact n a e
 | _=>cases h
abbrev En:=List (Option W)
structure VR (K:W.Frag) (rl:RlT) (F₀ H₀ F H:Hp) (σ:St) (ρ:En):Prop where
 g:Grow rl F₀ H₀ F H
 sl:∀(i:Nat) w,ρ[i]?=some (some w)->∃v,σ[i]?=some (some v)/\dB K rl F H v w/\eB H₀ v w
 ap:∀(i j:Nat)(x y:W) v,i≠j->ρ[i]?=some (some x)->ρ[j]?=some (some y)->x.own=true->y.own=true->σ[i]?=some (some v)->σ[j]?=some (some v)->False
 np:∀(i:Nat) xs,ρ[i]?≠some (some (W.pk xs))
 len:ρ.length=σ.length
section
variable{K:W.Frag}{rl:RlT}{F₀ H₀ F H F' H':Hp}{σ:St}{ρ:En}
theorem VR.sub(r:VR K rl F₀ H₀ F H σ ρ):bU F H:=r.g.sub
theorem VR.reel(r:VR K rl F₀ H₀ F H σ ρ):Gx rl F H:=r.g.reel
theorem VR.grow(r:VR K rl F₀ H₀ F H σ ρ)(g:Grow rl F H F' H'):VR K rl F₀ H₀ F' H' σ ρ :=
 ⟨r.g.trans g,fun i w e=>let ⟨v,e1,e2,e3⟩:=r.sl i w e;⟨v,e1,e2.grow g,e3⟩,r.ap,r.np,r.len⟩
theorem VR.set(r:VR K rl F₀ H₀ F H σ ρ){H1 F1:Hp}(g:Grow rl F H F1 H1){w:W}(rw':dB K rl F1 H1 v w)(hn:eB H v w)(hp:∀xs,w ≠ .pk xs)(i:Nat):VR K rl F₀ H₀ F1 H1 (σ.set i (some v)) (ρ.set i (some w)):=by
 have r1:=r.grow g;refine⟨r1.g,fun j w' e=>?_,fun j k xs ys u hjk e1 e2 w1 w2 s1 s2=>?_,fun j xs z=>?_,by simp[r.len]⟩
 · by_cases hj:i=j
   · subst hj
     have hi:i<ρ.length:=by
      rw[IW]at e;by_cases hi:i<ρ.length
      · exact hi
      · simp[hi]at e
     rw[HU hi]at e;cases e;refine⟨v,by rw[HU (by rw[<- r.len];exact hi)],rw',?_⟩
     cases w with
     | ml xs=>exact fun a ea=>r.g.freeB (hn a ea)
     | d x=>trivial
     | pk xs=>trivial
     | reel=>trivial
     | vv u=>trivial
     | md xs=>exact fun a ea=>r.g.freeB (hn a ea)
     | mk xs=>exact fun a ea=>r.g.freeB (hn a ea)
     | xm xs=>exact fun a ea=>r.g.freeB (hn a ea)
     | nt ds=>trivial
     | lk=>trivial
     | sc _=>trivial
     | fd _=>trivial
     | xr _=>trivial
     | xw _ _=>trivial
     | fw _=>trivial
     | ft _=>trivial
     | xc _ _=>trivial
     | dp _ _=>trivial
   · rw[HQ hj]at e;obtain⟨u,h1,h2,h3⟩:=r1.sl j w' e;exact⟨u,by rw[HQ hj];exact h1,h2,h3⟩
 · have key:∀(k:Nat)(x y:W),ρ[k]?=some (some y)->some (some w)=some (some x)->x.own=true->y.own=true->σ[k]?=some (some v)->False:=fun k x y d2 e1 o1 o2 s2=>by
     cases e1;obtain⟨u',h1,h2,h3⟩:=r.sl k _ d2;rw[s2]at h1;cases h1;obtain⟨a,o,ea,hh⟩:=h2.live o2;rw[hn.none o1 ea]at hh;cases hh
   by_cases hj:i=j
   · subst hj;have hk:i≠k:=hjk
     have hi:i<ρ.length:=by
      rw[IW]at e1;by_cases hi:i<ρ.length
      · exact hi
      · simp[hi]at e1
     rw[HU hi]at e1;rw[HQ hk]at e2 s2;rw[HU (by rw[<- r.len];exact hi)]at s1;cases s1;exact key k xs ys e2 e1 w1 w2 s2
   · by_cases hk:i=k
     · subst hk
       have hi:i<ρ.length:=by
        rw[IW]at e2;by_cases hi:i<ρ.length
        · exact hi
        · simp[hi]at e2
       rw[HU hi]at e2;rw[HQ hj]at e1 s1;rw[HU (by rw[<- r.len];exact hi)]at s2;cases s2;exact key j ys xs e1 e2 w2 w1 s1
     · rw[HQ hj]at e1 s1;rw[HQ hk]at e2 s2;exact r.ap j k xs ys u hjk e1 e2 w1 w2 s1 s2
 · rw[IW]at z;split at z
   · split at z
     · exact hp xs (IA (IA z))
     · cases z
   · exact r.np j xs z
theorem VR.freeze(r:VR K rl F₀ H₀ F H σ ρ){i:Nat}{xs:List Hi}(e:ρ[i]?=some (some (.ml xs))):∃F1,VR K rl F₀ H₀ F1 H σ (ρ.set i (some (.d (.list xs)))):=by
 obtain⟨v,h1,h2,h3⟩:=r.sl i _ e;obtain⟨a,vs,rfl,f,hr,hh,q⟩:=(show iF K rl F H v xs from h2);have hi:i<ρ.length:=(HM.mp e).1;have neF:∀b u,F b=some u->b≠a:=fun b u q z=>by subst z;rw[f]at q;cases q
 have fsm:bU F (Ex F a (.lst vs)):=fun b u z=>by rw[ar (neF b u z)];exact z
 refine⟨Ex F a (.lst vs),r.g.freeze (h3 a rfl) hh f hr,fun j w e1=>?_,fun j k ys zs u hjk e1 e2 w1 w2 s1 s2=>?_,fun j ys z=>?_,by simp[r.len]⟩
 · by_cases hj:i=j
   · subst hj;rw[HU hi]at e1;cases e1;exact⟨.ref a,h1,.lst aG (q.mono fsm),trivial⟩
   · rw[HQ hj]at e1;obtain⟨u,g1,g2,g3⟩:=r.sl j w e1;refine⟨u,g1,?_,g3⟩
     have own:∀ys,(∀zs,w = .ml zs->ys=zs)->iF K rl F H u ys->(∃b,u = .ref b/\b≠a)->iF K rl (Ex F a (.lst vs)) H u ys:=fun ys _ ⟨b,us,eb,f1,f2,f3,f4⟩ ⟨b',eb',ne⟩=>by
      rw[eb]at eb';cases eb';exact⟨b,us,eb,by rw[ar ne];exact f1,f2,f3,f4.mono fsm⟩
     cases w with
     | d x=>exact Rep.mono fsm g2
     | reel=>exact g2
     | vv u=>exact g2
     | ml ys =>
       obtain⟨b,us,eb,f1,f2,f3,f4⟩:=(show iF K rl F H u ys from g2);have ne:b≠a:=fun z=>r.ap i j _ _ (.ref a) hj e e1 rfl rfl h1 (by rw[g1,eb,z])
       exact⟨b,us,eb,by rw[ar ne];exact f1,f2,f3,f4.mono fsm⟩
     | pk ys=>exact absurd e1 (r.np j ys)
     | md ys =>
       obtain⟨b,us,eb,f1,f2,f3,f4⟩:=(show wS K rl F H u ys from g2);have ne:b≠a:=fun z=>r.ap i j _ _ (.ref a) hj e e1 rfl rfl h1 (by rw[g1,eb,z])
       exact⟨b,us,eb,by rw[ar ne];exact f1,f2,f3,Jc.mapP f4 fun _ _ z=>⟨z.1,z.2.mono fsm⟩⟩
     | mk ys =>
       obtain⟨b,us,eb,f1,f2,f3,f4⟩:=(show wR K rl F H u ys from g2);have ne:b≠a:=fun z=>r.ap i j _ _ (.ref a) hj e e1 rfl rfl h1 (by rw[g1,eb,z])
       exact⟨b,us,eb,by rw[ar ne];exact f1,f2,f3,Jc.mapP f4 fun _ _ z=>⟨z.1,z.2.mono fsm⟩⟩
     | xm ys =>
       obtain⟨b,us,eb,f1,f2,f3,f4⟩:=(show tD K rl F H u ys from g2);have ne:b≠a:=fun z=>r.ap i j _ _ (.ref a) hj e e1 rfl rfl h1 (by rw[g1,eb,z])
       exact⟨b,us,eb,by rw[ar ne];exact f1,f2,f3,KX.mono f4 fsm⟩
     | nt ds=>obtain⟨b,us,eb,f1,f2⟩:=g2;exact⟨b,us,eb,fsm _ _ f1,f2.mono fsm⟩
     | lk=>trivial
     | sc ns=>obtain⟨b,eb,f1⟩:=g2;exact⟨b,eb,oP fsm f1⟩
     | fd kvs=>obtain⟨b,us,eb,f1,f2⟩:=g2;exact⟨b,us,eb,fsm _ _ f1,Jc.mapP f2 fun _ _ z=>⟨z.1,z.2.mono fsm⟩⟩
     | xr kvs=>obtain⟨b,us,eb,f1,f2⟩:=g2;exact⟨b,us,eb,fsm _ _ f1,KX.mono f2 fsm⟩
     | xw a kvs=>obtain⟨us,eb,f1,f2⟩:=g2;exact⟨us,eb,fsm _ _ f1,KX.mono f2 fsm⟩
     | fw kvs=>obtain⟨b,us,o,eb,f1,f2⟩:=g2;exact⟨b,us,o,eb,fsm _ _ f1,Jc.mapP f2 fun _ _ z=>⟨z.1,z.2.mono fsm⟩⟩
     | ft kvs=>obtain⟨b,us,o,eb,f1,f2⟩:=g2;exact⟨b,us,o,eb,fsm _ _ f1,Jc.mapP f2 fun _ _ z=>⟨z.1,z.2.mono fsm⟩⟩
     | xc _ _=>obtain⟨b,dx,us,C,eb,n,f1,f3,f2⟩:=g2;exact⟨b,dx,us,C,eb,n,fsm _ _ f1,fsm _ _ f3,Jc.mapP f2 fun _ _ z=>⟨z.1,z.2.mono fsm⟩⟩
     | dp _ _=>obtain⟨c,b,us,u,o,eb,f1,f3,f2,z⟩:=g2;exact⟨c,b,us,u,o,eb,fsm _ _ f1,fsm _ _ f3,Jc.mapP f2 fun _ _ z=>⟨z.1,z.2.mono fsm⟩,z.mono fsm⟩
 · have nd:∀(j:Nat)(y:W),(ρ.set i (some (W.d (.list xs))))[j]?=some (some y)->y.own=true->ρ[j]?=some (some y):=fun j y z o=>by
     by_cases hj:i=j
     · subst hj;rw[HU hi]at z;cases z;cases o
     · rw[HQ hj]at z;exact z
   exact r.ap j k ys zs u hjk (nd j ys e1 w1) (nd k zs e2 w2) w1 w2 s1 s2
 · rw[IW]at z;split at z
   · first|cases z|(split at z<;>cases z)
   · exact r.np j ys z
end
abbrev TV:=En->(W->Prop)->Prop
abbrev TB:=En->(Bool->Prop)->Prop
abbrev Gi:=En->(List W->Prop)->Prop
abbrev fF(K:W.Frag)(rl:RlT)(F H:Hp):List V->List W->Prop:=Jc (dB K rl F H)
noncomputable def PV(X:Cx)(rl:RlT)(e:Expr)(f:TV):Prop:=∃t,PE X e t/\∀{F₀ H₀ F H:Hp}{σ:St}{ρ:En},VR X.K rl F₀ H₀ F H σ ρ->∀(Qd:W->Prop)(Q:VK),f ρ Qd ->
 (∀v w F' H',Grow rl F H F' H'->dB X.K rl F' H' v w->eB H v w->Qd w->Q v H')->t σ H Q
noncomputable def PB(X:Cx)(rl:RlT)(e:Expr)(f:TB):Prop:=∃t,PT X e t/\∀{F₀ H₀ F H:Hp}{σ:St}{ρ:En},VR X.K rl F₀ H₀ F H σ ρ->∀(Qd:Bool->Prop)(Q:Bool->Hp->Prop),f ρ Qd ->
 (∀b F' H',Grow rl F H F' H'->Qd b->Q b H')->t σ H Q
noncomputable def Gz(X:Cx)(rl:RlT)(es:List Expr)(f:Gi):Prop:=∃t,PA X es t/\∀{F₀ H₀ F H:Hp}{σ:St}{ρ:En},VR X.K rl F₀ H₀ F H σ ρ->∀(Qd:List W->Prop)(Q:List V->Hp->Prop),f ρ Qd ->
 (∀vs ws F' H',Grow rl F H F' H'->fF X.K rl F' H' vs ws->Qd ws->Q vs H')->t σ H Q
noncomputable def W.fz:W->W
 | .ml xs=>.d (.list xs)
 | .nt ds=>.d (.tuple ds)
 | w=>w
theorem dB.fz{K:W.Frag}{rl:RlT}{F1 H1:Hp}{w:W}(g:Grow rl F H F1 H1)(r:dB K rl F1 H1 v w)(n:eB H v w):∃F2,Grow rl F H F2 H1/\bU F1 F2/\dB K rl F2 H1 v w.fz:=by
 cases w with
 | d x=>exact⟨F1,g,.refl _,r⟩
 | pk xs=>exact⟨F1,g,.refl _,r⟩
 | reel=>exact⟨F1,g,.refl _,r⟩
 | vv u=>exact⟨F1,g,.refl _,r⟩
 | md u=>exact⟨F1,g,.refl _,r⟩
 | mk u=>exact⟨F1,g,.refl _,r⟩
 | xm u=>exact⟨F1,g,.refl _,r⟩
 | lk=>exact⟨F1,g,.refl _,r⟩
 | sc _=>exact⟨F1,g,.refl _,r⟩
 | fd _=>exact⟨F1,g,.refl _,r⟩
 | xr _=>exact⟨F1,g,.refl _,r⟩
 | xw _ _=>exact⟨F1,g,.refl _,r⟩
 | fw _=>exact⟨F1,g,.refl _,r⟩
 | ft _=>exact⟨F1,g,.refl _,r⟩
 | xc _ _=>exact⟨F1,g,.refl _,r⟩
 | dp _ _=>exact⟨F1,g,.refl _,r⟩
 | nt ds=>obtain⟨a,vs,rfl,h,q⟩:=r;exact⟨F1,g,.refl _,.tup (.inl (.inl h)) q⟩
 | ml xs =>
   obtain⟨a,vs,rfl,f,hr,hh,q⟩:=(show iF K rl F1 H1 v xs from r);have neF:∀b u,F1 b=some u->b≠a:=fun b u q z=>by subst z;rw[f]at q;cases q
   have fsm:bU F1 (Ex F1 a (.lst vs)):=fun b u z=>by rw[ar (neF b u z)];exact z
   exact⟨Ex F1 a (.lst vs),g.freeze (n a rfl) hh f hr,fsm,.lst aG (q.mono fsm)⟩
section
variable{X:Cx}{rl:RlT}{a b e:Expr}{es:List Expr}{fa fb fc:TV}{fs:Gi}{pos p:Pos}
noncomputable def vC(x:Hi):TV:=fun _ Q=>Q (.d x)
theorem ge{x:Hi}(h:PE X e (tC v))(r:∀F,Rep X.K F v x):PV X rl e (vC x) :=
 ⟨_,h,fun R Qd Q q k=>k v (.d x) _ _ (Grow.refl R.sub R.reel) (r _) trivial q⟩
theorem af{i:Int}{j pos}:PV X rl (.Constant (.int i) j pos) (vC (.int i)):=ge l9 fun _=>.int i
theorem nn{i:Bool}{j pos}:PV X rl (.Constant (.bool i) j pos) (vC (.bool i)):=ge AZ fun _=>.bl i
theorem fT{j pos}:PV X rl (.Constant (.str x) j pos) (vC (.str x)):=ge eX fun _=>.str x
theorem vB{u:Hq}{pos:Pos}(hm:X.mg x=some u)(r:RelV v u)(h:∀F,Rep X.K F v d)(hg:autoParam (Gl X x) æa._auto_1)(hd:autoParam ((x==("__debug__" : Str))=false) æb._auto_1):PV X rl (.Name x pos) (vC d) :=
 ge (vP hg hm r hd) h
noncomputable def gi(i:Nat):TV:=fun ρ Q=>∃w,ρ[i]?=some (some w)/\Q w.peek
theorem vn(i:Nat){pos:Pos}(hN:autoParam (X.N[i]?=some x) æa._auto_1)(hv:autoParam (Gf X.env.scope x) æd._auto_1)(hd:autoParam ((x==("__debug__" : Str))=false) æb._auto_1)
 (hcd:autoParam ((x==("__classdict__" : Str))=false) æb._auto_1):PV X rl (.Name x pos) (gi i) :=
 ⟨_,dR hN hv hd hcd,fun R Qd Q ⟨w,e,q⟩ k=>by
  obtain⟨v,e1,r,_⟩:=R.sl i w e;refine⟨v,e1,k v w.peek _ _ (Grow.refl R.sub R.reel) r.peek ?_ q⟩
  cases w<;>trivial⟩
noncomputable def om:Gi:=fun _ Q=>Q []
noncomputable def bh(f:TV)(fs:Gi):Gi:=fun ρ Q=>f ρ fun w=>fs ρ fun ws=>Q (w.fz::ws)
theorem ab:Gz X rl [] om:=⟨_,yL,fun R Qd Q q k=>k [] [] _ _ (Grow.refl R.sub R.reel) .nil q⟩
theorem aa(h1:PV X rl e fa)(h2:Gz X rl es fs)(hs:autoParam (HA (e::es) X.env=(false,eval e X.env)::HA es X.env) æa._auto_1):Gz X rl (e::es) (bh fa fs):=by
 obtain⟨t,p1,k1⟩:=h1;obtain⟨ts,p2,k2⟩:=h2;refine⟨_,pF p1 p2 hs,fun R Qd Q q k=>?_⟩;refine k1 R _ _ q fun v w F1 H1 g1 r1 n1 q1=>?_;obtain⟨F2,g2,s2,r2⟩:=dB.fz g1 r1 n1;refine k2 (R.grow g2) _ _ q1 fun vs ws F3 H3 g3 r3 q3=>?_;exact k (v::vs) (w.fz::ws) F3 H3 (g2.trans g3) (.cons (r2.grow g3) r3) q3
noncomputable def Gg(X:Cx)(rl:RlT)(r:R2)(g:W->W->(W->Prop)->Prop):Prop:=∀{F H:Hp}{x y:V}{wx wy:W}(Qd:W->Prop)(Q:VK),bU F H->Gx rl F H->dB X.K rl F H x wx->dB X.K rl F H y wy->g wx wy Qd ->
 (∀v w F' H',Grow rl F H F' H'->dB X.K rl F' H' v w->eB H v w->Qd w->Q v H')->r x y H Q
noncomputable def Eu(g:W->W->(W->Prop)->Prop)(fa fb:TV):TV:=fun ρ Q=>fa ρ fun x=>fb ρ fun y=>g x y Q
theorem nZ{r:R2}{g:W->W->(W->Prop)->Prop}(vo:Gg X rl r g)(ha:PV X rl a fa)(hb:PV X rl b fb){e:Expr}(hp:∀ta tb,PE X a ta->PE X b tb->PE X e (EM r ta tb)):PV X rl e (Eu g fa fb):=by
 obtain⟨ta,p1,k1⟩:=ha;obtain⟨tb,p2,k2⟩:=hb;refine⟨_,hp ta tb p1 p2,fun R Qd Q q k=>?_⟩;refine k1 R _ _ q fun v w F1 H1 g1 r1 n1 q1=>?_;refine k2 (R.grow g1) _ _ q1 fun v2 w2 F2 H2 g2 r2 n2 q2=>?_
 exact vo Qd Q g2.sub g2.reel (r1.grow g2) r2 q2 fun v3 w3 F3 H3 g3 r3 n3 q3=>k v3 w3 F3 H3 ((g1.trans g2).trans g3) r3 (by
  cases w3 with
  | ml xs=>exact fun a ea=>g1.freeB (g2.freeB (n3 a ea))
  | md xs=>exact fun a ea=>g1.freeB (g2.freeB (n3 a ea))
  | mk xs=>exact fun a ea=>g1.freeB (g2.freeB (n3 a ea))
  | xm xs=>exact fun a ea=>g1.freeB (g2.freeB (n3 a ea))
  | nt _=>trivial
  | lk=>trivial
  | sc _=>trivial
  | fd _=>trivial
  | xr _=>trivial
  | xw _ _=>trivial
  | fw _=>trivial
  | ft _=>trivial
  | xc _ _=>trivial
  | dp _ _=>trivial
  | d _=>trivial
  | pk _=>trivial
  | reel=>trivial
  | vv _=>trivial) q3
theorem i8{op:Nv}{r:R2}{g:W->W->(W->Prop)->Prop}(ho:GL X (Ka op) r)(vo:Gg X rl r g)(ha:PV X rl a fa)(hb:PV X rl b fb):PV X rl (.BinOp a op b pos) (Eu g fa fb) :=
 nZ vo ha hb fun _ _ p1 p2=>yD ho p1 p2
noncomputable def gI(C:Int->Int->Prop)(g:Int->Int->Hi):W->W->(W->Prop)->Prop:=fun x y Q=>∃i j,x = .d (.int i)/\y = .d (.int j)/\C i j/\Q (.d (g i j))
theorem bF{K:W.Frag}{i:Int}(h:Rep K F v (.int i)):v = .int i:=by cases h;rfl
theorem iG{C:Int->Int->Prop}{g:Int->Int->V}{gd:Int->Int->Hi}(h:∀K F i j,Rep K F (g i j) (gd i j)):Gg X rl (rI C g) (gI C gd):=fun{F H x y wx wy} Qd Q s ra r1 r2 q k=>by
 obtain⟨i,j,rfl,rfl,c,q⟩:=q;exact⟨i,j,bF r1,bF r2,c,k _ (.d _) _ _ (Grow.refl s ra) (h _ _ i j) trivial q⟩
noncomputable def FT(g:Int->Int->Hi):W->W->(W->Prop)->Prop:=fun x y Q=>∃i j,x = .d (.int i)/\y = .d (.int j)/\Q (.d (g i j))
theorem dE{g:Int->Int->V}{gd:Int->Int->Hi}(h:∀K F i j,Rep K F (g i j) (gd i j)):Gg X rl (E6 g) (FT gd):=fun{F H x y wx wy} Qd Q s ra r1 r2 q k=>by
 obtain⟨i,j,rfl,rfl,q⟩:=q;exact⟨i,j,bF r1,bF r2,k _ (.d _) _ _ (Grow.refl s ra) (h _ _ i j) trivial q⟩
theorem v_add(ha:PV X rl a fa)(hb:PV X rl b fb):PV X rl (.BinOp a .Add b pos) (Eu (FT fun i j=>.int (i+j)) fa fb):=i8 ug (dE fun _ _ _ _=>.int _) ha hb
theorem v_sub(ha:PV X rl a fa)(hb:PV X rl b fb):PV X rl (.BinOp a .Sub b pos) (Eu (FT fun i j=>.int (i-j)) fa fb):=i8 uf (dE fun _ _ _ _=>.int _) ha hb
noncomputable def Hb(i:Int):Prop:=i.natAbs<2^60000
theorem Hb.bits{i:Int}(h:Hb i):Builtin.Int.intBits i<=60000:=Nc.mpr h
noncomputable def bj(i j:Int):Prop:=i.natAbs<2^64\/j.natAbs<2^64\/(Hb i/\Hb j)
theorem bj.lt{i:Int}(h:i.natAbs<2^64):bj i j:=.inl h
theorem bj.rt{i:Int}(h:j.natAbs<2^64):bj i j:=.inr (.inl h)
theorem bj.bb{i:Int}(h:Hb i)(h':Hb j):bj i j:=.inr (.inr ⟨h,h'⟩)
theorem bj.ok{i:Int}(h:bj i j):IntMulOk i j:=by
 rcases h with h|h|h
 · exact .of_left (Nc.mpr h)
 · exact .of_right (Nc.mpr h)
 · exact IntMulOk.of_le h.1.bits h.2.bits (by decide)
theorem vU:GL X (Ka .Mult) (rI bj fun i j=>.int (i*j)):=Ff fun _ _ _ _ _ _ _ hc q=>mul_int q hc.ok
theorem v_mul(ha:PV X rl a fa)(hb:PV X rl b fb):PV X rl (.BinOp a .Mult b pos) (Eu (gI bj fun i j=>.int (i*j)) fa fb):=i8 vU (iG fun _ _ _ _=>.int _) ha hb
noncomputable def eC(_ j:Int):Prop:=j≠0/\j.natAbs<2^9000
theorem r_:GL X (Ka .FloorDiv) (rI eC fun i j=>.int (i.fdiv j)):=Ff fun _ j _ _ _ _ _ hc q=>floordiv_int hc.1 q (.inl (PyProof.noPylong_of_log2 ((Nat.log2_lt (by have:=hc.1;omega)).mpr hc.2)))
theorem v_div(ha:PV X rl a fa)(hb:PV X rl b fb):PV X rl (.BinOp a .FloorDiv b pos) (Eu (gI eC fun i j=>.int (i.fdiv j)) fa fb):=i8 r_ (iG fun _ _ _ _=>.int _) ha hb
theorem v_mod(ha:PV X rl a fa)(hb:PV X rl b fb):PV X rl (.BinOp a .Mod b pos) (Eu (gI (fun _ j=>j≠0) fun i j=>.int (i.fmod j)) fa fb):=i8 vV (iG fun _ _ _ _=>.int _) ha hb
theorem v_pow(ha:PV X rl a fa)(hb:PV X rl b fb):PV X rl (.BinOp a .Pow b pos) (Eu (gI Ah fun i j=>.int (i^j.toNat)) fa fb):=i8 yM (iG fun _ _ _ _=>.int _) ha hb
noncomputable def Av(fa:TV):TV:=fun ρ Q=>fa ρ fun x=>∃i,x = .d (.int i)/\Q (.d (.int (-i)))
theorem xD(ha:PV X rl a fa):PV X rl (.UnaryOp .USub a pos) (Av fa):=by
 obtain⟨ta,p1,k1⟩:=ha;refine⟨_,yC tN p1,fun R Qd Q q k=>k1 R _ _ q fun v w F1 H1 g1 r1 n1 ⟨i,ew,q1⟩=>?_⟩;subst ew;exact⟨i,bF r1,k _ (.d _) F1 H1 g1 (.int _) trivial q1⟩
theorem hR{r:R2}{g:W->W->(W->Prop)->Prop}(ho:GL X (Kh op) r)(vo:Gg X rl r g)(hm:Kt op b=false)(ha:PV X rl a fa)(hb:PV X rl b fb):PV X rl (.Compare a [op] [b] pos) (Eu g fa fb) :=
 nZ vo ha hb fun _ _ p1 p2=>vR ho p1 p2 hm
noncomputable def mZ(f:TV):TB:=fun ρ Q=>f ρ fun w=>∃k,w = .d (.bool k)/\Q k
theorem eG{K:W.Frag}{i:Bool}(h:Rep K F v (.bool i)):v = .bl i:=by cases h;rfl
theorem cC{r:R2}{g:W->W->(W->Prop)->Prop}(ho:GL X (Kh op) r)(vo:Gg X rl r g)(hm:Kt op b=false)(ha:PV X rl a fa)(hb:PV X rl b fb):PB X rl (.Compare a [op] [b] pos) (mZ (Eu g fa fb)):=by
 obtain⟨ta,p1,k1⟩:=ha;obtain⟨tb,p2,k2⟩:=hb;refine⟨_,pd ho p1 p2 hm,fun R Qd Q q k=>?_⟩;refine k1 R _ _ q fun v w F1 H1 g1 r1 n1 q1=>?_;refine k2 (R.grow g1) _ _ q1 fun v2 w2 F2 H2 g2 r2 n2 q2=>?_;refine vo _ _ g2.sub g2.reel (r1.grow g2) r2 q2 fun v3 w3 F3 H3 g3 r3 n3 ⟨kb,ew,q3⟩=>?_;subst ew;exact⟨kb,eG r3,k kb F3 H3 ((g1.trans g2).trans g3) q3⟩
theorem jt(ha:PV X rl e fa)(he:autoParam (∀whole,isTrue e X.env whole=(do let v <- whole;Nk e.pos;holding [v] (truthy v))) æc._auto_1):PB X rl e (mZ fa):=by
 obtain⟨ta,p1,k1⟩:=ha;refine⟨_,t_ p1 he,fun R Qd Q q k=>k1 R _ _ q fun v w F1 H1 g1 r1 n1 ⟨kb,ew,q1⟩=>?_⟩;subst ew;exact⟨kb,eG r1,k kb F1 H1 g1 q1⟩
abbrev Bm(p:Int->Int->Bool):=FT fun i j=>.bool (p i j)
theorem n6:Gg X rl (E6 fun i j=>.bl (decide (i<j))) (Bm fun i j=>decide (i<j)):=dE fun _ _ _ _=>.bl _
theorem xl:Gg X rl (E6 fun i j=>.bl (decide (j<i))) (Bm fun i j=>decide (j<i)):=dE fun _ _ _ _=>.bl _
theorem Al:Gg X rl (E6 fun i j=>.bl (decide (j<=i))) (Bm fun i j=>decide (j<=i)):=dE fun _ _ _ _=>.bl _
noncomputable def AU(K:W.Frag)(neg:Bool):R2:=fun x y H Q=>∃dx dy,Rep K H x dx/\Rep K H y dy/\IK dx=true/\IK dy=true/\Q (.bl (if neg then !IL dx dy else IL dx dy)) H
theorem eZ(hu:X.A.units+64<LM):GL X (Kh .Eq) (AU X.K false):=by
 intro pins s σ H x y v u Q I rx ry ⟨dx,dy,h1,h2,s1,s2,q⟩;obtain⟨as,a1⟩:=Rep.reads I (.refl H) h1 v rx;obtain⟨bs,a2⟩:=Rep.reads I (.refl H) h2 u ry;exact SeqAt.compareEq_shaped a1 a2 s1 s2 hu ⟨.bl _,H,I,rfl,q⟩
theorem ip(hu:X.A.units+64<LM):GL X (Kh .NotEq) (AU X.K true):=by
 intro pins s σ H x y v u Q I rx ry ⟨dx,dy,h1,h2,s1,s2,q⟩;obtain⟨as,a1⟩:=Rep.reads I (.refl H) h1 v rx;obtain⟨bs,a2⟩:=Rep.reads I (.refl H) h2 u ry;exact SeqAt.compareNe_shaped a1 a2 s1 s2 hu ⟨.bl _,H,I,rfl,q⟩
noncomputable def Bk(neg:Bool):W->W->(W->Prop)->Prop:=fun x y Q=>∃dx dy,x.dat=some dx/\y.dat=some dy/\IK dx=true/\IK dy=true/\Q (.d (.bool (if neg then !IL dx dy else IL dx dy)))
theorem df{neg:Bool}:Gg X rl (AU X.K neg) (Bk neg):=fun{F H x y wx wy} Qd Q s ra r1 r2 q k=>by
 obtain⟨dx,dy,e1,e2,s1,s2,q⟩:=q;exact⟨dx,dy,r1.dat s e1,r2.dat s e2,s1,s2,k _ (.d _) _ _ (Grow.refl s ra) (.bl _) trivial q⟩
noncomputable def C0(K:W.Frag)(neg:Bool):R2:=fun x y H Q=>∃dx ys,Rep K H x dx/\(Rep K H y (.list ys)\/Rep K H y (.tuple ys))/\IK dx=true/\IE ys=true/\Q (.bl (if neg then !(ys.any fun z=>IL z dx)else ys.any fun z=>IL z dx)) H
theorem pZ{ys:List Hi}(hu:A.units+65<LM)(h:IK d=true):A.units+1+min (IN ys) d.depth<LM:=by
 have h1:=SeqAt.depth_of_shaped h;have h2:min (IN ys) d.depth<=d.depth:=Nat.min_le_right _ _;omega
theorem eY(hu:X.A.units+65<LM):GL X (Kh .NotIn) (C0 X.K true):=by
 intro pins s σ H x y v u Q I rx ry ⟨dx,ys,h1,h2,s1,s2,q⟩;obtain⟨as,a1⟩:=Rep.reads I (.refl H) h1 v rx;rcases h2 with h2|h2
 · obtain⟨bs,a2⟩:=Rep.reads I (.refl H) h2 u ry;exact SeqAt.notIn_list_reads a2 a1 s2 (My s1) (pZ hu s1) ⟨.bl _,H,I,rfl,q⟩
 · obtain⟨bs,a2⟩:=Rep.reads I (.refl H) h2 u ry;exact SeqAt.notIn_tuple_reads a2 a1 s2 (My s1) (pZ hu s1) ⟨.bl _,H,I,rfl,q⟩
noncomputable def Bj(neg:Bool):W->W->(W->Prop)->Prop:=fun x y Q=>∃dx ys,x.dat=some dx/\(y.dat=some (.list ys)\/y.dat=some (.tuple ys))/\IK dx=true/\IE ys=true/\Q (.d (.bool (if neg then !(ys.any fun z=>IL z dx)else ys.any fun z=>IL z dx)))
theorem lM{neg:Bool}:Gg X rl (C0 X.K neg) (Bj neg):=fun{F H x y wx wy} Qd Q s ra r1 r2 q k=>by
 obtain⟨dx,ys,e1,e2,s1,s2,q⟩:=q;exact⟨dx,ys,r1.dat s e1,e2.imp (fun e=>r2.dat s e) (fun e=>r2.dat s e),s1,s2,k _ (.d _) _ _ (Grow.refl s ra) (.bl _) trivial q⟩
noncomputable def zX(f g:TB):TB:=fun ρ Q=>f ρ fun b=>if b=true then g ρ Q else Q false
noncomputable def Et(f g:TB):TB:=fun ρ Q=>f ρ fun b=>if b=true then Q true else g ρ Q
noncomputable def Au(f:TB):TB:=fun ρ Q=>f ρ fun b=>Q (!b)
noncomputable def GK(X:Cx)(rl:RlT)(e:Expr)(f:TB):Prop:=∃t,PW X e t/\∀{F₀ H₀ F H:Hp}{σ:St}{ρ:En},VR X.K rl F₀ H₀ F H σ ρ->∀(Qd:Bool->Prop)(Q:Bool->Hp->Prop),f ρ Qd ->
 (∀b F' H',Grow rl F H F' H'->Qd b->Q b H')->t σ H Q
variable{f g:TB}{rest:List Expr}
theorem GK.pb(h:GK X rl e f):PB X rl e f:=let ⟨t,p,k⟩:=h;⟨t,p.pt,k⟩
theorem uL(ha:PB X rl a f):GK X rl (.BoolOp .And [a] pos) f:=let ⟨t,p,k⟩:=ha;⟨t,o7 p,k⟩
theorem xy(ha:PB X rl a f)(hb:GK X rl (.BoolOp .And (b::rest) pos) g):GK X rl (.BoolOp .And (a::b::rest) pos) (zX f g):=by
 obtain⟨t,p,k⟩:=ha;obtain⟨t2,p2,k2⟩:=hb;refine⟨_,t7 p p2,fun R Qd Q q h=>k R _ _ q fun c F1 H1 g1 q1=>?_⟩
 cases c with
 | true=>exact k2 (R.grow g1) _ _ q1 fun c F2 H2 g2 q2=>h c F2 H2 (g1.trans g2) q2
 | false=>exact h false F1 H1 g1 q1
theorem xx(ha:PB X rl a f):PB X rl (.UnaryOp .Not a pos) (Au f):=by
 obtain⟨t,p,k⟩:=ha;exact⟨_,ua p,fun R Qd Q q h=>k R _ _ q fun c F1 H1 g1 q1=>h (!c) F1 H1 g1 q1⟩
noncomputable def uU(fa fb:TV):TV:=fun ρ Q=>fa ρ fun w=>∃c,w = .d (.bool c)/\if c=true then fb ρ Q else Q (.d (.bool false))
noncomputable def At(fa fb:TV):TV:=fun ρ Q=>fa ρ fun w=>∃c,w = .d (.bool c)/\if c=true then Q (.d (.bool true))else fb ρ Q
noncomputable def uS(fa:TV):TV:=fun ρ Q=>fa ρ fun w=>∃c,w = .d (.bool c)/\Q (.d (.bool (!c)))
theorem eB.back{rl:RlT}{w:W}(g:Grow rl F H F' H')(n:eB H' v w):eB H v w:=by
 cases w with
 | ml xs=>exact fun a ea=>g.freeB (n a ea)
 | md xs=>exact fun a ea=>g.freeB (n a ea)
 | mk xs=>exact fun a ea=>g.freeB (n a ea)
 | xm xs=>exact fun a ea=>g.freeB (n a ea)
 | nt _=>trivial
 | lk=>trivial
 | sc _=>trivial
 | fd _=>trivial
 | xr _=>trivial
 | xw _ _=>trivial
 | fw _=>trivial
 | ft _=>trivial
 | xc _ _=>trivial
 | dp _ _=>trivial
 | d _=>trivial
 | pk _=>trivial
 | reel=>trivial
 | vv _=>trivial
theorem uN{op}(ha:PV X rl a fa):PV X rl (.BoolOp op [a] pos) fa:=let ⟨t,p,k⟩:=ha;⟨t,yE p,k⟩
theorem v_and(ha:PV X rl a fa)(hb:PV X rl (.BoolOp .And (b::rest) pos) fb):PV X rl (.BoolOp .And (a::b::rest) pos) (uU fa fb):=by
 obtain⟨t,p,k⟩:=ha;obtain⟨t2,p2,k2⟩:=hb;refine⟨_,yJ p p2,fun R Qd Q q h=>k R _ _ q fun v w F1 H1 g1 r1 n1 ⟨c,ew,q1⟩=>?_⟩;subst ew;refine⟨c,eG r1,?_⟩
 cases c with
 | true=>exact k2 (R.grow g1) _ _ q1 fun v w F2 H2 g2 r2 n2 q2=>h v w F2 H2 (g1.trans g2) r2 (n2.back g1) q2
 | false=>exact h _ (.d _) F1 H1 g1 (.bl false) trivial q1
theorem v_or(ha:PV X rl a fa)(hb:PV X rl (.BoolOp .Or (b::rest) pos) fb):PV X rl (.BoolOp .Or (a::b::rest) pos) (At fa fb):=by
 obtain⟨t,p,k⟩:=ha;obtain⟨t2,p2,k2⟩:=hb;refine⟨_,AY p p2,fun R Qd Q q h=>k R _ _ q fun v w F1 H1 g1 r1 n1 ⟨c,ew,q1⟩=>?_⟩;subst ew;refine⟨c,eG r1,?_⟩
 cases c with
 | false=>exact k2 (R.grow g1) _ _ q1 fun v w F2 H2 g2 r2 n2 q2=>h v w F2 H2 (g1.trans g2) r2 (n2.back g1) q2
 | true=>exact h _ (.d _) F1 H1 g1 (.bl true) trivial q1
theorem v_not(ha:PV X rl a fa):PV X rl (.UnaryOp .Not a pos) (uS fa):=by
 obtain⟨t,p,k⟩:=ha;refine⟨_,yF p,fun R Qd Q q h=>k R _ _ q fun v w F1 H1 g1 r1 n1 ⟨c,ew,q1⟩=>?_⟩;subst ew;exact⟨c,eG r1,h _ (.d _) F1 H1 g1 (.bl _) trivial q1⟩
noncomputable def Ew(t:TB)(fa fb:TV):TV:=fun ρ Q=>t ρ fun c=>if c=true then fa ρ Q else fb ρ Q
theorem uO{c:Expr}(hc:PB X rl c f)(ha:PV X rl a fa)(hb:PV X rl b fb):PV X rl (.IfExp c a b pos) (Ew f fa fb):=by
 obtain⟨t,p,k⟩:=hc;obtain⟨t1,p1,k1⟩:=ha;obtain⟨t2,p2,k2⟩:=hb;refine⟨_,rY p p1 p2,fun R Qd Q q h=>k R _ _ q fun c F1 H1 g1 q1=>?_⟩
 cases c with
 | true=>exact k1 (R.grow g1) _ _ q1 fun v w F2 H2 g2 r2 n2 q2=>h v w F2 H2 (g1.trans g2) r2 (n2.back g1) q2
 | false=>exact k2 (R.grow g1) _ _ q1 fun v w F2 H2 g2 r2 n2 q2=>h v w F2 H2 (g1.trans g2) r2 (n2.back g1) q2
noncomputable def ji:List W->Option (List Hi)
 | []=>some []
 | .d x::r=>(ji r).map (x :: ·)
 | _::_=>none
theorem eh{K:W.Frag}{F H:Hp}:∀{vs:List V}{ws:List W}{ds:List Hi},fF K rl F H vs ws->ji ws=some ds->Reps K F vs ds
 | _,_,_,.nil,e=>by cases e;exact .nil
 | _,.d x::ws,ds,.cons r rs,e=>by
   have e:(ji ws).map (x :: ·)=some ds:=e
   cases q:ji ws with
   | none=>rw[q]at e;cases e
   | some es=>rw[q]at e;cases e;exact .cons r (eh rs q)
 | _,.ml x::ws,ds,.cons r rs,e=>by cases(show none=some ds from e)
 | _,.pk x::ws,ds,.cons r rs,e=>by cases(show none=some ds from e)
 | _,.reel::ws,ds,.cons r rs,e=>by cases(show none=some ds from e)
 | _,.vv u::ws,ds,.cons r rs,e=>by cases(show none=some ds from e)
 | _,.md u::ws,ds,.cons r rs,e=>by cases(show none=some ds from e)
 | _,.nt u::ws,ds,.cons r rs,e=>by cases(show none=some ds from e)
 | _,.lk::ws,ds,.cons r rs,e=>by cases(show none=some ds from e)
 | _,.sc _::ws,ds,.cons r rs,e=>by cases(show none=some ds from e)
 | _,.fd _::ws,ds,.cons r rs,e=>by cases(show none=some ds from e)
 | _,.xr _::ws,ds,.cons r rs,e=>by cases(show none=some ds from e)
 | _,.xw _ _::ws,ds,.cons r rs,e=>by cases(show none=some ds from e)
 | _,.xc _ _::ws,ds,.cons r rs,e=>by cases(show none=some ds from e)
 | _,.mk _::ws,ds,.cons r rs,e=>by cases(show none=some ds from e)
 | _,.xm _::ws,ds,.cons r rs,e=>by cases(show none=some ds from e)
 | _,.fw _::ws,ds,.cons r rs,e=>by cases(show none=some ds from e)
 | _,.ft _::ws,ds,.cons r rs,e=>by cases(show none=some ds from e)
 | _,.dp _ _::ws,ds,.cons r rs,e=>by cases(show none=some ds from e)
noncomputable def zT(fs:Gi):TV:=fun ρ Q=>fs ρ fun ws=>∃ds,ji ws=some ds/\ds.length<=sizeLine/\Q (.d (.tuple ds))
noncomputable def Aw(fs:Gi):TV:=fun ρ Q=>fs ρ fun ws=>∃ds,ji ws=some ds/\ds.length<=sizeLine/\Q (.ml ds)
theorem bD{x1}(h:Gz X rl es fs):PV X rl (.Tuple es x1 pos) (zT fs):=by
 obtain⟨t,p,k⟩:=h;refine⟨_,ud p,fun R Qd Q q h=>k R _ _ q fun vs ws F1 H1 g1 r1 ⟨ds,e1,z,q1⟩=>?_⟩;have rs:=eh r1 e1;refine⟨by rw[rs.length];exact z,fun p hp=>?_⟩;have g2:=g1.trans (Grow.data (a:=p) (o:=.tup vs) g1.sub g1.reel hp);exact h _ (.d (.tuple ds)) _ _ g2 (.tup (.inl (.inl aG)) (rs.mono (Grow.data (o:=.tup vs) g1.sub g1.reel hp).fs)) trivial q1
theorem d9{K:W.Frag}{p:Addr}{ds:List Hi}(s:bU F H)(ra:Gx rl F H)(hp:H p=none)(rs:Reps K F vs ds):iF K rl F (Ex H p (.lst vs)) (.ref p) ds:=by
 refine⟨p,vs,rfl,s.free hp,fun e=>?_,aG,rs⟩;obtain⟨o,q⟩:=ra.live e;rw[hp]at q;cases q
theorem dP(h:Gz X rl es fs):PV X rl (.List es pos) (Aw fs):=by
 obtain⟨t,p,k⟩:=h;refine⟨_,yG p,fun R Qd Q q h=>k R _ _ q fun vs ws F1 H1 g1 r1 ⟨ds,e1,z,q1⟩=>?_⟩;have rs:=eh r1 e1;refine⟨by rw[rs.length];exact z,fun p hp=>?_⟩;exact h _ (.ml ds) _ _ (g1.trans (Grow.laid (a:=p) (o:=.lst vs) g1.sub g1.reel hp)) (d9 g1.sub g1.reel hp rs) (fun a ea=>by cases ea;exact g1.freeB hp) q1
noncomputable def itemAt:Hi->Int->Option Hi
 | .list xs,i=>atI xs i
 | .tuple xs,i=>atI xs i
 | _,_=>none
theorem Reps.atI{K:W.Frag}{F:Hp}{vs:List V}{ds:List Hi}{i:Int}{d:Hi}(r:Reps K F vs ds)(e:L2.atI ds i=some d):∃v,L2.atI vs i=some v/\Rep K F v d:=by
 unfold L2.atI at e ⊢;rw[r.length]
 cases q:ixN ds.length i with
 | none=>rw[q]at e;cases e
 | some j =>
   rw[q]at e;exact r.get e
noncomputable def FR:W->W->(W->Prop)->Prop:=fun x y Q=>∃dx i z,x.dat=some dx/\y = .d (.int i)/\itemAt dx i=some z/\Q (.d z)
theorem xk:Gg X rl (E5 X.K) FR:=fun{F H x y wx wy} Qd Q s ra r1 r2 q k=>by
 obtain⟨dx,i,z,e1,rfl,e3,q⟩:=q;have ey:=bF r2;subst ey
 cases dx with
 | list xs =>
   obtain⟨a,vs,rfl,sq,rs⟩:=r1.items s e1;obtain⟨v,e4,rz⟩:=Reps.atI rs e3
   exact .inl ⟨a,vs,i,v,rfl,rfl,sq,e4,k _ (.d _) _ _ (Grow.refl s ra) rz trivial q⟩
 | tuple xs =>
   obtain⟨a,vs,rfl,sq,rs⟩:=r1.itemsT s e1;obtain⟨v,e4,rz⟩:=Reps.atI rs e3
   exact .inr (.inl ⟨a,vs,i,v,rfl,rfl,sq,e4,k _ (.d _) _ _ (Grow.refl s ra) rz trivial q⟩)
 | none=>cases e3
 | bool b=>cases e3
 | int b=>cases e3
 | str b=>cases e3
 | dict b=>cases e3
theorem br(ha:PV X rl a fa)(hb:PV X rl b fb)(hs:autoParam (lE b) æg._auto_1):PV X rl (.Subscript a b pos) (Eu FR fa fb):=nZ xk ha hb fun _ _ p1 p2=>yH ul p1 p2 hs
noncomputable def fP(X:Cx)(rl:RlT)(r:List V->Hp->VK->Prop)(g:List W->(W->Prop)->Prop):Prop:=∀{F H:Hp}{vs:List V}{ws:List W}(Qd:W->Prop)(Q:VK),bU F H->Gx rl F H->fF X.K rl F H vs ws->g ws Qd ->
 (∀v w F' H',Grow rl F H F' H'->dB X.K rl F' H' v w->eB H v w->Qd w->Q v H')->r vs H Q
noncomputable def eA(g:List W->(W->Prop)->Prop)(fs:Gi):TV:=fun ρ Q=>fs ρ fun ws=>g ws Q
theorem lO{g:List W->(W->Prop)->Prop}{t:TA->TE}(vc:fP X rl r g)(ha:Gz X rl es fs){e:Expr}(hp:∀ta,PA X es ta->PE X e (EQ r ta)):PV X rl e (eA g fs):=by
 obtain⟨ta,p1,k1⟩:=ha;refine⟨_,hp ta p1,fun R Qd Q q k=>k1 R _ _ q fun vs ws F1 H1 g1 r1 q1=>?_⟩;exact vc Qd Q g1.sub g1.reel r1 q1 fun v w F2 H2 g2 r2 n2 q2=>k v w F2 H2 (g1.trans g2) r2 (n2.back g1) q2
theorem fH{id:String}{g:List W->(W->Prop)->Prop}(hc:fG X (.builtin id) r)(vc:fP X rl r g)(hm:X.mg x=none)(hv:Kp x=some (.builtin id))(ha:Gz X rl (e::es) fs)(hg:autoParam (Gl X x) æa._auto_1)(hn:autoParam (x ≠ "__name__") æb._auto_1)(hdb:autoParam ((x==("__debug__" : Str))=false) æb._auto_1)
 (he:autoParam (HA (e::es) X.env=(false,eval e X.env)::HA es X.env) æa._auto_1)(hpl:autoParam ((Jl pos (HA es X.env)).any (·.1)=false) æa._auto_1):PV X rl (.Call (.Name x p) (e::es) [] pos) (eA g fs) :=
 lO (t:=fun _=>tC .non) vc ha fun _ p1=>rZ hc hg hm hv p1 hn hdb he hpl
theorem iJ{T:String}{g:List W->(W->Prop)->Prop}(hc:fG X (.type T) r)(vc:fP X rl r g)(hm:X.mg x=none)(hv:Kp x=some (.type T))(ha:Gz X rl (e::es) fs)(hg:autoParam (Gl X x) æa._auto_1)(hn:autoParam (x ≠ "__name__") æb._auto_1)(hdb:autoParam ((x==("__debug__" : Str))=false) æb._auto_1)
 (he:autoParam (HA (e::es) X.env=(false,eval e X.env)::HA es X.env) æa._auto_1)(hpl:autoParam ((Jl pos (HA es X.env)).any (·.1)=false) æa._auto_1):PV X rl (.Call (.Name x p) (e::es) [] pos) (eA g fs) :=
 lO (t:=fun _=>tC .non) vc ha fun _ p1=>jO hc hg hm hv p1 hn hdb he hpl
theorem oU{K:W.Frag}{w:W}(r:fF K rl F H vs [w]):∃v,vs=[v]/\dB K rl F H v w:=by
 cases r with
 | cons r1 r2=>cases r2;exact⟨_,rfl,r1⟩
theorem CT{K:W.Frag}{w w':W}(r:fF K rl F H vs [w,w']):∃v u,vs=[v,u]/\dB K rl F H v w/\dB K rl F H u w':=by
 cases r with
 | cons r1 r2 =>
   cases r2 with
   | cons r3 r4=>cases r4;exact⟨_,_,rfl,r1,r3⟩
noncomputable def Ae:List W->(W->Prop)->Prop:=fun ws Q=>∃i,ws=[.d (.int i)]/\Q (.d (.int (if i<0 then -i else i)))
theorem xv:fP X rl (fun xs H Q=>∃i,xs=[.int i]/\Q (.int (if i<0 then -i else i)) H) Ae:=fun{F H vs ws} Qd Q s ra r ⟨i,ew,q⟩ k=>by
 subst ew;obtain⟨v,rfl,r1⟩:=oU r;have e:=bF r1;subst e;exact⟨i,rfl,k _ (.d _) _ _ (Grow.refl s ra) (.int _) trivial q⟩
noncomputable def lj:Hi->Option Nat
 | .list xs=>some xs.length
 | .tuple xs=>some xs.length
 | _=>none
noncomputable def Ab:List W->(W->Prop)->Prop:=fun ws Q=>∃w d n,ws=[w]/\w.dat=some d/\lj d=some n/\Q (.d (.int n))
theorem xq:fP X rl (fun xs H Q=>∃p ys,xs=[.ref p]/\(Gq X.K H p ys\/Gp X.K H p ys)/\Q (.int ys.length) H) Ab:=fun{F H vs ws} Qd Q s ra r ⟨w,d,n,ew,e1,e2,q⟩ k=>by
 subst ew;obtain⟨v,rfl,r1⟩:=oU r
 cases d with
 | list xs =>
   obtain⟨a,vs,rfl,sq,rs⟩:=r1.items s e1;cases e2
   exact⟨a,vs,rfl,.inl sq,k _ (.d _) _ _ (Grow.refl s ra) (by rw[rs.length];exact .int _) trivial q⟩
 | tuple xs =>
   obtain⟨a,vs,rfl,sq,rs⟩:=r1.itemsT s e1;cases e2
   exact⟨a,vs,rfl,.inr sq,k _ (.d _) _ _ (Grow.refl s ra) (by rw[rs.length];exact .int _) trivial q⟩
 | none=>cases e2
 | bool b=>cases e2
 | int b=>cases e2
 | str b=>cases e2
 | dict b=>cases e2
end
structure VEnds where
 nx:En->Prop
 rt:W->Prop
 bk:En->Prop:=fun _=>False
 ct:En->Prop:=fun _=>False
structure EndsOk (K:W.Frag) (rl:RlT) (F₀ H₀ Fs:Hp) (Dv:VEnds) (D:Ends):Prop where
 nx:∀F H σ ρ,bU Fs F->VR K rl F₀ H₀ F H σ ρ->Dv.nx ρ->D.nx σ H
 rt:∀v w F H,Grow rl F₀ H₀ F H->dB K rl F H v w->eB H₀ v w->Dv.rt w->D.rt v H
 bk:∀F H σ ρ,bU Fs F->VR K rl F₀ H₀ F H σ ρ->Dv.bk ρ->D.bk σ H
 ct:∀F H σ ρ,bU Fs F->VR K rl F₀ H₀ F H σ ρ->Dv.ct ρ->D.ct σ H
theorem EndsOk.on{K:W.Frag}{rl:RlT}{Fs:Hp}{Dv:VEnds}{D:Ends}(ok:EndsOk K rl F₀ H₀ Fs Dv D)(s:bU Fs F):EndsOk K rl F₀ H₀ F Dv D :=
 ⟨fun F1 H σ ρ s1=>ok.nx F1 H σ ρ (s.trans s1),ok.rt,fun F1 H σ ρ s1=>ok.bk F1 H σ ρ (s.trans s1),fun F1 H σ ρ s1=>ok.ct F1 H σ ρ (s.trans s1)⟩
abbrev Gj:=VEnds->En->Prop
noncomputable def GD(X:Cx)(rl:RlT)(st:Stmt)(t:Gj):Prop:=∃T,PS X st T/\∀{F₀ H₀ F H:Hp}{σ:St}{ρ:En},VR X.K rl F₀ H₀ F H σ ρ->∀Dv D,EndsOk X.K rl F₀ H₀ F Dv D->t Dv ρ->T D σ H
noncomputable def mY(X:Cx)(rl:RlT)(st:List Stmt)(t:Gj):Prop:=∃T,GC X st T/\∀{F₀ H₀ F H:Hp}{σ:St}{ρ:En},VR X.K rl F₀ H₀ F H σ ρ->∀Dv D,EndsOk X.K rl F₀ H₀ F Dv D->t Dv ρ->T D σ H
section
variable{X:Cx}{rl:RlT}{st:Stmt}{rest body:List Stmt}{t u:Gj}{a b c e:Expr}{es:List Expr}{fa fb:TV}{fs:Gi}{f:TB}{pos p:Pos}
noncomputable def uT:Gj:=fun D ρ=>D.nx ρ
noncomputable def zU(t u:Gj):Gj:=fun D ρ=>t {D with nx:=u D} ρ
theorem c7:mY X rl [] uT:=⟨_,vH,fun R Dv D ok q=>ok.nx _ _ _ _ (.refl _) R q⟩
theorem ax(h:GD X rl st t):mY X rl [st] t:=let ⟨T,p,k⟩:=h;⟨T,kX p,k⟩
theorem au(h:GD X rl st t)(h2:mY X rl rest u):mY X rl (st::rest) (zU t u):=by
 obtain⟨T,p,k⟩:=h;obtain⟨T2,p2,k2⟩:=h2;exact⟨_,eW p p2,fun R Dv D ok q=>k R {Dv with nx:=u Dv} {D with nx:=T2 D} ⟨fun F H σ ρ s' R' q'=>k2 R' Dv D (ok.on s') q',ok.rt,ok.bk,ok.ct⟩ q⟩
noncomputable def Ay(fa:TV):Gj:=fun D ρ=>fa ρ fun _=>D.nx ρ
noncomputable def Ar(fa:TV):Gj:=fun D ρ=>fa ρ D.rt
theorem aH(h:PV X rl e fa):GD X rl (.Return (some e) pos) (Ar fa):=by
 obtain⟨t,p,k⟩:=h;exact⟨_,pg p,fun R Dv D ok q=>k R _ _ q fun v w F1 H1 g1 r1 n1 q1=>ok.rt v w F1 H1 (R.g.trans g1) r1 (n1.back R.g) q1⟩
noncomputable def Aq:Gj:=fun D _=>D.rt (.d .none)
noncomputable def zV(f:TB)(t u:Gj):Gj:=fun D ρ=>f ρ fun b=>if b=true then t D ρ else u D ρ
theorem eI{A B:List Stmt}(hc:PB X rl c f)(ha:mY X rl A t)(hb:mY X rl B u):GD X rl (.If c A B pos) (zV f t u):=by
 obtain⟨t0,p0,k0⟩:=hc;obtain⟨t1,p1,k1⟩:=ha;obtain⟨t2,p2,k2⟩:=hb;refine⟨_,yw p0 p1 p2,fun R Dv D ok q=>k0 R _ _ q fun b F1 H1 g1 q1=>?_⟩
 cases b with
 | true=>exact k1 (R.grow g1) Dv D (ok.on g1.fs) q1
 | false=>exact k2 (R.grow g1) Dv D (ok.on g1.fs) q1
theorem lK:GD X rl st (fun _ _=>False):=⟨_,rQ,fun _ _ _ _ q=>q.elim⟩
noncomputable def W.isPk:W->Bool
 | .pk _=>true
 | _=>false
noncomputable def Ap(i:Nat)(fa:TV):Gj:=fun D ρ=>fa ρ fun w=>w.isPk=false/\D.nx (ρ.set i (some w))
theorem eE(i:Nat)(hN:X.N.Nodup)(he:PV X rl e fa)(hi:autoParam (X.N[i]?=some x) æa._auto_1)(hx:autoParam (Loc X.env.scope x) æe._auto_1)
 (hs:autoParam (Ju e (some (.Name x pos')) pos.line X.env=pure false) æa._auto_1)(hf:autoParam (X.fn x=true\/X.env.scope.names.lookup x=some .local) æf._auto_1) :
 GD X rl (.Assign [.Name x pos'] e pos) (Ap i fa):=by
 obtain⟨t,p,k⟩:=he;refine⟨_,gC hN hi hx p hs hf,fun R Dv D ok q=>k R _ _ q fun v w F1 H1 g1 r1 n1 ⟨hp,q1⟩=>?_⟩;exact ok.nx _ _ _ _ g1.fs (R.set g1 r1 n1 (fun xs z=>by subst z;cases hp) i) q1
noncomputable def nK(ρ:En):Prop:=∀(i:Nat)(w:W),ρ[i]?=some (some w)->w.own=false
theorem nK.set{ρ:En}(h:nK ρ)(i:Nat)(x:Hi):nK (ρ.set i (some (.d x))):=fun j w z=>by
 rw[IW]at z;split at z
 · split at z
   · cases z;rfl
   · cases z
 · exact h j w z
abbrev Gn:=Hi->En->(En->Prop)->Prop
abbrev nS:=List Hi->En->(En->Prop)->Prop
noncomputable def GJ(X:Cx)(rl:RlT)(tg:Expr)(g:Gn):Prop:=∃G,PG X tg G/\∀{F₀ H₀ F H:Hp}{σ:St}{ρ:En},VR X.K rl F₀ H₀ F H σ ρ->∀(v:V)(x:Hi)(Qd:En->Prop)(Q:St->Hp->Prop),Rep X.K F v x->g x ρ Qd ->
 (∀F' H' σ' ρ',Grow rl F H F' H'->(nK ρ->nK ρ')->VR X.K rl F₀ H₀ F' H' σ' ρ'->Qd ρ'->Q σ' H')->G v σ H Q
noncomputable def Af(X:Cx)(rl:RlT)(tgs:List Expr)(g:nS):Prop:=∃G,GI X tgs G/\∀{F₀ H₀ F H:Hp}{σ:St}{ρ:En},VR X.K rl F₀ H₀ F H σ ρ->∀(vs:List V)(xs:List Hi)(Qd:En->Prop)(Q:St->Hp->Prop),Reps X.K F vs xs->g xs ρ Qd ->
 (∀F' H' σ' ρ',Grow rl F H F' H'->(nK ρ->nK ρ')->VR X.K rl F₀ H₀ F' H' σ' ρ'->Qd ρ'->Q σ' H')->G vs σ H Q
noncomputable def zc(i:Nat):Gn:=fun x ρ Q=>Q (ρ.set i (some (.d x)))
theorem ak(i:Nat)(hN:X.N.Nodup)(hi:autoParam (X.N[i]?=some x) æa._auto_1)(hx:autoParam (Loc X.env.scope x) æe._auto_1)(hf:autoParam (X.fn x=true\/X.env.scope.names.lookup x=some .local) æf._auto_1):GJ X rl (.Name x pos) (zc i) :=
 ⟨_,vN hN hi hx hf,fun R v x Qd Q r q k=>k _ _ _ _ (Grow.refl R.sub R.reel) (fun n=>n.set i x) (R.set (w:=.d x) (Grow.refl R.sub R.reel) r trivial (fun _ z=>by cases z) i) q⟩
noncomputable def Bh:nS:=fun xs ρ Q=>xs=[]/\Q ρ
noncomputable def sM(g:Gn)(gs:nS):nS:=fun xs ρ Q=>∃y r,xs=y::r/\g y ρ fun ρ'=>gs r ρ' Q
theorem cI:Af X rl [] Bh:=⟨_,vM,fun R vs xs Qd Q r ⟨e,q⟩ k=>by subst e;exact⟨r.nil_iff,k _ _ _ _ (Grow.refl R.sub R.reel) (fun n=>n) R q⟩⟩
theorem aI{g:Gn}{gs:nS}(h1:GJ X rl e g)(h2:Af X rl es gs)(hs:autoParam ((Kk (e::es) X.env).map (·.2)=Kz e X.env::(Kk es X.env).map (·.2)) æa._auto_1):Af X rl (e::es) (sM g gs):=by
 obtain⟨G,p,k⟩:=h1;obtain⟨G2,p2,k2⟩:=h2;refine⟨_,rW p p2 hs,fun R vs xs Qd Q r ⟨y,ys,ex,q⟩ h=>?_⟩;subst ex
 cases r with
 | cons r1 r2 =>
   refine⟨_,_,rfl,k R _ y _ _ r1 q fun F1 H1 σ1 ρ1 s1 n1 R1 q1=>?_⟩;exact k2 R1 _ ys _ _ (r2.mono s1.fs) q1 fun F2 H2 σ2 ρ2 s2 n2 R2 q2=>h F2 H2 σ2 ρ2 (s1.trans s2) (fun n=>n2 (n1 n)) R2 q2
noncomputable def Bg(n:Nat)(gs:nS):Gn:=fun x ρ Q=>∃xs,x = .tuple xs/\xs.length=n/\gs xs ρ Q
theorem dj{kk:Nat}{gs:nS}(hc:X.calm=true)(h:Af X rl es gs)(hn:autoParam ((Kk es X.env).length=n) æa._auto_1)(hst:autoParam ((Kk es X.env).findIdx? (·.1)=none) æa._auto_1):GJ X rl (.Tuple es kk pos) (Bg n gs):=by
 obtain⟨G,p,k⟩:=h;refine⟨_,yB hc p hn hst,fun R v x Qd Q r ⟨xs,ex,hl,q⟩ h=>?_⟩;subst ex
 cases r with
 | tup sq rs=>exact⟨_,_,rfl,c_ R.sub sq,by rw[rs.length];exact hl,k R _ xs _ _ rs q h⟩
noncomputable def AA(fa:TV)(g:Gn):Gj:=fun D ρ=>fa ρ fun w=>∃x,w = .d x/\g x ρ D.nx
theorem xi{g:Gn}(he:PV X rl e fa)(hg:GJ X rl tg g)(hs:autoParam (Mf [tg] e pos.line X.env=pure false) æa._auto_1)(hw:autoParam (Mg [tg] e X.env=pure none) æa._auto_1)
 (h1:autoParam ((Kk [tg] X.env).map (·.2)=[Kz tg X.env]) æa._auto_1):GD X rl (.Assign [tg] e pos) (AA fa g):=by
 obtain⟨t,p,k⟩:=he;obtain⟨G,p2,k2⟩:=hg;refine⟨_,yy p p2 hs hw h1,fun R Dv D ok q=>k R _ _ q fun v w F1 H1 g1 r1 n1 ⟨x,ew,q1⟩=>?_⟩;subst ew;exact k2 (R.grow g1) v x _ _ r1 q1 fun F2 H2 σ2 ρ2 s2 n2 R2 q2=>ok.nx _ _ _ _ (g1.fs.trans s2.fs) R2 q2
noncomputable def CJ(i j:Nat)(fs:Gi):Gj:=fun D ρ=>fs ρ fun ws=>∃x y,ji ws=some [x,y]/\D.nx ((ρ.set i (some (.d x))).set j (some (.d y)))
theorem tF(i j:Nat){y:Str}{py pt:Pos}{kt k2 pt2}(hc:X.calm=true)(hN:X.N.Nodup)(ha:Gz X rl [a,b] fs)
 (hw:autoParam (Mg [.Tuple [.Name x px,.Name y py] kt pt] (.Tuple [a,b] k2 pt2) X.env=pure (some [x,y])) æa._auto_1)(hi:autoParam (X.N[i]?=some x) æa._auto_1)(hj:autoParam (X.N[j]?=some y) æa._auto_1)(hij:autoParam (i≠j) æb._auto_1)
 (hx:autoParam (X.env.scope.names.lookup x=some .local) æa._auto_1)(hy:autoParam (X.env.scope.names.lookup y=some .local) æa._auto_1)
 (hs:autoParam (Mf [.Tuple [.Name x px,.Name y py] kt pt] (.Tuple [a,b] k2 pt2) pos.line X.env=pure false) æa._auto_1) :
 GD X rl (.Assign [.Tuple [.Name x px,.Name y py] kt pt] (.Tuple [a,b] k2 pt2) pos) (CJ i j fs):=by
 obtain⟨t,p,k⟩:=ha;refine⟨_,yu hc hN hi hj hij hx hy p hw hs,fun R Dv D ok q=>k R _ _ q fun vs ws F1 H1 g1 r1 ⟨x,y,e1,q1⟩=>?_⟩;have rs:=eh r1 e1
 cases rs with
 | cons rx rs =>
   cases rs with
   | cons ry rs =>
     cases rs;have R1:=(R.grow g1).set (w:=.d x) (Grow.refl g1.sub g1.reel) rx trivial (fun _ z=>by cases z) i;exact⟨_,_,rfl,ok.nx _ _ _ _ g1.fs (R1.set (w:=.d y) (Grow.refl g1.sub g1.reel) ry trivial (fun _ z=>by cases z) j) q1⟩
structure VIt (K:W.Frag) (rl:RlT) (F:Hp) (J:It) (xs:List Hi):Prop where
 go:∀i H x,xs[i]?=some x->bU F H->J.go i H
 stop:∀i H,xs.length<=i->bU F H->J.stop i H
 yld:∀{r:RlT} i H v H' x F2,xs[i]?=some x->bU F F2->bU F2 H->Gx r F2 H->J.yld i H v H'->∃F3,Grow r F2 H F3 H'/\Rep K F3 v x
theorem VIt.of{K:W.Frag}{rl:RlT}{J:It}(go:∀i H x,xs[i]?=some x->bU F H->J.go i H)(stop:∀i H,xs.length<=i->bU F H->J.stop i H)
 (yld:∀i H v H' x,xs[i]?=some x->bU F H->J.yld i H v H'->H'=H/\Rep K F v x):VIt K rl F J xs :=
 ⟨go,stop,fun i H v H' x F2 e s s2 ra y=>by
  obtain⟨e1,r⟩:=yld i H v H' x e (s.trans s2) y;subst e1
  exact⟨F2,Grow.refl s2 ra,r.mono s⟩⟩
noncomputable def GG(X:Cx)(rl:RlT)(tg iter:Expr)(fi:En->(List Hi->Prop)->Prop):Prop:=∃wi,PI X tg iter wi/\∀{F₀ H₀ F H:Hp}{σ:St}{ρ:En},VR X.K rl F₀ H₀ F H σ ρ->∀(Qd:List Hi->Prop)(R:It->Hp->Prop),fi ρ Qd ->
 (∀J xs F' H',Grow rl F H F' H'->VIt X.K rl F' J xs->Qd xs->R J H')->wi σ H R
end
section
variable{X:Cx}{rl:RlT}{st:Stmt}{rest body:List Stmt}{t u:Gj}{a b c e:Expr}{es:List Expr}{fa fb:TV}{fs:Gi}{f:TB}{pos p:Pos}{tg:Expr}
noncomputable def Ax(i:Nat)(t:Gj):Gj:=fun D ρ=>∃xs,ρ[i]?=some (some (.ml xs))/\t D (ρ.set i (some (.d (.list xs))))
theorem sU{K:W.Frag}{ρ:En}(r:VR K rl F₀ H₀ F H σ ρ)(e:ρ[i]?=some (some (.ml xs))):∃F1,bU F F1/\VR K rl F₀ H₀ F1 H σ (ρ.set i (some (.d (.list xs)))):=by
 obtain⟨v,h1,h2,h3⟩:=r.sl i _ e;obtain⟨a,vs,ev,f,hr,hh,q⟩:=(show iF K rl F H v xs from h2);obtain⟨F1,R1⟩:=r.freeze e;obtain⟨v',k1,k2,k3⟩:=R1.sl i _ (HU (HM.mp e).1);have neF:∀b u,F b=some u->b≠a:=fun b u q z=>by subst z;rw[f]at q;cases q
 have fsm:bU F (Ex F a (.lst vs)):=fun b u z=>by rw[ar (neF b u z)];exact z
 have hi:i<ρ.length:=(HM.mp e).1;refine⟨Ex F a (.lst vs),fsm,r.g.freeze (h3 a ev) hh f hr,fun j w e1=>?_,R1.ap,R1.np,R1.len⟩;by_cases hj:i=j
 · subst hj;rw[HU hi]at e1;cases e1;exact⟨v,h1,by rw[ev];exact .lst aG (q.mono fsm),trivial⟩
 · rw[HQ hj]at e1;obtain⟨u,g1,g2,g3⟩:=r.sl j w e1;refine⟨u,g1,?_,g3⟩
   cases w with
   | d x=>exact Rep.mono fsm g2
   | reel=>exact g2
   | vv u=>exact g2
   | ml ys =>
     obtain⟨b,us,eb,f1,f2,f3,f4⟩:=(show iF K rl F H u ys from g2);have ne:b≠a:=fun z=>r.ap i j _ _ v hj e e1 rfl rfl h1 (by rw[g1,eb,z,ev])
     exact⟨b,us,eb,by rw[ar ne];exact f1,f2,f3,f4.mono fsm⟩
   | pk ys=>exact absurd e1 (r.np j ys)
   | md ys =>
     obtain⟨b,us,eb,f1,f2,f3,f4⟩:=(show wS K rl F H u ys from g2);have ne:b≠a:=fun z=>r.ap i j _ _ v hj e e1 rfl rfl h1 (by rw[g1,eb,z,ev])
     exact⟨b,us,eb,by rw[ar ne];exact f1,f2,f3,Jc.mapP f4 fun _ _ z=>⟨z.1,z.2.mono fsm⟩⟩
   | mk ys =>
     obtain⟨b,us,eb,f1,f2,f3,f4⟩:=(show wR K rl F H u ys from g2);have ne:b≠a:=fun z=>r.ap i j _ _ v hj e e1 rfl rfl h1 (by rw[g1,eb,z,ev])
     exact⟨b,us,eb,by rw[ar ne];exact f1,f2,f3,Jc.mapP f4 fun _ _ z=>⟨z.1,z.2.mono fsm⟩⟩
   | xm ys =>
     obtain⟨b,us,eb,f1,f2,f3,f4⟩:=(show tD K rl F H u ys from g2);have ne:b≠a:=fun z=>r.ap i j _ _ v hj e e1 rfl rfl h1 (by rw[g1,eb,z,ev])
     exact⟨b,us,eb,by rw[ar ne];exact f1,f2,f3,KX.mono f4 fsm⟩
   | nt ds=>obtain⟨b,us,eb,f1,f2⟩:=g2;exact⟨b,us,eb,fsm _ _ f1,f2.mono fsm⟩
   | lk=>trivial
   | sc ns=>obtain⟨b,eb,f1⟩:=g2;exact⟨b,eb,oP fsm f1⟩
   | fd kvs=>obtain⟨b,us,eb,f1,f2⟩:=g2;exact⟨b,us,eb,fsm _ _ f1,Jc.mapP f2 fun _ _ z=>⟨z.1,z.2.mono fsm⟩⟩
   | xr kvs=>obtain⟨b,us,eb,f1,f2⟩:=g2;exact⟨b,us,eb,fsm _ _ f1,KX.mono f2 fsm⟩
   | xw a kvs=>obtain⟨us,eb,f1,f2⟩:=g2;exact⟨us,eb,fsm _ _ f1,KX.mono f2 fsm⟩
   | fw kvs=>obtain⟨b,us,o,eb,f1,f2⟩:=g2;exact⟨b,us,o,eb,fsm _ _ f1,Jc.mapP f2 fun _ _ z=>⟨z.1,z.2.mono fsm⟩⟩
   | ft kvs=>obtain⟨b,us,o,eb,f1,f2⟩:=g2;exact⟨b,us,o,eb,fsm _ _ f1,Jc.mapP f2 fun _ _ z=>⟨z.1,z.2.mono fsm⟩⟩
   | xc _ _=>obtain⟨b,dx,us,C,eb,n,f1,f3,f2⟩:=g2;exact⟨b,dx,us,C,eb,n,fsm _ _ f1,fsm _ _ f3,Jc.mapP f2 fun _ _ z=>⟨z.1,z.2.mono fsm⟩⟩
   | dp _ _=>obtain⟨c,b,us,u,o,eb,f1,f3,f2,z⟩:=g2;exact⟨c,b,us,u,o,eb,fsm _ _ f1,fsm _ _ f3,Jc.mapP f2 fun _ _ z=>⟨z.1,z.2.mono fsm⟩,z.mono fsm⟩
theorem tG(i:Nat)(h:GD X rl st t):GD X rl st (Ax i t):=by
 obtain⟨T,p,k⟩:=h;refine⟨T,p,fun R Dv D ok ⟨xs,e,q⟩=>?_⟩;obtain⟨F1,s1,R1⟩:=sU R e;exact k R1 Dv D (ok.on s1) q
noncomputable def iL(fa:TV):En->(List Hi->Prop)->Prop:=fun ρ Q=>fa ρ fun w=>∃xs,w.fz = .d (.list xs)/\Q xs
noncomputable def iT(fa:TV):En->(List Hi->Prop)->Prop:=fun ρ Q=>fa ρ fun w=>∃xs,w.fz = .d (.tuple xs)/\Q xs
theorem cH{l:Expr}(hl:PV X rl l fa):GG X rl tg l (iL fa):=by
 obtain⟨t,p,k⟩:=hl;refine⟨_,vL p,fun R Qd Q q h=>k R _ _ q fun v w F1 H1 g1 r1 n1 ⟨xs,ew,q1⟩=>?_⟩;obtain⟨F2,g2,s2,r2⟩:=dB.fz g1 r1 n1;rw[ew]at r2
 cases(show Rep X.K F2 v (.list xs)from r2)with
 | @lst a vs _ sq rs =>
   have sqH:∀H,bU F2 H->Gq X.K H a vs:=fun H s=>.inl (.inl (s _ _ sq));refine⟨a,rfl,⟨vs,sqH H1 g2.sub⟩,h _ xs F2 H1 g2 (.of (fun i H x e s=>?_) (fun i H hl s=>⟨vs,sqH H s,by rw[rs.length];exact hl⟩) (fun i H v H' x e s y=>?_)) q1⟩
   · obtain⟨v,ev,_⟩:=rs.get e;exact⟨vs,v,sqH H s,ev⟩
   · obtain⟨e',hy⟩:=y;obtain⟨v',ev,rv⟩:=rs.get e;have:=hy vs (sqH H s);rw[ev]at this;cases this;exact⟨e',rv⟩
theorem dO{l:Expr}(hl:PV X rl l fa):GG X rl tg l (iT fa):=by
 obtain⟨t,p,k⟩:=hl;refine⟨_,uc p,fun R Qd Q q h=>k R _ _ q fun v w F1 H1 g1 r1 n1 ⟨xs,ew,q1⟩=>?_⟩;obtain⟨F2,g2,s2,r2⟩:=dB.fz g1 r1 n1;rw[ew]at r2
 cases(show Rep X.K F2 v (.tuple xs)from r2)with
 | @tup a vs _ sq rs =>
   have sqH:∀H,bU F2 H->Gp X.K H a vs:=fun H s=>c_ s sq;refine⟨a,rfl,⟨vs,sqH H1 g2.sub⟩,h _ xs F2 H1 g2 (.of (fun i H x e s=>?_) (fun i H hl s=>⟨vs,sqH H s,by rw[rs.length];exact hl⟩) (fun i H v H' x e s y=>?_)) q1⟩
   · obtain⟨v,ev,_⟩:=rs.get e;exact⟨vs,v,sqH H s,ev⟩
   · obtain⟨e',hy⟩:=y;obtain⟨v',ev,rv⟩:=rs.get e;have:=hy vs (sqH H s);rw[ev]at this;cases this;exact⟨e',rv⟩
noncomputable def bB(lo:Int)(n:Nat):List Hi:=(IJ n).map fun(i:Nat)=>.int (lo+i)
theorem ik{lo:Int}{x:Hi}(h:(bB lo n)[i]?=some x):i<n/\x = .int (lo+i):=by
 unfold bB at h;rw[Ja]at h;by_cases hi:i<n
 · rw[Ip (by simpa using hi)]at h;simp at h;exact⟨hi,h.symm⟩
 · rw[JI (by simpa using hi)]at h;cases h
theorem ac{lo:Int}:(bB lo n).length=n:=by simp[bB]
theorem js{K:W.Frag}(lo:Int)(n:Nat):VIt K rl F (GV lo n) (bB lo n) :=
 .of (fun i H x e s=>(ik e).1) (fun i H hl s=>by rw[ac]at hl;exact hl) (fun i H v H' x e s y=>by
  obtain⟨e1,e2⟩:=y;subst e2;rw[(ik e).2]
  exact⟨e1,.int _⟩)
noncomputable def FN(fs:Gi):En->(List Hi->Prop)->Prop:=fun ρ Q=>fs ρ fun ws=>∃j:Int,ws=[.d (.int j)]/\(-(2^62)<=j/\j<2^62)/\Q (bB 0 j.toNat)
noncomputable def FM(fs:Gi):En->(List Hi->Prop)->Prop:=fun ρ Q=>fs ρ fun ws=>∃i j:Int,ws=[.d (.int i),.d (.int j)]/\(-(2^62)<=i/\i<2^62 /\ -(2^62)<=j/\j<2^62)/\Q (bB i (j-i).toNat)
theorem cu(hm:X.mg "range" = none)(ha:Gz X rl [a] fs)(hg:autoParam (Gl X "range") æa._auto_1)(hs:autoParam (HA [a] X.env=[(false,eval a X.env)]) æa._auto_1):GG X rl tg (.Call (.Name "range" p) [a] [] pos) (FN fs):=by
 obtain⟨t,p1,k⟩:=ha;refine⟨_,jN hg hm p1 hs,fun R Qd Q q h=>k R _ _ q fun vs ws F1 H1 g1 r1 ⟨j,ew,b,q1⟩=>?_⟩;subst ew;obtain⟨v,rfl,rv⟩:=oU r1;have e:=bF rv;subst e;exact⟨j,rfl,b.1,b.2,h _ _ F1 H1 g1 (js 0 _) q1⟩
theorem VR.own{K:W.Frag}{F₀ H₀ F H:Hp}{σ:St}{ρ:En}(r:VR K rl F₀ H₀ F H σ ρ){i:Nat}{xs ys:List Hi}{a:Addr}{us:List V}(e:ρ[i]?=some (some (.ml xs)))(es:σ[i]?=some (some (.ref a)))(rs:Reps K F us ys) :
 VR K rl F₀ H₀ F (Ex H a (.lst us)) σ (ρ.set i (some (.ml ys))):=by
 obtain⟨v,h1,h2,h3⟩:=r.sl i _ e;rw[es]at h1;cases h1;obtain⟨a',vs,ev,f,hr,hh,q⟩:=(show iF K rl F H (.ref a) xs from h2);cases ev;have n0:H₀ a=none:=h3 a rfl;have hi:i<ρ.length:=(HM.mp e).1;have neF:∀b u,F b=some u->b≠a:=fun b u q z=>by subst z;rw[f]at q;cases q
 have g:Grow rl F₀ H₀ F (Ex H a (.lst us)):=by
  refine⟨fun b o q1 n=>by rw[ar (bi q1 n0)];exact r.g.same b o q1 n,r.g.fs,fun b o q1=>by rw[ar (neF b o q1)];exact r.sub b o q1,r.g.old,fun y z=>?_⟩;obtain⟨z1,⟨u,h1,h2⟩⟩:=r.reel y z;exact⟨z1,⟨u,by rw[ar (fun q=>hr (by rw[<- q];exact z))];exact h1,h2⟩⟩
 refine⟨g,fun j w e1=>?_,fun j k ys' zs u hjk e1 e2 w1 w2 s1 s2=>?_,fun j ys' z=>?_,by simp[r.len]⟩
 · by_cases hj:i=j
   · subst hj;rw[HU hi]at e1;cases e1;exact⟨_,es,⟨a,us,rfl,f,hr,aG,rs⟩,h3⟩
   · rw[HQ hj]at e1;obtain⟨u,g1,g2,g3⟩:=r.sl j w e1;refine⟨u,g1,?_,g3⟩
     cases w with
     | d x=>exact g2
     | reel=>exact g2
     | vv u=>exact g2
     | ml zs =>
       obtain⟨b,us',eb,f1,f2,f3,f4⟩:=(show iF K rl F H u zs from g2);have ne:b≠a:=fun z=>r.ap i j _ _ (.ref a) hj e e1 rfl rfl es (by rw[g1,eb,z])
       exact⟨b,us',eb,f1,f2,by rw[ar ne];exact f3,f4⟩
     | pk zs=>exact absurd e1 (r.np j zs)
     | md zs =>
       obtain⟨b,us',eb,f1,f2,f3,f4⟩:=(show wS K rl F H u zs from g2);have ne:b≠a:=fun z=>r.ap i j _ _ (.ref a) hj e e1 rfl rfl es (by rw[g1,eb,z])
       exact⟨b,us',eb,f1,f2,by rw[ar ne];exact f3,f4⟩
     | mk zs =>
       obtain⟨b,us',eb,f1,f2,f3,f4⟩:=(show wR K rl F H u zs from g2);have ne:b≠a:=fun z=>r.ap i j _ _ (.ref a) hj e e1 rfl rfl es (by rw[g1,eb,z])
       exact⟨b,us',eb,f1,f2,by rw[ar ne];exact f3,f4⟩
     | xm zs =>
       obtain⟨b,us',eb,f1,f2,f3,f4⟩:=(show tD K rl F H u zs from g2);have ne:b≠a:=fun z=>r.ap i j _ _ (.ref a) hj e e1 rfl rfl es (by rw[g1,eb,z])
       exact⟨b,us',eb,f1,f2,by rw[ar ne];exact f3,f4⟩
     | nt ds=>exact g2
     | lk=>trivial
     | sc _=>exact g2
     | fd _=>exact g2
     | xr _=>exact g2
     | xw _ _=>exact g2
     | fw _=>exact g2
     | ft _=>exact g2
     | xc _ _=>exact g2
     | dp _ _=>exact g2
 · have nd:∀(j:Nat)(z:W),(ρ.set i (some (W.ml ys)))[j]?=some (some z)->z.own=true->∃z',ρ[j]?=some (some z')/\z'.own=true:=fun j zs z o=>by
     by_cases hj:i=j
     · subst hj;exact⟨_,e,rfl⟩
     · rw[HQ hj]at z;exact⟨zs,z,o⟩
   obtain⟨_,d1,o1⟩:=nd j _ e1 w1;obtain⟨_,d2,o2⟩:=nd k _ e2 w2;exact r.ap j k _ _ u hjk d1 d2 o1 o2 s1 s2
 · rw[IW]at z;split at z
   · first|cases z|(split at z<;>cases z)
   · exact r.np j ys' z
noncomputable def BA(K:W.Frag)(rl:RlT)(r:V->List V->Hp->VK->Prop)(g:List Hi->List W->(List Hi->Prop)->Prop):Prop :=
 ∀ {F H:Hp}{a:Addr}{vs args:List V}{xs:List Hi}{ws:List W}(Qn:List Hi->Prop)(Q:VK),bU F H->H a=some (.lst vs)->Reps K F vs xs->fF K rl F H args ws->g xs ws Qn ->
   (∀us ys,Reps K F us ys->Qn ys->Q .non (Ex H a (.lst us)))->r (.ref a) args H Q
noncomputable def wT(i:Nat)(g:List Hi->List W->(List Hi->Prop)->Prop)(fs:Gi):Gj:=fun D ρ=>∃xs,ρ[i]?=some (some (.ml xs))/\fs ρ fun ws=>g xs ws fun ys=>D.nx (ρ.set i (some (.ml ys)))
theorem xg(i:Nat){nm:Str}{id:String}{r:V->List V->Hp->VK->Prop}{g:List Hi->List W->(List Hi->Prop)->Prop}{apos cpos:Pos}(slot:Slot "list" nm id)(hty:typeOf (.builtin id)=pure (.type "method_descriptor"))(hm:GN X id r)(vm:BA X.K rl r g)(ha:Gz X rl (e::es) fs)
 (hN:autoParam (X.N[i]?=some x) æa._auto_1)(hv:autoParam (Gf X.env.scope x) æd._auto_1)
 (hd:autoParam ((x==("__debug__" : Str))=false) æb._auto_1)(hcd:autoParam ((x==("__classdict__" : Str))=false) æb._auto_1)
 (hbase:autoParam (Kw (.Name x px) nm X.env (eval (.Name x px) X.env)=eval (.Name x px) X.env) æa._auto_1)
 (hfew:autoParam (((Jl cpos (HA (e::es) X.env)).all (fun x=>!x.1)&&(M5 cpos (Lf [] X.env)).all (fun x=>x.1.isSome)
  && decide ((e::es).length+([]:List KW).length+(if([]:List KW).isEmpty then 0 else 1)<30))=true) æa._auto_1)
 (hline:autoParam ((apos.endLine==cpos.line)=true) æa._auto_1)(hs:autoParam (HA (e::es) X.env=(false,eval e X.env)::HA es X.env) æa._auto_1)(hplain:autoParam ((Jl cpos (HA es X.env)).any (·.1)=false) æa._auto_1)
 (hsw:autoParam (Ju (.Call (.Attribute (.Name x px) nm apos) (e::es) [] cpos) none pos.line X.env=pure false) æa._auto_1) :
 GD X rl (.Expr (.Call (.Attribute (.Name x px) nm apos) (e::es) [] cpos) pos) (wT i g fs):=by
 obtain⟨t,p1,k⟩:=ha;refine⟨_,pi (yI Mj slot hty hm (dR hN hv hd hcd) p1 hbase hfew hline hs hplain) hsw,fun{F₀ H₀ F H σ ρ} R Dv D ok ⟨xs,e1,q⟩=>?_⟩;obtain⟨v,h1,h2,h3⟩:=R.sl i _ e1;obtain⟨a,vs,rfl,f,hr,hh,rs⟩:=(show iF X.K rl F H v xs from h2);refine⟨.ref a,h1,.inl ⟨rfl,vs,.inl (.inl hh)⟩,k R _ _ q fun args ws F1 H1 g1 r1 q1=>?_⟩;refine vm _ _ g1.sub (g1.same a _ hh hr) (rs.mono g1.fs) r1 q1 fun us ys r2 q2=>?_;exact ok.nx _ _ _ _ g1.fs ((R.grow g1).own e1 h1 r2) q2
noncomputable def zk:List Hi->List W->(List Hi->Prop)->Prop:=fun xs ws Q=>∃x,ji ws=some [x]/\xs.length<sizeLine/\Q (xs++[x])
theorem tH{K:W.Frag}:BA K rl oZ zk:=fun{F H a vs args xs ws} Qn Q s ha rs ra ⟨x,e,z,q⟩ k=>by
 have r2:=eh ra e
 cases r2 with
 | cons rx r3 =>
   cases r3;exact⟨a,vs,_,rfl,rfl,ha,by rw[rs.length];exact z,k _ _ (rs.snoc rx) q⟩
noncomputable def C_:List Hi->List W->(List Hi->Prop)->Prop:=fun xs ws Q=>∃ys,ji ws=some [.list ys]/\xs.length+ys.length<=sizeLine/\Q (xs++ys)
theorem jr(i:Nat){apos cpos:Pos}(ha:Gz X rl [e] fs)(hN:autoParam (X.N[i]?=some x) æa._auto_1)(hv:autoParam (Gf X.env.scope x) æd._auto_1)
 (hd:autoParam ((x==("__debug__" : Str))=false) æb._auto_1)(hcd:autoParam ((x==("__classdict__" : Str))=false) æb._auto_1)
 (hbase:autoParam (Kw (.Name x px) "append" X.env (eval (.Name x px) X.env)=eval (.Name x px) X.env) æa._auto_1)
 (hfew:autoParam (((Jl cpos (HA [e] X.env)).all (fun x=>!x.1)&&(M5 cpos (Lf [] X.env)).all (fun x=>x.1.isSome)
  && decide (([e]).length+([]:List KW).length+(if([]:List KW).isEmpty then 0 else 1)<30))=true) æa._auto_1)
 (hline:autoParam ((apos.endLine==cpos.line)=true) æa._auto_1)(hs:autoParam (HA [e] X.env=(false,eval e X.env)::HA [] X.env) æa._auto_1)(hplain:autoParam ((Jl cpos (HA [] X.env)).any (·.1)=false) æa._auto_1)
 (hsw:autoParam (Ju (.Call (.Attribute (.Name x px) "append" apos) [e] [] cpos) none pos.line X.env=pure false) æa._auto_1) :
 GD X rl (.Expr (.Call (.Attribute (.Name x px) "append" apos) [e] [] cpos) pos) (wT i zk fs) :=
 xg i L_ Ma e8 tH ha hN hv hd hcd hbase hfew hline hs hplain hsw
noncomputable def dZ:W->Bool
 | .ml _=>false
 | .md _=>false
 | .mk _=>false
 | .xm _=>false
 | .pk _=>false
 | _=>true
noncomputable def Ei(K:W.Frag)(rl:RlT)(P:List W->(Hi->Prop)->Prop):Sp:=fun vs H Q _=>∃F ws,bU F H/\Gx rl F H/\fF K rl F H vs ws/\ws.all dZ=true/\P ws fun d=>∀v F' H',Grow rl F H F' H'->Rep K F' v d->Q v H'
noncomputable def dL(N:List Str)(ws:List W):En:=ws.map some++HB (N.length-ws.length) none
theorem jJ{K:W.Frag}{F H:Hp}:∀{vs:List V}{ws:List W}{i:Nat}{w:W},fF K rl F H vs ws->ws[i]?=some w->∃v,vs[i]?=some v/\dB K rl F H v w
 | _,_,_,_,.nil,e=>by simp at e
 | _,_,0,_,.cons h _,e=>by simp at e;subst e;exact⟨_,rfl,h⟩
 | _,_,i+1,w,.cons _ r,e=>by
   obtain⟨v,h1,h2⟩:=jJ (i:=i) (w:=w) r (by simpa using e);exact⟨v,by simpa using h1,h2⟩
theorem jx{ws:List W}{w:W}(h:(dL N ws)[i]?=some (some w)):ws[i]?=some w:=by
 unfold dL at h;by_cases hi:i<ws.length
 · rw[J0 (by simpa using hi),Ja]at h
   cases q:ws[i]? with
   | none=>rw[q]at h;cases h
   | some x=>rw[q]at h;cases h;rfl
 · rw[KA (by simpa using hi),Mh]at h;split at h<;>cases h
theorem eP{K:W.Frag}{ws:List W}(s:bU F H)(ra:Gx rl F H)(r:fF K rl F H vs ws)(ok:ws.all dZ=true):VR K rl F H F H (start N vs) (dL N ws):=by
 have hl:vs.length=ws.length:=Jt r;have no:∀(i:Nat) w,(dL N ws)[i]?=some (some w)->dZ w=true:=fun i w e=>(JL.mp ok) w (M7 (jx e));refine⟨Grow.refl s ra,fun i w e=>?_,fun i j xs ys v _ e1 _ o _ _ _=>(by have:=no i _ e1;cases xs<;>first|exact Bool.noConfusion o|exact Bool.noConfusion this),fun i xs e=>(by have:=no i _ e;cases this),?_⟩
 · obtain⟨v,h1,h2⟩:=jJ r (jx e);refine⟨v,?_,h2,?_⟩
   · unfold start;rw[J0 (by simpa using(HM.mp h1).1),Ja,h1];rfl
   · have:=no i w e
     cases w with
     | ml xs=>cases this
     | md xs=>cases this
     | mk xs=>cases this
     | xm xs=>cases this
     | nt _=>trivial
     | lk=>trivial
     | sc _=>trivial
     | fd _=>trivial
     | xr _=>trivial
     | xw _ _=>trivial
     | fw _=>trivial
     | ft _=>trivial
     | xc _ _=>trivial
     | dp _ _=>trivial
     | d _=>trivial
     | pk _=>trivial
     | reel=>trivial
     | vv _=>trivial
 · unfold dL start;simp[hl]
noncomputable def m7(Q:Hi->Prop):VEnds:=⟨fun _=>Q .none,fun w=>∃d,w.fz = .d d/\Q d,fun _=>False,fun _=>False⟩
theorem Ej{K:W.Frag}{base:Heap}{st:Stmt}{fa:Addr}{ps:List Str}{k:Nat}{Pd:List W->(Hi->Prop)->Prop}{t:Gj}
 (Fn:Fun K x qual st fa fd)(S:FnScope N ps (defScope st))(len:∀ws Q,Pd ws Q->ws.length=ps.length)
 (hbody:∀(cdv:Hq)(A:IM)(outer:List Env)(s:Ht)(H:Hp)(E:XK),Room k (A.deeper (L8 qual (defScope st) s.heap.objs.size fa cdv)) ->
  mY (nP G6 P w K mg base N qual (defScope st) fa cdv A outer s H E).nox rl (defBody st) t)
 (hread:∀ws Q,Pd ws Q->t (m7 Q) (dL N ws)):FnOk P w K mg base G6 (k+1) fa fd ps (Ei K rl Pd):=by
 refine Fn.ok S (fun vs H Q E ⟨F,ws,_,_,r,_,q⟩=>(Jt r).trans (len ws _ q)) fun cdv A outer s H vs Q E hr h=>?_;obtain⟨F,ws,sm,ra,r,ok,q⟩:=h;obtain⟨T,p,kk⟩:=hbody cdv A outer s H E hr;refine⟨T,p,kk (eP sm ra r ok) (m7 _) _ ⟨?_,?_,fun _ _ _ _ _ _ z=>Jk z,fun _ _ _ _ _ _ z=>Jk z⟩ (hread ws _ q)⟩
 · intro F1 H1 σ1 ρ1 _ R1 q1;exact q1 .non F1 H1 R1.g .non
 · rintro v w1 F1 H1 g1 r1 n1 ⟨d,ed,q1⟩;obtain⟨F2,g2,s2,r2⟩:=dB.fz g1 r1 n1;rw[ed]at r2;exact q1 v F2 H1 g2 r2
structure Dfn (P:HV) (w:IF) (K:W.Frag) (mg:Str->Option Hq) (base:Heap) (rl:RlT) (x:Str) (ps:List Str) (k:Nat) (Pd:List W->(Hi->Prop)->Prop):Prop where
 mono:∀ws Q Q',(∀d,Q d->Q' d)->Pd ws Q->Pd ws Q'
 ex:∃f fd,mg x=some (.ref f)/\W.keepIn K (.ref f)=true/\Binds K fd ps []/\FnOk P w K mg base G6 k f fd ps (Ei K rl Pd)
noncomputable def zS(Pd:List W->(Hi->Prop)->Prop)(fs:Gi):TV:=fun ρ Q=>fs ρ fun ws=>ws.all dZ=true/\Pd ws fun d=>Q (.d d)
theorem av{ps:List Str}{k:Nat}{Pd:List W->(Hi->Prop)->Prop}(D:Dfn X.prog X.w X.K X.mg X.base rl x ps k Pd)(hr:Room k X.A)(ha:Gz X rl (e::es) fs)(hg:autoParam (Gl X x) æa._auto_1)
 (hdb:autoParam ((x==("__debug__" : Str))=false) æb._auto_1)(he:autoParam (HA (e::es) X.env=(false,eval e X.env)::HA es X.env) æa._auto_1)(hpl:autoParam ((Jl pos (HA es X.env)).any (·.1)=false) æa._auto_1) :
 PV X rl (.Call (.Name x p) (e::es) [] pos) (zS Pd fs):=by
 obtain⟨f,fd,hm,hk,hb,F⟩:=D.ex;obtain⟨t,p1,kk⟩:=ha;refine⟨_,gE F hr hg hm hk hb .nil pE p1 hdb he hpl,fun R Qd Q q h=>kk R _ _ q fun vs ws F1 H1 g1 r1 ⟨ok,q1⟩=>?_⟩;refine⟨F1,ws,g1.sub,g1.reel,by rw[Jx];exact r1,ok,?_⟩;exact D.mono ws _ _ (fun d qd v F2 H2 g2 r2=>h v (.d d) F2 H2 (g1.trans g2) r2 trivial qd) q1
end
end L2.VL
variable{rl:L2.VL.RlT}{ρ:L2.VL.En}{Pd:List L2.VL.W->(Hi->Prop)->Prop}{fi:L2.VL.En->(List Hi->Prop)->Prop}
namespace L2
theorem fO{env:Env}:∀(names:List (Str×KY))(acc:List (Str×Addr)),(∀x∈names,x.2 = .free->∃c,env.cells.lookup x.1=some c)->(∀x c,acc.lookup x=some c->env.cells.lookup x=some c) ->
 ∃ cl,(forIn names acc (fun(x:Str×KY)(cs:List (Str×Addr))=>if(x.2==IP)=true then do let c <- cellOf env x.1;pure (Kr ((x.1,c)::cs))else pure (Kr cs)):Sem (List (Str×Addr)))=pure cl /\
   (∀x c,cl.lookup x=some c->env.cells.lookup x=some c)/\(∀x,(acc.lookup x).isSome=true->(cl.lookup x).isSome=true)/\∀x,(x,IP)∈names->(cl.lookup x).isSome=true
 | [],acc,_,h2=>⟨acc,rfl,h2,fun _ z=>z,fun _ z=>nomatch z⟩
 | (n,k)::r,acc,h1,h2=>by
   by_cases hk:k = .free
   · subst hk;obtain⟨c,hc⟩:=h1 (n,.free) Hr rfl
     have h2':∀x c',((n,c)::acc).lookup x=some c'->env.cells.lookup x=some c':=fun x c' z=>by
      rw[IV]at z
      cases e:x==n with
      | true =>
        rw[e]at z;have e':x=n:=by simpa using e
        cases z;rw[e']
        exact hc
      | false =>
        rw[e]at z;exact h2 x c' z
     obtain⟨cl,e,g1,g2,g3⟩:=fO r ((n,c)::acc) (fun x hx=>h1 x (Hv _ hx)) h2';refine⟨cl,?_,g1,fun x z=>g2 x ?_,fun x z=>?_⟩
     · rw[K4];simp only[beq_self_eq_true,if_true];have e0:cellOf env n=pure c:=by unfold cellOf;rw[hc]
       rw[e0,pure_bind,pure_bind];exact e
     · rw[IV];split
       · rfl
       · exact z
     · rcases Ic.mp z with z|z
       · cases z;refine g2 _ ?_;rw[IV];simp
       · exact g3 x z
   · obtain⟨cl,e,g1,g2,g3⟩:=fO r acc (fun x hx=>h1 x (Hv _ hx)) h2;refine⟨cl,?_,g1,g2,fun x z=>?_⟩
     · rw[K4];have hb:(k==IP)=false:=by simpa using hk
       simp only[hb,Km,if_false];rw[pure_bind];exact e
     · rcases Ic.mp z with z|z
       · cases z;exact absurd rfl hk
       · exact g3 x z
theorem cT{env:Env}(h:∀x∈scope.names,x.2 = .free->∃c,env.cells.lookup x.1=some c) :
 ∃cl,closureFor scope env=pure cl/\(∀x c,cl.lookup x=some c->env.cells.lookup x=some c)/\∀x,(x,IP)∈scope.names->(cl.lookup x).isSome=true:=by
 obtain⟨cl,e,g1,_,g3⟩:=fO scope.names [] h (fun _ _ z=>by cases z);refine⟨cl,?_,g1,g3⟩;unfold closureFor
 first
  | exact e
  | (simp only[bind_pure];exact e)
theorem jI{env:Env}(h:(Og scope env).names.lookup x=some .cell\/(Og scope env).names.lookup x=some .free):(x,IP)∈scope.names\/(x,JP)∈scope.names:=by
 have key:∀names:List (Str×KY),∀k,(k = .cell\/k = .free) ->
  (names.map fun(n,k)=>if(k==IP&&env.scope.kind == .function&&env.kindOf n==some .cell)then(n,JP)else(n,k)).lookup x=some k->(x,IP)∈names\/(x,JP)∈names:=by
  intro names
  induction names with
  | nil=>intro k _ z;cases z
  | cons y r ih =>
    intro k hk z;obtain⟨n,kn⟩:=y;have step:((x,IP)∈r\/(x,JP)∈r)->((x,IP)∈(n,kn)::r\/(x,JP)∈(n,kn)::r):=fun z=>z.imp (Hv _) (Hv _);rw[HE]at z;dsimp only at z;by_cases hc:(kn==IP&&env.scope.kind == .function&&env.kindOf n==some .cell)=true
    · rw[if_pos hc,IV]at z
      have hf:kn = .free:=by
       have:=(Hz.mp (Hz.mp hc).1).1;simpa using this
      cases e:x==n with
      | true =>
        have e':x=n:=by simpa using e
        rw[e',<- hf]
        exact .inl Hr
      | false =>
        rw[e]at z;exact step (ih k hk z)
    · rw[if_neg hc,IV]at z
      cases e:x==n with
      | true =>
        rw[e]at z;have e':x=n:=by simpa using e
        cases z;rcases hk with hk|hk
        · rw[e',hk];exact .inr Hr
        · rw[e',hk];exact .inl Hr
      | false =>
        rw[e]at z;exact step (ih k hk z)
 rcases h with h|h
 · exact key scope.names .cell (.inl rfl) h
 · exact key scope.names .free (.inr rfl) h
theorem bQ:∀(names:List (Str×KY))(n:Nat)(acc:List (Str×Addr)),JB n names acc=JB n names []++acc
 | [],_,_=>rfl
 | (x,k)::r,n,acc=>by
   unfold JB;split
   · rw[bQ r (n+1) ((x,n)::acc),bQ r (n+1) [(x,n)],L9];rfl
   · exact bQ r n acc
theorem dI{x:Str}{c:Addr}:∀{names:List (Str×KY)}{n:Nat},(x,c)∈JB n names []->(x,JP)∈names
 | (y,k)::r,n,h=>by
   unfold JB at h;split at h
   · rename_i hk;rw[bQ]at h;rcases Ik.mp h with h|h
     · exact Hv _ (dI h)
     · simp at h;have:k = .cell:=by simpa using hk
       rw[h.1,this];exact Hr
   · exact Hv _ (dI h)
theorem fL{a b:List (Str×Addr)}:(a++b).lookup x=(a.lookup x).or (b.lookup x):=by
 induction a with
 | nil=>simp
 | cons y a ih =>
   obtain⟨n,c⟩:=y;rw[Lq,IV,IV];cases x==n<;>simp[ih]
theorem k7{M:Model}{s:Ht}{globals:Addr}{cl:List (Str×Addr)}{o:Env}{Q:Env->Ht->Prop}
 (hQ:Q {scope,locals:=s.heap.objs.size,globals,cells:=JB (s.heap.objs.size+1) scope.names cl,qual,func:=none,code:=o.code,frame:=o.frame,builtins:=o.builtins} {s with heap:=N9 (s.heap.push {cls:=.type "dict", data:=.dict #[]}) scope.names}) :
 HP M A (Lk scope globals cl [] qual none .none (some o)) Q E s:=by
 simp only[Lk,Option.isSome_some,if_true];refine Hl (wpAny_alloc ?_);refine Hl (wpAny_layCells _ (fun name kind cells=>by cases hkc:kind==JP<;>simp[hkc]) _ _ _ _ ?_);rw[show({s with heap:=s.heap.push {cls:=.type "dict", data:=.dict #[]}}:Ht).heap.objs.size=s.heap.objs.size+1 from JG ..];exact Hl (Hn (Hn hQ))
noncomputable def bg(X:Cx)(N':List Str)(scope:Scope)(cl:List (Str×Addr))(fp:List Addr)(pn:List (Addr×Obj))(s:Ht)(H:Hp):Cx :=
 {X with N:=N',s₀:=s,H₀:=H,env:={compEnvC scope cl s.heap.objs.size X.env with cells:=JB (s.heap.objs.size+1) scope.names cl},outer:=X.stack,ex:=fp,fn:=fun x=>scope.names.lookup x==some .cell,pn:=pn,xe:=fun _ _=>False}
abbrev eJ(ifs:List Expr)(env:Env):Sem Bool:=forIn ifs true fun c r=>if r=true then do let ok <- isTrue c env (eval c env);pure (Kr ok)else pure (Kr r)
noncomputable def GB(X:Cx)(ifs:List Expr)(t:TT):Prop :=
 ∀(pins:List (Addr×Obj))(s:Ht)(σ:St)(H:Hp)(Q:Bool->Hp->Prop),Inv X pins σ H s->t σ H Q->HP (Ib X.prog X.w) X.A (eJ ifs X.env) (TP X pins σ Q) X.xe s
theorem o8:GB X [] (fun _ H Q=>Q true H):=fun _ _ _ H _ I h=>wpAny_tests_nil ⟨H,I,h⟩
theorem vF{c:Expr}{t:TT}(h:PT X c t):GB X [c] t:=fun pins s σ H Q I hw=>wpAny_tests_one (h pins s σ H Q I hw)
theorem qE{prog:HV}{R:N6->Ht->Prop}{s:Ht}{elt target:Expr}{it acc:Hq}{env:Env}(I:Nat->Ht->Prop)
 (turn:∀n s,I n s->HP (Ib prog w) A (L6 it) (fun r s₁=>(r=none/\R (.ok .next) s₁)\/∃v,r=some v /\
  HP (Ib prog w) A (JH target it v) (fun _ s₂=>HP (Ib prog w) A (Kz target env v) (fun _ s₃=>HP (Ib prog w) A (eJ ifs env) (fun ok s₄ =>
   if ok=true then HP (Ib prog w) A (eval elt env) (fun x s₅=>HP (Ib prog w) A (call (.builtin "list.append") [acc,x]) (fun _ s₆=>∃m,m<n/\I m s₆) (fun _ _=>False) s₅) (fun _ _=>False) s₄
   else ∃m,m<n/\I m s₄) (fun _ _=>False) s₃) (fun _ _=>False) s₂) (fun _ _=>False) s₁) (fun _ _=>False) s)
 (n:Nat)(h:I n s):JU (Ib prog w) A (.compLoop (.ListComp elt [⟨target,iter,ifs,0⟩] scope pos) 0 it acc env) R s:=by
 refine MK rfl I (fun n s hI=>?_) n h;show HP _ A ((NA (.ListComp elt [⟨target,iter,ifs,0⟩] scope pos) 0 it acc env).onRaise (fun x=>do NB x env;LH x)) _ _ s;refine Nn ?_;rw[compTurn_list];refine Hl (Jv (Hl (Im (turn n s hI) (fun r s₁ h₁=>?_) fun _ _ h'=>h'.elim)));rcases h₁ with⟨rfl,h₁⟩|⟨v,rfl,h₁⟩
 · exact Hn h₁
 · refine Hl (Im h₁ (fun _ s₂ h₂=>Hl (Im h₂ (fun _ s₃ h₃=>Hl (Im h₃ (fun ok s₄ h₄=>?_) fun _ _ z=>z.elim)) fun _ _ z=>z.elim)) fun _ _ z=>z.elim)
   cases ok with
   | false=>exact Hn ⟨rfl,h₄⟩
   | true=>exact Hl (Hl (Im h₄ (fun x s₅ h₅=>Hl (Im h₅ (fun _ s₆ h₆=>Hn (Hn ⟨rfl,h₆⟩)) fun _ _ z=>z.elim)) fun _ _ z=>z.elim))
noncomputable def nO(fr:List (Option Nat))(σ:St):St:=fr.map fun o=>o.bind fun j=>(σ[j]?).join
noncomputable def nF(fr:List (Option Nat))(N' N:List Str)(sc scX:Scope):Bool :=
 decide (fr.length=N'.length)&&(IJ fr.length).all fun i=>match fr[i]? with
  | some (some j)=>match N'[i]? with
    | some x=>decide (N[j]?=some x)&&decide (sc.names.lookup x=some .free)&&(decide (scX.names.lookup x=some .cell)||decide (scX.names.lookup x=some .free))
    | none=>false
  | _=>true
noncomputable def nM(sc scX:Scope):Bool :=
 decide (sc.kind = .function)&&sc.names.all fun y=>(decide (y.2 ≠ .cell)||decide (sc.names.lookup y.1=some .cell))&&(decide (y.2 ≠ .local)||decide (sc.names.lookup y.1=some .local)) &&
  (decide (y.2 ≠ .free)||(decide (scX.names.lookup y.1=some .cell)||decide (scX.names.lookup y.1=some .free)))
theorem nF.get{fr:List (Option Nat)}{sc scX:Scope}(h:nF fr N' N sc scX=true):fr.length=N'.length/\∀(i j:Nat),fr[i]?=some (some j)->∃x,N'[i]?=some x/\N[j]?=some x/\sc.names.lookup x=some .free/\(scX.names.lookup x=some .cell\/scX.names.lookup x=some .free):=by
 unfold nF at h;obtain⟨h1,h2⟩:=Hz.mp h;refine⟨of_decide_eq_true h1,fun i j e=>?_⟩;have hi:i<fr.length:=(HM.mp e).1;have q:=JL.mp h2 i (LW.mpr hi);rw[e]at q;dsimp only at q
 cases en:N'[i]? with
 | none=>rw[en]at q;cases q
 | some x =>
   rw[en]at q;dsimp only at q;obtain⟨q1,q2⟩:=Hz.mp q;obtain⟨q3,q4⟩:=Hz.mp q1;exact⟨x,rfl,of_decide_eq_true q3,of_decide_eq_true q4,(HW.mp q2).imp of_decide_eq_true of_decide_eq_true⟩
theorem nB{k:KY}:∀{names:List (Str×KY)},names.lookup x=some k->(x,k)∈names:=fun h=>IZ h
structure CompA where
 cl:List (Str×Addr)
 fp:List Addr
 pn:List (Addr×Obj)
 s:Ht
 H:Hp
abbrev FZ(X:Cx)(N':List Str)(scope:Scope)(y:CompA):Cx:=bg X N' scope y.cl y.fp y.pn y.s y.H
noncomputable def rE(wi:TI)(fr:List (Option Nat))(g:CompA->TG)(tt:CompA->TT)(te:CompA->TE):TE:=fun σ H Q=>wi σ H fun J H1=>∀D,H1 D=none->∃Wv:Nat->Nat->List V->St->Hp->Prop,(∃m,Wv 0 m [] (nO fr σ) (Ex H1 D (.lst []))) /\
 ∀ (z:CompA) i m acc σc H,Wv i m acc σc H->(J.stop i H/\Q (.ref D) H)\/(J.go i H/\∀x H',J.yld i H x H'->g z x σc H' fun σ2 H2=>tt z σ2 H2 fun b H3 =>
   if b=true then te z σ2 H3 fun y H4=>H4 D=some (.lst acc)/\acc.length<sizeLine/\∃m',m'<m/\Wv (i+1) m' (acc++[y]) σ2 (Ex H4 D (.lst (acc++[y])))else ∃m',m'<m/\Wv (i+1) m' acc σ2 H3)
theorem fS{env:Env}:∀{names:List (Str×KY)}{x:Str},names.lookup x=some .free ->
 (names.map fun(n,k)=>if(k==IP&&env.scope.kind == .function&&env.kindOf n==some .cell)then(n,JP)else(n,k)).lookup x=some .cell \/
 (names.map fun(n,k)=>if(k==IP&&env.scope.kind == .function&&env.kindOf n==some .cell)then(n,JP)else(n,k)).lookup x=some .free
 | [],_,h=>by simp at h
 | (n,k)::r,x,h=>by
   have ih:=@fS env r x;rw[HE];dsimp only
   cases hx:x==n with
   | true =>
     simp only[IV,hx]at h;cases h;by_cases hc:((IP==IP)&&env.scope.kind == .function&&env.kindOf n==some .cell)=true
     · rw[if_pos hc];simp[IV,hx]
     · rw[if_neg hc];simp[IV,hx]
   | false =>
     simp only[IV,hx]at h;by_cases hc:(k==IP&&env.scope.kind == .function&&env.kindOf n==some .cell)=true
     · rw[if_pos hc];simp only[IV,hx];exact ih h
     · rw[if_neg hc];simp only[IV,hx];exact ih h
theorem dH{ex:Expr}{H3:Hp}{s3:Ht}{D:Addr}{J:It}{Q:VK}
 {cl:List (Str×Addr)}(N':List Str)(fr:List (Option Nat))(hc:X.calm=true)(hkind:scope.kind = .function)(hcell:∀y∈scope.names,y.2 = .cell->scope.names.lookup y.1=some .cell)
 (hfree:∀y∈scope.names,y.2 = .free->X.env.kindOf y.1=some .cell\/X.env.kindOf y.1=some .free)(frl:fr.length=N'.length)
 (frg:∀(i j:Nat),fr[i]?=some (some j)->∃x,N'[i]?=some x/\X.N[j]?=some x/\scope.names.lookup x=some .free/\(X.env.scope.names.lookup x=some .cell\/X.env.scope.names.lookup x=some .free))
 (cl1:∀x c,cl.lookup x=some c->X.env.cells.lookup x=some c)(cl2:∀x,(x,IP)∈scope.names->(cl.lookup x).isSome=true)
 (I3:Inv X pins σ H3 s3)(T:Turn X.prog X.w X.K tg J fp it tn)(tn3:tn 0 s3.heap)(fpD:∀b∈fp,H3 b=none)(fp3:∀b∈fp,b<s3.heap.objs.size)
 (fpk:∀b∈fp,b≠X.env.locals/\b∉X.fs/\(b∈X.ex\/X.s₀.heap.objs.size<=b)/\(∀x c,X.env.cells.lookup x=some c->c≠b)/\∀p∈X.pn++pins,p.1≠b)
 (loop:∀s',Inv (bg X N' scope cl fp (X.pn++pins) s3 H3) [] (nO fr σ) H3 s'->tn 0 s'.heap->(∀{H':Hp},(∀b∈fp,H' b=none)->∀b∈fp,lG (bg X N' scope cl fp (X.pn++pins) s3 H3) [] H' b) ->
  JU (Ib X.prog X.w) X.A (.compStart ex 0 (.ref it) (.ref D) (bg X N' scope cl fp (X.pn++pins) s3 H3).env) (fun r s5=>r = .ok .next/\∃σ5 H4,Inv (bg X N' scope cl fp (X.pn++pins) s3 H3) [] σ5 H4 s5/\Q (.ref D) H4) s')
 (fin:∀s5 H4 m,s5.heap.Ns s3.heap.objs.size m->(∀h',JQ s3.heap.objs.size s5.heap h'->Inv X pins σ H4 {s5 with heap:=h' })->lG X pins H4 s3.heap.objs.size->Q (.ref D) H4->Rp s3.heap.objs.size (.ok .next) s5) :
 HP (Ib X.prog X.w) X.A (Lk scope X.env.globals cl [] X.env.qual none .none (some X.env)) (fun cenv s₄ =>
  JU (Ib X.prog X.w) X.A (.compStart ex 0 (.ref it) (.ref D) {cenv with scope:=Og scope X.env})
   (Rp cenv.locals) s₄) X.xe s3:=by
 refine k7 ?_;have ok:=cellsFrom_ok scope.names (s3.heap.push {cls:=.type "dict", data:=.dict #[]}) (s3.heap.objs.size+1) [] ⟨fun _ _ hm=>(nomatch hm),List.Pairwise.nil⟩ (by rw[JG];exact Hw _);rw[JG]at ok;have kp:∀b o,s3.heap.get? b=some o->(N9 (s3.heap.push {cls:=.type "dict", data:=.dict #[]}) scope.names).get? b=some o:=fun b o e=>pushCells_keeps _ _ b o (Hu _ e);have hns₁:(N9 (s3.heap.push {cls:=.type "dict", data:=.dict #[]}) scope.names).Ns s3.heap.objs.size (fun _=>none):=(Heap.Ns.new s3.heap (.type "dict")).keeps (pushCells_keeps _ _);generalize N9 (s3.heap.push {cls:=.type "dict", data:=.dict #[]}) scope.names=h₁ at ok kp hns₁ ⊢
 have cs:∀x c,(JB (s3.heap.objs.size+1) scope.names cl).lookup x=some c->(JB (s3.heap.objs.size+1) scope.names []).lookup x=some c\/cl.lookup x=some c:=fun x c e=>by
  rw[bQ,fL]at e
  cases q:(JB (s3.heap.objs.size+1) scope.names []).lookup x with
  | none=>rw[q]at e;exact .inr (by simpa using e)
  | some c'=>rw[q]at e;exact .inl (by simpa using e)
 have own:∀x c,(JB (s3.heap.objs.size+1) scope.names []).lookup x=some c->h₁.IsCell c none/\s3.heap.objs.size+1<=c:=fun x c e=>ok.empty x c (IZ e)
 have clt:∀x c,cl.lookup x=some c->c<s3.heap.objs.size:=fun x c e=>by
  obtain⟨v,o,ho,_⟩:=I3.cell x c (cl1 x c e);exact HD ho
 have frn:∀x,scope.names.lookup x=some .free->(JB (s3.heap.objs.size+1) scope.names []).lookup x=none:=fun x e=>by
  cases q:(JB (s3.heap.objs.size+1) scope.names []).lookup x with
  | none=>rfl
  | some c =>
    have:=hcell (x,.cell) (dI (IZ q)) rfl;rw[e]at this;cases this
 have notC:∀b o,s3.heap.get? b=some o->b≠s3.heap.objs.size:=fun b o e=>Io (HD e);have fpstk:∀b∈fp,b∉frs X.stack:=fun b hb z=>(Ic.mp (I3.stkSub b z)).elim (fpk b hb).1 (fpk b hb).2.1;have cellK:∀c v,s3.heap.IsCell c v->h₁.IsCell c v:=fun c v ⟨o,ho,hd⟩=>⟨o,kp c o ho,hd⟩
 have IY:Inv (bg X N' scope cl fp (X.pn++pins) s3 H3) [] (nO fr σ) H3 {s3 with heap:=h₁}:=by
  refine⟨⟨I3.ok.mod,hkind,I3.ok.glob,I3.ok.blt,Hw _,fun x y c e1 e2=>?_,fun x hx=>?_,fun x c _ e=>?_,I3.ok.hd,I3.ok.frames,.inl rfl,
   fun b hb=>⟨Io (fp3 b hb),fun x c e=>?_⟩,I3.bs,Je I3.ok.bsz I3.sz,fun b o e hb=>?_,fun b hb=>fpstk b hb,I3.stack,I3.stkFree⟩,
   rfl,I3.bare,Un.kept kp,⟨_,hns₁,fun i x v e1 e2 e3=>?_⟩,fun x c e=>?_,I3.hok.fresh (Hw _),fun x c e=>?_,fun p hp=>?_,I3.hok.kept kp,?_⟩
  · rcases cs x c e1 with q1|q1<;>rcases cs y c e2 with q2|q2
    · exact name_of_addr ok.apart (IZ q1) (IZ q2)
    · exact absurd (Hy (clt y c q2) (Kx (own x c q1).2)) (Jj _)
    · exact absurd (Hy (clt x c q1) (Kx (own y c q2).2)) (Jj _)
    · exact I3.ok.inj x y c (cl1 x c q1) (cl1 y c q2)
  · refine J7.mp ?_;show((JB (s3.heap.objs.size+1) scope.names cl).lookup x).isSome=true;rcases jI hx with q|q
    · exact W.cellsFrom_some _ _ _ (.inr (cl2 x q))
    · exact W.cellsFrom_some _ _ _ (.inl (hcell _ q rfl))
  · rename_i hfn;rcases cs x c e with q|q
    · have:=(own x c q).2;show s3.heap.objs.size<=c;omega
    · have hfn:(scope.names.lookup x==some JP)=true:=hfn;have hl:scope.names.lookup x=some .cell:=by simpa using hfn
      obtain⟨c',ec'⟩:=J7.mp (W.cellsFrom_some scope.names (s3.heap.objs.size+1) [] (.inl hl));have e':(JB (s3.heap.objs.size+1) scope.names cl).lookup x=some c:=e;rw[bQ,fL,ec']at e';simp at e';subst e';exact Kx (own x c' ec').2
  · rcases cs x c e with q|q
    · exact fun z=>absurd (Hy (fp3 b hb) (Kx (by rw[<- z];exact(own x c q).2))) (Jj _)
    · exact(fpk b hb).2.2.2.1 x c (cl1 x c q)
  · rcases(fpk b hb).2.2.1 with z|z
    · exact I3.ok.noex b o e z
    · exact absurd (Hy (HD e) (Je I3.ok.bsz z)) (Jj _)
  · have e2':(fr[i]?).map (fun o=>o.bind fun j=>(σ[j]?).join)=some (some v):=by unfold nO at e2;rw[Ja]at e2;exact e2
    cases ef:fr[i]? with
    | none=>rw[ef]at e2';cases e2'
    | some o =>
      cases o with
      | none=>rw[ef]at e2';cases e2'
      | some j =>
        rw[ef]at e2';have e3':(σ[j]?).join=some v:=IA e2'
        have e4:σ[j]?=some (some v):=by
         cases q:σ[j]? with
         | none=>rw[q]at e3';cases e3'
         | some z=>rw[q]at e3';cases e3';rfl
        obtain⟨x',n1,n2,n3,n4⟩:=frg i j ef;have ex:x'=x:=IA (n1.symm.trans e1);subst ex;obtain⟨m,hn,hl⟩:=I3.loc;obtain⟨u,ru,lk⟩:=hl j x' v n2 e4 (n4.elim (fun z=>.inr (.inl z)) fun z=>.inr (.inr z));refine⟨u,ru,?_⟩;rcases lk with⟨kl,_⟩|⟨_,c,ec,hcl⟩
        · exact absurd (show X.env.scope.names.lookup x'=some .local from kl) (by rcases n4 with z|z<;>rw[z]<;>decide)
        · obtain⟨c',ec'⟩:=J7.mp (cl2 x' (nB n3));have:=cl1 x' c' ec';rw[ec]at this;cases this;refine .inr ⟨fS n3,c,?_,cellK _ _ hcl⟩;show(JB (s3.heap.objs.size+1) scope.names cl).lookup x'=some c;rw[bQ,fL,frn x' n3];simpa using ec'
  · rcases cs x c e with q|q
    · exact⟨_,(own x c q).1⟩
    · obtain⟨v,z⟩:=I3.cell x c (cl1 x c q);exact⟨v,cellK _ _ z⟩
  · rcases cs x c e with q|q
    · exact I3.hok.fresh (by have:=(own x c q).2;omega)
    · exact I3.freeC x c (cl1 x c q)
  · rw[Jx]at hp;obtain⟨e,n,ne,nf,d⟩:=I3.pin p hp;exact⟨kp _ _ e,n,notC _ _ e,fun z=>(Ic.mp (I3.stkSub p.1 z)).elim ne nf,d⟩
  · unfold nO;rw[Hs];exact frl
 have stat:∀{H':Hp},(∀b∈fp,H' b=none)->∀b∈fp,lG (bg X N' scope cl fp (X.pn++pins) s3 H3) [] H' b:=fun hn b hb =>
  ⟨hn b hb,Io (fp3 b hb),fpstk b hb,.inl hb,fun x c e=>(by
   rcases cs x c e with q|q
   · exact fun z=>absurd (Hy (fp3 b hb) (Kx (by rw[<- z];exact(own x c q).2))) (Jj _)
   · exact(fpk b hb).2.2.2.1 x c (cl1 x c q)),fun p hp=>by rw[Jx]at hp;exact(fpk b hb).2.2.2.2 p hp⟩
 refine LO (loop _ IY (T.keep _ _ _ tn3 fun b _ o e=>kp b o e) stat) fun r s5 ⟨hr,σ5,H4,I5,qn⟩=>?_;subst hr;obtain⟨m,hn,_⟩:=I5.loc;refine fin s5 H4 m hn (fun h' hs'=>?_) (I3.fpOk (Hw _) I5.free) qn;have k':∀b o,b≠s3.heap.objs.size->s5.heap.get? b=some o->h'.get? b=some o:=fun b o nb e=>hs'.extBut b o nb e;have u5:Un (frs X.stack) fp H3 H4 s3.heap s5.heap:=I5.base
 have un:Un (frs X.stack) fp H3 H4 s3.heap h' :=
  ⟨fun b o e n hb hx=>k' b o (notC b o e) (u5.keep b o e n hb hx),fun b o e n hb hx=>by obtain⟨sl,q⟩:=u5.slot b o e n hb hx;exact⟨sl,k' b _ (notC b o e) q⟩,u5.free,
   fun b o e hx=>by obtain⟨o',q⟩:=u5.there b o e hx;exact⟨o',k' b _ (notC b o e) q⟩,u5.tups,u5.frzs,u5.tbls⟩
 have nC:H4 s3.heap.objs.size=none:=I5.free
 have hok':G0 X.prog X.w H4 h':=fun b u e=>(I5.hok b u e).stay (fun c v hcv q=>k' c v (by
  rintro rfl;rcases hcv with z|z
  · rw[<- z]at e;rw[nC]at e;cases e
  · rw[nC]at z;cases z) q) (fun _ q=>q) fun _ _ q=>q
 obtain⟨hh,g5,d5,t5,os5⟩:=s5;have os':os5=s3.os:=I5.os;subst os';have I':=Inv.call (s:=s3) (h':=h') (g':=g5) (d':=d5) (t':=t5) (ch:=fp) I3 un hok' I5.bare (fun b hb=>⟨(fpk b hb).2.2.1,(fpk b hb).1,(fpk b hb).2.2.2.1,(fpk b hb).2.2.2.2⟩);exact I'
theorem iA{elt:Expr}{g:TG}{tt:TT}{te:TE}{H3:Hp}{s3:Ht}{D:Addr}{J:It}{Q:VK}
 {cl:List (Str×Addr)}(N':List Str)(fr:List (Option Nat))(hc:X.calm=true)(hkind:scope.kind = .function)(hcell:∀y∈scope.names,y.2 = .cell->scope.names.lookup y.1=some .cell)
 (hfree:∀y∈scope.names,y.2 = .free->X.env.kindOf y.1=some .cell\/X.env.kindOf y.1=some .free)(frl:fr.length=N'.length)
 (frg:∀(i j:Nat),fr[i]?=some (some j)->∃x,N'[i]?=some x/\X.N[j]?=some x/\scope.names.lookup x=some .free/\(X.env.scope.names.lookup x=some .cell\/X.env.scope.names.lookup x=some .free))
 (cl1:∀x c,cl.lookup x=some c->X.env.cells.lookup x=some c)(cl2:∀x,(x,IP)∈scope.names->(cl.lookup x).isSome=true)
 (I3:Inv X pins σ H3 s3)(T:Turn X.prog X.w X.K tg J fp it tn)(tn3:tn 0 s3.heap)(fpD:∀b∈fp,H3 b=none)(fp3:∀b∈fp,b<s3.heap.objs.size)
 (fpk:∀b∈fp,b≠X.env.locals/\b∉X.fs/\(b∈X.ex\/X.s₀.heap.objs.size<=b)/\(∀x c,X.env.cells.lookup x=some c->c≠b)/\∀p∈X.pn++pins,p.1≠b)
 (hg:PG (bg X N' scope cl fp (X.pn++pins) s3 H3) tg g)(ht:GB (bg X N' scope cl fp (X.pn++pins) s3 H3) ifs tt)(he:PE (bg X N' scope cl fp (X.pn++pins) s3 H3) elt te)
 {Wv:Nat->Nat->List V->St->Hp->Prop}{m0:Nat}(w0:Wv 0 m0 [] (nO fr σ) H3)
 (turn:∀i m acc σc H,Wv i m acc σc H->(J.stop i H/\Q (.ref D) H)\/(J.go i H/\∀x H',J.yld i H x H'->g x σc H' fun σ2 H2=>tt σ2 H2 fun b H3 =>
  if b=true then te σ2 H3 fun y H4=>H4 D=some (.lst acc)/\acc.length<sizeLine/\∃m',m'<m/\Wv (i+1) m' (acc++[y]) σ2 (Ex H4 D (.lst (acc++[y])))else ∃m',m'<m/\Wv (i+1) m' acc σ2 H3))
 (fin:∀s5 H4 m,s5.heap.Ns s3.heap.objs.size m->(∀h',JQ s3.heap.objs.size s5.heap h'->Inv X pins σ H4 {s5 with heap:=h' })->lG X pins H4 s3.heap.objs.size->Q (.ref D) H4->Rp s3.heap.objs.size (.ok .next) s5) :
 HP (Ib X.prog X.w) X.A (Lk scope X.env.globals cl [] X.env.qual none .none (some X.env)) (fun cenv s₄ =>
  JU (Ib X.prog X.w) X.A (.compStart (.ListComp elt [⟨tg,iter,ifs,0⟩] scope pos) 0 (.ref it) (.ref D) {cenv with scope:=Og scope X.env})
   (Rp cenv.locals) s₄) X.xe s3:=by
 refine dH N' fr hc hkind hcell hfree frl frg cl1 cl2 I3 T tn3 fpD fp3 fpk (fun s' IY tY stat=>?_) fin
 have loop:JU (Ib X.prog X.w) X.A (.compLoop (.ListComp elt [⟨tg,iter,ifs,0⟩] scope pos) 0 (.ref it) (.ref D) (bg X N' scope cl fp (X.pn++pins) s3 H3).env)
  (fun r s5=>r = .ok .next/\∃σ5 H4,Inv (bg X N' scope cl fp (X.pn++pins) s3 H3) [] σ5 H4 s5/\Q (.ref D) H4) s':=by
  refine qE (fun n s'=>∃i acc σ' H',Inv (bg X N' scope cl fp (X.pn++pins) s3 H3) [] σ' H' s'/\tn i s'.heap/\(∀b∈fp,H' b=none)/\Wv i n acc σ' H') ?_ m0
   ⟨0,[],_,_,IY,tY,fpD,w0⟩
  rintro n s4 ⟨i,acc,σ4,H4,I4,st4,fr4,w4⟩;rcases turn i n acc σ4 H4 w4 with⟨stop,qn⟩|⟨go,step⟩
  · exact EH (T.done (bg X N' scope cl fp (X.pn++pins) s3 H3) rfl rfl rfl hc i [] s4 σ4 H4 (fun _ _=>False) I4 (stat fr4) st4 stop) fun r s5 ⟨hr,I5⟩=>.inl ⟨hr,rfl,σ4,H4,I5,qn⟩
  · refine EH (T.item (bg X N' scope cl fp (X.pn++pins) s3 H3) rfl rfl rfl hc i [] s4 σ4 H4 (fun _ _=>False) I4 (stat fr4) st4 go) fun r s5 ⟨u,hr,h5⟩=>.inr ⟨u,hr,?_⟩;refine EH h5 fun _ s6 ⟨x,H6,I6,r6,y6,st6,fr6⟩=>?_;have I6':=I6.pinned (stat fr6) (T.obj _ _ st6)
    have again:∀{σ7:St}{H7:Hp}{s7:Ht},Inv (bg X N' scope cl fp (X.pn++pins) s3 H3) ([]++fU fp s6.heap) σ7 H7 s7->∀{acc':List V}{m':Nat},m'<n->Wv (i+1) m' acc' σ7 H7 ->
     ∃m,m<n/\∃i acc σ' H',Inv (bg X N' scope cl fp (X.pn++pins) s3 H3) [] σ' H' s7/\tn i s7.heap/\(∀b∈fp,H' b=none)/\Wv i m acc σ' H':=fun{σ7 H7 s7} I7 {acc' m'} hm w7=>by
     refine⟨m',hm,i+1,acc',σ7,H7,I7.unpinned,T.keep _ _ _ st6 fun b hb o e=>(I7.pin (b,o) (HH _ (HH _ (bT hb e)))).1,fun b hb=>?_,w7⟩;obtain⟨o,e,d⟩:=T.obj _ _ st6 b hb;exact(I7.pin (b,o) (HH _ (HH _ (bT hb e)))).2.1
    refine EH (hg _ s6 σ4 H6 x u _ I6' r6 (step x H6 y6)) fun _ s7 ⟨σ7,H7,I7,q7⟩=>?_;refine EH (ht _ s7 σ7 H7 _ I7 q7) fun ok s8 ⟨H8,I8,q8⟩=>?_
    cases ok with
    | false =>
      rw[if_neg H_]at q8 ⊢;obtain⟨m',hm,w8⟩:=q8
      exact again I8 hm w8
    | true =>
      rw[if_pos rfl]at q8 ⊢;refine EH (he _ s8 σ7 H8 _ I8 q8) fun y s9 ⟨yv,H9,I9,r9,eD,hl,m',hm,w9⟩=>?_
      exact EH (e8 (X:=bg X N' scope cl fp (X.pn++pins) s3 H3) _ s9 σ7 H9 (.ref D) [yv] (.ref D) [y] (fun _ H'=>H'=Ex H9 D (.lst (acc++[yv]))) I9 rfl (.cons r9 .nil) ⟨D,acc,yv,rfl,rfl,eD,hl,rfl⟩)
       fun _ s10 ⟨_,H10,I10,_,e10⟩=>by subst e10;exact again I10 hm w9
 exact Mz loop (T.self X.A 0 _ _ _ tY loop)
section
variable{X:Cx}{elt tg iter:Expr}{ifs:List Expr}{scope:Scope}{pos:Pos}{wi:TI}{g:CompA->TG}{tt:CompA->TT}{te:CompA->TE}
theorem jb(N':List Str)(fr:List (Option Nat))(hc:X.calm=true)(hi:PI X tg iter wi)(hfr:nF fr N' X.N scope X.env.scope=true)(hsc:nM scope X.env.scope=true)
 (hg:∀y,PG (FZ X N' scope y) tg (g y))(ht:∀y,GB (FZ X N' scope y) ifs (tt y))(he:∀y,PE (FZ X N' scope y) elt (te y))
 (hs:autoParam (∀x,Ig iter X.env x=pure x) æc._auto_1):PE X (.ListComp elt [⟨tg,iter,ifs,0⟩] scope pos) (rE wi fr g tt te):=by
 intro pins s σ H Q I h;obtain⟨sk,sn⟩:=Hz.mp hsc;have hkind:scope.kind = .function:=of_decide_eq_true sk;have hall:=JL.mp sn
 have hcell:∀y∈scope.names,y.2 = .cell->scope.names.lookup y.1=some .cell:=fun y hy hl=>by
  rcases HW.mp (Hz.mp (Hz.mp (hall y hy)).1).1 with z|z
  · exact absurd hl (of_decide_eq_true z)
  · exact of_decide_eq_true z
 have hnames:∀y∈scope.names,y.2 = .local->scope.names.lookup y.1=some .local:=fun y hy hl=>by
  rcases HW.mp (Hz.mp (Hz.mp (hall y hy)).1).2 with z|z
  · exact absurd hl (of_decide_eq_true z)
  · exact of_decide_eq_true z
 have hfree:∀y∈scope.names,y.2 = .free->X.env.kindOf y.1=some .cell\/X.env.kindOf y.1=some .free:=fun y hy hl=>by
  rcases HW.mp (Hz.mp (hall y hy)).2 with z|z
  · exact absurd hl (of_decide_eq_true z)
  · exact(HW.mp z).imp of_decide_eq_true of_decide_eq_true
 obtain⟨frl,frg⟩:=nF.get hfr;obtain⟨cl,hclos,cl1,cl2⟩:=cT (env:=X.env) (scope:=scope) fun y hy hl=>I.ok.has y.1 (hfree y hy hl);rw[eval_ListComp];refine Js (use:=none) rfl hs hclos hkind hnames (EH (hi pins s σ H _ I h) fun v s1 h1=>EH h1 fun itv s2 h2=>?_);obtain⟨it,fp,tn,J,H2,e,I2,T,st2,f2,q2⟩:=h2;subst e;refine Ia ?_;have hD:H2 s2.heap.objs.size=none:=I2.hok.fresh (Hw _)
 have I3:Inv X pins σ (Ex H2 s2.heap.objs.size (.lst [])) {s2 with heap:=s2.heap.push {cls:=.type "list", data:=.seq ([]:List Hq).toArray}} :=
  I2.laid (t':=s2.toks) (fun b u e=>Hu _ e) (Hw _) ⟨by show 0<=sizeLine;exact II _,[],0,.nil,HK _ rfl⟩
 obtain⟨Wv,⟨m0,w0⟩,turn⟩:=q2 _ hD;have tn3:tn 0 (s2.heap.push {cls:=.type "list", data:=.seq ([]:List Hq).toArray}):=T.keep _ _ _ st2 fun b _ o e=>Hu _ e
 have fpD:∀b∈fp,(Ex H2 s2.heap.objs.size (.lst [])) b=none:=fun b hb=>by
  obtain⟨o,e,_⟩:=T.obj _ _ st2 b hb;rw[ar (Io (HD e))];exact(f2 b hb).1
 have fp3:∀b∈fp,b<(s2.heap.push {cls:=.type "list", data:=.seq ([]:List Hq).toArray}).objs.size:=fun b hb=>by
  obtain⟨o,e,_⟩:=T.obj _ _ tn3 b hb;exact HD e
 exact iA N' fr hc hkind hcell hfree frl frg cl1 cl2 I3 T tn3 fpD fp3 (fun b hb=>(f2 b hb).2) (hg ⟨cl,fp,X.pn++pins,_,_⟩) (ht ⟨cl,fp,X.pn++pins,_,_⟩) (he ⟨cl,fp,X.pn++pins,_,_⟩) w0 (turn ⟨cl,fp,X.pn++pins,_,_⟩)
  (Rp:=NC (Ib X.prog X.w) X.A X.xe none (EP X pins σ Q) (.ref s2.heap.objs.size)) fun s5 H4 m hn k _ qn=>⟨m,hn,fun h' hs'=>⟨.ref _,H4,k h' hs',rfl,qn⟩⟩
theorem nq{b:Bool}{ix:Nat}(N':List Str)(fr:List (Option Nat))(hc:X.calm=true)(hi:PI X tg iter wi)(hfr:nF fr N' X.N scope X.env.scope=true)(hsc:nM scope X.env.scope=true)
 (hg:∀y,PG (FZ X N' scope y) tg (g y))(ht:∀y,GB (FZ X N' scope y) ifs (tt y))(he:∀y,PE (FZ X N' scope y) elt (te y))(hN:X.N.Nodup)(hix:X.N[ix]?=some x)(hx:Loc X.env.scope x)
 (hf:X.fn x=true\/X.env.scope.names.lookup x=some .local)(hsw:Ju (.ListComp elt [⟨tg,iter,ifs,0⟩] scope pos) (some (.Name x px)) spos.line X.env=pure b)
 (hs:∀x,Ig iter X.env x=pure x):PS X (.Assign [.Name x px] (.ListComp elt [⟨tg,iter,ifs,0⟩] scope pos) spos) (x5 (rE wi fr g tt te) (jf ix)):=by
 cases b with
 | false=>exact gC hN hix hx (jb N' fr hc hi hfr hsc hg ht he hs) hsw hf
 | true =>
 intro pins s σ H DD I h;obtain⟨sk,sn⟩:=Hz.mp hsc;have hkind:scope.kind = .function:=of_decide_eq_true sk;have hall:=JL.mp sn
 have hcell:∀y∈scope.names,y.2 = .cell->scope.names.lookup y.1=some .cell:=fun y hy hl=>by
  rcases HW.mp (Hz.mp (Hz.mp (hall y hy)).1).1 with z|z
  · exact absurd hl (of_decide_eq_true z)
  · exact of_decide_eq_true z
 have hnames:∀y∈scope.names,y.2 = .local->scope.names.lookup y.1=some .local:=fun y hy hl=>by
  rcases HW.mp (Hz.mp (Hz.mp (hall y hy)).1).2 with z|z
  · exact absurd hl (of_decide_eq_true z)
  · exact of_decide_eq_true z
 have hfree:∀y∈scope.names,y.2 = .free->X.env.kindOf y.1=some .cell\/X.env.kindOf y.1=some .free:=fun y hy hl=>by
  rcases HW.mp (Hz.mp (hall y hy)).2 with z|z
  · exact absurd hl (of_decide_eq_true z)
  · exact(HW.mp z).imp of_decide_eq_true of_decide_eq_true
 obtain⟨frl,frg⟩:=nF.get hfr;obtain⟨cl,hclos,cl1,cl2⟩:=cT (env:=X.env) (scope:=scope) fun y hy hl=>I.ok.has y.1 (hfree y hy hl);rw[Ln _ _ _ _ hsw];refine Hl (Jv (Hl ?_));show HP _ X.A (do let _ <- ND (.ListComp elt [⟨tg,iter,ifs,0⟩] scope pos) scope X.env _ (newList []) false (eval iter X.env) (some (Kz (.Name x px) X.env))) _ _ s
 refine Hl (Im (Js (use:=some (Kz (.Name x px) X.env)) (Q:=fun _ s'=>SP X pins DD .next s') rfl hs hclos hkind hnames
  (EH (hi pins s σ H _ I h) fun v s1 h1=>EH h1 fun itv s2 h2=>?_)) (fun _ s' hq=>Hn (Hn hq)) fun _ _ e=>e)
 obtain⟨it,fp,tn,J,H2,e,I2,T,st2,f2,q2⟩:=h2;subst e;refine Ia ?_;have hD:H2 s2.heap.objs.size=none:=I2.hok.fresh (Hw _)
 have I3:Inv X pins σ (Ex H2 s2.heap.objs.size (.lst [])) {s2 with heap:=s2.heap.push {cls:=.type "list", data:=.seq ([]:List Hq).toArray}} :=
  I2.laid (t':=s2.toks) (fun b u e=>Hu _ e) (Hw _) ⟨by show 0<=sizeLine;exact II _,[],0,.nil,HK _ rfl⟩
 obtain⟨Wv,⟨m0,w0⟩,turn⟩:=q2 _ hD;have tn3:tn 0 (s2.heap.push {cls:=.type "list", data:=.seq ([]:List Hq).toArray}):=T.keep _ _ _ st2 fun b _ o e=>Hu _ e
 have fpD:∀b∈fp,(Ex H2 s2.heap.objs.size (.lst [])) b=none:=fun b hb=>by
  obtain⟨o,e,_⟩:=T.obj _ _ st2 b hb;rw[ar (Io (HD e))];exact(f2 b hb).1
 have fp3:∀b∈fp,b<(s2.heap.push {cls:=.type "list", data:=.seq ([]:List Hq).toArray}).objs.size:=fun b hb=>by
  obtain⟨o,e,_⟩:=T.obj _ _ tn3 b hb;exact HD e
 refine iA (Q:=fun v H1=>jf ix v σ H1 DD.nx) N' fr hc hkind hcell hfree frl frg cl1 cl2 I3 T tn3 fpD fp3 (fun b hb=>(f2 b hb).2) (hg ⟨cl,fp,X.pn++pins,_,_⟩) (ht ⟨cl,fp,X.pn++pins,_,_⟩) (he ⟨cl,fp,X.pn++pins,_,_⟩) w0 (turn ⟨cl,fp,X.pn++pins,_,_⟩)
  (Rp:=NC (Ib X.prog X.w) X.A X.xe (some (Kz (.Name x px) X.env)) (fun _ s'=>SP X pins DD .next s') (.ref s2.heap.objs.size)) fun s5 H4 m hn k fpo qn=>?_
 show HP _ X.A (Kz (.Name x px) X.env (.ref s2.heap.objs.size)) _ _ s5;have I5:Inv X pins σ H4 s5:=k s5.heap (Li _ _);obtain⟨f0,f1,f2',f3,f4,f5⟩:=fpo;refine La (eS I5 hN hix hx (v:=.ref s2.heap.objs.size) rfl (fun s6 I6 sb=>?_) hf);obtain⟨a,sb,ha⟩:=sb
 have hne:(s2.heap.push {cls:=.type "list", data:=.seq ([]:List Hq).toArray}).objs.size≠a:=by
  rcases ha with rfl|ha
  · exact f1
  · exact fun z=>f4 x a ha z.symm
 refine⟨m,hn.at' fun o e=>sb.extBut _ o hne e,fun h' hs'=>?_⟩;exact⟨_,H4,I6.turned (t':=s6.toks) (fun b o hb e=>hs'.extBut b o hb e) f0 f1 f3 f4 f5,qn⟩
end
end L2
namespace L2.VL
noncomputable def W.cap:W->Option W
 | .d x=>some (.d x)
 | .reel=>some .reel
 | .vv u=>some (.vv u)
 | .sc ns=>some (.sc ns)
 | .fd kvs=>some (.fd kvs)
 | .xr kvs=>some (.xr kvs)
 | .xw a kvs=>some (.xw a kvs)
 | .fw kvs=>some (.fw kvs)
 | .ft kvs=>some (.ft kvs)
 | .xc x fs=>some (.xc x fs)
 | .dp kvs x=>some (.dp kvs x)
 | _=>none
noncomputable def eO(fr:List (Option Nat))(ρ:En):En:=fr.map fun o=>o.bind fun j=>((ρ[j]?).join).bind W.cap
noncomputable def qY(X:Cx)(rl:RlT)(ifs:List Expr)(f:TB):Prop:=∃t,GB X ifs t/\∀{F₀ H₀ F H:Hp}{σ:St}{ρ:En},VR X.K rl F₀ H₀ F H σ ρ->∀(Qd:Bool->Prop)(Q:Bool->Hp->Prop),f ρ Qd ->
 (∀b F' H',Grow rl F H F' H'->Qd b->Q b H')->t σ H Q
theorem cr:qY X rl [] (fun _ Q=>Q true):=⟨_,o8,fun R Qd Q q k=>k true _ _ (Grow.refl R.sub R.reel) q⟩
theorem nX{c:Expr}{f:TB}(h:PB X rl c f):qY X rl [c] f:=let ⟨t,p,k⟩:=h;⟨t,vF p,k⟩
theorem gg{fr:List (Option Nat)}{w:W}(h:(eO fr ρ)[i]?=some (some w)):∃j w',fr[i]?=some (some j)/\ρ[j]?=some (some w')/\w'.cap=some w:=by
 unfold eO at h;rw[Ja]at h
 cases ef:fr[i]? with
 | none=>rw[ef]at h;cases h
 | some o =>
   cases o with
   | none=>rw[ef]at h;cases h
   | some j =>
     rw[ef]at h;have h':((ρ[j]?).join).bind W.cap=some w:=IA h
     cases q:ρ[j]? with
     | none=>rw[q]at h';cases h'
     | some o =>
       cases o with
       | none=>rw[q]at h';cases h'
       | some w'=>rw[q]at h';exact⟨j,w',rfl,q,h'⟩
theorem mT{w' w:W}(h:w'.cap=some w):w=w'/\w.own=false/\∀xs,w ≠ .pk xs:=by
 cases w'<;>cases h<;>exact⟨rfl,rfl,(fun _ z=>by cases z)⟩
theorem f_{K:W.Frag}{fr:List (Option Nat)}(R:VR K rl F₀ H₀ F H σ ρ)(g:Grow rl F H F H'):VR K rl F H F H' (nO fr σ) (eO fr ρ):=by
 refine⟨g,fun i w e=>?_,fun i j xs ys v _ e1 _ o1 _ _ _=>?_,fun i xs e=>?_,by simp[nO,eO]⟩
 · obtain⟨j,w',e1,e2,e3⟩:=gg e;obtain⟨rfl,n1,n2⟩:=mT e3;obtain⟨v,s1,r1,_⟩:=R.sl j w e2;refine⟨v,?_,r1.grow g,?_⟩
   · unfold nO;rw[Ja,e1];show some ((σ[j]?).join)=_;rw[s1];rfl
   · cases w with
     | ml xs=>cases n1
     | md xs=>cases n1
     | mk xs=>cases n1
     | xm xs=>cases n1
     | nt _=>trivial
     | lk=>trivial
     | sc _=>trivial
     | fd _=>trivial
     | xr _=>trivial
     | xw _ _=>trivial
     | fw _=>trivial
     | ft _=>trivial
     | xc _ _=>trivial
     | dp _ _=>trivial
     | d _=>trivial
     | pk _=>trivial
     | reel=>trivial
     | vv _=>trivial
 · obtain⟨_,_,_,_,e3⟩:=gg e1;rw[(mT e3).2.1]at o1;cases o1
 · obtain⟨_,_,_,_,e3⟩:=gg e;exact absurd rfl ((mT e3).2.2 xs)
theorem d_{fr:List (Option Nat)}:nK (eO fr ρ):=fun i xs e=>by
 obtain⟨_,_,_,_,e3⟩:=gg e;exact(mT e3).2.1
theorem VR.other{K:W.Frag}(R:VR K rl F₀ H₀ F H σ ρ)(n:nK ρ){D:Addr}{o:HO}(h0:H₀ D=none)(f:F D=none)(hr:rl.a≠some D):VR K rl F₀ H₀ F (Ex H D o) σ ρ:=by
 have neF:∀b u,F b=some u->b≠D:=fun b u q z=>by subst z;rw[f]at q;cases q
 have g:Grow rl F₀ H₀ F (Ex H D o):=by
  refine⟨fun b o q1 n=>by rw[ar (bi q1 h0)];exact R.g.same b o q1 n,R.g.fs,fun b o q1=>by rw[ar (neF b o q1)];exact R.sub b o q1,R.g.old,fun y z=>?_⟩;obtain⟨z1,⟨u,h1,h2⟩⟩:=R.reel y z;exact⟨z1,⟨u,by rw[ar (fun q=>hr (by rw[<- q];exact z))];exact h1,h2⟩⟩
 refine⟨g,fun i w e=>?_,R.ap,R.np,R.len⟩;obtain⟨v,h1,h2,h3⟩:=R.sl i w e;refine⟨v,h1,?_,h3⟩
 cases w with
 | d x=>exact h2
 | reel=>exact h2
 | vv u=>exact h2
 | ml xs=>cases n i _ e
 | md xs=>cases n i _ e
 | mk xs=>cases n i _ e
 | xm xs=>cases n i _ e
 | nt ds=>exact h2
 | lk=>trivial
 | sc _=>exact h2
 | fd _=>exact h2
 | xr _=>exact h2
 | xw _ _=>exact h2
 | fw _=>exact h2
 | ft _=>exact h2
 | xc _ _=>exact h2
 | dp _ _=>exact h2
 | pk xs=>exact absurd e (R.np i xs)
section
variable{X:Cx}{rl:RlT}{elt tg iter:Expr}{ifs:List Expr}{scope:Scope}{pos:Pos}{fi:En->(List Hi->Prop)->Prop}{g:Gn}{ft:TB}{fe:TV}
end
mutual
def Dd:Hi->Prop
 | .none=>True
 | .bool _=>True
 | .int i=>i.natAbs<2^1900
 | .str x=>Hi.strOk x=true
 | .list xs=>lF xs
 | .tuple xs=>lF xs
 | .dict _=>False
def lF:List Hi->Prop
 | []=>True
 | x::xs=>Dd x/\lF xs
end
noncomputable def Gv(d:Hi):Prop:=Dd d/\d.depth<=60/\d.bulk<=8000
section
variable{X:Cx}{rl:RlT}{a b e:Expr}{es:List Expr}{fa fb fc:TV}{fs:Gi}{pos p:Pos}
noncomputable def zg:List W->(W->Prop)->Prop:=fun ws Q=>∃w d,ws=[w]/\w.dat=some d/\Gv d/\Q (.d (.str d.shown))
noncomputable def EC:Hi->String
 | .none => "NoneType"
 | .bool _ => "bool"
 | .int _ => "int"
 | .str _ => "str"
 | .list _ => "list"
 | .tuple _ => "tuple"
 | .dict _ => "dict"
noncomputable def C4(d:Hi)(T:String):Bool:=EC d==T||(EC d == "bool" && T == "int")
noncomputable def CN(T:String):Bool:=["int", "bool", "str", "list", "tuple"].contains T
noncomputable def C7:List W->(W->Prop)->Prop:=fun ws Q=>∃w d T,ws=[w,.vv (.ty T)]/\w.dat=some d/\CN T=true/\Q (.d (.bool (C4 d T)))
theorem dg(hm:X.mg "len" = none)(ha:Gz X rl [a] fs)(hg:autoParam (Gl X "len") æa._auto_1)(he:autoParam (HA [a] X.env=(false,eval a X.env)::HA [] X.env) æa._auto_1)(hpl:autoParam ((Jl pos (HA [] X.env)).any (·.1)=false) æa._auto_1) :
 PV X rl (.Call (.Name "len" p) [a] [] pos) (eA Ab fs):=fH jZ xq hm boot_len ha hg (by decide) (by decide) he hpl
theorem rm(hm:X.mg "abs" = none)(ha:Gz X rl [a] fs)(hg:autoParam (Gl X "abs") æa._auto_1)(he:autoParam (HA [a] X.env=(false,eval a X.env)::HA [] X.env) æa._auto_1)(hpl:autoParam ((Jl pos (HA [] X.env)).any (·.1)=false) æa._auto_1) :
 PV X rl (.Call (.Name "abs" p) [a] [] pos) (eA Ae fs):=fH tm xv hm (by first|rfl|exact boot_abs) ha hg (by decide) (by decide) he hpl
noncomputable def ze:List W->(W->Prop)->Prop:=fun ws Q=>∃i,ws=[.d (.int i)]/\i.natAbs.log2<1920/\Q (.d (.str (toString i)))
end
structure FnIn (K:W.Frag) (mg:Str->Option Hq) (x:Str) (st:Stmt) (ps:List Str):Prop where
 ex:∃f fd,mg x=some (.ref f)/\Fun K x x st f fd/\Binds K fd ps []
structure Bz (mg:Str->Option Hq):Prop where
 int_:mg "int" = none
 bool_:mg "bool" = none
 str_:mg "str" = none
 list_:mg "list" = none
 tuple_:mg "tuple" = none
 dict_:mg "dict" = none
 isinstance_:mg "isinstance" = none
 len_:mg "len" = none
 abs_:mg "abs" = none
 repr_:mg "repr" = none
 range_:mg "range" = none
 all_:mg "all" = none
 any_:mg "any" = none
 sum_:mg "sum" = none
 min_:mg "min" = none
 max_:mg "max" = none
 sorted_:mg "sorted" = none
 zip_:mg "zip" = none
 enumerate_:mg "enumerate" = none
 reversed_:mg "reversed" = none
 divmod_:mg "divmod" = none
 set_:mg "set" = none
section
variable{P:HV}{w:IF}{K:W.Frag}{mg:Str->Option Hq}{base:Heap}{rl:RlT}{x:Str}{st:Stmt}{N ps:List Str}{k:Nat}{Pd:List W->(Hi->Prop)->Prop}{t:Gj}
theorem Dfn.of(Fn:FnIn K mg x st ps)(S:FnScope N ps (defScope st))(mono:∀ws Q Q',(∀d,Q d->Q' d)->Pd ws Q->Pd ws Q')(len:∀ws Q,Pd ws Q->ws.length=ps.length)
 (hbody:∀{f:Addr}(cdv:Hq)(A:IM)(outer:List Env)(s:Ht)(H:Hp)(E:XK),Room k (A.deeper (L8 x (defScope st) s.heap.objs.size f cdv)) ->
  mY (nP G6 P w K mg base N x (defScope st) f cdv A outer s H E).nox rl (defBody st) t)
 (hread:∀ws Q,Pd ws Q->t (m7 Q) (dL N ws)):Dfn P w K mg base rl x ps (k+1) Pd:=by
 obtain⟨f,fd,hm,F,hb⟩:=Fn.ex;exact⟨mono,f,fd,hm,F.kp,hb,Ej F S len hbody hread⟩
end
section
variable{X:Cx}{rl:RlT}{e:Expr}{es:List Expr}{fa fb fc:TV}{fs:Gi}{pos p:Pos}
end
theorem fz_d(x:Hi):(W.d x).fz = .d x:=rfl
theorem fz_ml(x:List Hi):(W.ml x).fz = .d (.list x):=rfl
theorem fz_pk(x:List Hi):(W.pk x).fz = .pk x:=rfl
theorem fz_reel:W.reel.fz = .reel:=rfl
theorem fz_vv(x:V):(W.vv x).fz = .vv x:=rfl
theorem pk_d(x:Hi):L2.VL.W.peek (.d x) = .d x:=rfl
theorem pk_ml(x:List Hi):L2.VL.W.peek (.ml x) = .pk x:=rfl
theorem pk_reel:L2.VL.W.peek .reel = .reel:=rfl
theorem pk_vv(x:V):L2.VL.W.peek (.vv x) = .vv x:=rfl
theorem dat_d(x:Hi):(W.d x).dat=some x:=rfl
theorem dat_ml(x:List Hi):(W.ml x).dat=some (.list x):=rfl
theorem dat_pk(x:List Hi):(W.pk x).dat=some (.list x):=rfl
theorem isPk_d(x:Hi):(W.d x).isPk=false:=rfl
theorem isPk_ml(x:List Hi):(W.ml x).isPk=false:=rfl
theorem isPk_reel:W.reel.isPk=false:=rfl
theorem dats_nil:ji []=some []:=rfl
theorem dats_d(x:Hi)(r:List W):ji (.d x::r)=(ji r).map (x :: ·):=rfl
theorem arg_d(x:Hi):dZ (.d x)=true:=rfl
theorem arg_reel:dZ .reel=true:=rfl
theorem item_l(xs:List Hi)(i:Int):L2.VL.itemAt (.list xs) i=L2.atI xs i:=rfl
theorem item_t(xs:List Hi)(i:Int):L2.VL.itemAt (.tuple xs) i=L2.atI xs i:=rfl
theorem len_l(xs:List Hi):lj (.list xs)=some xs.length:=rfl
theorem len_t(xs:List Hi):lj (.tuple xs)=some xs.length:=rfl
theorem at0{α:Type}(x:α)(r:List α):L2.atI (x::r) 0=some x:=by simp[L2.atI,L2.ixN]
theorem at1{α:Type}(x y:α)(r:List α):L2.atI (x::y::r) 1=some y:=by
 have:(1:Int)<((x::y::r).length:Int):=by simp;omega
 simp only[L2.atI,L2.ixN];rw[if_pos (by decide),if_pos this];rfl
theorem gP{x y:Int}(h:y≠0):(x.fmod y).natAbs<y.natAbs:=by
 rcases Int.lt_or_gt_of_ne h with hy|hy
 · have h1:=ML x y
   have e:x.fmod y = -((-x).fmod (-y)):=by
    have:=Int.neg_fmod_neg x y;omega
   have p:0 < -y:=by omega
   have b1:=JD (-x) p;have b2:=Kn (-x) p;omega
 · have b1:=JD x hy;have b2:=Kn x hy;omega
theorem mK(x y:Int):IC y (x.fmod y)=IC x y:=by
 have e:x.fmod y=x+y*(-(x.fdiv y)):=by
  have:=ML x y;rw[Int.mul_neg];omega
 rw[e,Int.gcd_add_mul_left_right];exact Int.gcd_comm y x
theorem eqv_ii(a b:Int):IL (.int a) (.int b)=(a==b):=by simp[IL]
theorem shaped_i(a:Int):IK (.int a)=true:=rfl
theorem shaped_b(a:Bool):IK (.bool a)=true:=rfl
theorem eC.of{i:Int}(h:j≠0)(b:j.natAbs<2^64):eC i j:=⟨h,Hy b (HJ (by decide) (by decide))⟩
theorem gX:∀ns:List Int,IE (ns.map Iv)=true
 | []=>rfl
 | n::ns=>by simp[IE,JR,gX ns]
theorem iy:∀ns:List Int,IN (ns.map Iv)=0
 | []=>rfl
 | n::ns=>by simp[IN,Ks,iy ns]
theorem shaped_ints(ns:List Int):IK (.list (ns.map .int))=true:=by simp[IK,JR,Ks,gX,iy]
theorem wC(ns:List Hi):IL (.list ns) (.list [])=ns.isEmpty:=by cases ns<;>simp[IL,Kc]
theorem wA{a:Int}(h:b≠0):0<(IC a b:Int):=by
 have:=Ko a h;omega
theorem zd{a:Int}(h:b≠0):(IC a b)<=b.natAbs:=Nat.le_of_dvd (by omega) (Mb a b)
theorem zK{xs:List α}{k:Int}(h0:0<=k)(h1:k<(xs.length:Int)):∃z,L2.atI xs k=some z/\z∈xs:=by
 obtain⟨n,rfl⟩:=Kd h0;have hn:n<xs.length:=by omega
 exact⟨xs[n],lA (Ip hn),HZ hn⟩
theorem i7{K:W.Frag}{i:Str}(h:Rep K F v (.str i)):v = .str i:=by cases h;rfl
noncomputable def Ac(neg:Bool):W->W->(W->Prop)->Prop:=fun x y Q=>∃a b:Str,x = .d (.str a)/\y = .d (.str b)/\Q (.d (.bool (if neg then !decide (a=b)else decide (a=b))))
theorem n8:Gg X rl E7 (Ac false):=fun{F H x y wx wy} Qd Q s ra r1 r2 q k=>by
 obtain⟨a,b,rfl,rfl,q⟩:=q;have e1:=i7 r1;have e2:=i7 r2;subst e1 e2
 have e:decide (V.str a=V.str b)=decide (a=b):=by
  by_cases h:a=b
  · subst h;simp
  · rw[decide_eq_false h,decide_eq_false fun z=>h (by injection z)]
 exact⟨rfl,by rw[e];exact k _ (.d _) _ _ (Grow.refl s ra) (.bl _) trivial q⟩
theorem xj:Gg X rl E4 (Ac true):=fun{F H x y wx wy} Qd Q s ra r1 r2 q k=>by
 obtain⟨a,b,rfl,rfl,q⟩:=q;have e1:=i7 r1;have e2:=i7 r2;subst e1 e2
 have e:decide (V.str a=V.str b)=decide (a=b):=by
  by_cases h:a=b
  · subst h;simp
  · rw[decide_eq_false h,decide_eq_false fun z=>h (by injection z)]
 exact⟨rfl,by rw[e];exact k _ (.d _) _ _ (Grow.refl s ra) (.bl _) trivial q⟩
section
variable{P:HV}{w:IF}{K:W.Frag}{mg:Str->Option Hq}{base:Heap}{rl:RlT}{x:Str}{st:Stmt}{N ps:List Str}{k:Nat}{Pd:List W->(List Hi->Prop)->Prop}{t:Gj}
end
section
variable{X:Cx}{rl:RlT}{e:Expr}{es:List Expr}{fs:Gi}{pos p:Pos}
noncomputable def Am(Pd:List W->(List Hi->Prop)->Prop)(fs:Gi):TV:=fun ρ Q=>fs ρ fun ws=>ws.all dZ=true/\Pd ws fun xs=>Q (.ml xs)
theorem vI(X:Cx)(rest:List Stmt):GC X rest (fun D σ H=>∀pins s,Inv X pins σ H s->HP (Ib X.prog X.w) X.A (execs rest X.env) (SP X pins D) X.xe s):=fun pins s σ H D I h=>h pins s I
end
section
variable{X:Cx}{rl:RlT}{a b c e:Expr}{es:List Expr}{fa fb fc:TV}{fs:Gi}{pos p:Pos}
noncomputable def fR:Hi->Option (List Hi)
 | .list xs=>some xs
 | .tuple xs=>some xs
 | _=>none
theorem seq_l(xs:List Hi):fR (.list xs)=some xs:=rfl
theorem seq_t(xs:List Hi):fR (.tuple xs)=some xs:=rfl
theorem fR.of{o:Option Hi}(h:o=some d)(e:fR d=some xs):o=some (.list xs)\/o=some (.tuple xs):=by
 cases d<;>cases e
 · exact .inl h
 · exact .inr h
noncomputable def qa:List W->(W->Prop)->Prop:=fun ws Q=>∃w d xs,ws=[w]/\w.dat=some d/\fR d=some xs/\Q (.d (.tuple xs))
theorem tK:fP X rl (fun xs H Q=>∃p ys,xs=[.ref p]/\((Gq X.K H p ys/\∀l,H l=none->Q (.ref l) (Ex H l (.tup ys)))\/(Gp X.K H p ys/\Q (.ref p) H))) qa:=fun{F H vs ws} Qd Q s ra r ⟨w,d,xs,ew,ed1,ed2,q⟩ k=>by
 have ed:=fR.of ed1 ed2;subst ew;obtain⟨v,rfl,r1⟩:=oU r;rcases ed with ed|ed
 · obtain⟨a,us,rfl,sq,rs⟩:=r1.items s ed;refine⟨a,us,rfl,.inl ⟨sq,fun l hl=>?_⟩⟩;have g:=Grow.data (a:=l) (o:=.tup us) s ra hl;exact k _ (.d (.tuple xs)) _ _ g (.tup (.inl (.inl aG)) (rs.mono g.fs)) trivial q
 · cases w with
   | d y =>
     cases ed
     cases(show Rep X.K F v (.tuple xs)from r1)with
     | tup sq rs=>exact⟨_,_,rfl,.inr ⟨c_ s sq,k _ (.d (.tuple xs)) _ _ (Grow.refl s ra) (.tup sq rs) trivial q⟩⟩
   | ml ys=>cases ed
   | pk ys=>cases ed
   | reel=>cases ed
   | vv u=>cases ed
   | md u=>cases ed
   | mk u=>cases ed
   | xm u=>cases ed
   | lk=>cases ed
   | sc _=>cases ed
   | fd _=>cases ed
   | xr _=>cases ed
   | xw _ _=>cases ed
   | fw _=>cases ed
   | ft _=>cases ed
   | xc _ _=>cases ed
   | dp _ _=>cases ed
   | nt ds =>
     cases ed;obtain⟨b,us,rfl,h,q'⟩:=r1;exact⟨_,_,rfl,.inr ⟨.inl (.inl (s _ _ h)),k _ (.d (.tuple xs)) _ _ (Grow.refl s ra) (.tup (.inl (.inl h)) q') trivial q⟩⟩
theorem cO(hm:X.mg "tuple" = none)(ha:Gz X rl [a] fs)(hg:autoParam (Gl X "tuple") æa._auto_1)(he:autoParam (HA [a] X.env=(false,eval a X.env)::HA [] X.env) æa._auto_1)(hpl:autoParam ((Jl pos (HA [] X.env)).any (·.1)=false) æa._auto_1) :
 PV X rl (.Call (.Name "tuple" p) [a] [] pos) (eA qa fs):=iJ fD tK hm (by rfl) ha hg (by decide) (by decide) he hpl
noncomputable def sQ:List W->(W->Prop)->Prop:=fun ws Q=>∃w d xs,ws=[w]/\w.dat=some d/\fR d=some xs/\Q (.ml xs)
theorem xp:fP X rl (fun xs H Q=>∃p ys,xs=[.ref p]/\(Gq X.K H p ys\/Gp X.K H p ys)/\∀l,H l=none->Q (.ref l) (Ex H l (.lst ys))) sQ:=fun{F H vs ws} Qd Q s ra r ⟨w,d,xs,ew,ed1,ed2,q⟩ k=>by
 have ed:=fR.of ed1 ed2;subst ew;obtain⟨v,rfl,r1⟩:=oU r;rcases ed with ed|ed
 · obtain⟨a,us,rfl,sq,rs⟩:=r1.items s ed;exact⟨a,us,rfl,.inl sq,fun l hl=>k _ (.ml xs) _ _ (Grow.laid s ra hl) (d9 s ra hl rs) (fun a ea=>by cases ea;exact hl) q⟩
 · obtain⟨a,us,rfl,sq,rs⟩:=r1.itemsT s ed;exact⟨a,us,rfl,.inr sq,fun l hl=>k _ (.ml xs) _ _ (Grow.laid s ra hl) (d9 s ra hl rs) (fun a ea=>by cases ea;exact hl) q⟩
theorem rj(hm:X.mg "list" = none)(ha:Gz X rl [a] fs)(hg:autoParam (Gl X "list") æa._auto_1)(he:autoParam (HA [a] X.env=(false,eval a X.env)::HA [] X.env) æa._auto_1)(hpl:autoParam ((Jl pos (HA [] X.env)).any (·.1)=false) æa._auto_1) :
 PV X rl (.Call (.Name "list" p) [a] [] pos) (eA sQ fs):=iJ jY xp hm (by rfl) ha hg (by decide) (by decide) he hpl
noncomputable def As(i j l:Nat)(fs:Gi):Gj:=fun D ρ=>fs ρ fun ws=>∃x y z,ji ws=some [x,y,z]/\D.nx (((ρ.set i (some (.d x))).set j (some (.d y))).set l (some (.d z)))
end
section
variable{X:Cx}{rl:RlT}
noncomputable def C9:W->W->(W->Prop)->Prop:=fun x y Q=>∃b c,x = .d (.bool b)/\y = .d (.bool c)/\Q (.d (.bool (b==c)))
end
section
variable{X:Cx}{rl:RlT}{a b c e:Expr}{es:List Expr}{fa fb fc:TV}{fs:Gi}{pos p p2:Pos}
noncomputable def FS(f:Int->Int->Hi):List W->(W->Prop)->Prop:=fun ws Q=>∃i j,ws=[.d (.int i),.d (.int j)]/\Q (.d (f i j))
theorem xt{f:Int->Int->V}{g:Int->Int->Hi}(h:∀K F i j,Rep K F (f i j) (g i j)):fP X rl (fun xs H Q=>∃i j,xs=[.int i,.int j]/\Q (f i j) H) (FS g):=fun{F H vs ws} Qd Q s ra r ⟨i,j,ew,q⟩ k=>by
 subst ew;obtain⟨v,u,rfl,r1,r2⟩:=CT r;have e1:=bF r1;have e2:=bF r2;subst e1 e2;exact⟨i,j,rfl,k _ (.d _) _ _ (Grow.refl s ra) (h _ _ i j) trivial q⟩
theorem og(hm:X.mg "max" = none)(ha:Gz X rl [a,b] fs)(hc:autoParam (X.calm=true) æa._auto_1)(hg:autoParam (Gl X "max") æa._auto_1)(he:autoParam (HA [a,b] X.env=(false,eval a X.env)::HA [b] X.env) æa._auto_1)(hpl:autoParam ((Jl pos (HA [b] X.env)).any (·.1)=false) æa._auto_1) :
 PV X rl (.Call (.Name "max" p) [a,b] [] pos) (eA (FS fun i j=>.int (max i j)) fs) :=
 fH (qO hc) (xt (f:=fun i j=>.int (if j>i then j else i)) fun _ _ i j=>(show(if j>i then j else i)=max i j by split<;>omega) ▸ .int _) hm (by rfl) ha hg (by decide) (by decide) he hpl
theorem xE(hm:X.mg "min" = none)(ha:Gz X rl [a,b] fs)(hc:autoParam (X.calm=true) æa._auto_1)(hg:autoParam (Gl X "min") æa._auto_1)(he:autoParam (HA [a,b] X.env=(false,eval a X.env)::HA [b] X.env) æa._auto_1)(hpl:autoParam ((Jl pos (HA [b] X.env)).any (·.1)=false) æa._auto_1) :
 PV X rl (.Call (.Name "min" p) [a,b] [] pos) (eA (FS fun i j=>.int (min i j)) fs) :=
 fH (qN hc) (xt (f:=fun i j=>.int (if j<i then j else i)) fun _ _ i j=>(show(if j<i then j else i)=min i j by split<;>omega) ▸ .int _) hm (by rfl) ha hg (by decide) (by decide) he hpl
noncomputable def qb:List W->(W->Prop)->Prop:=fun ws Q=>∃i j,ws=[.d (.int i),.d (.int j)]/\0<j/\j<1073741824/\Q (.d (.tuple [.int (i / j),.int (i%j)]))
noncomputable def sR:List W->(W->Prop)->Prop:=fun ws Q=>(∃i,ws=[.d (.int i)]/\Q (.d (.int i)))\/∃k:Bool,ws=[.d (.bool k)]/\Q (.d (.int (if k then 1 else 0)))
theorem uK:fP X rl (fun xs H Q=>(∃i,xs=[.int i]/\Q (.int i) H)\/∃k,xs=[.bl k]/\Q (.int (if k then 1 else 0)) H) sR:=fun{F H vs ws} Qd Q s ra r h k=>by
 rcases h with⟨i,ew,q⟩|⟨i,ew,q⟩
 · subst ew;obtain⟨v,rfl,r1⟩:=oU r;have e1:=bF r1;subst e1;exact .inl ⟨i,rfl,k _ (.d _) _ _ (Grow.refl s ra) (.int _) trivial q⟩
 · subst ew;obtain⟨v,rfl,r1⟩:=oU r;have e1:=eG r1;subst e1;exact .inr ⟨i,rfl,k _ (.d _) _ _ (Grow.refl s ra) (.int _) trivial q⟩
theorem oj(hm:X.mg "int" = none)(ha:Gz X rl [a] fs)(hg:autoParam (Gl X "int") æa._auto_1)(he:autoParam (HA [a] X.env=(false,eval a X.env)::HA [] X.env) æa._auto_1)(hpl:autoParam ((Jl pos (HA [] X.env)).any (·.1)=false) æa._auto_1) :
 PV X rl (.Call (.Name "int" p) [a] [] pos) (eA sR fs):=iJ qP uK hm (by rfl) ha hg (by decide) (by decide) he hpl
noncomputable def FJ(C:Int->Int->Prop)(f:Int->Int->Int):Gm:=fun x y H Q=>∃i j,x = .int i/\y = .int j/\C i j/\Q (.int (f i j)) H
theorem wp:GF X .Mult (FJ bj fun i j=>i*j):=by
 intro pins s σ H x y v u Q I r1 r2 h;obtain⟨i,j,e1,e2,hc,q⟩:=h;subst e1;subst e2;obtain⟨t,rfl⟩:=r1;obtain⟨t',rfl⟩:=r2;exact imul_int ⟨.int _,H,I.tok _,⟨_,rfl⟩,q⟩ hc.ok
noncomputable def Az(i:Nat)(C:Int->Int->Prop)(f:Int->Int->Int)(fa:TV):Gj:=fun D ρ=>∃n,ρ[i]?=some (some (.d (.int n)))/\fa ρ fun w=>∃m,w = .d (.int m)/\C n m/\D.nx (ρ.set i (some (.d (.int (f n m)))))
theorem xh(i:Nat){op:Nv}{C:Int->Int->Prop}{f:Int->Int->Int}(hN:X.N.Nodup)(ho:GF X op (FJ C f))(he:PV X rl e fa)(hi:autoParam (X.N[i]?=some x) æa._auto_1)(hx:autoParam (Loc X.env.scope x) æe._auto_1)
 (hf:autoParam (X.fn x=true\/X.env.scope.names.lookup x=some .local) æf._auto_1):GD X rl (.AugAssign (.Name x pos') op e pos) (Az i C f fa):=by
 obtain⟨t,p,k⟩:=he;refine⟨_,yx hN hi hx p ho hf,fun R Dv D ok ⟨n,e1,q⟩=>?_⟩;obtain⟨v,s1,r1,_⟩:=R.sl i _ e1;have ev:=bF r1;subst ev;refine⟨_,s1,k R _ _ q fun v w F1 H1 g1 r1 n1 ⟨m,ew,hc,q1⟩=>?_⟩;subst ew;have ev:=bF r1;subst ev;exact⟨n,m,rfl,rfl,hc,ok.nx _ _ _ _ g1.fs (R.set g1 (v:=.int (f n m)) (w:=.d (.int (f n m))) (.int _) trivial (fun _ z=>by cases z) i) q1⟩
noncomputable def cutD(xs:List Hi)(lo hi:Option Int):List Hi:=(xs.drop (HT.sIx xs.length 0 lo)).take (HT.sIx xs.length xs.length hi-HT.sIx xs.length 0 lo)
theorem Reps.cut{K:W.Frag}{ds:List Hi}(r:Reps K F vs ds)(lo hi:Option Int):Reps K F (sY vs lo hi) (cutD ds lo hi):=by
 unfold sY cutD;rw[r.length];exact(r.drop _).take _
abbrev Gk:=En->(Option Int->Prop)->Prop
noncomputable def GA(X:Cx)(rl:RlT)(o:Option Expr)(f:Gk):Prop:=∃t,PO X o t/\∀{F₀ H₀ F H:Hp}{σ:St}{ρ:En},VR X.K rl F₀ H₀ F H σ ρ->∀(Qd:Option Int->Prop)(Q:Option Int->Hp->Prop),f ρ Qd ->
 (∀o F' H',Grow rl F H F' H'->Qd o->Q o H')->t σ H Q
noncomputable def Fg:Gk:=fun _ Q=>Q none
noncomputable def Fh(fa:TV):Gk:=fun ρ Q=>fa ρ fun w=>∃i,w = .d (.int i)/\Q (some i)
theorem kz:GA X rl none Fg:=⟨_,vK,fun R Qd Q q k=>k _ _ _ (Grow.refl R.sub R.reel) q⟩
theorem kr(h:PV X rl e fa):GA X rl (some e) (Fh fa):=by
 obtain⟨t,p,k⟩:=h;refine⟨_,pA p,fun R Qd Q q h=>k R _ _ q fun v w F1 H1 g1 r1 n1 ⟨i,ew,q1⟩=>?_⟩;subst ew;exact⟨i,bF r1,h _ F1 H1 g1 q1⟩
noncomputable def CH(fa:TV)(fl fh:Gk):TV:=fun ρ Q=>fa ρ fun w=>fl ρ fun l=>fh ρ fun h=>∃xs,w.dat=some (.list xs)/\Q (.ml (cutD xs l h))
noncomputable def sS:W->W->(W->Prop)->Prop:=fun x y Q=>∃xs ys,x.dat=some (.list xs)/\y.dat=some (.list ys)/\xs.length+ys.length<=sizeLine/\Q (.ml (xs++ys))
theorem dB.lst{K:W.Frag}{F H:Hp}{v:V}{w:W}{xs:List Hi}(s:bU F H)(r:dB K rl F H v w)(e:w.dat=some (.list xs)):∃a vs,v = .ref a/\H a=some (.lst vs)/\Reps K F vs xs:=by
 have own:iF K rl F H v xs->∃a vs,v = .ref a/\H a=some (.lst vs)/\Reps K F vs xs:=fun⟨a,vs,e1,_,_,e2,e3⟩=>⟨a,vs,e1,e2,e3⟩
 cases w with
 | d y =>
   cases e
   cases(show Rep K F v (.list xs)from r)with
   | lst h q=>exact⟨_,_,rfl,s _ _ h,q⟩
 | ml ys=>cases e;exact own r
 | pk ys=>cases e;exact own r
 | reel=>cases e
 | vv u=>cases e
 | md u=>cases e
 | mk u=>cases e
 | xm u=>cases e
 | nt u=>cases e
 | lk=>cases e
 | sc _=>cases e
 | fd _=>cases e
 | xr _=>cases e
 | xw _ _=>cases e
 | fw _=>cases e
 | ft _=>cases e
 | xc _ _=>cases e
 | dp _ _=>cases e
theorem uI:Gg X rl C1 sS:=fun{F H x y wx wy} Qd Q s ra r1 r2 q k=>by
 obtain⟨xs,ys,e1,e2,z,q⟩:=q;obtain⟨a,vs,rfl,h1,q1⟩:=r1.lst s e1;obtain⟨b,us,rfl,h2,q2⟩:=r2.lst s e2;refine⟨a,b,vs,us,rfl,rfl,h1,h2,by rw[q1.length,q2.length];exact z,fun p hp=>?_⟩;exact k _ (.ml _) _ _ (Grow.laid s ra hp) (d9 s ra hp (q1.append q2)) (fun a ea=>by cases ea;exact hp) q
theorem xF(ha:PV X rl a fa)(hb:PV X rl b fb):PV X rl (.BinOp a .Add b pos) (Eu sS fa fb):=i8 yO uI ha hb
noncomputable def xP(p p':Int->Int->Bool)(fa fb fc:TV):TV:=fun ρ Q=>fa ρ fun x=>fb ρ fun y=>∃i j,x = .d (.int i)/\y = .d (.int j) /\
 if p i j=true then fc ρ fun z=>∃k,z = .d (.int k)/\Q (.d (.bool (p' j k)))else Q (.d (.bool false))
structure GlD (K:W.Frag) (mg:Str->Option Hq) (x:Str) (d:Hi):Prop where
 ex:∃v u,mg x=some u/\RelV v u/\∀F,Rep K F v d
theorem eQ(G:GlD X.K X.mg x d)(hg:autoParam (Gl X x) æa._auto_1)(hd:autoParam ((x==("__debug__" : Str))=false) æb._auto_1):PV X rl (.Name x pos) (vC d):=by
 obtain⟨v,u,h1,h2,h3⟩:=G.ex;exact vB h1 h2 h3 hg hd
structure GlK (K:W.Frag) (x:Str) (d:Hi):Prop where
 ex:∃v u,W.nsIn K IG x=some (some u)/\RelV v u/\∀F,Rep K F v d
theorem GlK.of{K:W.Frag}(k:GlK K x d)(Y:K.In h)(G:h.Ns IG mg):GlD K mg x d:=by
 obtain⟨v,u,h1,h2,h3⟩:=k.ex;exact⟨v,u,W.mg_of Y G h1,h2,h3⟩
end
end L2.VL
namespace L2
section
variable{X:Cx}{a b:Expr}{ta:TA}{p q pos pos2:Pos}
theorem io{α β:Type}{R:α->β->Prop}:∀{xs:List α}{ys:List β},xs.length=ys.length->(∀(i:Nat) x y,xs[i]?=some x->ys[i]?=some y->R x y)->Jc R xs ys
 | [],[],_,_=>.nil
 | x::xs,y::ys,hl,h=>.cons (h 0 x y rfl rfl) (io (by simpa using hl) fun i x y e1 e2=>h (i+1) x y (by simpa using e1) (by simpa using e2))
 | [],_::_,hl,_=>by simp at hl
 | _::_,[],hl,_=>by simp at hl
noncomputable def je(lo:Int)(n:Nat):List V:=(IJ n).map fun(i:Nat)=>V.int (lo+i)
theorem iH{lo:Int}{acc:Array Hq}(h:ItemsOf (fun i v=>∃t,v = .int (lo+i*1) t) acc n):de (je lo n) acc.toList:=by
 obtain⟨h1,h2⟩:=h;refine io ?_ ?_
 · simp[je,h1]
 · intro i v u e1 e2;unfold je at e1;rw[Ja]at e1;obtain⟨t,e4⟩:=h2 i u (by simpa using e2);by_cases hi:i<n
   · rw[Ip (by simpa using hi)]at e1;simp at e1;subst e1;exact⟨t,by rw[e4];simp⟩
   · rw[JI (by simpa using hi)]at e1;cases e1
theorem nD{s:Ht}{Q:VK}{lo hi:Int}{t u v:Tok}{tk:Nat}(hc:X.calm=true)(I:Inv X pins σ H s)(h1 : -(2^62)<=lo)(h2:lo<2^62)(h3 : -(2^62)<=hi)(h4:hi<2^62)(h5:(hi-lo).toNat<=2^24)
 (q:∀l,H l=none->Q (.ref l) (Ex H l (.lst (je lo (hi-lo).toNat)))):HP (Ib X.prog X.w) X.A (call (.type "list") [.ref s.heap.objs.size]) (EP X pins σ Q) X.xe {s with heap:=s.heap.push {cls:=.type "range", data:=.fields #[.int lo t,.int hi u,.int 1 v]},toks:=tk}:=by
 have I1:Inv X pins σ H {s with heap:=s.heap.push {cls:=.type "range", data:=.fields #[.int lo t,.int hi u,.int 1 v]},toks:=tk}:=I.kept fun b o e=>Hu _ e;refine call_list_range (n:=(hi-lo).toNat) (I.ok.hd hc) (IsRange.new ..) (small_one h1 h2 h3 h4) (by rw[rangeSize_one];split<;>omega) h5 fun h' tk acc c hk hn hi=>?_;have hv:=iH hi;refine⟨.ref _,_,I1.laid (t':=tk) hk (Hw _) (show cZ X.prog X.w _ h' _ (.lst _)from⟨?_,acc.toList,c,hv,by rw[Array.toArray_toList];exact hn⟩),rfl,q _ (I1.hok.fresh (Hw _))⟩;show(je lo _).length<=sizeLine;rw[je,Hs,List.length_range];exact Je h5 (by decide)
noncomputable def Dx(ta:TA):TE:=fun σ H Q=>ta σ H fun vs H1=>∃j:Int,vs=[.int j]/\(-(2^62)<=j/\j<2^62)/\j.toNat<=2^24/\∀l,H1 l=none->Q (.ref l) (Ex H1 l (.lst (je 0 j.toNat)))
theorem nw(hc:X.calm=true)(hl:Gl X "list")(hml:X.mg "list" = none)(hg:Gl X "range")(hm:X.mg "range" = none)(ha:PA X [a] ta)(hs:autoParam (HA [a] X.env=[(false,eval a X.env)]) æa._auto_1)
 (he:autoParam (HA [.Call (.Name "range" p) [a] [] pos2] X.env=(false,eval (.Call (.Name "range" p) [a] [] pos2) X.env)::HA [] X.env) æa._auto_1)(hpl:autoParam ((Jl pos (HA [] X.env)).any (·.1)=false) æa._auto_1) :
 PE X (.Call (.Name "list" q) [.Call (.Name "range" p) [a] [] pos2] [] pos) (Dx ta):=by
 intro pins s σ H Q I h;refine KU (iq I hl hml (by rfl) ?_ (by decide) (by decide));refine Jw ?_ he hpl;rw[he];show HP _ _ (spliced ((false,eval (.Call (.Name "range" p) [a] [] pos2) X.env)::Jl pos (HA [] X.env))) _ _ s;refine KS ?_;refine Call_ (iq I hg hm boot_range (Jw (EH (ha pos2 pins s σ H _ I h) fun us s1 ⟨vs,H1,I1,r1,q1⟩=>?_) hs rfl));obtain⟨j,e,⟨h3,h4⟩,h5,q1⟩:=q1;subst e
 cases r1 with
 | cons r rr =>
   cases rr;obtain⟨t,rfl⟩:=r;exact call_range_1 (L7 (nD hc I1 (by omega) (by omega) h3 h4 (by simpa using h5) (by simpa using q1)))
end
end L2
namespace L2.VL
section
variable{X:Cx}{rl:RlT}{a b c e:Expr}{es:List Expr}{fa fb fc:TV}{fs:Gi}{pos pos2 p q:Pos}
theorem ni{K:W.Frag}(lo:Int)(n:Nat):Reps K F (je lo n) (bB lo n):=by
 unfold je bB;generalize IJ n=l
 induction l with
 | nil=>exact .nil
 | cons x l ih=>exact .cons (.int _) ih
noncomputable def Dl(fs:Gi):TV:=fun ρ Q=>fs ρ fun ws=>∃i j:Int,ws=[.d (.int i),.d (.int j)]/\(-(2^62)<=i/\i<2^62 /\ -(2^62)<=j/\j<2^62)/\(j-i).toNat<=2^24/\Q (.ml (bB i (j-i).toNat))
noncomputable def CK(fs:Gi):TV:=fun ρ Q=>fs ρ fun ws=>∃j:Int,ws=[.d (.int j)]/\(-(2^62)<=j/\j<2^62)/\j.toNat<=2^24/\Q (.ml (bB 0 j.toNat))
theorem oh(hml:X.mg "list" = none)(hm:X.mg "range" = none)(ha:Gz X rl [a] fs)(hc:autoParam (X.calm=true) æa._auto_1)(hl:autoParam (Gl X "list") æa._auto_1)(hg:autoParam (Gl X "range") æa._auto_1)(hs:autoParam (HA [a] X.env=[(false,eval a X.env)]) æa._auto_1)
 (he:autoParam (HA [.Call (.Name "range" p) [a] [] pos2] X.env=(false,eval (.Call (.Name "range" p) [a] [] pos2) X.env)::HA [] X.env) æa._auto_1)(hpl:autoParam ((Jl pos (HA [] X.env)).any (·.1)=false) æa._auto_1) :
 PV X rl (.Call (.Name "list" q) [.Call (.Name "range" p) [a] [] pos2] [] pos) (CK fs):=by
 obtain⟨t,p1,k⟩:=ha;refine⟨_,nw hc hl hml hg hm p1 hs he hpl,fun R Qd Q q h=>k R _ _ q fun vs ws F1 H1 g1 r1 ⟨j,ew,z,y,q1⟩=>?_⟩;subst ew;obtain⟨v,rfl,rv⟩:=oU r1;have e1:=bF rv;subst e1;exact⟨j,rfl,z,y,fun l hl=>h _ (.ml _) _ _ (g1.trans (Grow.laid g1.sub g1.reel hl)) (d9 g1.sub g1.reel hl (ni _ _)) (fun a ea=>by cases ea;exact g1.freeB hl) q1⟩
noncomputable def ox(i j:Nat)(fa:TV):Gj:=fun D ρ=>∃xs ys,ρ[i]?=some (some (.ml xs))/\ρ[j]?=some (some (.ml ys))/\fa ρ fun w=>∃k y,w = .d (.int k)/\0<=k/\k<(ys.length:Int)/\ys.length<2^62/\ys[k.toNat]?=some y/\xs.length<sizeLine /\
 D.nx ((ρ.set j (some (.ml (ys.eraseIdx k.toNat)))).set i (some (.ml (xs++[y]))))
end
theorem nG{β:Type}{xs:List α}{f:β->α->β}{a:β}(h:i<xs.length):(xs.take (i+1)).foldl f a=f ((xs.take i).foldl f a) xs[i]:=by
 rw[HG h,JF];rfl
end L2.VL
namespace L2
section
variable{X:Cx}{tg e:Expr}{ta te:TE}{p p2 pos:Pos}
end
end L2
namespace L2.VL
section
variable{X:Cx}{rl:RlT}{a b c e tg:Expr}{es:List Expr}{fa fb fc:TV}{fs:Gi}{pos pos2 p p2 q:Pos}
theorem Reps.rev{K:W.Frag}{F:Hp}:∀{vs:List V}{ds:List Hi},Reps K F vs ds->Reps K F vs.reverse ds.reverse
 | _,_,.nil=>.nil
 | _,_,.cons h r=>by rw[Lg,Lg];exact(Reps.rev r).snoc h
noncomputable def xI(fa:TV):TV:=fun ρ Q=>fa ρ fun w=>∃xs,w.dat=some (.list xs)/\Q (.ml xs.reverse)
end
end L2.VL
namespace L2
section
variable{X:Cx}
theorem wM{bs:List Bool}{its:List Hq}(r:de (bs.map V.bl) its){v:Hq}(e:its[i]?=some v):v = .bool (bs.getD i false):=by
 have hl:=r.length;rw[Hs]at hl;have hi:i<bs.length:=by have:=(HM.mp e).1;omega
 have hb:(bs.map V.bl)[i]?=some (.bl bs[i]):=by simp[hi]
 obtain⟨u,hu,ru⟩:=r.get hb;rw[e]at hu;cases hu;have:bs.getD i false=bs[i]:=by simp[N_,hi]
 rw[this];exact ru
theorem oX{bs:List Bool}:(IJ bs.length).all (fun i=>bs.getD i false)=bs.all id:=by
 have:bs=(IJ bs.length).map fun i=>bs.getD i false:=by
  apply List.ext_getElem
  · simp
  · intro i h1 h2;simp[N_,h1]
 conv=>rhs;rw[this,List.all_map]
 rfl
theorem tj(hc:X.calm=true):fG X (.builtin "all") (fun xs H Q=>∃(p:Addr)(bs:List Bool),xs=[.ref p]/\Gq X.K H p (bs.map V.bl)/\Q (.bl (bs.all id)) H):=by
 intro pins s σ H xs us Q I r ⟨p,bs,ex,hq,q⟩;subst ex;obtain⟨u,rfl,ru⟩:=vals1 r;cases ru;obtain⟨its,rv,pl,hz⟩:=I.list hq;have hl:=rv.length;rw[Hs]at hl;refine call_all_walk (Lc pl.isList ?_);have ne:p≠s.heap.objs.size:=by obtain⟨o,ho,_⟩:=pl.isList;exact Io (HD ho)
 refine⟨s.heap.objs.size,_,_,_,_,_,fun i=>bs.getD i false,rfl,Walks.list (A:=X.A.in1) (I.ok.hd hc) s.heap.objs.size p ne its.toArray,⟨⟨_,HK _ rfl,rfl,rfl⟩,pl.isList.push _⟩,fun i v s' Q' E' hP hQ=>?_,fun h' tk k=>?_⟩
 · rw[wM rv (show its[i]?=some v by simpa using hP)];exact J5 hQ
 · have e:(IJ its.toArray.size).all (fun i=>bs.getD i false)=bs.all id:=by rw[HL,<- hl];exact oX
   rw[e];exact⟨.bl _,H,I.kept (t':=tk) fun b o eb=>k b o (by simp;exact Io (HD eb)) (Hu _ eb),rfl,q⟩
end
end L2
namespace L2.VL
section
variable{X:Cx}{rl:RlT}{a b c e:Expr}{es:List Expr}{fa fb fc:TV}{fs:Gi}{pos p p2:Pos}
theorem oS{K:W.Frag}{F:Hp}:∀{vs:List V}{bs:List Bool},Reps K F vs (bs.map .bool)->vs=bs.map V.bl
 | _,[],h=>h.nil_iff
 | _,b::bs,.cons h r=>by rw[eG h,oS r];rfl
noncomputable def Ad(f:List Bool->Bool):List W->(W->Prop)->Prop:=fun ws Q=>∃(w:W)(bs:List Bool),ws=[w]/\w.dat=some (.list (bs.map .bool))/\Q (.d (.bool (f bs)))
theorem xu{f:List Bool->Bool}:fP X rl (fun xs H Q=>∃(p:Addr)(bs:List Bool),xs=[.ref p]/\Gq X.K H p (bs.map V.bl)/\Q (.bl (f bs)) H) (Ad f):=fun{F H vs ws} Qd Q s ra r ⟨w,bs,ew,ed,q⟩ k=>by
 subst ew;obtain⟨v,rfl,r1⟩:=oU r;obtain⟨a,us,rfl,sq,rs⟩:=r1.items s ed;have e:=oS rs;subst e;exact⟨a,bs,rfl,sq,k _ (.d _) _ _ (Grow.refl s ra) (.bl _) trivial q⟩
theorem v_all(hm:X.mg "all" = none)(ha:Gz X rl [a] fs)(hc:autoParam (X.calm=true) æa._auto_1)(hg:autoParam (Gl X "all") æa._auto_1)(he:autoParam (HA [a] X.env=(false,eval a X.env)::HA [] X.env) æa._auto_1)(hpl:autoParam ((Jl pos (HA [] X.env)).any (·.1)=false) æa._auto_1) :
 PV X rl (.Call (.Name "all" p) [a] [] pos) (eA (Ad fun bs=>bs.all id) fs):=fH (tj hc) xu hm (by rfl) ha hg (by decide) (by decide) he hpl
end
end L2.VL
namespace L2.TM
theorem yQ:fillsNumberSlot (.type "tuple") "mul" = pure false :=
 PySem.fillsNumberSlot_seq (id := "tuple.__mul__") (r:=some (.builtin "tuple.__rmul__")) F.slot_tuple_mul.lookup (by decide +kernel) F.slot_tuple_rmul.lookup (by decide +kernel)
theorem DG:seqRepeat? (.type "tuple")=pure (some (.builtin "tuple.__mul__")):=by
 unfold seqRepeat?;have s1:=PySem.seqSlot_of (T := "tuple") (name := "__mul__") (id := "tuple.__mul__") F.slot_tuple_mul.lookup (by decide +kernel);have s2:=PySem.seqSlot_of (T := "tuple") (name := "__rmul__") (id := "tuple.__rmul__") F.slot_tuple_rmul.lookup (by decide +kernel);rw[s1,s2];rfl
theorem rJ(its:Array Hq):∀n:Nat,(KQ (fun x y=>x++y) #[] (HB n its)).size=its.size*n:=by
 have key:∀(n:Nat)(acc:Array Hq),(KQ (fun x y=>x++y) acc (HB n its)).size=acc.size+its.size*n:=by
  intro n
  induction n with
  | zero=>intro acc;simp
  | succ n ih=>intro acc;rw[Jg,IH,ih,Array.size_append,NT];omega
 intro n;have:=key n #[];simpa using this
noncomputable def TupAt(h:Heap)(l:Addr)(its:Array Hq):Prop:=∃(dc:Option Addr)(sl:Array (Option Hq))(n:Nat),h.get? l=some ⟨.type "tuple", dc,.seq its n,sl⟩
section
variable{prog:HV}{w:IF}{A:IM}{E:Hq->Ht->Prop}{s:Ht}{k:Int}{t:Tok}{l:Addr}{its:Array Hq}
theorem tupAt(h:N1 s.heap l its):TupAt s.heap l its:=by
 obtain⟨⟨c,dc,d,sl⟩,ho,hc,n,hd⟩:=h;cases hc;cases hd;exact⟨dc,sl,n,ho⟩
theorem DS(h:TupAt s.heap l its)(q:Q .notImplemented s):HP (Ib prog w) A (call (.builtin "int.__rmul__") [.int k t,.ref l]) Q E s:=by
 obtain⟨dc,sl,n,ho⟩:=h;refine NJ F.slot_int_rmul (typeIs_int s k t) F.entry_int_rmul (F.args_int_rmul_2 _ _) (S:=fun _ R s=>s.heap.get? l=some ⟨.type "tuple", dc,.seq its n,sl⟩/\R (.ok (.ret Hq.notImplemented)) s) ?_ ⟨ho,q⟩
 exact .of_wp fun prog w A R s h=>by
  obtain⟨hp,g,d,tk,os⟩:=s;obtain⟨ho,h⟩:=h
  wp_walk
  exact⟨_,rfl,h⟩
theorem rep_body(hk:2<=k)(hk':k<2^62)(he:its.isEmpty=false)(hz:its.size*k.toNat<=sizeLine)(h:TupAt s.heap l its)
 (q:Q (.ref s.heap.objs.size) {s with heap:=s.heap.push {cls:=.type "tuple", data:=.seq ((HB k.toNat its).foldl (· ++ ·) #[])}}):HP (Ib prog w) A (call (.builtin "tuple.__mul__") [.ref l,.int k t]) Q E s:=by
 obtain⟨dc,sl,n,ho⟩:=h
 refine NJ F.slot_tuple_mul ⟨_,ho,rfl⟩ F.entry_tuple_mul (F.args_tuple_mul_2 _ _)
  (S:=fun _ R s=>s.heap.get? l=some ⟨.type "tuple", dc,.seq its n,sl⟩/\R (.ok (.ret (.ref s.heap.objs.size))) {s with heap:=s.heap.push {cls:=.type "tuple", data:=.seq ((HB k.toNat its).foldl (· ++ ·) #[])}}) ?_ ⟨ho,q⟩
 have h1:¬(decide (k < -(2^63))||decide (k ≥ 2^63))=true:=by simp;omega
 have h2:¬(its.isEmpty||k==1)=true:=by rw[he];simp;omega
 have h3:¬(decide (k<=0)||its.isEmpty)=true:=by rw[he];simp;omega
 have sz:=HN;have hk0:k=(k.toNat:Int):=by omega
 have h4:¬((its.size:Int)*k>(2^63-1) / 8):=by
  rw[hk0];have:((its.size*k.toNat:Nat):Int)<=sizeLine:=by exact_mod_cast hz
  rw[K5]at this;omega
 have h5:¬Builtin.Tuple.tupleTooMany ((its.size:Int)*k)=true:=by
  intro z;have z:=of_decide_eq_true z;rw[hk0]at z;have:((its.size*k.toNat:Nat):Int)<=sizeLine:=by exact_mod_cast hz
  rw[K5]at this;omega
 refine .of_wp fun prog w A R s h=>?_;obtain⟨ho,h⟩:=h;have tp:N1 s.heap l its:=⟨_,ho,rfl,n,rfl⟩;unfold Builtin.«tuple.__mul__»;show HP _ _ (do let z <- asIndex (.int k t);_) _ _ s;refine Hl (Mk (a:=k) (by first|rfl|kernel_rfl) ?_);rw[if_neg h1];refine Hl (K0 tp ?_);rw[if_neg h2,if_neg h3]
 first|rw[if_neg h4]|skip
 first|rw[if_neg h5]|skip
 show HP _ _ (do let z <- Ix (KQ (fun x y=>x++y) #[] (HB k.toNat its));ret z) _ _ s;refine Hl (m:=Ix _) (Ia (Hn ⟨_,rfl,h⟩) ?_);show(KQ (fun x y=>x++y) #[] (HB k.toNat its)).size<=sizeLine;rw[rJ];exact hz
theorem rep_one(h:TupAt s.heap l its)(q:Q (.ref l) s):HP (Ib prog w) A (call (.builtin "tuple.__mul__") [.ref l,.int 1 t]) Q E s:=by
 obtain⟨dc,sl,n,ho⟩:=h;refine NJ F.slot_tuple_mul ⟨_,ho,rfl⟩ F.entry_tuple_mul (F.args_tuple_mul_2 _ _) (S:=fun _ R s=>s.heap.get? l=some ⟨.type "tuple", dc,.seq its n,sl⟩/\R (.ok (.ret (.ref l))) s) ?_ ⟨ho,q⟩;refine .of_wp fun prog w A R s h=>?_;obtain⟨ho,h⟩:=h;have tp:N1 s.heap l its:=⟨_,ho,rfl,n,rfl⟩;unfold Builtin.«tuple.__mul__»;show HP _ _ (do let z <- asIndex (.int 1 t);_) _ _ s;refine Hl (Mk (a:=(1:Int)) (by first|rfl|kernel_rfl) ?_);rw[if_neg (by decide)];refine Hl (K0 tp ?_);rw[if_pos (by simp)];show HP _ _ (do let z <- KB (.ref l);_) _ _ s;refine Hl ?_;unfold KB;refine Hl (LQ (T := "tuple") ⟨_,ho,rfl⟩ (Hn ?_));rw[if_pos (by decide)];exact Hl (Lb (Hl (Hn (Hn ⟨_,rfl,h⟩))))
theorem mul_tup(tp:N1 s.heap l its)(q:HP (Ib prog w) A (call (.builtin "tuple.__mul__") [.ref l,.int k t]) Q E s):HP (Ib prog w) A (Ka .Mult (.ref l) (.int k t)) Q E s :=
 wpAny_binaryOp_repeat_ref (T := "tuple") (U := "int") (by decide) tp.typeIs (fun s'=>typeIs_int s' k t) yQ F.fills_int_mul F.slot_int_rmul DG F.slot_int_index.lookup (DS (tupAt tp) ⟨rfl,tp.typeIs,q⟩)
end
end L2.TM
namespace L2
section
variable{X:Cx}
noncomputable def ym(K:W.Frag):R2:=fun x y H Q=>∃a k xs,x = .ref a/\y = .int k/\Gp K H a xs/\xs≠[]/\1<=k/\k<2^62/\xs.length*k.toNat<=sizeLine/\(k=1->Q (.ref a) H)/\(2<=k->∀p,H p=none->Q (.ref p) (Ex H p (.tup (HB k.toNat xs).flatten)))
theorem vS:GL X (Ka .Mult) (ym X.K):=by
 intro pins s σ H x y v u Q I rx ry h;obtain⟨a,k,xs,rfl,rfl,ha,hne,h1,h2,hz,q1,q2⟩:=h;cases rx;obtain⟨t,rfl⟩:=ry;obtain⟨its,r,p,_⟩:=I.tuple ha;have hl:=r.length;refine TM.mul_tup p ?_;by_cases hk:k=1
 · subst hk;exact TM.rep_one (TM.tupAt p) ⟨.ref a,H,I,rfl,q1 rfl⟩
 · have he:its.toArray.isEmpty=false:=by
     cases its with
     | nil=>simp at hl;exact absurd hl hne
     | cons _ _=>rfl
   refine TM.rep_body (by omega) h2 he (by rw[HL,<- hl];exact hz) (TM.tupAt p) ?_
   have e:KQ (fun x y=>x++y) #[] (HB k.toNat its.toArray)=(HB k.toNat its).flatten.toArray:=by
    have:=foldl_rep its k.toNat [];rw[MM]at this;exact this
   rw[e];refine⟨.ref s.heap.objs.size,_,I.laid (t':=s.toks) (o:=.tup (HB k.toNat xs).flatten) (fun b ob q=>Hu _ q) (Hw _) ?_,rfl,q2 (by omega) _ (I.hok.fresh (Hw _))⟩;exact⟨by rw[wg,Nat.mul_comm];exact hz,_,r.rep k.toNat,rb.new _ _⟩
end
end L2
namespace L2.VL
section
variable{X:Cx}{rl:RlT}{a b c e:Expr}{es:List Expr}{fa fb fc:TV}{fs:Gi}{pos p p2:Pos}
theorem Reps.repl{K:W.Frag}{F:Hp}{vs:List V}{ds:List Hi}(r:Reps K F vs ds):∀n:Nat,Reps K F (HB n vs).flatten (HB n ds).flatten
 | 0=>.nil
 | n+1=>by rw[Jg,Jg,J8,J8];exact r.append (Reps.repl r n)
noncomputable def sP:W->W->(W->Prop)->Prop:=fun x y Q=>∃xs k,x = .d (.tuple xs)/\y = .d (.int k)/\xs≠[]/\1<=k/\k<2^62/\xs.length*k.toNat<=sizeLine/\Q (.d (.tuple (HB k.toNat xs).flatten))
theorem uG:Gg X rl (ym X.K) sP:=fun{F H x y wx wy} Qd Q s ra r1 r2 q k=>by
 obtain⟨xs,n,rfl,rfl,hne,h1,h2,hz,q⟩:=q;have ey:=bF r2;subst ey
 cases(show Rep X.K F x (.tuple xs)from r1)with
 | @tup a vs _ sq rs =>
   refine⟨a,n,vs,rfl,rfl,c_ s sq,fun z=>hne ?_,h1,h2,by rw[rs.length];exact hz,fun e=>?_,fun e p hp=>?_⟩
   · subst z;cases rs;rfl
   · subst e;have e1:(HB (Int.toNat 1) xs).flatten=xs:=by simp
     rw[e1]at q;exact k _ (.d (.tuple xs)) _ _ (Grow.refl s ra) (.tup sq rs) trivial q
   · have g:=Grow.data (a:=p) (o:=.tup (HB n.toNat vs).flatten) s ra hp;exact k _ (.d _) _ _ g (.tup (.inl (.inl aG)) ((rs.repl n.toNat).mono g.fs)) trivial q
theorem xC(ha:PV X rl a fa)(hb:PV X rl b fb):PV X rl (.BinOp a .Mult b pos) (Eu sP fa fb):=i8 vS uG ha hb
noncomputable def Bn:W->W->(W->Prop)->Prop:=fun x y Q=>∃xs ys,x = .d (.tuple xs)/\y = .d (.tuple ys)/\xs≠[]/\xs.length+ys.length<=sizeLine/\Q (.d (.tuple (xs++ys)))
theorem uH:Gg X rl (vq X.K) Bn:=fun{F H x y wx wy} Qd Q s ra r1 r2 q k=>by
 obtain⟨xs,ys,rfl,rfl,hne,hz,q⟩:=q
 cases(show Rep X.K F x (.tuple xs)from r1)with
 | @tup a vs _ sq rs =>
   cases(show Rep X.K F y (.tuple ys)from r2)with
   | @tup b us _ sq2 rs2 =>
     refine⟨a,b,vs,us,rfl,rfl,c_ s sq,c_ s sq2,fun z=>hne ?_,by rw[rs.length,rs2.length];exact hz,fun e=>?_,fun e p hp=>?_⟩
     · subst z;cases rs;rfl
     · subst e;cases rs2;rw[Jx]at q;exact k _ (.d (.tuple xs)) _ _ (Grow.refl s ra) (.tup sq rs) trivial q
     · have g:=Grow.data (a:=p) (o:=.tup (vs++us)) s ra hp;exact k _ (.d _) _ _ g (.tup (.inl (.inl aG)) ((rs.append rs2).mono g.fs)) trivial q
end
end L2.VL
namespace L2
section
variable{X:Cx}
theorem Room.u65{k:Nat}(r:Room k A):A.units+65<LM:=by have:=r.un;omega
noncomputable def yo(K:W.Frag):R2:=fun x y H Q=>∃a b ys,x = .ref a/\y = .ref b/\Gp K H a []/\Gp K H b ys/\Q (.ref b) H
theorem vZ:GL X (Ka .Add) (yo X.K):=by
 intro pins s σ H x y v u Q I rx ry h;obtain⟨a,b,ys,rfl,rfl,ha,hb,q⟩:=h;cases rx;cases ry;obtain⟨its,r1,p1,_⟩:=I.tuple ha;obtain⟨its2,r2,p2,_⟩:=I.tuple hb;cases r1;obtain⟨⟨c1,d1,e1,sl1⟩,ho,hc,n,hd⟩:=p1;obtain⟨⟨c2,d2,e2,sl2⟩,ho2,hc2,n2,hd2⟩:=p2;cases hc;cases hd;cases hc2;cases hd2
 exact NR ⟨_,ho,rfl⟩ ⟨_,ho2,rfl⟩ Mr Nx K9 KZ (KP _ _)
  (tuple_addW0 a b _ its2.toArray n n2 d1 d2 sl1 sl2 rfl) ⟨ho,ho2,⟨.ref b,H,I,rfl,q⟩⟩
noncomputable def yn(K:W.Frag):R2:=fun x y H Q=>vq K x y H Q\/yo K x y H Q
theorem vY:GL X (Ka .Add) (yn X.K):=fun pins s σ H x y v u Q I rx ry h=>h.elim (vX pins s σ H x y v u Q I rx ry) (vZ pins s σ H x y v u Q I rx ry)
section
variable{prog:HV}{w:IF}{A:IM}{E:Hq->Ht->Prop}{s:Ht}
end
end
end L2
namespace L2.VL
section
variable{X:Cx}{rl:RlT}{a b c e:Expr}{es:List Expr}{fa fb fc:TV}{fs:Gi}{pos p p2:Pos}
noncomputable def sT:W->W->(W->Prop)->Prop:=fun x y Q=>∃xs ys,x = .d (.tuple xs)/\y = .d (.tuple ys)/\xs.length+ys.length<=sizeLine/\Q (.d (.tuple (xs++ys)))
theorem uJ:Gg X rl (yn X.K) sT:=fun{F H x y wx wy} Qd Q s ra r1 r2 q k=>by
 obtain⟨xs,ys,rfl,rfl,hz,q⟩:=q;by_cases hx:xs=[]
 · subst hx
   cases(show Rep X.K F x (.tuple [])from r1)with
   | @tup a vs _ sq rs =>
     cases rs
     cases(show Rep X.K F y (.tuple ys)from r2)with
     | @tup b us _ sq2 rs2=>exact .inr ⟨a,b,us,rfl,rfl,c_ s sq,c_ s sq2,k _ (.d (.tuple ys)) _ _ (Grow.refl s ra) (.tup sq2 rs2) trivial q⟩
 · exact .inl (uH Qd Q s ra r1 r2 ⟨xs,ys,rfl,rfl,hx,hz,q⟩ k)
theorem dJ(ha:PV X rl a fa)(hb:PV X rl b fb):PV X rl (.BinOp a .Add b pos) (Eu sT fa fb):=i8 vY uJ ha hb
theorem eV{K:W.Frag}{F:Hp}:∀{vs:List V}{ns:List Int},Reps K F vs (ns.map .int)->vs=ns.map V.int
 | _,[],h=>h.nil_iff
 | _,n::ns,.cons h r=>by rw[bF h,eV r];rfl
theorem mI{K:W.Frag}{F:Hp}:∀{ns:List Int},Reps K F (ns.map V.int) (ns.map .int)
 | []=>.nil
 | n::ns=>.cons (.int n) mI
noncomputable def zf:List W->(W->Prop)->Prop:=fun ws Q=>∃(ns:List Int),ws=[.d (.tuple (ns.map .int))]/\ns.length<64/\∀ns':List Int,ns'.Perm ns->ns'.Pairwise (· <= ·)->Q (.ml (ns'.map .int))
end
end L2.VL
namespace L2.TO
section
variable{prog:HV}{w:IF}{A:IM}{E:Hq->Ht->Prop}{s:Ht}
theorem nu(n:Nat):Jb ((n:Int)-1) (-1) (-1)=n:=by
 unfold Jb;rw[if_neg (by decide)];by_cases h:n=0
 · subst h;decide
 · rw[if_pos (by omega),show(- -1:Int)=1 by decide,Int.ediv_one];omega
theorem lD{sl:Addr}{vk:Hq}{Q:Int×Int×Nat->Ht->Prop}(hs:s.heap.IsSliceOf sl .none .none vk)(pk:MH vk (some (-1)))
 (h:Q ((n:Int)-1,-1,n) s):HP (Ib prog w) A (JV (.ref sl) (pure (n:Int))) Q E s:=by
 obtain⟨o1,hos,_,hds⟩:=hs;unfold JV LX;refine Hl (Hl (Jf hos hds (x:=.none) rfl (Hl (Jf hos hds (x:=.none) rfl (Hl (Jf hos hds (x:=vk) rfl (Hn ?_)))))));refine Hl (HT.slicePart_ pk ?_);show HP _ _ (if((-1:Int)==0)=true then _ else _) _ _ s;rw[if_neg (by decide)];refine Hl (HT.slicePart_ .none (Hl (HT.slicePart_ .none (Hl (Hn ?_)))));show HP _ _ (pure ((n:Int)-1,(-1:Int),Jb ((n:Int)-1) (-1) (-1))) _ _ s;rw[nu];exact Hn h
theorem rS(xs:Array Hq):((IJ xs.size).filterMap fun(k:Nat)=>xs[((xs.size:Int)-1+(k:Int) * -1).toNat]?).toArray=xs.toList.reverse.toArray:=by
 have e:(fun(k:Nat)=>xs[((xs.size:Int)-1+(k:Int) * -1).toNat]?)=fun k=>xs[xs.size-1-k]?:=by
  funext k;have:((xs.size:Int)-1+(k:Int) * -1).toNat=xs.size-1-k:=by omega
  rw[this]
 rw[e];have e2:(IJ xs.size).filterMap (fun k=>xs[xs.size-1-k]?)=((IJ xs.size).map fun k=>xs.size-1-k).filterMap (xs[·]?):=by rw[List.filterMap_map];rfl
 rw[e2,W.krv_range,List.filterMap_reverse,W.krv_all]
theorem get_rev{t sl:Addr}{items:Array Hq}{vk:Hq}(ht:N1 s.heap t items)(hs:s.heap.IsSliceOf sl .none .none vk)(pk:MH vk (some (-1)))
 (h:Q (.ref s.heap.objs.size) {s with heap:=s.heap.push {cls:=.type "tuple", data:=.seq items.toList.reverse.toArray}})
 (hsz:items.size<=sizeLine):HP (Ib prog w) A (LG (.ref t) (.ref sl)) Q E s:=by
 have hz:sizeOk (.seq items.toList.reverse.toArray):=by
  show items.toList.reverse.toArray.size<=sizeLine;rw[HL,KH,J_];exact hsz
 have ty:s.TypeIs (.ref sl) "slice" := let ⟨o,h1,h2,_⟩:=hs;⟨o,h1,h2⟩
 have key:HP (Ib prog w) A (call (.builtin "tuple.__getitem__") [.ref t,.ref sl]) Q E s:=by
  refine Ji H0 ht.typeIs entry_tuple_getitem ?_ (LP _ _);show HP _ _ (JW (.ref t) >>= _) _ _ s;refine Hl (K0 ht (Hl (LQ ty ?_)));rw[if_pos (by decide)];refine Hl (lD hs pk ?_);show HP _ _ (if((items.size:Int)-1==0&&(-1:Int)==1&&items.size==items.size)=true then _ else _) _ _ s;rw[if_neg (by simp),rS]
  first
   | exact Hl (m:=Ix _) (Ia (Hn ⟨_,rfl,h⟩) hz)
   | exact Hl (m:=Ix _) (Ia (Hl (Hn (Hn ⟨_,rfl,h⟩))) hz)
   | exact Hl (Hl (m:=Ix _) (Ia (Hn (Hn ⟨_,rfl,h⟩)) hz))
   | exact Hl (Hl (m:=Ix _) (Ia (Hn ⟨_,rfl,h⟩) hz))
 unfold LG;try with_reducible refine Ku ?_
 first|exact Hl (Hn (Hl (Kv ht.typeIs (by decide) (Hl (Is (name:=Iw "__getitem__") ht.typeIs H0 (EH key fun v s' q=>Hn q))))))|exact Hl (Kv ht.typeIs (by decide) (Hl (Is (name:=Iw "__getitem__") ht.typeIs H0 (EH key fun v s' q=>Hn q))))
end
end L2.TO
namespace L2
section
variable{X:Cx}{a b e:Expr}{ta:TA}{te:TE}{p p2 q pos pos2:Pos}
noncomputable def AJ(K:W.Frag)(te:TE):TE:=fun σ H Q=>te σ H fun x H1=>∃a xs,x = .ref a/\Gp K H1 a xs/\∀l,H1 l=none->Q (.ref l) (Ex H1 l (.tup xs.reverse))
theorem vO{j:Nat}{p3 p4:Pos}(he:PE X e te):PE X (.Subscript e (.Slice none none (some (.UnaryOp .USub (.Constant (.int 1) j p3) p4)) p2) pos) (AJ X.K te):=by
 intro pins s σ H Q I h;refine NH (EH (he pins s σ H _ I h) fun v s1 ⟨x,H1,I1,r1,q1⟩=>?_);obtain⟨a,xs,rfl,hq,q⟩:=q1;cases r1;refine wpAny_Slice ?_;rw[Ny];refine Hn (Hn ?_);refine EH (pA (X:=X) (yC tN l9) pins s1 σ H1 (fun o H=>o=some (-1)/\H=H1) I1 ⟨1,rfl,-1,rfl,rfl,rfl⟩) fun vk s3 ⟨o,H3,I3,pk,eo,eH⟩=>?_;subst eo eH;have I4:Inv X pins σ H3 {s3 with heap:=s3.heap.push {cls:=.type "slice", data:=.fields #[.none,.none,vk]}}:=I3.kept (t':=s3.toks) fun b ob q=>Hu _ q;obtain⟨its,rv,p,hz⟩:=I4.tuple hq;have hl:=rv.length;refine tail_any (ops:=[.ref a,.ref s3.heap.objs.size]) p.typeIs H0.lookup ?_ (by with_unfolding_all rfl);refine TO.get_rev p (Heap.IsSliceOf.new ..) pk ?_ (by rw[HL]<;>omega);refine⟨.ref _,_,I4.laid (t':=s3.toks) (o:=.tup xs.reverse) (fun b ob q=>Hu _ q) (Hw _) ?_,rfl,q _ (I4.hok.fresh (Hw _))⟩;exact⟨by rw[KH];exact hz,its.reverse,rv.reverse,rb.new _ _⟩
end
end L2
namespace L2.VL
section
variable{X:Cx}{rl:RlT}{a b c e:Expr}{es:List Expr}{fa fb fc:TV}{fs:Gi}{pos pos2 p q p2:Pos}
noncomputable def Dk(fs:Gi):TV:=fun ρ Q=>fs ρ fun ws=>∃j:Int,ws=[.d (.int j)]/\(-(2^62)<=j/\j<2^62)/\j.toNat<=2^24/\Q (.d (.tuple (bB 0 j.toNat)))
noncomputable def uR(fa:TV):TV:=fun ρ Q=>fa ρ fun w=>∃xs,w = .d (.tuple xs)/\Q (.d (.tuple xs.reverse))
theorem xB{j:Nat}{p3 p4:Pos}(ha:PV X rl e fa):PV X rl (.Subscript e (.Slice none none (some (.UnaryOp .USub (.Constant (.int 1) j p3) p4)) p2) pos) (uR fa):=by
 obtain⟨t,p1,k⟩:=ha;refine⟨_,vO p1,fun R Qd Q q h=>k R _ _ q fun v w F1 H1 g1 r1 n1 ⟨xs,ew,q1⟩=>?_⟩;subst ew
 cases(show Rep X.K F1 v (.tuple xs)from r1)with
 | @tup a vs _ sq rs =>
   refine⟨a,vs,rfl,c_ g1.sub sq,fun l hl=>?_⟩;have g:=Grow.data (a:=l) (o:=.tup vs.reverse) g1.sub g1.reel hl;exact h _ (.d _) _ _ (g1.trans g) (.tup (.inl (.inl aG)) (rs.rev.mono g.fs)) trivial q1
end
end L2.VL
namespace L2.TW
section
variable{prog:HV}{w:IF}{A:IM}{E:Hq->Ht->Prop}{s:Ht}
theorem get_whole{t sl:Addr}{items:Array Hq}{vl vu:Hq}{lo hi:Option Int}(ht:N1 s.heap t items)(hs:s.heap.IsSliceOf sl vl vu .none)(pl:MH vl lo)(pu:MH vu hi)
 (hw:HT.sIx items.size 0 lo=0/\HT.sIx items.size items.size hi=items.size)(h:Q (.ref t) s):HP (Ib prog w) A (LG (.ref t) (.ref sl)) Q E s:=by
 have ty:s.TypeIs (.ref sl) "slice" := let ⟨o,h1,h2,_⟩:=hs;⟨o,h1,h2⟩
 have key:HP (Ib prog w) A (call (.builtin "tuple.__getitem__") [.ref t,.ref sl]) Q E s:=by
  refine Ji H0 ht.typeIs entry_tuple_getitem ?_ (LP _ _);show HP _ _ (JW (.ref t) >>= _) _ _ s;refine Hl (K0 ht (Hl (LQ ty ?_)));rw[if_pos (by decide)];refine Hl (HT.sliceApplied_gen hs pl pu ?_);rw[hw.1,hw.2,NU];show HP _ _ (if(((0:Nat):Int)==0&&(1:Int)==1&&items.size==items.size)=true then _ else _) _ _ s;rw[if_pos (by simp)];unfold KB;refine Hl (Hl (LQ ht.typeIs (Hn ?_)));rw[if_pos (by decide)];exact Hl (Lb (Hl (Hn (Hn ⟨_,rfl,h⟩))))
 unfold LG;try with_reducible refine Ku ?_
 first|exact Hl (Hn (Hl (Kv ht.typeIs (by decide) (Hl (Is (name:=Iw "__getitem__") ht.typeIs H0 (EH key fun v s' q=>Hn q))))))|exact Hl (Kv ht.typeIs (by decide) (Hl (Is (name:=Iw "__getitem__") ht.typeIs H0 (EH key fun v s' q=>Hn q))))
end
end L2.TW
namespace L2
section
variable{X:Cx}
noncomputable def DI(K:W.Frag):V->Option Int->Option Int->Hp->VK->Prop:=fun x lo hi H Q=>CU K x lo hi H Q\/∃a xs,x = .ref a/\Gp K H a xs/\(HT.sIx xs.length 0 lo=0/\HT.sIx xs.length xs.length hi=xs.length)/\Q (.ref a) H
theorem u9:Gu X (DI X.K):=by
 intro pins s σ H x v vl vu lo hi sl Q I rx hs pl pu h;rcases h with h|⟨a,xs,rfl,hx,hw,q⟩
 · exact yb pins s σ H x v vl vu lo hi sl Q I rx hs pl pu h
 · cases rx;obtain⟨its,r,ht,hz⟩:=I.tuple hx;have hlen:its.toArray.size=xs.length:=by rw[HL];exact r.length.symm
   exact⟨"tuple", _,H0.lookup,ht.typeIs,TW.get_whole ht hs pl pu (by rw[hlen];exact hw) ⟨.ref a,H,I,rfl,q⟩⟩
end
end L2
namespace L2.VL
section
variable{X:Cx}{rl:RlT}{a b c e:Expr}{es:List Expr}{fa fb fc:TV}{fs:Gi}{pos p p2:Pos}
theorem qB{l u:Option Int}(h:HT.sIx xs.length 0 l=0/\HT.sIx xs.length xs.length u=xs.length):cutD xs l u=xs:=by
 unfold cutD;rw[h.1,h.2];simp
noncomputable def Ao(fa:TV)(fl fh:Gk):TV:=fun ρ Q=>fa ρ fun w=>fl ρ fun l=>fh ρ fun h=>∃xs,w = .d (.tuple xs)/\Q (.d (.tuple (cutD xs l h)))
theorem xA{lo hi:Option Expr}{fl fh:Gk}(ha:PV X rl a fa)(hl:GA X rl lo fl)(hh:GA X rl hi fh):PV X rl (.Subscript a (.Slice lo hi none p2) pos) (Ao fa fl fh):=by
 obtain⟨t,p,k⟩:=ha;obtain⟨tl,pl,kl⟩:=hl;obtain⟨th,ph,kh⟩:=hh;refine⟨_,l5 u9 p pl ph,fun R Qd Q q h=>k R _ _ q fun v w F1 H1 g1 r1 n1 q1=>?_⟩;refine kl (R.grow g1) _ _ q1 fun l F2 H2 g2 q2=>kh ((R.grow g1).grow g2) _ _ q2 fun u F3 H3 g3 q3=>?_;obtain⟨xs,rfl,q3⟩:=q3;have r3:=(r1.grow g2).grow g3;have g:=(g1.trans g2).trans g3
 cases(show Rep X.K F3 v (.tuple xs)from r3)with
 | @tup a vs _ sq rs =>
   by_cases hw:HT.sIx xs.length 0 l=0/\HT.sIx xs.length xs.length u=xs.length
   · rw[qB hw]at q3;exact .inr ⟨a,vs,rfl,c_ g3.sub sq,by rw[rs.length];exact hw,h _ (.d _) _ _ g (.tup sq rs) trivial q3⟩
   · refine .inl ⟨a,vs,rfl,c_ g3.sub sq,by rw[rs.length];exact hw,fun p hp=>?_⟩;have g':=Grow.data (a:=p) (o:=.tup (sY vs l u)) g3.sub g3.reel hp;exact h _ (.d _) _ _ (g.trans g') (.tup (.inl (.inl aG)) ((rs.cut l u).mono g'.fs)) trivial q3
end
end L2.VL
namespace L2
abbrev Dn(D:List (Str×Int)):List (Hi×Hi):=(D.map fun q=>(q.1,Iv q.2)).map fun q=>(NM q.1,q.2)
section
variable{X:Cx}{e:Expr}{ty:TE}{px apos cpos:Pos}
end
end L2
namespace L2.VL
section
variable{X:Cx}{rl:RlT}{a b c e:Expr}{es:List Expr}{fa fb fc:TV}{fs:Gi}{pos p p2 px apos cpos:Pos}
noncomputable def xX(D:List (Str×Int))(k:Str):Hi:=(PySem.Spec.lookup (.str k) (Dn D)).getD .none
noncomputable def xH(D:List (Str×Int))(fk:TV):TV:=fun ρ Q=>fk ρ fun w=>∃k,w = .d (.str k)/\Q (.d (xX D k))
end
end L2.VL
set_option exponentiation.threshold 10000
namespace L2.VL
noncomputable def wV(a b:Int):Hi:=.tuple [.int (a.fdiv (IC a b)),.int (b.fdiv (IC a b))]
theorem p_{a:Int}(hb:0<b)(z:b.natAbs<2^8000)(i:Int):eC i (IC a b:Int):=by
 have h1:=wA (a:=a) (b:=b) (by omega);have h2:=zd (a:=a) (b:=b) (by omega);exact⟨by omega,JY (by omega) (Hy z (HJ (by decide) (by decide)))⟩
noncomputable def fq(lo:Int)(n:Nat):List Int:=(IJ n).map fun(i:Nat)=>lo+i
theorem gv(lo:Int)(n:Nat):bB lo n=(fq lo n).map .int:=by simp[bB,fq]
theorem Aa{lo x:Int}:x∈fq lo n↔lo<=x/\x<lo+n:=by
 unfold fq;simp only[HX,LW];constructor
 · rintro⟨k,hk,rfl⟩;omega
 · rintro⟨h1,h2⟩;exact⟨(x-lo).toNat,by omega,by omega⟩
theorem cB(lo:Int)(n:Nat):(fq lo n).length=n:=by simp[fq]
noncomputable def zO(bs:List Int):Prop:=bs.length=4/\(∀b∈bs,2<=b/\b<=16)/\bs.Pairwise fun x y=>IC x y=1
instance (bs:List Int):Decidable (zO bs):=by unfold zO;infer_instance
noncomputable def pr(a b:Int):Hi:=.tuple [.int a,.int b]
theorem d8(h:1<=b){j:Nat}(hij:i<=j):b^i<=b^j:=by
 induction hij with
 | refl=>exact No _
 | step _ ih =>
   rw[Int.pow_succ];have:0<=b^i:=LR (Oa (by omega))
   exact NV ih (by
    rename_i m _;have hm:0<b^m:=Oa (by omega);have:=JM h (LR hm)
    omega)
theorem GlK.pair{K:W.Frag}{a:Int}{p:Addr}{sl:Array (Option Hq)}{t u:Tok}(h1:W.nsIn K IG x=some (some (.ref p)))
 (h2:K.lookup p=some ⟨.type "tuple", none,.seq #[.int a t,.int b u] n,sl⟩):GlK K x (pr a b):=by
 refine⟨.ref p,.ref p,h1,rfl,fun F=>.tup (vs:=[.int a,.int b]) (.inr ⟨_,_,n,h2,rfl,rfl,(by show 2<=sizeLine;decide),.cons ⟨t,rfl⟩ (.cons ⟨u,rfl⟩ .nil),rfl⟩) (.cons (.int a) (.cons (.int b) .nil))⟩
end L2.VL
set_option exponentiation.threshold 10000
namespace L2.VL
noncomputable def stepT(b:Int)(p:List Int)(t:Int)(a:Nat):Int:=t*b+p.getD a 0
noncomputable def EA:Hi->Int
 | .int i=>i
 | _=>0
section
variable{P:HV}{w:IF}{K:W.Frag}{mg:Str->Option Hq}{base:Heap}{rl:RlT}{x:Str}{st:Stmt}{N ps:List Str}{k:Nat}{Pd:List W->(List Hi->Prop)->Prop}{t:Gj}
end
section
variable{X:Cx}{rl:RlT}{a b c e:Expr}{es:List Expr}{fa fb fc:TV}{fs:Gi}{pos p p2 px apos cpos:Pos}
end
end L2.VL
namespace L2.IX
section
variable{prog:HV}{w:IF}{A:IM}{E:Hq->Ht->Prop}{s:Ht}
end
end L2.IX
namespace L2
section
variable{X:Cx}
end
end L2
namespace L2.VL
section
variable{X:Cx}{rl:RlT}{a b c e:Expr}{es:List Expr}{fa fb fc:TV}{fs:Gi}{pos p p2 px apos cpos:Pos}
noncomputable def jT:Hi->Bool
 | .none=>true
 | _=>false
noncomputable def C8(neg:Bool):W->W->(W->Prop)->Prop:=fun x y Q=>∃d,x.dat=some d/\y = .d .none/\Q (.d (.bool (if neg then !jT d else jT d)))
noncomputable def zh:W->W->(W->Prop)->Prop:=fun x y Q=>∃xs k,x.dat=some (.list xs)/\y = .d (.int k) /\ -(2^63)<=k/\k<2^63/\xs.length*k.toNat<=sizeLine/\Q (.ml (HB k.toNat xs).flatten)
noncomputable def xJ(i:Nat):Gj:=fun D ρ=>∃xs,ρ[i]?=some (some (.ml xs))/\D.rt (.ml xs)
noncomputable def xR(i:Nat)(fa:TV):Gj:=fun D ρ=>∃xs,ρ[i]?=some (some (.ml xs))/\fa ρ fun w=>∃ys,w.isPk=false/\w.dat=some (.list ys)/\xs.length+ys.length<=sizeLine/\D.nx (ρ.set i (some (.ml (xs++ys))))
end
end L2.VL
namespace L2.ZP
section
variable{prog:HV}{w:IF}{A:IM}{E:Hq->Ht->Prop}{s:Ht}{it a:Addr}{k:Nat}{xs:Array Hq}{v:Hq}
theorem uZ(st:s.heap.IsTupleIter it a k)(tu:s.heap.IsTuple a xs)(e:xs[k]?=some v)
 (q:∀g,g.IsTupleIter it a (k+1)->JQ it s.heap g->Q v {s with heap:=g}):HP (Ib prog w) A (Iu (.ref it)) Q E s:=by
 have ty:=st.typeIs;obtain⟨o,oe,oc,od⟩:=st;obtain⟨l,le,_,_,ld⟩:=tu;unfold Iu;have sl:=F.slot_tuple_iterator_next;refine Hl (Is (name:=Iw "__next__") ty sl (Ji sl ty F.entry_tuple_iterator_next ?_ (F.args_tuple_iterator_next_1 _)));show HP _ _ (do let z <- field (.ref it) 0;_) _ _ s;refine Hl (Jf oe od (x:=.ref a) rfl ?_);show HP _ _ (ite ((Jd a==J3)=true) _ _) _ _ s;rw[if_neg (show ¬(Jd a == .none)=true by intro z;cases z)];show HP _ _ (do let z <- field (.ref it) 1;_) _ _ s;refine Hl (Jf oe od (x:=.int k 0) rfl ?_);show HP _ _ (do let z <- seqItems? (.ref a);_) _ _ s;refine Hl (J1 le ld ?_);simp only[JE,e];refine Hl (LZ oe od (by simp) (Hn ⟨v,rfl,Hn (q _ ?_ (KI ..))⟩));refine⟨_,MN _ oe (MO (K6 od _)),?_,?_⟩
 · exact(Obj.cls_mapFields ..).trans oc
 · rw[K6 od];simp[Nb]
theorem xV(hd:A.handled=none)(st:s.heap.IsTupleIter it a k)(tu:s.heap.IsTuple a xs)(e:xs[k]?=none)
 (q:∀g x,Ob it s.heap g->(∃o,g.get? x=some o/\o.cls = .type "StopIteration")->E (.ref x) {s with heap:=g}):HP (Ib prog w) A (Iu (.ref it)) Q E s:=by
 have ty:=st.typeIs;obtain⟨o,oe,oc,od⟩:=st;obtain⟨l,le,_,_,ld⟩:=tu;unfold Iu;have sl:=F.slot_tuple_iterator_next;refine Hl (Is (name:=Iw "__next__") ty sl (Ji sl ty F.entry_tuple_iterator_next ?_ (F.args_tuple_iterator_next_1 _)));show HP _ _ (do let z <- field (.ref it) 0;_) _ _ s;refine Hl (Jf oe od (x:=.ref a) rfl ?_);show HP _ _ (ite ((Jd a==J3)=true) _ _) _ _ s;rw[if_neg (show ¬(Jd a == .none)=true by intro z;cases z)];show HP _ _ (do let z <- field (.ref it) 1;_) _ _ s;refine Hl (Jf oe od (x:=.int k 0) rfl ?_);show HP _ _ (do let z <- seqItems? (.ref a);_) _ _ s;refine Hl (J1 le ld ?_);simp only[JE,e];refine Hl (Lb (Hl (LZ oe od (by simp) ?_)));show HP _ _ (do let z <- newExc (.type "StopIteration") [];_) _ _ _;refine Hl ?_;simp only[newExc,newTuple];refine Hl (Ia ?_ (by size_fits));refine Hl (m:=L0 _ _) (Mk (a:=.none) (by first|rfl|(simp only[L0];rfl)) (Ia ?_ (by size_fits)));simp only[raiseNew];refine Hl (wpAny_handled ?_)
 first
  | rw[show A.in1.handled=none from hd]
  | rw[hd]
 refine Hl (Hn (wpAny_throw ?_));exact q _ _ (((KI ..).extBut.push _).push _) ⟨_,HK _ rfl,rfl⟩
end
noncomputable def GY(h:Heap)(it a:Addr)(xs:Array Hq)(k:Nat):Prop:=(h.IsListIter it a k/\h.IsList a xs)\/(h.IsTupleIter it a k/\h.IsTuple a xs)
section
variable{prog:HV}{w:IF}{A:IM}{E:Hq->Ht->Prop}{s:Ht}{it a:Addr}{k:Nat}{xs:Array Hq}{v:Hq}
theorem GY.item(st:GY s.heap it a xs k)(ne:a≠it)(e:xs[k]?=some v)
 (q:∀g,GY g it a xs (k+1)->JQ it s.heap g->Q v {s with heap:=g}):HP (Ib prog w) A (Iu (.ref it)) Q E s:=by
 rcases st with⟨h1,h2⟩|⟨h1,h2⟩
 · exact wpAny_nextOf_list_item h1 h2 e fun g h3 h4=>q g (.inl ⟨h3,h2.extBut h4.extBut ne⟩) h4
 · exact uZ h1 h2 e fun g h3 h4=>q g (.inr ⟨h3,h2.extBut h4.extBut ne⟩) h4
theorem GY.fin(hd:A.handled=none)(st:GY s.heap it a xs k)(e:xs[k]?=none)
 (q:∀g x,Ob it s.heap g->(∃o,g.get? x=some o/\o.cls = .type "StopIteration")->E (.ref x) {s with heap:=g}):HP (Ib prog w) A (Iu (.ref it)) Q E s:=by
 rcases st with⟨h1,h2⟩|⟨h1,h2⟩
 · exact wpAny_nextOf_list_end hd h1 h2 e q
 · exact xV hd h1 h2 e q
theorem GY.keep(st:GY h it a xs k)(e1:∀o,h.get? it=some o->h'.get? it=some o)(e2:∀o,h.get? a=some o->h'.get? a=some o):GY h' it a xs k:=by
 rcases st with⟨⟨o,h1,r1⟩,⟨p,h2,r2⟩⟩|⟨⟨o,h1,r1⟩,⟨p,h2,r2⟩⟩
 · exact .inl ⟨⟨o,e1 _ h1,r1⟩,⟨p,e2 _ h2,r2⟩⟩
 · exact .inr ⟨⟨o,e1 _ h1,r1⟩,⟨p,e2 _ h2,r2⟩⟩
end
section
variable{prog:HV}{w:IF}{A:IM}{E:Hq->Ht->Prop}{s:Ht}{z ti to i1 i2 a1 a2:Addr}{k1 k2:Nat}{xs ys:Array Hq}{x y p q:Hq}
theorem SameBut.keep{b:Addr}(sb:JQ a h h')(ne:b≠a):∀o,h.get? b=some o->h'.get? b=some o:=fun o e=>sb.extBut _ _ ne e
theorem uA(D:ZipApart z ti to i1 i2 a1 a2)(oz:NN s.heap z ti to .none)(oi:LI s.heap ti (.ref i1) (.ref i2))(oo:LI s.heap to p q)
 (s1:GY s.heap i1 a1 xs k1)(s2:GY s.heap i2 a2 ys k2)(ex:xs[k1]?=some x)(ey:ys[k2]?=some y)
 (done:∀g,NN g z ti to (Nb s.heap.objs.size)->LI g to x y->GY g i1 a1 xs (k1+1)->GY g i2 a2 ys (k2+1)->LI g s.heap.objs.size x y->g.objs.size=s.heap.objs.size+1 ->
  (∀b o,b≠z->b≠to->b≠i1->b≠i2->s.heap.get? b=some o->g.get? b=some o)->Q (.ref s.heap.objs.size) {s with heap:=g}) :
 HP (Ib prog w) A (Builtin.«zip.__next__» ⟨[.ref z],[]⟩) (fun r s'=>∃u,r = .done (.ret u)/\Q u s') E s:=by
 show HP _ _ (do let c <- field (.ref z) 2;_) _ _ _;refine Hl (Jf oz rfl (x:=.bool false) rfl ?_);show HP _ _ (do let c <- field (.ref z) 3;_) _ _ _;refine Hl (Jf oz rfl (x:=.ref ti) rfl ?_);refine Hl (J1 oi rfl ?_);show HP _ _ (do let c <- Jp (.ref z);_) _ _ _;refine Hl ?_;unfold Jp;refine Hl (Jf oz rfl (x:=J3) rfl (Hn ?_));simp only[if_true];refine Hl (Lb (Hl (Jf oz rfl (x:=.ref to) rfl (Hl (JZ oz (by simp) fun g1 z1 b1=>?_)))));have z1:NN g1 z ti to .ellipsis:=z1;refine Hl ?_;simp only[K4,List.forIn_nil,List.zipIdx_cons,List.zipIdx_nil];have s1a:GY g1 i1 a1 xs k1:=s1.keep (SameBut.keep b1 D.i1z) (SameBut.keep b1 D.l1z);refine Hl (Hl (Ml ?_));show HP _ _ (do let c <- Iu (.ref i1);_) _ _ _;refine Hl (s1a.item D.l1i1 ex fun g2 s1b b2=>Hn ?_);have o2:LI g2 to p q:=b2.extBut _ _ D.TOi1 (b1.extBut _ _ D.TOz oo);refine Hl (J1 o2 rfl (Hl (Lv o2 fun g3 o3 b3=>?_)));have o3:LI g3 to x q:=o3;refine Hl (Oc (Hn ?_));have s2a:GY g3 i2 a2 ys k2:=((s2.keep (SameBut.keep b1 D.i2z) (SameBut.keep b1 D.l2z)).keep (SameBut.keep b2 D.i12.symm) (SameBut.keep b2 D.l2i1)).keep (SameBut.keep b3 D.TOi2.symm) (SameBut.keep b3 D.l2TO);refine Hl (Hl (Ml ?_));show HP _ _ (do let c <- Iu (.ref i2);_) _ _ _;refine Hl (s2a.item D.l2i2 ey fun g4 s2b b4=>Hn ?_);have o4:LI g4 to x q:=b4.extBut _ _ D.TOi2 o3;refine Hl (J1 o4 rfl (Hl (Lv o4 fun g5 o5 b5=>?_)));have o5:LI g5 to x y:=o5;refine Hl (Oc (Hn (Hn ?_)));refine Hl (J1 o5 rfl (Hl (wpAny_newTuple ?_)));have size:g5.objs.size=s.heap.objs.size:=by rw[b5.1,b4.1,b3.1,b2.1,b1.1]
 have z5:NN g5 z ti to .ellipsis:=b5.extBut _ _ D.TOz.symm (b4.extBut _ _ D.i2z.symm (b3.extBut _ _ D.TOz.symm (b2.extBut _ _ D.i1z.symm z1)));have kp:∀b o,b≠z->b≠to->b≠i1->b≠i2->s.heap.get? b=some o->g5.get? b=some o:=fun b o n1 n2 n3 n4 e=>b5.extBut _ _ n2 (b4.extBut _ _ n4 (b3.extBut _ _ n2 (b2.extBut _ _ n3 (b1.extBut _ _ n1 e))));have s1c:GY g5 i1 a1 xs (k1+1):=((s1b.keep (SameBut.keep b3 D.TOi1.symm) (SameBut.keep b3 D.l1TO)).keep (SameBut.keep b4 D.i12) (SameBut.keep b4 D.l1i2)).keep (SameBut.keep b5 D.TOi1.symm) (SameBut.keep b5 D.l1TO);have s2c:GY g5 i2 a2 ys (k2+1):=s2b.keep (SameBut.keep b5 D.TOi2.symm) (SameBut.keep b5 D.l2TO);have zl:z<g5.objs.size:=HD z5;show HP _ _ (do KF (.ref z) (.ref g5.objs.size);_) _ _ _;refine Hl ?_;unfold KF;have z6:NN (g5.push {cls:=.type "tuple", data:=.seq #[x,y]}) z ti to .ellipsis:=Hu _ z5;refine Hl (JZ z6 (by simp) fun g7 z7 b7=>?_);have z7:NN g7 z ti to (Nb g5.objs.size):=z7;refine JZ z7 (by simp) fun g8 z8 b8=>?_;have z8:NN g8 z ti to (Nb g5.objs.size):=z8;have up:∀b o,b≠z->g5.get? b=some o->g8.get? b=some o:=fun b o n e=>b8.extBut _ _ n (b7.extBut _ _ n (Hu _ e));have t8:LI g8 g5.objs.size x y:=b8.extBut _ _ (MG zl) (b7.extBut _ _ (MG zl) (HK _ rfl));have l8:g8.objs.size=g5.objs.size+1:=by rw[b8.1,b7.1,JG]
 rw[size]at z8 t8 l8;refine Hn ⟨_,rfl,?_⟩;show Q (.ref g5.objs.size) _;rw[size];exact done g8 z8 (up _ _ D.TOz o5) (s1c.keep (fun o e=>up _ o D.i1z e) fun o e=>up _ o D.l1z e) (s2c.keep (fun o e=>up _ o D.i2z e) fun o e=>up _ o D.l2z e) t8 l8 fun b o n1 n2 n3 n4 e=>up b o n1 (kp b o n1 n2 n3 n4 e)
theorem xa{Q:Fin->Ht->Prop}(hd:A.handled=none)(D:ZipApart z ti to i1 i2 a1 a2)(oz:NN s.heap z ti to .none)(oi:LI s.heap ti (.ref i1) (.ref i2))(oo:LI s.heap to p q)
 (s1:GY s.heap i1 a1 xs k1)(s2:GY s.heap i2 a2 ys k2)(e:xs[k1]?=none\/ys[k2]?=none)
 (q':∀g x,(∀b o,b≠z->b≠to->b≠i1->b≠i2->s.heap.get? b=some o->g.get? b=some o)->(∃o,g.get? x=some o/\o.cls = .type "StopIteration")->E (.ref x) {s with heap:=g}) :
 HP (Ib prog w) A (Builtin.«zip.__next__» ⟨[.ref z],[]⟩) Q E s:=by
 show HP _ _ (do let c <- field (.ref z) 2;_) _ _ _;refine Hl (Jf oz rfl (x:=.bool false) rfl ?_);show HP _ _ (do let c <- field (.ref z) 3;_) _ _ _;refine Hl (Jf oz rfl (x:=.ref ti) rfl ?_);refine Hl (J1 oi rfl ?_);show HP _ _ (do let c <- Jp (.ref z);_) _ _ _;refine Hl ?_;unfold Jp;refine Hl (Jf oz rfl (x:=J3) rfl (Hn ?_));simp only[if_true];refine Hl (Lb (Hl (Jf oz rfl (x:=.ref to) rfl (Hl (JZ oz (by simp) fun g1 z1 b1=>?_)))));have z1:NN g1 z ti to .ellipsis:=z1;refine Hl ?_;simp only[K4,List.forIn_nil,List.zipIdx_cons,List.zipIdx_nil];have s1a:GY g1 i1 a1 xs k1:=s1.keep (SameBut.keep b1 D.i1z) (SameBut.keep b1 D.l1z);refine Hl (Hl (Ml ?_));show HP _ _ (do let c <- Iu (.ref i1);_) _ _ _
 have last:∀(g g':Heap)(u:Addr)(o:Obj),g.get? u=some o->o.cls = .type "StopIteration" -> NN g z ti to .ellipsis->JQ z g g'->∃o,g'.get? u=some o/\o.cls = .type "StopIteration" := fun g g' u o h1 h2 h3 sb=>by
  have ne:u≠z:=fun c=>by rw[c,h3]at h1;cases h1;simp at h2
  exact⟨o,sb.extBut _ _ ne h1,h2⟩
 cases ex:xs[k1]? with
 | none =>
   refine Hl (s1a.fin hd ex fun g2 u b2 ⟨o,ou,oc⟩=>?_);have z2:NN g2 z ti to .ellipsis:=b2 _ _ D.i1z.symm z1
   exact JZ z2 (by simp) fun g3 _ b3=>q' g3 u (fun b o n1 _ n3 _ e=>b3.extBut _ _ n1 (b2 _ _ n3 (b1.extBut _ _ n1 e))) (last g2 g3 u o ou oc z2 b3)
 | some x =>
   have ey:ys[k2]?=none:=e.elim (fun h=>by rw[ex]at h;cases h) id;refine Hl (s1a.item D.l1i1 ex fun g2 s1b b2=>Hn ?_);have o2:LI g2 to p q:=b2.extBut _ _ D.TOi1 (b1.extBut _ _ D.TOz oo);refine Hl (J1 o2 rfl (Hl (Lv o2 fun g3 o3 b3=>?_)));refine Hl (Oc (Hn ?_));have s2a:GY g3 i2 a2 ys k2:=((s2.keep (SameBut.keep b1 D.i2z) (SameBut.keep b1 D.l2z)).keep (SameBut.keep b2 D.i12.symm) (SameBut.keep b2 D.l2i1)).keep (SameBut.keep b3 D.TOi2.symm) (SameBut.keep b3 D.l2TO);refine Hl (Hl (Ml ?_));show HP _ _ (do let c <- Iu (.ref i2);_) _ _ _;refine Hl (s2a.fin hd ey fun g4 u b4 ⟨o,ou,oc⟩=>?_);have z4:NN g4 z ti to .ellipsis:=b4 _ _ D.i2z.symm (b3.extBut _ _ D.TOz.symm (b2.extBut _ _ D.i1z.symm z1));exact JZ z4 (by simp) fun g5 _ b5=>q' g5 u (fun b o n1 n2 n3 n4 e=>b5.extBut _ _ n1 (b4 _ _ n4 (b3.extBut _ _ n2 (b2.extBut _ _ n3 (b1.extBut _ _ n1 e))))) (last g4 g5 u o ou oc z4 b5)
end
noncomputable def Gs(b:Bool)(h:Heap)(a:Addr)(xs:Array Hq):Prop:=bif b then h.IsTuple a xs else h.IsList a xs
noncomputable def FG(b:Bool):String:=bif b then "tuple_iterator" else "list_iterator"
theorem Gs.push{b:Bool}{h:Heap}{a:Addr}{xs:Array Hq}(q:Gs b h a xs)(o:Obj):Gs b (h.push o) a xs:=by
 cases b with
 | true=>exact Heap.IsTuple.push q o
 | false=>exact Heap.IsList.push q o
section
variable{prog:HV}{w:IF}{A:IM}{E:Hq->Ht->Prop}{s:Ht}{b b1 b2:Bool}{a a1 a2:Addr}{xs ys:Array Hq}
theorem za(st:Gs b s.heap a xs)(q:Q (.ref s.heap.objs.size) {s with heap:=s.heap.push {cls:=.type (FG b),data:=.fields #[.ref a,.int 0 0]}}):HP (Ib prog w) A (NQ (.ref a)) Q E s:=by
 cases b with
 | true=>exact wpAny_pyIter_tuple st q
 | false=>exact Lc st q
abbrev y1(h:Heap)(b1:Bool)(a1:Addr):Heap:=h.push {cls:=.type (FG b1),data:=.fields #[.ref a1,.int 0 0]}
abbrev y2(h:Heap)(b1 b2:Bool)(a1 a2:Addr):Heap:=(y1 h b1 a1).push {cls:=.type (FG b2),data:=.fields #[.ref a2,.int 0 0]}
abbrev y3(h:Heap)(b1 b2:Bool)(a1 a2:Addr):Heap:=(y2 h b1 b2 a1 a2).push {cls:=.type "tuple", data:=.seq #[.ref h.objs.size,.ref (y1 h b1 a1).objs.size]}
abbrev y4(h:Heap)(b1 b2:Bool)(a1 a2:Addr):Heap:=(y3 h b1 b2 a1 a2).push {cls:=.type "tuple", data:=.seq #[.none,.none]}
abbrev y5(h:Heap)(b1 b2:Bool)(a1 a2:Addr):Heap:=(y4 h b1 b2 a1 a2).push {cls:=.type "zip", data:=.fields #[.none,.bool false,.bool false,.ref (y2 h b1 b2 a1 a2).objs.size,.ref (y3 h b1 b2 a1 a2).objs.size]}
theorem uB(b1 b2:Bool)(a1 a2:Addr)(xs ys:Array Hq) :
 Meets (Builtin.«zip.__new__» ⟨[.type "zip", .ref a1,.ref a2],[]⟩) (fun _ R s=>Gs b1 s.heap a1 xs/\Gs b2 s.heap a2 ys/\R (.ok (.ret (.ref (y4 s.heap b1 b2 a1 a2).objs.size))) {s with heap:=y5 s.heap b1 b2 a1 a2}) :=
 .of_wp fun prog w A R s h=>by
  obtain⟨hp,g,d,tk,os⟩:=s;obtain⟨q1,q2,h⟩:=h;have hsub:=sub_zip;have k1:Gs b1 (Ht.heap ⟨hp,g,d,tk,os⟩) a1 xs:=q1;have k2:Gs b2 (Ht.heap ⟨hp.push {cls:=.type (FG b1),data:=.fields #[.ref a1,.int 0 0]},g,d,tk,os⟩) a2 ys:=q2.push _
  wp_walk using za k1,za k2
  exact⟨_,rfl,h⟩
theorem tf(q1:Gs b1 s.heap a1 xs)(q2:Gs b2 s.heap a2 ys)
 (k:∀g,NN g (s.heap.objs.size+4) (s.heap.objs.size+2) (s.heap.objs.size+3) .none->LI g (s.heap.objs.size+2) (.ref s.heap.objs.size) (.ref (s.heap.objs.size+1))->LI g (s.heap.objs.size+3) .none .none ->
  GY g s.heap.objs.size a1 xs 0->GY g (s.heap.objs.size+1) a2 ys 0->g.objs.size=s.heap.objs.size+5->(∀c o,s.heap.get? c=some o->g.get? c=some o)->Q (.ref (s.heap.objs.size+4)) {s with heap:=g}) :
 HP (Ib prog w) A (call (.type "zip") [.ref a1,.ref a2]) Q E s:=by
 refine callType_new F.called_zip (by decide) (F.typeCall_zip_2 _ _) (F.newCall_zip_2 _ _) (fun u=>F.args_object_init_3 u _ _) F.entry_zip_new (uB b1 b2 a1 a2 xs ys) ⟨q1,q2,?_⟩;have n1:(y1 s.heap b1 a1).objs.size=s.heap.objs.size+1:=JG ..;have n2:(y2 s.heap b1 b2 a1 a2).objs.size=s.heap.objs.size+2:=by rw[JG,n1]
 have n3:(y3 s.heap b1 b2 a1 a2).objs.size=s.heap.objs.size+3:=by rw[JG,n2]
 have n4:(y4 s.heap b1 b2 a1 a2).objs.size=s.heap.objs.size+4:=by rw[JG,n3]
 have n5:(y5 s.heap b1 b2 a1 a2).objs.size=s.heap.objs.size+5:=by rw[JG,n4]
 have pu:∀{h:Heap}{o u:Obj}{c:Addr},h.get? c=some u->(h.push o).get? c=some u:=fun e=>Hu _ e;have kp:∀c o,s.heap.get? c=some o->(y5 s.heap b1 b2 a1 a2).get? c=some o:=fun c o e=>pu (pu (pu (pu (pu e))));have f5:(y5 s.heap b1 b2 a1 a2).get? (y4 s.heap b1 b2 a1 a2).objs.size=some _:=HK _ rfl;have f4:(y5 s.heap b1 b2 a1 a2).get? (y3 s.heap b1 b2 a1 a2).objs.size=some _:=pu (HK _ rfl);have f3:(y5 s.heap b1 b2 a1 a2).get? (y2 s.heap b1 b2 a1 a2).objs.size=some _:=pu (pu (HK _ rfl));have f2:(y5 s.heap b1 b2 a1 a2).get? (y1 s.heap b1 a1).objs.size=some _:=pu (pu (pu (HK _ rfl)));have f1:(y5 s.heap b1 b2 a1 a2).get? s.heap.objs.size=some _:=pu (pu (pu (pu (HK _ rfl))));show _/\_;rw[n2,n3,n4]at f5;rw[n1,n2]at f3;rw[n3]at f4;rw[n1]at f2;rw[n4]
 have mk:∀{b:Bool}{i a:Addr}{zs:Array Hq},(y5 s.heap b1 b2 a1 a2).get? i=some {cls:=.type (FG b),data:=.fields #[.ref a,.int 0 0]}->Gs b s.heap a zs->GY (y5 s.heap b1 b2 a1 a2) i a zs 0:=fun{b i a zs} e q=>by
  cases b with
  | true=>obtain⟨o,h1,h2⟩:=(show s.heap.IsTuple a zs from q);exact .inr ⟨⟨_,e,rfl,rfl⟩,⟨o,kp _ _ h1,h2⟩⟩
  | false=>obtain⟨o,h1,h2⟩:=(show s.heap.IsList a zs from q);exact .inl ⟨⟨_,e,rfl,rfl⟩,⟨o,kp _ _ h1,h2⟩⟩
 exact⟨⟨_,f5,rfl⟩,k _ f5 f3 f4 (mk f1 q1) (mk f2 q2) n5 kp⟩
end
end L2.ZP
namespace L2
open PySem PySem.Spec PyProof.Rows L2.ZP
theorem Inv.turnedL{s:Ht}{ch:List Addr}(I:Inv X pins σ H s)(k:∀b o,b∉ch->s.heap.get? b=some o->h'.get? b=some o)(hn:∀b∈ch,lG X pins H b) :
 Inv X pins σ H {s with heap:=h',toks:=t' }:=by
 have nit:∀b u,H b=some u->b∉ch:=fun b u e z=>by rw[(hn b z).1]at e;cases e
 refine I.step (g':=s.gens) (d':=s.drawn) (ch:=ch) (fun b hb=>?_) (fun b o _ _ hc e _=>k b o hc e) (fun b o _ _ hc e _=>⟨o.slots,k b o hc e⟩) (fun _ _ _ _ n=>n) (fun b o hc e=>⟨o,k b o hc e⟩) (fun _ _ e=>e) (fun _ _ _ e=>e) (fun b ps e=>⟨#[],by rw[e];simp⟩) (fun m hm=>?_) (fun b u e=>?_) I.bare
 · obtain⟨_,h2,_,h4,h5,h6⟩:=hn b hb;exact⟨h4,h2,h5,h6⟩
 · obtain⟨o,es,ep,ho,r⟩:=hm;exact⟨o,es,ep,k _ o (fun z=>(hn _ z).2.1 rfl) ho,r⟩
 · refine(I.hok b u e).stay (fun c v hc q=>k c v ?_ q) (fun _ q=>q) fun _ _ q=>q;rcases hc with z|z
   · rw[z];exact nit b u e
   · exact nit c _ z
noncomputable def Gr(b:Bool)(K:W.Frag)(H:Hp)(a:Addr)(xs:List V):Prop:=bif b then Gp K H a xs else Gq K H a xs
theorem Inv.sqB{s:Ht}{b:Bool}{xs:List V}(I:Inv X pins σ H s)(h:Gr b X.K H a xs):∃its,de xs its/\Gs b s.heap a its.toArray:=by
 cases b with
 | true =>
   obtain⟨its,r,t,z⟩:=I.tuple h
   exact⟨its,r,t⟩
 | false =>
   obtain⟨its,r,p,z⟩:=I.list h;exact⟨its,r,p.isList⟩
theorem Inv.sqB_inj{s:Ht}{b:Bool}{xs ys:List V}(I:Inv X pins σ H s)(h:Gr b X.K H a xs)(h':Gr b X.K H a ys):xs=ys:=by
 cases b with
 | true=>exact I.tuple_inj h h'
 | false=>exact I.list_inj h h'
noncomputable def GT(K:W.Frag)(b1 b2:Bool)(a1 a2:Addr):It :=
 ⟨fun i H=>∃xs ys x y,Gr b1 K H a1 xs/\Gr b2 K H a2 ys/\xs[i]?=some x/\ys[i]?=some y,
  fun i H v H'=>∃x y p,(∀xs,Gr b1 K H a1 xs->xs[i]?=some x)/\(∀ys,Gr b2 K H a2 ys->ys[i]?=some y)/\H p=none/\v = .ref p/\H'=Ex H p (.tup [x,y]),
  fun i H=>∃xs ys,Gr b1 K H a1 xs/\Gr b2 K H a2 ys/\(xs.length<=i\/ys.length<=i)⟩
noncomputable def GZ(b:Bool)(h:Heap)(it a:Addr)(k:Nat):Prop:=bif b then h.IsTupleIter it a k else h.IsListIter it a k
theorem GZ.it1{b:Bool}{k:Nat}{xs:Array Hq}(q:GZ b h it a k)(r:Gs b h a xs):GY h it a xs k:=by
 cases b with
 | true=>exact .inr ⟨q,r⟩
 | false=>exact .inl ⟨q,r⟩
theorem GZ.keep{b:Bool}{k:Nat}(q:GZ b h it a k)(e:∀o,h.get? it=some o->h'.get? it=some o):GZ b h' it a k:=by
 cases b with
 | true=>obtain⟨o,h1,r⟩:=(show h.IsTupleIter it a k from q);exact⟨o,e _ h1,r⟩
 | false=>obtain⟨o,h1,r⟩:=(show h.IsListIter it a k from q);exact⟨o,e _ h1,r⟩
theorem GZ.obj{b:Bool}{k:Nat}(q:GZ b h it a k):∃o,h.get? it=some o/\∀v,o.data ≠ .cell v:=by
 cases b with
 | true=>obtain⟨o,h1,_,d⟩:=(show h.IsTupleIter it a k from q);exact⟨o,h1,fun v z=>by rw[d]at z;cases z⟩
 | false=>obtain⟨o,h1,_,d⟩:=(show h.IsListIter it a k from q);exact⟨o,h1,fun v z=>by rw[d]at z;cases z⟩
theorem GY.ir{b:Bool}{k j:Nat}{xs:Array Hq}{h0:Heap}(q:GY h it a xs k)(r:GZ b h0 it a j)(s:Gs b h a xs):GZ b h it a k:=by
 cases b with
 | true =>
   rcases q with⟨_,⟨o,e,c,_⟩⟩|⟨q,_⟩
   · obtain⟨o',e',c',_⟩:=(show h.IsTuple a xs from s);rw[e]at e';cases e';rw[c]at c';injection c' with z;exact absurd z (by decide)
   · exact q
 | false =>
   rcases q with⟨q,_⟩|⟨_,⟨o,e,c,_⟩⟩
   · exact q
   · obtain⟨o',e',c',_⟩:=(show h.IsList a xs from s);rw[e]at e';cases e';rw[c]at c';injection c' with z;exact absurd z (by decide)
noncomputable def ZS(b1 b2:Bool)(z ti to i1 i2 a1 a2:Addr)(i:Nat)(h:Heap):Prop:=NN h z ti to .none/\LI h ti (.ref i1) (.ref i2)/\(∃p q,LI h to p q)/\GZ b1 h i1 a1 i/\GZ b2 h i2 a2 i
theorem Gs.of{b:Bool}{xs:Array Hq}(q:Gs b h a xs)(e:∀o,h.get? a=some o->h'.get? a=some o):Gs b h' a xs:=by
 cases b with
 | true=>obtain⟨o,h1,r⟩:=(show h.IsTuple a xs from q);exact⟨o,e _ h1,r⟩
 | false=>obtain⟨o,h1,r⟩:=(show h.IsList a xs from q);exact⟨o,e _ h1,r⟩
theorem rq{K:W.Frag}{elts:List Expr}{kt:Nat}{pt:Pos}(b1 b2:Bool)(z ti to i1 i2 a1 a2:Addr)(D:ZipApart z ti to i1 i2 a1 a2) :
 Turn P w K (.Tuple elts kt pt) (GT K b1 b2 a1 a2) [z,ti,to,i1,i2] z (ZS b1 b2 z ti to i1 i2 a1 a2) where
 mem:=by simp
 obj:=fun i h ⟨h1,h2,⟨p,q,h3⟩,h4,h5⟩ b hb=>by
  simp at hb;rcases hb with rfl|rfl|rfl|rfl|rfl
  · exact⟨_,h1,fun v c=>by cases c⟩
  · exact⟨_,h2,fun v c=>by cases c⟩
  · exact⟨_,h3,fun v c=>by cases c⟩
  · exact h4.obj
  · exact h5.obj
 keep:=fun i h h' ⟨h1,h2,⟨p,q,h3⟩,h4,h5⟩ k=>⟨k z (by simp) _ h1,k ti (by simp) _ h2,⟨p,q,k to (by simp) _ h3⟩,h4.keep fun o e=>k i1 (by simp) o e,h5.keep fun o e=>k i2 (by simp) o e⟩
 item:=by
  intro X hP hw hK hc i pins s σ H E I hf st hg;subst hP hw hK;obtain⟨h1,h2,⟨p,q,h3⟩,h4,h5⟩:=st;obtain⟨xs,ys,x,y,q1,q2,ex,ey⟩:=hg;obtain⟨its,r1,t1⟩:=I.sqB q1;obtain⟨jts,r2,t2⟩:=I.sqB q2;obtain⟨u,hu,ru⟩:=r1.get ex;obtain⟨v,hv,rv⟩:=r2.get ey;have ty:s.TypeIs (.ref z) "zip" := ⟨_,h1,rfl⟩;unfold L6
  refine Hl (Mm (Is (name:=Iw "__next__") ty F.slot_zip_next (Ji F.slot_zip_next ty F.entry_zip_next
   (uA D h1 h2 h3 (h4.it1 t1) (h5.it1 t2) (by simpa using hu) (by simpa using hv) fun g e1 e2 e3 e4 e5 e6 e7=>Hn ?_) (F.args_zip_next_1 _))))
  have hz:s.heap.objs.size≠z:=MG (HD h1);refine⟨.ref s.heap.objs.size,rfl,wpAny_letOwnedTupleGo_zip e1 fun g' f1 fb=>?_⟩;have hp:H s.heap.objs.size=none:=I.hok.fresh (Hw _)
  have I1:Inv X pins σ (Ex H s.heap.objs.size (.tup [x,y])) {s with heap:=s.heap.push {cls:=.type "tuple", data:=.seq [u,v].toArray}} :=
   I.laid (t':=s.toks) (o:=.tup [x,y]) (fun b ob e=>Hu _ e) (Hw _) ⟨(by show 2<=sizeLine;decide),[u,v],.cons ru (.cons rv .nil),rb.new _ _⟩
  have ne:∀b∈[z,ti,to,i1,i2],b≠s.heap.objs.size:=fun b hb e=>by
   simp at hb;rcases hb with rfl|rfl|rfl|rfl|rfl
   · exact hz e.symm
   · exact absurd (HD h2) (by rw[e];exact Jj _)
   · exact absurd (HD h3) (by rw[e];exact Jj _)
   · obtain⟨o,ho,_⟩:=h4.obj;exact absurd (HD ho) (by rw[e];exact Jj _)
   · obtain⟨o,ho,_⟩:=h5.obj;exact absurd (HD ho) (by rw[e];exact Jj _)
  have kg:∀b o,b∉[z,ti,to,i1,i2]->(s.heap.push {cls:=.type "tuple", data:=.seq [u,v].toArray}).get? b=some o->g'.get? b=some o:=fun b o hb e=>by
   simp at hb;obtain⟨n1,n2,n3,n4,n5⟩:=hb;refine fb.extBut _ _ n1 ?_;by_cases hbn:b=s.heap.objs.size
   · subst hbn;rw[HK _ rfl]at e;cases e;exact e5
   · exact e7 b o n1 n3 n4 n5 (by rw[Heap.get?_push_ne _ _ _ hbn]at e;exact e)
  have fp1:∀b∈[z,ti,to,i1,i2],lG X pins (Ex H s.heap.objs.size (.tup [x,y])) b:=fun b hb=>by
   obtain⟨f0,fr⟩:=hf b hb;exact⟨by rw[ar (ne b hb)];exact f0,fr⟩
  have I2:Inv X pins σ (Ex H s.heap.objs.size (.tup [x,y])) {s with heap:=g' }:=I1.turnedL (t':=s.toks) kg fp1;have k8:∀b o,b≠z->g.get? b=some o->g'.get? b=some o:=fun b o n e=>fb.extBut _ _ n e;have t1':Gs b1 g a1 its.toArray:=Gs.of t1 fun o e=>e7 _ o D.l1z D.l1TO D.l1i1 D.l1i2 e;have t2':Gs b2 g a2 jts.toArray:=Gs.of t2 fun o e=>e7 _ o D.l2z D.l2TO D.l2i1 D.l2i2 e;refine⟨.ref s.heap.objs.size,_,I2,rfl,⟨x,y,_,fun xs' q'=>by rw[I.sqB_inj q' q1];exact ex,fun ys' q'=>by rw[I.sqB_inj q' q2];exact ey,hp,rfl,rfl⟩,⟨f1,k8 _ _ D.TIz (e7 _ _ D.TIz D.TITO D.TIi1 D.TIi2 h2),⟨_,_,k8 _ _ D.TOz e2⟩,(GY.ir e3 h4 t1').keep fun o e=>k8 _ o D.i1z e,(GY.ir e4 h5 t2').keep fun o e=>k8 _ o D.i2z e⟩,fun b hb=>(fp1 b hb).1⟩
 done:=by
  intro X hP hw hK hc i pins s σ H E I hf st hg;subst hP hw hK;obtain⟨h1,h2,⟨p,q,h3⟩,h4,h5⟩:=st;obtain⟨xs,ys,q1,q2,ex⟩:=hg;obtain⟨its,r1,t1⟩:=I.sqB q1;obtain⟨jts,r2,t2⟩:=I.sqB q2;have l1:=r1.length;have l2:=r2.length;have ty:s.TypeIs (.ref z) "zip" := ⟨_,h1,rfl⟩;unfold L6
  refine Hl (Mm (Is (name:=Iw "__next__") ty F.slot_zip_next (Ji F.slot_zip_next ty F.entry_zip_next
   (xa (I.ok.hd hc) D h1 h2 h3 (h4.it1 t1) (h5.it1 t2) (by simp;omega) fun g e kg ⟨o,ho,hoc⟩=>?_) (F.args_zip_next_1 _))))
  refine Hl (wpAny_isInstance (T := "StopIteration") (b:=true) ⟨o,ho,hoc⟩ isSubtype_stop (Hn ⟨rfl,?_⟩));exact I.turnedL (t':=s.toks) (fun b o hb e=>by simp at hb;exact kg b o hb.1 hb.2.2.1 hb.2.2.2.1 hb.2.2.2.2 e) hf
 self:=fun _ _ _ _ _ st h=>wpAny_pyIter_zip st.1 h
open PySem PySem.Spec PyProof.Rows L2.ZP
section
variable{X:Cx}{e1 e2:Expr}{ta:TA}{elts:List Expr}{kt:Nat}{pt p pos:Pos}
noncomputable def DO(K:W.Frag)(b1 b2:Bool)(t:TA):TI:=fun σ H R=>t σ H fun vs H1=>∃a1 a2 xs ys,vs=[.ref a1,.ref a2]/\Gr b1 K H1 a1 xs/\Gr b2 K H1 a2 ys/\R (GT K b1 b2 a1 a2) H1
theorem yA(b1 b2:Bool)(hg:Gl X "zip")(hm:X.mg "zip" = none)(ha:PA X [e1,e2] ta)(hs:autoParam (HA [e1,e2] X.env=(false,eval e1 X.env)::HA [e2] X.env) æa._auto_1)(hpl:autoParam ((Jl pos (HA [e2] X.env)).any (·.1)=false) æa._auto_1) :
 PI X (.Tuple elts kt pt) (.Call (.Name "zip" p) [e1,e2] [] pos) (DO X.K b1 b2 ta):=by
 intro pins s σ H R I h;refine Call_ (iq I hg hm (by rfl) (Jw (EH (ha pos pins s σ H _ I h) fun us s1 ⟨vs,H1,I1,r1,q1⟩=>?_) hs hpl) (by decide) (by decide));obtain⟨a1,a2,xs,ys,ev,q1,q2,q⟩:=q1;subst ev
 cases r1 with
 | cons r rr =>
   cases rr with
   | cons r' rr =>
     cases rr;cases r;cases r';obtain⟨its,v1,t1⟩:=I1.sqB q1;obtain⟨jts,v2,t2⟩:=I1.sqB q2;refine tf t1 t2 fun g f1 f2 f3 f4 f5 f6 kp=>wpAny_pyIter_zip f1 ?_
     have lt1:a1<s1.heap.objs.size/\a2<s1.heap.objs.size:=by
      constructor
      · cases b1 with
        | true=>obtain⟨o,ho,_⟩:=(show s1.heap.IsTuple a1 _ from t1);exact HD ho
        | false=>obtain⟨o,ho,_⟩:=(show s1.heap.IsList a1 _ from t1);exact HD ho
      · cases b2 with
        | true=>obtain⟨o,ho,_⟩:=(show s1.heap.IsTuple a2 _ from t2);exact HD ho
        | false=>obtain⟨o,ho,_⟩:=(show s1.heap.IsList a2 _ from t2);exact HD ho
     obtain⟨l1,l2⟩:=lt1;have ap:∀{n c:Nat},c<n->∀k:Nat,c≠n+k:=fun h k e=>by omega
     have D:ZipApart (s1.heap.objs.size+4) (s1.heap.objs.size+2) (s1.heap.objs.size+3) s1.heap.objs.size (s1.heap.objs.size+1) a1 a2:=by
      generalize hN:s1.heap.objs.size=N at l1 l2;exact⟨by simp,by simp,by simp,by simp,by simp,by simp,by simp,by simp,by simp,by simp,ap l1 4,ap l1 3,ap l1 0,ap l1 1,ap l2 4,ap l2 3,ap l2 0,ap l2 1⟩
     have kg:∀b o,s1.heap.get? b=some o->g.get? b=some o:=kp;have I2:Inv X pins σ H1 {s1 with heap:=g}:=I1.kept (t':=s1.toks) kg
     have ir:∀{b:Bool}{it a:Addr}{zs:Array Hq},GY g it a zs 0->Gs b s1.heap a zs->GZ b g it a 0:=fun{b it a zs} q r=>by
      have r':=Gs.of r fun o e=>kg _ o e
      cases b with
      | true =>
        rcases q with⟨_,⟨o,e,c,_⟩⟩|⟨q,_⟩
        · obtain⟨o',e',c',_⟩:=(show g.IsTuple a zs from r');rw[e]at e';cases e';rw[c]at c';injection c' with z;exact absurd z (by decide)
        · exact q
      | false =>
        rcases q with⟨q,_⟩|⟨_,⟨o,e,c,_⟩⟩
        · exact q
        · obtain⟨o',e',c',_⟩:=(show g.IsList a zs from r');rw[e]at e';cases e';rw[c]at c';injection c' with z;exact absurd z (by decide)
     refine⟨_,[s1.heap.objs.size+4,s1.heap.objs.size+2,s1.heap.objs.size+3,s1.heap.objs.size,s1.heap.objs.size+1],_,_,H1,rfl,I2,rq b1 b2 _ _ _ _ _ a1 a2 D,⟨f1,f2,⟨_,_,f3⟩,ir f4 t1,ir f5 t2⟩,fun b hb=>?_,q⟩
     have hb':s1.heap.objs.size<=b:=by
      simp at hb;rcases hb with rfl|rfl|rfl|rfl|rfl
      · exact Lr _ 4
      · exact Lr _ 2
      · exact Lr _ 3
      · exact Hw _
      · exact Lr _ 1
     exact I1.fpOk hb' (I1.hok.fresh hb')
end
end L2
namespace L2.VL
section
variable{X:Cx}{rl:RlT}{a b:Expr}{elts:List Expr}{kt:Nat}{pt p pos:Pos}{fs:Gi}
noncomputable def ki(xs ys:List Hi):List Hi:=ID (fun x y=>.tuple [x,y]) xs ys
noncomputable def dM:Hi->Bool
 | .tuple _=>true
 | _=>false
theorem tW{K:W.Frag}(r:Rep K F v d)(e:fR d=some xs):∃a vs,v = .ref a/\Reps K F vs xs/\∀H,bU F H->Gr (dM d) K H a vs:=by
 cases r with
 | tup sq rs=>cases e;exact⟨_,_,rfl,rs,fun H s=>c_ s sq⟩
 | lst h rs=>cases e;exact⟨_,_,rfl,rs,fun H s=>.inl (.inl (s _ _ h))⟩
 | non=>cases e
 | bl b=>cases e
 | int i=>cases e
 | str x=>cases e
theorem lH{ys:List Hi}(h:(ki xs ys)[i]?=some d):∃x y,xs[i]?=some x/\ys[i]?=some y/\d = .tuple [x,y]:=by
 unfold ki at h;rw[List.getElem?_zipWith]at h
 cases ex:xs[i]? with
 | none=>rw[ex]at h;cases h
 | some x =>
   cases ey:ys[i]? with
   | none=>rw[ex,ey]at h;cases h
   | some y=>rw[ex,ey]at h;cases h;exact⟨x,y,rfl,rfl,rfl⟩
theorem tI(b1 b2:Bool)(hm:X.mg "zip" = none)(ha:Gz X rl [a,b] fs)(hg:autoParam (Gl X "zip") æa._auto_1)(hs:autoParam (HA [a,b] X.env=(false,eval a X.env)::HA [b] X.env) æa._auto_1)(hpl:autoParam ((Jl pos (HA [b] X.env)).any (·.1)=false) æa._auto_1) :
 GG X rl (.Tuple elts kt pt) (.Call (.Name "zip" p) [a,b] [] pos) (fun ρ Q=>fs ρ fun ws=>∃dx dy xs ys,ws=[.d dx,.d dy]/\fR dx=some xs/\fR dy=some ys/\dM dx=b1/\dM dy=b2/\Q (ki xs ys)):=by
 obtain⟨t,p1,k⟩:=ha;refine⟨_,yA b1 b2 hg hm p1 hs hpl,fun R Qd Q q h=>k R _ _ q fun vs ws F1 H1 g1 r1 ⟨dx,dy,xs,ys,ew,e1,e2,kb1,kb2,q1⟩=>?_⟩;subst ew kb1 kb2;obtain⟨v,u,rfl,rv,ru⟩:=CT r1;obtain⟨a1,vs,rfl,rs,sq1⟩:=tW rv e1;obtain⟨a2,us,rfl,rt,sq2⟩:=tW ru e2;refine⟨a1,a2,vs,us,rfl,sq1 _ g1.sub,sq2 _ g1.sub,h _ (ki xs ys) F1 H1 g1 ⟨fun i H x e s=>?_,fun i H hl s=>?_,fun i H v H' x F2 e s s2 ra y=>?_⟩ q1⟩
 · obtain⟨x1,y1,ex,ey,_⟩:=lH e;obtain⟨v1,ev1,_⟩:=rs.get ex;obtain⟨u1,eu1,_⟩:=rt.get ey;exact⟨vs,us,v1,u1,sq1 _ s,sq2 _ s,ev1,eu1⟩
 · refine⟨vs,us,sq1 _ s,sq2 _ s,?_⟩;unfold ki at hl;rw[Jq]at hl;rw[rs.length,rt.length];omega
 · obtain⟨x1,y1,ex,ey,ed⟩:=lH e;obtain⟨vx,vy,pp,hx,hy,hp,ev,eH⟩:=y;obtain⟨v1,ev1,rv1⟩:=rs.get ex;obtain⟨u1,eu1,ru1⟩:=rt.get ey;have h1:=hx vs (sq1 _ (s.trans s2));have h2:=hy us (sq2 _ (s.trans s2));rw[ev1]at h1;rw[eu1]at h2;cases h1;cases h2;subst ev eH ed;have g:=Grow.data (a:=pp) (o:=.tup [vx,vy]) s2 ra hp;exact⟨_,g,.tup (.inl (.inl aG)) (.cons ((rv1.mono s).mono g.fs) (.cons ((ru1.mono s).mono g.fs) .nil))⟩
noncomputable def FK(b1 b2:Bool)(fs:Gi):En->(List Hi->Prop)->Prop:=fun ρ Q=>fs ρ fun ws=>∃dx dy xs ys,ws=[.d dx,.d dy]/\fR dx=some xs/\fR dy=some ys/\dM dx=b1/\dM dy=b2/\Q (ki xs ys)
theorem c9(hm:X.mg "zip" = none)(ha:Gz X rl [a,b] fs)(hg:autoParam (Gl X "zip") æa._auto_1)(hs:autoParam (HA [a,b] X.env=(false,eval a X.env)::HA [b] X.env) æa._auto_1)(hpl:autoParam ((Jl pos (HA [b] X.env)).any (·.1)=false) æa._auto_1) :
 GG X rl (.Tuple elts kt pt) (.Call (.Name "zip" p) [a,b] [] pos) (FK true true fs):=tI true true hm ha hg hs hpl
theorem rg(hm:X.mg "zip" = none)(ha:Gz X rl [a,b] fs)(hg:autoParam (Gl X "zip") æa._auto_1)(hs:autoParam (HA [a,b] X.env=(false,eval a X.env)::HA [b] X.env) æa._auto_1)(hpl:autoParam ((Jl pos (HA [b] X.env)).any (·.1)=false) æa._auto_1) :
 GG X rl (.Tuple elts kt pt) (.Call (.Name "zip" p) [a,b] [] pos) (FK true false fs):=tI true false hm ha hg hs hpl
end
theorem nr{α:Sort u}{a b:α}(h:a=b):a=b:=h
abbrev Mo(α:Type):=(α->Prop)->Prop
noncomputable def ret{α:Type}(a:α):Mo α:=fun Q=>Q a
noncomputable def FY{α β:Type}(m:Mo α)(f:α->Mo β):Mo β:=fun Q=>m fun a=>f a Q
noncomputable def FO{α:Type}(P:Prop)(m:Mo α):Mo α:=fun Q=>P/\m Q
noncomputable def stk{α:Type}:Mo α:=fun _=>False
noncomputable def anyM{α:Type}(P:α->Prop):Mo α:=fun Q=>∀a,P a->Q a
noncomputable def aJ{α β:Type}(o:Option α)(f:α->Mo β):Mo β:=match o with
 | some a=>f a
 | none=>stk
section
variable{α β γ:Type}
theorem bnd_ret(a:α)(f:α->Mo β):FY (ret a) f=f a:=nr rfl
theorem bnd_bnd(m:Mo α)(f:α->Mo β)(g:β->Mo γ):FY (FY m f) g=FY m fun a=>FY (f a) g:=nr rfl
theorem bnd_grd(P:Prop)(m:Mo α)(f:α->Mo β):FY (FO P m) f=FO P (FY m f):=nr rfl
theorem bnd_stk(f:α->Mo β):FY stk f=stk:=nr rfl
theorem bnd_ite(c:Prop)[Decidable c](a b:Mo α)(f:α->Mo β):FY (if c then a else b) f=if c then FY a f else FY b f:=by split<;>rfl
theorem bnd_opt(o:Option α)(k:α->Mo β)(f:β->Mo γ):FY (aJ o k) f=aJ o fun a=>FY (k a) f:=by cases o<;>rfl
theorem opt_some(a:α)(k:α->Mo β):aJ (some a) k=k a:=nr rfl
theorem opt_none(k:α->Mo β):aJ none k=stk:=nr rfl
theorem ah{P:Prop}(h:P)(m:Mo α):FO P m=m:=by funext Q;exact propext ⟨fun z=>z.2,fun z=>⟨h,z⟩⟩
theorem grd_T(m:Mo α):FO True m=m:=ah trivial m
theorem fW(c:Prop)[Decidable c](a b:Mo α)(Q:α->Prop):(if c then a else b) Q=if c then a Q else b Q:=by split<;>rfl
theorem ag{m n:Mo α}(h:∀Q,m Q↔n Q):m=n:=funext fun Q=>propext (h Q)
end
noncomputable def asI:W->Option Int
 | .d (.int i)=>some i
 | _=>none
noncomputable def asB:W->Option Bool
 | .d (.bool b)=>some b
 | _=>none
noncomputable def asS:W->Option Str
 | .d (.str b)=>some b
 | _=>none
noncomputable def asD:W->Option Hi
 | .d x=>some x
 | _=>none
noncomputable def lstD:Hi->Option (List Hi)
 | .list xs=>some xs
 | _=>none
noncomputable def tupD:Hi->Option (List Hi)
 | .tuple xs=>some xs
 | _=>none
noncomputable def Gd(w:W):Option (List Hi):=w.dat.bind lstD
noncomputable def Ga(w:W):Option (List Hi):=(asD w).bind tupD
noncomputable def Gc(w:W):Option (List Hi):=w.dat.bind fR
noncomputable def EF:W->Option Int
 | .d (.int i)=>some i
 | .d (.bool b)=>some (if b then 1 else 0)
 | _=>none
noncomputable def isiT:W->Option String
 | .vv (.ty T)=>some T
 | _=>none
noncomputable def uw:List Hi->Option (List Bool)
 | []=>some []
 | .bool b::r=>(uw r).map (b :: ·)
 | _=>none
noncomputable def ig:List Hi->Option (List Int)
 | []=>some []
 | .int b::r=>(ig r).map (b :: ·)
 | _=>none
theorem blsD_map:∀bs:List Bool,uw (bs.map .bool)=some bs
 | []=>rfl
 | b::bs=>by show(uw (bs.map .bool)).map (b :: ·)=_;rw[blsD_map bs];rfl
theorem lw:∀{xs:List Hi}{bs:List Bool},uw xs=some bs->xs=bs.map .bool
 | [],bs,h=>by cases h;rfl
 | .bool b::r,bs,h=>by
   have h:(uw r).map (b :: ·)=some bs:=h
   cases q:uw r with
   | none=>rw[q]at h;cases h
   | some cs=>rw[q]at h;cases h;rw[lw q];rfl
 | .none::_,_,h=>by cases h
 | .int _::_,_,h=>by cases h
 | .str _::_,_,h=>by cases h
 | .list _::_,_,h=>by cases h
 | .tuple _::_,_,h=>by cases h
 | .dict _::_,_,h=>by cases h
theorem cL:∀bs:List Int,ig (bs.map .int)=some bs
 | []=>rfl
 | b::bs=>by show(ig (bs.map .int)).map (b :: ·)=_;rw[cL bs];rfl
theorem gf:∀{xs:List Hi}{bs:List Int},ig xs=some bs->xs=bs.map .int
 | [],bs,h=>by cases h;rfl
 | .int b::r,bs,h=>by
   have h:(ig r).map (b :: ·)=some bs:=h
   cases q:ig r with
   | none=>rw[q]at h;cases h
   | some cs=>rw[q]at h;cases h;rw[gf q];rfl
 | .none::_,_,h=>by cases h
 | .bool _::_,_,h=>by cases h
 | .str _::_,_,h=>by cases h
 | .list _::_,_,h=>by cases h
 | .tuple _::_,_,h=>by cases h
 | .dict _::_,_,h=>by cases h
theorem asI_d(i:Int):asI (.d (.int i))=some i:=rfl
theorem asB_d(i:Bool):asB (.d (.bool i))=some i:=rfl
theorem asS_d(i:Str):asS (.d (.str i))=some i:=rfl
theorem asD_d(i:Hi):asD (.d i)=some i:=rfl
theorem asT_d(x:Hi):Ga (.d x)=tupD x:=rfl
theorem asL_d(x:Hi):Gd (.d x)=lstD x:=rfl
theorem asL_ml(x:List Hi):Gd (.ml x)=some x:=rfl
theorem asL_pk(x:List Hi):Gd (.pk x)=some x:=rfl
theorem asQ_d(x:Hi):Gc (.d x)=fR x:=rfl
theorem asQ_ml(x:List Hi):Gc (.ml x)=some x:=rfl
theorem asQ_pk(x:List Hi):Gc (.pk x)=some x:=rfl
theorem lstD_l(x:List Hi):lstD (.list x)=some x:=rfl
theorem tupD_t(x:List Hi):tupD (.tuple x)=some x:=rfl
theorem toI_i(i:Int):EF (.d (.int i))=some i:=rfl
theorem toI_b(i:Bool):EF (.d (.bool i))=some (if i then 1 else 0):=rfl
theorem isiT_t(T:String):isiT (.vv (.ty T))=some T:=rfl
theorem c8{w:W}{i:Int}:asI w=some i↔w = .d (.int i):=by
 constructor
 · intro h;unfold asI at h;split at h<;>simp_all
 · rintro rfl;rfl
theorem gZ{w:W}{i:Bool}:asB w=some i↔w = .d (.bool i):=by
 constructor
 · intro h;unfold asB at h;split at h<;>simp_all
 · rintro rfl;rfl
theorem uy{w:W}{i:Str}:asS w=some i↔w = .d (.str i):=by
 constructor
 · intro h;unfold asS at h;split at h<;>simp_all
 · rintro rfl;rfl
theorem iD{w:W}{i:Hi}:asD w=some i↔w = .d i:=by
 constructor
 · intro h;unfold asD at h;split at h<;>simp_all
 · rintro rfl;rfl
theorem wo{w:W}{i:String}:isiT w=some i↔w = .vv (.ty i):=by
 constructor
 · intro h;unfold isiT at h;split at h<;>simp_all
 · rintro rfl;rfl
theorem wb{w:Hi}{i:List Hi}:lstD w=some i↔w = .list i:=by
 constructor
 · intro h;unfold lstD at h;split at h<;>simp_all
 · rintro rfl;rfl
theorem uX{w:Hi}{i:List Hi}:tupD w=some i↔w = .tuple i:=by
 constructor
 · intro h;unfold tupD at h;split at h<;>simp_all
 · rintro rfl;rfl
theorem mX{w:W}{i:List Hi}:Ga w=some i↔w = .d (.tuple i):=by
 constructor
 · intro h;unfold Ga at h
   cases q:asD w with
   | none=>rw[q]at h;cases h
   | some x=>rw[q]at h;rw[iD.mp q,uX.mp h]
 · rintro rfl;rfl
theorem iC{w:W}{i:List Hi}:Gd w=some i↔w.dat=some (.list i):=by
 unfold Gd;constructor
 · intro h
   cases q:w.dat with
   | none=>rw[q]at h;cases h
   | some x=>rw[q]at h;rw[wb.mp h]
 · intro h;rw[h];rfl
theorem ai{β:Type}{o:Option α}{k:α->Mo β}{Q:β->Prop}:aJ o k Q↔∃a,o=some a/\k a Q:=by
 cases o with
 | none=>exact⟨fun z=>z.elim,fun⟨_,z,_⟩=>by cases z⟩
 | some a=>exact⟨fun z=>⟨a,rfl,z⟩,fun⟨_,e,z⟩=>by cases e;exact z⟩
section
variable{fa fb fc:TV}{fs:Gi}{f g:TB}{ρ:En}{t u:Gj}
theorem m_vC(x:Hi):vC x ρ=ret (.d x):=nr rfl
theorem cF(i:Nat):gi i ρ=aJ ((ρ[i]?).join) fun w=>ret w.peek:=by
 refine ag fun Q=>?_;rw[ai];constructor
 · rintro⟨w,e,q⟩;exact⟨w,by rw[e];rfl,q⟩
 · rintro⟨w,e,q⟩;refine⟨w,?_,q⟩
   cases h:ρ[i]? with
   | none=>rw[h]at e;cases e
   | some o=>rw[h]at e;cases o with
     | none=>cases e
     | some x=>cases e;rfl
theorem m_vOp(h:W->W->(W->Prop)->Prop):Eu h fa fb ρ=FY (fa ρ) fun x=>FY (fb ρ) fun y=>h x y:=nr rfl
theorem m_gI(C:Int->Int->Prop)(h:Int->Int->Hi)(x y:W):gI C h x y=aJ (asI x) fun i=>aJ (asI y) fun j=>FO (C i j) (ret (.d (h i j))):=by
 refine ag fun Q=>?_;simp only[ai,c8,gI,FO,ret];exact⟨fun⟨i,j,a,b,c,q⟩=>⟨i,a,j,b,c,q⟩,fun⟨i,a,j,b,c,q⟩=>⟨i,j,a,b,c,q⟩⟩
theorem m_gI0(h:Int->Int->Hi)(x y:W):FT h x y=aJ (asI x) fun i=>aJ (asI y) fun j=>ret (.d (h i j)):=by
 refine ag fun Q=>?_;simp only[ai,c8,FT,ret];exact⟨fun⟨i,j,a,b,q⟩=>⟨i,a,j,b,q⟩,fun⟨i,a,j,b,q⟩=>⟨i,j,a,b,q⟩⟩
theorem m_vNeg:Av fa ρ=FY (fa ρ) fun x=>aJ (asI x) fun i=>ret (.d (.int (-i))):=by
 refine ag fun Q=>?_;simp only[Av,FY,ai,c8,ret]
theorem m_vTest{f:TV}:mZ f ρ=FY (f ρ) fun w=>aJ (asB w) ret:=by
 refine ag fun Q=>?_;simp only[mZ,FY,ai,gZ,ret]
theorem m_gEqD(neg:Bool)(x y:W):Bk neg x y=aJ x.dat fun dx=>aJ y.dat fun dy=>FO (IK dx=true) (FO (IK dy=true) (ret (.d (.bool (if neg then !IL dx dy else IL dx dy))))):=by
 refine ag fun Q=>?_;simp only[ai,Bk,FO,ret];exact⟨fun⟨i,j,a,b,c,d,q⟩=>⟨i,a,j,b,c,d,q⟩,fun⟨i,a,j,b,c,d,q⟩=>⟨i,j,a,b,c,d,q⟩⟩
theorem zN{w:W}{i:List Hi}:Gc w=some i↔(w.dat=some (.list i)\/w.dat=some (.tuple i)):=by
 unfold Gc;constructor
 · intro h
   cases q:w.dat with
   | none=>rw[q]at h;cases h
   | some x=>rw[q]at h;exact fR.of (o:=some x) rfl h
 · rintro(h|h)<;>rw[h]<;>rfl
theorem m_gInD(neg:Bool)(x y:W):Bj neg x y=aJ x.dat fun dx=>aJ (Gc y) fun ys=>FO (IK dx=true) (FO (IE ys=true) (ret (.d (.bool (if neg then !(ys.any fun z=>IL z dx)else ys.any fun z=>IL z dx))))):=by
 refine ag fun Q=>?_;simp only[ai,zN,Bj,FO,ret];exact⟨fun⟨i,j,a,b,c,d,q⟩=>⟨i,a,j,b,c,d,q⟩,fun⟨i,a,j,b,c,d,q⟩=>⟨i,j,a,b,c,d,q⟩⟩
theorem m_vAnd:zX f g ρ=FY (f ρ) fun b=>if b=true then g ρ else ret false:=by
 refine ag fun Q=>?_;simp only[zX,FY,fW,ret]
theorem m_vOr:Et f g ρ=FY (f ρ) fun b=>if b=true then ret true else g ρ:=by
 refine ag fun Q=>?_;simp only[Et,FY,fW,ret]
theorem m_vNot:Au f ρ=FY (f ρ) fun b=>ret (!b):=nr rfl
theorem m_vAndV:uU fa fb ρ=FY (fa ρ) fun w=>aJ (asB w) fun b=>if b=true then fb ρ else ret (.d (.bool false)):=by
 refine ag fun Q=>?_;simp only[uU,FY,ai,gZ,fW,ret]
theorem m_vOrV:At fa fb ρ=FY (fa ρ) fun w=>aJ (asB w) fun b=>if b=true then ret (.d (.bool true))else fb ρ:=by
 refine ag fun Q=>?_;simp only[At,FY,ai,gZ,fW,ret]
theorem m_vNotV:uS fa ρ=FY (fa ρ) fun w=>aJ (asB w) fun b=>ret (.d (.bool (!b))):=by
 refine ag fun Q=>?_;simp only[uS,FY,ai,gZ,ret]
theorem m_vIf{t:TB}:Ew t fa fb ρ=FY (t ρ) fun c=>if c=true then fa ρ else fb ρ:=by
 refine ag fun Q=>?_;simp only[Ew,FY,fW]
theorem m_vTup:zT fs ρ=FY (fs ρ) fun ws=>aJ (ji ws) fun ds=>FO (ds.length<=sizeLine) (ret (.d (.tuple ds))):=by
 refine ag fun Q=>?_;simp only[zT,FY,ai,FO,ret]
theorem m_vLst:Aw fs ρ=FY (fs ρ) fun ws=>aJ (ji ws) fun ds=>FO (ds.length<=sizeLine) (ret (.ml ds)):=by
 refine ag fun Q=>?_;simp only[Aw,FY,ai,FO,ret]
theorem m_gIx(x y:W):FR x y=aJ x.dat fun dx=>aJ (asI y) fun i=>aJ (itemAt dx i) fun z=>ret (.d z):=by
 refine ag fun Q=>?_;simp only[FR,ai,c8,ret];exact⟨fun⟨i,j,z,a,b,c,q⟩=>⟨i,a,j,b,z,c,q⟩,fun⟨i,a,j,b,z,c,q⟩=>⟨i,j,z,a,b,c,q⟩⟩
theorem m_vCall(h:List W->(W->Prop)->Prop):eA h fs ρ=FY (fs ρ) h:=nr rfl
theorem m_gAbs(w:W):Ae [w]=aJ (asI w) fun i=>ret (.d (.int (if i<0 then -i else i))):=by
 refine ag fun Q=>?_;simp only[Ae,ai,c8,ret,Ie,and_true]
theorem m_gLen(w:W):Ab [w]=aJ w.dat fun d=>aJ (lj d) fun n=>ret (.d (.int n)):=by
 refine ag fun Q=>?_;simp only[Ab,ai,ret,Ie,and_true];exact⟨fun⟨w',d,n,e,a,b,q⟩=>by subst e;exact⟨d,a,n,b,q⟩,fun⟨d,a,n,b,q⟩=>⟨w,d,n,rfl,a,b,q⟩⟩
theorem m_gRepr(w:W):zg [w]=aJ w.dat fun d=>FO (Gv d) (ret (.d (.str d.shown))):=by
 refine ag fun Q=>?_;simp only[zg,ai,ret,FO,Ie,and_true];exact⟨fun⟨w',d,e,a,b,q⟩=>by subst e;exact⟨d,a,b,q⟩,fun⟨d,a,b,q⟩=>⟨w,d,rfl,a,b,q⟩⟩
theorem m_gIsi(w v:W):C7 [w,v]=aJ w.dat fun d=>aJ (isiT v) fun T=>FO (CN T=true) (ret (.d (.bool (C4 d T)))):=by
 refine ag fun Q=>?_;simp only[C7,ai,wo,ret,FO,Ie,and_true];exact⟨fun⟨w',d,T,⟨e,e'⟩,a,b,q⟩=>by subst e;exact⟨d,a,T,e',b,q⟩,fun⟨d,a,T,e',b,q⟩=>⟨w,d,T,⟨rfl,e'⟩,a,b,q⟩⟩
theorem m_gStrI(w:W):ze [w]=aJ (asI w) fun i=>FO (i.natAbs.log2<1920) (ret (.d (.str (toString i)))):=by
 refine ag fun Q=>?_;simp only[ze,ai,c8,ret,FO,Ie,and_true]
theorem m_gTupO(w:W):qa [w]=aJ (Gc w) fun xs=>ret (.d (.tuple xs)):=by
 refine ag fun Q=>?_;simp only[qa,ai,ret,Ie,and_true];constructor
 · rintro⟨w',d,xs,e,a,b,q⟩;subst e;exact⟨xs,by unfold Gc;rw[a];exact b,q⟩
 · rintro⟨xs,e,q⟩;unfold Gc at e
   cases h:w.dat with
   | none=>rw[h]at e;cases e
   | some d=>rw[h]at e;exact⟨w,d,xs,rfl,h,e,q⟩
theorem m_gLstO(w:W):sQ [w]=aJ (Gc w) fun xs=>ret (.ml xs):=by
 refine ag fun Q=>?_;simp only[sQ,ai,ret,Ie,and_true];constructor
 · rintro⟨w',d,xs,e,a,b,q⟩;subst e;exact⟨xs,by unfold Gc;rw[a];exact b,q⟩
 · rintro⟨xs,e,q⟩;unfold Gc at e
   cases h:w.dat with
   | none=>rw[h]at e;cases e
   | some d=>rw[h]at e;exact⟨w,d,xs,rfl,h,e,q⟩
theorem m_gIsB(x y:W):C9 x y=aJ (asB x) fun i=>aJ (asB y) fun j=>ret (.d (.bool (i==j))):=by
 refine ag fun Q=>?_;simp only[ai,gZ,C9,ret];exact⟨fun⟨i,j,a,b,q⟩=>⟨i,a,j,b,q⟩,fun⟨i,a,j,b,q⟩=>⟨i,j,a,b,q⟩⟩
theorem m_gIsN(neg:Bool)(x:W):C8 neg x (.d .none)=aJ x.dat fun d=>ret (.d (.bool (if neg then !jT d else jT d))):=by
 refine ag fun Q=>?_;simp only[ai,C8,ret,true_and]
theorem m_gI2(h:Int->Int->Hi)(x y:W):FS h [x,y]=aJ (asI x) fun i=>aJ (asI y) fun j=>ret (.d (h i j)):=by
 refine ag fun Q=>?_;simp only[ai,c8,FS,ret,Ie,and_true];exact⟨fun⟨i,j,⟨a,b⟩,q⟩=>⟨i,a,j,b,q⟩,fun⟨i,a,j,b,q⟩=>⟨i,j,⟨a,b⟩,q⟩⟩
theorem m_gDivmod(x y:W):qb [x,y]=aJ (asI x) fun i=>aJ (asI y) fun j=>FO (0<j) (FO (j<1073741824) (ret (.d (.tuple [.int (i / j),.int (i%j)])))):=by
 refine ag fun Q=>?_;simp only[ai,c8,qb,FO,ret,Ie,and_true];exact⟨fun⟨i,j,⟨a,b⟩,c,d,q⟩=>⟨i,a,j,b,c,d,q⟩,fun⟨i,a,j,b,c,d,q⟩=>⟨i,j,⟨a,b⟩,c,d,q⟩⟩
theorem xU{w:W}{i:Int}:EF w=some i↔(w = .d (.int i)\/∃b:Bool,w = .d (.bool b)/\i=if b then 1 else 0):=by
 constructor
 · intro h;unfold EF at h;split at h
   · cases h;exact .inl rfl
   · cases h;exact .inr ⟨_,rfl,rfl⟩
   · cases h
 · rintro(rfl|⟨b,rfl,rfl⟩)<;>rfl
theorem m_gInt1(w:W):sR [w]=aJ (EF w) fun i=>ret (.d (.int i)):=by
 refine ag fun Q=>?_;simp only[ai,xU,sR,ret,Ie,and_true];constructor
 · rintro(⟨i,rfl,q⟩|⟨k,rfl,q⟩)
   · exact⟨i,.inl rfl,q⟩
   · exact⟨_,.inr ⟨k,rfl,rfl⟩,q⟩
 · rintro⟨i,rfl|⟨b,rfl,rfl⟩,q⟩
   · exact .inl ⟨i,rfl,q⟩
   · exact .inr ⟨b,rfl,q⟩
theorem m_oNo:Fg ρ=ret none:=nr rfl
theorem m_oIt:Fh fa ρ=FY (fa ρ) fun w=>aJ (asI w) fun i=>ret (some i):=by
 refine ag fun Q=>?_;simp only[Fh,FY,ai,c8,ret]
theorem m_vSlL{fl fh:Gk}:CH fa fl fh ρ=FY (fa ρ) fun w=>FY (fl ρ) fun l=>FY (fh ρ) fun h=>aJ (Gd w) fun xs=>ret (.ml (cutD xs l h)):=by
 refine ag fun Q=>?_;simp only[CH,FY,ai,iC,ret]
theorem m_vSlA{fl fh:Gk}:Ao fa fl fh ρ=FY (fa ρ) fun w=>FY (fl ρ) fun l=>FY (fh ρ) fun h=>aJ (Ga w) fun xs=>ret (.d (.tuple (cutD xs l h))):=by
 refine ag fun Q=>?_;simp only[Ao,FY,ai,mX,ret]
theorem m_gCatD(x y:W):sS x y=aJ (Gd x) fun xs=>aJ (Gd y) fun ys=>FO (xs.length+ys.length<=sizeLine) (ret (.ml (xs++ys))):=by
 refine ag fun Q=>?_;simp only[sS,ai,iC,FO,ret];exact⟨fun⟨i,j,a,b,c,q⟩=>⟨i,a,j,b,c,q⟩,fun⟨i,a,j,b,c,q⟩=>⟨i,j,a,b,c,q⟩⟩
theorem m_gCatA(x y:W):sT x y=aJ (Ga x) fun xs=>aJ (Ga y) fun ys=>FO (xs.length+ys.length<=sizeLine) (ret (.d (.tuple (xs++ys)))):=by
 refine ag fun Q=>?_;simp only[sT,ai,mX,FO,ret];exact⟨fun⟨i,j,a,b,c,q⟩=>⟨i,a,j,b,c,q⟩,fun⟨i,a,j,b,c,q⟩=>⟨i,j,a,b,c,q⟩⟩
theorem m_vChain(p p':Int->Int->Bool):xP p p' fa fb fc ρ=FY (fa ρ) fun x=>FY (fb ρ) fun y=>aJ (asI x) fun i=>aJ (asI y) fun j=>if p i j=true then FY (fc ρ) fun z=>aJ (asI z) fun k=>ret (.d (.bool (p' j k)))else ret (.d (.bool false)):=by
 show(FY (fa ρ) fun x=>FY (fb ρ) fun y=>fun(Q:W->Prop)=>∃i j,x = .d (.int i)/\y = .d (.int j)/\if p i j=true then fc ρ fun z=>∃k,z = .d (.int k)/\Q (.d (.bool (p' j k)))else Q (.d (.bool false)))=_;congr 1;funext x;congr 1;funext y;refine ag fun Q=>?_;simp only[FY,ai,c8,ret,fW];exact⟨fun⟨i,j,a,b,q⟩=>⟨i,a,j,b,q⟩,fun⟨i,a,j,b,q⟩=>⟨i,j,a,b,q⟩⟩
theorem m_vLR1:CK fs ρ=FY (fs ρ) fun ws=>aJ (ws.head?.bind asI) fun j=>FO (ws.length=1) (FO (-(2^62)<=j/\j<2^62) (FO (j.toNat<=2^24) (ret (.ml (bB 0 j.toNat))))):=by
 show(FY (fs ρ) fun ws=>fun(Q:W->Prop)=>∃j:Int,ws=[.d (.int j)]/\(-(2^62)<=j/\j<2^62)/\j.toNat<=2^24/\Q (.ml (bB 0 j.toNat)))=_;congr 1;funext ws;refine ag fun Q=>?_;simp only[ai,FO,ret];constructor
 · rintro⟨j,rfl,a,b,q⟩;exact⟨j,rfl,rfl,a,b,q⟩
 · rintro⟨j,e,l,a,b,q⟩
   match ws,l with
   | [w],_=>rw[show w = .d (.int j)from c8.mp e];exact⟨j,rfl,a,b,q⟩
theorem m_vTR1:Dk fs ρ=FY (fs ρ) fun ws=>aJ (ws.head?.bind asI) fun j=>FO (ws.length=1) (FO (-(2^62)<=j/\j<2^62) (FO (j.toNat<=2^24) (ret (.d (.tuple (bB 0 j.toNat)))))):=by
 show(FY (fs ρ) fun ws=>fun(Q:W->Prop)=>∃j:Int,ws=[.d (.int j)]/\(-(2^62)<=j/\j<2^62)/\j.toNat<=2^24/\Q (.d (.tuple (bB 0 j.toNat))))=_;congr 1;funext ws;refine ag fun Q=>?_;simp only[ai,FO,ret];constructor
 · rintro⟨j,rfl,a,b,q⟩;exact⟨j,rfl,rfl,a,b,q⟩
 · rintro⟨j,e,l,a,b,q⟩
   match ws,l with
   | [w],_=>rw[show w = .d (.int j)from c8.mp e];exact⟨j,rfl,a,b,q⟩
noncomputable def two(ws:List W):Option (Int×Int):=match ws with
 | [a,b]=>(asI a).bind fun i=>(asI b).map fun j=>(i,j)
 | _=>none
theorem two_d(a b:Int):two [.d (.int a),.d (.int b)]=some (a,b):=rfl
theorem tP{ws:List W}{p:Int×Int}:two ws=some p↔ws=[.d (.int p.1),.d (.int p.2)]:=by
 constructor
 · intro h
   match ws with
   | []=>cases h
   | [_]=>cases h
   | _::_::_::_=>cases h
   | [a,b] =>
     have h:((asI a).bind fun i=>(asI b).map fun j=>(i,j))=some p:=h
     cases ha:asI a with
     | none=>rw[ha]at h;cases h
     | some i =>
       cases hb:asI b with
       | none=>rw[ha,hb]at h;cases h
       | some j=>rw[ha,hb]at h;cases h;rw[c8.mp ha,c8.mp hb]
 · rintro rfl;rfl
theorem m_vLR2:Dl fs ρ=FY (fs ρ) fun ws=>aJ (two ws) fun p=>FO (-(2^62)<=p.1/\p.1<2^62 /\ -(2^62)<=p.2/\p.2<2^62) (FO ((p.2-p.1).toNat<=2^24) (ret (.ml (bB p.1 (p.2-p.1).toNat)))):=by
 show(FY (fs ρ) fun ws=>fun(Q:W->Prop)=>∃i j:Int,ws=[.d (.int i),.d (.int j)]/\(-(2^62)<=i/\i<2^62 /\ -(2^62)<=j/\j<2^62)/\(j-i).toNat<=2^24/\Q (.ml (bB i (j-i).toNat)))=_;congr 1;funext ws;refine ag fun Q=>?_;simp only[ai,tP,FO,ret];exact⟨fun⟨i,j,a,b,c,q⟩=>⟨(i,j),a,b,c,q⟩,fun⟨p,a,b,c,q⟩=>⟨p.1,p.2,a,b,c,q⟩⟩
theorem m_iL:iL fa ρ=FY (fa ρ) fun w=>aJ ((asD w.fz).bind lstD) ret:=by
 show(FY (fa ρ) fun w=>fun(Q:List Hi->Prop)=>∃xs,w.fz = .d (.list xs)/\Q xs)=_;congr 1;funext w;refine ag fun Q=>?_;simp only[ai,ret];constructor
 · rintro⟨xs,e,q⟩;exact⟨xs,by rw[e];rfl,q⟩
 · rintro⟨xs,e,q⟩
   cases h:asD w.fz with
   | none=>rw[h]at e;cases e
   | some x=>rw[h]at e;rw[iD.mp h,wb.mp e];exact⟨xs,rfl,q⟩
theorem m_iT:iT fa ρ=FY (fa ρ) fun w=>aJ ((asD w.fz).bind tupD) ret:=by
 show(FY (fa ρ) fun w=>fun(Q:List Hi->Prop)=>∃xs,w.fz = .d (.tuple xs)/\Q xs)=_;congr 1;funext w;refine ag fun Q=>?_;simp only[ai,ret];constructor
 · rintro⟨xs,e,q⟩;exact⟨xs,by rw[e];rfl,q⟩
 · rintro⟨xs,e,q⟩
   cases h:asD w.fz with
   | none=>rw[h]at e;cases e
   | some x=>rw[h]at e;rw[iD.mp h,uX.mp e];exact⟨xs,rfl,q⟩
theorem m_iR1:FN fs ρ=FY (fs ρ) fun ws=>aJ (ws.head?.bind asI) fun j=>FO (ws.length=1) (FO (-(2^62)<=j/\j<2^62) (ret (bB 0 j.toNat))):=by
 show(FY (fs ρ) fun ws=>fun(Q:List Hi->Prop)=>∃j:Int,ws=[.d (.int j)]/\(-(2^62)<=j/\j<2^62)/\Q (bB 0 j.toNat))=_;congr 1;funext ws;refine ag fun Q=>?_;simp only[ai,FO,ret];constructor
 · rintro⟨j,rfl,a,q⟩;exact⟨j,rfl,rfl,a,q⟩
 · rintro⟨j,e,l,a,q⟩
   match ws,l with
   | [w],_=>rw[show w = .d (.int j)from c8.mp e];exact⟨j,rfl,a,q⟩
theorem m_iR2:FM fs ρ=FY (fs ρ) fun ws=>aJ (two ws) fun p=>FO (-(2^62)<=p.1/\p.1<2^62 /\ -(2^62)<=p.2/\p.2<2^62) (ret (bB p.1 (p.2-p.1).toNat)):=by
 show(FY (fs ρ) fun ws=>fun(Q:List Hi->Prop)=>∃i j:Int,ws=[.d (.int i),.d (.int j)]/\(-(2^62)<=i/\i<2^62 /\ -(2^62)<=j/\j<2^62)/\Q (bB i (j-i).toNat))=_;congr 1;funext ws;refine ag fun Q=>?_;simp only[ai,tP,FO,ret];exact⟨fun⟨i,j,a,b,q⟩=>⟨(i,j),a,b,q⟩,fun⟨p,a,b,q⟩=>⟨p.1,p.2,a,b,q⟩⟩
noncomputable def Aj(b1 b2:Bool)(ws:List W):Option (List Hi):=match ws with
 | [.d x,.d y]=>if dM x=b1/\dM y=b2 then(fR x).bind fun xs=>(fR y).map fun ys=>ki xs ys else none
 | _=>none
theorem m_iZb(b1 b2:Bool):FK b1 b2 fs ρ=FY (fs ρ) fun ws=>aJ (Aj b1 b2 ws) ret:=by
 show(FY (fs ρ) fun ws=>fun(Q:List Hi->Prop)=>∃dx dy xs ys,ws=[.d dx,.d dy]/\fR dx=some xs/\fR dy=some ys/\dM dx=b1/\dM dy=b2/\Q (ki xs ys))=_;congr 1;funext ws;refine ag fun Q=>?_;simp only[ai,ret];constructor
 · rintro⟨dx,dy,xs,ys,rfl,a,b,c,d,q⟩;exact⟨_,by show(if dM dx=b1/\dM dy=b2 then(fR dx).bind fun xs=>(fR dy).map fun ys=>ki xs ys else none)=_;rw[if_pos ⟨c,d⟩,a,b];rfl,q⟩
 · rintro⟨zs,e,q⟩;unfold Aj at e;split at e
   · rename_i dx dy;split at e
     · rename_i c
       cases ha:fR dx with
       | none=>rw[ha]at e;cases e
       | some xs =>
         cases hb:fR dy with
         | none=>rw[ha,hb]at e;cases e
         | some ys=>rw[ha,hb]at e;cases e;exact⟨dx,dy,xs,ys,rfl,ha,hb,c.1,c.2,q⟩
     · cases e
   · cases e
theorem m_vUse(Pd:List W->(Hi->Prop)->Prop):zS Pd fs ρ=FY (fs ρ) fun ws=>FO (ws.all dZ=true) (FY (Pd ws) fun d=>ret (.d d)):=nr rfl
theorem m_vUseL(Pd:List W->(List Hi->Prop)->Prop):Am Pd fs ρ=FY (fs ρ) fun ws=>FO (ws.all dZ=true) (FY (Pd ws) fun d=>ret (.ml d)):=nr rfl
theorem m_gAll(h:List Bool->Bool)(w:W):Ad h [w]=aJ ((Gd w).bind uw) fun bs=>ret (.d (.bool (h bs))):=by
 refine ag fun Q=>?_;simp only[Ad,ai,ret,Ie,and_true];constructor
 · rintro⟨w',bs,rfl,e,q⟩;exact⟨bs,by rw[iC.mpr e];exact blsD_map bs,q⟩
 · rintro⟨bs,e,q⟩
   cases hl:Gd w with
   | none=>rw[hl]at e;cases e
   | some xs=>rw[hl]at e;refine⟨w,bs,rfl,?_,q⟩;rw[<- lw e];exact iC.mp hl
theorem m_gRepT(x y:W):sP x y=aJ (Ga x) fun xs=>aJ (asI y) fun k=>FO (xs≠[]/\1<=k/\k<2^62/\xs.length*k.toNat<=sizeLine) (ret (.d (.tuple (HB k.toNat xs).flatten))):=by
 refine ag fun Q=>?_;simp only[sP,ai,mX,c8,FO,ret];exact⟨fun⟨i,j,a,b,c,d,e,f,q⟩=>⟨i,a,j,b,⟨c,d,e,f⟩,q⟩,fun⟨i,a,j,b,⟨c,d,e,f⟩,q⟩=>⟨i,j,a,b,c,d,e,f,q⟩⟩
theorem m_gRepL(x y:W):zh x y=aJ (Gd x) fun xs=>aJ (asI y) fun k=>FO (-(2^63)<=k/\k<2^63/\xs.length*k.toNat<=sizeLine) (ret (.ml (HB k.toNat xs).flatten)):=by
 refine ag fun Q=>?_;simp only[zh,ai,iC,c8,FO,ret];exact⟨fun⟨i,j,a,b,c,d,e,q⟩=>⟨i,a,j,b,⟨c,d,e⟩,q⟩,fun⟨i,a,j,b,⟨c,d,e⟩,q⟩=>⟨i,j,a,b,c,d,e,q⟩⟩
theorem m_vRevT:uR fa ρ=FY (fa ρ) fun w=>aJ (Ga w) fun xs=>ret (.d (.tuple xs.reverse)):=by
 refine ag fun Q=>?_;simp only[uR,FY,ai,mX,ret]
theorem m_vRevL:xI fa ρ=FY (fa ρ) fun w=>aJ (Gd w) fun xs=>ret (.ml xs.reverse):=by
 refine ag fun Q=>?_;simp only[xI,FY,ai,iC,ret]
theorem m_gEqS(neg:Bool)(x y:W):Ac neg x y=aJ (asS x) fun i=>aJ (asS y) fun j=>ret (.d (.bool (if neg then !decide (i=j)else decide (i=j)))):=by
 refine ag fun Q=>?_;simp only[ai,uy,Ac,ret];exact⟨fun⟨i,j,a,b,q⟩=>⟨i,a,j,b,q⟩,fun⟨i,a,j,b,q⟩=>⟨i,j,a,b,q⟩⟩
theorem m_vTGet(D:List (Str×Int)):xH D fa ρ=FY (fa ρ) fun w=>aJ (asS w) fun k=>ret (.d (xX D k)):=by
 refine ag fun Q=>?_;simp only[xH,FY,ai,uy,ret]
noncomputable def Dc(w:W):Option (List Int):=(Ga w).bind ig
theorem m_gSrtT(w:W):zf [w]=aJ (Dc w) fun ns=>FO (ns.length<64) (FY (anyM fun ns':List Int=>ns'.Perm ns/\ns'.Pairwise (· <= ·)) fun ns'=>ret (.ml (ns'.map .int))):=by
 refine ag fun Q=>?_;simp only[zf,ai,ret,FO,FY,anyM,Ie,and_true];constructor
 · rintro⟨ns,rfl,a,q⟩;exact⟨ns,cL ns,a,fun n' ⟨h1,h2⟩=>q n' h1 h2⟩
 · rintro⟨ns,e,a,q⟩;unfold Dc at e
   cases hl:Ga w with
   | none=>rw[hl]at e;cases e
   | some xs=>rw[hl]at e;exact⟨ns,by rw[mX.mp hl,<- gf e],a,fun n' h1 h2=>q n' ⟨h1,h2⟩⟩
end
inductive Fl where
 | nx (ρ:En)|rt (w:W)|bk (ρ:En)|ct (ρ:En)
noncomputable def mS(t:Gj)(ρ:En):Mo Fl:=fun Q=>t ⟨fun ρ=>Q (.nx ρ),fun w=>Q (.rt w),fun ρ=>Q (.bk ρ),fun ρ=>Q (.ct ρ)⟩ ρ
noncomputable def sq(m:Mo Fl)(k:En->Mo Fl):Mo Fl:=FY m fun fl=>match fl with
 | .nx ρ=>k ρ
 | .rt w=>ret (.rt w)
 | .bk ρ=>ret (.bk ρ)
 | .ct ρ=>ret (.ct ρ)
noncomputable def zt(Q:Hi->Prop):Fl->Prop
 | .nx _=>Q .none
 | .rt w=>∃d,w.fz = .d d/\Q d
 | _=>False
section
variable{fa fb fc:TV}{fs:Gi}{f g:TB}{ρ:En}{t u:Gj}{k:En->Mo Fl}
theorem aE{Q:Hi->Prop}(h:mS t ρ (zt Q)):t (m7 Q) ρ:=h
theorem end_d(Q:Hi->Prop)(d:Hi):zt Q (.rt (.d d))=Q d:=propext ⟨fun⟨_,e,q⟩=>by cases e;exact q,fun q=>⟨d,rfl,q⟩⟩
theorem end_ml(Q:Hi->Prop)(d:List Hi):zt Q (.rt (.ml d))=Q (.list d):=propext ⟨fun⟨_,e,q⟩=>by cases e;exact q,fun q=>⟨_,rfl,q⟩⟩
theorem end_nx(Q:Hi->Prop)(ρ:En):zt Q (.nx ρ)=Q .none:=nr rfl
theorem sq_nx:sq (ret (.nx ρ)) k=k ρ:=nr rfl
theorem sq_rt(w:W):sq (ret (.rt w)) k=ret (.rt w):=nr rfl
theorem sq_bk:sq (ret (.bk ρ)) k=ret (.bk ρ):=nr rfl
theorem sq_ct:sq (ret (.ct ρ)) k=ret (.ct ρ):=nr rfl
theorem sq_grd(P:Prop)(m:Mo Fl):sq (FO P m) k=FO P (sq m k):=nr rfl
theorem sq_stk:sq stk k=stk:=nr rfl
theorem sq_ite(c:Prop)[Decidable c](a b:Mo Fl):sq (if c then a else b) k=if c then sq a k else sq b k:=by split<;>rfl
theorem x_(o:Option α)(h:α->Mo Fl):sq (aJ o h) k=aJ o fun a=>sq (h a) k:=by cases o<;>rfl
theorem s_next:mS uT ρ=ret (.nx ρ):=nr rfl
theorem s_seq:mS (zU t u) ρ=sq (mS t ρ) (mS u):=by
 refine ag fun Q=>?_;show t ⟨fun ρ=>u ⟨_,_,_,_⟩ ρ,_,_,_⟩ ρ↔_;exact K7
theorem s_drop:mS (Ay fa) ρ=FY (fa ρ) fun _=>ret (.nx ρ):=nr rfl
theorem s_ret:mS (Ar fa) ρ=FY (fa ρ) fun w=>ret (.rt w):=nr rfl
theorem s_retN:mS Aq ρ=ret (.rt (.d .none)):=nr rfl
theorem s_ifS:mS (zV f t u) ρ=FY (f ρ) fun b=>if b=true then mS t ρ else mS u ρ:=by
 refine ag fun Q=>?_;simp only[mS,zV,FY,fW]
theorem s_set(i:Nat):mS (Ap i fa) ρ=FY (fa ρ) fun w=>FO (w.isPk=false) (ret (.nx (ρ.set i (some w)))):=nr rfl
theorem s_never:mS (fun _ _=>False) ρ=stk:=nr rfl
theorem m_hName(i:Nat)(x:Hi):zc i x ρ=ret (ρ.set i (some (.d x))):=nr rfl
theorem yT(xs:List Hi):Bh xs ρ=FO (xs=[]) (ret ρ):=nr rfl
theorem v_{g:Gn}{gs:nS}(xs:List Hi):sM g gs xs ρ=aJ (match xs with | []=>none|y::r=>some (y,r)) fun p=>FY (g p.1 ρ) fun ρ'=>gs p.2 ρ':=by
 refine ag fun Q=>?_;simp only[ai,sM,FY];constructor
 · rintro⟨y,r,rfl,q⟩;exact⟨(y,r),rfl,q⟩
 · rintro⟨p,e,q⟩
   cases xs with
   | nil=>cases e
   | cons y r=>cases e;exact⟨y,r,rfl,q⟩
theorem m_hCons_c{g:Gn}{gs:nS}(y:Hi)(r:List Hi):sM g gs (y::r) ρ=FY (g y ρ) fun ρ'=>gs r ρ':=by rw[v_];rfl
theorem m_hNil_n:Bh [] ρ=ret ρ:=by rw[yT,ah rfl]
theorem m_hTup(n:Nat){gs:nS}(x:Hi):Bg n gs x ρ=aJ (tupD x) fun xs=>FO (xs.length=n) (gs xs ρ):=by
 refine ag fun Q=>?_;simp only[ai,uX,Bg,FO]
theorem s_asg{g:Gn}:mS (AA fa g) ρ=FY (fa ρ) fun w=>aJ (asD w) fun x=>FY (g x ρ) fun ρ'=>ret (.nx ρ'):=by
 refine ag fun Q=>?_;simp only[mS,AA,FY,ai,iD,ret]
theorem s_par(i j:Nat):mS (CJ i j fs) ρ=FY (fs ρ) fun ws=>aJ (ji ws) fun ds=>aJ (match ds with | [x,y]=>some (x,y)|_=>none) fun p=>ret (.nx ((ρ.set i (some (.d p.1))).set j (some (.d p.2)))):=by
 show(FY (fs ρ) fun ws=>fun(Q:Fl->Prop)=>∃x y,ji ws=some [x,y]/\Q (.nx ((ρ.set i (some (.d x))).set j (some (.d y)))))=_;congr 1;funext ws;refine ag fun Q=>?_;simp only[ai,ret];constructor
 · rintro⟨x,y,e,q⟩;exact⟨_,e,(x,y),rfl,q⟩
 · rintro⟨ds,e,p,e2,q⟩;split at e2
   · cases e2;exact⟨_,_,e,q⟩
   · cases e2
theorem s_par3(i j l:Nat):mS (As i j l fs) ρ=FY (fs ρ) fun ws=>aJ (ji ws) fun ds=>aJ (match ds with | [x,y,z]=>some (x,y,z)|_=>none) fun p=>ret (.nx (((ρ.set i (some (.d p.1))).set j (some (.d p.2.1))).set l (some (.d p.2.2)))):=by
 show(FY (fs ρ) fun ws=>fun(Q:Fl->Prop)=>∃x y z,ji ws=some [x,y,z]/\Q (.nx (((ρ.set i (some (.d x))).set j (some (.d y))).set l (some (.d z)))))=_;congr 1;funext ws;refine ag fun Q=>?_;simp only[ai,ret];constructor
 · rintro⟨x,y,z,e,q⟩;exact⟨_,e,(x,y,z),rfl,q⟩
 · rintro⟨ds,e,p,e2,q⟩;split at e2
   · cases e2;exact⟨_,_,_,e,q⟩
   · cases e2
noncomputable def EZ(ρ:En)(i:Nat):Option Int:=((ρ[i]?).join).bind asI
noncomputable def asM:W->Option (List Hi)
 | .ml xs=>some xs
 | _=>none
noncomputable def EY(ρ:En)(i:Nat):Option (List Hi):=((ρ[i]?).join).bind asM
theorem asM_ml(xs:List Hi):asM (.ml xs)=some xs:=rfl
theorem Db{w:W}:asM w=some xs↔w = .ml xs:=by
 constructor
 · intro h;unfold asM at h;split at h<;>simp_all
 · rintro rfl;rfl
theorem jA:EY ρ i=some xs↔ρ[i]?=some (some (.ml xs)):=by
 unfold EY;constructor
 · intro h
   cases q:ρ[i]? with
   | none=>rw[q]at h;cases h
   | some o=>rw[q]at h;cases o with
     | none=>cases h
     | some w=>rw[Db.mp h]
 · intro h;rw[h];rfl
theorem yd{n:Int}:EZ ρ i=some n↔ρ[i]?=some (some (.d (.int n))):=by
 unfold EZ;constructor
 · intro h
   cases q:ρ[i]? with
   | none=>rw[q]at h;cases h
   | some o=>rw[q]at h;cases o with
     | none=>cases h
     | some w=>rw[c8.mp h]
 · intro h;rw[h];rfl
theorem s_aug(i:Nat)(C:Int->Int->Prop)(h:Int->Int->Int):mS (Az i C h fa) ρ=aJ (EZ ρ i) fun n=>FY (fa ρ) fun w=>aJ (asI w) fun m=>FO (C n m) (ret (.nx (ρ.set i (some (.d (.int (h n m))))))):=by
 refine ag fun Q=>?_;simp only[mS,Az,FY,ai,yd,c8,FO,ret]
theorem s_augL(i:Nat):mS (xR i fa) ρ=aJ (EY ρ i) fun xs=>FY (fa ρ) fun w=>aJ (Gd w) fun ys=>FO (w.isPk=false) (FO (xs.length+ys.length<=sizeLine) (ret (.nx (ρ.set i (some (.ml (xs++ys))))))):=by
 refine ag fun Q=>?_;simp only[mS,xR,ai,jA];refine exists_congr fun xs=>and_congr_right fun _=>?_;show(fa ρ fun w=>∃ys,w.isPk=false/\w.dat=some (.list ys)/\_/\_)↔(fa ρ fun w=>_)
 have:(fun w:W=>∃ys,w.isPk=false/\w.dat=some (.list ys)/\xs.length+ys.length<=sizeLine/\Q (.nx (ρ.set i (some (.ml (xs++ys))))))=fun w=>(aJ (Gd w) fun ys=>FO (w.isPk=false) (FO (xs.length+ys.length<=sizeLine) (ret (.nx (ρ.set i (some (.ml (xs++ys)))))))) Q:=by
  funext w;refine propext ?_;rw[ai];simp only[iC,FO,ret];exact⟨fun⟨ys,a,b,c,d⟩=>⟨ys,b,a,c,d⟩,fun⟨ys,b,a,c,d⟩=>⟨ys,a,b,c,d⟩⟩
 rw[this]
theorem s_frz(i:Nat):mS (Ax i t) ρ=aJ (EY ρ i) fun xs=>mS t (ρ.set i (some (.d (.list xs)))):=by
 refine ag fun Q=>?_;simp only[mS,Ax,ai,jA]
theorem s_mut(i:Nat)(h:List Hi->List W->(List Hi->Prop)->Prop):mS (wT i h fs) ρ=aJ (EY ρ i) fun xs=>FY (fs ρ) fun ws=>FY (h xs ws) fun ys=>ret (.nx (ρ.set i (some (.ml ys)))):=by
 refine ag fun Q=>?_;simp only[mS,wT,FY,ai,jA,ret]
theorem m_gApp(xs:List Hi)(w:W):zk xs [w]=aJ (asD w) fun x=>FO (xs.length<sizeLine) (ret (xs++[x])):=by
 refine ag fun Q=>?_;simp only[zk,ai,iD,FO,ret];constructor
 · rintro⟨x,e,a,q⟩;cases w<;>first|(cases e;exact⟨_,rfl,a,q⟩)|cases e
 · rintro⟨x,rfl,a,q⟩;exact⟨x,rfl,a,q⟩
theorem m_gExt(xs:List Hi)(w:W):C_ xs [w]=aJ ((asD w).bind lstD) fun ys=>FO (xs.length+ys.length<=sizeLine) (ret (xs++ys)):=by
 refine ag fun Q=>?_;simp only[C_,ai,FO,ret];constructor
 · rintro⟨x,e,a,q⟩;cases w<;>first|(cases e;exact⟨_,rfl,a,q⟩)|cases e
 · rintro⟨x,e,a,q⟩
   cases h:asD w with
   | none=>rw[h]at e;cases e
   | some d=>rw[h]at e;rw[iD.mp h,wb.mp e];exact⟨x,rfl,a,q⟩
theorem s_retO(i:Nat):mS (xJ i) ρ=aJ (EY ρ i) fun xs=>ret (.rt (.ml xs)):=by
 refine ag fun Q=>?_;simp only[mS,xJ,ai,jA,ret]
theorem s_appPop(i j:Nat):mS (ox i j fa) ρ=aJ (EY ρ i) fun xs=>aJ (EY ρ j) fun ys=>FY (fa ρ) fun w=>aJ (asI w) fun k=>FO (0<=k/\k<(ys.length:Int)/\ys.length<2^62) (aJ (ys[k.toNat]?) fun y=>FO (xs.length<sizeLine) (ret (.nx ((ρ.set j (some (.ml (ys.eraseIdx k.toNat)))).set i (some (.ml (xs++[y]))))))):=by
 refine ag fun Q=>?_;simp only[mS,ox,ai,jA]
 have:∀xs ys:List Hi,(fun w:W=>∃k y,w = .d (.int k)/\0<=k/\k<(ys.length:Int)/\ys.length<2^62/\ys[k.toNat]?=some y/\xs.length<sizeLine/\Q (.nx ((ρ.set j (some (.ml (ys.eraseIdx k.toNat)))).set i (some (.ml (xs++[y]))))))=fun w=>(aJ (asI w) fun k=>FO (0<=k/\k<(ys.length:Int)/\ys.length<2^62) (aJ (ys[k.toNat]?) fun y=>FO (xs.length<sizeLine) (ret (.nx ((ρ.set j (some (.ml (ys.eraseIdx k.toNat)))).set i (some (.ml (xs++[y])))))))) Q:=by
  intro xs ys;funext w;refine propext ?_;simp only[ai,c8,FO,ret];exact⟨fun⟨k,y,a,b,c,d,e,f,q⟩=>⟨k,a,⟨b,c,d⟩,y,e,f,q⟩,fun⟨k,a,⟨b,c,d⟩,y,e,f,q⟩=>⟨k,y,a,b,c,d,e,f,q⟩⟩
 constructor
 · rintro⟨xs,ys,e1,e2,q⟩;refine⟨xs,e1,ys,e2,?_⟩;rw[this]at q;exact q
 · rintro⟨xs,e1,ys,e2,q⟩;refine⟨xs,ys,e1,e2,?_⟩;rw[this];exact q
end
noncomputable def Le(a b:En):Prop:=a.length=b.length/\∀(i:Nat) w,a[i]?=some (some w)->b[i]?=some (some w)
theorem Le.refl(a:En):Le a a:=⟨rfl,fun _ _ h=>h⟩
theorem Le.trans{a b c:En}(h:Le a b)(h':Le b c):Le a c:=⟨h.1.trans h'.1,fun i w e=>h'.2 i w (h.2 i w e)⟩
theorem le_nil:Le [] []=True:=propext ⟨fun _=>trivial,fun _=>Le.refl _⟩
theorem le_cn(x:Option W)(a b:En):Le (none::a) (x::b)=Le a b:=by
 refine propext ⟨fun h=>⟨by have:=h.1;simpa using this,fun i w e=>by have:=h.2 (i+1) w (by simpa using e);simpa using this⟩,fun h=>⟨by simp[h.1],fun i w e=>?_⟩⟩
 cases i with
 | zero=>simp at e
 | succ i=>simpa using h.2 i w (by simpa using e)
theorem le_cs(x:Option W)(a b:En):Le (x::a) (x::b)=Le a b:=by
 refine propext ⟨fun h=>⟨by have:=h.1;simpa using this,fun i w e=>by have:=h.2 (i+1) w (by simpa using e);simpa using this⟩,fun h=>⟨by simp[h.1],fun i w e=>?_⟩⟩
 cases i with
 | zero=>simpa using e
 | succ i=>simpa using h.2 i w (by simpa using e)
theorem VR.le{K:W.Frag}{ρ0:En}(R:VR K rl F₀ H₀ F H σ ρ)(h:Le ρ0 ρ):VR K rl F₀ H₀ F H σ ρ0 :=
 ⟨R.g,fun i w e=>R.sl i w (h.2 i w e),fun i j x y v n e1 e2=>R.ap i j x y v n (h.2 i x e1) (h.2 j y e2),fun i xs e=>R.np i xs (h.2 i _ e),h.1.trans R.len⟩
noncomputable def fo:List Nat->En->En
 | [],ρ=>ρ
 | i::l,ρ=>fo l (ρ.set i none)
theorem yX(ρ:En)(i:Nat):Le (ρ.set i none) ρ:=by
 refine⟨by simp,fun j w e=>?_⟩;rw[IW]at e;split at e
 · split at e
   · cases e
   · cases e
 · exact e
theorem fM:∀(l:List Nat)(ρ:En),Le (fo l ρ) ρ
 | [],ρ=>Le.refl ρ
 | i::l,ρ=>(fM l (ρ.set i none)).trans (yX ρ i)
theorem fo_nil(ρ:En):fo [] ρ=ρ:=rfl
theorem fo_cons(i:Nat)(l:List Nat)(ρ:En):fo (i::l) ρ=fo l (ρ.set i none):=rfl
noncomputable def cX(fl:List Nat)(g:Gn)(t:Gj):List Hi->Gj
 | [],D,ρ=>D.nx ρ
 | x::xs,D,ρ=>g x ρ fun ρ2=>t {D with nx:=fun ρ'=>cX fl g t xs D (fo fl ρ'),ct:=fun ρ'=>cX fl g t xs D (fo fl ρ'),bk:=fun ρ'=>D.nx (fo fl ρ')} ρ2
noncomputable def xN(fl:List Nat)(fi:En->(List Hi->Prop)->Prop)(g:Gn)(t:Gj):Gj:=fun D ρ=>fi ρ fun xs=>cX fl g t xs D (fo fl ρ)
section
variable{X:Cx}{rl:RlT}{st:Stmt}{rest body:List Stmt}{t u:Gj}{a b c e:Expr}{es:List Expr}{fa fb:TV}{fs:Gi}{f:TB}{pos p:Pos}
theorem cx(fl:List Nat){g:Gn}(hp:Nw (Ib X.prog X.w) X.A X.env X.xe)(hc:X.calm=true)(hi:GG X rl tg iter fi)(hg:GJ X rl tg g)(hb:mY X rl body t)
 (hs:autoParam (∀x,Ig iter X.env x=pure x) æc._auto_1):GD X rl (.For tg iter body [] pos) (xN fl fi g t):=by
 obtain⟨wi,p0,k0⟩:=hi;obtain⟨G,p1,k1⟩:=hg;obtain⟨T,p2,k2⟩:=hb;refine⟨_,ub hp hc p0 p1 p2 hs,fun{F₀ H₀ F H σ ρ} R Dv D ok q=>k0 R _ _ q fun J xs F1 H1 g1 vi q1=>?_⟩;refine⟨fun i m σ H=>m=xs.length-i/\i<=xs.length/\∃F ρ,bU F1 F/\VR X.K rl F₀ H₀ F H σ ρ/\cX fl g t (xs.drop i) Dv ρ,⟨xs.length,by simp,II _,F1,fo fl ρ,.refl _,(R.grow g1).le (fM fl ρ),by simpa using q1⟩,?_⟩;rintro i m σ H ⟨rfl,hi,F2,ρ2,s2,R2,j2⟩;have sH:bU F1 H:=s2.trans R2.sub;by_cases hlt:i<xs.length
 · have ei:xs[i]?=some xs[i]:=by simp[hlt]
   rw[IT hlt]at j2;refine .inr ⟨vi.go i H _ ei sH,fun σ' H'=>∃F ρ,bU F1 F/\VR X.K rl F₀ H₀ F H' σ' ρ/\cX fl g t (xs.drop (i+1)) Dv ρ,fun σ' H' z=>⟨xs.length-(i+1),by omega,rfl,hlt,z⟩,fun v H' y=>?_⟩;obtain⟨Fy,gy,rv⟩:=vi.yld i H v H' _ F2 ei s2 R2.sub R2.reel y;refine k1 (R2.grow gy) v _ _ _ rv j2 fun F3 H3 σ3 ρ3 s3 n3 R3 q3=>?_;have s13:bU F1 F3:=s2.trans (gy.fs.trans s3.fs)
   exact k2 R3 {Dv with nx:=fun ρ'=>cX fl g t (xs.drop (i+1)) Dv (fo fl ρ'),ct:=fun ρ'=>cX fl g t (xs.drop (i+1)) Dv (fo fl ρ'),bk:=fun ρ'=>Dv.nx (fo fl ρ')} _
    ⟨fun F4 H4 σ4 ρ4 s4 R4 q4=>⟨F4,fo fl ρ4,s13.trans s4,R4.le (fM fl ρ4),q4⟩,ok.rt,fun F4 H4 σ4 ρ4 s4 R4 q4=>ok.nx _ _ _ _ (g1.fs.trans (s13.trans s4)) (R4.le (fM fl ρ4)) q4,fun F4 H4 σ4 ρ4 s4 R4 q4=>⟨F4,fo fl ρ4,s13.trans s4,R4.le (fM fl ρ4),q4⟩⟩ q3
 · have e:i=xs.length:=by omega
   subst e;rw[JN]at j2;exact .inl ⟨vi.stop _ H (Hw _) sH,ok.nx _ _ _ _ (g1.fs.trans s2) R2 j2⟩
noncomputable def Em(fl:List Nat)(f:TB)(t:Gj)(m:Nat):Gj:=fun D ρ=>f ρ fun b=>if b=true then t {D with nx:=fun ρ'=>∃k,∃h:k<m,Em fl f t k D (fo fl ρ'),ct:=fun ρ'=>∃k,∃h:k<m,Em fl f t k D (fo fl ρ'),bk:=fun ρ'=>D.nx (fo fl ρ')} ρ else D.nx ρ
termination_by m
noncomputable def ol(fl:List Nat)(f:TB)(t:Gj):Gj:=fun D ρ=>∃m,Em fl f t m D (fo fl ρ)
theorem tL(fl:List Nat)(f:TB)(t:Gj)(m:Nat)(D:VEnds)(ρ:En):Em fl f t m D ρ=f ρ fun b=>if b=true then t {D with nx:=fun ρ'=>∃k,∃h:k<m,Em fl f t k D (fo fl ρ'),ct:=fun ρ'=>∃k,∃h:k<m,Em fl f t k D (fo fl ρ'),bk:=fun ρ'=>D.nx (fo fl ρ')} ρ else D.nx ρ:=by
 conv=>lhs;unfold Em
theorem jq(fl:List Nat)(hp:Nw (Ib X.prog X.w) X.A X.env X.xe)(hc:PB X rl c f)(hb:mY X rl body t):GD X rl (.While c body [] pos) (ol fl f t):=by
 obtain⟨t0,p0,k0⟩:=hc;obtain⟨t1,p1,k1⟩:=hb;refine⟨_,rP hp p0 p1,fun{F₀ H₀ F H σ ρ} R Dv D ok q=>?_⟩;obtain⟨m,j0⟩:=q;refine⟨fun m σ' H'=>∃F' ρ',bU F F'/\VR X.K rl F₀ H₀ F' H' σ' ρ'/\Em fl f t m Dv ρ',⟨m,F,fo fl ρ,.refl _,R.le (fM fl ρ),j0⟩,?_⟩;rintro m σ2 H2 ⟨F2,ρ2,s2,R2,j⟩;rw[tL]at j;refine k0 R2 _ _ j fun b F1 H1 g1 q1=>?_
 cases b with
 | false=>exact ok.nx _ _ _ _ (s2.trans g1.fs) (R2.grow g1) q1
 | true =>
   refine⟨fun σ' H'=>∃F' ρ',bU F F'/\VR X.K rl F₀ H₀ F' H' σ' ρ'/\∃m',m'<m/\Em fl f t m' Dv ρ',fun σ' H' ⟨F',ρ',s',R',m',hm,j⟩=>⟨m',hm,F',ρ',s',R',j⟩,?_⟩
   exact k1 (R2.grow g1) {Dv with nx:=fun ρ'=>∃k,∃h:k<m,Em fl f t k Dv (fo fl ρ'),ct:=fun ρ'=>∃k,∃h:k<m,Em fl f t k Dv (fo fl ρ'),bk:=fun ρ'=>Dv.nx (fo fl ρ')} _
    ⟨fun F3 H3 σ3 ρ3 s3 R3 ⟨m',hm,q3⟩=>⟨F3,fo fl ρ3,(s2.trans g1.fs).trans s3,R3.le (fM fl ρ3),m',hm,q3⟩,ok.rt,fun F3 H3 σ3 ρ3 s3 R3 q3=>ok.nx _ _ _ _ ((s2.trans g1.fs).trans s3) (R3.le (fM fl ρ3)) q3,fun F3 H3 σ3 ρ3 s3 R3 ⟨m',hm,q3⟩=>⟨F3,fo fl ρ3,(s2.trans g1.fs).trans s3,R3.le (fM fl ρ3),m',hm,q3⟩⟩ q1
end
noncomputable def Fw(fl:List Nat)(k:En->Mo Fl):Fl->Mo Fl
 | .nx ρ=>k (fo fl ρ)
 | .ct ρ=>k (fo fl ρ)
 | .bk ρ=>ret (.nx (fo fl ρ))
 | .rt w=>ret (.rt w)
noncomputable def ff(fl:List Nat)(b:Hi->En->Mo Fl):List Hi->En->Mo Fl
 | [],ρ=>ret (.nx ρ)
 | x::xs,ρ=>FY (b x ρ) (Fw fl (ff fl b xs))
theorem lg(fl:List Nat)(g:Gn)(t:Gj):∀(xs:List Hi)(ρ:En),mS (cX fl g t xs) ρ=ff fl (fun x ρ=>FY (g x ρ) (mS t)) xs ρ
 | [],ρ=>rfl
 | x::xs,ρ=>by
   refine ag fun Q=>?_;show(g x ρ fun ρ2=>t ⟨fun ρ'=>mS (cX fl g t xs) (fo fl ρ') Q,fun w=>Q (.rt w),fun ρ'=>Q (.nx (fo fl ρ')),fun ρ'=>mS (cX fl g t xs) (fo fl ρ') Q⟩ ρ2)↔_;simp only[lg fl g t xs];exact K7
noncomputable def F_(g:Gn)(t:Gj):Hi->En->Mo Fl:=fun x ρ=>FY (g x ρ) (mS t)
theorem bdy_ap(g:Gn)(t:Gj)(x:Hi)(ρ:En):F_ g t x ρ=FY (g x ρ) (mS t):=nr rfl
theorem s_for(fl:List Nat)(fi:En->(List Hi->Prop)->Prop)(g:Gn)(t:Gj)(ρ:En):mS (xN fl fi g t) ρ=FY (fi ρ) fun xs=>ff fl (F_ g t) xs (fo fl ρ):=by
 refine ag fun Q=>?_;show(fi ρ fun xs=>mS (cX fl g t xs) (fo fl ρ) Q)↔_;simp only[lg];exact K7
noncomputable def Fv(fl:List Nat)(J:En->Prop)(Q:Fl->Prop):Fl->Prop
 | .nx ρ=>J (fo fl ρ)
 | .ct ρ=>J (fo fl ρ)
 | .bk ρ=>Q (.nx (fo fl ρ))
 | .rt w=>Q (.rt w)
section
variable{α σ:Type}{fl:List Nat}{b:Hi->En->Mo Fl}
theorem mE(J:Nat->En->Prop){Q:Fl->Prop}:∀{xs:List Hi}{ρ:En}(n:Nat),J n ρ->(∀i x ρ,xs[i]?=some x->J (n+i) ρ->∀k:Fl->Prop,(∀r,Fv fl (J (n+i+1)) Q r->k r)->b x ρ k)->(∀ρ,J (n+xs.length) ρ->Q (.nx ρ))->ff fl b xs ρ Q
 | [],ρ,n,h0,_,fin=>fin ρ h0
 | x::xs,ρ,n,h0,step,fin=>by
   refine step 0 x ρ rfl h0 (fun r=>Fw fl (ff fl b xs) r Q) fun r hr=>?_;have rc:∀ρ',J (n+1) ρ'->ff fl b xs ρ' Q:=fun ρ' h'=>mE J (n+1) h' (fun i y ρ e j k hk=>step (i+1) y ρ (by simpa using e) (by rw[show n+(i+1)=n+1+i by omega];exact j) k (by rw[show n+(i+1)+1=n+1+i+1 by omega];exact hk)) (fun ρ j=>fin ρ (by rw[Il,show n+(xs.length+1)=n+1+xs.length by omega];exact j))
   cases r with
   | nx ρ'=>exact rc _ hr
   | ct ρ'=>exact rc _ hr
   | bk ρ'=>exact hr
   | rt w=>exact hr
theorem pM{xs:List α}{enc:α->Hi}{Q:Fl->Prop}(J:Nat->En->Prop)(h0:J 0 ρ)
 (step:∀i (h:i<xs.length) ρ,J i ρ->∀k:Fl->Prop,(∀r,Fv fl (J (i+1)) Q r->k r)->b (enc xs[i]) ρ k)(fin:∀ρ,J xs.length ρ->Q (.nx ρ)):ff fl b (xs.map enc) ρ Q:=by
 refine mE J 0 h0 (fun i x ρ e j k hk=>?_) (fun ρ j=>fin ρ (by simpa using j));have hi:i<xs.length:=by have:=(HM.mp e).1;simpa using this
 rw[Ja,Ip hi]at e;cases e;rw[Nat.zero_add]at j hk;exact step i hi ρ j k hk
theorem su{lo:Int}{Q:Fl->Prop}(J:Nat->En->Prop)(h0:J 0 ρ)
 (step:∀i,i<n->∀ρ,J i ρ->∀k:Fl->Prop,(∀r,Fv fl (J (i+1)) Q r->k r)->b (.int (lo+i)) ρ k)(fin:∀ρ,J n ρ->Q (.nx ρ)):ff fl b (bB lo n) ρ Q:=by
 refine pM (xs:=IJ n) J h0 (fun i h ρ j k hk=>?_) (fun ρ j=>fin ρ (by simpa using j));rw[List.getElem_range];exact step i (by simpa using h) ρ j k hk
end
noncomputable def ii(fl:List Nat)(f:TB)(t:Gj)(ρ:En):Mo Fl:=fun Q=>∃m,mS (Em fl f t m) ρ Q
theorem s_while(fl:List Nat)(f:TB)(t:Gj)(ρ:En):mS (ol fl f t) ρ=ii fl f t (fo fl ρ):=nr rfl
theorem rf(fl:List Nat)(f:TB)(t:Gj)(m:Nat)(ρ:En):mS (Em fl f t m) ρ=FY (f ρ) fun b=>if b=true then FY (mS t ρ) (Fw fl fun ρ'=>fun Q=>∃k,∃h:k<m,mS (Em fl f t k) ρ' Q)else ret (.nx ρ):=by
 refine ag fun Q=>?_;show Em fl f t m _ ρ↔_;rw[tL];simp only[FY,fW];exact K7
theorem uF{fl:List Nat}{f:TB}{t:Gj}(h:f ρ=ret false):ii fl f t ρ=ret (.nx ρ):=by
 refine ag fun Q=>?_;constructor
 · rintro⟨m,q⟩;rw[rf,h,bnd_ret,if_neg (by decide)]at q;exact q
 · intro q;refine⟨0,?_⟩;rw[rf,h,bnd_ret,if_neg (by decide)];exact q
theorem uE{fl:List Nat}{f:TB}{t:Gj}{ρ':En}(h:f ρ=ret true)(h2:mS t ρ=ret (.nx ρ')):ii fl f t ρ=ii fl f t (fo fl ρ'):=by
 refine ag fun Q=>?_;constructor
 · rintro⟨m,q⟩;rw[rf,h,bnd_ret,if_pos rfl,h2,bnd_ret]at q;obtain⟨k,_,q⟩:=q;exact⟨k,q⟩
 · rintro⟨m,q⟩;refine⟨m+1,?_⟩;rw[rf,h,bnd_ret,if_pos rfl,h2,bnd_ret];exact⟨m,Nat.lt_succ_self m,q⟩
theorem nW{σ:Type}{fl:List Nat}{f:TB}{t:Gj}(st:σ->En)(c:σ->Bool)(nxt:σ->σ)(μ:σ->Nat)(I:σ->Prop)
 (hf:∀s,I s->f (st s)=ret (c s))(ht:∀s,I s->c s=true->I (nxt s)/\μ (nxt s)<μ s/\∃ρ',mS t (st s)=ret (.nx ρ')/\fo fl ρ'=st (nxt s))(s:σ)(hs:I s):∃s',I s'/\c s'=false/\ii fl f t (st s)=ret (.nx (st s')):=by
 induction hm:μ s using Nat.strongRecOn generalizing s with
 | ind n ih =>
   subst hm
   cases hc:c s with
   | false=>exact⟨s,hs,hc,uF (by rw[hf s hs,hc])⟩
   | true =>
     obtain⟨i1,m1,ρ',e1,e2⟩:=ht s hs hc;obtain⟨s',a,b,e⟩:=ih _ m1 (nxt s) i1 rfl;exact⟨s',a,b,by rw[uE (by rw[hf s hs,hc]) e1,e2,e]⟩
noncomputable def lQ(ρ0:En)(g:Gn)(ft:TB)(fe:TV):List Hi->List Hi->(List Hi->Prop)->Prop
 | [],acc,Q=>Q acc
 | x::xs,acc,Q=>g x ρ0 fun ρ2=>Le ρ0 ρ2/\ft ρ2 fun b=>if b=true then fe ρ2 fun w=>∃d,w.fz = .d d/\acc.length<sizeLine/\lQ ρ0 g ft fe xs (acc++[d]) Q else lQ ρ0 g ft fe xs acc Q
noncomputable def lR(fi:En->(List Hi->Prop)->Prop)(fr:List (Option Nat))(g:Gn)(ft:TB)(fe:TV):TV:=fun ρ Q=>fi ρ fun xs=>lQ (eO fr ρ) g ft fe xs [] fun ds=>Q (.ml ds)
section
variable{X:Cx}{rl:RlT}{elt tg iter:Expr}{ifs:List Expr}{scope:Scope}{pos:Pos}{fi:En->(List Hi->Prop)->Prop}{g:Gn}{ft:TB}{fe:TV}
theorem mG{wi:TI}(fr:List (Option Nat))(k0:∀{F₀ H₀ F H:Hp}{σ:St}{ρ:En},VR X.K rl F₀ H₀ F H σ ρ->∀(Qd:List Hi->Prop)(R:It->Hp->Prop),fi ρ Qd ->
 (∀J xs F' H',Grow rl F H F' H'->VIt X.K rl F' J xs->Qd xs->R J H')->wi σ H R)
 (hg:∀y,GJ (FZ X N' scope y) rl tg g)(ht:∀y,qY (FZ X N' scope y) rl ifs ft)(he:∀y,PV (FZ X N' scope y) rl elt fe)
 (R:VR X.K rl F₀ H₀ F H σ ρ)(Qd:W->Prop)(Q:VK)(q:lR fi fr g ft fe ρ Qd)
 (k:∀v w F' H',Grow rl F H F' H'->dB X.K rl F' H' v w->eB H v w->Qd w->Q v H'):rE wi fr (fun y=>HR (hg y)) (fun y=>HR (ht y)) (fun y=>HR (he y)) σ H Q:=by
 refine k0 R _ _ q fun J xs F1 H1 g1 vi q1=>?_;intro D hD;have rD:rl.a≠some D:=fun e=>by obtain⟨o,z⟩:=g1.reel.live e;rw[hD]at z;cases z
 have FD:F1 D=none:=g1.sub.free hD;have gD:Grow rl F1 H1 F1 (Ex H1 D (.lst [])):=Grow.laid g1.sub g1.reel hD;have R1:=R.grow g1;have n0:nK (eO fr ρ):=d_
 refine⟨fun i m acc σc Hc=>m=xs.length-i/\i<=xs.length/\∃Fc ds,VR X.K rl F1 H1 Fc Hc σc (eO fr ρ)/\Hc D=some (.lst acc)/\Fc D=none/\Reps X.K Fc acc ds/\lQ (eO fr ρ) g ft fe (xs.drop i) ds (fun ds=>Qd (.ml ds)),
  ⟨xs.length,by simp,II _,F1,[],f_ R1 gD,aG,FD,.nil,by simpa using q1⟩,?_⟩
 rintro z i m acc σc Hc ⟨rfl,hi,Fc,ds,Rc,hDc,fDc,rs,q2⟩;have sH:bU F1 Hc:=Rc.g.fs.trans Rc.sub;by_cases hlt:i<xs.length
 · have ei:xs[i]?=some xs[i]:=by simp[hlt]
   have ed:xs.drop i=xs[i]::xs.drop (i+1):=IT hlt;rw[ed]at q2;refine .inr ⟨vi.go i Hc _ ei sH,fun v H' y=>?_⟩;obtain⟨Fy,gy,rv⟩:=vi.yld i Hc v H' _ Fc ei Rc.g.fs Rc.sub Rc.reel y;refine(Hm (hg z)).2 (Rc.grow gy) v _ _ _ rv q2 fun F3 H3 σ3 ρ3 g3 n3 R3 ⟨le3,q3⟩=>?_;refine(Hm (ht z)).2 R3 _ _ q3 fun b F4 H4 g4 q4=>?_;have R4:=R3.grow g4;have g34:=(gy.trans g3).trans g4;have keepD:∀{Fx Hx:Hp},Grow rl Fc Hc Fx Hx->Hx D=some (.lst acc)/\Fx D=none:=fun gx=>⟨gx.same D _ hDc rD,by rw[gx.old D _ hDc];exact fDc⟩
   cases b with
   | false=>exact⟨xs.length-(i+1),by omega,rfl,hlt,F4,ds,R4.le le3,(keepD g34).1,(keepD g34).2,rs.mono g34.fs,q4⟩
   | true =>
     refine(Hm (he z)).2 R4 _ _ q4 fun v5 w5 F5 H5 g5 r5 n5 ⟨d,ed5,hl,q5⟩=>?_;obtain⟨F6,g6,s6,r6⟩:=dB.fz g5 r5 n5;rw[ed5]at r6;have g36:=g34.trans g6;refine⟨(keepD g36).1,by rw[rs.length];exact hl,xs.length-(i+1),by omega,rfl,hlt,F6,ds++[d],((R4.grow g6).le le3).other n0 hD (keepD g36).2 rD,aG,(keepD g36).2,(rs.mono g36.fs).snoc r6,q5⟩
 · have e:i=xs.length:=by omega
   subst e;rw[JN]at q2;refine .inl ⟨vi.stop _ Hc (Hw _) sH,k _ (.ml ds) Fc Hc (g1.trans Rc.g) ⟨D,acc,rfl,fDc,rD,hDc,rs⟩ (fun a ea=>by cases ea;exact g1.freeB hD) q2⟩
theorem bc(N':List Str)(fr:List (Option Nat))(hc:X.calm=true)(hi:GG X rl tg iter fi)
 (hg:∀y,GJ (FZ X N' scope y) rl tg g)(ht:∀y,qY (FZ X N' scope y) rl ifs ft)(he:∀y,PV (FZ X N' scope y) rl elt fe)
 (hfr:autoParam (nF fr N' X.N scope X.env.scope=true) æa._auto_1)(hsc:autoParam (nM scope X.env.scope=true) æa._auto_1)
 (hs:autoParam (∀x,Ig iter X.env x=pure x) æc._auto_1):PV X rl (.ListComp elt [⟨tg,iter,ifs,0⟩] scope pos) (lR fi fr g ft fe):=by
 obtain⟨wi,p0,k0⟩:=hi;exact⟨_,jb N' fr hc p0 hfr hsc (fun y=>(Hm (hg y)).1) (fun y=>(Hm (ht y)).1) (fun y=>(Hm (he y)).1) hs,fun R Qd Q q k=>mG fr k0 hg ht he R Qd Q q k⟩
end
noncomputable def FH(ρ0:En)(g:Gn)(ft:TB)(fe:TV)(x:Hi):Mo (Option Hi):=FY (g x ρ0) fun ρ2=>FO (Le ρ0 ρ2) (FY (ft ρ2) fun b=>if b=true then FY (fe ρ2) fun w=>aJ (asD w.fz) fun d=>ret (some d)else ret none)
noncomputable def cY(b:Hi->Mo (Option Hi)):List Hi->List Hi->Mo (List Hi)
 | [],acc=>ret acc
 | x::xs,acc=>FY (b x) fun o=>match o with
   | some d=>FO (acc.length<sizeLine) (cY b xs (acc++[d]))
   | none=>cY b xs acc
theorem jk(ρ0:En)(g:Gn)(ft:TB)(fe:TV):∀(xs acc:List Hi),lQ ρ0 g ft fe xs acc=cY (FH ρ0 g ft fe) xs acc
 | [],acc=>rfl
 | x::xs,acc=>by
   refine ag fun Q=>?_;show(g x ρ0 fun ρ2=>Le ρ0 ρ2/\ft ρ2 fun b=>if b=true then fe ρ2 fun w=>∃d,w.fz = .d d/\acc.length<sizeLine/\lQ ρ0 g ft fe xs (acc++[d]) Q else lQ ρ0 g ft fe xs acc Q)↔(FY (FH ρ0 g ft fe x) _) Q;simp only[jk ρ0 g ft fe xs]
   have:∀(ρ2:En)(b:Bool),(if b=true then fe ρ2 fun w=>∃d,w.fz = .d d/\acc.length<sizeLine/\cY (FH ρ0 g ft fe) xs (acc++[d]) Q else cY (FH ρ0 g ft fe) xs acc Q)=(FY (if b=true then FY (fe ρ2) fun w=>aJ (asD w.fz) fun d=>ret (some d)else ret none) fun o=>match o with
   | some d=>FO (acc.length<sizeLine) (cY (FH ρ0 g ft fe) xs (acc++[d]))
   | none=>cY (FH ρ0 g ft fe) xs acc) Q:=by
     intro ρ2 b
     cases b with
     | false=>rfl
     | true =>
       rw[if_pos rfl,if_pos rfl];show _=fe ρ2 fun w=>_;congr 1;funext w;refine propext ?_;show _↔(FY (aJ (asD w.fz) fun d=>ret (some d)) _) Q;rw[bnd_opt,ai];simp only[iD];exact K7
   simp only[this];exact K7
theorem m_comp(fi:En->(List Hi->Prop)->Prop)(fr:List (Option Nat))(g:Gn)(ft:TB)(fe:TV)(ρ:En):lR fi fr g ft fe ρ=FY (fi ρ) fun xs=>FY (cY (FH (eO fr ρ) g ft fe) xs []) fun ds=>ret (.ml ds):=by
 refine ag fun Q=>?_;show(fi ρ fun xs=>lQ (eO fr ρ) g ft fe xs [] fun ds=>Q (.ml ds))↔_;simp only[jk];exact K7
section
variable{α:Type}{b:Hi->Mo (Option Hi)}
theorem fB{enc:α->Hi}(f:α->Option Hi):∀(xs:List α)(acc:List Hi),(∀x∈xs,b (enc x)=ret (f x))->acc.length+xs.length<=sizeLine->cY b (xs.map enc) acc=ret (acc++xs.filterMap f)
 | [],acc,_,_=>by simp[cY]
 | x::xs,acc,h,hl=>by
   show FY (b (enc x)) _=_;rw[h x Hr,bnd_ret];simp at hl
   cases e:f x with
   | none =>
     show cY b (xs.map enc) acc=_
     rw[fB f xs acc (fun y hy=>h y (Hv _ hy)) (by omega),List.filterMap_cons_none e]
   | some d =>
     show FO (acc.length<sizeLine) (cY b (xs.map enc) (acc++[d]))=_;rw[ah (by omega),fB f xs (acc++[d]) (fun y hy=>h y (Hv _ hy)) (by simp;omega),List.filterMap_cons_some e];simp
theorem qF{xs:List α}{enc:α->Hi}(f:α->Option Hi)(h:∀x∈xs,b (enc x)=ret (f x))(hl:xs.length<=sizeLine):cY b (xs.map enc) []=ret (xs.filterMap f):=by
 have:=fB f xs [] h (by simpa using hl);simpa using this
theorem comp_map{xs:List α}{enc:α->Hi}(f:α->Hi)(h:∀x∈xs,b (enc x)=ret (some (f x)))(hl:xs.length<=sizeLine):cY b (xs.map enc) []=ret (xs.map f):=by
 rw[qF (fun x=>some (f x)) h hl,MA]
theorem fX{enc:α->Hi}(R:α->Hi->Prop){Q:List Hi->Prop}:∀(xs:List α)(acc:List Hi),(∀x∈xs,∀k:Option Hi->Prop,(∀d,R x d->k (some d))->b (enc x) k)->acc.length+xs.length<=sizeLine->(∀ds,Jc R xs ds->Q (acc++ds))->cY b (xs.map enc) acc Q
 | [],acc,_,_,fin=>by have:=fin [] .nil;rw[Jx]at this;exact this
 | x::xs,acc,h,hl,fin=>by
   simp at hl;refine h x Hr _ fun d r=>?_;refine⟨by omega,fX R xs (acc++[d]) (fun y hy=>h y (Hv _ hy)) (by simp;omega) fun ds ps=>?_⟩;have:=fin (d::ds) (.cons r ps);simpa using this
theorem mO{xs:List α}{enc:α->Hi}(R:α->Hi->Prop){Q:List Hi->Prop}(h:∀x∈xs,∀k:Option Hi->Prop,(∀d,R x d->k (some d))->b (enc x) k)(hl:xs.length<=sizeLine)(fin:∀ds,Jc R xs ds->Q ds):cY b (xs.map enc) [] Q :=
 fX R xs [] h (by simpa using hl) (by simpa using fin)
theorem qG{lo:Int}(P:Hi->Prop){Q:List Hi->Prop}(h:∀j,j<n->∀k:Option Hi->Prop,(∀d,P d->k (some d))->b (.int (lo+j)) k)(hl:n<=sizeLine)(fin:∀ds:List Hi,ds.length=n->(∀d∈ds,P d)->Q ds):cY b (bB lo n) [] Q:=by
 refine mO (xs:=IJ n) (fun _ d=>P d) (fun j hj=>h j (LW.mp hj)) (by simpa using hl) fun ds ps=>?_;refine fin ds ?_ ?_
 · have:=Jt ps;simpa using this.symm
 · clear fin h hl;intro d hd;generalize IJ n=l at ps
   induction ps with
   | nil=>cases hd
   | cons r _ ih=>exact(Ic.mp hd).elim (fun e=>by rw[e];exact r) ih
end
section
variable(c:Prop)[Decidable c]
theorem ite_nx(a b:En):(if c then ret (Fl.nx a)else ret (Fl.nx b))=ret (Fl.nx (if c then a else b)):=by split<;>rfl
theorem ite_rt(a b:W):(if c then ret (Fl.rt a)else ret (Fl.rt b))=ret (Fl.rt (if c then a else b)):=by split<;>rfl
theorem ite_retd(a b:Hi):(if c then ret (W.d a)else ret (W.d b))=ret (W.d (if c then a else b)):=by split<;>rfl
theorem ite_retb(a b:Bool):(if c then ret a else ret b)=ret (if c then a else b):=by split<;>rfl
theorem ite_rets(a b:Hi):(if c then ret (some a)else ret (some b))=ret (some (if c then a else b)):=by split<;>rfl
theorem ite_cons{α:Type}(x y:α)(l m:List α):(if c then x::l else y::m)=(if c then x else y)::(if c then l else m):=by split<;>rfl
theorem ite_some{α:Type}(x y:α):(if c then some x else some y)=some (if c then x else y):=by split<;>rfl
theorem ite_d(a b:Hi):(if c then W.d a else W.d b)=W.d (if c then a else b):=by split<;>rfl
theorem ite_pi(a b:Int):(if c then Iv a else Iv b)=Iv (if c then a else b):=by split<;>rfl
theorem ite_pb(a b:Bool):(if c then JT a else JT b)=JT (if c then a else b):=by split<;>rfl
theorem itb_tt(b y:Bool):(if b=true then true else y)=(b||y):=by cases b<;>rfl
theorem itb_ff(b y:Bool):(if b=true then y else false)=(b&&y):=by cases b<;>rfl
theorem itb_ft(b y:Bool):(if b=true then false else y)=(!b&&y):=by cases b<;>rfl
theorem itb_tf(b y:Bool):(if b=true then y else true)=(!b||y):=by cases b<;>rfl
end
theorem ae(h:n<=1000):(n<=sizeLine)=True:=by have:=HN;exact propext ⟨fun _=>trivial,fun _=>by omega⟩
theorem tup2(x y:Hi):(match [x,y]with | [x,y]=>some (x,y)|_=>none)=some (x,y):=rfl
theorem bnd_tt{α β:Type}(a:α)(f:α->Mo β):FY (fun Q=>Q a) f=f a:=nr rfl
section
variable{α β:Type}
theorem aL{P:α->Prop}{f:α->Mo β}{Q:β->Prop}(h:∀a,P a->f a Q):FY (anyM P) f Q:=h
theorem cW{P:Prop}{m:Mo α}{Q:α->Prop}(h:P)(h':m Q):FO P m Q:=⟨h,h'⟩
theorem dG{c:Prop}[Decidable c]{a b:Mo α}{Q:α->Prop}(h:c->a Q)(h':¬c->b Q):(if c then a else b) Q:=by split<;>simp_all
end
theorem aF{Q:Hi->Prop}(h:Q d):ret (Fl.rt (.d d)) (zt Q):=⟨d,rfl,h⟩
section
variable{α:Type}{k:En->Mo Fl}{Q:Fl->Prop}
theorem EU{m:Mo α}{h:α->Mo Fl}(z:FY m (fun a=>sq (h a) k) Q):sq (FY m h) k Q:=z
theorem ET{o:Option α}{h:α->Mo Fl}(z:aJ o (fun a=>sq (h a) k) Q):sq (aJ o h) k Q:=by rw[x_];exact z
noncomputable def kc(k1 k2:En->Mo Fl):En->Mo Fl:=fun ρ=>sq (k1 ρ) k2
theorem kc_ap(k1 k2:En->Mo Fl)(ρ:En):kc k1 k2 ρ=sq (k1 ρ) k2:=nr rfl
theorem sq_sq(m:Mo Fl)(k1 k2:En->Mo Fl):sq (sq m k1) k2=sq m (kc k1 k2):=by
 refine ag fun Q=>?_;show m _↔m _;have:∀fl:Fl,(sq (match fl with | .nx ρ=>k1 ρ | .rt w=>ret (.rt w) | .bk ρ=>ret (.bk ρ) | .ct ρ=>ret (.ct ρ)) k2) Q=(match fl with | .nx ρ=>kc k1 k2 ρ | .rt w=>ret (.rt w) | .bk ρ=>ret (.bk ρ) | .ct ρ=>ret (.ct ρ):Mo Fl) Q:=by intro fl;cases fl<;>rfl
 exact Iff.of_eq (congrArg m (funext this))
theorem aY{P:α->Prop}{f:α->Mo Fl}(z:∀a,P a->sq (f a) k Q):sq (FY (anyM P) f) k Q:=z
end
theorem pk_sc(x:List Int):L2.VL.W.peek (.sc x) = .sc x:=rfl
theorem fz_sc(x:List Int):(W.sc x).fz = .sc x:=rfl
theorem arg_sc(x:List Int):dZ (.sc x)=true:=rfl
theorem isPk_sc(x:List Int):(W.sc x).isPk=false:=rfl
section
variable{X:Cx}{rl:RlT}{a b c e:Expr}{es:List Expr}{fa fb fc:TV}{fs:Gi}{pos p p2:Pos}{ρ:En}
noncomputable def zj:List W->(W->Prop)->Prop:=fun ws Q=>∃ns,ws=[.sc ns]/\Q (.d (.int ns.length))
noncomputable def asSc:W->Option (List Int)
 | .sc ns=>some ns
 | _=>none
theorem asSc_s(ns:List Int):asSc (.sc ns)=some ns:=rfl
theorem lC{w:W}{i:List Int}:asSc w=some i↔w = .sc i:=by
 constructor
 · intro h;unfold asSc at h;split at h<;>simp_all
 · rintro rfl;rfl
theorem m_gLenS(w:W):zj [w]=aJ (asSc w) fun ns=>ret (.d (.int ns.length)):=by
 refine ag fun Q=>?_;simp only[zj,ai,lC,ret,Ie,and_true]
noncomputable def C6:W->W->(W->Prop)->Prop:=fun x y Q=>∃ns i n,x = .sc ns/\y = .d (.int i)/\atI ns i=some n/\Q (.d (.int n))
theorem atI_map{β:Type}(f:α->β)(xs:List α)(i:Int):atI (xs.map f) i=(atI xs i).map f:=by
 unfold atI;rw[Hs];cases ixN xs.length i<;>simp
theorem m_gIxS(x y:W):C6 x y=aJ (asSc x) fun ns=>aJ (asI y) fun i=>aJ (atI ns i) fun n=>ret (.d (.int n)):=by
 refine ag fun Q=>?_;simp only[C6,ai,lC,c8,ret];exact⟨fun⟨i,j,z,a,b,c,q⟩=>⟨i,a,j,b,z,c,q⟩,fun⟨i,a,j,b,z,c,q⟩=>⟨i,j,z,a,b,c,q⟩⟩
theorem oR{K:W.Frag}{F:Hp}:∀ns:List Int,Reps K F (ns.map V.int) (ns.map Iv)
 | []=>.nil
 | n::ns=>.cons (.int n) (oR ns)
noncomputable def An(fa:TV)(fl fh:Gk):TV:=fun ρ Q=>fa ρ fun w=>fl ρ fun l=>fh ρ fun h=>∃ns:List Int,w = .sc ns/\Q (.ml (cutD (ns.map .int) l h))
theorem xz{lo hi:Option Expr}{fl fh:Gk}(ha:PV X rl a fa)(hl:GA X rl lo fl)(hh:GA X rl hi fh):PV X rl (.Subscript a (.Slice lo hi none p2) pos) (An fa fl fh):=by
 obtain⟨t,p,k⟩:=ha;obtain⟨tl,pl,kl⟩:=hl;obtain⟨th,ph,kh⟩:=hh;refine⟨_,l5 u_ p pl ph,fun R Qd Q q h=>k R _ _ q fun v w F1 H1 g1 r1 n1 q1=>?_⟩;refine kl (R.grow g1) _ _ q1 fun l F2 H2 g2 q2=>kh ((R.grow g1).grow g2) _ _ q2 fun u F3 H3 g3 q3=>?_;obtain⟨ns,rfl,q3⟩:=q3;obtain⟨a,rfl,sq⟩:=(r1.grow g2).grow g3;have g:=(g1.trans g2).trans g3;exact⟨a,_,rfl,oP g3.sub sq,fun p hp=>h _ (.ml _) _ _ (g.trans (Grow.laid g3.sub g3.reel hp)) (d9 g3.sub g3.reel hp ((oR ns).cut l u)) (fun a ea=>by cases ea;exact g.freeB hp) q3⟩
theorem m_vSlS{fl fh:Gk}:An fa fl fh ρ=FY (fa ρ) fun w=>FY (fl ρ) fun l=>FY (fh ρ) fun h=>aJ (asSc w) fun ns=>ret (.ml (cutD (ns.map .int) l h)):=by
 refine ag fun Q=>?_;simp only[An,FY,ai,lC,ret]
end
noncomputable def EW(K:W.Frag)(pre:List W->Prop):Sp:=fun vs H Q _=>∃F ws,bU F H/\fF K RlT.no F H vs ws/\ws.all dZ=true/\pre ws/\∀r F' H',H r=none->Grow RlT.no F H F' H'->Gx (RlT.at' r BM) F' H'->Q (.ref r) H'
structure DfnR (P:HV) (w:IF) (K:W.Frag) (mg:Str->Option Hq) (base:Heap) (x:Str) (ps:List Str) (k:Nat) (pre:List W->Prop):Prop where
 ex:∃f fd,mg x=some (.ref f)/\W.keepIn K (.ref f)=true/\Binds K fd ps []/\FnOk P w K mg base G6 k f fd ps (EW K pre)
noncomputable def Fo:Option W->Option W
 | some .reel=>none
 | o=>o
noncomputable def nR(ρ:En):En:=ρ.map Fo
noncomputable def W.isR:W->Bool
 | .reel=>true
 | _=>false
noncomputable def xL(i:Nat)(pre:List W->Prop)(fs:Gi)(t:Gj):Gj:=fun D ρ=>fs ρ fun ws=>ws.all dZ=true/\pre ws/\t ⟨fun ρ'=>D.nx (nR ρ'),fun w=>w.isR=false/\D.rt w,fun ρ'=>D.bk (nR ρ'),fun ρ'=>D.ct (nR ρ')⟩ (ρ.set i (some .reel))
theorem wz{r:Addr}(g:Grow RlT.no F₀ H₀ F H)(ra:Gx (RlT.at' r BM) F H):Grow (RlT.at' r BM) F₀ H₀ F H:=⟨fun b o e _=>g.same b o e (by simp),g.fs,g.sub,g.old,ra⟩
theorem mJ{r:Addr}{n':Nat}(g:Grow (RlT.at' r n') F₀ H₀ F H)(n:H₀ r=none):Grow RlT.no F₀ H₀ F H:=⟨fun b o e _=>g.same b o e (fun z=>by cases z;rw[n]at e;cases e),g.fs,g.sub,g.old,fun _ z=>by cases z⟩
theorem yk{K:W.Frag}{r:Addr}{w:W}(h:dB K RlT.no F H v w)(ne:∀a,w.own=true\/(∃xs,w = .pk xs)->v = .ref a->a≠r):dB K (RlT.at' r BM) F H v w:=by
 cases w with
 | d x=>exact h
 | ml xs=>obtain⟨a,vs,e,f,_,g⟩:=h;exact⟨a,vs,e,f,fun z=>ne a (.inl rfl) e (by cases z;rfl),g⟩
 | pk xs=>obtain⟨a,vs,e,f,_,g⟩:=h;exact⟨a,vs,e,f,fun z=>ne a (.inr ⟨_,rfl⟩) e (by cases z;rfl),g⟩
 | reel=>obtain⟨_,z,_⟩:=h;cases z
 | vv u=>exact h
 | md kvs=>obtain⟨a,vs,e,f,_,g⟩:=h;exact⟨a,vs,e,f,fun z=>ne a (.inl rfl) e (by cases z;rfl),g⟩
 | mk kvs=>obtain⟨a,vs,e,f,_,g⟩:=h;exact⟨a,vs,e,f,fun z=>ne a (.inl rfl) e (by cases z;rfl),g⟩
 | xm kvs=>obtain⟨a,vs,e,f,_,g⟩:=h;exact⟨a,vs,e,f,fun z=>ne a (.inl rfl) e (by cases z;rfl),g⟩
 | nt ds=>exact h
 | lk=>trivial
 | sc ns=>exact h
 | fd _=>exact h
 | xr _=>exact h
 | xw _ _=>exact h
 | fw _=>exact h
 | ft _=>exact h
 | xc _ _=>exact h
 | dp _ _=>exact h
theorem oT{K:W.Frag}{r:Addr}{n':Nat}{w:W}(h:dB K (RlT.at' r n') F H v w)(n:w.isR=false):dB K RlT.no F H v w:=by
 cases w with
 | d x=>exact h
 | ml xs=>obtain⟨a,vs,e,f,_,g⟩:=h;exact⟨a,vs,e,f,by simp,g⟩
 | pk xs=>obtain⟨a,vs,e,f,_,g⟩:=h;exact⟨a,vs,e,f,by simp,g⟩
 | reel=>cases n
 | vv u=>exact h
 | md kvs=>obtain⟨a,vs,e,f,_,g⟩:=h;exact⟨a,vs,e,f,by simp,g⟩
 | mk kvs=>obtain⟨a,vs,e,f,_,g⟩:=h;exact⟨a,vs,e,f,by simp,g⟩
 | xm kvs=>obtain⟨a,vs,e,f,_,g⟩:=h;exact⟨a,vs,e,f,by simp,g⟩
 | nt ds=>exact h
 | lk=>trivial
 | sc ns=>exact h
 | fd _=>exact h
 | xr _=>exact h
 | xw _ _=>exact h
 | fw _=>exact h
 | ft _=>exact h
 | xc _ _=>exact h
 | dp _ _=>exact h
theorem mn{w:W}(h:(nR ρ)[i]?=some (some w)):ρ[i]?=some (some w)/\w.isR=false:=by
 unfold nR at h;rw[Ja]at h
 cases e:ρ[i]? with
 | none=>rw[e]at h;cases h
 | some o =>
   rw[e]at h
   cases o with
   | none=>cases h
   | some u=>cases u<;>first|(cases h;exact⟨rfl,rfl⟩)|cases h
theorem VR.out{K:W.Frag}{r:Addr}{n':Nat}(R:VR K (RlT.at' r n') F₀ H₀ F H σ ρ)(n:H₀ r=none):VR K RlT.no F₀ H₀ F H σ (nR ρ):=by
 refine⟨mJ R.g n,fun i w e=>?_,fun i j x y v hn e1 e2=>R.ap i j x y v hn (mn e1).1 (mn e2).1,fun i xs e=>R.np i xs (mn e).1,?_⟩
 · obtain⟨e1,e2⟩:=mn e;obtain⟨v,h1,h2,h3⟩:=R.sl i w e1;exact⟨v,h1,oT h2 e2,h3⟩
 · have:=R.len;simpa[nR]using this
theorem VR.into{K:W.Frag}{r:Addr}(R:VR K RlT.no F₀ H₀ F H σ ρ)(n:H r=none)(g:Grow RlT.no F H F' H')(ra:Gx (RlT.at' r BM) F' H')(i:Nat):VR K (RlT.at' r BM) F₀ H₀ F' H' (σ.set i (some (.ref r))) (ρ.set i (some .reel)):=by
 have R1:=R.grow g;refine⟨wz R1.g ra,fun j w e=>?_,fun j k x y v hn e1 e2 o1 o2 s1 s2=>?_,fun j xs e=>?_,by simp[R.len]⟩
 · by_cases hj:i=j
   · subst hj
     have hi:i<ρ.length:=by
      rw[IW]at e;by_cases hi:i<ρ.length
      · exact hi
      · simp[hi]at e
     rw[HU hi]at e;cases e;exact⟨.ref r,by rw[HU (by rw[<- R.len];exact hi)],⟨r,rfl,rfl⟩,trivial⟩
   · rw[HQ hj]at e;obtain⟨v,h1,h2,h3⟩:=R1.sl j w e;refine⟨v,by rw[HQ hj];exact h1,yk h2 fun a ow ea z=>?_,h3⟩;obtain⟨v0,h10,h20,_⟩:=R.sl j w e;rw[h1]at h10;cases h10;rcases ow with ow|⟨xs,rfl⟩
     · obtain⟨b,o,eb,hb⟩:=h20.live ow;rw[ea]at eb;cases eb;rw[z,n]at hb;cases hb
     · exact absurd e (R.np j xs)
 · have key:∀(m:Nat)(z:W),(ρ.set i (some W.reel))[m]?=some (some z)->z.own=true->i≠m/\ρ[m]?=some (some z):=fun m z e o=>by
     by_cases hm:i=m
     · subst hm;rw[IW]at e;split at e
       · split at e
         · cases e;cases o
         · cases e
       · exact absurd rfl (by assumption)
     · rw[HQ hm]at e;exact⟨hm,e⟩
   obtain⟨n1,d1⟩:=key j x e1 o1;obtain⟨n2,d2⟩:=key k y e2 o2;rw[HQ n1]at s1;rw[HQ n2]at s2;exact R1.ap j k x y v hn d1 d2 o1 o2 s1 s2
 · rw[IW]at e;split at e
   · split at e
     · cases e
     · cases e
   · exact R1.np j xs e
section
variable{X:Cx}{st:Stmt}{rest body:List Stmt}{t u:Gj}{a b c e:Expr}{es:List Expr}{fa fb:TV}{fs:Gi}{pos p px cpos:Pos}{ρ:En}
end
noncomputable def Ey:Fl->Mo Fl
 | .nx ρ=>ret (.nx (nR ρ))
 | .rt w=>FO (w.isR=false) (ret (.rt w))
 | .bk ρ=>ret (.bk (nR ρ))
 | .ct ρ=>ret (.ct (nR ρ))
theorem s_newR(i:Nat)(pre:List W->Prop)(fs:Gi)(t:Gj)(ρ:En):mS (xL i pre fs t) ρ=FY (fs ρ) fun ws=>FO (ws.all dZ=true) (FO (pre ws) (FY (mS t (ρ.set i (some .reel))) Ey)):=nr rfl
theorem nR_nil:nR []=[]:=rfl
theorem nR_r(l:En):nR (some .reel::l)=none::nR l:=rfl
theorem nR_n(l:En):nR (none::l)=none::nR l:=rfl
theorem nR_d(x:Hi)(l:En):nR (some (.d x)::l)=some (.d x)::nR l:=rfl
theorem nR_ml(x:List Hi)(l:En):nR (some (.ml x)::l)=some (.ml x)::nR l:=rfl
theorem nR_sc(x:List Int)(l:En):nR (some (.sc x)::l)=some (.sc x)::nR l:=rfl
noncomputable def ij(K:W.Frag):Sp:=fun vs H Q _=>∃(a:Addr)(ns:List Int),vs=[.ref a]/\Gq K H a (ns.map V.int)/\ns.length<=63/\∀H',Q (.bl true) H'
noncomputable def DM:VEnds:=⟨fun _=>False,fun w=>w = .d (.bool true),fun _=>False,fun _=>False⟩
noncomputable def wW:Fl->Prop
 | .rt w=>w = .d (.bool true)
 | _=>False
theorem un_law(m:Mo Fl):FY m Ey wW=m wW:=by
 show m (fun fl=>Ey fl wW)=m wW;congr 1;funext fl
 cases fl with
 | rt w=>exact propext ⟨fun⟨_,h⟩=>h,fun h=>⟨by rw[show w = .d (.bool true)from h];rfl,h⟩⟩
 | _=>rfl
theorem wl:ret (Fl.rt (.d (.bool true))) wW:=rfl
section
variable{P:HV}{w:IF}{K:W.Frag}{mg:Str->Option Hq}{base:Heap}{st:Stmt}{N:List Str}{k:Nat}{t:Gj}{x:Str}
theorem v4(F:Fun K "law" "law" st f fd)(S:FnScope N [x] (defScope st))
 (hbody:∀(cdv:Hq)(A:IM)(outer:List Env)(s:Ht)(H:Hp)(E:XK),Room k (A.deeper (L8 "law" (defScope st) s.heap.objs.size f cdv))->mY (nP G6 P w K mg base N "law" (defScope st) f cdv A outer s H E).nox RlT.no (defBody st) t)
 (hread:∀ns:List Int,ns.length<=63->mS t (dL N [.sc ns]) wW):FnOk P w K mg base G6 (k+1) f fd [x] (ij K):=by
 refine F.ok S (fun vs H Q E h=>?_) (fun cdv A outer s H vs Q E hr h=>?_)
 · obtain⟨a,ns,rfl,_⟩:=h;rfl
 · obtain⟨a,ns,rfl,hS,hl,kq⟩:=h;obtain⟨T,p,kk⟩:=hbody cdv A outer s H E hr;have rw0:fF K RlT.no H H [.ref a] [.sc ns]:=.cons ⟨a,rfl,hS⟩ .nil;have R:VR K RlT.no H H H H (start N [.ref a]) (dL N [.sc ns]):=eP (.refl H) (fun _ z=>by cases z) rw0 rfl;refine⟨T,p,kk R DM _ ⟨fun _ _ _ _ _ _ z=>Jk z,?_,fun _ _ _ _ _ _ z=>Jk z,fun _ _ _ _ _ _ z=>Jk z⟩ (hread ns hl)⟩;rintro v w1 F1 H1 g1 r1 n1 z;have z:w1 = .d (.bool true):=z;subst z;have e:=eG r1;subst e;exact kq H1
end
noncomputable def m5(i:Nat)(fa:TV):Gj:=fun D ρ=>fa ρ fun w=>∃d,w.fz = .d d/\D.nx (ρ.set i (some (.d d)))
section
variable{X:Cx}{rl:RlT}{st:Stmt}{rest body:List Stmt}{t u:Gj}{a b c e:Expr}{es:List Expr}{fa fb:TV}{fs:Gi}{f:TB}{pos p:Pos}{ρ:En}
theorem ay(i:Nat)(hN:X.N.Nodup)(he:PV X rl e fa)(hi:autoParam (X.N[i]?=some x) æa._auto_1)(hx:autoParam (Loc X.env.scope x) æe._auto_1)
 (hs:autoParam (Ju e (some (.Name x pos')) pos.line X.env=pure false) æa._auto_1)(hf:autoParam (X.fn x=true\/X.env.scope.names.lookup x=some .local) æf._auto_1) :
 GD X rl (.Assign [.Name x pos'] e pos) (m5 i fa):=by
 obtain⟨t,p,k⟩:=he;refine⟨_,gC hN hi hx p hs hf,fun R Dv D ok q=>k R _ _ q fun v w F1 H1 g1 r1 n1 ⟨d,ed,q1⟩=>?_⟩;obtain⟨F2,g2,s2,r2⟩:=dB.fz g1 r1 n1;rw[ed]at r2;exact ok.nx _ _ _ _ g2.fs (R.set g2 r2 trivial (fun xs z=>by cases z) i) q1
theorem s_setZ(i:Nat):mS (m5 i fa) ρ=FY (fa ρ) fun w=>aJ (asD w.fz) fun d=>ret (.nx (ρ.set i (some (.d d)))):=by
 show(FY (fa ρ) fun w=>fun(Q:Fl->Prop)=>∃d,w.fz = .d d/\Q (.nx (ρ.set i (some (.d d)))))=_;congr 1;funext w;refine ag fun Q=>?_;simp only[ai,iD,ret]
end
section
variable{X:Cx}{rl:RlT}{elt tg iter:Expr}{ifs:List Expr}{scope:Scope}{pos:Pos}{fi:En->(List Hi->Prop)->Prop}{g:Gn}{ft:TB}{fe:TV}
theorem km(i:Nat){b:Bool}(hN:X.N.Nodup)(N':List Str)(fr:List (Option Nat))(hc:X.calm=true)(hi:GG X rl tg iter fi)
 (hg:∀y,GJ (FZ X N' scope y) rl tg g)(ht:∀y,qY (FZ X N' scope y) rl ifs ft)(he:∀y,PV (FZ X N' scope y) rl elt fe)
 (hsw:autoParam (Ju (.ListComp elt [⟨tg,iter,ifs,0⟩] scope pos) (some (.Name x px)) spos.line X.env=pure b) æa._auto_1)
 (hix:autoParam (X.N[i]?=some x) æa._auto_1)(hx:autoParam (Loc X.env.scope x) æe._auto_1)(hf:autoParam (X.fn x=true\/X.env.scope.names.lookup x=some .local) æf._auto_1)
 (hfr:autoParam (nF fr N' X.N scope X.env.scope=true) æa._auto_1)(hsc:autoParam (nM scope X.env.scope=true) æa._auto_1)
 (hs:autoParam (∀x,Ig iter X.env x=pure x) æc._auto_1):GD X rl (.Assign [.Name x px] (.ListComp elt [⟨tg,iter,ifs,0⟩] scope pos) spos) (m5 i (lR fi fr g ft fe)):=by
 obtain⟨wi,p0,k0⟩:=hi;refine⟨_,nq N' fr hc p0 hfr hsc (fun y=>(Hm (hg y)).1) (fun y=>(Hm (ht y)).1) (fun y=>(Hm (he y)).1) hN hix hx hf hsw hs,fun R Dv D ok q=>mG fr k0 hg ht he R _ _ q fun v w F1 H1 g1 r1 n1 ⟨d,ed,q1⟩=>?_⟩;obtain⟨F2,g2,s2,r2⟩:=dB.fz g1 r1 n1;rw[ed]at r2;exact ok.nx _ _ _ _ g2.fs (R.set g2 r2 trivial (fun xs z=>by cases z) i) q1
end
noncomputable def dC(xs:List Int):Hi:=.tuple (xs.map .int)
noncomputable def mC(xs:List Int):Hi:=.list (xs.map .int)
theorem eL:∀{xs ys:List Int},xs.map Iv=ys.map Iv↔xs=ys:=by
 intro xs ys;constructor
 · intro h;have:=congrArg ig h;rw[cL,cL]at this;exact IA this
 · rintro rfl;rfl
theorem lS{xs ys:List Int}:dC xs=dC ys↔xs=ys:=by
 unfold dC;rw[Iy,eL]
theorem mB{xs ys:List Int}:mC xs=mC ys↔xs=ys:=by
 unfold mC;rw[Ky,eL]
theorem aX{α:Type}{f:α->Hi}(h:∀a b,f a=f b↔a=b):∀{xs ys:List α},xs.map f=ys.map f↔xs=ys
 | [],[]=>by simp
 | [],_::_=>by simp
 | _::_,[]=>by simp
 | x::xs,y::ys=>by simp[h,aX h (xs:=xs) (ys:=ys)]
noncomputable def AG(xs:List (List Int)):Hi:=.tuple (xs.map dC)
theorem rA{xs ys:List (List Int)}:AG xs=AG ys↔xs=ys:=by
 unfold AG;rw[Iy,aX fun _ _=>lS]
theorem zL{xs:List α}{i:Int}(h0:0<=i)(h1:i<(xs.length:Int)):atI xs i=some (xs[i.toNat]'(by omega)):=by
 obtain⟨n,rfl⟩:=Kd h0;exact lA (Ip (by omega))
section
variable{α σ:Type}{fl:List Nat}{b:Hi->En->Mo Fl}{k:En->Mo Fl}{Q:Fl->Prop}{ρ:En}
theorem lJ{f:TB}{t:Gj}(st:σ->En)(c:σ->Bool)(nxt:σ->σ)(μ:σ->Nat)(I:σ->Prop)(s:σ)(h0:ρ=st s)(hs:I s)
 (hf:∀s,I s->f (st s)=ret (c s))(ht:∀s,I s->c s=true->I (nxt s)/\μ (nxt s)<μ s/\∃ρ',mS t (st s)=ret (.nx ρ')/\fo fl ρ'=st (nxt s))(fin:∀s,I s->c s=false->k (st s) Q):sq (ii fl f t ρ) k Q:=by
 subst h0;obtain⟨s',a,b,e⟩:=nW st c nxt μ I hf ht s hs;rw[e];exact fin s' a b
noncomputable def Fu(fl:List Nat)(J:En->Prop)(k:En->Mo Fl)(Q:Fl->Prop):Fl->Prop
 | .nx ρ=>J (fo fl ρ)
 | .ct ρ=>J (fo fl ρ)
 | .bk ρ=>k (fo fl ρ) Q
 | .rt w=>Q (.rt w)
theorem cf{J:En->Prop}{ρ:En}(h:J (fo fl ρ)):Fu fl J k Q (.nx ρ):=h
theorem dA{xs:List α}{enc:α->Hi}(J:Nat->En->Prop)(hx:xs'=xs.map enc)(h0:J 0 ρ)
 (step:∀i (h:i<xs.length) ρ,J i ρ->∀K:Fl->Prop,(∀r,Fu fl (J (i+1)) k Q r->K r)->b (enc xs[i]) ρ K)(fin:∀ρ,J xs.length ρ->k ρ Q):sq (ff fl b xs' ρ) k Q:=by
 subst hx;refine pM (Q:=fun r=>(match r with | .nx ρ=>k ρ | .rt w=>ret (.rt w) | .bk ρ=>ret (.bk ρ) | .ct ρ=>ret (.ct ρ):Mo Fl) Q) J h0 (fun i hi ρ j K hK=>step i hi ρ j K fun r hr=>hK r ?_) fin;cases r<;>exact hr
theorem eN{lo:Int}(J:Nat->En->Prop)(h0:J 0 ρ)
 (step:∀i,i<n->∀ρ,J i ρ->∀K:Fl->Prop,(∀r,Fu fl (J (i+1)) k Q r->K r)->b (.int (lo+i)) ρ K)(fin:∀ρ,J n ρ->k ρ Q):sq (ff fl b (bB lo n) ρ) k Q:=by
 refine su (Q:=fun r=>(match r with | .nx ρ=>k ρ | .rt w=>ret (.rt w) | .bk ρ=>ret (.bk ρ) | .ct ρ=>ret (.ct ρ):Mo Fl) Q) J h0 (fun i hi ρ j K hK=>step i hi ρ j K fun r hr=>hK r ?_) fin;cases r<;>exact hr
end
section
variable{α β:Type}{b:Hi->Mo (Option Hi)}{k:List Hi->Mo β}{Q:β->Prop}
theorem qK{xs:List α}{enc:α->Hi}(f:α->Option Hi)(hx:xs'=xs.map enc)(h:∀x∈xs,b (enc x)=ret (f x))(hl:xs.length<=sizeLine)(fin:k (xs.filterMap f) Q):FY (cY b xs' []) k Q:=by
 subst hx;rw[qF f h hl];exact fin
theorem cg{xs:List α}{enc:α->Hi}(f:α->Hi)(hx:xs'=xs.map enc)(h:∀x∈xs,b (enc x)=ret (some (f x)))(hl:xs.length<=sizeLine)(fin:k (xs.map f) Q):FY (cY b xs' []) k Q:=by
 subst hx;rw[comp_map f h hl];exact fin
theorem wJ{xs:List α}{enc:α->Hi}(R:α->Hi->Prop)(hx:xs'=xs.map enc)(h:∀x∈xs,∀K:Option Hi->Prop,(∀d,R x d->K (some d))->b (enc x) K)(hl:xs.length<=sizeLine)(fin:∀ds,Jc R xs ds->k ds Q):FY (cY b xs' []) k Q:=by
 subst hx;exact mO R h hl fin
theorem jm{lo:Int}(P:Hi->Prop)(h:∀j,j<n->∀K:Option Hi->Prop,(∀d,P d->K (some d))->b (.int (lo+j)) K)(hl:n<=sizeLine)(fin:∀ds:List Hi,ds.length=n->(∀d∈ds,P d)->k ds Q):FY (cY b (bB lo n) []) k Q :=
 qG P h hl fin
end
section
variable{α β:Type}
theorem pJ{i:Int}{k:Hi->Mo β}{Q:β->Prop}(h0:0<=i)(h1:i<(xs.length:Int))(h:∀z∈xs,k z Q):aJ (atI xs i) k Q:=by
 obtain⟨z,e,m⟩:=zK h0 h1;rw[e];exact h z m
theorem eg{xs:List α}{enc:α->Hi}{i:Int}{k:Hi->Mo β}{Q:β->Prop}(P:α->Prop)(hx:xs'=xs.map enc)(h0:0<=i)(h1:i<(xs.length:Int))(hP:∀z∈xs,P z)(h:∀z,P z->k (enc z) Q):aJ (atI xs' i) k Q:=by
 subst hx;refine pJ h0 (by simpa using h1) fun z mz=>?_;obtain⟨x,hx,rfl⟩:=HX.mp mz;exact h x (hP x hx)
end
theorem fA{α:Type}{enc:α->Hi}{P:α->Prop}:∀{ds:List Hi},(∀d∈ds,∃x,P x/\d=enc x)->∃xs:List α,ds=xs.map enc/\xs.length=ds.length/\∀x∈xs,P x
 | [],_=>⟨[],rfl,rfl,by simp⟩
 | d::ds,h=>by
   obtain⟨x,hx,e⟩:=h d Hr;obtain⟨xs,e1,e2,e3⟩:=fA (ds:=ds) fun d hd=>h d (Hv _ hd);exact⟨x::xs,by rw[e,e1];rfl,by simp[e2],fun y hy=>(Ic.mp hy).elim (fun z=>by rw[z];exact hx) (e3 y)⟩
section
variable{X:Cx}{rl:RlT}{a b c o e:Expr}{es:List Expr}{fa fb:TV}{fs:Gi}{pos p apos cpos:Pos}{ρ:En}
noncomputable def Ev(g:List Hi->List W->(W->Prop)->Prop)(fa:TV)(fs:Gi):TV:=fun ρ Q=>fa ρ fun x=>∃xs,x.dat=some (.list xs)/\fs ρ fun ws=>g xs ws Q
theorem m_vML(g:List Hi->List W->(W->Prop)->Prop):Ev g fa fs ρ=FY (fa ρ) fun x=>aJ (Gd x) fun xs=>FY (fs ρ) fun ws=>g xs ws:=by
 show(FY (fa ρ) fun x=>fun(Q:W->Prop)=>∃xs,x.dat=some (.list xs)/\fs ρ fun ws=>g xs ws Q)=_;congr 1;funext x;refine ag fun Q=>?_;rw[ai];simp only[iC];exact K7
noncomputable def qe:List Hi->List W->(W->Prop)->Prop:=fun xs ws Q=>∃(bs:List Bool)(k:Bool),xs=bs.map .bool/\ws=[.d (.bool k)]/\Q (.d (.int (bs.count k)))
theorem m_gCountB(xs:List Hi)(w:W):qe xs [w]=aJ (uw xs) fun bs=>aJ (asB w) fun k=>ret (.d (.int (bs.count k))):=by
 refine ag fun Q=>?_;simp only[qe,ai,gZ,ret,Ie,and_true];constructor
 · rintro⟨bs,k,rfl,e,q⟩;exact⟨bs,blsD_map bs,k,e,q⟩
 · rintro⟨bs,e,k,e',q⟩;exact⟨bs,k,lw e,e',q⟩
noncomputable def zi:W->W->(W->Prop)->Prop:=fun x y Q=>∃b c,x = .d (.bool b)/\y = .d (.bool c)/\Q (.d (.bool (b != c)))
theorem m_gNotB(x y:W):zi x y=aJ (asB x) fun i=>aJ (asB y) fun j=>ret (.d (.bool (i != j))):=by
 refine ag fun Q=>?_;simp only[ai,gZ,zi,ret];exact⟨fun⟨i,j,a,b,q⟩=>⟨i,a,j,b,q⟩,fun⟨i,a,j,b,q⟩=>⟨i,j,a,b,q⟩⟩
end
end L2.VL
namespace L2
section
variable{X:Cx}{pos:Pos}
end
end L2
namespace L2.VL
section
variable{X:Cx}{rl:RlT}{es:List Expr}{pos:Pos}{ρ:En}
noncomputable def C5(n:Nat)(gs:nS):Gn:=fun x ρ Q=>∃xs,x = .list xs/\xs.length=n/\gs xs ρ Q
theorem m_hLst(n:Nat){gs:nS}(x:Hi):C5 n gs x ρ=aJ (lstD x) fun xs=>FO (xs.length=n) (gs xs ρ):=by
 refine ag fun Q=>?_;simp only[ai,wb,C5,FO]
end
section
variable{α:Type}{a0 a1 a2 a3 a4 a5 a6 a7 a8 a9 a10 a11 a12 a13 a14 a15 a16 a17 a18 a19 x y:α}{l:List α}
theorem gt0:(x::l)[0]?=some x:=nr rfl
theorem st0:(x::l).set 0 y=y::l:=nr rfl
theorem gt1:(a0::x::l)[1]?=some x:=nr rfl
theorem st1:(a0::x::l).set 1 y=a0::y::l:=nr rfl
theorem gt2:(a0::a1::x::l)[2]?=some x:=nr rfl
theorem st2:(a0::a1::x::l).set 2 y=a0::a1::y::l:=nr rfl
theorem gt3:(a0::a1::a2::x::l)[3]?=some x:=nr rfl
theorem st3:(a0::a1::a2::x::l).set 3 y=a0::a1::a2::y::l:=nr rfl
theorem gt4:(a0::a1::a2::a3::x::l)[4]?=some x:=nr rfl
theorem st4:(a0::a1::a2::a3::x::l).set 4 y=a0::a1::a2::a3::y::l:=nr rfl
theorem gt5:(a0::a1::a2::a3::a4::x::l)[5]?=some x:=nr rfl
theorem st5:(a0::a1::a2::a3::a4::x::l).set 5 y=a0::a1::a2::a3::a4::y::l:=nr rfl
theorem gt6:(a0::a1::a2::a3::a4::a5::x::l)[6]?=some x:=nr rfl
theorem st6:(a0::a1::a2::a3::a4::a5::x::l).set 6 y=a0::a1::a2::a3::a4::a5::y::l:=nr rfl
theorem gt7:(a0::a1::a2::a3::a4::a5::a6::x::l)[7]?=some x:=nr rfl
theorem st7:(a0::a1::a2::a3::a4::a5::a6::x::l).set 7 y=a0::a1::a2::a3::a4::a5::a6::y::l:=nr rfl
theorem gt8:(a0::a1::a2::a3::a4::a5::a6::a7::x::l)[8]?=some x:=nr rfl
theorem st8:(a0::a1::a2::a3::a4::a5::a6::a7::x::l).set 8 y=a0::a1::a2::a3::a4::a5::a6::a7::y::l:=nr rfl
theorem gt9:(a0::a1::a2::a3::a4::a5::a6::a7::a8::x::l)[9]?=some x:=nr rfl
theorem st9:(a0::a1::a2::a3::a4::a5::a6::a7::a8::x::l).set 9 y=a0::a1::a2::a3::a4::a5::a6::a7::a8::y::l:=nr rfl
theorem gt10:(a0::a1::a2::a3::a4::a5::a6::a7::a8::a9::x::l)[10]?=some x:=nr rfl
theorem st10:(a0::a1::a2::a3::a4::a5::a6::a7::a8::a9::x::l).set 10 y=a0::a1::a2::a3::a4::a5::a6::a7::a8::a9::y::l:=nr rfl
theorem gt11:(a0::a1::a2::a3::a4::a5::a6::a7::a8::a9::a10::x::l)[11]?=some x:=nr rfl
theorem st11:(a0::a1::a2::a3::a4::a5::a6::a7::a8::a9::a10::x::l).set 11 y=a0::a1::a2::a3::a4::a5::a6::a7::a8::a9::a10::y::l:=nr rfl
theorem gt12:(a0::a1::a2::a3::a4::a5::a6::a7::a8::a9::a10::a11::x::l)[12]?=some x:=nr rfl
theorem st12:(a0::a1::a2::a3::a4::a5::a6::a7::a8::a9::a10::a11::x::l).set 12 y=a0::a1::a2::a3::a4::a5::a6::a7::a8::a9::a10::a11::y::l:=nr rfl
theorem gt13:(a0::a1::a2::a3::a4::a5::a6::a7::a8::a9::a10::a11::a12::x::l)[13]?=some x:=nr rfl
theorem st13:(a0::a1::a2::a3::a4::a5::a6::a7::a8::a9::a10::a11::a12::x::l).set 13 y=a0::a1::a2::a3::a4::a5::a6::a7::a8::a9::a10::a11::a12::y::l:=nr rfl
theorem gt14:(a0::a1::a2::a3::a4::a5::a6::a7::a8::a9::a10::a11::a12::a13::x::l)[14]?=some x:=nr rfl
theorem st14:(a0::a1::a2::a3::a4::a5::a6::a7::a8::a9::a10::a11::a12::a13::x::l).set 14 y=a0::a1::a2::a3::a4::a5::a6::a7::a8::a9::a10::a11::a12::a13::y::l:=nr rfl
theorem gt15:(a0::a1::a2::a3::a4::a5::a6::a7::a8::a9::a10::a11::a12::a13::a14::x::l)[15]?=some x:=nr rfl
theorem st15:(a0::a1::a2::a3::a4::a5::a6::a7::a8::a9::a10::a11::a12::a13::a14::x::l).set 15 y=a0::a1::a2::a3::a4::a5::a6::a7::a8::a9::a10::a11::a12::a13::a14::y::l:=nr rfl
theorem gt16:(a0::a1::a2::a3::a4::a5::a6::a7::a8::a9::a10::a11::a12::a13::a14::a15::x::l)[16]?=some x:=nr rfl
theorem st16:(a0::a1::a2::a3::a4::a5::a6::a7::a8::a9::a10::a11::a12::a13::a14::a15::x::l).set 16 y=a0::a1::a2::a3::a4::a5::a6::a7::a8::a9::a10::a11::a12::a13::a14::a15::y::l:=nr rfl
theorem gt17:(a0::a1::a2::a3::a4::a5::a6::a7::a8::a9::a10::a11::a12::a13::a14::a15::a16::x::l)[17]?=some x:=nr rfl
theorem st17:(a0::a1::a2::a3::a4::a5::a6::a7::a8::a9::a10::a11::a12::a13::a14::a15::a16::x::l).set 17 y=a0::a1::a2::a3::a4::a5::a6::a7::a8::a9::a10::a11::a12::a13::a14::a15::a16::y::l:=nr rfl
theorem gt18:(a0::a1::a2::a3::a4::a5::a6::a7::a8::a9::a10::a11::a12::a13::a14::a15::a16::a17::x::l)[18]?=some x:=nr rfl
theorem st18:(a0::a1::a2::a3::a4::a5::a6::a7::a8::a9::a10::a11::a12::a13::a14::a15::a16::a17::x::l).set 18 y=a0::a1::a2::a3::a4::a5::a6::a7::a8::a9::a10::a11::a12::a13::a14::a15::a16::a17::y::l:=nr rfl
theorem gt19:(a0::a1::a2::a3::a4::a5::a6::a7::a8::a9::a10::a11::a12::a13::a14::a15::a16::a17::a18::x::l)[19]?=some x:=nr rfl
theorem st19:(a0::a1::a2::a3::a4::a5::a6::a7::a8::a9::a10::a11::a12::a13::a14::a15::a16::a17::a18::x::l).set 19 y=a0::a1::a2::a3::a4::a5::a6::a7::a8::a9::a10::a11::a12::a13::a14::a15::a16::a17::a18::y::l:=nr rfl
end
section
variable{a0 a1 a2 a3 a4 a5 a6 a7 a8 a9 a10 a11 a12 a13 a14 a15 a16 a17 a18 a19:Option W}{w:W}{l:En}
theorem vv0:gi 0 (some w::l)=ret w.peek:=(cF 0).trans rfl
theorem vv1:gi 1 (a0::some w::l)=ret w.peek:=(cF 1).trans rfl
theorem vv2:gi 2 (a0::a1::some w::l)=ret w.peek:=(cF 2).trans rfl
theorem vv3:gi 3 (a0::a1::a2::some w::l)=ret w.peek:=(cF 3).trans rfl
theorem vv4:gi 4 (a0::a1::a2::a3::some w::l)=ret w.peek:=(cF 4).trans rfl
theorem vv5:gi 5 (a0::a1::a2::a3::a4::some w::l)=ret w.peek:=(cF 5).trans rfl
theorem vv6:gi 6 (a0::a1::a2::a3::a4::a5::some w::l)=ret w.peek:=(cF 6).trans rfl
theorem vv7:gi 7 (a0::a1::a2::a3::a4::a5::a6::some w::l)=ret w.peek:=(cF 7).trans rfl
theorem vv8:gi 8 (a0::a1::a2::a3::a4::a5::a6::a7::some w::l)=ret w.peek:=(cF 8).trans rfl
theorem vv9:gi 9 (a0::a1::a2::a3::a4::a5::a6::a7::a8::some w::l)=ret w.peek:=(cF 9).trans rfl
theorem vv10:gi 10 (a0::a1::a2::a3::a4::a5::a6::a7::a8::a9::some w::l)=ret w.peek:=(cF 10).trans rfl
theorem vv11:gi 11 (a0::a1::a2::a3::a4::a5::a6::a7::a8::a9::a10::some w::l)=ret w.peek:=(cF 11).trans rfl
theorem vv12:gi 12 (a0::a1::a2::a3::a4::a5::a6::a7::a8::a9::a10::a11::some w::l)=ret w.peek:=(cF 12).trans rfl
theorem vv13:gi 13 (a0::a1::a2::a3::a4::a5::a6::a7::a8::a9::a10::a11::a12::some w::l)=ret w.peek:=(cF 13).trans rfl
theorem vv14:gi 14 (a0::a1::a2::a3::a4::a5::a6::a7::a8::a9::a10::a11::a12::a13::some w::l)=ret w.peek:=(cF 14).trans rfl
theorem vv15:gi 15 (a0::a1::a2::a3::a4::a5::a6::a7::a8::a9::a10::a11::a12::a13::a14::some w::l)=ret w.peek:=(cF 15).trans rfl
theorem vv16:gi 16 (a0::a1::a2::a3::a4::a5::a6::a7::a8::a9::a10::a11::a12::a13::a14::a15::some w::l)=ret w.peek:=(cF 16).trans rfl
theorem vv17:gi 17 (a0::a1::a2::a3::a4::a5::a6::a7::a8::a9::a10::a11::a12::a13::a14::a15::a16::some w::l)=ret w.peek:=(cF 17).trans rfl
theorem vv18:gi 18 (a0::a1::a2::a3::a4::a5::a6::a7::a8::a9::a10::a11::a12::a13::a14::a15::a16::a17::some w::l)=ret w.peek:=(cF 18).trans rfl
theorem vv19:gi 19 (a0::a1::a2::a3::a4::a5::a6::a7::a8::a9::a10::a11::a12::a13::a14::a15::a16::a17::a18::some w::l)=ret w.peek:=(cF 19).trans rfl
end
section
variable{f1 f2 f3 f4 f5 f6 f7 f8 f9:TV}{fs:Gi}{ρ:En}
theorem vk1:bh f1 om ρ=FY (f1 ρ) fun w1=>ret [w1.fz]:=nr rfl
theorem vk2:(bh f1 (bh f2 om)) ρ=FY (f1 ρ) fun w1=>FY (f2 ρ) fun w2=>ret [w1.fz,w2.fz]:=nr rfl
theorem vk3:(bh f1 (bh f2 (bh f3 om))) ρ=FY (f1 ρ) fun w1=>FY (f2 ρ) fun w2=>FY (f3 ρ) fun w3=>ret [w1.fz,w2.fz,w3.fz]:=nr rfl
theorem vk4:(bh f1 (bh f2 (bh f3 (bh f4 om)))) ρ=FY (f1 ρ) fun w1=>FY (f2 ρ) fun w2=>FY (f3 ρ) fun w3=>FY (f4 ρ) fun w4=>ret [w1.fz,w2.fz,w3.fz,w4.fz]:=nr rfl
theorem vk5:(bh f1 (bh f2 (bh f3 (bh f4 (bh f5 om))))) ρ=FY (f1 ρ) fun w1=>FY (f2 ρ) fun w2=>FY (f3 ρ) fun w3=>FY (f4 ρ) fun w4=>FY (f5 ρ) fun w5=>ret [w1.fz,w2.fz,w3.fz,w4.fz,w5.fz]:=nr rfl
theorem vk6:(bh f1 (bh f2 (bh f3 (bh f4 (bh f5 (bh f6 om)))))) ρ=FY (f1 ρ) fun w1=>FY (f2 ρ) fun w2=>FY (f3 ρ) fun w3=>FY (f4 ρ) fun w4=>FY (f5 ρ) fun w5=>FY (f6 ρ) fun w6=>ret [w1.fz,w2.fz,w3.fz,w4.fz,w5.fz,w6.fz]:=nr rfl
theorem vk7:(bh f1 (bh f2 (bh f3 (bh f4 (bh f5 (bh f6 (bh f7 om))))))) ρ=FY (f1 ρ) fun w1=>FY (f2 ρ) fun w2=>FY (f3 ρ) fun w3=>FY (f4 ρ) fun w4=>FY (f5 ρ) fun w5=>FY (f6 ρ) fun w6=>FY (f7 ρ) fun w7=>ret [w1.fz,w2.fz,w3.fz,w4.fz,w5.fz,w6.fz,w7.fz]:=nr rfl
theorem vk8:(bh f1 (bh f2 (bh f3 (bh f4 (bh f5 (bh f6 (bh f7 (bh f8 om)))))))) ρ=FY (f1 ρ) fun w1=>FY (f2 ρ) fun w2=>FY (f3 ρ) fun w3=>FY (f4 ρ) fun w4=>FY (f5 ρ) fun w5=>FY (f6 ρ) fun w6=>FY (f7 ρ) fun w7=>FY (f8 ρ) fun w8=>ret [w1.fz,w2.fz,w3.fz,w4.fz,w5.fz,w6.fz,w7.fz,w8.fz]:=nr rfl
theorem vk9:(bh f1 (bh f2 (bh f3 (bh f4 (bh f5 (bh f6 (bh f7 (bh f8 (bh f9 fs))))))))) ρ=FY (f1 ρ) fun w1=>FY (f2 ρ) fun w2=>FY (f3 ρ) fun w3=>FY (f4 ρ) fun w4=>FY (f5 ρ) fun w5=>FY (f6 ρ) fun w6=>FY (f7 ρ) fun w7=>FY (f8 ρ) fun w8=>FY (bh f9 fs ρ) fun ws=>ret (w1.fz::w2.fz::w3.fz::w4.fz::w5.fz::w6.fz::w7.fz::w8.fz::ws):=nr rfl
theorem vk0:om ρ=ret []:=nr rfl
end
noncomputable def BP:=Hj @bnd_tt (Hj @bnd_ret (Hj @bnd_bnd (Hj @bnd_grd (Hj @bnd_stk (Hj @bnd_ite (Hj @bnd_opt (Hj @opt_some (Hj @opt_none (Hj @grd_T (Hj @sq_nx (Hj @sq_rt (Hj @sq_bk (Hj @sq_ct (Hj @sq_grd (Hj @sq_stk (Hj @sq_ite (Hj @sq_sq (@kc_ap))))))))))))))))))
noncomputable def BS:=Hj @ite_nx (Hj @ite_rt (Hj @ite_retd (Hj @ite_retb (Hj @ite_rets (Hj @ite_cons (Hj @ite_some (Hj @ite_d (Hj @ite_pi (Hj @ite_pb (Hj @itb_tt (Hj @itb_ff (Hj @itb_ft (Hj @itb_tf (@ite_self.{1}))))))))))))))
noncomputable def BW:=Hj @m_vC (Hj @m_vOp (Hj @m_gI (Hj @m_gI0 (Hj @m_vNeg (Hj @m_vTest (Hj @m_gEqD (Hj @m_gInD (Hj @m_vAnd (Hj @m_vOr (Hj @m_vNot (Hj @m_vAndV (Hj @m_vOrV (Hj @m_vNotV (Hj @m_vIf (Hj @m_vTup (Hj @m_vLst (Hj @m_gIx (Hj @m_vCall (Hj @m_gAbs (Hj @m_gLen (Hj @m_gRepr (Hj @m_gIsi (@m_gStrI)))))))))))))))))))))))
noncomputable def BV:=Hj @m_gTupO (Hj @m_gLstO (Hj @m_gIsB (Hj @m_gIsN (Hj @m_gI2 (Hj @m_gDivmod (Hj @m_gInt1 (Hj @m_oNo (Hj @m_oIt (Hj @m_vSlL (Hj @m_vSlA (Hj @m_gCatD (Hj @m_gCatA (Hj @m_vChain (Hj @m_vLR1 (Hj @m_vLR2 (Hj @m_vTR1 (Hj @m_iL (Hj @m_iT (Hj @m_iR1 (Hj @m_iR2 (Hj @m_iZb (Hj @m_vUse (@m_vUseL)))))))))))))))))))))))
noncomputable def BU:=Hj @m_gAll (Hj @m_gRepT (Hj @m_gRepL (Hj @m_vRevT (Hj @m_vRevL (Hj @m_gEqS (Hj @m_vTGet (Hj @m_gSrtT (Hj @m_comp (Hj @m_gLenS (Hj @m_gIxS (Hj @m_vSlS (Hj @m_hLst (Hj @m_vML (Hj @m_gCountB (@m_gNotB)))))))))))))))
noncomputable def BH:=Hj @s_next (Hj @s_seq (Hj @s_drop (Hj @s_ret (Hj @s_retN (Hj @s_ifS (Hj @s_set (Hj @s_setZ (Hj @s_never (Hj @s_asg (Hj @s_par (Hj @s_par3 (Hj @s_aug (Hj @s_augL (Hj @s_frz (Hj @s_mut (Hj @s_retO (Hj @s_appPop (Hj @s_for (Hj @bdy_ap (Hj @s_while (Hj @s_newR (Hj @m_hName (@m_hNil_n)))))))))))))))))))))))
noncomputable def BG:=Hj @m_hCons_c (Hj @m_hTup (Hj @m_gApp (@m_gExt)))
noncomputable def BK:=Hj @pk_sc (Hj @fz_sc (Hj @arg_sc (Hj @isPk_sc (Hj @asI_d (Hj @asB_d (Hj @asS_d (Hj @asD_d (Hj @asT_d (Hj @asL_d (Hj @asL_ml (Hj @asL_pk (Hj @asQ_d (Hj @asQ_ml (Hj @asQ_pk (Hj @lstD_l (Hj @tupD_t (Hj @toI_i (Hj @toI_b (Hj @isiT_t (Hj @asM_ml (Hj @asSc_s (Hj @two_d (@fz_d)))))))))))))))))))))))
noncomputable def BJ:=Hj @fz_ml (Hj @fz_pk (Hj @fz_reel (Hj @fz_vv (Hj @pk_d (Hj @pk_ml (Hj @pk_reel (Hj @pk_vv (Hj @dat_d (Hj @dat_ml (Hj @dat_pk (Hj @isPk_d (Hj @isPk_ml (Hj @isPk_reel (Hj @dats_nil (Hj @dats_d (Hj @arg_d (Hj @arg_reel (Hj @item_l (Hj @item_t (Hj @len_l (Hj @len_t (Hj @seq_l (@seq_t)))))))))))))))))))))))
noncomputable def BI:=Hj @at0 (Hj @at1 (Hj @blsD_map (Hj @tup2 (Hj @fo_nil (Hj @fo_cons (Hj @nR_nil (Hj @nR_r (Hj @nR_n (Hj @nR_d (Hj @nR_ml (Hj @nR_sc (Hj @le_nil (Hj @le_cn (Hj @le_cs (Hj @end_d (Hj @end_ml (Hj @end_nx (@un_law))))))))))))))))))
noncomputable def BR:=Hj @HE.{0,0} (Hj @Jr.{0,0} (Hj @Il.{0} (Hj @MI.{0} (Hj @List.set_nil.{0} (Hj @Lq.{0} (Hj @MM.{0} (Hj @Lw.{0} (Hj @List.all_nil.{0} (Hj @List.head?_cons.{0} (Hj @Bool.and_true (Hj @Option.some.injEq.{0} (Hj @Option.map_some.{0,0} (Hj @Option.bind_some.{0,0} (Hj @Option.bind_none.{0,0} (Hj @Option.join_some.{0} (Hj @Option.join_none.{0} (Hj @Km (Hj @and_self (Hj @and_true (Hj @true_and (Hj @shaped_i (Hj @eqv_ii (@shaped_b)))))))))))))))))))))))
noncomputable def BQ:=Hj @NE (Hj @Bool.and_self (Hj @Bool.not_true (Hj @Bool.not_false (Hj @Hs.{0,0} (Hj @JE (Hj @Bool.true_eq_false (Hj @decide_true (Hj @decide_false (Hj @List.isEmpty_cons.{0} (Hj @List.isEmpty_nil.{0} (@List.isEmpty_map.{0,0})))))))))))
noncomputable def BO:=Hj @gt0 (Hj @gt1 (Hj @gt2 (Hj @gt3 (Hj @gt4 (Hj @gt5 (Hj @gt6 (Hj @gt7 (Hj @gt8 (Hj @gt9 (Hj @gt10 (Hj @gt11 (Hj @gt12 (Hj @gt13 (Hj @gt14 (Hj @gt15 (Hj @gt16 (Hj @gt17 (Hj @gt18 (Hj @gt19 (Hj @st0 (Hj @st1 (Hj @st2 (@st3)))))))))))))))))))))))
noncomputable def BN:=Hj @st4 (Hj @st5 (Hj @st6 (Hj @st7 (Hj @st8 (Hj @st9 (Hj @st10 (Hj @st11 (Hj @st12 (Hj @st13 (Hj @st14 (Hj @st15 (Hj @st16 (Hj @st17 (Hj @st18 (Hj @st19 (Hj @vv0 (Hj @vv1 (Hj @vv2 (Hj @vv3 (Hj @vv4 (Hj @vv5 (Hj @vv6 (@vv7)))))))))))))))))))))))
noncomputable def BL:=Hj @vv8 (Hj @vv9 (Hj @vv10 (Hj @vv11 (Hj @vv12 (Hj @vv13 (Hj @vv14 (Hj @vv15 (Hj @vv16 (Hj @vv17 (Hj @vv18 (Hj @vv19 (Hj @vk0 (Hj @vk1 (Hj @vk2 (Hj @vk3 (Hj @vk4 (Hj @vk5 (Hj @vk6 (Hj @vk7 (Hj @vk8 (@vk9)))))))))))))))))))))
section
variable{α β:Type}
end
section
variable{X:Cx}{rl:RlT}{e:Expr}{fa:TV}{pos dpos q1 q2 q3 q4:Pos}{ρ:En}{j1 j2 j3 j4:Nat}{a b x y:Str}
end
theorem Gx.pay{a:Option Addr}{b b':Nat}{F H:Hp}(r:Gx ⟨a,b⟩ F H)(h:b'<=b):Gx ⟨a,b'⟩ F H:=fun x e=>by
 obtain⟨z,⟨o,q,ro⟩⟩:=r x e;exact⟨z,⟨o,q,ro.pay h⟩⟩
theorem Grow.pay{a:Option Addr}{b b':Nat}{F H F' H':Hp}(g:Grow ⟨a,b⟩ F H F' H')(h:b'<=b):Grow ⟨a,b'⟩ F H F' H':=⟨g.same,g.fs,g.sub,g.old,g.reel.pay h⟩
theorem Grow.tr{a:Option Addr}{b b':Nat}{F1 H1 F2 H2:Hp}(g:Grow ⟨a,b⟩ F H F1 H1)(g':Grow ⟨a,b'⟩ F1 H1 F2 H2):Grow ⟨a,b'⟩ F H F2 H2 :=
 ⟨fun c o e n=>g'.same c o (g.same c o e n) n,g.fs.trans g'.fs,g'.sub,fun c o e=>by obtain⟨o',e'⟩:=g.live e;rw[g'.old c o' e',g.old c o e],g'.reel⟩
theorem dB.on{K:W.Frag}{a:Option Addr}{b b':Nat}{w:W}(r:dB K ⟨a,b⟩ F H v w):dB K ⟨a,b'⟩ F H v w:=by cases w<;>exact r
theorem dB.gr{K:W.Frag}{a:Option Addr}{b b' b2:Nat}{w:W}(g:Grow ⟨a,b'⟩ F H F' H')(r:dB K ⟨a,b⟩ F H v w):dB K ⟨a,b2⟩ F' H' v w:=((r.on (b':=b')).grow g).on
theorem VR.gr{K:W.Frag}{a:Option Addr}{b b':Nat}{F₀ H₀ F H F' H':Hp}{σ:St}{ρ:En}(r:VR K ⟨a,b⟩ F₀ H₀ F H σ ρ)(g:Grow ⟨a,b'⟩ F H F' H'):VR K ⟨a,b'⟩ F₀ H₀ F' H' σ ρ :=
 ⟨r.g.tr g,fun i w e=>let ⟨v,e1,e2,e3⟩:=r.sl i w e;⟨v,e1,e2.gr g,e3⟩,r.ap,r.np,r.len⟩
theorem VR.pay{K:W.Frag}{a:Option Addr}{b b':Nat}{F₀ H₀ F H:Hp}{σ:St}{ρ:En}(r:VR K ⟨a,b⟩ F₀ H₀ F H σ ρ)(h:b'<=b):VR K ⟨a,b'⟩ F₀ H₀ F H σ ρ:=r.gr ((Grow.refl r.sub r.reel).pay h)
theorem EndsOk.pay{K:W.Frag}{a:Option Addr}{b b':Nat}{F₀ H₀ Fs:Hp}{Dv:VEnds}{D:Ends}(ok:EndsOk K ⟨a,b'⟩ F₀ H₀ Fs Dv D)(h:b'<=b):EndsOk K ⟨a,b⟩ F₀ H₀ Fs Dv D :=
 ⟨fun F H σ ρ s R=>ok.nx F H σ ρ s (R.pay h),fun v w F H g r n=>ok.rt v w F H (g.pay h) r.on n,fun F H σ ρ s R=>ok.bk F H σ ρ s (R.pay h),fun F H σ ρ s R=>ok.ct F H σ ρ s (R.pay h)⟩
noncomputable def CV(X:Cx)(al:Option Addr)(c:Nat)(e:Expr)(f:TV):Prop:=∃t,PE X e t/\∀{b:Nat}{F₀ H₀ F H:Hp}{σ:St}{ρ:En},VR X.K ⟨al,b+c⟩ F₀ H₀ F H σ ρ->∀(Qd:W->Prop)(Q:VK),f ρ Qd ->
 (∀v w F' H',Grow ⟨al,b⟩ F H F' H'->dB X.K ⟨al,b⟩ F' H' v w->eB H v w->Qd w->Q v H')->t σ H Q
noncomputable def CB(X:Cx)(al:Option Addr)(c:Nat)(e:Expr)(f:TB):Prop:=∃t,PT X e t/\∀{b:Nat}{F₀ H₀ F H:Hp}{σ:St}{ρ:En},VR X.K ⟨al,b+c⟩ F₀ H₀ F H σ ρ->∀(Qd:Bool->Prop)(Q:Bool->Hp->Prop),f ρ Qd ->
 (∀k F' H',Grow ⟨al,b⟩ F H F' H'->Qd k->Q k H')->t σ H Q
noncomputable def Ha(X:Cx)(al:Option Addr)(c:Nat)(e:Expr)(f:TB):Prop:=∃t,PW X e t/\∀{b:Nat}{F₀ H₀ F H:Hp}{σ:St}{ρ:En},VR X.K ⟨al,b+c⟩ F₀ H₀ F H σ ρ->∀(Qd:Bool->Prop)(Q:Bool->Hp->Prop),f ρ Qd ->
 (∀k F' H',Grow ⟨al,b⟩ F H F' H'->Qd k->Q k H')->t σ H Q
noncomputable def G7(X:Cx)(al:Option Addr)(c:Nat)(es:List Expr)(f:Gi):Prop:=∃t,PA X es t/\∀{b:Nat}{F₀ H₀ F H:Hp}{σ:St}{ρ:En},VR X.K ⟨al,b+c⟩ F₀ H₀ F H σ ρ->∀(Qd:List W->Prop)(Q:List V->Hp->Prop),f ρ Qd ->
 (∀vs ws F' H',Grow ⟨al,b⟩ F H F' H'->fF X.K ⟨al,b⟩ F' H' vs ws->Qd ws->Q vs H')->t σ H Q
noncomputable def CS(X:Cx)(al:Option Addr)(c:Nat)(st:Stmt)(t:Gj):Prop:=∃T,PS X st T/\∀{b:Nat}{F₀ H₀ F H:Hp}{σ:St}{ρ:En},VR X.K ⟨al,b+c⟩ F₀ H₀ F H σ ρ->∀Dv D,EndsOk X.K ⟨al,b⟩ F₀ H₀ F Dv D->t Dv ρ->T D σ H
noncomputable def G9(X:Cx)(al:Option Addr)(c:Nat)(st:List Stmt)(t:Gj):Prop:=∃T,GC X st T/\∀{b:Nat}{F₀ H₀ F H:Hp}{σ:St}{ρ:En},VR X.K ⟨al,b+c⟩ F₀ H₀ F H σ ρ->∀Dv D,EndsOk X.K ⟨al,b⟩ F₀ H₀ F Dv D->t Dv ρ->T D σ H
noncomputable def CI(X:Cx)(al:Option Addr)(c:Nat)(tg iter:Expr)(fi:En->(List Hi->Prop)->Prop):Prop:=∃wi,PI X tg iter wi/\∀{b:Nat}{F₀ H₀ F H:Hp}{σ:St}{ρ:En},VR X.K ⟨al,b+c⟩ F₀ H₀ F H σ ρ->∀(Qd:List Hi->Prop)(R:It->Hp->Prop),fi ρ Qd ->
 (∀J xs F' H',Grow ⟨al,b⟩ F H F' H'->(∀b',VIt X.K ⟨al,b'⟩ F' J xs)->Qd xs->R J H')->wi σ H R
section
variable{X:Cx}{al:Option Addr}{c c1 c2 c3:Nat}{st:Stmt}{rest body:List Stmt}{t u:Gj}{a b e ec:Expr}{es:List Expr}{fa fb:TV}{fs:Gi}{f g:TB}{pos p:Pos}
theorem cv(h:∀n,PV X ⟨al,n⟩ e fa):CV X al 0 e fa :=
 ⟨fun σ H Q=>∃n,HR (h n) σ H Q,fun pins s σ H Q I ⟨n,z⟩=>(Hm (h n)).1 pins s σ H Q I z,fun{b F₀ H₀ F H σ ρ} R Qd Q q k=>⟨b,(Hm (h b)).2 R Qd Q q k⟩⟩
theorem cb(h:∀n,PB X ⟨al,n⟩ e f):CB X al 0 e f :=
 ⟨fun σ H Q=>∃n,HR (h n) σ H Q,fun pins s σ H Q I ⟨n,z⟩=>(Hm (h n)).1 pins s σ H Q I z,fun{b F₀ H₀ F H σ ρ} R Qd Q q k=>⟨b,(Hm (h b)).2 R Qd Q q k⟩⟩
theorem FU(h:∀n,Gz X ⟨al,n⟩ es fs):G7 X al 0 es fs :=
 ⟨fun σ H Q=>∃n,HR (h n) σ H Q,fun p pins s σ H Q I ⟨n,z⟩=>(Hm (h n)).1 p pins s σ H Q I z,fun{b F₀ H₀ F H σ ρ} R Qd Q q k=>⟨b,(Hm (h b)).2 R Qd Q q k⟩⟩
theorem cs(h:∀n,GD X ⟨al,n⟩ st t):CS X al 0 st t :=
 ⟨fun D σ H=>∃n,HR (h n) D σ H,fun pins s σ H D I ⟨n,z⟩=>(Hm (h n)).1 pins s σ H D I z,fun{b F₀ H₀ F H σ ρ} R Dv D ok q=>⟨b,(Hm (h b)).2 R Dv D ok q⟩⟩
theorem FV(h:∀n,mY X ⟨al,n⟩ body t):G9 X al 0 body t :=
 ⟨fun D σ H=>∃n,HR (h n) D σ H,fun pins s σ H D I ⟨n,z⟩=>(Hm (h n)).1 pins s σ H D I z,fun{b F₀ H₀ F H σ ρ} R Dv D ok q=>⟨b,(Hm (h b)).2 R Dv D ok q⟩⟩
theorem VIt.on{K:W.Frag}{r r':RlT}{J:It}(h:VIt K r F J xs):VIt K r' F J xs:=⟨h.go,h.stop,h.yld⟩
theorem ci(h:∀n,GG X ⟨al,n⟩ tg iter fi):CI X al 0 tg iter fi :=
 ⟨fun σ H Q=>∃n,HR (h n) σ H Q,fun pins s σ H Q I ⟨n,z⟩=>(Hm (h n)).1 pins s σ H Q I z,fun{b F₀ H₀ F H σ ρ} R Qd Q q k=>⟨b,(Hm (h b)).2 R Qd Q q fun J xs F' H' g v=>k J xs F' H' g fun _=>v.on⟩⟩
theorem aN:G7 X al 0 [] om:=FU fun _=>ab
theorem aj(h1:CV X al c1 e fa)(h2:G7 X al c2 es fs)(hs:autoParam (HA (e::es) X.env=(false,eval e X.env)::HA es X.env) æa._auto_1):G7 X al (c1+c2) (e::es) (bh fa fs):=by
 obtain⟨t,p1,k1⟩:=h1;obtain⟨ts,p2,k2⟩:=h2;refine⟨_,pF p1 p2 hs,fun{n _ _ _ _ _ _} R Qd Q q k=>?_⟩;refine k1 (b:=n+c2) (R.pay (by omega)) _ _ q fun v w F1 H1 g1 r1 n1 q1=>?_;obtain⟨F2,g2,s2,r2⟩:=dB.fz g1 r1 n1;refine k2 (b:=n) (R.gr g2) _ _ q1 fun vs ws F3 H3 g3 r3 q3=>?_;exact k (v::vs) (w.fz::ws) F3 H3 (g2.tr g3) (.cons (r2.gr g3) r3) q3
theorem uv{r:R2}{g:W->W->(W->Prop)->Prop}(vo:∀n,Gg X ⟨al,n⟩ r g)(ha:CV X al c1 a fa)(hb:CV X al c2 b fb){e:Expr}(hp:∀ta tb,PE X a ta->PE X b tb->PE X e (EM r ta tb)):CV X al (c1+c2) e (Eu g fa fb):=by
 obtain⟨ta,p1,k1⟩:=ha;obtain⟨tb,p2,k2⟩:=hb;refine⟨_,hp ta tb p1 p2,fun{n _ _ _ _ _ _} R Qd Q q k=>?_⟩;refine k1 (b:=n+c2) (R.pay (by omega)) _ _ q fun v w F1 H1 g1 r1 n1 q1=>?_;refine k2 (b:=n) (R.gr g1) _ _ q1 fun v2 w2 F2 H2 g2 r2 n2 q2=>?_;exact vo n Qd Q g2.sub g2.reel (r1.gr g2) r2 q2 fun v3 w3 F3 H3 g3 r3 n3 q3=>k v3 w3 F3 H3 ((g1.tr g2).tr g3) r3 ((n3.back g2).back g1) q3
theorem zI{op:Nv}{r:R2}{g:W->W->(W->Prop)->Prop}(ho:GL X (Ka op) r)(vo:∀n,Gg X ⟨al,n⟩ r g)(ha:CV X al c1 a fa)(hb:CV X al c2 b fb):CV X al (c1+c2) (.BinOp a op b pos) (Eu g fa fb) :=
 uv vo ha hb fun _ _ p1 p2=>yD ho p1 p2
theorem wK(ha:CV X al c1 a fa)(hb:CV X al c2 b fb):CV X al (c1+c2) (.BinOp a .Add b pos) (Eu (FT fun i j=>.int (i+j)) fa fb):=zI ug (fun _=>dE fun _ _ _ _=>.int _) ha hb
theorem Bu(ha:CV X al c1 a fa)(hb:CV X al c2 b fb):CV X al (c1+c2) (.BinOp a .Sub b pos) (Eu (FT fun i j=>.int (i-j)) fa fb):=zI uf (fun _=>dE fun _ _ _ _=>.int _) ha hb
theorem wY(ha:CV X al c1 a fa)(hb:CV X al c2 b fb)(hs:autoParam (lE b) æg._auto_1):CV X al (c1+c2) (.Subscript a b pos) (Eu FR fa fb):=uv (fun _=>xk) ha hb fun _ _ p1 p2=>yH ul p1 p2 hs
theorem zG{r:R2}{g:W->W->(W->Prop)->Prop}(ho:GL X (Kh op) r)(vo:∀n,Gg X ⟨al,n⟩ r g)(hm:Kt op b=false)(ha:CV X al c1 a fa)(hb:CV X al c2 b fb):CB X al (c1+c2) (.Compare a [op] [b] pos) (mZ (Eu g fa fb)):=by
 obtain⟨ta,p1,k1⟩:=ha;obtain⟨tb,p2,k2⟩:=hb;refine⟨_,pd ho p1 p2 hm,fun{n _ _ _ _ _ _} R Qd Q q k=>?_⟩;refine k1 (b:=n+c2) (R.pay (by omega)) _ _ q fun v w F1 H1 g1 r1 n1 q1=>?_;refine k2 (b:=n) (R.gr g1) _ _ q1 fun v2 w2 F2 H2 g2 r2 n2 q2=>?_;refine vo n _ _ g2.sub g2.reel (r1.gr g2) r2 q2 fun v3 w3 F3 H3 g3 r3 n3 ⟨kb,ew,q3⟩=>?_;subst ew;exact⟨kb,eG r3,k kb F3 H3 ((g1.tr g2).tr g3) q3⟩
theorem zE(ha:CV X al c e fa)(he:autoParam (∀whole,isTrue e X.env whole=(do let v <- whole;Nk e.pos;holding [v] (truthy v))) æc._auto_1):CB X al c e (mZ fa):=by
 obtain⟨ta,p1,k1⟩:=ha;refine⟨_,t_ p1 he,fun R Qd Q q k=>k1 R _ _ q fun v w F1 H1 g1 r1 n1 ⟨kb,ew,q1⟩=>?_⟩;subst ew;exact⟨kb,eG r1,k kb F1 H1 g1 q1⟩
theorem zF(ha:CB X al c a f):CB X al c (.UnaryOp .Not a pos) (Au f):=by
 obtain⟨t,p,k⟩:=ha;exact⟨_,ua p,fun R Qd Q q h=>k R _ _ q fun c F1 H1 g1 q1=>h (!c) F1 H1 g1 q1⟩
theorem wI(ha:CB X al c a f):Ha X al c (.BoolOp .And [a] pos) f:=by
 obtain⟨t,p,k⟩:=ha;exact⟨t,o7 p,k⟩
theorem Ha.cb(h:Ha X al c e f):CB X al c e f:=by
 obtain⟨t,p,k⟩:=h;exact⟨t,p.pt,k⟩
theorem zH{rest:List Expr}(ha:CB X al c1 a f)(hb:Ha X al c2 (.BoolOp .And (b::rest) pos) g):Ha X al (c1+c2) (.BoolOp .And (a::b::rest) pos) (zX f g):=by
 obtain⟨t,p,k⟩:=ha;obtain⟨t2,p2,k2⟩:=hb;refine⟨_,t7 p p2,fun{n _ _ _ _ _ _} R Qd Q q h=>k (b:=n+c2) (R.pay (by omega)) _ _ q fun c F1 H1 g1 q1=>?_⟩
 cases c with
 | true=>exact k2 (b:=n) (R.gr g1) _ _ q1 fun c F2 H2 g2 q2=>h c F2 H2 (g1.tr g2) q2
 | false=>exact h false F1 H1 (g1.pay (by omega)) q1
theorem Bt{x1}(h:G7 X al c es fs):CV X al c (.Tuple es x1 pos) (zT fs):=by
 obtain⟨t,p,k⟩:=h;refine⟨_,ud p,fun R Qd Q q h=>k R _ _ q fun vs ws F1 H1 g1 r1 ⟨ds,e1,z,q1⟩=>?_⟩;have rs:=eh r1 e1;refine⟨by rw[rs.length];exact z,fun p hp=>?_⟩;have g2:=g1.tr (Grow.data (a:=p) (o:=.tup vs) g1.sub g1.reel hp);exact h _ (.d (.tuple ds)) _ _ g2 (.tup (.inl (.inl aG)) (rs.mono (Grow.data (o:=.tup vs) g1.sub g1.reel hp).fs)) trivial q1
theorem s_{g:List W->(W->Prop)->Prop}(vc:∀n,fP X ⟨al,n⟩ r g)(ha:G7 X al c es fs){e:Expr}(hp:∀ta,PA X es ta->PE X e (EQ r ta)):CV X al c e (eA g fs):=by
 obtain⟨ta,p1,k1⟩:=ha;refine⟨_,hp ta p1,fun{n _ _ _ _ _ _} R Qd Q q k=>k1 R _ _ q fun vs ws F1 H1 g1 r1 q1=>?_⟩;exact vc n Qd Q g1.sub g1.reel r1 q1 fun v w F2 H2 g2 r2 n2 q2=>k v w F2 H2 (g1.tr g2) r2 (n2.back g1) q2
theorem tq{T:String}{g:List W->(W->Prop)->Prop}(hc:fG X (.type T) r)(vc:∀n,fP X ⟨al,n⟩ r g)(hm:X.mg x=none)(hv:Kp x=some (.type T))(ha:G7 X al c (e::es) fs)(hg:autoParam (Gl X x) æa._auto_1)(hn:autoParam (x ≠ "__name__") æb._auto_1)(hdb:autoParam ((x==("__debug__" : Str))=false) æb._auto_1)
 (he:autoParam (HA (e::es) X.env=(false,eval e X.env)::HA es X.env) æa._auto_1)(hpl:autoParam ((Jl pos (HA es X.env)).any (·.1)=false) æa._auto_1):CV X al c (.Call (.Name x p) (e::es) [] pos) (eA g fs) :=
 s_ vc ha fun _ p1=>jO hc hg hm hv p1 hn hdb he hpl
theorem jn(hm:X.mg "tuple" = none)(ha:G7 X al c [a] fs)(hg:autoParam (Gl X "tuple") æa._auto_1)(he:autoParam (HA [a] X.env=(false,eval a X.env)::HA [] X.env) æa._auto_1)(hpl:autoParam ((Jl pos (HA [] X.env)).any (·.1)=false) æa._auto_1) :
 CV X al c (.Call (.Name "tuple" p) [a] [] pos) (eA qa fs):=tq fD (fun _=>tK) hm (by rfl) ha hg (by decide) (by decide) he hpl
theorem mN:G9 X al 0 [] uT:=FV fun _=>c7
theorem cN(h:CS X al c st t):G9 X al c [st] t:=by
 obtain⟨T,p,k⟩:=h;exact⟨T,kX p,k⟩
theorem aD(h:CS X al c1 st t)(h2:G9 X al c2 rest u):G9 X al (c1+c2) (st::rest) (zU t u):=by
 obtain⟨T,p,k⟩:=h;obtain⟨T2,p2,k2⟩:=h2;refine⟨_,eW p p2,fun{n _ _ _ _ _ _} R Dv D ok q=>k (b:=n+c2) (R.pay (by omega)) {Dv with nx:=u Dv} {D with nx:=T2 D} ?_ q⟩;have o2:=ok.pay (b:=n+c2) (by omega);exact⟨fun F H σ ρ s' R' q'=>k2 (b:=n) R' Dv D (ok.on s') q',o2.rt,o2.bk,o2.ct⟩
theorem qC(h:CV X al c e fa):CS X al c (.Return (some e) pos) (Ar fa):=by
 obtain⟨t,p,k⟩:=h;exact⟨_,pg p,fun R Dv D ok q=>k R _ _ q fun v w F1 H1 g1 r1 n1 q1=>ok.rt v w F1 H1 (R.g.tr g1) r1 (n1.back R.g) q1⟩
theorem sZ{A B:List Stmt}(hc:CB X al c1 ec f)(ha:G9 X al c2 A t)(hb:G9 X al c3 B u):CS X al (c1+(c2+c3)) (.If ec A B pos) (zV f t u):=by
 obtain⟨t0,p0,k0⟩:=hc;obtain⟨t1,p1,k1⟩:=ha;obtain⟨t2,p2,k2⟩:=hb;refine⟨_,yw p0 p1 p2,fun{n _ _ _ _ _ _} R Dv D ok q=>k0 (b:=n+(c2+c3)) (R.pay (by omega)) _ _ q fun k F1 H1 g1 q1=>?_⟩
 cases k with
 | true=>exact k1 (b:=n) ((R.gr g1).pay (by omega)) Dv D (ok.on g1.fs) q1
 | false=>exact k2 (b:=n) ((R.gr g1).pay (by omega)) Dv D (ok.on g1.fs) q1
theorem VR.setC{K:W.Frag}{n':Nat}(r:VR K ⟨al,n⟩ F₀ H₀ F H σ ρ){H1 F1:Hp}(g:Grow ⟨al,n'⟩ F H F1 H1)(hn:n'<=n){w:W}(rw':dB K ⟨al,n'⟩ F1 H1 v w)(hw:eB H v w)(hp:∀xs,w ≠ .pk xs)(i:Nat):VR K ⟨al,n'⟩ F₀ H₀ F1 H1 (σ.set i (some v)) (ρ.set i (some w)) :=
 (r.pay hn).set g rw' hw hp i
theorem dY(i:Nat)(hN:X.N.Nodup)(he:CV X al c e fa)(hi:autoParam (X.N[i]?=some x) æa._auto_1)(hx:autoParam (Loc X.env.scope x) æe._auto_1)
 (hs:autoParam (Ju e (some (.Name x pos')) pos.line X.env=pure false) æa._auto_1)(hf:autoParam (X.fn x=true\/X.env.scope.names.lookup x=some .local) æf._auto_1) :
 CS X al c (.Assign [.Name x pos'] e pos) (m5 i fa):=by
 obtain⟨t,p,k⟩:=he;refine⟨_,gC hN hi hx p hs hf,fun R Dv D ok q=>k R _ _ q fun v w F1 H1 g1 r1 n1 ⟨d,ed,q1⟩=>?_⟩;obtain⟨F2,g2,s2,r2⟩:=dB.fz g1 r1 n1;rw[ed]at r2;exact ok.nx _ _ _ _ g2.fs (R.setC g2 (by omega) r2 trivial (fun xs z=>by cases z) i) q1
theorem zA(i:Nat){nm:Str}{id:String}{r:V->List V->Hp->VK->Prop}{g:List Hi->List W->(List Hi->Prop)->Prop}{apos cpos:Pos}(slot:Slot "list" nm id)(hty:typeOf (.builtin id)=pure (.type "method_descriptor"))(hm:GN X id r)(vm:∀n,BA X.K ⟨al,n⟩ r g)(ha:G7 X al c (e::es) fs)
 (hN:autoParam (X.N[i]?=some x) æa._auto_1)(hv:autoParam (Gf X.env.scope x) æd._auto_1)
 (hd:autoParam ((x==("__debug__" : Str))=false) æb._auto_1)(hcd:autoParam ((x==("__classdict__" : Str))=false) æb._auto_1)
 (hbase:autoParam (Kw (.Name x px) nm X.env (eval (.Name x px) X.env)=eval (.Name x px) X.env) æa._auto_1)
 (hfew:autoParam (((Jl cpos (HA (e::es) X.env)).all (fun x=>!x.1)&&(M5 cpos (Lf [] X.env)).all (fun x=>x.1.isSome)
  && decide ((e::es).length+([]:List KW).length+(if([]:List KW).isEmpty then 0 else 1)<30))=true) æa._auto_1)
 (hline:autoParam ((apos.endLine==cpos.line)=true) æa._auto_1)(hs:autoParam (HA (e::es) X.env=(false,eval e X.env)::HA es X.env) æa._auto_1)(hplain:autoParam ((Jl cpos (HA es X.env)).any (·.1)=false) æa._auto_1)
 (hsw:autoParam (Ju (.Call (.Attribute (.Name x px) nm apos) (e::es) [] cpos) none pos.line X.env=pure false) æa._auto_1) :
 CS X al c (.Expr (.Call (.Attribute (.Name x px) nm apos) (e::es) [] cpos) pos) (wT i g fs):=by
 obtain⟨t,p1,k⟩:=ha;refine⟨_,pi (yI Mj slot hty hm (dR hN hv hd hcd) p1 hbase hfew hline hs hplain) hsw,fun{n F₀ H₀ F H σ ρ} R Dv D ok ⟨xs,e1,q⟩=>?_⟩;obtain⟨v,h1,h2,h3⟩:=R.sl i _ e1;obtain⟨a,vs,rfl,f,hr,hh,rs⟩:=(show iF X.K ⟨al,n+c⟩ F H v xs from h2);refine⟨.ref a,h1,.inl ⟨rfl,vs,.inl (.inl hh)⟩,k R _ _ q fun args ws F1 H1 g1 r1 q1=>?_⟩;refine vm n _ _ g1.sub (g1.same a _ hh hr) (rs.mono g1.fs) r1 q1 fun us ys r2 q2=>?_;exact ok.nx _ _ _ _ g1.fs ((R.gr g1).own e1 h1 r2) q2
theorem qD(i:Nat){apos cpos:Pos}(ha:G7 X al c [e] fs)(hN:autoParam (X.N[i]?=some x) æa._auto_1)(hv:autoParam (Gf X.env.scope x) æd._auto_1)
 (hd:autoParam ((x==("__debug__" : Str))=false) æb._auto_1)(hcd:autoParam ((x==("__classdict__" : Str))=false) æb._auto_1)
 (hbase:autoParam (Kw (.Name x px) "append" X.env (eval (.Name x px) X.env)=eval (.Name x px) X.env) æa._auto_1)
 (hfew:autoParam (((Jl cpos (HA [e] X.env)).all (fun x=>!x.1)&&(M5 cpos (Lf [] X.env)).all (fun x=>x.1.isSome)
  && decide (([e]).length+([]:List KW).length+(if([]:List KW).isEmpty then 0 else 1)<30))=true) æa._auto_1)
 (hline:autoParam ((apos.endLine==cpos.line)=true) æa._auto_1)(hs:autoParam (HA [e] X.env=(false,eval e X.env)::HA [] X.env) æa._auto_1)(hplain:autoParam ((Jl cpos (HA [] X.env)).any (·.1)=false) æa._auto_1)
 (hsw:autoParam (Ju (.Call (.Attribute (.Name x px) "append" apos) [e] [] cpos) none pos.line X.env=pure false) æa._auto_1) :
 CS X al c (.Expr (.Call (.Attribute (.Name x px) "append" apos) [e] [] cpos) pos) (wT i zk fs) :=
 zA i L_ Ma e8 (fun _=>tH) ha hN hv hd hcd hbase hfew hline hs hplain hsw
end
theorem jw{c:Nat}(h:i<n):(n-i)*c=(n-(i+1))*c+c:=by
 have:n-i=(n-(i+1))+1:=by omega
 rw[this,NS]
noncomputable def xO(n:Nat)(fl:List Nat)(fi:En->(List Hi->Prop)->Prop)(g:Gn)(t:Gj):Gj:=fun D ρ=>fi ρ fun xs=>xs.length<=n/\cX fl g t xs D (fo fl ρ)
section
variable{X:Cx}{al:Option Addr}{c c1 c2 c3:Nat}{st:Stmt}{rest body:List Stmt}{t u:Gj}{a b e ec:Expr}{es:List Expr}{fa fb:TV}{fs:Gi}{f:TB}{pos p:Pos}
theorem iz(n:Nat)(fl:List Nat){g:Gn}(hp:Nw (Ib X.prog X.w) X.A X.env X.xe)(hc:X.calm=true)(hi:CI X al c1 tg iter fi)(hg:∀m,GJ X ⟨al,m⟩ tg g)(hb:G9 X al c2 body t)
 (hs:autoParam (∀x,Ig iter X.env x=pure x) æc._auto_1):CS X al (c1+n*c2) (.For tg iter body [] pos) (xO n fl fi g t):=by
 obtain⟨wi,p0,k0⟩:=hi;obtain⟨T,p2,k2⟩:=hb;have p1:PG X tg (fun v σ H Q=>∃m,HR (hg m) v σ H Q):=fun pins s σ H v u Q I rv ⟨m,z⟩=>(Hm (hg m)).1 pins s σ H v u Q I rv z;refine⟨_,ub hp hc p0 p1 p2 hs,fun{b F₀ H₀ F H σ ρ} R Dv D ok q=>k0 (b:=b+n*c2) (R.pay (by omega)) _ _ q fun J xs F1 H1 g1 vi ⟨hn,q1⟩=>?_⟩;refine⟨fun i m σ H=>m=xs.length-i/\i<=xs.length/\∃F ρ,bU F1 F/\VR X.K ⟨al,b+(n-i)*c2⟩ F₀ H₀ F H σ ρ/\cX fl g t (xs.drop i) Dv ρ,⟨xs.length,by simp,II _,F1,fo fl ρ,.refl _,(R.gr g1).le (fM fl ρ),by simpa using q1⟩,?_⟩;rintro i m σ H ⟨rfl,hi,F2,ρ2,s2,R2,j2⟩;have sH:bU F1 H:=s2.trans R2.sub;by_cases hlt:i<xs.length
 · have ei:xs[i]?=some xs[i]:=by simp[hlt]
   rw[IT hlt]at j2;have el:=jw (n:=n) (i:=i) (c:=c2) (by omega);refine .inr ⟨(vi 0).go i H _ ei sH,fun σ' H'=>∃F ρ,bU F1 F/\VR X.K ⟨al,b+(n-(i+1))*c2⟩ F₀ H₀ F H' σ' ρ/\cX fl g t (xs.drop (i+1)) Dv ρ,fun σ' H' z=>⟨xs.length-(i+1),by omega,rfl,hlt,z⟩,fun v H' y=>?_⟩;obtain⟨Fy,gy,rv⟩:=(vi 0).yld i H v H' _ F2 ei s2 R2.sub R2.reel y;refine⟨_,(Hm (hg (b+(n-i)*c2))).2 (R2.gr gy) v _ _ _ rv j2 fun F3 H3 σ3 ρ3 s3 n3 R3 q3=>?_⟩;have s13:bU F1 F3:=s2.trans (gy.fs.trans s3.fs);have o2:=ok.pay (b:=b+(n-(i+1))*c2) (by omega)
   exact k2 (b:=b+(n-(i+1))*c2) (R3.pay (by omega)) {Dv with nx:=fun ρ'=>cX fl g t (xs.drop (i+1)) Dv (fo fl ρ'),ct:=fun ρ'=>cX fl g t (xs.drop (i+1)) Dv (fo fl ρ'),bk:=fun ρ'=>Dv.nx (fo fl ρ')} _
    ⟨fun F4 H4 σ4 ρ4 s4 R4 q4=>⟨F4,fo fl ρ4,s13.trans s4,R4.le (fM fl ρ4),q4⟩,o2.rt,fun F4 H4 σ4 ρ4 s4 R4 q4=>o2.nx _ _ _ _ (g1.fs.trans (s13.trans s4)) (R4.le (fM fl ρ4)) q4,fun F4 H4 σ4 ρ4 s4 R4 q4=>⟨F4,fo fl ρ4,s13.trans s4,R4.le (fM fl ρ4),q4⟩⟩ q3
 · have e:i=xs.length:=by omega
   subst e;rw[JN]at j2;exact .inl ⟨(vi 0).stop _ H (Hw _) sH,ok.nx _ _ _ _ (g1.fs.trans s2) (R2.pay (by omega)) j2⟩
theorem qI(hm:X.mg "range" = none)(ha:G7 X al c [a] fs)(hg:autoParam (Gl X "range") æa._auto_1)(hs:autoParam (HA [a] X.env=[(false,eval a X.env)]) æa._auto_1):CI X al c tg (.Call (.Name "range" p) [a] [] pos) (FN fs):=by
 obtain⟨t,p1,k⟩:=ha;refine⟨_,jN hg hm p1 hs,fun R Qd Q q h=>k R _ _ q fun vs ws F1 H1 g1 r1 ⟨j,ew,b,q1⟩=>?_⟩;subst ew;obtain⟨v,rfl,rv⟩:=oU r1;have e:=bF rv;subst e;exact⟨j,rfl,b.1,b.2,h _ _ F1 H1 g1 (fun _=>js 0 _) q1⟩
theorem qQ{ps:List Str}{k:Nat}(D:∀n,Dfn X.prog X.w X.K X.mg X.base ⟨al,n⟩ x ps k Pd)(hr:Room k X.A)(ha:G7 X al c (e::es) fs)(hg:autoParam (Gl X x) æa._auto_1)
 (hdb:autoParam ((x==("__debug__" : Str))=false) æb._auto_1)(he:autoParam (HA (e::es) X.env=(false,eval e X.env)::HA es X.env) æa._auto_1)(hpl:autoParam ((Jl pos (HA es X.env)).any (·.1)=false) æa._auto_1) :
 CV X al c (.Call (.Name x p) (e::es) [] pos) (zS Pd fs):=by
 obtain⟨t,p1,kk⟩:=ha
 have P:∀n,∃tn:TE,PE X (.Call (.Name x p) (e::es) [] pos) tn/\∀σ H Q,(t σ H fun vs H1=>Ei X.K ⟨al,n⟩ Pd vs H1 Q fun _ _ _=>False)->tn σ H Q:=fun n=>by
  obtain⟨f,fd,hm,hk,hb,F⟩:=(D n).ex;exact⟨_,gE F hr hg hm hk hb .nil pE p1 hdb he hpl,fun σ H Q z=>by simpa[x4,Jx]using z⟩
 refine⟨fun σ H Q=>∃n,HR (P n) σ H Q,fun pins s σ H Q I ⟨n,z⟩=>(Hm (P n)).1 pins s σ H Q I z,fun{n _ _ _ _ _ _} R Qd Q q h=>⟨n,(Hm (P n)).2 _ _ _ (kk (b:=n) R _ _ q fun vs ws F1 H1 g1 r1 ⟨ok,q1⟩=>?_)⟩⟩;refine⟨F1,ws,g1.sub,g1.reel,r1,ok,?_⟩;exact(D n).mono ws _ _ (fun d qd v F2 H2 g2 r2=>h v (.d d) F2 H2 (g1.tr g2) r2 trivial qd) q1
noncomputable def DU(K:W.Frag)(al:Option Addr)(c:Nat)(P:List W->(Hi->Prop)->Prop):Sp:=fun vs H Q _=>∃b F ws,bU F H/\Gx ⟨al,b+c⟩ F H/\fF K ⟨al,b+c⟩ F H vs ws/\ws.all dZ=true/\P ws fun d=>∀v F' H',Grow ⟨al,b⟩ F H F' H'->Rep K F' v d->Q v H'
structure DfnC (P:HV) (w:IF) (K:W.Frag) (mg:Str->Option Hq) (base:Heap) (al:Option Addr) (c:Nat) (x:Str) (ps:List Str) (k:Nat) (Pd:List W->(Hi->Prop)->Prop):Prop where
 mono:∀ws Q Q',(∀d,Q d->Q' d)->Pd ws Q->Pd ws Q'
 ex:∃f fd,mg x=some (.ref f)/\W.keepIn K (.ref f)=true/\Binds K fd ps []/\FnOk P w K mg base G6 k f fd ps (DU K al c Pd)
theorem cG{ps:List Str}{k:Nat}(D:DfnC X.prog X.w X.K X.mg X.base al c2 x ps k Pd)(hr:Room k X.A)(ha:G7 X al c1 (e::es) fs)(hg:autoParam (Gl X x) æa._auto_1)
 (hdb:autoParam ((x==("__debug__" : Str))=false) æb._auto_1)(he:autoParam (HA (e::es) X.env=(false,eval e X.env)::HA es X.env) æa._auto_1)(hpl:autoParam ((Jl pos (HA es X.env)).any (·.1)=false) æa._auto_1) :
 CV X al (c1+c2) (.Call (.Name x p) (e::es) [] pos) (zS Pd fs):=by
 obtain⟨f,fd,hm,hk,hb,F⟩:=D.ex;obtain⟨t,p1,kk⟩:=ha;refine⟨_,gE F hr hg hm hk hb .nil pE p1 hdb he hpl,fun{n _ _ _ _ _ _} R Qd Q q h=>kk (b:=n+c2) (R.pay (by omega)) _ _ q fun vs ws F1 H1 g1 r1 ⟨ok,q1⟩=>?_⟩;refine⟨n,F1,ws,g1.sub,g1.reel,by rw[Jx];exact r1,ok,?_⟩;exact D.mono ws _ _ (fun d qd v F2 H2 g2 r2=>h v (.d d) F2 H2 (g1.tr g2) r2 trivial qd) q1
end
section
variable{P:HV}{w:IF}{K:W.Frag}{mg:Str->Option Hq}{base:Heap}{al:Option Addr}{c c0:Nat}{x:Str}{st:Stmt}{N ps:List Str}{k:Nat}{Pd:List W->(Hi->Prop)->Prop}{t:Gj}
theorem DfnC.of(Fn:FnIn K mg x st ps)(S:FnScope N ps (defScope st))(mono:∀ws Q Q',(∀d,Q d->Q' d)->Pd ws Q->Pd ws Q')(len:∀ws Q,Pd ws Q->ws.length=ps.length)
 (hbody:∀{f:Addr}(cdv:Hq)(A:IM)(outer:List Env)(s:Ht)(H:Hp)(E:XK),Room k (A.deeper (L8 x (defScope st) s.heap.objs.size f cdv)) ->
  G9 (nP G6 P w K mg base N x (defScope st) f cdv A outer s H E).nox al c0 (defBody st) t)
 (hle:c0<=c)(hread:∀ws Q,Pd ws Q->t (m7 Q) (dL N ws)):DfnC P w K mg base al c x ps (k+1) Pd:=by
 obtain⟨f,fd,hm,F,hb⟩:=Fn.ex;refine⟨mono,f,fd,hm,F.kp,hb,?_⟩;refine F.ok S (fun vs H Q E ⟨n,F,ws,_,_,r,_,q⟩=>(Jt r).trans (len ws _ q)) fun cdv A outer s H vs Q E hr h=>?_;obtain⟨n,F1,ws,sm,ra,r,ok,q⟩:=h;obtain⟨T,p,kk⟩:=hbody cdv A outer s H E hr;refine⟨T,p,kk (b:=n) ((eP sm ra r ok).pay (by omega)) (m7 _) _ ⟨?_,?_,fun _ _ _ _ _ _ z=>Jk z,fun _ _ _ _ _ _ z=>Jk z⟩ (hread ws _ q)⟩
 · intro F2 H2 σ1 ρ1 _ R1 q1;exact q1 .non F2 H2 R1.g .non
 · rintro v w1 F2 H2 g1 r1 n1 ⟨d,ed,q1⟩;obtain⟨F3,g2,s2,r2⟩:=dB.fz g1 r1 n1;rw[ed]at r2;exact q1 v F3 H2 g2 r2
end
noncomputable def oq(n:Nat)(fi:En->(List Hi->Prop)->Prop)(fr:List (Option Nat))(g:Gn)(ft:TB)(fe:TV):TV:=fun ρ Q=>fi ρ fun xs=>xs.length<=n/\lQ (eO fr ρ) g ft fe xs [] fun ds=>Q (.ml ds)
noncomputable def G8(X:Cx)(al:Option Addr)(c:Nat)(ifs:List Expr)(f:TB):Prop:=∃t,GB X ifs t/\∀{b:Nat}{F₀ H₀ F H:Hp}{σ:St}{ρ:En},VR X.K ⟨al,b+c⟩ F₀ H₀ F H σ ρ->∀(Qd:Bool->Prop)(Q:Bool->Hp->Prop),f ρ Qd ->
 (∀k F' H',Grow ⟨al,b⟩ F H F' H'->Qd k->Q k H')->t σ H Q
theorem mM{al:Option Addr}:G8 X al 0 [] (fun _ Q=>Q true):=⟨_,o8,fun R Qd Q q k=>k true _ _ (Grow.refl R.sub R.reel) q⟩
section
variable{X:Cx}{al:Option Addr}{c1 c2 c3:Nat}{elt tg iter:Expr}{ifs:List Expr}{scope:Scope}{pos:Pos}{fi:En->(List Hi->Prop)->Prop}{g:Gn}{ft:TB}{fe:TV}
abbrev EI{Y:Cx}(hg:∀m,GJ Y ⟨al,m⟩ tg g):TG:=fun v σ H Q=>∃m,HR (hg m) v σ H Q
theorem AH{Y:Cx}(hg:∀m,GJ Y ⟨al,m⟩ tg g):PG Y tg (EI hg):=fun pins s σ H v u Q I rv ⟨m,z⟩=>(Hm (hg m)).1 pins s σ H v u Q I rv z
theorem sA{wi:TI}(n:Nat)(fr:List (Option Nat))(k0:∀{b:Nat}{F₀ H₀ F H:Hp}{σ:St}{ρ:En},VR X.K ⟨al,b+c1⟩ F₀ H₀ F H σ ρ->∀(Qd:List Hi->Prop)(R:It->Hp->Prop),fi ρ Qd ->
 (∀J xs F' H',Grow ⟨al,b⟩ F H F' H'->(∀b',VIt X.K ⟨al,b'⟩ F' J xs)->Qd xs->R J H')->wi σ H R)
 (hg:∀y m,GJ (FZ X N' scope y) ⟨al,m⟩ tg g)(ht:∀y,G8 (FZ X N' scope y) al c2 ifs ft)(he:∀y,CV (FZ X N' scope y) al c3 elt fe)
 {b:Nat}(R:VR X.K ⟨al,b+(c1+n*(c2+c3))⟩ F₀ H₀ F H σ ρ)(Qd:W->Prop)(Q:VK)(q:oq n fi fr g ft fe ρ Qd)
 (k:∀v w F' H',Grow ⟨al,b⟩ F H F' H'->dB X.K ⟨al,b⟩ F' H' v w->eB H v w->Qd w->Q v H'):rE wi fr (fun y=>EI (hg y)) (fun y=>HR (ht y)) (fun y=>HR (he y)) σ H Q:=by
 refine k0 (b:=b+n*(c2+c3)) (R.pay (by omega)) _ _ q fun J xs F1 H1 g1 vi ⟨hn,q1⟩=>?_;intro D hD;have rD:al≠some D:=fun e=>by obtain⟨o,z⟩:=g1.reel.live e;rw[hD]at z;cases z
 have FD:F1 D=none:=g1.sub.free hD;have gD:Grow ⟨al,b+n*(c2+c3)⟩ F1 H1 F1 (Ex H1 D (.lst [])):=Grow.laid g1.sub g1.reel hD;have R1:=R.gr g1;have n0:nK (eO fr ρ):=d_
 refine⟨fun i m acc σc Hc=>m=xs.length-i/\i<=xs.length/\∃Fc ds,VR X.K ⟨al,b+(n-i)*(c2+c3)⟩ F1 H1 Fc Hc σc (eO fr ρ)/\Hc D=some (.lst acc)/\Fc D=none/\Reps X.K Fc acc ds/\lQ (eO fr ρ) g ft fe (xs.drop i) ds (fun ds=>Qd (.ml ds)),
  ⟨xs.length,by simp,II _,F1,[],f_ R1 gD,aG,FD,.nil,by simpa using q1⟩,?_⟩
 rintro z i m acc σc Hc ⟨rfl,hi,Fc,ds,Rc,hDc,fDc,rs,q2⟩;have sH:bU F1 Hc:=Rc.g.fs.trans Rc.sub;by_cases hlt:i<xs.length
 · have ei:xs[i]?=some xs[i]:=by simp[hlt]
   have ed:xs.drop i=xs[i]::xs.drop (i+1):=IT hlt;rw[ed]at q2;have el:=jw (n:=n) (i:=i) (c:=c2+c3) (by omega);refine .inr ⟨(vi 0).go i Hc _ ei sH,fun v H' y=>?_⟩;obtain⟨Fy,gy,rv⟩:=(vi 0).yld i Hc v H' _ Fc ei Rc.g.fs Rc.sub Rc.reel y;refine⟨_,(Hm (hg z _)).2 (Rc.gr gy) v _ _ _ rv q2 fun F3 H3 σ3 ρ3 g3 n3 R3 ⟨le3,q3⟩=>?_⟩;obtain⟨_,kt⟩:=Hm (ht z);refine kt (b:=b+(n-(i+1))*(c2+c3)+c3) (R3.pay (by omega)) _ _ q3 fun k4 F4 H4 g4 q4=>?_;have R4:=R3.gr g4;have g34:=(gy.tr g3).tr g4;have keepD:∀{m:Nat}{Fx Hx:Hp},Grow ⟨al,m⟩ Fc Hc Fx Hx->Hx D=some (.lst acc)/\Fx D=none:=fun gx=>⟨gx.same D _ hDc rD,by rw[gx.old D _ hDc];exact fDc⟩
   cases k4 with
   | false=>exact⟨xs.length-(i+1),by omega,rfl,hlt,F4,ds,(R4.pay (by omega)).le le3,(keepD g34).1,(keepD g34).2,rs.mono g34.fs,q4⟩
   | true =>
     obtain⟨_,kv⟩:=Hm (he z);refine kv (b:=b+(n-(i+1))*(c2+c3)) R4 _ _ q4 fun v5 w5 F5 H5 g5 r5 n5 ⟨d,ed5,hl,q5⟩=>?_;obtain⟨F6,g6,s6,r6⟩:=dB.fz g5 r5 n5;rw[ed5]at r6;have g36:=g34.tr g6;refine⟨(keepD g36).1,by rw[rs.length];exact hl,xs.length-(i+1),by omega,rfl,hlt,F6,ds++[d],((R4.gr g6).le le3).other n0 hD (keepD g36).2 rD,aG,(keepD g36).2,(rs.mono g36.fs).snoc r6,q5⟩
 · have e:i=xs.length:=by omega
   subst e;rw[JN]at q2;refine .inl ⟨(vi 0).stop _ Hc (Hw _) sH,k _ (.ml ds) Fc Hc (g1.tr (Rc.g.pay (by omega))) ⟨D,acc,rfl,fDc,rD,hDc,rs⟩ (fun a ea=>by cases ea;exact g1.freeB hD) q2⟩
theorem jo(n:Nat)(N':List Str)(fr:List (Option Nat))(hc:X.calm=true)(hi:CI X al c1 tg iter fi)
 (hg:∀y m,GJ (FZ X N' scope y) ⟨al,m⟩ tg g)(ht:∀y,G8 (FZ X N' scope y) al c2 ifs ft)(he:∀y,CV (FZ X N' scope y) al c3 elt fe)
 (hfr:autoParam (nF fr N' X.N scope X.env.scope=true) æa._auto_1)(hsc:autoParam (nM scope X.env.scope=true) æa._auto_1)
 (hs:autoParam (∀x,Ig iter X.env x=pure x) æc._auto_1):CV X al (c1+n*(c2+c3)) (.ListComp elt [⟨tg,iter,ifs,0⟩] scope pos) (oq n fi fr g ft fe):=by
 obtain⟨wi,p0,k0⟩:=hi;exact⟨_,jb N' fr hc p0 hfr hsc (fun y=>AH (hg y)) (fun y=>(Hm (ht y)).1) (fun y=>(Hm (he y)).1) hs,fun R Qd Q q k=>sA n fr k0 hg ht he R Qd Q q k⟩
end
noncomputable def kC:GP:=K_ "cells"
noncomputable def kA:GP:=K_ "at"
noncomputable def kL:GP:=K_ "left"
theorem Bc:¬kC=kA:=by decide +kernel
theorem Bb:¬kC=kL:=by decide +kernel
theorem z9:¬kA=kL:=by decide +kernel
noncomputable def ke(c:Addr)(a l:Int):List (GP×V):=[(kC,.ref c),(kA,.int a),(kL,.int l)]
theorem kB{p:GP×V}{r:List (GP×V)}{k:GP}(e:¬p.1=k):jv (p::r) k=jv r k:=by
 unfold jv;rw[Jo];simp[e]
theorem DE(c:Addr)(a l:Int):jv (ke c a l) kC=some (.ref c):=d4 rfl
theorem DF(c:Addr)(a l:Int):jv (ke c a l) kA=some (.int a):=by unfold ke;rw[kB Bc];exact d4 rfl
theorem DC(c:Addr)(a l:Int):jv (ke c a l) kL=some (.int l):=by unfold ke;rw[kB Bb,kB z9];exact d4 rfl
theorem Fm{a b:GP}(h:¬a=b):¬b=a:=fun e=>h e.symm
theorem AW(c:Addr)(a l n:Int):ic (ke c a l) kL (.int n)=ke c a n:=by
 unfold ic ke;rw[if_pos (by simp)];simp[Bb,z9]
theorem AX(c:Addr)(a l n:Int):ic (ke c a l) kA (.int n)=ke c n l:=by
 unfold ic ke;rw[if_pos (by simp)];simp[Bc,Fm z9]
theorem Bw:(0:Int)+BM<2^59990:=by
 have h:BM<2^59990:=Nat.pow_lt_pow_right (by decide) (by decide);rw[Int.zero_add]
 exact_mod_cast h
theorem ReelOk.kv{r:Addr}(h:ReelOk n F H r):∃(c:Addr)(ns:List Int)(a l:Int),H r=some (.dK (ke c a l))/\F c=some (.lst (ns.map V.int))/\ns.length<=63/\0<=a/\0<=l/\a+n<2^59990:=by
 obtain⟨o,e,c,ns,a,l,rfl,q⟩:=h.ex;exact⟨c,ns,a,l,e,q⟩
theorem Gx.put{al:Option Addr}{n':Nat}{K:W.Frag}{r c:Addr}{a l:Int}(R:VR K ⟨al,n⟩ F₀ H₀ F H σ ρ)(e:al=some r)(h:F c=some (.lst (ns.map V.int))/\ns.length<=63/\0<=a/\0<=l/\a+n'<2^59990):VR K ⟨al,n'⟩ F₀ H₀ F (Ex H r (.dK (ke c a l))) σ ρ:=by
 have fr:F r=none:=(R.reel r e).1;have neF:∀b u,F b=some u->b≠r:=fun b u q z=>by subst z;rw[fr]at q;cases q
 have g:Grow ⟨al,n'⟩ F H F (Ex H r (.dK (ke c a l))):=by
  refine⟨fun b o q n=>by rw[ar (fun z=>n (by rw[z];exact e))];exact q,.refl F,fun b o q=>by rw[ar (neF b o q)];exact R.sub b o q,fun _ _ _=>rfl,fun y z=>?_⟩;have:y=r:=IA (z.symm.trans e);subst this;exact⟨fr,⟨_,aG,c,ns,a,l,rfl,h⟩⟩
 exact R.gr g
theorem jH{K:W.Frag}{F:Hp}:∀ns:List Int,Reps K F (ns.map V.int) (ns.map Iv)
 | []=>.nil
 | n::ns=>.cons (.int n) (jH ns)
section
variable{X:Cx}{rl:RlT}{e:Expr}{fa:TV}{pos p p1 p2:Pos}{ρ:En}
noncomputable def Ep(i:Nat):TV:=fun ρ Q=>ρ[i]?=some (some .reel)/\∀n:Int,0<=n->Q (.d (.int n))
noncomputable def Er(i:Nat):TV:=fun ρ Q=>ρ[i]?=some (some .reel)/\∀ns:List Int,ns.length<=63->Q (.d (.list (ns.map .int)))
theorem oa{j}(hr:Room 0 X.A)(hN:autoParam (X.N[i]?=some x) æa._auto_1)(hv:autoParam (Gf X.env.scope x) æd._auto_1)
 (hd:autoParam ((x==("__debug__" : Str))=false) æb._auto_1)(hcd:autoParam ((x==("__classdict__" : Str))=false) æb._auto_1)(hs:autoParam (uz (.Constant (.str "left") j p2)) æg._auto_1):PV X rl (.Subscript (.Name x p1) (.Constant (.str "left") j p2) pos) (Ep i):=by
 refine⟨_,kZ (p6 hr) (dR hN hv hd hcd) eX hs,fun{F₀ H₀ F H σ ρ} R Qd Q ⟨e1,q⟩ h=>?_⟩;obtain⟨v,s1,⟨r,er,ev⟩,_⟩:=R.sl i _ e1;subst ev;obtain⟨_,ok⟩:=R.reel r er;obtain⟨c,ns,a,l,hH,_,_,b1,b2,b3⟩:=ok.kv;refine⟨.ref r,s1,r,.int l,rfl,?_,h _ (.d _) F H (Grow.refl R.sub R.reel) (.int l) trivial (q l b2)⟩;have g:=Ag.k (k:=kL) hH;rw[DC]at g;exact g
theorem ri{j}(hr:Room 0 X.A)(hN:autoParam (X.N[i]?=some x) æa._auto_1)(hv:autoParam (Gf X.env.scope x) æd._auto_1)
 (hd:autoParam ((x==("__debug__" : Str))=false) æb._auto_1)(hcd:autoParam ((x==("__classdict__" : Str))=false) æb._auto_1)(hs:autoParam (uz (.Constant (.str "cells") j p2)) æg._auto_1):PV X rl (.Subscript (.Name x p1) (.Constant (.str "cells") j p2) pos) (Er i):=by
 refine⟨_,kZ (p6 hr) (dR hN hv hd hcd) eX hs,fun{F₀ H₀ F H σ ρ} R Qd Q ⟨e1,q⟩ h=>?_⟩;obtain⟨v,s1,⟨r,er,ev⟩,_⟩:=R.sl i _ e1;subst ev;obtain⟨_,ok⟩:=R.reel r er;obtain⟨c,ns,a,l,hH,hc,hl,_⟩:=ok.kv;refine⟨.ref r,s1,r,.ref c,rfl,?_,h _ (.d _) F H (Grow.refl R.sub R.reel) (Rep.lst hc (jH ns)) trivial (q ns hl)⟩;have g:=Ag.k (k:=kC) hH;rw[DE]at g;exact g
noncomputable def xK(i:Nat)(fa:TV):Gj:=fun D ρ=>fa ρ fun w=>∃n,w = .d (.int n)/\0<=n/\ρ[i]?=some (some .reel)/\D.nx ρ
theorem nY{j}(hr:Room 0 X.A)(ha:PV X rl e fa)(hN:autoParam (X.N[i]?=some x) æa._auto_1)(hv:autoParam (Gf X.env.scope x) æd._auto_1)
 (hd:autoParam ((x==("__debug__" : Str))=false) æb._auto_1)(hcd:autoParam ((x==("__classdict__" : Str))=false) æb._auto_1)(hsw:autoParam (Ju e (some (.Subscript (.Name x p1) (.Constant (.str "left") j p2) pos')) pos.line X.env=pure false) æa._auto_1) :
 GD X rl (.Assign [.Subscript (.Name x p1) (.Constant (.str "left") j p2) pos'] e pos) (xK i fa):=by
 obtain⟨t,p3,kk⟩:=ha;refine⟨_,pj (p6 hr) (dR hN hv hd hcd) eX p3 hsw,fun{F₀ H₀ F H σ ρ} R Dv D ok q=>kk R _ _ q fun v w F1 H1 g1 r1 n1 ⟨n,ew,hn,e1,q1⟩=>?_⟩;subst ew;have ev:=bF r1;subst ev;have R1:=R.grow g1;obtain⟨v,s1,⟨r,er,ev⟩,_⟩:=R1.sl i _ e1;subst ev;obtain⟨_,okr⟩:=R1.reel r er;obtain⟨c,ns,a,l,hH,hc,hl,b1,b2,b3⟩:=okr.kv;refine⟨.ref r,s1,r,_,rfl,BF.k (k:=kL) hH (jy (by show 3<=1000;decide)),?_⟩;rw[AW];exact ok.nx _ _ _ _ g1.fs (Gx.put (al:=rl.a) (n:=rl.b) (n':=rl.b) R1 er ⟨hc,hl,b1,hn,b3⟩) q1
noncomputable def Gb:W->Option Unit
 | .reel=>some ()
 | _=>none
theorem aQ:Gb .reel=some ():=rfl
theorem CP:(((ρ[i]?).join).bind Gb=some ())↔ρ[i]?=some (some .reel):=by
 constructor
 · intro h
   cases q:ρ[i]? with
   | none=>rw[q]at h;cases h
   | some o=>rw[q]at h;cases o with
     | none=>cases h
     | some w=>cases w<;>first|rfl|cases h
 · intro h;rw[h];rfl
theorem yc{β:Type}{k:Unit->Mo β}{Q:β->Prop}:aJ (((ρ[i]?).join).bind Gb) k Q↔ρ[i]?=some (some .reel)/\k () Q:=by
 rw[ai];exact⟨fun⟨u,a,q⟩=>⟨CP.mp a,q⟩,fun⟨a,q⟩=>⟨(),CP.mpr a,q⟩⟩
theorem aO(i:Nat):Ep i ρ=aJ (((ρ[i]?).join).bind Gb) fun _=>FY (anyM fun n:Int=>0<=n) fun n=>ret (.d (.int n)):=ag fun Q=>(Iff.intro (fun⟨a,q⟩=>yc.mpr ⟨a,fun n h=>q n h⟩) fun h=>⟨(yc.mp h).1,fun n hn=>(yc.mp h).2 n hn⟩)
theorem aP(i:Nat):Er i ρ=aJ (((ρ[i]?).join).bind Gb) fun _=>FY (anyM fun ns:List Int=>ns.length<=63) fun ns=>ret (.d (.list (ns.map .int))):=ag fun Q=>(Iff.intro (fun⟨a,q⟩=>yc.mpr ⟨a,fun n h=>q n h⟩) fun h=>⟨(yc.mp h).1,fun n hn=>(yc.mp h).2 n hn⟩)
theorem aA(i:Nat):mS (xK i fa) ρ=FY (fa ρ) fun w=>aJ (asI w) fun n=>FO (0<=n) (aJ (((ρ[i]?).join).bind Gb) fun _=>ret (.nx ρ)):=by
 show(FY (fa ρ) fun w=>fun(Q:Fl->Prop)=>∃n,w = .d (.int n)/\0<=n/\ρ[i]?=some (some .reel)/\Q (.nx ρ))=_;congr 1;funext w;refine ag fun Q=>?_;simp only[ai (o:=asI w),c8,FO,yc,ret]
end
theorem sg(c:Addr):gK [] [(kC,V.ref c),(kA,.int 0),(kL,.int 0)]=ke c 0 0:=by
 unfold gK ke;simp only[IH,Nd];have p0:ic ([]:List (GP×V)) kC (V.ref c)=[(kC,V.ref c)]:=rfl;rw[p0];unfold ic;simp[Bc,Bb,z9]
section
variable{X:Cx}{e1:Expr}{f1:TV}{pos dpos q1 q2 q3 q4 q5:Pos}{j1 j2 j3 j4 j5:Nat}
theorem qm(h1:PV X RlT.no e1 f1) :
 ∃ T,GC X [.Return (some (.Dict [some (.Constant (.str "cells") j1 q1),some (.Constant (.str "at") j2 q2),some (.Constant (.str "left") j3 q3)] [e1,.Constant (.int 0) j4 q4,.Constant (.int 0) j5 q5] dpos)) pos] T /\
   ∀ {F H:Hp}{σ:St}{ρ:En},VR X.K RlT.no F H F H σ ρ->∀D:Ends,(f1 ρ fun w=>∃ns:List Int,w = .ml (ns.map .int)/\ns.length<=63) ->
     (∀r F' H',H r=none->Grow RlT.no F H F' H'->Gx (RlT.at' r BM) F' H'->D.rt (.ref r) H')->T D σ H:=by
 obtain⟨g1,pe1,ke1⟩:=h1;refine⟨_,kX (pg (vQ (ja eX pe1 (ja eX l9 (ja eX l9 vJ))) rfl rfl (by intro z;cases z) (by show 3<=15;decide))),fun{F H σ ρ} R D q fin=>?_⟩;intro p hp;have gp:Grow RlT.no F H F (Ex H p (.dK [])):=Grow.laid R.sub R.reel hp;refine ke1 (R.grow gp) _ _ q fun v1 w1 F3 H3 g3 r1 n1 qc=>?_;obtain⟨ns,rfl,hl⟩:=qc;obtain⟨F4,g4,s4,r4⟩:=dB.fz (w:=.ml (ns.map .int)) g3 r1 n1;have r4:Rep X.K F4 v1 (.list (ns.map .int)):=r4
 cases r4 with
 | @lst a vs _ hc rs =>
   have ev:=eV rs;subst ev;have hp5:H3 p=some (.dK []):=g3.same p _ aG (by simp);refine⟨hp5,[(kC,.ref a),(kA,.int 0),(kL,.int 0)],rfl,(by show 3<=15;decide),?_⟩;rw[sg];have f5:F4 p=none:=by rw[g4.old p _ aG];exact R.sub.free hp
   have g0:Grow RlT.no F H F4 H3:=gp.trans g4;refine fin p F4 _ hp ⟨fun b o eb _=>by rw[ar (bi eb hp)];exact g0.same b o eb (by simp),g0.fs,fun b o eb=>?_,g0.old,fun _ z=>by cases z⟩ (fun r er=>?_)
   · have:b≠p:=fun z=>by subst z;rw[f5]at eb;cases eb
     rw[ar this];exact g0.sub b o eb
   · cases er;exact⟨f5,⟨_,aG,a,ns,0,0,rfl,hc,hl,by omega,by omega,Bw⟩⟩
end
noncomputable def Eo(m:Nat)(i:Nat):TV:=fun ρ Q=>ρ[i]?=some (some .reel)/\∀n:Int,0<=n->n+m<2^59990->Q (.d (.int n))
section
variable{X:Cx}{al:Option Addr}{m m' c:Nat}{rest:List Stmt}{u:Gj}{e:Expr}{fa:TV}{pos p p1 p2:Pos}{ρ:En}
theorem uM{j}(hr:Room 0 X.A)(hN:autoParam (X.N[i]?=some x) æa._auto_1)(hv:autoParam (Gf X.env.scope x) æd._auto_1)
 (hd:autoParam ((x==("__debug__" : Str))=false) æb._auto_1)(hcd:autoParam ((x==("__classdict__" : Str))=false) æb._auto_1)(hs:autoParam (uz (.Constant (.str "at") j p2)) æg._auto_1):PV X ⟨al,m⟩ (.Subscript (.Name x p1) (.Constant (.str "at") j p2) pos) (Eo m i):=by
 refine⟨_,kZ (p6 hr) (dR hN hv hd hcd) eX hs,fun{F₀ H₀ F H σ ρ} R Qd Q ⟨e1,q⟩ h=>?_⟩;obtain⟨v,s1,⟨r,er,ev⟩,_⟩:=R.sl i _ e1;subst ev;obtain⟨_,ok⟩:=R.reel r er;obtain⟨c,ns,a,l,hH,hc,hl,b1,b2,b3⟩:=ok.kv;refine⟨.ref r,s1,r,.int a,rfl,?_,h _ (.d _) F H (Grow.refl R.sub R.reel) (.int a) trivial (q a b1 b3)⟩;have g:=Ag.k (k:=kA) hH;rw[DF]at g;exact g
noncomputable def xQ(i ih:Nat)(u:Gj):Gj:=fun D ρ=>ρ[ih]?=some (some .reel)/\i<ρ.length/\∀n:Int,0<=n->n<2^59990->u D (ρ.set i (some (.d (.int n))))
theorem wH(i ih:Nat){h:Str}{j1 j2 j3:Nat}{q1 q2 q3 q4 q5 q6 q7 q8 q9 q10 q11:Pos}(hr:Room 0 X.A)(hN:X.N.Nodup)(hne:i≠ih)(hrest:G9 X al c rest u)(hi:autoParam (X.N[i]?=some x) æa._auto_1)(hih:autoParam (X.N[ih]?=some h) æa._auto_1)
 (hx:autoParam (Loc X.env.scope x) æe._auto_1)(hf:autoParam (X.fn x=true\/X.env.scope.names.lookup x=some .local) æf._auto_1)
 (hv:autoParam (Gf X.env.scope h) æd._auto_1)(hvx:autoParam (Gf X.env.scope x) æd._auto_1)
 (hd:autoParam ((h==("__debug__" : Str))=false) æb._auto_1)(hcd:autoParam ((h==("__classdict__" : Str))=false) æb._auto_1)(hd':autoParam ((x==("__debug__" : Str))=false) æb._auto_1)(hcd':autoParam ((x==("__classdict__" : Str))=false) æb._auto_1)
 (hs:autoParam (Ju (.Subscript (.Name h q1) (.Constant (.str "at") j1 q2) q3) (some (.Name x q6)) q7.line X.env=pure false) æa._auto_1)
 (hsw:autoParam (Ju (.BinOp (.Name x q8) .Add (.Constant (.int 1) j2 q4) q5) (some (.Subscript (.Name h q9) (.Constant (.str "at") j3 q10) q11)) pos.line X.env=pure false) æa._auto_1)
 (hsl:autoParam (uz (.Constant (.str "at") j1 q2)) æg._auto_1) :
 G9 X al (1+c) (.Assign [.Name x q6] (.Subscript (.Name h q1) (.Constant (.str "at") j1 q2) q3) q7 :: .Assign [.Subscript (.Name h q9) (.Constant (.str "at") j3 q10) q11] (.BinOp (.Name x q8) .Add (.Constant (.int 1) j2 q4) q5) pos::rest) (xQ i ih u):=by
 obtain⟨T,pT,kR⟩:=hrest;have s1:∀n,GD X ⟨al,n⟩ (.Assign [.Name x q6] (.Subscript (.Name h q1) (.Constant (.str "at") j1 q2) q3) q7) (m5 i (Eo n ih)):=fun n=>ay i hN (uM hr hih hv hd hcd hsl) hi hx hs hf;have s2:∀n,PV X ⟨al,n⟩ (.BinOp (.Name x q8) .Add (.Constant (.int 1) j2 q4) q5) (Eu (FT fun i j=>.int (i+j)) (gi i) (vC (.int 1))):=fun n=>v_add (vn i hi hvx hd' hcd') af;refine⟨_,eW (t:=fun D σ H=>∃n,HR (s1 n) D σ H) (fun pins s σ H D I ⟨n,z⟩=>(Hm (s1 n)).1 pins s σ H D I z) (eW (pj (tv:=fun σ H Q=>∃n,HR (s2 n) σ H Q) (p6 hr) (dR hih hv hd hcd) eX (fun pins s σ H Q I ⟨n,z⟩=>(Hm (s2 n)).1 pins s σ H Q I z) hsw) pT),fun{b F₀ H₀ F H σ ρ} R Dv D ok ⟨e1,hlen,q⟩=>⟨b+(1+c),?_⟩⟩;refine(Hm (s1 (b+(1+c)))).2 R {Dv with nx:=fun ρ'=>∃n:Int,(0<=n/\n+(b+(1+c):Nat)<2^59990)/\ρ'=ρ.set i (some (.d (.int n)))} _ ⟨fun F1 H1 σ1 ρ1 sm R1 qn=>?_,fun v w F1 H1 g r n q=>(ok.pay (by omega)).rt v w F1 H1 g r n q,fun F1 H1 σ1 ρ1 sm R1 q=>(ok.pay (b:=b+(1+c)) (by omega)).bk F1 H1 σ1 ρ1 sm R1 q,fun F1 H1 σ1 ρ1 sm R1 q=>(ok.pay (b:=b+(1+c)) (by omega)).ct F1 H1 σ1 ρ1 sm R1 q⟩ ?_
 · obtain⟨n,⟨hn,hl⟩,rfl⟩:=qn;refine⟨b+(1+c),(Hm (s2 (b+(1+c)))).2 R1 (fun w=>w = .d (.int (n+1))) _ ?_ fun v w F2 H2 g2 r2 n2 qw=>?_⟩
   · exact⟨.d (.int n),by rw[HU hlen],n,1,rfl,rfl,rfl⟩
   · subst qw;have ev:=bF r2;subst ev;have R2:=R1.grow g2;obtain⟨v2,s2',⟨r,er,ev2⟩,_⟩:=R2.sl ih .reel (by rw[HQ hne];exact e1);subst ev2;obtain⟨_,okr⟩:=R2.reel r er;obtain⟨cc,ns,a,l,hH,hc,h63,b1,b2,b3⟩:=okr.kv;refine⟨.ref r,s2',r,_,rfl,BF.k (k:=kA) hH (jy (by show 3<=1000;decide)),?_⟩;rw[AX];exact kR (b:=b) (Gx.put (n':=b+c) R2 er ⟨hc,h63,by omega,b2,by omega⟩) Dv D (ok.on (sm.trans g2.fs)) (q n hn (by omega))
 · exact⟨e1,fun n h0 h1=>⟨.int n,rfl,n,⟨h0,h1⟩,rfl⟩⟩
theorem aC(i ih:Nat):mS (xQ i ih u) ρ=aJ (((ρ[ih]?).join).bind Gb) fun _=>FO (i<ρ.length) (FY (anyM fun n:Int=>0<=n/\n<2^59990) fun n=>mS u (ρ.set i (some (.d (.int n))))):=ag fun Q=>(Iff.intro (fun⟨a,l,q⟩=>yc.mpr ⟨a,l,fun n hn=>q n hn.1 hn.2⟩) fun h=>⟨(yc.mp h).1,(yc.mp h).2.1,fun n h0 h1=>(yc.mp h).2.2 n ⟨h0,h1⟩⟩)
theorem wG(i:Nat){f:Str}{ps:List Str}{k:Nat}{pre:List W->Prop}{fs:Gi}{es:List Expr}{cpos:Pos}(D:DfnR X.prog X.w X.K X.mg X.base f ps k pre)(hr:Room k X.A)(hN:X.N.Nodup)(ha:Gz X RlT.no (e::es) fs)(hrest:∀r,G9 X (some r) c rest u)(hc:c<=BM)
 (hi:autoParam (X.N[i]?=some x) æa._auto_1)(hx:autoParam (Loc X.env.scope x) æe._auto_1)(hg:autoParam (Gl X f) æa._auto_1)(hdb:autoParam ((f==("__debug__" : Str))=false) æb._auto_1)
 (he:autoParam (HA (e::es) X.env=(false,eval e X.env)::HA es X.env) æa._auto_1)(hpl:autoParam ((Jl cpos (HA es X.env)).any (·.1)=false) æa._auto_1)
 (hs:autoParam (Ju (.Call (.Name f p) (e::es) [] cpos) (some (.Name x px)) pos.line X.env=pure false) æa._auto_1)(hf:autoParam (X.fn x=true\/X.env.scope.names.lookup x=some .local) æf._auto_1) :
 mY X RlT.no (.Assign [.Name x px] (.Call (.Name f p) (e::es) [] cpos) pos::rest) (xL i pre fs u):=by
 obtain⟨fa,fd,hm,hk,hb,F⟩:=D.ex;obtain⟨ta,p1,k1⟩:=ha;refine⟨_,eW (gC hN hi hx (gE F hr hg hm hk hb .nil pE p1 hdb he hpl) hs hf) (vI X rest),fun{F₀ H₀ F H σ ρ} R Dv D ok q=>k1 R _ _ q fun vs ws F1 H1 g1 r1 ⟨ao,pw,q1⟩=>?_⟩;have R1:=R.grow g1;refine⟨F1,ws,g1.sub,by rw[Jx];exact r1,ao,pw,fun r F2 H2 hr2 g2 ra=>?_⟩;intro pins s I;obtain⟨T,pT,kT⟩:=hrest r;have h0:H₀ r=none:=R1.g.freeB hr2;refine pT pins s _ H2 D I (kT (b:=0) ((R1.into hr2 g2 ra i).pay (by omega)) _ D ⟨fun F3 H3 σ3 ρ3 s3 R3 q3=>?_,fun v w F3 H3 g3 r3 n3 q3=>?_,fun F3 H3 σ3 ρ3 s3 R3 q3=>?_,fun F3 H3 σ3 ρ3 s3 R3 q3=>?_⟩ q1)
 · exact ok.nx F3 H3 σ3 _ (g1.fs.trans (g2.fs.trans s3)) (R3.out h0) q3
 · exact ok.rt v w F3 H3 (mJ g3 h0) (oT r3 q3.1) n3 q3.2
 · exact ok.bk F3 H3 σ3 _ (g1.fs.trans (g2.fs.trans s3)) (R3.out h0) q3
 · exact ok.ct F3 H3 σ3 _ (g1.fs.trans (g2.fs.trans s3)) (R3.out h0) q3
end
theorem aB(n:Nat)(fl:List Nat)(fi:En->(List Hi->Prop)->Prop)(g:Gn)(t:Gj)(ρ:En):mS (xO n fl fi g t) ρ=FY (fi ρ) fun xs=>FO (xs.length<=n) (ff fl (F_ g t) xs (fo fl ρ)):=by
 refine ag fun Q=>?_;show(fi ρ fun xs=>xs.length<=n/\mS (cX fl g t xs) (fo fl ρ) Q)↔_;simp only[lg];exact K7
theorem aq(n:Nat)(fi:En->(List Hi->Prop)->Prop)(fr:List (Option Nat))(g:Gn)(ft:TB)(fe:TV)(ρ:En):oq n fi fr g ft fe ρ=FY (fi ρ) fun xs=>FO (xs.length<=n) (FY (cY (FH (eO fr ρ) g ft fe) xs []) fun ds=>ret (.ml ds)):=by
 refine ag fun Q=>?_;show(fi ρ fun xs=>xs.length<=n/\lQ (eO fr ρ) g ft fe xs [] fun ds=>Q (.ml ds))↔_;simp only[jk];exact K7
noncomputable def fr(q:Rat):Hi:=.tuple [.int q.num,.int q.den]
theorem jW{r:Rat}(h:fr q=fr r):q=r:=by
 simp only[fr,Iy,Ie,Mt,and_true]at h;exact Rat.ext h.1 (by omega)
theorem e9(n:Int)(d:Nat)(h:d≠0):wV n d=fr (Mn n d h):=by
 unfold wV fr;rw[Rat.normalize_eq];have g:(IC n d:Int)=((n.natAbs.gcd d:Nat):Int):=by simp[IC]
 have gp:0<n.natAbs.gcd d:=Nat.gcd_pos_of_pos_right _ (by omega);have e1:n.fdiv (IC n d)=n / ((n.natAbs.gcd d:Nat):Int):=by rw[g,JA _ (by omega)]
 have e2:(d:Int).fdiv (IC n d)=((d / n.natAbs.gcd d:Nat):Int):=by rw[g,JA _ (by omega),Int.natCast_ediv]
 rw[e1,e2]
theorem gL{a:Int}(hb:0<b):wV a b=fr ((a:Rat) / (b:Rat)):=by
 obtain⟨d,rfl⟩:=Kd (show 0<=b by omega);rw[e9 a d (by omega)];congr 1;have:(Mn a d (by omega))=mkRat a d:=by rw[Rat.normalize_eq_mkRat]
 rw[this,Rat.mkRat_eq_div];rfl
theorem zo(q r:Rat):wV (q.num*r.den+r.num*q.den) (q.den*r.den)=fr (q+r):=by
 have:=e9 (q.num*r.den+r.num*q.den) (q.den*r.den) (MP q.den_nz r.den_nz);rw[K5]at this;rw[this,Rat.add_def]
theorem zm(q r:Rat):wV (q.num*r.den-r.num*q.den) (q.den*r.den)=fr (q-r):=by
 have:=e9 (q.num*r.den-r.num*q.den) (q.den*r.den) (MP q.den_nz r.den_nz);rw[K5]at this;rw[this,Rat.sub_def]
theorem zn(q r:Rat):wV (q.num*r.num) (q.den*r.den)=fr (q*r):=by
 have:=e9 (q.num*r.num) (q.den*r.den) (MP q.den_nz r.den_nz);rw[K5]at this;rw[this,Rat.mul_def]
theorem Bo(q r:Rat):decide (q.num*r.den<r.num*q.den)=decide (q<r):=by
 rw[decide_eq_decide];exact(NO q r).symm
noncomputable def E9(n:Nat)(q:Rat):Prop:=q.num.natAbs<2^n/\q.den<2^n
theorem E9.mono(h:E9 n q)(hm:n<=m):E9 m q:=⟨Hy h.1 (HJ (by decide) hm),Hy h.2 (HJ (by decide) hm)⟩
theorem qT{i:Int}(h:i.natAbs<2^2000):Hb i:=Hy h (HJ (by decide) (by decide))
theorem E9.bn(h:E9 2000 q):Hb q.num:=qT h.1
theorem E9.bd(h:E9 2000 q):Hb (q.den:Int):=qT (by rw[Jm];exact h.2)
theorem dX(q r:Rat):(0:Int)<(q.den:Int)*(r.den:Int):=KJ (by have:=q.den_nz;omega) (by have:=r.den_nz;omega)
theorem dW{r:Rat}(h:E9 2000 q)(h':E9 2000 r):((q.den:Int)*(r.den:Int)).natAbs<2^8000:=by
 rw[KG,Jm,Jm];have:q.den*r.den<2^2000*2^2000:=Ls h.2 h'.2;rw[<- Np]at this;exact Hy this (HJ (by decide) (by decide))
inductive Sd where
 | to (t:Rat)|from(a b:Rat)|round (a b:Rat)
noncomputable def Sd.last:Sd->Rat
 | .to t=>t | .from _ b=>b | .round _ b=>b
noncomputable def Sd.first:Sd->Rat
 | .to t=>t | .from a _=>a | .round a _=>a
noncomputable def E1:Sd->Hi
 | .to t=>.tuple [.str "to", fr t]
 | .from a b=>.tuple [.str "from", fr a,fr b]
 | .round a b=>.tuple [.str "round", fr a,fr b]
noncomputable def mx(q r:Rat):Rat:=if q<r then r else q
noncomputable def Sd.Sm(s:Sd):Prop:=E9 60 s.first/\E9 60 s.last
theorem fr0:pr 0 1=fr 0:=rfl
theorem fr1:pr 1 1=fr 1:=rfl
theorem DK:E9 60 0:=⟨by decide,by decide⟩
theorem DJ:E9 60 1:=⟨by decide,by decide⟩
theorem A8{r:Rat}(h:E9 n q)(h':E9 n r):E9 n (mx q r):=by unfold mx;split<;>assumption
theorem k6{n:Int}{d k:Nat}(hd:d≠0)(h1:n.natAbs<2^k)(h2:d<2^k):E9 k (Mn n d hd):=by
 rw[Rat.normalize_eq];refine⟨?_,JY (Nat.div_le_self _ _) h2⟩;show(n / ((n.natAbs.gcd d:Nat):Int)).natAbs<2^k;have hdv:((n.natAbs.gcd d:Nat):Int)∣n:=Int.ofNat_dvd_left.mpr (Nat.gcd_dvd_left _ _);rw[Int.natAbs_ediv_of_dvd hdv,Jm];exact JY (Nat.div_le_self _ _) h1
theorem dw{a b:Nat}(h1:a<2^m)(h2:b<2^n):a*b<2^(m+n):=by
 rw[Np];exact Ls h1 h2
theorem jP{r:Rat}(h:E9 m q)(h':E9 n r):E9 (m+n) (q*r):=by
 rw[Rat.mul_def];refine k6 _ ?_ (dw h.2 h'.2);rw[KG];exact dw h.1 h'.1
theorem j_{r:Rat}(h:E9 m q)(h':E9 n r):E9 (m+n+1) (q+r):=by
 rw[Rat.add_def];have a1:=dw h.1 h'.2;have a2:=dw h'.1 h.2;rw[Nat.add_comm n m]at a2;have a3:=dw h.2 h'.2;refine k6 _ ?_ (Hy a3 (HJ (by decide) (by omega)));have t:=Int.natAbs_add_le (q.num*r.den) (r.num*q.den);rw[KG,KG,Jm,Jm]at t;rw[MQ];omega
theorem oG{r:Rat}(h:E9 m q)(h':E9 n r):E9 (m+n+1) (q-r):=by
 rw[Rat.sub_eq_add_neg];exact j_ h ⟨by rw[Mp,Ll];exact h'.1,h'.2⟩
theorem E9.up(h:E9 60 q):E9 2000 q:=h.mono (by decide)
noncomputable def FQ(x y:Rat)(b:Bool):Bool:=if b then !decide (y<x)else decide (x<y)
noncomputable def FI(w:Str):Prop:=w = "half" \/ w = "shut" \/ w = "open"
noncomputable def Ft(s:Sd)(w:Str)(x:Rat):Bool :=
 let ahead:=FQ x s.last (decide (w = "shut"))
 let behind:=FQ s.first x (!decide (w = "open"))
 match s with
 | .to _=>ahead
 | .from _ _=>behind&&ahead
 | .round _ _=>behind||ahead
noncomputable def prodQ(qs:List Rat):Rat:=qs.foldl (· * ·) 1
noncomputable def nQ(ss:List Sd):Hi:=.tuple (ss.map E1)
noncomputable def BD(ss:List Sd):Prop:=1<=ss.length/\ss.length<=4/\∀s∈ss,s.Sm
noncomputable def Fb(qs:List Rat):Hi:=.tuple (qs.map fr)
noncomputable def BC(n:Nat)(qs:List Rat):Prop:=qs.length=n/\∀q∈qs,E9 60 q
noncomputable def FA(qs:List Rat)(ss:List Sd)(w:Str):Bool:=(qs.zip ss).all fun p=>Ft p.2 w p.1
noncomputable def ptsQ(ps:List (List Rat)):Hi:=.tuple (ps.map Fb)
theorem at_last2{α:Type}(x y:α):L2.atI [x,y] (-1)=some y:=rfl
theorem at_last3{α:Type}(x y z:α):L2.atI [x,y,z] (-1)=some z:=rfl
theorem dD{α β:Type}(f:α->Hi)(g:β->Hi):∀(xs:List α)(ys:List β),ki (xs.map f) (ys.map g)=(xs.zip ys).map fun p=>.tuple [f p.1,g p.2]
 | [],_=>by simp[ki]
 | _::_,[]=>by simp[ki]
 | x::xs,y::ys=>by
   show Ii [f x,g y]::ki (xs.map f) (ys.map g)=_;rw[dD f g xs ys];rfl
theorem ut{α:Type}(p:α->Bool)(f:α->Hi):∀xs:List α,(xs.filterMap fun x=>if p x=true then some (f x)else none).length=(xs.filter p).length
 | []=>rfl
 | x::xs=>by
   have ih:=ut p f xs;cases h:p x<;>simp[h,ih]
theorem lm:∀qs:List Rat,IE (qs.map fr)=true
 | []=>rfl
 | q::qs=>by simp[IE,JR,fr,lm qs]
theorem qq:∀qs:List Rat,IN (qs.map fr)<=3
 | []=>by simp[IN]
 | q::qs=>by
   have:=qq qs;simp[IN,Ks,fr]at this ⊢;omega
theorem at_last1{α:Type}(x:α):L2.atI [x] (-1)=some x:=rfl
theorem di{r:Rat}:fr q=fr r↔q=r:=⟨jW,fun h=>by rw[h]⟩
theorem bE{s t:Sd}:E1 s=E1 t↔s=t:=by
 constructor
 · intro h;have n1:¬(Iw "from" = Iw "round"):=by decide +kernel
   cases s<;>cases t<;>simp[E1,di,n1,Me n1]at h ⊢ <;> first|exact h|exact(n1 h.1.symm).elim|exact(n1 h.1).elim
 · rintro rfl;rfl
theorem bC{a b:List Rat}:Fb a=Fb b↔a=b:=by
 unfold Fb;rw[Iy,aX fun _ _=>di]
theorem aS{a b:List Sd}:nQ a=nQ b↔a=b:=by
 unfold nQ;rw[Iy,aX fun _ _=>bE]
theorem aM{a b:List (List Rat)}:ptsQ a=ptsQ b↔a=b:=by
 unfold ptsQ;rw[Iy,aX fun _ _=>bC]
theorem bI{a b:List Rat}:a.map fr=b.map fr↔a=b:=aX fun _ _=>di
theorem item_fr0(q:Rat):itemAt (fr q) 0=some (.int q.num):=rfl
theorem item_fr1(q:Rat):itemAt (fr q) 1=some (.int q.den):=rfl
theorem tupD_pt(a:List Rat):tupD (Fb a)=some (a.map fr):=rfl
theorem seqD_pt(a:List Rat):fR (Fb a)=some (a.map fr):=rfl
theorem lenD_pt(a:List Rat):lj (Fb a)=some a.length:=by show some (a.map fr).length=_;rw[Hs]
theorem item_pt(a:List Rat)(i:Int):itemAt (Fb a) i=(atI a i).map fr:=atI_map _ _ _
theorem tupD_bx(a:List Sd):tupD (nQ a)=some (a.map E1):=rfl
theorem seqD_bx(a:List Sd):fR (nQ a)=some (a.map E1):=rfl
theorem lenD_bx(a:List Sd):lj (nQ a)=some a.length:=by show some (a.map E1).length=_;rw[Hs]
theorem item_bx(a:List Sd)(i:Int):itemAt (nQ a) i=(atI a i).map E1:=atI_map _ _ _
theorem tupD_ps(a:List (List Rat)):tupD (ptsQ a)=some (a.map Fb):=rfl
theorem seqD_ps(a:List (List Rat)):fR (ptsQ a)=some (a.map Fb):=rfl
theorem lenD_ps(a:List (List Rat)):lj (ptsQ a)=some a.length:=by show some (a.map Fb).length=_;rw[Hs]
theorem item_ps(a:List (List Rat))(i:Int):itemAt (ptsQ a) i=(atI a i).map Fb:=atI_map _ _ _
theorem kind_pt(a:List Rat):dM (Fb a)=dM (.tuple []):=rfl
theorem kind_bx(a:List Sd):dM (nQ a)=dM (.tuple []):=rfl
noncomputable def qd(a b:Int):Rat:=(a:Rat) / (b:Rat)
theorem pL{a:Int}(hb:0<b):Ii [.int (a.fdiv (IC a b)),.int (b.fdiv (IC a b))]=fr (qd a b):=gL hb
theorem wc{a:Int}(hb:b<0):Ii [.int (a.fdiv (-(IC a b:Int))),.int (b.fdiv (-(IC a b:Int)))]=fr (qd a b):=by
 have h:=pL (a:=-a) (b:=-b) (by omega)
 have e:qd (-a) (-b)=qd a b:=by
  unfold qd;rw[Rat.intCast_neg,Rat.intCast_neg]
  have : (b : Rat) ≠ 0 := by intro z;have:b=0:=by exact_mod_cast z
                             omega
  grind
 rw[<- e,<- h,Int.gcd_neg,Int.neg_gcd];congr 2
 · rw[<- Int.neg_fdiv_neg,Int.neg_neg]
 · rw[<- Int.neg_fdiv_neg (b:=-(IC a b:Int)),Int.neg_neg]
theorem gw(q:Rat):qd q.num q.den=q:=by
 unfold qd;have:=Rat.mkRat_self q;rw[Rat.mkRat_eq_div]at this;exact this
theorem t6(q r:Rat):qd (q.num*r.den+r.num*q.den) (q.den*r.den)=q+r:=jW (by rw[<- zo];exact(gL (dX q r)).symm)
theorem yp(q r:Rat):qd (q.num*r.den-r.num*q.den) (q.den*r.den)=q-r:=jW (by rw[<- zm];exact(gL (dX q r)).symm)
theorem t3(q r:Rat):qd (q.num*r.num) (q.den*r.den)=q*r:=jW (by rw[<- zn];exact(gL (dX q r)).symm)
theorem fy(q:Rat):(0:Int)<(q.den:Int):=by have:=q.den_nz;omega
theorem kW{a:Int}{k:Nat}(hb:0<b)(h1:a.natAbs<2^k)(h2:b.natAbs<2^k):E9 k (qd a b):=by
 obtain⟨d,rfl⟩:=Kd (show 0<=b by omega);have hd:d≠0:=by omega
 have e:qd a d=Mn a d hd:=jW (by rw[<- e9,gL (by omega)];rfl);rw[e];exact k6 _ h1 (by simpa using h2)
theorem ui(h:E9 n q):E9 n (-q):=⟨by rw[Mp,Ll];exact h.1,h.2⟩
theorem lZ:∀(qs:List Rat)(k:Nat)(a:Rat),E9 k a->(∀q∈qs,E9 190 q)->E9 (k+190*qs.length) (qs.foldl (· * ·) a)
 | [],k,a,h,_=>h
 | q::qs,k,a,h,hq=>by
   have:=lZ qs (k+190) (a*q) (jP h (hq q Hr)) fun r hr=>hq r (Hv _ hr);rw[IH];refine this.mono ?_;rw[Il];omega
theorem pQ:∀ps:List (List Rat),IE (ps.map Fb)=true
 | []=>rfl
 | p::ps=>by simp[IE,JR,Fb,lm,pQ ps]
theorem qp:∀ps:List (List Rat),IN (ps.map Fb)<=5
 | []=>by simp[IN]
 | p::ps=>by
   have:=qp ps;have:=qq p;simp[IN,Ks,Fb]at *;omega
theorem na(ps:List (List Rat)):IK (.list (ps.map Fb))=true:=by
 have:=qp ps;simp[IK,JR,Ks,pQ];omega
noncomputable def pdim(ps:List (List Rat)):Nat:=(ps.head?.getD []).length
theorem nj{a:Int}(hb:0<b)(h:0<=a):0<=qd a b:=by
 unfold qd;have h1:(0:Rat)<=(a:Rat):=by exact_mod_cast h
 have h2:(0:Rat)<(b:Rat):=by exact_mod_cast hb
 rw[KL];exact Rat.mul_nonneg h1 (Lo (Rat.inv_pos.mpr h2))
theorem o6{a:Int}(hb:0<b)(h:a<b):qd a b<1:=by
 unfold qd;have h1:(a:Rat)<(b:Rat):=by exact_mod_cast h
 have h2:(0:Rat)<(b:Rat):=by exact_mod_cast hb
 exact(Rat.div_lt_iff h2).mpr (by rw[KM];exact h1)
noncomputable def Hg:=Hj @item_fr0 (Hj @item_fr1 (Hj @tupD_pt (Hj @seqD_pt (Hj @lenD_pt (Hj @item_pt (Hj @tupD_bx (Hj @seqD_bx (Hj @lenD_bx (Hj @item_bx (Hj @tupD_ps (Hj @seqD_ps (Hj @lenD_ps (Hj @item_ps (Hj @at_last1 (Hj @at_last2 (Hj @at_last3 (Hj @kind_pt (Hj @kind_bx (Hj @fr0 (@fr1))))))))))))))))))))
noncomputable def fv(b:Int):List Int->Rat
 | []=>0
 | d::ds=>((d:Rat)+fv b ds) / (b:Rat)
noncomputable def tv(b:Int)(ds:List Int):Int:=ds.foldl (fun t d=>t*b+d) 0
theorem cM(h:0<b):(b:Rat)≠0:=by
 intro z;have:b=0:=by exact_mod_cast z
 omega
noncomputable def ix(p:List Int)(f:Int):Int:=(p.idxOf f:Int)
noncomputable def Fx(b:Int)(N:Nat)(q:Rat):Prop:=∃(T:Int)(k:Nat),q=qd T (b^k)/\0<=T/\T<b^k/\b^k<2^N
theorem AV{a c d:Int}(hb:0<b)(hd:0<d):qd a b*qd c d=qd (a*c) (b*d):=by
 have h1:=cM hb;have h2:=cM hd;unfold qd;rw[IQ,IQ]
 grind
theorem iE{x:Int}{N:Nat}(h0:0<=x)(h:x<2^N):x.natAbs<2^N:=by
 have:((x.natAbs:Nat):Int)<((2^N:Nat):Int):=by rw[M9 h0];exact_mod_cast h
 exact_mod_cast this
theorem k9{x y:Int}{N M:Nat}(x0:0<=x)(y0:0<y)(hx:x<2^N)(hy:y<2^M):x*y<2^(N+M):=by
 rw[Int.pow_add];have h1:x*y<2^N*y:=LJ hx y0;have h2:(2:Int)^N*y<=2^N*2^M:=JM (by omega) (Int.pow_nonneg (by decide));omega
theorem uY(q:Rat):tupD (fr q)=some [.int q.num,.int q.den]:=rfl
theorem eqv_fr(a b:Rat):IL (fr a) (fr b)=decide (a=b):=by
 unfold fr;simp only[IL,Kc];by_cases h:a=b
 · subst h;simp[IL]
 · have:¬(a.num=b.num/\a.den=b.den):=fun z=>h (Rat.ext z.1 z.2);simp only[h,decide_false,Bool.and_true,IL];rw[Bool.and_eq_false_iff];by_cases h1:a.num=b.num
   · right
     have:a.den≠b.den:=fun z=>this ⟨h1,z⟩;simp;omega
   · left;simpa using h1
theorem eU(q:Rat):IK (fr q)=true:=by
 simp[IK,fr,JR,IE,Ks,IN]
noncomputable def q9:Rat:=⟨999999999998,999999999999,by decide,by decide⟩
theorem qi{α:Type}(p:α->Bool)(f:α->Hi):∀xs:List α,(xs.filterMap fun x=>if p x=true then some (f x)else none)=(xs.filter p).map f
 | []=>rfl
 | x::xs=>by
   have ih:=qi p f xs;cases h:p x<;>simp[h,ih]
theorem qS{i:Int}{k:Nat}(h:i.natAbs<2^k)(hk:k<=60000):Hb i:=Hy h (HJ (by decide) hk)
end L2.VL
namespace L2
theorem nH{prog:HV}{R:N6->Ht->Prop}{s:Ht}{kx vx target:Expr}{it:Hq}{D:Addr}{env:Env}(I:Nat->Ht->Prop)
 (turn:∀n s,I n s->HP (Ib prog w) A (L6 it) (fun r s₁=>(r=none/\R (.ok .next) s₁)\/∃v,r=some v /\
  HP (Ib prog w) A (JH target it v) (fun _ s₂=>HP (Ib prog w) A (Kz target env v) (fun _ s₃=>HP (Ib prog w) A (eJ ifs env) (fun ok s₄ =>
   if ok=true then HP (Ib prog w) A (eval kx env) (fun x s₅=>HP (Ib prog w) A (eval vx env) (fun y s₆=>HP (Ib prog w) A (dictSet D x y) (fun _ s₇=>∃m,m<n/\I m s₇) (fun _ _=>False) s₆) (fun _ _=>False) s₅) (fun _ _=>False) s₄
   else ∃m,m<n/\I m s₄) (fun _ _=>False) s₃) (fun _ _=>False) s₂) (fun _ _=>False) s₁) (fun _ _=>False) s)
 (n:Nat)(h:I n s):JU (Ib prog w) A (.compLoop (.DictComp kx vx [⟨target,iter,ifs,0⟩] scope pos) 0 it (.ref D) env) R s:=by
 refine MK rfl I (fun n s hI=>?_) n h;show HP _ A ((NA (.DictComp kx vx [⟨target,iter,ifs,0⟩] scope pos) 0 it (.ref D) env).onRaise (fun x=>do NB x env;LH x)) _ _ s;refine Nn ?_;rw[compTurn_dict];refine Hl (Jv (Hl (Im (turn n s hI) (fun r s₁ h₁=>?_) fun _ _ h'=>h'.elim)));rcases h₁ with⟨rfl,h₁⟩|⟨v,rfl,h₁⟩
 · exact Hn h₁
 · refine Hl (Im h₁ (fun _ s₂ h₂=>Hl (Im h₂ (fun _ s₃ h₃=>Hl (Im h₃ (fun ok s₄ h₄=>?_) fun _ _ z=>z.elim)) fun _ _ z=>z.elim)) fun _ _ z=>z.elim)
   cases ok with
   | false=>exact Hn ⟨rfl,h₄⟩
   | true=>exact Hl (Hl (Im h₄ (fun x s₅ h₅=>Hl (Ku (Im h₅ (fun y s₆ h₆=>Hl (Jv (Ku (Im h₆ (fun _ s₇ h₇=>Hn ⟨rfl,h₇⟩) fun _ _ z=>z.elim)))) fun _ _ z=>z.elim))) fun _ _ z=>z.elim))
section
variable{X:Cx}{kx vx tg iter:Expr}{ifs:List Expr}{scope:Scope}{pos:Pos}{wi:TI}{g:CompA->TG}{tt:CompA->TT}{tk te:CompA->TE}
end
section
variable{prog:HV}{w:IF}{A:IM}{E:Hq->Ht->Prop}
end
section
variable{X:Cx}
end
end L2
namespace L2.VL
section
variable{K:W.Frag}{F:Hp}{us:List (GP×V)}{kvs:List (GP×Hi)}
end
section
variable{X:Cx}{rl:RlT}{kx vx tg iter:Expr}{ifs:List Expr}{scope:Scope}{pos:Pos}{fi:En->(List Hi->Prop)->Prop}{g:Gn}{ft:TB}{fk fe:TV}
end
section
variable{α:Type}{b:Hi->Mo (Option (GP×Hi))}
end
section
variable{X:Cx}{rl:RlT}{a c e o i:Expr}{es:List Expr}{fa fb:TV}{fs:Gi}{pos p kpos:Pos}{ρ:En}
end
end L2.VL
namespace L2
end L2
namespace L2.VL
section
variable{X:Cx}{rl:RlT}{tg:Expr}{fa:TV}{ρ:En}
end
end L2.VL
namespace L2
variable{X:Cx}
end L2
namespace L2.VL
section
variable{X:Cx}{rl:RlT}{a e:Expr}{es:List Expr}{fs:Gi}{pos:Pos}
end
theorem Dfn.never{K:W.Frag}{base:Heap}{st:Stmt}{ps:List Str}{k:Nat}(Fn:FnIn K mg x st ps)(no:∀ws Q,Pd ws Q->False:=by exact fun _ _ z=>z):Dfn P w K mg base rl x ps k Pd:=by
 obtain⟨f,fd,hm,F,hb⟩:=Fn.ex;exact⟨fun ws Q Q' _ z=>(no ws Q z).elim,f,fd,hm,F.kp,hb,⟨fun vs H Q E ⟨_,ws,_,_,_,_,z⟩=>(no ws _ z).elim,fun A outer s H args us vs Q E _ _ _ _ ⟨_,ws,_,_,_,_,z⟩=>(no ws _ z).elim⟩⟩
end L2.VL
namespace L2
section
variable{X:Cx}
theorem jd{its:List Hq}(r:de (ns.map V.int) its){v:Hq}(e:its[i]?=some v):∃t,v = .int (ns.getD i 0) t:=by
 have hl:=r.length;rw[Hs]at hl;have hi:i<ns.length:=by have:=(HM.mp e).1;omega
 have hb:(ns.map V.int)[i]?=some (.int ns[i]):=by simp[hi]
 obtain⟨u,hu,ru⟩:=r.get hb;rw[e]at hu;cases hu;have:ns.getD i 0=ns[i]:=by simp[N_,hi]
 rw[this];exact ru
theorem preSum_eq(ns:List Int):preSum (fun i=>ns.getD i 0) ns.length=ns.sum:=by
 have key:∀k,k<=ns.length->preSum (fun i=>ns.getD i 0) k=(ns.take k).sum:=by
  intro k
  induction k with
  | zero=>intro _;rfl
  | succ k ih =>
    intro hk;have hk':k<ns.length:=by omega
    show preSum _ k+ns.getD k 0=_;rw[ih (by omega),HG hk',List.sum_append];simp[N_,hk']
 rw[key _ (Hw _),HF (Hw _)]
theorem qM(hc:X.calm=true):fG X (.builtin "sum") (fun xs H Q=>∃(p:Addr)(ns:List Int),xs=[.ref p]/\Gq X.K H p (ns.map V.int)/\Q (.int ns.sum) H):=by
 intro pins s σ H xs us Q I r ⟨p,ns,ex,hq,q⟩;subst ex;obtain⟨u,rfl,ru⟩:=vals1 r;cases ru;obtain⟨its,rv,pl,hz⟩:=I.list hq;have hl:=rv.length;rw[Hs]at hl;refine call_sum_walkG (Lc pl.isList ?_);have ne:p≠s.heap.objs.size:=by obtain⟨o,ho,_⟩:=pl.isList;exact Io (HD ho)
 refine⟨s.heap.objs.size,_,_,_,_,_,fun i=>ns.getD i 0,rfl,Walks.list (A:=X.A.in1) (I.ok.hd hc) s.heap.objs.size p ne its.toArray,⟨⟨_,HK _ rfl,rfl,rfl⟩,pl.isList.push _⟩,?_,?_,?_⟩
 · intro b hb;have hb:b=s.heap.objs.size\/b=p:=by simpa using hb
   show b<(Heap.push _ _).objs.size;rw[JG];rcases hb with rfl|rfl
   · exact Nat.lt_succ_self _
   · obtain⟨o,ho,_⟩:=pl.isList;exact Nat.lt_succ_of_lt (HD ho)
 · intro i v hP;exact jd rv (by simpa using hP)
 · intro h' tk t' k;have e:preSum (fun i=>ns.getD i 0) its.toArray.size=ns.sum:=by rw[HL,<- hl];exact preSum_eq ns
   rw[e];exact⟨.int _,H,I.kept (t':=tk) fun b o eb=>k b o (by simp;exact Io (HD eb)) (Hu _ eb),⟨t',rfl⟩,q⟩
end
end L2
namespace L2.VL
section
variable{X:Cx}{rl:RlT}{a:Expr}{fs:Gi}{pos p:Pos}
noncomputable def Bi:List W->(W->Prop)->Prop:=fun ws Q=>∃(w:W)(ns:List Int),ws=[w]/\w.dat=some (.list (ns.map .int))/\Q (.d (.int ns.sum))
theorem xo:fP X rl (fun xs H Q=>∃(p:Addr)(ns:List Int),xs=[.ref p]/\Gq X.K H p (ns.map V.int)/\Q (.int ns.sum) H) Bi:=fun{F H vs ws} Qd Q s ra r ⟨w,ns,ew,ed,q⟩ k=>by
 subst ew;obtain⟨v,rfl,r1⟩:=oU r;obtain⟨a,us,rfl,sq,rs⟩:=r1.items s ed;have e:=eV rs;subst e;exact⟨a,ns,rfl,sq,k _ (.d _) _ _ (Grow.refl s ra) (.int _) trivial q⟩
theorem v_sum(hm:X.mg "sum" = none)(ha:Gz X rl [a] fs)(hc:autoParam (X.calm=true) æa._auto_1)(hg:autoParam (Gl X "sum") æa._auto_1)(he:autoParam (HA [a] X.env=(false,eval a X.env)::HA [] X.env) æa._auto_1)(hpl:autoParam ((Jl pos (HA [] X.env)).any (·.1)=false) æa._auto_1) :
 PV X rl (.Call (.Name "sum" p) [a] [] pos) (eA Bi fs):=fH (qM hc) xo hm (by rfl) ha hg (by decide) (by decide) he hpl
noncomputable def wt:Hi->Option (List Int)
 | .list xs=>ig xs
 | _=>none
theorem z_:wt d=some ns↔d = .list (ns.map .int):=by
 constructor
 · intro h
   cases d with
   | list xs=>rw[gf h]
   | _=>cases h
 · rintro rfl;exact cL _
theorem m_gSum(w:W):Bi [w]=aJ (w.dat.bind wt) fun ns=>ret (.d (.int ns.sum)):=by
 refine ag fun Q=>?_;rw[ai];constructor
 · rintro⟨w',ns,e,ed,q⟩;cases e;exact⟨ns,by rw[ed];exact cL ns,q⟩
 · rintro⟨ns,e,q⟩
   cases ed:w.dat with
   | none=>rw[ed]at e;cases e
   | some d =>
     rw[ed]at e;exact⟨w,ns,rfl,by rw[ed,z_.mp e],q⟩
theorem intsO_l(ns:List Int):wt (.list (ns.map .int))=some ns:=cL ns
noncomputable def Hd:=Hj @m_gSum (@intsO_l)
end
end L2.VL
namespace L2
abbrev FC(elt t1 i1:Expr)(f1:List Expr)(t2 i2:Expr)(f2:List Expr)(scope:Scope)(pos:Pos):Expr:=.ListComp elt [⟨t1,i1,f1,0⟩,⟨t2,i2,f2,0⟩] scope pos
theorem uW(elt t1 i1:Expr)(f1:List Expr)(t2 i2:Expr)(f2:List Expr)(scope:Scope)(pos:Pos)(it acc:Hq)(env:Env) :
 NA (FC elt t1 i1 f1 t2 i2 f2 scope pos) 0 it acc env=(Nk i1.pos >>= fun _=>L6 it >>= fun r=>match r with
  | none=>pure (.done .next)
  | some v=>JH t1 it v >>= fun _=>Kz t1 env v >>= fun _=>eJ f1 env >>= fun ok=>(if ok=true then
      (eval i2 env >>= fun x=>Nk i2.pos >>= fun _=>Ig i2 env x >>= fun x=>holding [x] (NQ x) >>= fun y=>runOwn (.compStart (FC elt t1 i1 f1 t2 i2 f2 scope pos) 1 y acc env) env >>= fun _=>again (.compLoop (FC elt t1 i1 f1 t2 i2 f2 scope pos) 0 it acc env))
      else again (.compLoop (FC elt t1 i1 f1 t2 i2 f2 scope pos) 0 it acc env))):=by rfl
theorem uV(elt t1 i1:Expr)(f1:List Expr)(t2 i2:Expr)(f2:List Expr)(scope:Scope)(pos:Pos)(it acc:Hq)(env:Env) :
 NA (FC elt t1 i1 f1 t2 i2 f2 scope pos) 1 it acc env=(Nk i2.pos >>= fun _=>L6 it >>= fun r=>match r with
  | none=>pure (.done .next)
  | some v=>JH t2 it v >>= fun _=>Kz t2 env v >>= fun _=>eJ f2 env >>= fun ok=>(if ok=true then
      ((eval elt env >>= fun x=>call (.builtin "list.append") [acc,x] >>= fun _=>pure ()) >>= fun _=>again (.compLoop (FC elt t1 i1 f1 t2 i2 f2 scope pos) 1 it acc env))
      else again (.compLoop (FC elt t1 i1 f1 t2 i2 f2 scope pos) 1 it acc env))):=by rfl
section
variable{prog:HV}{w:IF}{A:IM}{R:N6->Ht->Prop}{s:Ht}{elt t1 i1 t2 i2:Expr}{f1 f2:List Expr}{scope:Scope}{pos:Pos}{it acc:Hq}{env:Env}
theorem we(I:Nat->Ht->Prop)(hs:∀x,Ig i2 env x=pure x)
 (turn:∀n s,I n s->HP (Ib prog w) A (L6 it) (fun r s₁=>(r=none/\R (.ok .next) s₁)\/∃v,r=some v /\
  HP (Ib prog w) A (JH t1 it v) (fun _ s₂=>HP (Ib prog w) A (Kz t1 env v) (fun _ s₃=>HP (Ib prog w) A (eJ f1 env) (fun ok s₄ =>
   if ok=true then HP (Ib prog w) A (eval i2 env) (fun x s₅=>HP (Ib prog w) A (NQ x) (fun y s₆=>JU (Ib prog w) A (.compStart (FC elt t1 i1 f1 t2 i2 f2 scope pos) 1 y acc env) (fun r s₇=>r = .ok .next/\∃m,m<n/\I m s₇) s₆) (fun _ _=>False) s₅) (fun _ _=>False) s₄
   else ∃m,m<n/\I m s₄) (fun _ _=>False) s₃) (fun _ _=>False) s₂) (fun _ _=>False) s₁) (fun _ _=>False) s)
 (n:Nat)(h:I n s):JU (Ib prog w) A (.compLoop (FC elt t1 i1 f1 t2 i2 f2 scope pos) 0 it acc env) R s:=by
 refine MK rfl I (fun n s hI=>?_) n h;show HP _ A ((NA (FC elt t1 i1 f1 t2 i2 f2 scope pos) 0 it acc env).onRaise (fun x=>do NB x env;LH x)) _ _ s;refine Nn ?_;rw[uW];refine Hl (Jv (Hl (Im (turn n s hI) (fun r s₁ h₁=>?_) fun _ _ h'=>h'.elim)));rcases h₁ with⟨rfl,h₁⟩|⟨v,rfl,h₁⟩
 · exact Hn h₁
 · refine Hl (Im h₁ (fun _ s₂ h₂=>Hl (Im h₂ (fun _ s₃ h₃=>Hl (Im h₃ (fun ok s₄ h₄=>?_) fun _ _ z=>z.elim)) fun _ _ z=>z.elim)) fun _ _ z=>z.elim)
   cases ok with
   | false=>exact Hn ⟨rfl,h₄⟩
   | true =>
     refine Hl (Im h₄ (fun x s₅ h₅=>Hl (Jv (Hl (Mk (hs x) (Hl (Ku (Im h₅ (fun y s₆ h₆=>?_) fun _ _ z=>z.elim))))))) fun _ _ z=>z.elim);refine Hl (wpAny_runOwn (LO h₆ fun r s₇ ⟨hr,h₇⟩=>?_));subst hr;exact Hn ⟨rfl,h₇⟩
theorem wd(I:Nat->Ht->Prop)
 (turn:∀n s,I n s->HP (Ib prog w) A (L6 it) (fun r s₁=>(r=none/\R (.ok .next) s₁)\/∃v,r=some v /\
  HP (Ib prog w) A (JH t2 it v) (fun _ s₂=>HP (Ib prog w) A (Kz t2 env v) (fun _ s₃=>HP (Ib prog w) A (eJ f2 env) (fun ok s₄ =>
   if ok=true then HP (Ib prog w) A (eval elt env) (fun x s₅=>HP (Ib prog w) A (call (.builtin "list.append") [acc,x]) (fun _ s₆=>∃m,m<n/\I m s₆) (fun _ _=>False) s₅) (fun _ _=>False) s₄
   else ∃m,m<n/\I m s₄) (fun _ _=>False) s₃) (fun _ _=>False) s₂) (fun _ _=>False) s₁) (fun _ _=>False) s)
 (n:Nat)(h:I n s):JU (Ib prog w) A (.compLoop (FC elt t1 i1 f1 t2 i2 f2 scope pos) 1 it acc env) R s:=by
 refine MK rfl I (fun n s hI=>?_) n h;show HP _ A ((NA (FC elt t1 i1 f1 t2 i2 f2 scope pos) 1 it acc env).onRaise (fun x=>do NB x env;LH x)) _ _ s;refine Nn ?_;rw[uV];refine Hl (Jv (Hl (Im (turn n s hI) (fun r s₁ h₁=>?_) fun _ _ h'=>h'.elim)));rcases h₁ with⟨rfl,h₁⟩|⟨v,rfl,h₁⟩
 · exact Hn h₁
 · refine Hl (Im h₁ (fun _ s₂ h₂=>Hl (Im h₂ (fun _ s₃ h₃=>Hl (Im h₃ (fun ok s₄ h₄=>?_) fun _ _ z=>z.elim)) fun _ _ z=>z.elim)) fun _ _ z=>z.elim)
   cases ok with
   | false=>exact Hn ⟨rfl,h₄⟩
   | true=>exact Hl (Hl (Im h₄ (fun x s₅ h₅=>Hl (Im h₅ (fun _ s₆ h₆=>Hn (Hn ⟨rfl,h₆⟩)) fun _ _ z=>z.elim)) fun _ _ z=>z.elim))
theorem rH
 (h0:JU (Ib prog w) A (.compLoop (FC elt t1 i1 f1 t2 i2 f2 scope pos) 1 it acc env) R s)
 (h:HP (Ib prog w) A (NQ it) (fun it' s'=>JU (Ib prog w) A (.compLoop (FC elt t1 i1 f1 t2 i2 f2 scope pos) 1 it' acc env) R s') (notedBy (Ib prog w) A env fun x s'=>R (.error x) s') s) :
 JU (Ib prog w) A (.compStart (FC elt t1 i1 f1 t2 i2 f2 scope pos) 1 it acc env) R s:=by
 refine codeAny_of_tree ?_;show HP _ _ ((compStart (FC elt t1 i1 f1 t2 i2 f2 scope pos) 1 it acc env).onRaise (fun x=>do NB x env;Nk theWindowsPlace)) _ _ s;refine wpAny_notedAt ?_;unfold compStart;show HP _ _ (ask >>= _) _ _ s;refine Hl (wpAny_askSetting (wpAny_ite ?_));split
 · first
     | exact Hl (Hn (Hn (Hj rfl h0)))
     | exact Hn (Hj rfl h0)
 · first
     | exact Hl (Lb (Hl (Jv (Hl (Im h (fun it' s' h'=>Hn (Hj rfl h')) fun _ _ x=>x)))))
     | (refine Hl (Lb ?_);show HP _ _ (Nk i2.pos >>= _) _ _ s;exact Hl (Jv (Hl (Im h (fun it' s' h'=>Hn (Hj rfl h')) fun _ _ x=>x))))
end
noncomputable def EN(wi:TI)(g:TG)(tt:TT)(te:TE)(D:Addr)(acc:List V)(σ:St)(H:Hp)(R:List V->St->Hp->Prop):Prop:=wi σ H fun J H1=>∃Wv:Nat->Nat->List V->St->Hp->Prop,(∃m,Wv 0 m acc σ H1) /\
 ∀ i m acc σc H,Wv i m acc σc H->(J.stop i H/\R acc σc H)\/(J.go i H/\∀x H',J.yld i H x H'->g x σc H' fun σ2 H2=>tt σ2 H2 fun b H3 =>
   if b=true then te σ2 H3 fun y H4=>H4 D=some (.lst acc)/\acc.length<sizeLine/\∃m',m'<m/\Wv (i+1) m' (acc++[y]) σ2 (Ex H4 D (.lst (acc++[y])))else ∃m',m'<m/\Wv (i+1) m' acc σ2 H3)
section
variable{Y:Cx}{elt t1 i1 t2 i2:Expr}{f1 f2:List Expr}{scope:Scope}{pos:Pos}{wi:TI}{g:TG}{tt:TT}{te:TE}{D:Addr}
theorem zb(hc:Y.calm=true)(hx:Y.xe=fun _ _=>False)(hi:PI Y t2 i2 wi)(hg:PG Y t2 g)(ht:GB Y f2 tt)(he:PE Y elt te){s:Ht}{acc:List V}{R:List V->St->Hp->Prop}{Rp:Ht->Prop}
 (I:Inv Y pins σ H s)(q:EN wi g tt te D acc σ H R)(fin:∀acc σ5 H5 s5,Inv Y pins σ5 H5 s5->R acc σ5 H5->Rp s5) :
 HP (Ib Y.prog Y.w) Y.A (eval i2 Y.env) (fun x s₅=>HP (Ib Y.prog Y.w) Y.A (NQ x) (fun y s₆=>JU (Ib Y.prog Y.w) Y.A (.compStart (FC elt t1 i1 f1 t2 i2 f2 scope pos) 1 y (.ref D) Y.env) (fun r s₇=>r = .ok .next/\Rp s₇) s₆) (fun _ _=>False) s₅) (fun _ _=>False) s:=by
 have hi':=hi pins s σ H _ I q;rw[hx]at hi';refine EH hi' fun v s1 h1=>EH h1 fun itv s2 h2=>?_;obtain⟨it,fp,tn,J,H2,e,I2,T,st2,f2',Wv,⟨m0,w0⟩,turn⟩:=h2;subst e;have stat:∀{H':Hp},(∀b∈fp,H' b=none)->∀b∈fp,lG Y pins H' b:=fun hn b hb=>⟨hn b hb,(f2' b hb).2⟩
 have loop:JU (Ib Y.prog Y.w) Y.A (.compLoop (FC elt t1 i1 f1 t2 i2 f2 scope pos) 1 (.ref it) (.ref D) Y.env) (fun r s₇=>r = .ok .next/\Rp s₇) s2:=by
  refine wd (fun n s'=>∃i acc σ' H',Inv Y pins σ' H' s'/\tn i s'.heap/\(∀b∈fp,H' b=none)/\Wv i n acc σ' H') ?_ m0 ⟨0,acc,σ,H2,I2,st2,fun b hb=>(f2' b hb).1,w0⟩;rintro n s4 ⟨i,acc,σ4,H4,I4,st4,fr4,w4⟩;rcases turn i n acc σ4 H4 w4 with⟨stop,qn⟩|⟨go,step⟩
  · exact EH (T.done Y rfl rfl rfl hc i pins s4 σ4 H4 (fun _ _=>False) I4 (stat fr4) st4 stop) fun r s5 ⟨hr,I5⟩=>.inl ⟨hr,rfl,fin acc σ4 H4 s5 I5 qn⟩
  · refine EH (T.item Y rfl rfl rfl hc i pins s4 σ4 H4 (fun _ _=>False) I4 (stat fr4) st4 go) fun r s5 ⟨u,hr,h5⟩=>.inr ⟨u,hr,?_⟩;refine EH h5 fun _ s6 ⟨x,H6,I6,r6,y6,st6,fr6⟩=>?_;have I6':=I6.pinned (stat fr6) (T.obj _ _ st6)
    have again:∀{σ7:St}{H7:Hp}{s7:Ht},Inv Y (pins++fU fp s6.heap) σ7 H7 s7->∀{acc':List V}{m':Nat},m'<n->Wv (i+1) m' acc' σ7 H7 ->
     ∃m,m<n/\∃i acc σ' H',Inv Y pins σ' H' s7/\tn i s7.heap/\(∀b∈fp,H' b=none)/\Wv i m acc σ' H':=fun{σ7 H7 s7} I7 {acc' m'} hm w7=>by
     refine⟨m',hm,i+1,acc',σ7,H7,I7.unpinned,T.keep _ _ _ st6 fun b hb o e=>(I7.pin (b,o) (HH _ (HH _ (bT hb e)))).1,fun b hb=>?_,w7⟩;obtain⟨o,e,d⟩:=T.obj _ _ st6 b hb;exact(I7.pin (b,o) (HH _ (HH _ (bT hb e)))).2.1
    have h7:=hg _ s6 σ4 H6 x u _ I6' r6 (step x H6 y6);rw[hx]at h7;refine EH h7 fun _ s7 ⟨σ7,H7,I7,q7⟩=>?_;have h8:=ht _ s7 σ7 H7 _ I7 q7;rw[hx]at h8;refine EH h8 fun ok s8 ⟨H8,I8,q8⟩=>?_
    cases ok with
    | false =>
      rw[if_neg H_]at q8 ⊢;obtain⟨m',hm,w8⟩:=q8
      exact again I8 hm w8
    | true =>
      rw[if_pos rfl]at q8 ⊢;have h9:=he _ s8 σ7 H8 _ I8 q8;rw[hx]at h9;refine EH h9 fun y s9 ⟨yv,H9,I9,r9,eD,hl,m',hm,w9⟩=>?_;have h10:=e8 (X:=Y) _ s9 σ7 H9 (.ref D) [yv] (.ref D) [y] (fun _ H'=>H'=Ex H9 D (.lst (acc++[yv]))) I9 rfl (.cons r9 .nil) ⟨D,acc,yv,rfl,rfl,eD,hl,rfl⟩;rw[hx]at h10;exact EH h10 fun _ s10 ⟨_,H10,I10,_,e10⟩=>by subst e10;exact again I10 hm w9
 exact rH loop (T.self Y.A 0 _ _ _ st2 loop)
end
noncomputable def oD(wi:TI)(fr:List (Option Nat))(g:CompA->TG)(tt:CompA->TT)(wj:CompA->TI)(g2:CompA->TG)(tt2:CompA->TT)(te:CompA->TE):TE:=fun σ H Q=>wi σ H fun J H1=>∀D,H1 D=none->∃Wv:Nat->Nat->List V->St->Hp->Prop,(∃m,Wv 0 m [] (nO fr σ) (Ex H1 D (.lst []))) /\
 ∀ (z:CompA) i m acc σc H,Wv i m acc σc H->(J.stop i H/\Q (.ref D) H)\/(J.go i H/\∀x H',J.yld i H x H'->g z x σc H' fun σ2 H2=>tt z σ2 H2 fun b H3 =>
   if b=true then EN (wj z) (g2 z) (tt2 z) (te z) D acc σ2 H3 fun acc' σ5 H5=>∃m',m'<m/\Wv (i+1) m' acc' σ5 H5 else ∃m',m'<m/\Wv (i+1) m' acc σ2 H3)
section
variable{Y:Cx}{elt t1 i1 t2 i2:Expr}{f1 f2:List Expr}{scope:Scope}{pos:Pos}{wj:TI}{g g2:TG}{tt tt2:TT}{te:TE}{D:Addr}
theorem ue(hc:Y.calm=true)(hx:Y.xe=fun _ _=>False)(hg:PG Y t1 g)(ht:GB Y f1 tt)(hj:PI Y t2 i2 wj)(hg2:PG Y t2 g2)(ht2:GB Y f2 tt2)(he:PE Y elt te)(hs:∀x,Ig i2 Y.env x=pure x)
 {J:It}{Q:VK}(T:Turn Y.prog Y.w Y.K t1 J fp it tn){s:Ht}(I:Inv Y [] σ H s)(st0:tn 0 s.heap)(fp0:∀b∈fp,H b=none)(stat:∀{H':Hp},(∀b∈fp,H' b=none)->∀b∈fp,lG Y [] H' b)
 {Wv:Nat->Nat->List V->St->Hp->Prop}{m0:Nat}(w0:Wv 0 m0 [] σ H)
 (turn:∀i m acc σc H,Wv i m acc σc H->(J.stop i H/\Q (.ref D) H)\/(J.go i H/\∀x H',J.yld i H x H'->g x σc H' fun σ2 H2=>tt σ2 H2 fun b H3 =>
  if b=true then EN wj g2 tt2 te D acc σ2 H3 fun acc' σ5 H5=>∃m',m'<m/\Wv (i+1) m' acc' σ5 H5 else ∃m',m'<m/\Wv (i+1) m' acc σ2 H3)) :
 JU (Ib Y.prog Y.w) Y.A (.compStart (FC elt t1 i1 f1 t2 i2 f2 scope pos) 0 (.ref it) (.ref D) Y.env) (fun r s5=>r = .ok .next/\∃σ5 H4,Inv Y [] σ5 H4 s5/\Q (.ref D) H4) s:=by
 have loop:JU (Ib Y.prog Y.w) Y.A (.compLoop (FC elt t1 i1 f1 t2 i2 f2 scope pos) 0 (.ref it) (.ref D) Y.env) (fun r s5=>r = .ok .next/\∃σ5 H4,Inv Y [] σ5 H4 s5/\Q (.ref D) H4) s:=by
  refine we (fun n s'=>∃i acc σ' H',Inv Y [] σ' H' s'/\tn i s'.heap/\(∀b∈fp,H' b=none)/\Wv i n acc σ' H') hs ?_ m0 ⟨0,[],_,_,I,st0,fp0,w0⟩;rintro n s4 ⟨i,acc,σ4,H4,I4,st4,fr4,w4⟩;rcases turn i n acc σ4 H4 w4 with⟨stop,qn⟩|⟨go,step⟩
  · exact EH (T.done Y rfl rfl rfl hc i [] s4 σ4 H4 (fun _ _=>False) I4 (stat fr4) st4 stop) fun r s5 ⟨hr,I5⟩=>.inl ⟨hr,rfl,σ4,H4,I5,qn⟩
  · refine EH (T.item Y rfl rfl rfl hc i [] s4 σ4 H4 (fun _ _=>False) I4 (stat fr4) st4 go) fun r s5 ⟨u,hr,h5⟩=>.inr ⟨u,hr,?_⟩;refine EH h5 fun _ s6 ⟨x,H6,I6,r6,y6,st6,fr6⟩=>?_;have I6':=I6.pinned (stat fr6) (T.obj _ _ st6)
    have again:∀{σ7:St}{H7:Hp}{s7:Ht},Inv Y ([]++fU fp s6.heap) σ7 H7 s7->∀{acc':List V}{m':Nat},m'<n->Wv (i+1) m' acc' σ7 H7 ->
     ∃m,m<n/\∃i acc σ' H',Inv Y [] σ' H' s7/\tn i s7.heap/\(∀b∈fp,H' b=none)/\Wv i m acc σ' H':=fun{σ7 H7 s7} I7 {acc' m'} hm w7=>by
     refine⟨m',hm,i+1,acc',σ7,H7,I7.unpinned,T.keep _ _ _ st6 fun b hb o e=>(I7.pin (b,o) (HH _ (HH _ (bT hb e)))).1,fun b hb=>?_,w7⟩;obtain⟨o,e,d⟩:=T.obj _ _ st6 b hb;exact(I7.pin (b,o) (HH _ (HH _ (bT hb e)))).2.1
    have h7:=hg _ s6 σ4 H6 x u _ I6' r6 (step x H6 y6);rw[hx]at h7;refine EH h7 fun _ s7 ⟨σ7,H7,I7,q7⟩=>?_;have h8:=ht _ s7 σ7 H7 _ I7 q7;rw[hx]at h8;refine EH h8 fun ok s8 ⟨H8,I8,q8⟩=>?_
    cases ok with
    | false =>
      rw[if_neg H_]at q8 ⊢;obtain⟨m',hm,w8⟩:=q8
      exact again I8 hm w8
    | true =>
      rw[if_pos rfl]at q8 ⊢;exact zb hc hx hj hg2 ht2 he I8 q8 fun acc' σ9 H9 s9 I9 ⟨m',hm,w9⟩=>again I9 hm w9
 exact Mz loop (T.self Y.A 0 _ _ _ st0 loop)
end
section
variable{X:Cx}{elt t1 i1 t2 i2:Expr}{f1 f2:List Expr}{scope:Scope}{pos:Pos}{wi:TI}{wj:CompA->TI}{g g2:CompA->TG}{tt tt2:CompA->TT}{te:CompA->TE}
theorem nM.get{scope scX:Scope}(hsc:nM scope scX=true):scope.kind = .function/\(∀y∈scope.names,y.2 = .cell->scope.names.lookup y.1=some .cell)/\(∀y∈scope.names,y.2 = .local->scope.names.lookup y.1=some .local) /\
 ∀y∈scope.names,y.2 = .free->scX.names.lookup y.1=some .cell\/scX.names.lookup y.1=some .free:=by
 obtain⟨sk,sn⟩:=Hz.mp hsc;have hall:=JL.mp sn;refine⟨of_decide_eq_true sk,fun y hy hl=>?_,fun y hy hl=>?_,fun y hy hl=>?_⟩
 · rcases HW.mp (Hz.mp (Hz.mp (hall y hy)).1).1 with z|z
   · exact absurd hl (of_decide_eq_true z)
   · exact of_decide_eq_true z
 · rcases HW.mp (Hz.mp (Hz.mp (hall y hy)).1).2 with z|z
   · exact absurd hl (of_decide_eq_true z)
   · exact of_decide_eq_true z
 · rcases HW.mp (Hz.mp (hall y hy)).2 with z|z
   · exact absurd hl (of_decide_eq_true z)
   · exact(HW.mp z).imp of_decide_eq_true of_decide_eq_true
theorem pC(N':List Str)(fr:List (Option Nat))(hc:X.calm=true)(hi:PI X t1 i1 wi)(hfr:nF fr N' X.N scope X.env.scope=true)(hsc:nM scope X.env.scope=true)
 (hg:∀y,PG (FZ X N' scope y) t1 (g y))(ht:∀y,GB (FZ X N' scope y) f1 (tt y))(hj:∀y,PI (FZ X N' scope y) t2 i2 (wj y))(hg2:∀y,PG (FZ X N' scope y) t2 (g2 y))(ht2:∀y,GB (FZ X N' scope y) f2 (tt2 y))(he:∀y,PE (FZ X N' scope y) elt (te y))
 (hs:autoParam (∀x,Ig i1 X.env x=pure x) æc._auto_1)(hs2:autoParam (∀y x,Ig i2 (FZ X N' scope y).env x=pure x) æi._auto_1):PE X (FC elt t1 i1 f1 t2 i2 f2 scope pos) (oD wi fr g tt wj g2 tt2 te):=by
 intro pins s σ H Q I h;obtain⟨hkind,hcell,hnames,hfree⟩:=nM.get hsc;obtain⟨frl,frg⟩:=nF.get hfr;obtain⟨cl,hclos,cl1,cl2⟩:=cT (env:=X.env) (scope:=scope) fun y hy hl=>I.ok.has y.1 (hfree y hy hl);rw[eval_ListComp];refine Js (use:=none) rfl hs hclos hkind hnames (EH (hi pins s σ H _ I h) fun v s1 h1=>EH h1 fun itv s2 h2=>?_);obtain⟨it,fp,tn,J,H2,e,I2,T,st2,f2,q2⟩:=h2;subst e;refine Ia ?_;have hD:H2 s2.heap.objs.size=none:=I2.hok.fresh (Hw _)
 have I3:Inv X pins σ (Ex H2 s2.heap.objs.size (.lst [])) {s2 with heap:=s2.heap.push {cls:=.type "list", data:=.seq ([]:List Hq).toArray}} :=
  I2.laid (t':=s2.toks) (fun b u e=>Hu _ e) (Hw _) ⟨by show 0<=sizeLine;exact II _,[],0,.nil,HK _ rfl⟩
 obtain⟨Wv,⟨m0,w0⟩,turn⟩:=q2 _ hD;have tn3:tn 0 (s2.heap.push {cls:=.type "list", data:=.seq ([]:List Hq).toArray}):=T.keep _ _ _ st2 fun b _ o e=>Hu _ e
 have fpD:∀b∈fp,(Ex H2 s2.heap.objs.size (.lst [])) b=none:=fun b hb=>by
  obtain⟨o,e,_⟩:=T.obj _ _ st2 b hb;rw[ar (Io (HD e))];exact(f2 b hb).1
 have fp3:∀b∈fp,b<(s2.heap.push {cls:=.type "list", data:=.seq ([]:List Hq).toArray}).objs.size:=fun b hb=>by
  obtain⟨o,e,_⟩:=T.obj _ _ tn3 b hb;exact HD e
 exact dH N' fr hc hkind hcell hfree frl frg cl1 cl2 I3 T tn3 fpD fp3 (fun b hb=>(f2 b hb).2)
  (fun s' IY tY stat=>ue (Y:=FZ X N' scope ⟨cl,fp,X.pn++pins,_,_⟩) hc rfl (hg ⟨cl,fp,X.pn++pins,_,_⟩) (ht ⟨cl,fp,X.pn++pins,_,_⟩) (hj ⟨cl,fp,X.pn++pins,_,_⟩) (hg2 ⟨cl,fp,X.pn++pins,_,_⟩) (ht2 ⟨cl,fp,X.pn++pins,_,_⟩) (he ⟨cl,fp,X.pn++pins,_,_⟩) (hs2 ⟨cl,fp,X.pn++pins,_,_⟩) T IY tY fpD stat w0 (turn ⟨cl,fp,X.pn++pins,_,_⟩))
  (Rp:=NC (Ib X.prog X.w) X.A X.xe none (EP X pins σ Q) (.ref s2.heap.objs.size)) fun s5 H4 m hn k _ qn=>⟨m,hn,fun h' hs'=>⟨.ref _,H4,k h' hs',rfl,qn⟩⟩
theorem kY{b:Bool}{ix:Nat}(N':List Str)(fr:List (Option Nat))(hc:X.calm=true)(hi:PI X t1 i1 wi)(hfr:nF fr N' X.N scope X.env.scope=true)(hsc:nM scope X.env.scope=true)
 (hg:∀y,PG (FZ X N' scope y) t1 (g y))(ht:∀y,GB (FZ X N' scope y) f1 (tt y))(hj:∀y,PI (FZ X N' scope y) t2 i2 (wj y))(hg2:∀y,PG (FZ X N' scope y) t2 (g2 y))(ht2:∀y,GB (FZ X N' scope y) f2 (tt2 y))(he:∀y,PE (FZ X N' scope y) elt (te y))
 (hN:X.N.Nodup)(hix:X.N[ix]?=some x)(hx:Loc X.env.scope x)(hf:X.fn x=true\/X.env.scope.names.lookup x=some .local)(hsw:Ju (FC elt t1 i1 f1 t2 i2 f2 scope pos) (some (.Name x px)) spos.line X.env=pure b)
 (hs:∀x,Ig i1 X.env x=pure x)(hs2:∀y x,Ig i2 (FZ X N' scope y).env x=pure x):PS X (.Assign [.Name x px] (FC elt t1 i1 f1 t2 i2 f2 scope pos) spos) (x5 (oD wi fr g tt wj g2 tt2 te) (jf ix)):=by
 cases b with
 | false=>exact gC hN hix hx (pC N' fr hc hi hfr hsc hg ht hj hg2 ht2 he hs hs2) hsw hf
 | true =>
 intro pins s σ H DD I h;obtain⟨hkind,hcell,hnames,hfree⟩:=nM.get hsc;obtain⟨frl,frg⟩:=nF.get hfr;obtain⟨cl,hclos,cl1,cl2⟩:=cT (env:=X.env) (scope:=scope) fun y hy hl=>I.ok.has y.1 (hfree y hy hl);rw[Ln _ _ _ _ hsw];refine Hl (Jv (Hl ?_));show HP _ X.A (do let _ <- ND (FC elt t1 i1 f1 t2 i2 f2 scope pos) scope X.env _ (newList []) false (eval i1 X.env) (some (Kz (.Name x px) X.env))) _ _ s
 refine Hl (Im (Js (use:=some (Kz (.Name x px) X.env)) (Q:=fun _ s'=>SP X pins DD .next s') rfl hs hclos hkind hnames
  (EH (hi pins s σ H _ I h) fun v s1 h1=>EH h1 fun itv s2 h2=>?_)) (fun _ s' hq=>Hn (Hn hq)) fun _ _ e=>e)
 obtain⟨it,fp,tn,J,H2,e,I2,T,st2,f2,q2⟩:=h2;subst e;refine Ia ?_;have hD:H2 s2.heap.objs.size=none:=I2.hok.fresh (Hw _)
 have I3:Inv X pins σ (Ex H2 s2.heap.objs.size (.lst [])) {s2 with heap:=s2.heap.push {cls:=.type "list", data:=.seq ([]:List Hq).toArray}} :=
  I2.laid (t':=s2.toks) (fun b u e=>Hu _ e) (Hw _) ⟨by show 0<=sizeLine;exact II _,[],0,.nil,HK _ rfl⟩
 obtain⟨Wv,⟨m0,w0⟩,turn⟩:=q2 _ hD;have tn3:tn 0 (s2.heap.push {cls:=.type "list", data:=.seq ([]:List Hq).toArray}):=T.keep _ _ _ st2 fun b _ o e=>Hu _ e
 have fpD:∀b∈fp,(Ex H2 s2.heap.objs.size (.lst [])) b=none:=fun b hb=>by
  obtain⟨o,e,_⟩:=T.obj _ _ st2 b hb;rw[ar (Io (HD e))];exact(f2 b hb).1
 have fp3:∀b∈fp,b<(s2.heap.push {cls:=.type "list", data:=.seq ([]:List Hq).toArray}).objs.size:=fun b hb=>by
  obtain⟨o,e,_⟩:=T.obj _ _ tn3 b hb;exact HD e
 refine dH (Q:=fun v H1=>jf ix v σ H1 DD.nx) N' fr hc hkind hcell hfree frl frg cl1 cl2 I3 T tn3 fpD fp3 (fun b hb=>(f2 b hb).2)
  (fun s' IY tY stat=>ue (Y:=FZ X N' scope ⟨cl,fp,X.pn++pins,_,_⟩) (Q:=fun v H1=>jf ix v σ H1 DD.nx) hc rfl (hg ⟨cl,fp,X.pn++pins,_,_⟩) (ht ⟨cl,fp,X.pn++pins,_,_⟩) (hj ⟨cl,fp,X.pn++pins,_,_⟩) (hg2 ⟨cl,fp,X.pn++pins,_,_⟩) (ht2 ⟨cl,fp,X.pn++pins,_,_⟩) (he ⟨cl,fp,X.pn++pins,_,_⟩) (hs2 ⟨cl,fp,X.pn++pins,_,_⟩) T IY tY fpD stat w0 (turn ⟨cl,fp,X.pn++pins,_,_⟩))
  (Rp:=NC (Ib X.prog X.w) X.A X.xe (some (Kz (.Name x px) X.env)) (fun _ s'=>SP X pins DD .next s') (.ref s2.heap.objs.size)) fun s5 H4 m hn k fpo qn=>?_
 show HP _ X.A (Kz (.Name x px) X.env (.ref s2.heap.objs.size)) _ _ s5;have I5:Inv X pins σ H4 s5:=k s5.heap (Li _ _);obtain⟨f0,f1,f2',f3,f4,f5⟩:=fpo;refine La (eS I5 hN hix hx (v:=.ref s2.heap.objs.size) rfl (fun s6 I6 sb=>?_) hf);obtain⟨a,sb,ha⟩:=sb
 have hne:(s2.heap.push {cls:=.type "list", data:=.seq ([]:List Hq).toArray}).objs.size≠a:=by
  rcases ha with rfl|ha
  · exact f1
  · exact fun z=>f4 x a ha z.symm
 refine⟨m,hn.at' fun o e=>sb.extBut _ o hne e,fun h' hs'=>?_⟩;exact⟨_,H4,I6.turned (t':=s6.toks) (fun b o hb e=>hs'.extBut b o hb e) f0 f1 f3 f4 f5,qn⟩
end
end L2
namespace L2.VL
noncomputable def rn(ρ0:En)(g:Gn)(ft:TB)(fj:En->(List Hi->Prop)->Prop)(g2:Gn)(ft2:TB)(fe:TV):List Hi->List Hi->(List Hi->Prop)->Prop
 | [],acc,Q=>Q acc
 | x::xs,acc,Q=>g x ρ0 fun ρ2=>Le ρ0 ρ2/\ft ρ2 fun b=>if b=true then fj ρ2 fun ys=>lQ ρ2 g2 ft2 fe ys acc fun acc'=>rn ρ0 g ft fj g2 ft2 fe xs acc' Q else rn ρ0 g ft fj g2 ft2 fe xs acc Q
noncomputable def ot(fi:En->(List Hi->Prop)->Prop)(fr:List (Option Nat))(g:Gn)(ft:TB)(fj:En->(List Hi->Prop)->Prop)(g2:Gn)(ft2:TB)(fe:TV):TV:=fun ρ Q=>fi ρ fun xs=>rn (eO fr ρ) g ft fj g2 ft2 fe xs [] fun ds=>Q (.ml ds)
section
variable{X:Cx}{rl:RlT}{elt t1 i1 t2 i2:Expr}{f1 f2:List Expr}{scope:Scope}{pos:Pos}{fi fj:En->(List Hi->Prop)->Prop}{g g2:Gn}{ft ft2:TB}{fe:TV}
theorem sB{wi:TI}(fr:List (Option Nat))(k0:∀{F₀ H₀ F H:Hp}{σ:St}{ρ:En},VR X.K rl F₀ H₀ F H σ ρ->∀(Qd:List Hi->Prop)(R:It->Hp->Prop),fi ρ Qd ->
 (∀J xs F' H',Grow rl F H F' H'->VIt X.K rl F' J xs->Qd xs->R J H')->wi σ H R)
 (hg:∀y,GJ (FZ X N' scope y) rl t1 g)(ht:∀y,qY (FZ X N' scope y) rl f1 ft)(hj:∀y,GG (FZ X N' scope y) rl t2 i2 fj)(hg2:∀y,GJ (FZ X N' scope y) rl t2 g2)(ht2:∀y,qY (FZ X N' scope y) rl f2 ft2)(he:∀y,PV (FZ X N' scope y) rl elt fe)
 (R:VR X.K rl F₀ H₀ F H σ ρ)(Qd:W->Prop)(Q:VK)(q:ot fi fr g ft fj g2 ft2 fe ρ Qd)
 (k:∀v w F' H',Grow rl F H F' H'->dB X.K rl F' H' v w->eB H v w->Qd w->Q v H') :
 oD wi fr (fun y=>HR (hg y)) (fun y=>HR (ht y)) (fun y=>HR (hj y)) (fun y=>HR (hg2 y)) (fun y=>HR (ht2 y)) (fun y=>HR (he y)) σ H Q:=by
 refine k0 R _ _ q fun J xs F1 H1 g1 vi q1=>?_;intro D hD;have rD:rl.a≠some D:=fun e=>by obtain⟨o,z⟩:=g1.reel.live e;rw[hD]at z;cases z
 have FD:F1 D=none:=g1.sub.free hD;have gD:Grow rl F1 H1 F1 (Ex H1 D (.lst [])):=Grow.laid g1.sub g1.reel hD;have R1:=R.grow g1;have n0:nK (eO fr ρ):=d_;have keepD:∀{acc:List V}{Fc Hc Fx Hx:Hp},Hc D=some (.lst acc)->Fc D=none->Grow rl Fc Hc Fx Hx->Hx D=some (.lst acc)/\Fx D=none:=fun hDc fDc gx=>⟨gx.same D _ hDc rD,by rw[gx.old D _ hDc];exact fDc⟩
 refine⟨fun i m acc σc Hc=>m=xs.length-i/\i<=xs.length/\∃Fc ds,VR X.K rl F1 H1 Fc Hc σc (eO fr ρ)/\Hc D=some (.lst acc)/\Fc D=none/\Reps X.K Fc acc ds/\rn (eO fr ρ) g ft fj g2 ft2 fe (xs.drop i) ds (fun ds=>Qd (.ml ds)),
  ⟨xs.length,by simp,II _,F1,[],f_ R1 gD,aG,FD,.nil,by simpa using q1⟩,?_⟩
 rintro z i m acc σc Hc ⟨rfl,hi,Fc,ds,Rc,hDc,fDc,rs,q2⟩;have sH:bU F1 Hc:=Rc.g.fs.trans Rc.sub;by_cases hlt:i<xs.length
 · have ei:xs[i]?=some xs[i]:=by simp[hlt]
   have ed:xs.drop i=xs[i]::xs.drop (i+1):=IT hlt;rw[ed]at q2;refine .inr ⟨vi.go i Hc _ ei sH,fun v H' y=>?_⟩;obtain⟨Fy,gy,rv⟩:=vi.yld i Hc v H' _ Fc ei Rc.g.fs Rc.sub Rc.reel y;refine(Hm (hg z)).2 (Rc.grow gy) v _ _ _ rv q2 fun F3 H3 σ3 ρ3 g3 n3 R3 ⟨le3,q3⟩=>?_;refine(Hm (ht z)).2 R3 _ _ q3 fun b F4 H4 g4 q4=>?_;have R4:=R3.grow g4;have g34:=(gy.trans g3).trans g4;have nm3:nK ρ3:=n3 n0
   cases b with
   | false=>exact⟨xs.length-(i+1),by omega,rfl,hlt,F4,ds,R4.le le3,(keepD hDc fDc g34).1,(keepD hDc fDc g34).2,rs.mono g34.fs,q4⟩
   | true =>
     refine(Hm (hj z)).2 R4 _ _ q4 fun J2 ys F5 H5 g5 vi2 q5=>?_;have g35:=g34.trans g5
     refine⟨fun j m acc σe He=>m=ys.length-j/\j<=ys.length/\∃Fe es,VR X.K rl F1 H1 Fe He σe ρ3/\bU F5 Fe/\He D=some (.lst acc)/\Fe D=none/\Reps X.K Fe acc es /\
      lQ ρ3 g2 ft2 fe (ys.drop j) es (fun es=>rn (eO fr ρ) g ft fj g2 ft2 fe (xs.drop (i+1)) es (fun ds=>Qd (.ml ds))),
      ⟨ys.length,by simp,II _,F5,ds,R4.grow g5,.refl _,(keepD hDc fDc g35).1,(keepD hDc fDc g35).2,rs.mono g35.fs,by simpa using q5⟩,?_⟩
     rintro j m acc2 σe He ⟨rfl,hj',Fe,es,Re,s5,hDe,fDe,res,q6⟩;have sHe:bU F5 He:=s5.trans Re.sub;by_cases hlt2:j<ys.length
     · have ej:ys[j]?=some ys[j]:=by simp[hlt2]
       have edj:ys.drop j=ys[j]::ys.drop (j+1):=IT hlt2;rw[edj]at q6;refine .inr ⟨vi2.go j He _ ej sHe,fun v2 H2' y2=>?_⟩;obtain⟨Fy2,gy2,rv2⟩:=vi2.yld j He v2 H2' _ Fe ej s5 Re.sub Re.reel y2;refine(Hm (hg2 z)).2 (Re.grow gy2) v2 _ _ _ rv2 q6 fun F7 H7 σ7 ρ7 g7 n7 R7 ⟨le7,q7⟩=>?_;refine(Hm (ht2 z)).2 R7 _ _ q7 fun b2 F8 H8 g8 q8=>?_;have R8:=R7.grow g8;have g78:=(gy2.trans g7).trans g8
       cases b2 with
       | false=>exact⟨ys.length-(j+1),by omega,rfl,hlt2,F8,es,R8.le le7,s5.trans g78.fs,(keepD hDe fDe g78).1,(keepD hDe fDe g78).2,res.mono g78.fs,q8⟩
       | true =>
         refine(Hm (he z)).2 R8 _ _ q8 fun v9 w9 F9 H9 g9 r9 n9 ⟨d,ed9,hl,q9⟩=>?_;obtain⟨F10,g10,s10,r10⟩:=dB.fz g9 r9 n9;rw[ed9]at r10;have g710:=g78.trans g10;refine⟨(keepD hDe fDe g710).1,by rw[res.length];exact hl,ys.length-(j+1),by omega,rfl,hlt2,F10,es++[d],((R8.grow g10).le le7).other nm3 hD (keepD hDe fDe g710).2 rD,s5.trans g710.fs,aG,(keepD hDe fDe g710).2,(res.mono g710.fs).snoc r10,q9⟩
     · have e:j=ys.length:=by omega
       subst e;rw[JN]at q6;exact .inl ⟨vi2.stop _ He (Hw _) sHe,xs.length-(i+1),by omega,rfl,hlt,Fe,es,Re.le le3,hDe,fDe,res,q6⟩
 · have e:i=xs.length:=by omega
   subst e;rw[JN]at q2;refine .inl ⟨vi.stop _ Hc (Hw _) sH,k _ (.ml ds) Fc Hc (g1.trans Rc.g) ⟨D,acc,rfl,fDc,rD,hDc,rs⟩ (fun a ea=>by cases ea;exact g1.freeB hD) q2⟩
theorem ko(i:Nat){b:Bool}(hN:X.N.Nodup)(N':List Str)(fr:List (Option Nat))(hc:X.calm=true)(hi:GG X rl t1 i1 fi)
 (hg:∀y,GJ (FZ X N' scope y) rl t1 g)(ht:∀y,qY (FZ X N' scope y) rl f1 ft)(hj:∀y,GG (FZ X N' scope y) rl t2 i2 fj)(hg2:∀y,GJ (FZ X N' scope y) rl t2 g2)(ht2:∀y,qY (FZ X N' scope y) rl f2 ft2)(he:∀y,PV (FZ X N' scope y) rl elt fe)
 (hsw:autoParam (Ju (.ListComp elt [⟨t1,i1,f1,0⟩,⟨t2,i2,f2,0⟩] scope pos) (some (.Name x px)) spos.line X.env=pure b) æa._auto_1)
 (hix:autoParam (X.N[i]?=some x) æa._auto_1)(hx:autoParam (Loc X.env.scope x) æe._auto_1)(hf:autoParam (X.fn x=true\/X.env.scope.names.lookup x=some .local) æf._auto_1)
 (hfr:autoParam (nF fr N' X.N scope X.env.scope=true) æa._auto_1)(hsc:autoParam (nM scope X.env.scope=true) æa._auto_1)
 (hs:autoParam (∀x,Ig i1 X.env x=pure x) æc._auto_1)(hs2:autoParam (∀y x,Ig i2 (FZ X N' scope y).env x=pure x) æi._auto_1) :
 GD X rl (.Assign [.Name x px] (.ListComp elt [⟨t1,i1,f1,0⟩,⟨t2,i2,f2,0⟩] scope pos) spos) (m5 i (ot fi fr g ft fj g2 ft2 fe)):=by
 obtain⟨wi,p0,k0⟩:=hi
 refine⟨_,kY N' fr hc p0 hfr hsc (fun y=>(Hm (hg y)).1) (fun y=>(Hm (ht y)).1) (fun y=>(Hm (hj y)).1) (fun y=>(Hm (hg2 y)).1) (fun y=>(Hm (ht2 y)).1) (fun y=>(Hm (he y)).1) hN hix hx hf hsw hs hs2,
  fun R Dv D ok q=>sB fr k0 hg ht hj hg2 ht2 he R _ _ q fun v w F1 H1 g1 r1 n1 ⟨d,ed,q1⟩=>?_⟩
 obtain⟨F2,g2,s2,r2⟩:=dB.fz g1 r1 n1;rw[ed]at r2;exact ok.nx _ _ _ _ g2.fs (R.set g2 r2 trivial (fun xs z=>by cases z) i) q1
end
noncomputable def um(ρ0:En)(g:Gn)(ft:TB)(fj:En->(List Hi->Prop)->Prop)(g2:Gn)(ft2:TB)(fe:TV)(x:Hi)(acc:List Hi):Mo (List Hi) :=
 FY (g x ρ0) fun ρ2=>FO (Le ρ0 ρ2) (FY (ft ρ2) fun b=>if b=true then FY (fj ρ2) fun ys=>cY (FH ρ2 g2 ft2 fe) ys acc else ret acc)
noncomputable def fC(b:Hi->List Hi->Mo (List Hi)):List Hi->List Hi->Mo (List Hi)
 | [],acc=>ret acc
 | x::xs,acc=>FY (b x acc) (fC b xs)
theorem mQ(ρ0:En)(g:Gn)(ft:TB)(fj:En->(List Hi->Prop)->Prop)(g2:Gn)(ft2:TB)(fe:TV):∀(xs acc:List Hi),rn ρ0 g ft fj g2 ft2 fe xs acc=fC (um ρ0 g ft fj g2 ft2 fe) xs acc
 | [],acc=>rfl
 | x::xs,acc=>by
   refine ag fun Q=>?_;show(g x ρ0 fun ρ2=>Le ρ0 ρ2/\ft ρ2 fun b=>if b=true then fj ρ2 fun ys=>lQ ρ2 g2 ft2 fe ys acc fun acc'=>rn ρ0 g ft fj g2 ft2 fe xs acc' Q else rn ρ0 g ft fj g2 ft2 fe xs acc Q)↔(FY (um ρ0 g ft fj g2 ft2 fe x acc) (fC (um ρ0 g ft fj g2 ft2 fe) xs)) Q;simp only[mQ ρ0 g ft fj g2 ft2 fe xs,jk]
   have:∀(ρ2:En)(b:Bool),(if b=true then fj ρ2 fun ys=>cY (FH ρ2 g2 ft2 fe) ys acc fun acc'=>fC (um ρ0 g ft fj g2 ft2 fe) xs acc' Q else fC (um ρ0 g ft fj g2 ft2 fe) xs acc Q)
    = (FY (if b=true then FY (fj ρ2) fun ys=>cY (FH ρ2 g2 ft2 fe) ys acc else ret acc) (fC (um ρ0 g ft fj g2 ft2 fe) xs)) Q:=by
    intro ρ2 b;cases b<;>rfl
   simp only[this];exact K7
theorem m_comp2(fi:En->(List Hi->Prop)->Prop)(fr:List (Option Nat))(g:Gn)(ft:TB)(fj:En->(List Hi->Prop)->Prop)(g2:Gn)(ft2:TB)(fe:TV)(ρ:En) :
 ot fi fr g ft fj g2 ft2 fe ρ=FY (fi ρ) fun xs=>FY (fC (um (eO fr ρ) g ft fj g2 ft2 fe) xs []) fun ds=>ret (.ml ds):=by
 refine ag fun Q=>?_;show(fi ρ fun xs=>rn (eO fr ρ) g ft fj g2 ft2 fe xs [] fun ds=>Q (.ml ds))↔_;simp only[mQ];exact K7
section
variable{α β:Type}{b:Hi->Mo (Option Hi)}
theorem ls{c:Hi->List Hi->Mo (List Hi)}{xs:List α}{enc:α->Hi}(F:α->List Hi)(h:∀x∈xs,∀acc:List Hi,acc.length+(F x).length<=sizeLine->c (enc x) acc=ret (acc++F x)) :
 ∀acc:List Hi,acc.length+(xs.flatMap F).length<=sizeLine->fC c (xs.map enc) acc=ret (acc++xs.flatMap F):=by
 induction xs with
 | nil=>intro acc _;show ret acc=_;simp
 | cons x xs ih =>
   intro acc hl;rw[Mc,HS]at hl;show FY (c (enc x) acc) _=_;rw[h x Hr acc (by omega),bnd_ret,ih (fun y my=>h y (Hv _ my)) (acc++F x) (by rw[HS];omega),Mc,L9]
theorem Bv{γ:Type}{c:Hi->List Hi->Mo (List Hi)}{k:List Hi->Mo γ}{Q:γ->Prop}{xs:List α}{enc:α->Hi}(F:α->List Hi)(hx:xs'=xs.map enc)
 (h:∀x∈xs,∀acc:List Hi,acc.length+(F x).length<=sizeLine->c (enc x) acc=ret (acc++F x))(hl:(xs.flatMap F).length<=sizeLine)(fin:k (xs.flatMap F) Q):FY (fC c xs' []) k Q:=by
 subst hx;rw[ls F h [] (by simpa using hl),bnd_ret];simpa using fin
end
noncomputable def Hh:=Hj @m_comp2 (@bnd_ret)
end L2.VL
namespace L2.ZP
section
variable{prog:HV}{w:IF}{A:IM}{E:Hq->Ht->Prop}{s:Ht}{z it a:Addr}{k:Nat}{xs:Array Hq}{x p:Hq}{b:Bool}
abbrev e2(h:Heap)(b:Bool)(a:Addr):Heap:=(y1 h b a).push {cls:=.type "enumerate", data:=.fields #[.none,.bool false,.ref h.objs.size,Nb 0,.none,.none]}
end
end L2.ZP
namespace L2
open PySem PySem.Spec PyProof.Rows L2.ZP
section
variable{X:Cx}{e1:Expr}{ta:TA}{elts:List Expr}{kt:Nat}{pt p pos:Pos}
end
end L2
namespace L2.VL
section
variable{X:Cx}{rl:RlT}{a:Expr}{elts:List Expr}{kt:Nat}{pt p pos:Pos}{fs:Gi}
end
section
variable{α β:Type}{b:Hi->Mo (Option Hi)}
end
noncomputable def EV(b:Bool)(qs:List Rat):Hi:=if b then .tuple (qs.map fr)else .list (qs.map fr)
theorem ya{b c:Bool}{qs rs:List Rat}:EV b qs=EV c rs↔b=c/\qs=rs:=by
 cases b<;>cases c<;>simp[EV,bI]
open PySem PySem.Spec
inductive Sh where
 | one (c v:List Rat)
 | two (c d:List Rat) (vs:List (List Rat))
noncomputable def Sh.cuts:Sh->List (List Rat)
 | .one c _=>[c]
 | .two c d _=>[c,d]
noncomputable def Sh.vD:Sh->Hi
 | .one _ v=>Fb v
 | .two _ _ vs=>ptsQ vs
noncomputable def shD(s:Sh):Hi:=.tuple [ptsQ s.cuts,s.vD]
noncomputable def da(n:Nat)(c:List Rat):Prop:=∃(d:Int)(as:List Int),0<d/\d<2^20/\as.length<=n/\c=as.map (fun a=>qd a d)/\(∀a∈as,0<a/\a<d)/\as.Pairwise (· < ·)
noncomputable def Sh.OkP(m:Nat)(V:Rat->Prop):Sh->Prop
 | .one c v=>da 6 c/\v.length=c.length+1/\∀q∈v,V q
 | .two c d vs=>da m c/\da m d/\vs.length=c.length+1/\∀v∈vs,v.length=d.length+1/\∀q∈v,V q
abbrev Sh.OkM(m n:Nat)(s:Sh):Prop:=Sh.OkP m (fun q=>E9 n q) s
abbrev Sh.OkN(n:Nat)(s:Sh):Prop:=Sh.OkM 3 n s
abbrev Sh.Ok(s:Sh):Prop:=Sh.OkN 20 s
noncomputable def Sh.at:Sh->List Int->Rat
 | .one _ v,p=>v.getD (p.getD 0 0).toNat 0
 | .two _ _ vs,p=>(vs.getD (p.getD 0 0).toNat []).getD (p.getD 1 0).toNat 0
noncomputable def kd(cs:List (List Rat))(p:List Int):Prop:=p.length=cs.length/\∀z∈cs.zip p,0<=z.2/\z.2<=(z.1.length:Int)
noncomputable def lim(c:List Rat):List Rat:=0::(c++[1])
noncomputable def lh(c:List Rat)(j:Int):Rat:=(lim c).getD (j.toNat+1) 0-(lim c).getD j.toNat 0
theorem tX{d:Int}(h:0<d):qd 0 d=0:=by unfold qd;rw[KL];show(0:Rat)*_=0;rw[Rat.zero_mul]
theorem zY{d:Int}(h:0<d):qd d d=1:=by
 unfold qd;have:=cM h
 grind
theorem vt(a b:Int){d:Int}(h:0<d):qd a d-qd b d=qd (a-b) d:=by
 unfold qd;have:=cM h;rw[MR]
 grind
theorem gA(a b:Int){d:Int}(h:0<d):qd a d+qd b d=qd (a+b) d:=by
 unfold qd;have:=cM h;rw[Rat.intCast_add]
 grind
theorem da.len(h:da n c):c.length<=n:=by
 obtain⟨d,as,_,_,hl,rfl,_⟩:=h;rw[Hs];exact hl
theorem pN(h:da n c):∃d:Int,0<d/\d<2^20/\∀q∈lim c,∃a:Int,0<=a/\a<=d/\q=qd a d:=by
 obtain⟨d,as,d0,d1,_,rfl,ha,_⟩:=h;refine⟨d,d0,d1,fun q hq=>?_⟩;rcases Ic.mp hq with rfl|hq
 · exact⟨0,No _,by omega,(tX d0).symm⟩
 rcases Ik.mp hq with hq|hq
 · obtain⟨a,ma,rfl⟩:=HX.mp hq;exact⟨a,LR (ha a ma).1,LR (ha a ma).2,rfl⟩
 · rw[HI.mp hq];exact⟨d,by omega,No _,(zY d0).symm⟩
theorem pO(c:List Rat):(lim c).length=c.length+2:=by simp[lim]
theorem getD_mem{xs:List α}{k:Nat}{d:α}(h:k<xs.length):xs.getD k d∈xs:=by
 rw[Iq,Ip h];exact HZ h
theorem uk(h:da n c)(j0:0<=j)(j1:j<=(c.length:Int)):E9 20 (lh c j):=by
 obtain⟨d,d0,d1,hm⟩:=pN h;have ll:=pO c;obtain⟨a,a0,a1,ea⟩:=hm _ (getD_mem (d:=0) (show j.toNat+1<(lim c).length by omega));obtain⟨b,b0,b1,eb⟩:=hm _ (getD_mem (d:=0) (show j.toNat<(lim c).length by omega));unfold lh;rw[ea,eb,vt _ _ d0];exact kW d0 (by omega) (by omega)
theorem uj(h:da n c):∀q∈lim c,E9 20 q:=by
 obtain⟨d,d0,d1,hm⟩:=pN h;intro q hq;obtain⟨a,a0,a1,rfl⟩:=hm q hq;exact kW d0 (by omega) (by omega)
theorem da.sm(h:da n c):∀q∈c,E9 20 q:=fun q hq=>uj h q (Hv _ (Jy _ hq))
noncomputable def stN(x:Rat)(c:List Rat):Nat:=(c.filter fun e=>!decide (x<e)).length
theorem x9(x:Rat)(c:List Rat):stN x c<=c.length:=Jh _ _
noncomputable def ptc(p:List Rat)(cs:List (List Rat)):List Int:=(p.zip cs).map fun z=>(stN z.1 z.2:Int)
noncomputable def FW(rows:List (List Int)):List (List Int):=rows.foldl (fun ch r=>ch.flatMap fun b=>r.map fun t=>b++[t]) [[]]
noncomputable def pch(cs:List (List Rat)):List (List Int):=FW (cs.map fun c=>fq 0 (c.length+1))
noncomputable def bJ(qs:List Rat):Rat:=qs.foldl (· + ·) 0
theorem fN:∀(qs:List Rat)(a:Rat),qs.foldl (· + ·) a=a+bJ qs
 | [],a=>by unfold bJ;rw[Nd,Nd,MS]
 | q::qs,a=>by
   unfold bJ;rw[IH,IH,fN qs,fN qs]
   grind
theorem ba(q:Rat)(qs:List Rat):bJ (q::qs)=q+bJ qs:=by
 show(qs.foldl (· + ·) (0+q))=_;rw[fN,NW]
theorem yq{B:Int}(hB:0<B)(hd:(q.den:Int)∣B):qd (q.num*(B / q.den)) B=q:=by
 obtain⟨c,hc⟩:=hd;have dp:=fy q
 have c0:0<c:=by
  rcases Int.lt_trichotomy 0 c with h|h|h
  · exact h
  · subst h;omega
  · have:=L1 dp h;omega
 have e:B / (q.den:Int)=c:=by rw[hc];exact KR _ (by omega)
 rw[e,hc];have es:=gw q;unfold qd at *;rw[IQ,IQ];have h1:=cM c0;have h2:=cM dp;generalize (q.num:Rat)=x at *;generalize ((q.den:Int):Rat)=y at *;generalize (c:Rat)=z at *;rw[<- es]
 grind
theorem tU{B:Int}(hB:0<B):∀qs:List Rat,(∀q∈qs,(q.den:Int)∣B)->qd (qs.map fun q=>q.num*(B / q.den)).sum B=bJ qs
 | [],_=>by rw[Jr,List.sum_nil,tX hB];rfl
 | q::qs,h=>by
   rw[HE,NF,<- gA _ _ hB,yq hB (h q Hr),tU hB qs fun r hr=>h r (Hv _ hr),ba]
structure LcmI (n:Nat) (qs:List Rat) (B:Int):Prop where
 p:0<B
 z:B<2^(n*qs.length+1)
 d:∀q∈qs,(q.den:Int)∣B
theorem LcmI.nil(n:Nat):LcmI n [] 1:=⟨by decide,by simp,by simp⟩
theorem LcmI.step{qs:List Rat}{B:Int}(h:LcmI n qs B)(hq:E9 n q):LcmI n (qs++[q]) (B*((q.den:Int) / (IC B q.den:Int))):=by
 have dp:=fy q;have bp:=h.p;have gp:(0:Int)<(IC B q.den:Int):=by have:=Ko B (show(q.den:Int)≠0 by omega);omega
 obtain⟨b,hb⟩:=Int.gcd_dvd_left (a:=B) (b:=(q.den:Int));obtain⟨c,hc⟩:=Int.gcd_dvd_right (a:=B) (b:=(q.den:Int))
 have ec:(q.den:Int) / (IC B q.den:Int)=c:=by
  generalize (IC B q.den:Int)=g at *;rw[hc];exact KR _ (by omega)
 rw[ec]
 have c0:0<c:=by
  rcases Int.lt_trichotomy 0 c with h|h|h
  · exact h
  · subst h;omega
  · have:=L1 gp h;omega
 have cle:c<=(q.den:Int):=by
  have:1*c<=(IC B q.den:Int)*c:=JJ (by omega) (by omega);omega
 refine⟨KJ bp c0,?_,fun r hr=>?_⟩
 · have l:n*(qs++[q]).length+1=(n*qs.length+1)+n:=by rw[HS,JX,NT];omega
   rw[l];have d2:(q.den:Int)<2^n:=by have:=hq.2;exact_mod_cast this
   exact k9 (by omega) c0 h.z (by omega)
 · rcases Ik.mp hr with hr|hr
   · exact Int.dvd_trans (h.d r hr) (Int.dvd_mul_right _ _)
   · rw[HI.mp hr];refine⟨b,?_⟩;generalize (IC B q.den:Int)=g at *;rw[hb,hc]
     grind
noncomputable def eK(cs:List (List Rat))(p:List Int):Rat:=prodQ ((cs.zip p).map fun z=>lh z.1 z.2)
noncomputable def bo(s:Sh):Rat:=bJ ((pch s.cuts).map fun p=>s.at p*eK s.cuts p)
theorem wX(r:List Int):FW [r]=r.map fun t=>[t]:=by simp[FW]
theorem zD(r s:List Int):FW [r,s]=r.flatMap fun a=>s.map fun b=>[a,b]:=by
 show List.flatMap _ (FW [r])=_;rw[wX,List.flatMap_map];rfl
theorem Sh.pch_ok{s:Sh}:∀p∈pch s.cuts,kd s.cuts p:=by
 intro p hp
 cases s with
 | one c v =>
   unfold pch Sh.cuts at hp;rw[HE,Jr,wX]at hp;obtain⟨k,mk,rfl⟩:=HX.mp hp;have:=Aa.mp mk;refine⟨rfl,fun z hz=>?_⟩;rw[show(Sh.one c v).cuts.zip [k]=[(c,k)]from rfl]at hz;rw[HI.mp hz];dsimp only
   omega
 | two c d vs =>
   unfold pch Sh.cuts at hp;rw[HE,HE,Jr,zD]at hp;obtain⟨k,mk,hp⟩:=Jz.mp hp;obtain⟨j,mj,rfl⟩:=HX.mp hp;have h1:=Aa.mp mk;have h2:=Aa.mp mj;refine⟨rfl,fun z hz=>?_⟩;rw[show(Sh.two c d vs).cuts.zip [k,j]=[(c,k),(d,j)]from rfl]at hz;rcases Ic.mp hz with rfl|hz
   · dsimp only;omega
   · rw[HI.mp hz];dsimp only;omega
theorem kd.one(h:kd [c] p):∃k:Int,p=[k]/\0<=k/\k<=(c.length:Int):=by
 obtain⟨hl,hz⟩:=h
 match p,hl with
 | [k],_=>exact⟨k,rfl,hz (c,k) Hr⟩
theorem kd.two{d:List Rat}(h:kd [c,d] p):∃k j:Int,p=[k,j]/\(0<=k/\k<=(c.length:Int))/\0<=j/\j<=(d.length:Int):=by
 obtain⟨hl,hz⟩:=h
 match p,hl with
 | [k,j],_=>exact⟨k,j,rfl,hz (c,k) Hr,hz (d,j) (Hv _ Hr)⟩
theorem Sh.at_P{V:Rat->Prop}{s:Sh}(h:s.OkP m V)(hp:kd s.cuts p):V (s.at p):=by
 cases s with
 | one c v =>
   obtain⟨k,rfl,k0,k1⟩:=kd.one hp;obtain⟨_,hl,hv⟩:=h
   exact hv _ (getD_mem (by show k.toNat<v.length;omega))
 | two c d vs =>
   obtain⟨k,j,rfl,⟨k0,k1⟩,j0,j1⟩:=kd.two hp;obtain⟨_,_,hl,hv⟩:=h;have:=hv _ (getD_mem (d:=[]) (show k.toNat<vs.length by omega));exact this.2 _ (getD_mem (by show j.toNat<(vs.getD k.toNat []).length;omega))
theorem Sh.at_sm{s:Sh}(h:s.OkM m n)(hp:kd s.cuts p):E9 n (s.at p):=Sh.at_P h hp
theorem gB{p:List Rat}{s:Sh}(h:p.length=s.cuts.length):kd s.cuts (ptc p s.cuts):=by
 refine⟨by unfold ptc;rw[Hs,IR,h,LS],fun z hz=>?_⟩
 have:∀(p:List Rat)(cs:List (List Rat)),∀z∈cs.zip (ptc p cs),0<=z.2/\z.2<=(z.1.length:Int):=by
  intro p
  induction p with
  | nil=>intro cs z hz;simp[ptc]at hz
  | cons x p ih =>
    intro cs z hz
    cases cs with
    | nil=>simp at hz
    | cons c cs =>
      have e:(c::cs).zip (ptc (x::p) (c::cs))=(c,(stN x c:Int))::cs.zip (ptc p cs):=rfl;rw[e]at hz;rcases Ic.mp hz with rfl|hz
      · have:=x9 x c;dsimp only;omega
      · exact ih cs z hz
 exact this p s.cuts z hz
theorem tT{n:Nat}:∀(qs:List Rat)(m:Nat)(a:Rat),E9 m a->(∀q∈qs,E9 n q)->E9 (m+(n+1)*qs.length) (qs.foldl (· + ·) a)
 | [],m,a,ha,_=>by simpa using ha
 | q::qs,m,a,ha,h=>by
   have:=tT qs (m+n+1) (a+q) (j_ ha (h q Hr)) fun r hr=>h r (Hv _ hr);rw[IH];refine this.mono ?_;rw[Il,NT];omega
theorem q0s:E9 1 0:=⟨by decide,by decide⟩
theorem E_:E9 1 1:=⟨by decide,by decide⟩
theorem iM{qs:List Rat}(h:∀q∈qs,E9 n q):E9 (1+(n+1)*qs.length) (bJ qs):=tT qs 1 0 q0s h
theorem yr(q:Rat){n:Int}(h:0<n):qd q.num (q.den*n)=q / qd n 1:=by
 have es:=gw q;have dp:=fy q;unfold qd at *;rw[IQ];have h1:=cM h;have h2:=cM dp;generalize (q.num:Rat)=x at *;generalize ((q.den:Int):Rat)=y at *;generalize (n:Rat)=z at *;have e1:((1:Int):Rat)=1:=rfl;rw[<- es,e1]
 grind
theorem dF{a b:Sh}:shD a=shD b↔a=b:=by
 constructor
 · intro h;unfold shD at h;simp only[Iy,Ie,and_true,aM]at h;obtain⟨h1,h2⟩:=h
   cases a with
   | one c v=>cases b with
     | one c' v' =>
       simp only[Sh.cuts,Ie,and_true]at h1;have h2:Fb v=Fb v':=h2
       rw[h1,bC.mp h2]
     | two c' d' vs'=>simp[Sh.cuts]at h1
   | two c d vs=>cases b with
     | one c' v'=>simp[Sh.cuts]at h1
     | two c' d' vs' =>
       simp only[Sh.cuts,Ie,and_true]at h1;have h2:ptsQ vs=ptsQ vs':=h2;rw[h1.1,h1.2,aM.mp h2]
 · rintro rfl;rfl
theorem item_sh0(s:Sh):itemAt (shD s) 0=some (ptsQ s.cuts):=rfl
theorem item_sh1(s:Sh):itemAt (shD s) 1=some s.vD:=rfl
theorem mD(fl:List Nat)(b:Hi->En->Mo Fl)(ρ:En):ff fl b [] ρ=ret (.nx ρ):=nr rfl
theorem jQ(fl:List Nat)(b:Hi->En->Mo Fl)(x:Hi)(xs:List Hi)(ρ:En):ff fl b (x::xs) ρ=FY (b x ρ) (Fw fl (ff fl b xs)):=nr rfl
theorem lpK_nx(fl:List Nat)(k:En->Mo Fl)(ρ:En):Fw fl k (.nx ρ)=k (fo fl ρ):=nr rfl
theorem lpK_rt(fl:List Nat)(k:En->Mo Fl)(w:W):Fw fl k (.rt w)=ret (.rt w):=nr rfl
theorem seqD_tI(xs:List Int):fR (dC xs)=some (xs.map .int):=rfl
theorem tupD_tI(xs:List Int):tupD (dC xs)=some (xs.map .int):=rfl
theorem item_tI(xs:List Int)(i:Int):itemAt (dC xs) i=(atI xs i).map .int:=atI_map _ _ _
theorem lenD_tI(xs:List Int):lj (dC xs)=some xs.length:=by show some (xs.map Iv).length=_;rw[Hs]
theorem tup_of(xs:List Int):Ii (xs.map Iv)=dC xs:=rfl
theorem pt_of(xs:List Rat):Ii (xs.map fr)=Fb xs:=rfl
theorem yt(xs:List (List Rat)):Ii (xs.map Fb)=ptsQ xs:=rfl
theorem mw(l:List α)(f:α->Int):l.map (fun z=>Iv (f z))=(l.map f).map .int:=by rw[IU];rfl
theorem sj(l:List α)(f:α->List Int):l.map (fun z=>mC (f z))=(l.map f).map mC:=by rw[IU];rfl
theorem lf(l:List α)(f:α->Rat):l.map (fun z=>fr (f z))=(l.map f).map fr:=by rw[IU];rfl
theorem cK{a b:List (List Int)}:a.map mC=b.map mC↔a=b:=aX fun _ _=>mB
theorem bA{xs:List α}{k:Nat}{d:α}(h:k<xs.length):xs.getD k d=xs[k]:=by rw[Iq,Ip h];rfl
theorem cp{xs:List α}{i:Int}(d:α)(h0:0<=i)(h1:i<(xs.length:Int)):atI xs i=some (xs.getD i.toNat d):=by rw[zL h0 h1,bA (by omega)]
noncomputable def Hf:=Hj @item_sh0 (Hj @item_sh1 (Hj @seqD_tI (Hj @tupD_tI (Hj @item_tI (Hj @lenD_tI (Hj @tup_of (Hj @pt_of (Hj @lpK_nx (@lpK_rt)))))))))
theorem Sh.cut60{s:Sh}(h:s.OkM m n)(hm:autoParam (m<=6) æb._auto_1):∀c∈s.cuts,c.length<=60/\∀q∈c,E9 60 q:=by
 intro c hc
 cases s with
 | one a v =>
   rw[HI.mp hc]
   exact⟨by have:=h.1.len;omega,fun q hq=>(h.1.sm q hq).mono (by decide)⟩
 | two a b vs =>
   rcases Ic.mp hc with rfl|hc
   · exact⟨by have:=h.1.len;omega,fun q hq=>(h.1.sm q hq).mono (by decide)⟩
   · rw[HI.mp hc];exact⟨by have:=h.2.1.len;omega,fun q hq=>(h.2.1.sm q hq).mono (by decide)⟩
theorem Sh.cut6{s:Sh}(h:s.OkM m n)(hm:autoParam (m<=6) æb._auto_1):∀c∈s.cuts,da 6 c:=by
 intro c hc
 cases s with
 | one a v =>
   rw[HI.mp hc]
   exact h.1
 | two a b vs =>
   have up:∀c,da m c->da 6 c:=fun c ⟨d,as,h1,h2,h3,h4⟩=>⟨d,as,h1,h2,by omega,h4⟩;rcases Ic.mp hc with rfl|hc
   · exact up _ h.1
   · rw[HI.mp hc];exact up _ h.2.1
theorem Sh.cl(s:Sh):s.cuts.length<=2:=by cases s<;>simp[Sh.cuts]
theorem lY{cs:List (List Rat)}(hl:cs.length<=2)(hc:∀c∈cs,da 6 c)(hp:kd cs p):E9 40 (eK cs p):=by
 have hm:∀z∈cs.zip p,E9 20 (lh z.1 z.2):=fun z mz=>uk (hc _ (IB mz).1) (hp.2 z mz).1 (hp.2 z mz).2;have ll:(cs.zip p).length<=2:=by rw[IR];omega
 unfold eK prodQ;generalize cs.zip p=l at hm ll
 match l,ll,hm with
 | [],_,_=>exact E_.mono (by decide)
 | [z],_,hm =>
   show E9 40 (1*_);rw[KM]
   exact(hm z Hr).mono (by decide)
 | [z,y],_,hm =>
   show E9 40 (1*_*_);rw[KM];exact jP (hm z Hr) (hm y (Hv _ Hr))
theorem gF{s:Sh}(h:s.OkN n):(pch s.cuts).length<=16:=by
 cases s with
 | one c v =>
   show(FW _).length<=16;rw[Sh.cuts,HE,Jr,wX,Hs,cB]
   have:=h.1.len;omega
 | two c d vs =>
   show(FW _).length<=16;rw[Sh.cuts,HE,HE,Jr,zD,Ke];have h1:=h.1.len;have h2:=h.2.1.len;simp only[Hs,cB,List.map_const',List.sum_replicate_nat];exact Je (Nat.mul_le_mul (show _<=4 by omega) (show _<=4 by omega)) (by decide)
noncomputable def trm(s:Sh)(p:List Int):Rat:=s.at p*eK s.cuts p
theorem tQ{s:Sh}(h:s.OkN n)(hp:kd s.cuts p):E9 (n+40) (trm s p):=jP (s.at_sm h hp) (lY s.cl (s.cut6 h) hp)
theorem lI{s:Sh}(h:s.Ok):E9 1000 (bo s):=by
 have hm:∀q∈(pch s.cuts).map (trm s),E9 60 q:=fun q mq=>by
  obtain⟨p,mp,rfl⟩:=HX.mp mq;exact tQ h (s.pch_ok p mp)
 refine(iM hm).mono ?_;have:=gF h;rw[Hs];omega
theorem qg(n:Int):Ii [.int n,.int 1]=fr (qd n 1):=by
 have e:qd n 1=(n:Rat):=by unfold qd;have:((1:Int):Rat)=1:=rfl;rw[this];grind
 rw[e];rfl
theorem qL{a:Int}{k:Nat}(h:b≠0)(hz:b.natAbs<2^k)(hk:k<=9000):eC a b:=⟨h,Hy hz (HJ (by decide) hk)⟩
theorem da.in01(h:da n c):∀q∈c,0<=q/\q<1:=by
 obtain⟨d,as,d0,_,_,rfl,ha,_⟩:=h;intro q hq;obtain⟨a,ma,rfl⟩:=HX.mp hq;exact⟨nj d0 (LR (ha a ma).1),o6 d0 (ha a ma).2⟩
open PySem PySem.Spec
theorem iO{α:Type}:∀{l:List α}{n:Nat},l.length=n+1->∃b t,l=b++[t]
 | [],_,h=>by simp at h
 | [x],_,_=>⟨[],x,rfl⟩
 | x::y::l,n,h=>by
   obtain⟨b,t,e⟩:=iO (l:=y::l) (n:=l.length) (by simp);exact⟨x::b,t,by rw[e];rfl⟩
theorem p9(l r:List α)(i:Nat)(d:α)(h:i<l.length):(l++r).getD i d=l.getD i d:=by
 rw[Iq,Iq,J0 h]
theorem p8(l r:List α)(i:Nat)(d:α)(h:l.length<=i):(l++r).getD i d=r.getD (i-l.length) d:=by
 rw[Iq,Iq,KA h]
noncomputable def chP{α:Type}(rows:List (List α)):List (List α):=rows.foldl (fun ch r=>ch.flatMap fun b=>r.map fun t=>b++[t]) [[]]
theorem gh(rows:List (List α))(r:List α):chP (rows++[r])=(chP rows).flatMap fun b=>r.map fun t=>b++[t]:=by
 unfold chP;rw[JF];rfl
theorem jc{α:Type}(d:α):∀(n:Nat)(rows:List (List α)),rows.length=n->∀es,es∈chP rows↔es.length=n/\∀i,i<n->es.getD i d∈rows.getD i []
 | 0,rows,h,es=>by
   cases Kf.mp h;show es∈[[]]↔_;rw[HI];constructor
   · rintro rfl;exact⟨rfl,fun i hi=>by omega⟩
   · rintro⟨e,_⟩;exact Kf.mp e
 | n+1,rows,h,es=>by
   obtain⟨rs,r,rfl⟩:∃rs r,rows=rs++[r]:=iO h;have hl:rs.length=n:=by simp at h;exact h
   rw[gh,Jz];constructor
   · rintro⟨b,mb,mes⟩;obtain⟨t,mt,rfl⟩:=HX.mp mes;obtain⟨bl,hb⟩:=(jc d n rs hl b).mp mb;refine⟨by simp[bl],fun i hi=>?_⟩;by_cases z:i<n
     · rw[p9 _ _ _ _ (by omega),p9 _ _ _ _ (by omega)];exact hb i z
     · have:i=n:=by omega
       subst this;rw[p8 _ _ _ _ (by omega),p8 _ _ _ _ (by omega),bl,hl,NX];exact mt
   · rintro⟨el,he⟩;obtain⟨b,t,rfl⟩:∃b t,es=b++[t]:=iO el;have bl:b.length=n:=by simp at el;exact el
     refine⟨b,(jc d n rs hl b).mpr ⟨bl,fun i hi=>?_⟩,HX.mpr ⟨t,?_,rfl⟩⟩
     · have:=he i (by omega);rw[p9 _ _ _ _ (by omega),p9 _ _ _ _ (by omega)]at this;exact this
     · have:=he n (by omega);rw[p8 _ _ _ _ (by omega),p8 _ _ _ _ (by omega),bl,hl,NX]at this;exact this
theorem qJ{α:Type}(m:Nat):∀(n:Nat)(rows:List (List α)),rows.length=n->(∀r∈rows,r.length<=m)->(chP rows).length<=m^n
 | 0,rows,h,_=>by cases Kf.mp h;exact Hw 1
 | n+1,rows,h,hr=>by
   obtain⟨rs,r,rfl⟩:∃rs r,rows=rs++[r]:=iO h;have hl:rs.length=n:=by simp at h;exact h
   have ih:=qJ m n rs hl fun x mx=>hr x (Jy _ mx);rw[gh,Ke];have hm:=hr r (HH _ Hr)
   have:∀(l:List (List α)),(l.map fun b=>(r.map fun t=>b++[t]).length).sum=l.length*r.length:=fun l=>by
    induction l with
    | nil=>simp
    | cons b l ih=>rw[HE,NF,ih,Hs,Il,NS];omega
   rw[this,MQ];exact Nat.mul_le_mul ih hm
noncomputable def Gy(s:Nat)(ps:List (List Rat)):Prop:=∀p∈ps,p.length=s/\∀q∈p,E9 20 q/\0<=q/\q<1
noncomputable def shB(p es:List Rat):Bool:=(p.zip es).all fun z=>!decide (z.2<z.1)
noncomputable def opB(p es:List Rat):Bool:=(p.zip es).all fun z=>decide (z.1<z.2)
noncomputable def ES(es:List Rat):Rat:=prodQ (es.map fun e=>mx e 0)
noncomputable def shC(ps:List (List Rat))(es:List Rat):Nat:=(ps.filter fun p=>shB p es).length
noncomputable def opC(ps:List (List Rat))(es:List Rat):Nat:=(ps.filter fun p=>opB p es).length
noncomputable def ov(ps:List (List Rat))(es:List Rat):Rat:=qd (shC ps es) ps.length-ES es
noncomputable def la(ps:List (List Rat))(es:List Rat):Rat:=ES es-qd (opC ps es) ps.length
noncomputable def G1(ps:List (List Rat))(i:Nat)(E:List Rat):Prop:=E.length<=ps.length+1/\∀e,e∈E↔(e=1\/∃p∈ps,e=p.getD i 0)
noncomputable def zP(n:Nat)(ps:List (List Rat))(Es:List (List Rat)):Prop:=Es.length=n/\∀i,i<n->G1 ps i (Es.getD i [])
noncomputable def jp(n:Nat)(ps:List (List Rat))(es:List Rat):Prop:=es.length=n/\∀i,i<n->(es.getD i 0=1\/∃p∈ps,es.getD i 0=p.getD i 0)
theorem zP.mem{Es:List (List Rat)}(h:zP n ps Es)(es:List Rat):es∈chP Es↔jp n ps es:=by
 rw[jc 0 n Es h.1 es];exact⟨fun⟨a,b⟩=>⟨a,fun i hi=>((h.2 i hi).2 _).mp (b i hi)⟩,fun⟨a,b⟩=>⟨a,fun i hi=>((h.2 i hi).2 _).mpr (b i hi)⟩⟩
noncomputable def qZ(n:Nat)(ps:List (List Rat))(u:Rat):Prop:=(∃es,jp n ps es/\(u=ov ps es\/u=la ps es))/\∀es,jp n ps es->ov ps es<=u/\la ps es<=u
theorem qZ.uniq{u v:Rat}(h:qZ n ps u)(g:qZ n ps v):u=v:=by
 obtain⟨es,be,he⟩:=h.1;obtain⟨fs,bf,hf⟩:=g.1;have h1:=h.2 fs bf;have h2:=g.2 es be;have a:u<=v:=by rcases he with e|e<;>rw[e];exact h2.1;exact h2.2
 have b:v<=u:=by rcases hf with e|e<;>rw[e];exact h1.1;exact h1.2
 exact Rat.le_antisymm a b
noncomputable def Ez(n:Nat)(ps:List (List Rat)):Rat:=open Classical in if h:∃u,qZ n ps u then HR h else 0
theorem tO{u:Rat}(h:qZ n ps u):Ez n ps=u:=by
 have hx:∃u,qZ n ps u:=⟨u,h⟩;unfold Ez;rw[dif_pos hx];exact(Hm hx).uniq h
theorem yR{e:Rat}(h:E9 20 e):E9 20 (mx e 0):=A8 h (q0s.mono (by decide))
theorem po:∀(qs:List Rat)(k:Nat)(a:Rat),E9 k a->(∀q∈qs,E9 20 q)->E9 (k+20*qs.length) (qs.foldl (· * ·) a)
 | [],k,a,h,_=>h
 | q::qs,k,a,h,hq=>by
   have:=po qs (k+20) (a*q) (jP h (hq q Hr)) fun r hr=>hq r (Hv _ hr);rw[IH];refine this.mono ?_;rw[Il];omega
theorem x6(hl:es.length<=4)(h:∀e∈es,E9 20 e):E9 81 (ES es):=by
 refine(po _ 1 1 E_ fun q mq=>?_).mono (by rw[Hs];omega);obtain⟨e,me,rfl⟩:=HX.mp mq;exact yR (h e me)
theorem rF(es:List Rat)(e:Rat):ES (es++[e])=ES es*mx e 0:=by
 unfold ES prodQ;rw[Ir,JF];rfl
noncomputable def zB{ps:List (List Rat)}(h1:1<=ps.length)(h:ps.length<=60)(f:List Rat->Bool):E9 60 (qd (ps.filter f).length ps.length) :=
 kW (by omega) (by have:=Jh f ps;omega) (by omega)
theorem zJ(hp:Gy n ps)(h:jp n ps es):∀e∈es,E9 20 e/\0<=e/\e<=1:=by
 intro e me;obtain⟨i,hi,rfl⟩:=KN me;have hb:=h.2 i (by have:=h.1;omega);rw[bA hi]at hb;rcases hb with hb|⟨p,mp,hb⟩
 · rw[hb];exact⟨E_.mono (by decide),by decide,by decide⟩
 · have:=(hp p mp).2 _ (getD_mem (d:=0) (show i<p.length by rw[(hp p mp).1];have:=h.1;omega));rw[hb];exact⟨this.1,this.2.1,Lo this.2.2⟩
theorem A2(hp:Gy n ps)(n4:n<=4)(h1:1<=ps.length)(h:ps.length<=60)(b:jp n ps es):E9 150 (ov ps es)/\E9 150 (la ps es):=by
 have s:=x6 (by rw[b.1];exact n4) fun e me=>(zJ hp b e me).1;exact⟨(oG (zB h1 h fun p=>shB p es) s).mono (by decide),(oG s (zB h1 h fun p=>opB p es)).mono (by decide)⟩
noncomputable def tpE(es:List Rat):Int:=es.foldl (fun t e=>t*max 0 e.num) 1
noncomputable def btE(es:List Rat)(m:Int):Int:=es.foldl (fun t e=>t*(e.den:Int)) m
theorem gY(es:List Rat):∀m:Int,btE es m=m*btE es 1:=by
 unfold btE
 induction es with
 | nil=>intro m;simp
 | cons e es ih=>intro m;rw[IH,IH,ih,ih (1*_)];rw[Int.one_mul,Int.mul_assoc]
theorem lv(es:List Rat):0<btE es 1:=by
 induction es with
 | nil=>show(0:Int)<1;decide
 | cons e es ih =>
   show 0<btE es (1*(e.den:Int));rw[gY];exact KJ (by have:=fy e;omega) ih
theorem A9(e:Rat):mx e 0=qd (max 0 e.num) e.den:=by
 have dp:=fy e;unfold mx;split
 · rename_i h;have:e.num<0:=by rw[NO]at h;simpa using h
   rw[Int.max_eq_left (by omega),tX dp]
 · rename_i h;have:¬e.num<0:=fun z=>h (by rw[NO];simpa using z);rw[Int.max_eq_right (by omega),gw]
theorem x8(es:List Rat):ES es=qd (tpE es) (btE es 1):=by
 have key:∀(es:List Rat)(t b:Int),0<b->(es.map fun e=>mx e 0).foldl (· * ·) (qd t b)=qd (es.foldl (fun t e=>t*max 0 e.num) t) (btE es b):=by
  intro es
  induction es with
  | nil=>intro t b _;rfl
  | cons e es ih =>
    intro t b hb;rw[HE,IH,A9,AV hb (fy e),ih _ _ (KJ hb (fy e))];rfl
 have:=key es 1 1 (by decide);rw[zY (by decide)]at this;exact this
theorem A3(ps:List (List Rat))(h1:1<=ps.length)(es:List Rat):qd ((shC ps es:Int)*btE es 1-tpE es*ps.length) (btE es ps.length)=ov ps es/\qd (tpE es*ps.length-(opC ps es:Int)*btE es 1) (btE es ps.length)=la ps es:=by
 have b0:=lv es;have n0:(0:Int)<(ps.length:Int):=by omega
 unfold ov la;rw[x8,gY es ps.length];unfold qd;have r1:=cM b0;have r2:=cM n0;rw[IQ,MR,MR,IQ,IQ,IQ];generalize ((shC ps es:Int):Rat)=x at *;generalize ((opC ps es:Int):Rat)=x' at *;generalize ((btE es 1:Int):Rat)=y at *;generalize ((tpE es:Int):Rat)=z at *;generalize (((ps.length:Nat):Int):Rat)=w at *;constructor<;>grind
theorem tR(hl:es.length<=4)(h:∀e∈es,E9 20 e):0<=tpE es/\tpE es<2^81/\btE es 1<2^81:=by
 have key:∀(es:List Rat)(k:Nat)(t b:Int),0<=t->t<2^k->0<b->b<2^k->(∀e∈es,E9 20 e)->(0<=es.foldl (fun t e=>t*max 0 e.num) t/\es.foldl (fun t e=>t*max 0 e.num) t<2^(k+20*es.length))/\btE es b<2^(k+20*es.length):=by
  intro es
  induction es with
  | nil=>intro k t b t0 t1 b0 b1 _;exact⟨⟨t0,t1⟩,b1⟩
  | cons e es ih =>
    intro k t b t0 t1 b0 b1 h;have he:=h e Hr;have m0:0<=max 0 e.num:=by omega
    have m1:max 0 e.num<2^20:=by have:=he.1;omega
    have d0:=fy e;have d1:(e.den:Int)<2^20:=by have:=he.2;exact_mod_cast this
    have c1:t*max 0 e.num<2^(k+20):=by
     by_cases z:max 0 e.num=0
     · rw[z,Int.mul_zero];exact Oa (by decide)
     · exact k9 t0 (by omega) t1 m1
    have c2:b*(e.den:Int)<2^(k+20):=k9 (by omega) d0 b1 d1;have:=ih (k+20) (t*max 0 e.num) (b*e.den) (Lm t0 m0) c1 (KJ b0 d0) c2 fun r hr=>h r (Hv _ hr);rw[Il,show k+20*(es.length+1)=k+20+20*es.length by omega];exact this
 have:=key es 1 1 1 (by decide) (by decide) (by decide) (by decide) h;have mo:∀x:Int,x<2^(1+20*es.length)->x<2^81:=fun x hx=>K8 hx (d8 (by decide) (by omega));exact⟨this.1.1,mo _ this.1.2,mo _ this.2⟩
theorem k5(n:Nat)(ps:List (List Rat)):jp n ps (HB n 1):=⟨Kq,fun i hi=>.inl (by rw[bA (by rw[Kq];exact hi),MB])⟩
theorem pH(hp:Gy n ps)(h1:1<=ps.length):ov ps (HB n 1)=0:=by
 have c:shC ps (HB n 1)=ps.length:=by
  unfold shC;rw[Nq.mpr fun p mp=>?_];unfold shB;rw[JL];rintro⟨x,e⟩ mz;obtain⟨mx_,me⟩:=IB mz;have ex:=((hp p mp).2 x mx_).2.2;rw[(List.mem_replicate.mp me).2];simp only[Bool.not_eq_true',decide_eq_false_iff_not];intro z
  grind
 have z:ES (HB n 1)=1:=by
  have:∀n,ES (HB n 1)=1:=fun n=>by
   induction n with
   | zero=>rfl
   | succ n ih=>rw[List.replicate_succ',rF,ih,KM];unfold mx;rw[if_neg (by decide)]
  exact this n
 unfold ov;rw[c,z,zY (by omega)];grind
open PySem PySem.Spec
noncomputable def Fd(b:Bool)(ps:List (List Rat)):Hi:=if b then ptsQ ps else .list (ps.map Fb)
theorem vG{a b:List (List Rat)}:a.map Fb=b.map Fb↔a=b:=aX fun _ _=>bC
theorem yz{b c:Bool}{x y:List (List Rat)}:Fd b x=Fd c y↔b=c/\x=y:=by
 cases b<;>cases c<;>simp[Fd,ptsQ,vG]
noncomputable def EG(e:Rat):Hi:=E1 (.to e)
theorem rC{a b:Rat}:EG a=EG b↔a=b:=by
 unfold EG;rw[bE];constructor
 · intro h;injection h
 · rintro rfl;rfl
theorem rB{a b:List Rat}:a.map EG=b.map EG↔a=b:=aX fun _ _=>rC
noncomputable def Fz(E:List Rat):Hi:=.list (E.map EG)
theorem wf{a b:List Rat}:Fz a=Fz b↔a=b:=by unfold Fz;rw[Ky,rB]
theorem yV{a b:List (List Rat)}:a.map Fz=b.map Fz↔a=b:=aX fun _ _=>wf
noncomputable def FX(es:List Rat):Hi:=.tuple (es.map EG)
theorem qR{a b:List Rat}:FX a=FX b↔a=b:=by unfold FX;rw[Iy,rB]
noncomputable def F0(bs:List Bool):Hi:=.list (bs.map .bool)
theorem wN{a b:List Bool}:F0 a=F0 b↔a=b:=by
 unfold F0;rw[Ky];exact aX fun x y=>by rw[JT.injEq]
noncomputable def Fq(e:Rat)(s f:List Bool):Hi:=.tuple [EG e,F0 s,F0 f,fr (mx e 0)]
theorem yS{e e':Rat}{s f s' f':List Bool}:Fq e s f=Fq e' s' f'↔e=e'/\s=s'/\f=f':=by
 unfold Fq;simp only[Iy,Ie,and_true,rC,wN,di];constructor
 · rintro⟨h1,h2,h3,_⟩;exact⟨h1,h2,h3⟩
 · rintro⟨rfl,rfl,rfl⟩;exact⟨rfl,rfl,rfl,rfl⟩
structure Rw where
 es:List Rat
 sh:List Nat
 op:List Nat
 sz:Rat
noncomputable def Fj(ns:List Nat):Hi:=.list (ns.map fun k:Nat=>.int (k:Int))
theorem v8{a b:List Nat}:Fj a=Fj b↔a=b:=by
 unfold Fj;rw[Ky];exact aX fun x y=>by rw[Mt];omega
noncomputable def E2(r:Rw):Hi:=.tuple [FX r.es,Fj r.sh,Fj r.op,fr r.sz]
theorem vf{a b:Rw}:E2 a=E2 b↔a=b:=by
 unfold E2;simp only[Iy,Ie,and_true,qR,v8,di];constructor
 · rintro⟨h1,h2,h3,h4⟩;cases a;cases b;simp_all
 · rintro rfl;exact⟨rfl,rfl,rfl,rfl⟩
theorem yh{a b:List Rw}:a.map E2=b.map E2↔a=b:=aX fun _ _=>vf
noncomputable def colQ(ps:List (List Rat))(i:Nat):List Rat:=ps.map fun p=>p.getD i 0
noncomputable def EJ(t:Rat×Str×List Rat):Hi:=.tuple [fr t.1,.str t.2.1,FX t.2.2]
theorem u6{a b:Rat×Str×List Rat}:EJ a=EJ b↔a=b:=by
 unfold EJ;simp only[Iy,Ie,and_true,qR,di,NM.injEq];constructor
 · rintro⟨h1,h2,h3⟩;exact N3 h1 (N3 h2 h3)
 · rintro rfl;exact⟨rfl,rfl,rfl⟩
theorem xW{a b:List (Rat×Str×List Rat)}:a.map EJ=b.map EJ↔a=b:=aX fun _ _=>u6
noncomputable def msQ(ps:List (List Rat))(es:List Rat):List (Rat×Str×List Rat):=[(ov ps es, "over", es),(la ps es, "lack", es)]
end L2.VL
variable{s:L2.VL.Sh}
namespace L2
theorem DAt.stab{xs:List (List Int×Addr×Hq)}{h1 h2:Heap}(p:VL.DAt a xs h1)(k:∀o,h1.get? a=some o->h2.get? a=some o):VL.DAt a xs h2:=by
 obtain⟨o,es,ep,h,r⟩:=p;exact⟨o,es,ep,k o h,r⟩
theorem qx{xs:List (List Int×Addr×Hq)}(p:VL.DAt a xs h):cZ P w H h a (.ext (VL.DAt a xs)) :=
 ⟨p,(let ⟨o,_,_,e,_⟩:=p;⟨o,e⟩),fun _ _ q k=>DAt.stab q k⟩
noncomputable def fY(K:W.Frag)(H:Hp)(xs:List (List Int×Addr×Hq)):Prop:=∀x∈xs,Gp K H x.2.1 (x.1.map V.int)
section
variable{X:Cx}{pins:List (Addr×Obj)}{σ:St}{H:Hp}{s:Ht}{a b:Addr}{xs:List (List Int×Addr×Hq)}{k:List Int}{A:IM}{E:Hq->Ht->Prop}
theorem items_int{prog:HV}{w:IF}:∀{ks:List Int}{its:List Hq},de (ks.map V.int) its->ItemsAre (Lz prog w) ks its
 | [],_,.nil=>.nil
 | i::ks,_,.cons h r=>by
   obtain⟨t,rfl⟩:=(show ∃t,_=MF i t from h);exact .cons (by simp[Lz,N4]) (items_int r)
theorem jR(I:Inv X pins σ H s)(sq:Gp X.K H b (k.map V.int)):(J4 (Lz X.prog X.w)).is s.heap k b:=by
 obtain⟨its,rv,⟨o,h1,h2,n,h3⟩,_⟩:=I.tuple sq;exact⟨o,its.toArray,n,h1,h2,h3,by simpa using items_int rv⟩
theorem zy(I:Inv X pins σ H s)(e:H a=some (.ext (VL.DAt a xs)))(ks:fY X.K H xs):s.heap.DictOfH (J4 (Lz X.prog X.w)) a xs/\(a==JK)=false/\xs.length<=sizeLine:=by
 obtain⟨⟨o,es,ep,h1,h2,h3,h4,h5,h6,h7⟩,_⟩:=(show cZ X.prog X.w H s.heap a (.ext (VL.DAt a xs))from I.hok a _ e);exact⟨⟨o,es,ep,h1,h2,h3,h4 _ _,fun x hx=>jR I (ks x hx),h5⟩,h6,h7⟩
theorem sL{P':HV}{w':IF}(x:List Int×Addr×Hq):NG (J4 (Lz P w)) x=NG (J4 (Lz P' w')) x:=rfl
theorem zz(d:h.DictOfH (J4 (Lz P w)) a xs)(h6:(a==JK)=false)(h7:xs.length<=sizeLine):VL.DAt a xs h:=by
 obtain⟨o,es,ep,h1,h2,h3,h4,_,h5⟩:=d;exact⟨o,es,ep,h1,h2,h3,fun P' w'=>by rw[h4];exact Kg fun x _=>sL x,h5,h6,h7⟩
theorem ie(xs:List (List Int×Addr×Hq))(k:List Int)(b:Addr)(u:Hq):(Mi xs k b u).length<=xs.length+1:=by
 unfold Mi;split<;>simp
end
section
variable{X:Cx}{o i e f value:Expr}{pos pos' apos cpos:Pos}{td ty tz tv:TE}
end
end L2
namespace L2.VL
noncomputable def nL(kvs:List (List Int×Hi))(k:List Int):Option Hi:=(kvs.find? fun kv=>decide (kv.1=k)).map (·.2)
noncomputable def i9(kvs:List (List Int×Hi))(k:List Int)(x:Hi):List (List Int×Hi) :=
 if(kvs.any fun kv=>decide (kv.1=k))=true then kvs.map (fun kv=>if kv.1=k then(kv.1,x)else kv)else kvs++[(k,x)]
theorem KX.keys{K:W.Frag}{F:Hp}:∀{xs:List (List Int×Addr×Hq)}{kvs:List (List Int×Hi)},KX K F xs kvs->fY K F xs
 | _,_,.nil,x,m=>by cases m
 | _,_,.cons h t,x,m=>by
   rcases Ic.mp m with rfl|m
   · rw[h.1]at *;exact h.2.1
   · exact KX.keys t x m
theorem KX.at{K:W.Frag}{F:Hp}{xs:List (List Int×Addr×Hq)}{kvs:List (List Int×Hi)}(r:KX K F xs kvs)(k:List Int):(MJ xs k=none/\nL kvs k=none)\/∃p v d,MJ xs k=some p/\nL kvs k=some d/\RelV v p.2/\Rep K F v d:=by
 induction r with
 | nil=>exact .inl ⟨rfl,rfl⟩
 | @cons p q ps qs h t ih =>
   unfold MJ nL at *;rw[Jo,Jo,h.1];by_cases e:q.1=k
   · simp only[e,decide_true];obtain⟨_,_,v,rv,rp⟩:=h;exact .inr ⟨p.2,v,q.2,rfl,rfl,rv,rp⟩
   · simp only[e,decide_false];exact ih
theorem KX.put{K:W.Frag}{xs:List (List Int×Addr×Hq)}(r:KX K F xs kvs)(k:List Int){b:Addr}{u:Hq}(sq:Gp K F b (k.map V.int))(rv:RelV v u)(rp:Rep K F v d):KX K F (Mi xs k b u) (i9 kvs k d):=by
 have any:(MJ xs k).isSome=kvs.any fun kv=>decide (kv.1=k):=by
  induction r with
  | nil=>rfl
  | @cons p q ps qs h t ih =>
    unfold MJ at *;rw[Jo,K1,h.1];by_cases e:q.1=k
    · simp[e]
    · simp only[e,decide_false,Bool.false_or];exact ih
 unfold Mi i9;rw[any];by_cases c:(kvs.any fun kv=>decide (kv.1=k))=true
 · rw[if_pos c,if_pos c];clear any c
   induction r with
   | nil=>exact .nil
   | @cons p q ps qs h t ih =>
     refine .cons ?_ ih;show(putAt k u p).1=(if q.1=k then(q.1,d)else q).1/\Gp K F (putAt k u p).2.1 ((putAt k u p).1.map V.int)/\∃v,RelV v (putAt k u p).2.2/\Rep K F v (if q.1=k then(q.1,d)else q).2;unfold putAt;by_cases e:q.1=k
     · rw[if_pos e,if_pos (h.1.trans e)];exact⟨h.1,h.2.1,v,rv,rp⟩
     · rw[if_neg e,if_neg (fun z=>e (h.1.symm.trans z))];exact h
 · rw[if_neg c,if_neg c];exact N8 r ⟨rfl,sq,v,rv,rp⟩
section
variable{X:Cx}{rl:RlT}{e:Expr}{pos px apos cpos:Pos}{ρ:En}
noncomputable def jU:List Hi->Option (List Int)
 | []=>some []
 | .int i::ds=>(jU ds).map (i :: ·)
 | _::_=>none
noncomputable def keyI:Hi->Option (List Int)
 | .tuple ds=>jU ds
 | _=>none
theorem mH:∀{ds:List Hi}{k:List Int},jU ds=some k->ds=k.map .int
 | [],k,h=>by cases h;rfl
 | .int i::ds,k,h=>by
   simp only[jU,Kl]at h;obtain⟨k',h1,rfl⟩:=h
   rw[mH h1];rfl
 | .none::_,_,h=>by cases h
 | .bool _::_,_,h=>by cases h
 | .str _::_,_,h=>by cases h
 | .list _::_,_,h=>by cases h
 | .tuple _::_,_,h=>by cases h
 | .dict _::_,_,h=>by cases h
theorem gO:∀k:List Int,jU (k.map .int)=some k
 | []=>rfl
 | i::k=>by show(jU (k.map .int)).map (i :: ·)=_;rw[gO k];rfl
theorem wm{k:List Int}(h:keyI d=some k):d = .tuple (k.map .int):=by
 unfold keyI at h;split at h
 · rw[mH h]
 · cases h
theorem pV{K:W.Frag}{k:List Int}(h:Rep K F v d)(e:keyI d=some k):∃b,v = .ref b/\Gp K F b (k.map V.int):=by
 rw[wm e]at h
 cases h with
 | @tup a vs ds sq rs =>
   rw[eV rs]at sq;exact⟨a,rfl,sq⟩
end
section
variable{X:Cx}{rl:RlT}{a b c o e:Expr}{es:List Expr}{fa fb:TV}{fs:Gi}{pos p apos cpos:Pos}{ρ:En}
end
end L2.VL
namespace L2.TI
section
variable{prog:HV}{w:IF}{A:IM}{E:Hq->Ht->Prop}{s:Ht}{t:Addr}{vs:List Hq}{ns:List Int}{k:Int}{tok:Tok}{j:Nat}
theorem jd:∀{vs:List Hq}{ns:List Int}{i:Nat}{n:Int},Nm vs ns->ns[i]?=some n->∃u,vs[i]?=some (.int n u)
 | _,_,_,_,.nil,e=>by simp at e
 | _,_,0,_,.cons n t r,e=>by simp at e;subst e;exact⟨t,rfl⟩
 | _,_,i+1,_,.cons n t r,e=>by
   obtain⟨u,h⟩:=jd (i:=i) r (by simpa using e);exact⟨u,by simpa using h⟩
theorem scan{Q:Option Fin×Unit->Ht->Prop}(hI:Nm vs ns)(hj:ns[j]?=some k)(hno:∀m,m<j->ns[m]?≠some k)(q:Q (some (.done (.ret (.int j s.toks))),()) {s with toks:=s.toks+1}) :
 ∀ len start:Nat,start<=j->j<start+len->HP (Ib prog w) A (forIn (List.range' start len) ((none,()):Option Fin×Unit) fun(i:Nat)(_:Option Fin×Unit) =>
   match vs.toArray[i]? with
   | some y=>do
     let b <- eqBool y (MF k tok)
     if b=true then do
      let r <- retInt (i:Int)
      pure (ForInStep.done (some r,()))
     else pure (Kr (none,()))
   | _=>pure (Kr (none,()))) Q E s
 | 0,start,h1,h2=>by omega
 | len+1,start,h1,h2=>by
   rw[List.range'_succ,K4];have hl:start<ns.length:=by have:=(HM.mp hj).1;omega
   obtain⟨u,hu⟩:=jd (i:=start) (n:=ns[start]) hI (Ip hl);have hv:vs.toArray[start]?=some (.int ns[start] u):=by simpa using hu
   refine Hl ?_;rw[hv];refine Hl (wpAny_eqBool_int ?_);by_cases e:ns[start]=k
   · have es:start=j:=by
       rcases Nat.lt_or_eq_of_le h1 with z|z
       · exact absurd (by rw[Ip hl,e]) (hno start z)
       · exact z
     subst es;rw[if_pos (by simpa using e)];exact Hl (Hl (wpAny_mkInt (Hn (Hn (Hn q)))))
   · rw[if_neg (by simpa using e)];refine Hn ?_;have ne:start≠j:=fun z=>by subst z;rw[Ip hl]at hj;exact e (IA hj)
     exact scan hI hj hno q len (start+1) (by omega) (by omega)
theorem body{R:N6->Ht->Prop}(tp:N1 s.heap t vs.toArray)(hI:Nm vs ns)(hj:ns[j]?=some k)(hno:∀m,m<j->ns[m]?≠some k)
 (q:R (.ok (.ret (.int j s.toks))) {s with toks:=s.toks+1}) :
 HP (Ib prog w) A.in1 (Builtin.«tuple.index» ⟨[.ref t,.int k tok],[]⟩) (fun fin s'=>match fin with | .done f=>R (.ok f) s' | .again c'=>c'.quiet=true/\JU (Ib prog w) A c' R s') (fun e s'=>R (.error e) s') s:=by
 unfold Builtin.«tuple.index»;show HP _ _ (do let z <- JW (.ref t);_) _ _ s;refine Hl (K0 tp ?_);refine Hl (Hn (Hl (Hn ?_)));dsimp only;rw[Std.Legacy.Range.forIn_eq_forIn_range']
 have hl:j<vs.toArray.size:=by
  have h1:=(HM.mp hj).1;have h2:=hI.length;simp only[HL];omega
 refine Hl (scan hI hj hno ?_ _ 0 (II _) ?_)
 · exact Hn q
 · show j<0+Std.Legacy.Range.size _;simp[Std.Legacy.Range.size];simpa using hl
end
end L2.TI
namespace L2
section
variable{X:Cx}
end
section
variable{prog:HV}{w:IF}{A:IM}{E:Hq->Ht->Prop}{s:Ht}
end
section
variable{X:Cx}
end
end L2
namespace L2.VL
section
variable{X:Cx}{rl:RlT}{e:Expr}{fa:TV}{pos:Pos}{ρ:En}
end
section
variable{X:Cx}{rl:RlT}{a b e:Expr}{fa fb:TV}{pos:Pos}{ρ:En}
end
end L2.VL
namespace L2
section
variable{X:Cx}
end
end L2
namespace L2.VL
section
variable{X:Cx}{rl:RlT}{a e:Expr}{fs:Gi}{pos p:Pos}
noncomputable def wr:Hi->Option (List Int)
 | .tuple xs=>ig xs
 | _=>none
theorem sG:wr d=some ns↔d = .tuple (ns.map .int):=by
 constructor
 · intro h
   cases d with
   | tuple xs=>rw[gf h]
   | _=>cases h
 · rintro rfl;exact cL _
theorem wq(ns:List Int):wr (.tuple (ns.map .int))=some ns:=cL ns
end
section
variable{X:Cx}{rl:RlT}{a b c o e:Expr}{es:List Expr}{fa fb:TV}{fs:Gi}{pos p px apos cpos:Pos}{ρ:En}
end
end L2.VL
namespace L2
section
variable{X:Cx}{o e f:Expr}{apos cpos:Pos}{td ty tx:TE}
end
end L2
namespace L2.VL
section
variable{X:Cx}{rl:RlT}{a b c o e:Expr}{es:List Expr}{fa fb:TV}{fs:Gi}{pos p px apos cpos:Pos}{ρ:En}
noncomputable def kf(w:W):Option (List Int):=w.dat.bind wr
theorem By{w:W}{g:List Int}:kf w=some g↔w.dat=some (.tuple (g.map .int)):=by
 unfold kf
 cases w.dat with
 | none=>simp
 | some d=>simp[sG]
theorem zM(g:List Int):kf (.d (.tuple (g.map .int)))=some g:=wq g
end
end L2.VL
namespace L2
theorem wF(p:VL.DAtO a u h):cZ P w H h a (.ext (VL.DAtO a u)) :=
 ⟨p,⟨_,p.2⟩,fun _ _ q k=>⟨DAt.stab q.1 k,k _ q.2⟩⟩
theorem gQ{s:Ht}(I:Inv X pins σ H s)(e:H a=some (.ext (VL.DAtO a u))):VL.DAtO a u s.heap :=
 (show cZ X.prog X.w H s.heap a (.ext (VL.DAtO a u))from I.hok a _ e).1
end L2
namespace L2.VL
section
variable{rl:RlT}
theorem VR.frzX{K:W.Frag}(r:VR K rl F₀ H₀ F H σ ρ){xs:List (List Int×Hi)}{us:List (List Int×Addr×Hq)}{ob:Obj}(e:ρ[i]?=some (some (.xm xs)))(es:σ[i]?=some (some (.ref a)))(hH:H a=some (.ext (DAt a us)))(rs:KX K F us xs) :
 bU F (Ex F a (.ext (DAtO a (us,ob))))/\VR K rl F₀ H₀ (Ex F a (.ext (DAtO a (us,ob)))) (Ex H a (.ext (DAtO a (us,ob)))) σ (ρ.set i (some (.xr xs))):=by
 obtain⟨v,h1,h2,h3⟩:=r.sl i _ e;rw[es]at h1;cases h1;obtain⟨a',vs,ev,f,hr,hh,q⟩:=(show tD K rl F H (.ref a) xs from h2);cases ev;have n0:H₀ a=none:=h3 a rfl;have hi:i<ρ.length:=(HM.mp e).1;have neF:∀b u,F b=some u->b≠a:=fun b u q z=>by subst z;rw[f]at q;cases q
 have fsm:bU F (Ex F a (.ext (DAtO a (us,ob)))):=fun b u z=>by rw[ar (neF b u z)];exact z
 have g:Grow rl F₀ H₀ (Ex F a (.ext (DAtO a (us,ob)))) (Ex H a (.ext (DAtO a (us,ob)))):=by
  refine⟨fun b o q1 n=>by rw[ar (bi q1 n0)];exact r.g.same b o q1 n,r.g.fs.trans fsm,fun b o q1=>?_,fun b o q1=>by rw[ar (bi q1 n0)];exact r.g.old b o q1,fun y z=>?_⟩
  · by_cases hb:b=a
    · subst hb;rw[aG]at q1 ⊢;exact q1
    · rw[ar hb]at q1 ⊢;exact r.sub b o q1
  · obtain⟨z1,⟨u,h1,h2⟩⟩:=r.reel y z;have ny:y≠a:=fun q=>hr (by rw[<- q];exact z);exact⟨by rw[ar ny];exact z1,⟨u,by rw[ar ny];exact h1,RO.mono fsm h2⟩⟩
 refine⟨fsm,g,fun j w e1=>?_,fun j k ys' zs u hjk e1 e2 w1 w2 s1 s2=>?_,fun j ys' z=>?_,by simp[r.len]⟩
 · by_cases hj:i=j
   · subst hj;rw[HU hi]at e1;cases e1;exact⟨_,es,⟨a,(us,ob),rfl,aG,rs.mono fsm⟩,trivial⟩
   · rw[HQ hj]at e1;obtain⟨u,g1,g2,g3⟩:=r.sl j w e1;refine⟨u,g1,?_,g3⟩;have ap:w.own=true->∀b,u = .ref b->b≠a:=fun ow b eb z=>r.ap i j _ _ (.ref a) hj e e1 rfl ow es (by rw[g1,eb,z])
     cases w with
     | d x=>exact Rep.mono fsm g2
     | ml zs=>obtain⟨b,us',eb,f1,f2,f3,f4⟩:=(show iF K rl F H u zs from g2);exact⟨b,us',eb,by rw[ar (ap rfl b eb)];exact f1,f2,by rw[ar (ap rfl b eb)];exact f3,f4.mono fsm⟩
     | md zs=>obtain⟨b,us',eb,f1,f2,f3,f4⟩:=(show wS K rl F H u zs from g2);exact⟨b,us',eb,by rw[ar (ap rfl b eb)];exact f1,f2,by rw[ar (ap rfl b eb)];exact f3,Jc.mapP f4 fun _ _ z=>⟨z.1,z.2.mono fsm⟩⟩
     | mk zs=>obtain⟨b,us',eb,f1,f2,f3,f4⟩:=(show wR K rl F H u zs from g2);exact⟨b,us',eb,by rw[ar (ap rfl b eb)];exact f1,f2,by rw[ar (ap rfl b eb)];exact f3,Jc.mapP f4 fun _ _ z=>⟨z.1,z.2.mono fsm⟩⟩
     | xm zs=>obtain⟨b,us',eb,f1,f2,f3,f4⟩:=(show tD K rl F H u zs from g2);exact⟨b,us',eb,by rw[ar (ap rfl b eb)];exact f1,f2,by rw[ar (ap rfl b eb)];exact f3,KX.mono f4 fsm⟩
     | pk zs=>exact absurd e1 (r.np j zs)
     | reel=>exact g2
     | vv u=>exact g2
     | lk=>trivial
     | nt ds=>obtain⟨b,us,eb,f1,f2⟩:=g2;exact⟨b,us,eb,fsm _ _ f1,f2.mono fsm⟩
     | sc ns=>obtain⟨b,eb,f1⟩:=g2;exact⟨b,eb,oP fsm f1⟩
     | fd kvs=>obtain⟨b,us,eb,f1,f2⟩:=g2;exact⟨b,us,eb,fsm _ _ f1,Jc.mapP f2 fun _ _ z=>⟨z.1,z.2.mono fsm⟩⟩
     | xr kvs=>obtain⟨b,us,eb,f1,f2⟩:=g2;exact⟨b,us,eb,fsm _ _ f1,KX.mono f2 fsm⟩
     | xw a kvs=>obtain⟨us,eb,f1,f2⟩:=g2;exact⟨us,eb,fsm _ _ f1,KX.mono f2 fsm⟩
     | fw kvs=>obtain⟨b,us,o,eb,f1,f2⟩:=g2;exact⟨b,us,o,eb,fsm _ _ f1,Jc.mapP f2 fun _ _ z=>⟨z.1,z.2.mono fsm⟩⟩
     | ft kvs=>obtain⟨b,us,o,eb,f1,f2⟩:=g2;exact⟨b,us,o,eb,fsm _ _ f1,Jc.mapP f2 fun _ _ z=>⟨z.1,z.2.mono fsm⟩⟩
     | xc _ _=>obtain⟨b,dx,us,C,eb,n,f1,f3,f2⟩:=g2;exact⟨b,dx,us,C,eb,n,fsm _ _ f1,fsm _ _ f3,Jc.mapP f2 fun _ _ z=>⟨z.1,z.2.mono fsm⟩⟩
     | dp _ _=>obtain⟨c,b,us,u,o,eb,f1,f3,f2,z⟩:=g2;exact⟨c,b,us,u,o,eb,fsm _ _ f1,fsm _ _ f3,Jc.mapP f2 fun _ _ z=>⟨z.1,z.2.mono fsm⟩,z.mono fsm⟩
 · have nd:∀(j:Nat)(y:W),(ρ.set i (some (W.xr xs)))[j]?=some (some y)->y.own=true->ρ[j]?=some (some y):=fun j y z o=>by
     by_cases hj:i=j
     · subst hj;rw[HU hi]at z;cases z;cases o
     · rw[HQ hj]at z;exact z
   exact r.ap j k _ _ u hjk (nd j _ e1 w1) (nd k _ e2 w2) w1 w2 s1 s2
 · rw[IW]at z;split at z
   · first|cases z|(split at z<;>cases z)
   · exact r.np j ys' z
end
section
variable{X:Cx}{rl:RlT}{st:Stmt}{body:List Stmt}{t:Gj}{e:Expr}{pos p px apos cpos:Pos}{ρ:En}
noncomputable def zW(i:Nat):Gj:=fun D ρ=>∃kvs,ρ[i]?=some (some (.xm kvs))/\D.nx (ρ.set i (some (.xr kvs)))
noncomputable def xM(i:Nat)(t:Gj):Gj:=fun D ρ=>∃xs,ρ[i]?=some (some (.xm xs))/\t D (ρ.set i (some (.xr xs)))
theorem dB.keyF{rl:RlT}{K:W.Frag}{w:W}{g:List Int}(r:dB K rl F H v w)(e:kf w=some g):∃b,v = .ref b/\Gp K F b (g.map V.int):=by
 have e:=By.mp e
 cases w with
 | d x=>cases e;exact pV r (by show jU (g.map .int)=_;exact gO g)
 | nt ds =>
   obtain⟨a,vs,rfl,h,q⟩:=r;cases e;rw[eV q]at h
   exact⟨a,rfl,.inl (.inl h)⟩
 | ml xs=>cases e
 | pk xs=>cases e
 | _=>cases e
theorem dB.keyI{rl:RlT}{K:W.Frag}{w:W}{g:List Int}(s:bU F H)(r:dB K rl F H v w)(e:kf w=some g):∃b,v = .ref b/\Gp K H b (g.map V.int):=pV (dB.dat s r (By.mp e)) (by show jU (g.map .int)=_;exact gO g)
noncomputable def uQ(i:Nat)(fk:TV):TV:=fun ρ Q=>∃kvs,ρ[i]?=some (some (.xr kvs))/\fk ρ fun wk=>∃(g:List Int)(x:Hi),kf wk=some g/\nL kvs g=some x/\Q (.d x)
theorem qv{X:Cx}{s:Ht}(I:Inv X pins σ H s)(e:H a=some (.ext (DAtO a u)))(ks:fY X.K H u.1):s.heap.DictOfH (J4 (Lz X.prog X.w)) a u.1:=by
 obtain⟨⟨o,es,ep,h1,h2,h3,h4,h5,h6,h7⟩,_⟩:=gQ I e;exact⟨o,es,ep,h1,h2,h3,h4 _ _,fun x hx=>jR I (ks x hx),h5⟩
noncomputable def xY(K:W.Frag)(td ty:TE):TE:=fun σ H Q=>td σ H fun x H1=>ty σ H1 fun y H2=>∃a u b k p v,x = .ref a/\H2 a=some (.ext (DAtO a u))/\fY K H2 u.1/\y = .ref b/\Gp K H2 b (k.map V.int)/\MJ u.1 k=some p/\RelV v p.2/\Q v H2
theorem rX{o i:Expr}{td ty:TE}{pos:Pos}(hu:X.A.units+1<LM)(ho:PE X o td)(hi:PE X i ty)(hs:uz i):PE X (.Subscript o i pos) (xY X.K td ty):=by
 intro pins s σ H Q I h;refine oH LY.lookup hs (EH (ho pins s σ H _ I h) fun u s1 ⟨x,H1,I1,rx,q1⟩=>EH (hi pins s1 σ H1 _ I1 q1) fun iv s2 ⟨y,H2,I2,ry,a,xs,b,k,p,v,ex,e,ks,ey,sq,at',rv,q2⟩=>?_);subst ex ey;obtain rfl:u=Jd a:=rx;cases(show iv=Jd b from ry);have dd:=qv I2 e ks;refine⟨dd.typeIs,wpAny_getItem_heap (K3 hu) (jR I2 sq) dd at' ?_⟩;exact⟨v,H2,I2.tok _,rv,q2⟩
theorem n_(i:Nat){fk:TV}(hu:X.A.units+64<LM)(hk:PV X rl e fk)(hN:autoParam (X.N[i]?=some x) æa._auto_1)(hv:autoParam (Gf X.env.scope x) æd._auto_1)
 (hd:autoParam ((x==("__debug__" : Str))=false) æb._auto_1)(hcd:autoParam ((x==("__classdict__" : Str))=false) æb._auto_1)(hs:autoParam (uz e) æg._auto_1) :
 PV X rl (.Subscript (.Name x px) e pos) (uQ i fk):=by
 obtain⟨t,p1,k1⟩:=hk;refine⟨_,rX (by omega) (dR hN hv hd hcd) p1 hs,fun{F₀ H₀ F H σ ρ} R Qd Q ⟨kvs,e1,q⟩ h=>?_⟩;obtain⟨v,h1,h2,h3⟩:=R.sl i _ e1;obtain⟨a,xs,rfl,hh,rs⟩:=(show ∃a us,v = .ref a/\F a=some (.ext (DAtO a us))/\KX X.K F us.1 kvs from h2);refine⟨.ref a,h1,k1 R _ _ q fun v1 w1 F1 H1 g1 r1 n1 q1=>?_⟩;obtain⟨gs,d,e2,ed,q1⟩:=q1;obtain⟨b,rfl,sq⟩:=r1.keyI g1.sub e2;have rs2:=rs.mono g1.fs;rcases rs2.at gs with⟨z1,z2⟩|⟨p,v3,d3,z1,z2,z3,z4⟩
 · rw[z2]at ed;cases ed
 · rw[z2]at ed;cases ed;exact⟨a,xs,b,gs,p,v3,rfl,g1.sub _ _ (g1.fs _ _ hh),fun x m=>c_ g1.sub (rs2.keys x m),rfl,sq,z1,z3,h _ (.d _) _ _ g1 z4 trivial q1⟩
end
end L2.VL
namespace L2
section
variable{X:Cx}{e:Expr}{tg:Expr}{te:TE}
end
end L2
namespace L2.VL
section
variable{X:Cx}{rl:RlT}{a b e o i':Expr}{es:List Expr}{fa fb:TV}{fs:Gi}{pos p px apos cpos:Pos}{ρ:En}{st:Stmt}{t:Gj}
end
section
variable{X:Cx}{rl:RlT}{kx vx tg iter:Expr}{ifs:List Expr}{scope:Scope}{pos:Pos}{fi:En->(List Hi->Prop)->Prop}{g:Gn}{ft:TB}{fk fe:TV}
end
abbrev G4:=List (GP×Hi)×Hi
section
variable{P:HV}{w:IF}{K:W.Frag}{mg:Str->Option Hq}{base:Heap}{rl:RlT}{x:Str}{st:Stmt}{N ps:List Str}{k:Nat}{Pd:List W->(G4->Prop)->Prop}{t:Gj}
end
section
variable{X:Cx}{rl:RlT}{e:Expr}{es:List Expr}{fs:Gi}{pos p:Pos}{ρ:En}
end
section
variable{X:Cx}{rl:RlT}{a b c o e:Expr}{es:List Expr}{fa fb:TV}{fs:Gi}{pos p apos cpos:Pos}{ρ:En}
end
end L2.VL
namespace L2
noncomputable def zQ(h:Heap)(a:Addr)(es:Array Ly)(ep:Nat):Prop:=∃ob,h.get? a=some ob/\ob.ExactDict/\ob.data = .dict es ep
section
variable{P:HV}{w:IF}{A:IM}{E:Hq->Ht->Prop}{s:Ht}{d v it:Addr}{es:Array Ly}{ep i:Nat}
theorem zQ.ty(r:zQ s.heap d es ep):s.TypeIs (.ref d) "dict" := let ⟨ob,q,x,_⟩:=r;⟨ob,q,x.1⟩
end
section
variable{X:Cx}{o:Expr}{tg:Expr}{te:TE}{apos cpos:Pos}
end
end L2
namespace L2.VL
section
variable{X:Cx}{rl:RlT}{a b e o i':Expr}{es:List Expr}{fa fb:TV}{fs:Gi}{pos p px apos cpos:Pos}{ρ:En}{st:Stmt}{t:Gj}
end
end L2.VL
namespace L2
section
variable{P:HV}{w:IF}{A:IM}{E:Hq->Ht->Prop}{s:Ht}{d v it:Addr}{es:Array Ly}{ep i:Nat}
theorem oV(nd:(d==JK)=false)(r:zQ s.heap d es ep)
 (z:Q (.ref s.heap.objs.size) {s with heap:=s.heap.push {cls:=.type "dict_keyiterator", data:=.fields #[.ref d,.int 0 0,.int es.size 0,.int ep 0]}}):HP (Ib P w) A (NQ (.ref d)) Q E s:=by
 obtain⟨ob,q,x,t⟩:=id r;refine wpAny_pyIter_slot r.ty F.slot_dict_iter (Ji F.slot_dict_iter r.ty F.entry_dict_iter ?_ (F.args_dict_iter_1 _));unfold Builtin.«dict.__iter__»;refine Hl ?_;unfold Builtin.Dict.dictSlotNone;refine Hl (wpAny_notOrdered_dict r.ty ?_);show HP _ _ (pure (Jd d)) _ _ s;refine Hn ?_;show HP _ _ (MT d >>= _) _ _ s;unfold MT;rw[if_neg (by rw[nd];exact H_)];refine Hl (Hn (Hl (Md q t (Hl (MU q t ?_)))));refine Hl (Ia (Hn ⟨_,rfl, "dict_keyiterator", _,⟨_,HK _ rfl,rfl⟩,F.slot_dict_keyiterator_next.lookup,?_⟩));simpa[Nb]using z
theorem oW{x:Hq}{Q:Option Hq->Ht->Prop}(hit:s.heap.IsKeyIter it d i es.size ep)(r:zQ s.heap d es ep)(hx:(es[i]?).map (·.key)=some x)
 (z:∀h',h'.IsKeyIter it d (i+1) es.size ep->JQ it s.heap h'->Q (some x) {s with heap:=h' }):HP (Ib P w) A (L6 (.ref it)) Q E s:=by
 obtain⟨ob,o1,o2,o3⟩:=id hit;obtain⟨od,q,x0,t⟩:=id r
 have li:i<es.size:=by
  rcases Nat.lt_or_ge i es.size with y|y
  · exact y
  · rw[MC y]at hx;cases hx
 have ex:es[i].key=x:=by rw[L3 li]at hx;exact IA hx
 unfold L6;refine Hl (Mm (Is (name:=Iw "__next__") hit.typeIs F.slot_dict_keyiterator_next (Ji F.slot_dict_keyiterator_next hit.typeIs F.entry_dict_keyiterator_next ?_ (F.args_dict_keyiterator_next_1 _))));refine Hl (Hn (Hl (Hl ?_)))
 first|refine Hl (JO hit.typeIs (Hn (Hl (L4 o1 o3 ?_))))|refine Hl (J9 hit.typeIs (Hn (Hl (L4 o1 o3 ?_))))
 simp only[show Lx "dict_keyiterator" = false by decide,Km,if_false];show HP _ _ (if(Jd d==J3)=true then _ else _) _ _ s;rw[if_neg (show ¬((Jd d==J3)=true)from H_)];refine Hl (Hn (Hl (Md q t ?_)));rw[if_neg (by simp)];refine Hl (Hn (Hl (MU q t ?_)));rw[if_neg (by simp)];refine Hn ?_;simp only[show ¬((i:Int)<0)from by omega,if_false,JE,L3 li];refine Hl ?_
 first|refine Hl (JO hit.typeIs (Hn (Hl (Lp hit.typeIs ?_))))|refine Hl (J9 hit.typeIs (Hn (Hl (Lp hit.typeIs ?_))))
 show HP _ _ (setField (.ref it) 1 (Nb ((i:Int)+1)) >>= _) _ _ s;refine Hl (LZ o1 o3 (by simp) ?_);have h2:(s.heap.update it (Obj.mapFields (·.setIfInBounds 1 (Nb ((i:Int)+1))))).IsKeyIter it d (i+1) es.size ep:=⟨_,MN _ o1 (MO (K6 o3 _)),(Obj.cls_mapFields ..).trans o2,by rw[K6 o3];simp[Nb]⟩;generalize he:s.heap.update it (Obj.mapFields (·.setIfInBounds 1 (Nb ((i:Int)+1))))=h' at h2 ⊢;refine Hl (Ku (Hl (Lp (s:={s with heap:=h' }) h2.typeIs ?_)));show HP _ _ (pure es[i].key) _ _ _;rw[ex];exact Hn (Hn ⟨_,rfl,Hn (z _ h2 (he▸KI ..))⟩)
theorem rM{Q:Option Hq->Ht->Prop}(hh:A.handled=none)(hit:s.heap.IsKeyIter it d i es.size ep)(r:zQ s.heap d es ep)(hx:es.size<=i)
 (z:∀h',Ob it s.heap h'->Q none {s with heap:=h' }):HP (Ib P w) A (L6 (.ref it)) Q E s:=by
 obtain⟨ob,o1,o2,o3⟩:=id hit;obtain⟨od,q,x0,t⟩:=id r;unfold L6;refine Hl (Mm (Is (name:=Iw "__next__") hit.typeIs F.slot_dict_keyiterator_next (Ji F.slot_dict_keyiterator_next hit.typeIs F.entry_dict_keyiterator_next ?_ (F.args_dict_keyiterator_next_1 _))));refine Hl (Hn (Hl (Hl ?_)))
 first|refine Hl (JO hit.typeIs (Hn (Hl (L4 o1 o3 ?_))))|refine Hl (J9 hit.typeIs (Hn (Hl (L4 o1 o3 ?_))))
 simp only[show Lx "dict_keyiterator" = false by decide,Km,if_false];show HP _ _ (if(Jd d==J3)=true then _ else _) _ _ s;rw[if_neg (show ¬((Jd d==J3)=true)from H_)];refine Hl (Hn (Hl (Md q t ?_)));rw[if_neg (by simp)];refine Hl (Hn (Hl (MU q t ?_)));rw[if_neg (by simp)];refine Hn ?_;simp only[show ¬((i:Int)<0)from by omega,if_false,JE,MC hx];refine Hl ?_
 first|refine Hl (JO hit.typeIs (Hn ?_))|refine Hl (J9 hit.typeIs (Hn ?_))
 show HP _ _ (setField (.ref it) 0 .none >>= _) _ _ s;refine Hl (LZ o1 o3 (by simp) ?_);show HP _ _ (newExc (.type "StopIteration") [] >>= _) _ _ _;refine Hl ?_;simp only[newExc,newTuple];refine Hl (Ia (Hl (m:=L0 _ _) (Mk (a:=J3) (by first|rfl|(simp only[L0];rfl)) (Ia ?_ (by size_fits)))) (by size_fits));simp only[raiseNew];refine Hl (wpAny_handled ?_);rw[show A.in1.handled=none from hh];refine Hl (Hn (wpAny_throw ?_));refine Hl (wpAny_isInstance (T := "StopIteration") (b:=true) ⟨_,HK _ rfl,rfl⟩ isSubtype_stop ?_);exact Hn (z _ (((KI ..).extBut.push _).push _))
end
open PySem PySem.Spec PyProof.Rows PySem.W
section
variable{P:HV}{w:IF}{A:IM}{E:Hq->Ht->Prop}{s:Ht}{d:Addr}{es:Array Ly}{ep:Nat}
end
end L2
namespace L2.VL
noncomputable def kI(k:List Int):Hi:=.tuple (k.map .int)
section
variable{X:Cx}{rl:RlT}{a b c o e:Expr}{es:List Expr}{fa fb fk fx:TV}{fs:Gi}{pos p px apos cpos:Pos}{ρ:En}
noncomputable def mW:W->Option (List (List Int×Hi))
 | .xr kvs=>some kvs
 | _=>none
theorem qU{w:W}:mW w=some kvs↔w = .xr kvs:=by cases w<;>simp[mW]
noncomputable def nI:W->Option (List (List Int×Hi))
 | .xm kvs=>some kvs
 | _=>none
theorem wO{w:W}:nI w=some kvs↔w = .xm kvs:=by cases w<;>simp[nI]
noncomputable def EX(ρ:En)(i:Nat):Option (List (List Int×Hi)):=((ρ[i]?).join).bind nI
theorem tV:EX ρ i=some kvs↔ρ[i]?=some (some (.xm kvs)):=by
 unfold EX;rcases ρ[i]? with _|_|w<;>simp[wO]
noncomputable def lW(ρ:En)(i:Nat):Option (List (List Int×Hi)):=((ρ[i]?).join).bind mW
theorem oK:lW ρ i=some kvs↔ρ[i]?=some (some (.xr kvs)):=by
 unfold lW;rcases ρ[i]? with _|_|w<;>simp[qU]
theorem dq(i:Nat):uQ i fk ρ=aJ (lW ρ i) fun kvs=>FY (fk ρ) fun wk=>aJ (kf wk) fun g=>aJ (nL kvs g) fun x=>ret (.d x):=by
 refine ag fun Q=>?_;simp only[uQ,ai,oK,FY,ret];refine exists_congr fun kvs=>and_congr_right fun _=>?_;constructor
 · intro h;refine cast ?_ h;congr 1;funext x;exact propext ⟨fun⟨a,b,c,d,e⟩=>⟨a,c,b,d,e⟩,fun⟨a,c,b,d,e⟩=>⟨a,b,c,d,e⟩⟩
 · intro h;refine cast ?_ h;congr 1;funext x;exact propext ⟨fun⟨a,c,b,d,e⟩=>⟨a,b,c,d,e⟩,fun⟨a,b,c,d,e⟩=>⟨a,c,b,d,e⟩⟩
theorem dn(i:Nat){t:Gj}:mS (xM i t) ρ=aJ (EX ρ i) fun xs=>mS t (ρ.set i (some (.xr xs))):=by
 refine ag fun Q=>?_;simp only[mS,xM,ai,tV]
theorem hJ(kvs:List (List Int×Hi)):(W.xr kvs).peek.fz = .xr kvs:=rfl
end
end L2.VL
namespace L2
noncomputable def oC(K:W.Frag)(wi:TI)(fr:List (Option Nat))(g:CompA->TG)(tt:CompA->TT)(tk te:CompA->TE):TE:=fun σ H Q=>wi σ H fun J H1=>∀D,H1 D=none->∃Wv:Nat->Nat->List (List Int×Addr×Hq)->St->Hp->Prop,(∃m,Wv 0 m [] (nO fr σ) (Ex H1 D (.ext (VL.DAt D [])))) /\
 ∀ (z:CompA) i m acc σc H,Wv i m acc σc H->(J.stop i H/\Q (.ref D) H)\/(J.go i H/\∀x H',J.yld i H x H'->g z x σc H' fun σ2 H2=>tt z σ2 H2 fun b H3 =>
   if b=true then tk z σ2 H3 fun ky H4=>te z σ2 H4 fun y H5=>∃(k:List Int)(kb:Addr),ky = .ref kb/\H5 D=some (.ext (VL.DAt D acc))/\fY K H5 acc/\Gp K H5 kb (k.map V.int)/\acc.length<sizeLine/\∃m',m'<m/\∀u,RelV y u->Wv (i+1) m' (Mi acc k kb u) σ2 (Ex H5 D (.ext (VL.DAt D (Mi acc k kb u))))else ∃m',m'<m/\Wv (i+1) m' acc σ2 H3)
theorem gW{kx vx:Expr}{g:TG}{tt:TT}{tk te:TE}{H3:Hp}{s3:Ht}{D:Addr}{J:It}{Q:VK}
 {cl:List (Str×Addr)}(N':List Str)(fr:List (Option Nat))(hu:X.A.units+64<LM)(hc:X.calm=true)(hkind:scope.kind = .function)(hcell:∀y∈scope.names,y.2 = .cell->scope.names.lookup y.1=some .cell)
 (hfree:∀y∈scope.names,y.2 = .free->X.env.kindOf y.1=some .cell\/X.env.kindOf y.1=some .free)(frl:fr.length=N'.length)
 (frg:∀(i j:Nat),fr[i]?=some (some j)->∃x,N'[i]?=some x/\X.N[j]?=some x/\scope.names.lookup x=some .free/\(X.env.scope.names.lookup x=some .cell\/X.env.scope.names.lookup x=some .free))
 (cl1:∀x c,cl.lookup x=some c->X.env.cells.lookup x=some c)(cl2:∀x,(x,IP)∈scope.names->(cl.lookup x).isSome=true)
 (I3:Inv X pins σ H3 s3)(T:Turn X.prog X.w X.K tg J fp it tn)(tn3:tn 0 s3.heap)(fpD:∀b∈fp,H3 b=none)(fp3:∀b∈fp,b<s3.heap.objs.size)
 (fpk:∀b∈fp,b≠X.env.locals/\b∉X.fs/\(b∈X.ex\/X.s₀.heap.objs.size<=b)/\(∀x c,X.env.cells.lookup x=some c->c≠b)/\∀p∈X.pn++pins,p.1≠b)
 (hg:PG (bg X N' scope cl fp (X.pn++pins) s3 H3) tg g)(ht:GB (bg X N' scope cl fp (X.pn++pins) s3 H3) ifs tt)(hk:PE (bg X N' scope cl fp (X.pn++pins) s3 H3) kx tk)(he:PE (bg X N' scope cl fp (X.pn++pins) s3 H3) vx te)
 {Wv:Nat->Nat->List (List Int×Addr×Hq)->St->Hp->Prop}{m0:Nat}(w0:Wv 0 m0 [] (nO fr σ) H3)
 (turn:∀i m acc σc H,Wv i m acc σc H->(J.stop i H/\Q (.ref D) H)\/(J.go i H/\∀x H',J.yld i H x H'->g x σc H' fun σ2 H2=>tt σ2 H2 fun b H3 =>
  if b=true then tk σ2 H3 fun ky H4=>te σ2 H4 fun y H5=>∃(k:List Int)(kb:Addr),ky = .ref kb/\H5 D=some (.ext (VL.DAt D acc))/\fY X.K H5 acc/\Gp X.K H5 kb (k.map V.int)/\acc.length<sizeLine/\∃m',m'<m/\∀u,RelV y u->Wv (i+1) m' (Mi acc k kb u) σ2 (Ex H5 D (.ext (VL.DAt D (Mi acc k kb u))))else ∃m',m'<m/\Wv (i+1) m' acc σ2 H3))
 (fin:∀s5 H4 m,s5.heap.Ns s3.heap.objs.size m->(∀h',JQ s3.heap.objs.size s5.heap h'->Inv X pins σ H4 {s5 with heap:=h' })->lG X pins H4 s3.heap.objs.size->Q (.ref D) H4->Rp s3.heap.objs.size (.ok .next) s5) :
 HP (Ib X.prog X.w) X.A (Lk scope X.env.globals cl [] X.env.qual none .none (some X.env)) (fun cenv s₄ =>
  JU (Ib X.prog X.w) X.A (.compStart (.DictComp kx vx [⟨tg,iter,ifs,0⟩] scope pos) 0 (.ref it) (.ref D) {cenv with scope:=Og scope X.env})
   (Rp cenv.locals) s₄) X.xe s3:=by
 refine dH N' fr hc hkind hcell hfree frl frg cl1 cl2 I3 T tn3 fpD fp3 fpk (fun s' IY tY stat=>?_) fin
 have loop:JU (Ib X.prog X.w) X.A (.compLoop (.DictComp kx vx [⟨tg,iter,ifs,0⟩] scope pos) 0 (.ref it) (.ref D) (bg X N' scope cl fp (X.pn++pins) s3 H3).env)
  (fun r s5=>r = .ok .next/\∃σ5 H4,Inv (bg X N' scope cl fp (X.pn++pins) s3 H3) [] σ5 H4 s5/\Q (.ref D) H4) s':=by
  refine nH (fun n s'=>∃i acc σ' H',Inv (bg X N' scope cl fp (X.pn++pins) s3 H3) [] σ' H' s'/\tn i s'.heap/\(∀b∈fp,H' b=none)/\Wv i n acc σ' H') ?_ m0
   ⟨0,[],_,_,IY,tY,fpD,w0⟩
  rintro n s4 ⟨i,acc,σ4,H4,I4,st4,fr4,w4⟩;rcases turn i n acc σ4 H4 w4 with⟨stop,qn⟩|⟨go,step⟩
  · exact EH (T.done (bg X N' scope cl fp (X.pn++pins) s3 H3) rfl rfl rfl hc i [] s4 σ4 H4 (fun _ _=>False) I4 (stat fr4) st4 stop) fun r s5 ⟨hr,I5⟩=>.inl ⟨hr,rfl,σ4,H4,I5,qn⟩
  · refine EH (T.item (bg X N' scope cl fp (X.pn++pins) s3 H3) rfl rfl rfl hc i [] s4 σ4 H4 (fun _ _=>False) I4 (stat fr4) st4 go) fun r s5 ⟨u,hr,h5⟩=>.inr ⟨u,hr,?_⟩;refine EH h5 fun _ s6 ⟨x,H6,I6,r6,y6,st6,fr6⟩=>?_;have I6':=I6.pinned (stat fr6) (T.obj _ _ st6)
    have again:∀{σ7:St}{H7:Hp}{s7:Ht},Inv (bg X N' scope cl fp (X.pn++pins) s3 H3) ([]++fU fp s6.heap) σ7 H7 s7->∀{acc':List (List Int×Addr×Hq)}{m':Nat},m'<n->Wv (i+1) m' acc' σ7 H7 ->
     ∃m,m<n/\∃i acc σ' H',Inv (bg X N' scope cl fp (X.pn++pins) s3 H3) [] σ' H' s7/\tn i s7.heap/\(∀b∈fp,H' b=none)/\Wv i m acc σ' H':=fun{σ7 H7 s7} I7 {acc' m'} hm w7=>by
     refine⟨m',hm,i+1,acc',σ7,H7,I7.unpinned,T.keep _ _ _ st6 fun b hb o e=>(I7.pin (b,o) (HH _ (HH _ (bT hb e)))).1,fun b hb=>?_,w7⟩;obtain⟨o,e,d⟩:=T.obj _ _ st6 b hb;exact(I7.pin (b,o) (HH _ (HH _ (bT hb e)))).2.1
    refine EH (hg _ s6 σ4 H6 x u _ I6' r6 (step x H6 y6)) fun _ s7 ⟨σ7,H7,I7,q7⟩=>?_;refine EH (ht _ s7 σ7 H7 _ I7 q7) fun ok s8 ⟨H8,I8,q8⟩=>?_
    cases ok with
    | false =>
      rw[if_neg H_]at q8 ⊢;obtain⟨m',hm,w8⟩:=q8
      exact again I8 hm w8
    | true =>
      rw[if_pos rfl]at q8 ⊢;refine EH (hk _ s8 σ7 H8 _ I8 q8) fun ku s9 ⟨ky,H9,I9,rk,q9⟩=>?_;refine EH (he _ s9 σ7 H9 _ I9 q9) fun y s10 ⟨yv,H10,I10,r10,k,kb,ek,eD,ks,sq,hl,m',hm,w10⟩=>?_;subst ek;obtain rfl:ku=Jd kb:=rk;obtain⟨dd,hd,hz⟩:=zy I10 eD ks;have ru:(J4 (Lz (bg X N' scope cl fp (X.pn++pins) s3 H3).prog (bg X N' scope cl fp (X.pn++pins) s3 H3).w)).room (bg X N' scope cl fp (X.pn++pins) s3 H3).A:=(show X.A.units<LM by omega);refine wpAny_dictSet_heap (hsz:=hz) ru (jR I10 sq) dd fun h' dd' hs=>?_;have lz:=ie acc k kb y;have at':=zz dd' hd (by omega);exact again (gR (t':=s10.toks+_) I10 (by rw[eD];exact Lh) hs (let ⟨o,_,_,e,_⟩:=at';⟨o,e⟩) (qx at')) hm (w10 y r10)
 exact codeAny_compStart_dict loop (T.self X.A 0 _ _ _ tY loop)
section
variable{X:Cx}{kx vx tg iter:Expr}{ifs:List Expr}{scope:Scope}{pos:Pos}{wi:TI}{g:CompA->TG}{tt:CompA->TT}{tk te:CompA->TE}
theorem pD(N':List Str)(fr:List (Option Nat))(hu:X.A.units+64<LM)(hc:X.calm=true)(hi:PI X tg iter wi)(hfr:nF fr N' X.N scope X.env.scope=true)(hsc:nM scope X.env.scope=true)
 (hg:∀y,PG (FZ X N' scope y) tg (g y))(ht:∀y,GB (FZ X N' scope y) ifs (tt y))(hk:∀y,PE (FZ X N' scope y) kx (tk y))(he:∀y,PE (FZ X N' scope y) vx (te y))
 (hs:autoParam (∀x,Ig iter X.env x=pure x) æc._auto_1):PE X (.DictComp kx vx [⟨tg,iter,ifs,0⟩] scope pos) (oC X.K wi fr g tt tk te):=by
 intro pins s σ H Q I h;obtain⟨sk,sn⟩:=Hz.mp hsc;have hkind:scope.kind = .function:=of_decide_eq_true sk;have hall:=JL.mp sn
 have hcell:∀y∈scope.names,y.2 = .cell->scope.names.lookup y.1=some .cell:=fun y hy hl=>by
  rcases HW.mp (Hz.mp (Hz.mp (hall y hy)).1).1 with z|z
  · exact absurd hl (of_decide_eq_true z)
  · exact of_decide_eq_true z
 have hnames:∀y∈scope.names,y.2 = .local->scope.names.lookup y.1=some .local:=fun y hy hl=>by
  rcases HW.mp (Hz.mp (Hz.mp (hall y hy)).1).2 with z|z
  · exact absurd hl (of_decide_eq_true z)
  · exact of_decide_eq_true z
 have hfree:∀y∈scope.names,y.2 = .free->X.env.kindOf y.1=some .cell\/X.env.kindOf y.1=some .free:=fun y hy hl=>by
  rcases HW.mp (Hz.mp (hall y hy)).2 with z|z
  · exact absurd hl (of_decide_eq_true z)
  · exact(HW.mp z).imp of_decide_eq_true of_decide_eq_true
 obtain⟨frl,frg⟩:=nF.get hfr;obtain⟨cl,hclos,cl1,cl2⟩:=cT (env:=X.env) (scope:=scope) fun y hy hl=>I.ok.has y.1 (hfree y hy hl);rw[arm_eval_DictComp];refine Js (use:=none) rfl hs hclos hkind hnames (EH (hi pins s σ H _ I h) fun v s1 h1=>EH h1 fun itv s2 h2=>?_);obtain⟨it,fp,tn,J,H2,e,I2,T,st2,f2,q2⟩:=h2;subst e;refine Ia ?_;have hD:H2 s2.heap.objs.size=none:=I2.hok.fresh (Hw _)
 have I3:Inv X pins σ (Ex H2 s2.heap.objs.size (.ext (VL.DAt s2.heap.objs.size []))) {s2 with heap:=s2.heap.push {cls:=.type "dict", data:=.dict #[]}} :=
  I2.laid (t':=s2.toks) (fun b u e=>Hu _ e) (Hw _) (qx ⟨_,#[],0,HK _ rfl,⟨rfl,rfl,rfl⟩,rfl,fun _ _=>rfl,List.nodup_nil,beq_eq_false_iff_ne.mpr (Me (Io I2.big)),II _⟩)
 obtain⟨Wv,⟨m0,w0⟩,turn⟩:=q2 _ hD;have tn3:tn 0 (s2.heap.push {cls:=.type "dict", data:=.dict #[]}):=T.keep _ _ _ st2 fun b _ o e=>Hu _ e
 have fpD:∀b∈fp,(Ex H2 s2.heap.objs.size (.ext (VL.DAt s2.heap.objs.size []))) b=none:=fun b hb=>by
  obtain⟨o,e,_⟩:=T.obj _ _ st2 b hb;rw[ar (Io (HD e))];exact(f2 b hb).1
 have fp3:∀b∈fp,b<(s2.heap.push {cls:=.type "dict", data:=.dict #[]}).objs.size:=fun b hb=>by
  obtain⟨o,e,_⟩:=T.obj _ _ tn3 b hb;exact HD e
 exact gW N' fr hu hc hkind hcell hfree frl frg cl1 cl2 I3 T tn3 fpD fp3 (fun b hb=>(f2 b hb).2) (hg ⟨cl,fp,X.pn++pins,_,_⟩) (ht ⟨cl,fp,X.pn++pins,_,_⟩) (hk ⟨cl,fp,X.pn++pins,_,_⟩) (he ⟨cl,fp,X.pn++pins,_,_⟩) w0 (turn ⟨cl,fp,X.pn++pins,_,_⟩)
  (Rp:=NC (Ib X.prog X.w) X.A X.xe none (EP X pins σ Q) (.ref s2.heap.objs.size)) fun s5 H4 m hn k _ qn=>⟨m,hn,fun h' hs'=>⟨.ref _,H4,k h' hs',rfl,qn⟩⟩
theorem jL{b:Bool}{ix:Nat}(N':List Str)(fr:List (Option Nat))(hu:X.A.units+64<LM)(hc:X.calm=true)(hi:PI X tg iter wi)(hfr:nF fr N' X.N scope X.env.scope=true)(hsc:nM scope X.env.scope=true)
 (hg:∀y,PG (FZ X N' scope y) tg (g y))(ht:∀y,GB (FZ X N' scope y) ifs (tt y))(hk:∀y,PE (FZ X N' scope y) kx (tk y))(he:∀y,PE (FZ X N' scope y) vx (te y))(hN:X.N.Nodup)(hix:X.N[ix]?=some x)(hx:Loc X.env.scope x)
 (hf:X.fn x=true\/X.env.scope.names.lookup x=some .local)(hsw:Ju (.DictComp kx vx [⟨tg,iter,ifs,0⟩] scope pos) (some (.Name x px)) spos.line X.env=pure b)
 (hs:∀x,Ig iter X.env x=pure x):PS X (.Assign [.Name x px] (.DictComp kx vx [⟨tg,iter,ifs,0⟩] scope pos) spos) (x5 (oC X.K wi fr g tt tk te) (jf ix)):=by
 cases b with
 | false=>exact gC hN hix hx (pD N' fr hu hc hi hfr hsc hg ht hk he hs) hsw hf
 | true =>
 intro pins s σ H DD I h;obtain⟨sk,sn⟩:=Hz.mp hsc;have hkind:scope.kind = .function:=of_decide_eq_true sk;have hall:=JL.mp sn
 have hcell:∀y∈scope.names,y.2 = .cell->scope.names.lookup y.1=some .cell:=fun y hy hl=>by
  rcases HW.mp (Hz.mp (Hz.mp (hall y hy)).1).1 with z|z
  · exact absurd hl (of_decide_eq_true z)
  · exact of_decide_eq_true z
 have hnames:∀y∈scope.names,y.2 = .local->scope.names.lookup y.1=some .local:=fun y hy hl=>by
  rcases HW.mp (Hz.mp (Hz.mp (hall y hy)).1).2 with z|z
  · exact absurd hl (of_decide_eq_true z)
  · exact of_decide_eq_true z
 have hfree:∀y∈scope.names,y.2 = .free->X.env.kindOf y.1=some .cell\/X.env.kindOf y.1=some .free:=fun y hy hl=>by
  rcases HW.mp (Hz.mp (hall y hy)).2 with z|z
  · exact absurd hl (of_decide_eq_true z)
  · exact(HW.mp z).imp of_decide_eq_true of_decide_eq_true
 obtain⟨frl,frg⟩:=nF.get hfr;obtain⟨cl,hclos,cl1,cl2⟩:=cT (env:=X.env) (scope:=scope) fun y hy hl=>I.ok.has y.1 (hfree y hy hl);rw[Ln _ _ _ _ hsw];refine Hl (Jv (Hl ?_));show HP _ X.A (do let _ <- ND (.DictComp kx vx [⟨tg,iter,ifs,0⟩] scope pos) scope X.env _ newDict false (eval iter X.env) (some (Kz (.Name x px) X.env))) _ _ s
 refine Hl (Im (Js (use:=some (Kz (.Name x px) X.env)) (Q:=fun _ s'=>SP X pins DD .next s') rfl hs hclos hkind hnames
  (EH (hi pins s σ H _ I h) fun v s1 h1=>EH h1 fun itv s2 h2=>?_)) (fun _ s' hq=>Hn (Hn hq)) fun _ _ e=>e)
 obtain⟨it,fp,tn,J,H2,e,I2,T,st2,f2,q2⟩:=h2;subst e;refine Ia ?_;have hD:H2 s2.heap.objs.size=none:=I2.hok.fresh (Hw _)
 have I3:Inv X pins σ (Ex H2 s2.heap.objs.size (.ext (VL.DAt s2.heap.objs.size []))) {s2 with heap:=s2.heap.push {cls:=.type "dict", data:=.dict #[]}} :=
  I2.laid (t':=s2.toks) (fun b u e=>Hu _ e) (Hw _) (qx ⟨_,#[],0,HK _ rfl,⟨rfl,rfl,rfl⟩,rfl,fun _ _=>rfl,List.nodup_nil,beq_eq_false_iff_ne.mpr (Me (Io I2.big)),II _⟩)
 obtain⟨Wv,⟨m0,w0⟩,turn⟩:=q2 _ hD;have tn3:tn 0 (s2.heap.push {cls:=.type "dict", data:=.dict #[]}):=T.keep _ _ _ st2 fun b _ o e=>Hu _ e
 have fpD:∀b∈fp,(Ex H2 s2.heap.objs.size (.ext (VL.DAt s2.heap.objs.size []))) b=none:=fun b hb=>by
  obtain⟨o,e,_⟩:=T.obj _ _ st2 b hb;rw[ar (Io (HD e))];exact(f2 b hb).1
 have fp3:∀b∈fp,b<(s2.heap.push {cls:=.type "dict", data:=.dict #[]}).objs.size:=fun b hb=>by
  obtain⟨o,e,_⟩:=T.obj _ _ tn3 b hb;exact HD e
 refine gW (Q:=fun v H1=>jf ix v σ H1 DD.nx) N' fr hu hc hkind hcell hfree frl frg cl1 cl2 I3 T tn3 fpD fp3 (fun b hb=>(f2 b hb).2) (hg ⟨cl,fp,X.pn++pins,_,_⟩) (ht ⟨cl,fp,X.pn++pins,_,_⟩) (hk ⟨cl,fp,X.pn++pins,_,_⟩) (he ⟨cl,fp,X.pn++pins,_,_⟩) w0 (turn ⟨cl,fp,X.pn++pins,_,_⟩)
  (Rp:=NC (Ib X.prog X.w) X.A X.xe (some (Kz (.Name x px) X.env)) (fun _ s'=>SP X pins DD .next s') (.ref s2.heap.objs.size)) fun s5 H4 m hn k fpo qn=>?_
 show HP _ X.A (Kz (.Name x px) X.env (.ref s2.heap.objs.size)) _ _ s5;have I5:Inv X pins σ H4 s5:=k s5.heap (Li _ _);obtain⟨f0,f1,f2',f3,f4,f5⟩:=fpo;refine La (eS I5 hN hix hx (v:=.ref s2.heap.objs.size) rfl (fun s6 I6 sb=>?_) hf);obtain⟨a,sb,ha⟩:=sb
 have hne:(s2.heap.push {cls:=.type "dict", data:=.dict #[]}).objs.size≠a:=by
  rcases ha with rfl|ha
  · exact f1
  · exact fun z=>f4 x a ha z.symm
 refine⟨m,hn.at' fun o e=>sb.extBut _ o hne e,fun h' hs'=>?_⟩;exact⟨_,H4,I6.turned (t':=s6.toks) (fun b o hb e=>hs'.extBut b o hb e) f0 f1 f3 f4 f5,qn⟩
end
end L2
namespace L2.VL
theorem rO(kvs:List (List Int×Hi))(k:List Int)(x:Hi):(i9 kvs k x).length<=kvs.length+1:=by
 unfold i9;split<;>simp
noncomputable def tM(ρ0:En)(g:Gn)(ft:TB)(fk fe:TV):List Hi->List (List Int×Hi)->(List (List Int×Hi)->Prop)->Prop
 | [],acc,Q=>Q acc
 | x::xs,acc,Q=>g x ρ0 fun ρ2=>Le ρ0 ρ2/\ft ρ2 fun b=>if b=true then fk ρ2 fun wk=>∃k,kf wk=some k/\fe ρ2 fun w=>∃d,w.fz = .d d/\acc.length<sizeLine/\tM ρ0 g ft fk fe xs (i9 acc k d) Q else tM ρ0 g ft fk fe xs acc Q
noncomputable def kF(fi:En->(List Hi->Prop)->Prop)(fr:List (Option Nat))(g:Gn)(ft:TB)(fk fe:TV):TV:=fun ρ Q=>fi ρ fun xs=>tM (eO fr ρ) g ft fk fe xs [] fun kvs=>Q (.xm kvs)
noncomputable def nN(ρ0:En)(g:Gn)(ft:TB)(fk fe:TV)(x:Hi):Mo (Option (List Int×Hi)):=FY (g x ρ0) fun ρ2=>FO (Le ρ0 ρ2) (FY (ft ρ2) fun b=>if b=true then FY (fk ρ2) fun wk=>aJ (kf wk) fun k=>FY (fe ρ2) fun w=>aJ (asD w.fz) fun d=>ret (some (k,d))else ret none)
noncomputable def dm(b:Hi->Mo (Option (List Int×Hi))):List Hi->List (List Int×Hi)->Mo (List (List Int×Hi))
 | [],acc=>ret acc
 | x::xs,acc=>FY (b x) fun o=>match o with
   | some d=>FO (acc.length<sizeLine) (dm b xs (i9 acc d.1 d.2))
   | none=>dm b xs acc
theorem mP(ρ0:En)(g:Gn)(ft:TB)(fk fe:TV):∀(xs:List Hi)(acc:List (List Int×Hi)),tM ρ0 g ft fk fe xs acc=dm (nN ρ0 g ft fk fe) xs acc
 | [],acc=>rfl
 | x::xs,acc=>by
   refine ag fun Q=>?_;show(g x ρ0 fun ρ2=>Le ρ0 ρ2/\ft ρ2 fun b=>if b=true then fk ρ2 fun wk=>∃k,kf wk=some k/\fe ρ2 fun w=>∃d,w.fz = .d d/\acc.length<sizeLine/\tM ρ0 g ft fk fe xs (i9 acc k d) Q else tM ρ0 g ft fk fe xs acc Q)↔(FY (nN ρ0 g ft fk fe x) _) Q;simp only[mP ρ0 g ft fk fe xs]
   have:∀(ρ2:En)(b:Bool),(if b=true then fk ρ2 fun wk=>∃k,kf wk=some k/\fe ρ2 fun w=>∃d,w.fz = .d d/\acc.length<sizeLine/\dm (nN ρ0 g ft fk fe) xs (i9 acc k d) Q else dm (nN ρ0 g ft fk fe) xs acc Q)=(FY (if b=true then FY (fk ρ2) fun wk=>aJ (kf wk) fun k=>FY (fe ρ2) fun w=>aJ (asD w.fz) fun d=>ret (some (k,d))else ret none) fun o=>match o with
   | some d=>FO (acc.length<sizeLine) (dm (nN ρ0 g ft fk fe) xs (i9 acc d.1 d.2))
   | none=>dm (nN ρ0 g ft fk fe) xs acc) Q:=by
     intro ρ2 b
     cases b with
     | false=>rfl
     | true =>
       rw[if_pos rfl,if_pos rfl];show _=fk ρ2 fun wk=>_;congr 1;funext wk;refine propext ?_;show _↔(FY (aJ (kf wk) fun k=>FY (fe ρ2) fun w=>aJ (asD w.fz) fun d=>ret (some (k,d))) _) Q;rw[bnd_opt,ai]
       have e2:∀(k:List Int),(fe ρ2 fun w=>∃d,w.fz = .d d/\acc.length<sizeLine/\dm (nN ρ0 g ft fk fe) xs (i9 acc k d) Q)=(FY (FY (fe ρ2) fun w=>aJ (asD w.fz) fun d=>ret (some (k,d))) fun o=>match o with
        | some d=>FO (acc.length<sizeLine) (dm (nN ρ0 g ft fk fe) xs (i9 acc d.1 d.2))
        | none=>dm (nN ρ0 g ft fk fe) xs acc) Q:=fun k=>by
        show _=fe ρ2 fun w=>_;congr 1;funext w;refine propext ?_;show _↔(FY (aJ (asD w.fz) fun d=>ret (some (k,d))) _) Q;rw[bnd_opt,ai];simp only[iD];exact K7
       simp only[e2]
   simp only[this];exact K7
section
variable{α:Type}{b:Hi->Mo (Option (List Int×Hi))}
theorem jX{enc:α->Hi}(f:α->List Int×Hi):∀(xs:List α)(acc:List (List Int×Hi)),(∀x∈xs,b (enc x)=ret (some (f x)))->acc.length+xs.length<=sizeLine->dm b (xs.map enc) acc=ret ((xs.map f).foldl (fun a p=>i9 a p.1 p.2) acc)
 | [],acc,_,_=>rfl
 | x::xs,acc,h,hl=>by
   show FY (b (enc x)) _=_;rw[h x Hr,bnd_ret];show FO (acc.length<sizeLine) (dm b (xs.map enc) (i9 acc (f x).1 (f x).2))=_;simp only[Il]at hl;have:=rO acc (f x).1 (f x).2;rw[ah (by omega),jX f xs _ (fun y hy=>h y (Hv _ hy)) (by omega)];rfl
theorem nU{β:Type}{Q:β->Prop}{k:List (List Int×Hi)->Mo β}{xs:List α}{enc:α->Hi}(f:α->List Int×Hi)(hx:xs'=xs.map enc)(h:∀x∈xs,b (enc x)=ret (some (f x)))(hl:xs.length<=sizeLine)
 (fin:k ((xs.map f).foldl (fun a p=>i9 a p.1 p.2) []) Q):FY (dm b xs' []) k Q:=by
 subst hx;rw[jX f xs [] h (by simpa using hl)];exact fin
end
section
variable{X:Cx}{rl:RlT}{kx vx tg iter:Expr}{ifs:List Expr}{scope:Scope}{pos:Pos}{fi:En->(List Hi->Prop)->Prop}{g:Gn}{ft:TB}{fk fe:TV}
theorem sX{wi:TI}(fr:List (Option Nat))(hu:X.A.units+64<LM)(k0:∀{F₀ H₀ F H:Hp}{σ:St}{ρ:En},VR X.K rl F₀ H₀ F H σ ρ->∀(Qd:List Hi->Prop)(R:It->Hp->Prop),fi ρ Qd ->
 (∀J xs F' H',Grow rl F H F' H'->VIt X.K rl F' J xs->Qd xs->R J H')->wi σ H R)
 (hg:∀y,GJ (FZ X N' scope y) rl tg g)(ht:∀y,qY (FZ X N' scope y) rl ifs ft)(hk:∀y,PV (FZ X N' scope y) rl kx fk)(he:∀y,PV (FZ X N' scope y) rl vx fe)
 (R:VR X.K rl F₀ H₀ F H σ ρ)(Qd:W->Prop)(Q:VK)(q:kF fi fr g ft fk fe ρ Qd)
 (k:∀v w F' H',Grow rl F H F' H'->dB X.K rl F' H' v w->eB H v w->Qd w->Q v H'):oC X.K wi fr (fun y=>HR (hg y)) (fun y=>HR (ht y)) (fun y=>HR (hk y)) (fun y=>HR (he y)) σ H Q:=by
 refine k0 R _ _ q fun J xs F1 H1 g1 vi q1=>?_;intro D hD;have rD:rl.a≠some D:=fun e=>by obtain⟨o,z⟩:=g1.reel.live e;rw[hD]at z;cases z
 have FD:F1 D=none:=g1.sub.free hD;have gD:Grow rl F1 H1 F1 (Ex H1 D (.ext (DAt D []))):=Grow.laid g1.sub g1.reel hD;have R1:=R.grow g1;have n0:nK (eO fr ρ):=d_
 refine⟨fun i m acc σc Hc=>m=xs.length-i/\i<=xs.length/\∃Fc ds,VR X.K rl F1 H1 Fc Hc σc (eO fr ρ)/\Hc D=some (.ext (DAt D acc))/\Fc D=none/\KX X.K Fc acc ds/\tM (eO fr ρ) g ft fk fe (xs.drop i) ds (fun ds=>Qd (.xm ds)),
  ⟨xs.length,by simp,II _,F1,[],f_ R1 gD,aG,FD,.nil,by simpa using q1⟩,?_⟩
 rintro z i m acc σc Hc ⟨rfl,hi,Fc,ds,Rc,hDc,fDc,rs,q2⟩;have sH:bU F1 Hc:=Rc.g.fs.trans Rc.sub;by_cases hlt:i<xs.length
 · have ei:xs[i]?=some xs[i]:=by simp[hlt]
   have ed:xs.drop i=xs[i]::xs.drop (i+1):=IT hlt;rw[ed]at q2;refine .inr ⟨vi.go i Hc _ ei sH,fun v H' y=>?_⟩;obtain⟨Fy,gy,rv⟩:=vi.yld i Hc v H' _ Fc ei Rc.g.fs Rc.sub Rc.reel y;refine(Hm (hg z)).2 (Rc.grow gy) v _ _ _ rv q2 fun F3 H3 σ3 ρ3 g3 n3 R3 ⟨le3,q3⟩=>?_;refine(Hm (ht z)).2 R3 _ _ q3 fun b F4 H4 g4 q4=>?_;have R4:=R3.grow g4;have g34:=(gy.trans g3).trans g4;have keepD:∀{Fx Hx:Hp},Grow rl Fc Hc Fx Hx->Hx D=some (.ext (DAt D acc))/\Fx D=none:=fun gx=>⟨gx.same D _ hDc rD,by rw[gx.old D _ hDc];exact fDc⟩
   cases b with
   | false=>exact⟨xs.length-(i+1),by omega,rfl,hlt,F4,ds,R4.le le3,(keepD g34).1,(keepD g34).2,rs.mono g34.fs,q4⟩
   | true =>
     refine(Hm (hk z)).2 R4 _ _ q4 fun vk wk Fk Hk gk rk nk ⟨kk,ekk,qk⟩=>?_;obtain⟨kb,rfl,sqk⟩:=rk.keyF ekk;have R5:=R4.grow gk;refine(Hm (he z)).2 R5 _ _ qk fun v5 w5 F5 H5 g5 r5 n5 ⟨d,ed5,hl,q5⟩=>?_;obtain⟨F6,g6,s6,r6⟩:=dB.fz g5 r5 n5;rw[ed5]at r6;have g36:=(g34.trans gk).trans g6;have lds:acc.length=ds.length:=Jt rs;have rs6:=rs.mono g36.fs;have sq6:=c_ g6.fs sqk;refine⟨kk,kb,rfl,(keepD g36).1,fun x m=>c_ g6.sub (rs6.keys x m),c_ g6.sub sq6,by rw[lds];exact hl,xs.length-(i+1),by omega,fun u ru=>⟨rfl,hlt,F6,i9 ds kk d,((R5.grow g6).le le3).other n0 hD (keepD g36).2 rD,aG,(keepD g36).2,rs6.put kk sq6 ru r6,q5⟩⟩
 · have e:i=xs.length:=by omega
   subst e;rw[JN]at q2;refine .inl ⟨vi.stop _ Hc (Hw _) sH,k _ (.xm ds) Fc Hc (g1.trans Rc.g) ⟨D,acc,rfl,fDc,rD,hDc,rs⟩ (fun a ea=>by cases ea;exact g1.freeB hD) q2⟩
theorem fQ(i:Nat){b:Bool}(hN:X.N.Nodup)(N':List Str)(fr:List (Option Nat))(hu:X.A.units+64<LM)(hc:X.calm=true)(hi:GG X rl tg iter fi)
 (hg:∀y,GJ (FZ X N' scope y) rl tg g)(ht:∀y,qY (FZ X N' scope y) rl ifs ft)(hk:∀y,PV (FZ X N' scope y) rl kx fk)(he:∀y,PV (FZ X N' scope y) rl vx fe)
 (hsw:autoParam (Ju (.DictComp kx vx [⟨tg,iter,ifs,0⟩] scope pos) (some (.Name x px)) spos.line X.env=pure b) æa._auto_1)
 (hix:autoParam (X.N[i]?=some x) æa._auto_1)(hx:autoParam (Loc X.env.scope x) æe._auto_1)(hf:autoParam (X.fn x=true\/X.env.scope.names.lookup x=some .local) æf._auto_1)
 (hfr:autoParam (nF fr N' X.N scope X.env.scope=true) æa._auto_1)(hsc:autoParam (nM scope X.env.scope=true) æa._auto_1)
 (hs:autoParam (∀x,Ig iter X.env x=pure x) æc._auto_1):GD X rl (.Assign [.Name x px] (.DictComp kx vx [⟨tg,iter,ifs,0⟩] scope pos) spos) (Ap i (kF fi fr g ft fk fe)):=by
 obtain⟨wi,p0,k0⟩:=hi;refine⟨_,jL N' fr hu hc p0 hfr hsc (fun y=>(Hm (hg y)).1) (fun y=>(Hm (ht y)).1) (fun y=>(Hm (hk y)).1) (fun y=>(Hm (he y)).1) hN hix hx hf hsw hs,fun R Dv D ok q=>sX fr hu k0 hg ht hk he R _ _ q fun v w F1 H1 g1 r1 n1 ⟨hp,q1⟩=>?_⟩;exact ok.nx _ _ _ _ g1.fs (R.set g1 r1 n1 (fun xs z=>by subst z;cases hp) i) q1
end
theorem cV(fi:En->(List Hi->Prop)->Prop)(fr:List (Option Nat))(g:Gn)(ft:TB)(fk fe:TV)(ρ:En):kF fi fr g ft fk fe ρ=FY (fi ρ) fun xs=>FY (dm (nN (eO fr ρ) g ft fk fe) xs []) fun kvs=>ret (.xm kvs):=by
 refine ag fun Q=>?_;show(fi ρ fun xs=>tM (eO fr ρ) g ft fk fe xs [] fun ds=>Q (.xm ds))↔_;simp only[mP];exact K7
end L2.VL
namespace L2
section
variable{P:HV}{w:IF}{A:IM}{E:Hq->Ht->Prop}{s:Ht}
end
noncomputable def GX(a:Addr)(u:List (List Int×Addr×Hq)×Obj):It :=
 ⟨fun i H=>i<u.1.length/\H a=some (.ext (VL.DAtO a u)),fun i H x H'=>H'=H/\∃p,u.1[i]?=some p/\x = .ref p.2.1,fun i H=>u.1.length<=i/\H a=some (.ext (VL.DAtO a u))⟩
theorem jj{P:HV}{w:IF}{es:Array Ly}{ep:Nat}(p:VL.DAtO a u h)(hep:u.2.data = .dict es ep):zQ h a es ep/\es.size=u.1.length/\(∀i:Nat,(es[i]?).map (·.key)=(u.1[i]?).map fun u=>Jd u.2.1)/\(a==JK)=false:=by
 obtain⟨⟨o,es',ep',h1,h2,h3,h4,h5,h6,h7⟩,g⟩:=p;rw[g]at h1;cases h1;rw[hep]at h3;cases h3;have e:=h4 P w;refine⟨⟨_,g,h2,hep⟩,by rw[<- J_,e,Hs],fun i=>?_,h6⟩;rw[<- Array.getElem?_toList,e,Ja,Option.map_map];rfl
theorem m_{K:W.Frag}(a it:Addr){es:Array Ly}{ep:Nat}(hep:u.2.data = .dict es ep) :
 Turn P w K tg (GX a u) [it] it (fun i h=>h.IsKeyIter it a i u.1.length ep) where
 mem:=by simp
 obj:=fun i h st b hb=>by
  have e:b=it:=by simpa using hb
  subst e;obtain⟨o,e,c,d⟩:=st;exact⟨o,e,fun v z=>by rw[d]at z;cases z⟩
 keep:=fun i h h' st k=>by
  obtain⟨o,e,r⟩:=st;exact⟨o,k it (by simp) o e,r⟩
 item:=by
  intro X hP hw hK hc i pins s σ H E I hf st hg;subst hP hw hK;obtain⟨hi,ha⟩:=hg;obtain⟨dd,hs,hk,lo⟩:=jj (P:=X.prog) (w:=X.w) (gQ I ha) hep;have eu:u.1[i]?=some u.1[i]:=by simp[hi]
  obtain⟨f0,f1,f2,f3,f4,f5⟩:=hf it (by simp);have ex:(es[i]?).map (·.key)=some (Jd (u.1[i]).2.1):=by rw[hk,eu];rfl
  rw[<- hs]at st;refine oW st dd ex fun h' st' sb=>?_;have I1:Inv X pins σ H {s with heap:=h' }:=I.turned (t':=s.toks) (fun b o hb e=>(sb.2 b hb).trans e) f0 f1 f3 f4 f5;obtain⟨oi,e,c,d⟩:=id st';rw[hs]at st';exact⟨_,rfl,sN (s:={s with heap:=h' }) e c d (by decide) ⟨V.ref (u.1[i]).2.1,H,I1,rfl,⟨rfl,_,eu,rfl⟩,st',fun b hb=>(hf b hb).1⟩⟩
 done:=by
  intro X hP hw hK hc i pins s σ H E I hf st hg;subst hP hw hK;obtain⟨hi,ha⟩:=hg;obtain⟨dd,hs,hk,lo⟩:=jj (P:=X.prog) (w:=X.w) (gQ I ha) hep;obtain⟨f0,f1,f2,f3,f4,f5⟩:=hf it (by simp);rw[<- hs]at st;refine rM (I.ok.hd hc) st dd (by omega) fun h' sb=>⟨rfl,?_⟩;exact I.turned (t':=s.toks) (fun b o hb e=>sb b o hb e) f0 f1 f3 f4 f5
 self:=fun A i s Q E st h=>by
  refine wpAny_pyIter_slot st.typeIs F.slot_dict_keyiterator_iter (Ji F.slot_dict_keyiterator_iter st.typeIs F.entry_dict_keyiterator_iter ?_ (F.args_dict_keyiterator_iter_1 _));show HP _ _ (ret (.ref it)) _ _ s;exact Hn ⟨_,rfl, "dict_keyiterator", _,st.typeIs,F.slot_dict_keyiterator_next.lookup,h⟩
section
variable{X:Cx}{e:Expr}{tg:Expr}{te:TE}
noncomputable def ww(t:TE):TI:=fun σ H R=>t σ H fun v H1=>∃a u,v = .ref a/\H1 a=some (.ext (VL.DAtO a u))/\R (GX a u) H1
theorem rV(he:PE X e te):PI X tg e (ww te):=by
 intro pins s σ H R I h;refine EH (he pins s σ H _ I h) fun v s1 ⟨x,H1,I1,r1,q1⟩=>?_;obtain⟨a,u,ev,ha,q⟩:=q1;subst ev;cases r1;have pr:=gQ I1 ha;obtain⟨⟨o,es,ep,h1,h2,h3,_⟩,g⟩:=id pr;rw[g]at h1;cases h1;obtain⟨dd,hs,hk,lo⟩:=jj (P:=X.prog) (w:=X.w) pr h3;refine oV lo dd ?_;refine⟨s1.heap.objs.size,[s1.heap.objs.size],_,_,H1,rfl,I1.kept (t':=s1.toks) fun b o e=>Hu _ e,m_ a _ h3,⟨_,HK _ rfl,rfl,by rw[hs];rfl⟩,fun b hb=>?_,q⟩;have e:b=s1.heap.objs.size:=by simpa using hb
 subst e;exact I1.fpOk (Hw _) (I1.hok.fresh (Hw _))
end
end L2
namespace L2.VL
section
variable{X:Cx}{rl:RlT}{a e:Expr}{es:List Expr}{fa:TV}{fs:Gi}{pos p:Pos}{ρ:En}
noncomputable def p5(fa:TV):En->(List Hi->Prop)->Prop:=fun ρ Q=>fa ρ fun w=>∃kvs,w = .xr kvs/\Q (kvs.map fun p=>kI p.1)
theorem yY{K:W.Frag}{us:List (List Int×Addr×Hq)}(r:KX K F us kvs){x:Hi}(h:(kvs.map fun p=>kI p.1)[i]?=some x):∃p,us[i]?=some p/\Rep K F (.ref p.2.1) x:=by
 induction r generalizing i with
 | nil=>simp at h
 | @cons p q ps qs hh t ih =>
   cases i with
   | zero=>simp at h;subst h;exact⟨p,rfl,.tup hh.2.1 (hh.1▸mI)⟩
   | succ j=>obtain⟨p',e1,e2⟩:=ih (i:=j) (by simpa using h);exact⟨p',by simpa using e1,e2⟩
theorem lN(ha:PV X rl a fa):GG X rl tg a (p5 fa):=by
 obtain⟨t,p1,k⟩:=ha;refine⟨_,rV p1,fun R Qd Q q h=>k R _ _ q fun v w F1 H1 g1 r1 n1 ⟨kvs,ew,q1⟩=>?_⟩;subst ew;obtain⟨x,us,rfl,hx,rk⟩:=r1;have hl:us.1.length=kvs.length:=Jt rk;refine⟨x,us,rfl,g1.sub _ _ hx,h _ (kvs.map fun p=>kI p.1) F1 H1 g1 (VIt.of (fun i H y e s=>⟨?_,s _ _ hx⟩) (fun i H hl' s=>⟨by rw[Hs]at hl';omega,s _ _ hx⟩) fun i H v H' y e s z=>?_) q1⟩
 · have:=(HM.mp e).1;rw[Hs]at this;omega
 · obtain⟨e1,pp,e2,e3⟩:=z;obtain⟨p',e4,e5⟩:=yY rk e;rw[e2]at e4;cases e4;subst e3;exact⟨e1,e5⟩
theorem cU:p5 fa ρ=FY (fa ρ) fun w=>aJ (mW w) fun kvs=>ret (kvs.map fun p=>kI p.1):=by
 refine ag fun Q=>?_;simp only[p5,FY,ai,qU,ret]
end
end L2.VL
namespace L2
end L2
namespace L2.VL
section
variable{X:Cx}{rl:RlT}{a e:Expr}{es:List Expr}{fa:TV}{fs:Gi}{pos p:Pos}{ρ:En}
end
end L2.VL
namespace L2
noncomputable def yg(i:Nat)(T:TS):TS:=fun D σ H=>T {D with nx:=fun σ' H'=>∃a us,σ'[i]?=some (some (.ref a))/\H' a=some (.ext (VL.DAt a us))/\∀o,D.nx σ' (Ex H' a (.ext (VL.DAtO a (us,o))))} σ H
theorem rR{st:Stmt}{T:TS}(i:Nat)(h:PS X st T):PS X st (yg i T):=fun pins s σ H D I q=>EH (h pins s σ H _ I q) fun f s' z=>by
 cases f with
 | next =>
   obtain⟨σ',H',I',a,us,e1,e2,k⟩:=z;obtain⟨p,⟨o,ho⟩,_⟩:=(show cZ X.prog X.w H' s'.heap a (.ext (VL.DAt a us))from I'.hok a _ e2)
   exact⟨σ',_,gR (t':=s'.toks) I' (by rw[e2];exact Lh) (Li _ _) ⟨o,ho⟩ (wF ⟨p,ho⟩),k o⟩
 | brk=>exact z
 | cont=>exact z
 | ret u=>exact z
end L2
namespace L2.VL
section
variable{X:Cx}{rl:RlT}{st:Stmt}{t:Gj}{e:Expr}{es:List Expr}{fs:Gi}{pos p px apos cpos:Pos}{ρ:En}
theorem lL(i:Nat)(h:GD X rl st t):GD X rl st (zU t (zW i)):=by
 obtain⟨T,p,k⟩:=h;refine⟨_,rR i p,fun{F₀ H₀ F H σ ρ} R Dv D ok q=>k R {Dv with nx:=zW i Dv} _ ⟨fun F' H' σ' ρ' s' R' z=>?_,ok.rt,ok.bk,ok.ct⟩ q⟩;obtain⟨kvs,e,q'⟩:=z;obtain⟨v,h1,h2,h3⟩:=R'.sl i _ e;obtain⟨a,us,rfl,f,hr,hh,rs⟩:=(show tD X.K rl F' H' v kvs from h2);refine⟨a,us,h1,hh,fun o=>?_⟩;obtain⟨fsm,R2⟩:=R'.frzX (ob:=o) e h1 hh rs;exact ok.nx _ _ _ _ (s'.trans fsm) R2 q'
theorem eF(i:Nat):mS (zW i) ρ=aJ (EX ρ i) fun kvs=>ret (.nx (ρ.set i (some (.xr kvs)))):=by
 refine ag fun Q=>?_;simp only[mS,zW,ai,tV,ret]
noncomputable def u7(K:W.Frag)(td ty tz:TE):TE:=fun σ H Q=>td σ H fun x H1=>∃a u,x = .ref a/\H1 a=some (.ext (DAtO a u))/\fY K H1 u.1/\ty σ H1 fun y H2=>tz σ H2 fun z H3=>∃b k v,H3 a=some (.ext (DAtO a u))/\fY K H3 u.1/\y = .ref b/\Gp K H3 b (k.map V.int)/\(MJ u.1 k=none->v=z)/\(∀p,MJ u.1 k=some p->RelV v p.2)/\Q v H3
theorem pB{o e f:Expr}{td ty tz:TE}(hu:X.A.units+1<LM)(ho:PE X o td)(he:PE X e ty)(hf:PE X f tz)(m:M2 X o "get" apos e f cpos):PE X (.Call (.Attribute o "get" apos) [e,f] [] cpos) (u7 X.K td ty tz):=by
 intro pins s σ H Q I h;refine wpAny_Call_method m.base m.few m.line PySem.F.plainAttrs_dict MV PySem.F.type_dict_get (EH (ho pins s σ H _ I h) fun u s1 ⟨x,H1,I1,rx,a,xs,ex,ea,ks,q1⟩=>?_);subst ex;obtain rfl:u=Jd a:=rx;have dd:=qv I1 ea ks;refine⟨dd.typeIs,fun b q=>(by cases q;obtain⟨ob,_,_,h1,h2,_⟩:=dd;exact⟨ob,h1,h2.2.1⟩),?_⟩;rw[m.trees]
 refine Mx rfl (M8 (KS (EH (he pins s1 σ H1 _ I1 q1) fun iv s2 ⟨y,H2,I2,ry,q2⟩ =>
  KS (EH (hf pins s2 σ H2 _ I2 q2) fun fv s3 ⟨z,H3,I3,rz,b,k,v,ea3,ks3,ey,sq,n1,n2,q3⟩=>L7 ?_))))
 subst ey;cases(show iv=Jd b from ry);have dd3:=qv I3 ea3 ks3;have hd3:(a==JK)=false:=by obtain⟨⟨o,es,ep,h1,h2,h3,h4,h5,h6,h7⟩,_⟩:=gQ I3 ea3;exact h6
 refine call_meetsIn MV dd3.typeIs PySem.F.entry_dict_get (PySem.F.args_dict_get_3 _ _ _) (meetsH_dict_get_default (J4 (Lz X.prog X.w)) a b hd3 fv) ⟨K3 hu,k,xs.1,jR I3 sq,dd3,⟨v,H3,I3.tok _,?_,q3⟩⟩
 cases hk:MJ xs.1 k with
 | none=>rw[n1 hk];exact rz
 | some p=>exact n2 p hk
noncomputable def kE(i:Nat)(fk fx:TV):TV:=fun ρ Q=>∃kvs,ρ[i]?=some (some (.xr kvs))/\fk ρ fun wk=>fx ρ fun wx=>∃(g:List Int)(x:Hi),kf wk=some g/\wx = .d x/\Q (.d ((nL kvs g).getD x))
theorem rh(i:Nat){f:Expr}{fk fx:TV}(hu:X.A.units+64<LM)(hk:PV X rl e fk)(hx:PV X rl f fx)(hN:autoParam (X.N[i]?=some x) æa._auto_1)(hv:autoParam (Gf X.env.scope x) æd._auto_1)
 (hd:autoParam ((x==("__debug__" : Str))=false) æb._auto_1)(hcd:autoParam ((x==("__classdict__" : Str))=false) æb._auto_1)(m:M2 X (.Name x px) "get" apos e f cpos:=by exact⟨rfl,rfl,rfl,rfl⟩) :
 PV X rl (.Call (.Attribute (.Name x px) "get" apos) [e,f] [] cpos) (kE i fk fx):=by
 obtain⟨t,p1,k1⟩:=hk;obtain⟨t2,p2,k2⟩:=hx;refine⟨_,pB (by omega) (dR hN hv hd hcd) p1 p2 m,fun{F₀ H₀ F H σ ρ} R Qd Q ⟨kvs,e1,q⟩ h=>?_⟩;obtain⟨v,h1,h2,h3⟩:=R.sl i _ e1;obtain⟨a,xs,rfl,hh,rs⟩:=(show ∃a us,v = .ref a/\F a=some (.ext (DAtO a us))/\KX X.K F us.1 kvs from h2);refine⟨.ref a,h1,a,xs,rfl,R.sub _ _ hh,fun x m=>c_ R.sub (rs.keys x m),k1 R _ _ q fun v1 w1 F1 H1 g1 r1 n1 q1=>?_⟩;refine k2 (R.grow g1) _ _ q1 fun v2 w2 F2 H2 g2 r2 n2 q2=>?_;obtain⟨gs,d,e2,rfl,q2⟩:=q2;obtain⟨b,rfl,sq⟩:=(dB.grow g2 r1).keyI g2.sub e2;have g:=g1.trans g2;have rs2:=rs.mono g.fs;have e3:=g.sub _ _ (g.fs _ _ hh);rcases rs2.at gs with⟨z1,z2⟩|⟨p,v3,d3,z1,z2,z3,z4⟩
 · rw[z2]at q2;exact⟨b,gs,v2,e3,fun x m=>c_ g2.sub (rs2.keys x m),rfl,sq,fun _=>rfl,(fun p e=>by rw[z1]at e;cases e),h _ (.d d) _ _ g r2 trivial q2⟩
 · rw[z2]at q2;exact⟨b,gs,v3,e3,fun x m=>c_ g2.sub (rs2.keys x m),rfl,sq,(fun e=>by rw[z1]at e;cases e),(fun p' e=>by rw[z1]at e;cases e;exact z3),h _ (.d d3) _ _ g z4 trivial q2⟩
theorem cw(i:Nat){fk fx:TV}:kE i fk fx ρ=aJ (lW ρ i) fun kvs=>FY (fk ρ) fun wk=>FY (fx ρ) fun wx=>aJ (kf wk) fun g=>aJ (asD wx) fun x=>ret (.d ((nL kvs g).getD x)):=by
 refine ag fun Q=>?_;simp only[kE,ai,oK,FY,ret,iD];refine exists_congr fun kvs=>and_congr_right fun _=>?_;constructor
 · intro h;refine cast ?_ h;congr 1;funext x;congr 1;funext y;exact propext ⟨fun⟨a,b,c,d,e⟩=>⟨a,c,b,d,e⟩,fun⟨a,c,b,d,e⟩=>⟨a,b,c,d,e⟩⟩
 · intro h;refine cast ?_ h;congr 1;funext x;congr 1;funext y;exact propext ⟨fun⟨a,c,b,d,e⟩=>⟨a,b,c,d,e⟩,fun⟨a,b,c,d,e⟩=>⟨a,c,b,d,e⟩⟩
end
abbrev G3:=List (List Int×Hi)
noncomputable def Dj(K:W.Frag)(rl:RlT)(P:List W->(G3->Prop)->Prop):Sp:=fun vs H Q _=>∃F ws,bU F H/\Gx rl F H/\fF K rl F H vs ws/\ws.all dZ=true/\P ws fun z=>∀v F' H',Grow rl F H F' H'->dB K rl F' H' v (.xr z)->Q v H'
noncomputable def uC(Q:G3->Prop):VEnds:=⟨fun _=>False,fun w=>∃z:G3,w = .xr z/\Q z,fun _=>False,fun _=>False⟩
structure DfnX (P:HV) (w:IF) (K:W.Frag) (mg:Str->Option Hq) (base:Heap) (rl:RlT) (x:Str) (ps:List Str) (k:Nat) (Pd:List W->(G3->Prop)->Prop):Prop where
 mono:∀ws Q Q',(∀d,Q d->Q' d)->Pd ws Q->Pd ws Q'
 ex:∃f fd,mg x=some (.ref f)/\W.keepIn K (.ref f)=true/\Binds K fd ps []/\FnOk P w K mg base G6 k f fd ps (Dj K rl Pd)
section
variable{P:HV}{w:IF}{K:W.Frag}{mg:Str->Option Hq}{base:Heap}{rl:RlT}{x:Str}{st:Stmt}{N ps:List Str}{k:Nat}{Pd:List W->(G3->Prop)->Prop}{t:Gj}
theorem DfnX.of(Fn:FnIn K mg x st ps)(S:FnScope N ps (defScope st))(mono:∀ws Q Q',(∀d,Q d->Q' d)->Pd ws Q->Pd ws Q')(len:∀ws Q,Pd ws Q->ws.length=ps.length)
 (hbody:∀{f:Addr}(cdv:Hq)(A:IM)(outer:List Env)(s:Ht)(H:Hp)(E:XK),Room k (A.deeper (L8 x (defScope st) s.heap.objs.size f cdv)) ->
  mY (nP G6 P w K mg base N x (defScope st) f cdv A outer s H E).nox rl (defBody st) t)
 (hread:∀ws Q,Pd ws Q->t (uC Q) (dL N ws)):DfnX P w K mg base rl x ps (k+1) Pd:=by
 obtain⟨f,fd,hm,F,hb⟩:=Fn.ex;refine⟨mono,f,fd,hm,F.kp,hb,?_⟩;refine F.ok S (fun vs H Q E ⟨F,ws,_,_,r,_,q⟩=>(Jt r).trans (len ws _ q)) fun cdv A outer s H vs Q E hr h=>?_;obtain⟨F,ws,sm,ra,r,ok,q⟩:=h;obtain⟨T,p,kk⟩:=hbody cdv A outer s H E hr;refine⟨T,p,kk (eP sm ra r ok) (uC _) _ ⟨fun _ _ _ _ _ _ z=>Jk z,?_,fun _ _ _ _ _ _ z=>Jk z,fun _ _ _ _ _ _ z=>Jk z⟩ (hread ws _ q)⟩;rintro v w1 F1 H1 g1 r1 n1 ⟨z,rfl,q1⟩;exact q1 v F1 H1 g1 r1
noncomputable def Da(Q:G3->Prop):Fl->Prop
 | .rt w=>∃z:G3,w = .xr z/\Q z
 | _=>False
theorem rL{Q:G3->Prop}(h:mS t ρ (Da Q)):t (uC Q) ρ:=h
theorem vg{Q:G3->Prop}{kvs:G3}(h:Q kvs):ret (Fl.rt (.xr kvs)) (Da Q):=⟨kvs,rfl,h⟩
end
section
variable{X:Cx}{rl:RlT}{e:Expr}{es:List Expr}{fs:Gi}{pos p:Pos}{ρ:En}
noncomputable def xG(Pd:List W->(G3->Prop)->Prop)(fs:Gi):TV:=fun ρ Q=>fs ρ fun ws=>ws.all dZ=true/\Pd ws fun z=>Q (.xr z)
theorem uP{ps:List Str}{k:Nat}{Pd:List W->(G3->Prop)->Prop}(D:DfnX X.prog X.w X.K X.mg X.base rl x ps k Pd)(hr:Room k X.A)(ha:Gz X rl (e::es) fs)(hg:autoParam (Gl X x) æa._auto_1)
 (hdb:autoParam ((x==("__debug__" : Str))=false) æb._auto_1)(he:autoParam (HA (e::es) X.env=(false,eval e X.env)::HA es X.env) æa._auto_1)(hpl:autoParam ((Jl pos (HA es X.env)).any (·.1)=false) æa._auto_1) :
 PV X rl (.Call (.Name x p) (e::es) [] pos) (xG Pd fs):=by
 obtain⟨f,fd,hm,hk,hb,F⟩:=D.ex;obtain⟨t,p1,kk⟩:=ha;refine⟨_,gE F hr hg hm hk hb .nil pE p1 hdb he hpl,fun R Qd Q q h=>kk R _ _ q fun vs ws F1 H1 g1 r1 ⟨ok,q1⟩=>?_⟩;refine⟨F1,ws,g1.sub,g1.reel,by rw[Jx];exact r1,ok,?_⟩;exact D.mono ws _ _ (fun z qd v F2 H2 g2 r2=>h v (.xr z) F2 H2 (g1.trans g2) r2 trivial qd) q1
theorem dr(Pd:List W->(G3->Prop)->Prop):xG Pd fs ρ=FY (fs ρ) fun ws=>FO (ws.all dZ=true) (FY (Pd ws) fun z=>ret (.xr z)):=nr rfl
end
section
variable{X:Cx}{rl:RlT}{ei e:Expr}{fx fv:TV}{pos p1 pos':Pos}{ρ:En}
end
section
variable{X:Cx}{al:Option Addr}{c1 c2:Nat}{ei e:Expr}{fx fv:TV}{pos p1 pos':Pos}{ρ:En}
end
section
variable{X:Cx}{al:Option Addr}{c:Nat}{a:Expr}{lo hi:Option Expr}{fa:TV}{fl fh:Gk}{pos p2:Pos}{tg:Expr}
theorem zC{X:Cx}{al:Option Addr}{c:Nat}{a tg:Expr}{fa:TV}(hl:CV X al c a fa):CI X al c tg a (iT fa):=by
 obtain⟨t,p,k⟩:=hl;refine⟨_,uc p,fun R Qd Q q h=>k R _ _ q fun v w F1 H1 g1 r1 n1 ⟨xs,ew,q1⟩=>?_⟩;obtain⟨F2,g2,s2,r2⟩:=dB.fz g1 r1 n1;rw[ew]at r2
 cases(show Rep X.K F2 v (.tuple xs)from r2)with
 | @tup a vs _ sq rs =>
   have sqH:∀H,bU F2 H->Gp X.K H a vs:=fun H s=>c_ s sq;refine⟨a,rfl,⟨vs,sqH H1 g2.sub⟩,h _ xs F2 H1 g2 (fun _=>.of (fun i H x e s=>?_) (fun i H hl s=>⟨vs,sqH H s,by rw[rs.length];exact hl⟩) (fun i H v H' x e s y=>?_)) q1⟩
   · obtain⟨v,ev,_⟩:=rs.get e;exact⟨vs,v,sqH H s,ev⟩
   · obtain⟨e',hy⟩:=y;obtain⟨v',ev,rv⟩:=rs.get e;have:=hy vs (sqH H s);rw[ev]at this;cases this;exact⟨e',rv⟩
end
end L2.VL
namespace K88
open PySem PySem.Spec PyProof.Rows L2 L2.VL
set_option bootstrap.genMatcherCode true in
local macro_rules | `(tactic| simp_arith only [$xs,*])=>`(tactic| simp (maxSteps:=2000000) (disch:=(first | assumption | omega | decide)) only [BP,BS,BW,BV,BU,BH,BG,BK,BJ,BI,BR,BQ,BO,BN,BL,Aj,EZ,EY,dM,dL,eO,W.cap,Fv,List.replicate,id,↓reduceIte,if_true,Nat.reduceAdd,Nat.reduceSub,Nat.reduceLeDiff,Int.cast_ofNat_Int,Int.reduceBEq,Int.reduceSub,Int.reduceAdd,Int.reduceLT,Int.reduceLE,Int.reduceMul,Int.reduceNeg,reduceCtorEq,jT,$xs,*])
set_option bootstrap.genMatcherCode true in
local macro_rules | `(tactic| simp_arith only [$xs,*] at $h:ident)=>`(tactic| simp only [List.cons.injEq,W.d.injEq,PyData.int.injEq,PyData.bool.injEq,PyData.str.injEq,PyData.list.injEq,PyData.tuple.injEq,lS,mB,rA,eL,and_true,true_and,reduceCtorEq,$xs,*] at $h:ident)
section
variable{P:HV}{w:IF}{K:JS}{mg:Str->Option Hq}{base:Heap}{rl:RlT}{al:Option Addr}
noncomputable def zZ(ws:List W):Prop:=∃ns:List Int,ws=[.sc ns]/\ns.length<=63
theorem DT(xs:List α)(f:α->Hi)(k:Nat):VL.cutD (xs.map f) none (some (k:Int))=(xs.take k).map f:=by
 unfold VL.cutD;rw[HT.sIx_none,HT.sIx_nat,List.drop_zero,Hs,NU,<- List.map_take];congr 1;by_cases z:k<=xs.length
 · rw[MW z]
 · rw[Mu (by omega),HF (by omega),HF (by omega)]
theorem jE:FnScope ["_law_script"] ["_law_script"] (defScope (EE 40)):=⟨rfl,rfl,rfl,by decide +kernel,rfl,by decide +kernel,by decide +kernel⟩
theorem d__law_feed(Fn:FnIn K mg "_law_feed" (EE 40) ["_law_script"])(Z:Bz mg):DfnR P w K mg base "_law_feed" ["_law_script"] 2 zZ:=by
 have sc:=jE;obtain⟨f,fd,hm,F,hb⟩:=Fn.ex;refine⟨f,fd,hm,F.kp,hb,?_⟩;refine F.ok (k:=1) sc (fun vs H Q E h=>?_) (fun cdv A outer s H vs Q E hr h=>?_)
 · obtain⟨F,ws,_,r,_,⟨ns,rfl,_⟩,_⟩:=h;have:=Jt r;simpa using this
 · obtain⟨F,ws,sm,r,ao,⟨ns,rfl,hn⟩,fin⟩:=h;obtain⟨T,p,kk⟩:=qm (X:=(nP G6 P w K mg base ["_law_script"] "_law_feed" (defScope (EE 40)) f cdv A outer s H E).nox) (rj Z.list_ (aa (xz (vn 0) kz (kr af)) ab));refine⟨T,p,kk (eP sm (fun _ z=>by cases z) r ao) _ ?_ fin⟩;simp_arith only[ae];exact⟨ns.take 63,by rw[show(63:Int)=((63:Nat):Int)from rfl,DT],by rw[Iz];omega⟩
noncomputable def a_:List W->(Hi->Prop)->Prop:=fun ws Q=>∃(m:Int),ws=[.reel,.d (.int m)]/\((0<m)/\(m<2^60))/\∀k:Int,(0<=k/\k<m)->Q (.int k)
theorem a_.mono:∀ws (Q Q':Hi->Prop),(∀d,Q d->Q' d)->a_ ws Q->a_ ws Q':=fun _ _ _ h_=>HC fun _=>Ho (Ho fun q_ o_ ho_=>h_ _ (q_ o_ ho_))
theorem a_.len:∀ws (Q:Hi->Prop),a_ ws Q->ws.length=2:=fun _ _ h_=>by obtain⟨_,e_,_⟩:=h_;subst e_;rfl
theorem a_.eq(m:Int)(hm:0<m)(hb:m<2^60):a_ [.reel,.d (.int m)]=FY (anyM fun k:Int=>0<=k/\k<m) fun k=>VL.ret (.int k:Hi):=by
 refine ag fun Q=>⟨?_,fun q_=>⟨m,rfl,⟨hm,hb⟩,q_⟩⟩;rintro⟨m',e_,_,q_⟩;simp_arith only[and_true]at e_;obtain rfl:=e_;exact q_
theorem jF:FnScope ["_law_feed_here", "_law_many", "_law_found", "_law_at", "_law_cells", "_law_cell", "_law_number_here"] ["_law_feed_here", "_law_many"] (defScope (EE 41)):=⟨rfl,rfl,rfl,by decide +kernel,rfl,by decide +kernel,by decide +kernel⟩
theorem d__law_draw(Fn:FnIn K mg "_law_draw" (EE 41) ["_law_feed_here", "_law_many"])(Z:Bz mg)    : DfnC P w K mg base al 1 "_law_draw" ["_law_feed_here", "_law_many"] 1 a_:=by
 have sc:=jF
 refine DfnC.of Fn sc (a_.mono) (a_.len) (fun cdv A outer s H E hr=>(aD (cs fun _=>(eI (cC yN xl (bH _) (oa (i:=0) (hr.mono (II _))) af) (au (ay 2 sc.nd (v_mod (oa (i:=0) (hr.mono (II _))) (vn 1)))
  (au (nY (i:=0) (hr.mono (II _)) (v_div (oa (i:=0) (hr.mono (II _))) (vn 1)))
  (ax (aH (vn 2))))) c7))
  (wH 3 0 (hr.mono (II _)) sc.nd (by decide) (aD (cs fun _=>(ay 4 sc.nd (ri (i:=0) (hr.mono (II _)))))
  (aD (cs fun _=>(ay 5 sc.nd (uO (cC (ip hr.units) df (bH _) (vn 4) (dP ab)) (br (vn 4) (v_mod (vn 3) (dg Z.len_ (aa (vn 4) ab)))) (v_mul (vn 3) (vn 3)))))
  (aD (cs fun _=>(eI (GK.pb (xy (cC A5 Al (bH _) (vn 5) (v_pow af af)) (uL (cC pG n6 (bH _) (vn 3) (dg Z.len_ (aa (vn 4) ab)))))) (au (nY (i:=0) (hr.mono (II _)) (v_div (vn 5) (vn 1)))
  (ax (aH (v_mod (vn 5) (vn 1))))) c7))
  (aD (cs fun _=>(ay 6 sc.nd (v_mod (v_mul (v_add (v_mod (vn 5) af) af) (v_add af (v_mul af (vn 3)))) af)))
  (cN (cs fun _=>(aH (v_mod (v_div (v_mod (v_add (v_mul (vn 6) af) (v_mul (v_mul (vn 3) (vn 3)) af)) af) af) (vn 1)))))))))))) (by decide) ?_
 rintro ws Q ⟨m,rfl,⟨hm,hb⟩,hQ⟩;have hm0:m≠0:=by omega
 have hmd:∀i:Int,eC i m:=fun i=>eC.of hm0 (by omega);have fm:∀i:Int,0<=i.fmod m/\i.fmod m<m:=fun i=>⟨JD _ hm,Kn _ hm⟩;refine aE ?_;simp_arith only[ah,ae,aO,aP,aA,aC,aQ,aB,aq,ac]
 (with_reducible (first|refine aL fun l hl=>?_|refine aY fun l hl=>?_))
 try rw[sq_ite]
 refine dG (fun _=>?_) fun _=>?_
 · simp_arith only[ah,ae,aO,aP,aA,aC,aQ,aB,aq,ac]
   (with_reducible (first|refine aL fun l2 hl2=>?_|refine aY fun l2 hl2=>?_))
   try simp_arith only[ah,ae,aO,aP,aA,aC,aQ,aB,aq,ac]
   (with_reducible (first|refine aL fun l3 hl3=>?_|refine aY fun l3 hl3=>?_))
   have h0:=MX hl3 (show 0<=m by omega)
   try simp_arith only[ah,ae,aO,aP,aA,aC,aQ,aB,aq,ac]
   exact cW (hmd _) (aF (hQ _ (fm _)))
 · simp_arith only[ah,ae,aO,aP,aA,aC,aQ,aB,aq,ac];refine aL fun n hn=>?_
   have h59:n.natAbs<2^59990:=by
    have h1:=hn.2;rw[<- M9 hn.1]at h1
    exact_mod_cast h1
   have bn:Hb n:=Hy h59 (HJ (by decide) (by decide));have c2:bj n n:=.bb bn bn;have c3:bj 7919 n:=.lt (by decide);have c4:∀z:Int,bj z 69621:=fun z=>.rt (by decide);have c5:∀z:Int,bj z 40692:=fun z=>.rt (by decide);have d5:∀z:Int,eC z 5:=fun z=>eC.of (by decide) (by decide)
   have cq:∀z y:Int,bj (z.fmod 2147483629+1) y:=fun z y=>.lt (by
    have h1:=JD z (show(0:Int)<2147483629 by decide);have h2:=Kn z (show(0:Int)<2147483629 by decide)
    omega)
   (with_reducible (first|refine aL fun ns hl=>?_|refine aY fun ns hl=>?_))
   try simp_arith only[ah,ae,aO,aP,aA,aC,aQ,aB,aq,ac,Hs]
   refine cW (shaped_ints ns) (dG (fun he=>?_) fun he=>?_)
   · have hz:(0:Int)<(ns.length:Int):=by
       cases ns with
       | nil=>exact absurd he (by decide)
       | cons a l=>simp only[Il];omega
     obtain⟨z,ez,_⟩:=zK (xs:=ns) (JD n hz) (Kn n hz);have ea:atI (ns.map Iv) (n.fmod (ns.length:Int))=some (.int z):=by rw[L2.VL.atI_map,ez];rfl
     refine cW (by omega) ?_;simp_arith only[ah,ae,aO,aP,aA,aC,aQ,aB,aq,ac,ea,Hs,cq,c3,c4,c5,c2,d5];refine cW (show Ah 10 18 from⟨by decide,by decide,by decide⟩) (dG (fun h=>?_) fun _=>aF (hQ _ (fm _)));rw[Ki]at h;have z0:0<=z:=NV (by decide) (of_decide_eq_true h.1);exact cW (hmd _) (cW (MX z0 (by omega)) (aF (hQ _ (fm _))))
   · simp_arith only[ah,ae,aO,aP,aA,aC,aQ,aB,aq,ac,Hs,cq,c3,c4,c5,c2,d5];refine cW (show Ah 10 18 from⟨by decide,by decide,by decide⟩) (dG (fun h=>?_) fun _=>aF (hQ _ (fm _)));rw[Ki]at h;have z0:0<=n*n:=NV (by decide) (of_decide_eq_true h.1);exact cW (hmd _) (cW (MX z0 (by omega)) (aF (hQ _ (fm _))))
noncomputable def aT:List W->(Hi->Prop)->Prop:=fun ws Q=>∃(i j:Int),ws=[.d (.int i),.d (.int j)]/\(True)/\Q (.int (IC i j:Nat))
theorem aT.mono:∀ws (Q Q':Hi->Prop),(∀d,Q d->Q' d)->aT ws Q->aT ws Q':=fun _ _ _ h_=>HC fun _=>HC fun _=>Ho (Ho (h_ _))
theorem aT.len:∀ws (Q:Hi->Prop),aT ws Q->ws.length=2:=fun _ _ h_=>by obtain⟨_,_,e_,_⟩:=h_;subst e_;rfl
theorem aT.eq(i j:Int)  : aT [.d (.int i),.d (.int j)]=VL.ret (.int (IC i j:Nat):Hi):=by
 refine ag fun Q=>⟨?_,fun q_=>⟨i,j,rfl,trivial,q_⟩⟩;rintro⟨i',j',e_,_,q_⟩;simp_arith only[and_true]at e_;obtain⟨rfl,rfl⟩:=e_;exact q_
theorem fJ:FnScope ["one", "other"] ["one", "other"] (defScope (EE 6)):=⟨rfl,rfl,rfl,by decide +kernel,rfl,by decide +kernel,by decide +kernel⟩
theorem d_common_divisor(Fn:FnIn K mg "common_divisor" (EE 6) ["one", "other"])(Z:Bz mg)    : Dfn P w K mg base rl "common_divisor" ["one", "other"] 1 aT:=by
 have sc:=fJ
 refine Dfn.of Fn sc (aT.mono) (aT.len) (fun cdv A outer s H E hr=>(au (jq [] Ih (cC (ip hr.units) df (bH _) (vn 1) af) (ax (tF 0 1 rfl sc.nd (aa (vn 1) (aa (v_mod (vn 0) (vn 1)) ab)))))
  (ax (aH (rm Z.abs_ (aa (vn 0) ab)))))) ?_
 rintro ws Q ⟨i,j,rfl,_,hQ⟩;refine aE ?_;simp_arith only[ae];refine lJ (σ:=Int×Int) (fun s=>[some (.d (.int s.1)),some (.d (.int s.2))]) (fun s=>!(s.2==0)) (fun s=>(s.2,s.1.fmod s.2)) (fun s=>s.2.natAbs) (fun s=>IC s.1 s.2=IC i j) (i,j) rfl rfl ?_ ?_ ?_
 · intro s _;simp_arith only[ae]
 · intro s e c;have hc:s.2≠0:=by simpa using c
   refine⟨by rw[mK];exact e,gP hc,_,?_,rfl⟩;simp_arith only[ah,ae]
 · intro s e c;have hc:s.2=0:=by simpa using c
   simp_arith only[ae];rw[hc,Int.gcd_zero_right]at e;refine aF ?_;have:(if s.1<0 then -s.1 else s.1)=((IC i j:Nat):Int):=by rw[<- e];split<;>omega
   rw[this];exact hQ
noncomputable def bG:List W->(Hi->Prop)->Prop:=fun ws Q=>∃(a b:Int),ws=[.d (.int a),.d (.int b)]/\((b≠0)/\(b.natAbs<2^8000))/\Q (fr (qd a b))
theorem bG.mono:∀ws (Q Q':Hi->Prop),(∀d,Q d->Q' d)->bG ws Q->bG ws Q':=fun _ _ _ h_=>HC fun _=>HC fun _=>Ho (Ho (h_ _))
theorem bG.len:∀ws (Q:Hi->Prop),bG ws Q->ws.length=2:=fun _ _ h_=>by obtain⟨_,_,e_,_⟩:=h_;subst e_;rfl
theorem bG.eq(a b:Int)(hb:b≠0)(hz:b.natAbs<2^8000):bG [.d (.int a),.d (.int b)]=VL.ret (fr (qd a b):Hi):=by
 refine ag fun Q=>⟨?_,fun q_=>⟨a,b,rfl,⟨hb,hz⟩,q_⟩⟩;rintro⟨a',b',e_,_,q_⟩;simp_arith only[di,bE,bC,aS,aM,bI]at e_;obtain⟨rfl,rfl⟩:=e_;exact q_
theorem kS:FnScope ["top", "bottom", "divisor"] ["top", "bottom"] (defScope (EE 7)):=⟨rfl,rfl,rfl,by decide +kernel,rfl,by decide +kernel,by decide +kernel⟩
theorem d_fraction(Fn:FnIn K mg "fraction" (EE 7) ["top", "bottom"])(Z:Bz mg)(d_common_divisor:∀rl,Dfn P w K mg base rl "common_divisor" ["one", "other"] 1 aT)   : Dfn P w K mg base rl "fraction" ["top", "bottom"] 2 bG:=by
 have sc:=kS
 refine Dfn.of Fn sc (bG.mono) (bG.len) (fun cdv A outer s H E hr=>(au (eI (cC (eZ hr.units) df (bH _) (vn 1) af) (ax lK) c7)
  (au (ay 2 sc.nd (av (d_common_divisor _) (hr.mono (by decide)) (aa (vn 0) (aa (vn 1) ab))))
  (au (eI (cC pG n6 (bH _) (vn 1) af) (ax (ay 2 sc.nd (xD (vn 2)))) c7)
  (ax (aH (bD (aa (v_div (vn 0) (vn 2)) (aa (v_div (vn 1) (vn 2)) ab))))))))) ?_
 rintro ws Q ⟨a,b,rfl,⟨hb,hz⟩,hQ⟩;refine aE ?_;have h0:(b==0)=false:=by simp;omega
 have g0:(IC a b:Int)≠0:=by have:=Int.gcd_ne_zero_right (a:=a) hb;omega
 have gz:((IC a b:Int)).natAbs<2^9000:=by
  rw[Jm];have h1:IC a b<=b.natAbs:=Nat.le_of_dvd (by omega) (Mb ..);exact JY h1 (Hy hz (HJ (by decide) (by decide)))
 have c1:eC a (IC a b:Int):=⟨g0,gz⟩;have c2:eC b (IC a b:Int):=⟨g0,gz⟩;have c3:eC a (-(IC a b:Int)):=⟨by omega,by rw[Ll];exact gz⟩;have c4:eC b (-(IC a b:Int)):=⟨by omega,by rw[Ll];exact gz⟩;by_cases hn:b<0
 · have h1:decide (b<0)=true:=by simpa using hn
   simp_arith only[ah,ae,aT.eq,h0,h1];rw[wc hn];exact aF hQ
 · have h1:decide (b<0)=false:=by simpa using hn
   simp_arith only[ah,ae,aT.eq,h0,h1];rw[pL (by omega)];exact aF hQ
noncomputable def gG:List W->(Hi->Prop)->Prop:=fun ws Q=>∃(q r:Rat),ws=[.d (fr q),.d (fr r)]/\((E9 2000 q)/\(E9 2000 r))/\Q (fr (q+r))
theorem gG.mono:∀ws (Q Q':Hi->Prop),(∀d,Q d->Q' d)->gG ws Q->gG ws Q':=fun _ _ _ h_=>HC fun _=>HC fun _=>Ho (Ho (h_ _))
theorem gG.len:∀ws (Q:Hi->Prop),gG ws Q->ws.length=2:=fun _ _ h_=>by obtain⟨_,_,e_,_⟩:=h_;subst e_;rfl
theorem gG.eq(q r:Rat)(h1:E9 2000 q)(h2:E9 2000 r):gG [.d (fr q),.d (fr r)]=VL.ret (fr (q+r):Hi):=by
 refine ag fun Q=>⟨?_,fun q_=>⟨q,r,rfl,⟨h1,h2⟩,q_⟩⟩;rintro⟨q',r',e_,_,q_⟩;simp_arith only[di,bE,bC,aS,aM,bI]at e_;obtain⟨rfl,rfl⟩:=e_;exact q_
theorem va:FnScope ["one", "other"] ["one", "other"] (defScope (EE 8)):=⟨rfl,rfl,rfl,by decide +kernel,rfl,by decide +kernel,by decide +kernel⟩
theorem d_plus(Fn:FnIn K mg "plus" (EE 8) ["one", "other"])(Z:Bz mg)(d_fraction:∀rl,Dfn P w K mg base rl "fraction" ["top", "bottom"] 2 bG)   : Dfn P w K mg base rl "plus" ["one", "other"] 3 gG:=by
 have sc:=va;refine Dfn.of Fn sc (gG.mono) (gG.len) (fun cdv A outer s H E hr=>(ax (aH (av (d_fraction _) (hr.mono (by decide)) (aa (v_add (v_mul (br (vn 0) af) (br (vn 1) af)) (v_mul (br (vn 1) af) (br (vn 0) af))) (aa (v_mul (br (vn 0) af) (br (vn 1) af)) ab)))))) ?_;rintro ws Q ⟨q,r,rfl,⟨h1,h2⟩,hQ⟩;refine aE ?_;have m1:bj q.num r.den:=.bb h1.bn h2.bd;have m2:bj r.num q.den:=.bb h2.bn h1.bd;have m3:bj q.den r.den:=.bb h1.bd h2.bd;have m4:bj q.num r.num:=.bb h1.bn h2.bn;have d1:(q.den:Int)*r.den≠0:=by have:=dX q r;omega
 have d2:=dW h1 h2;simp_arith only[ah,ae,bG.eq,Hg,t6];exact aF hQ
noncomputable def fV:List W->(Hi->Prop)->Prop:=fun ws Q=>∃(q r:Rat),ws=[.d (fr q),.d (fr r)]/\((E9 2000 q)/\(E9 2000 r))/\Q (fr (q-r))
theorem fV.mono:∀ws (Q Q':Hi->Prop),(∀d,Q d->Q' d)->fV ws Q->fV ws Q':=fun _ _ _ h_=>HC fun _=>HC fun _=>Ho (Ho (h_ _))
theorem fV.len:∀ws (Q:Hi->Prop),fV ws Q->ws.length=2:=fun _ _ h_=>by obtain⟨_,_,e_,_⟩:=h_;subst e_;rfl
theorem fV.eq(q r:Rat)(h1:E9 2000 q)(h2:E9 2000 r):fV [.d (fr q),.d (fr r)]=VL.ret (fr (q-r):Hi):=by
 refine ag fun Q=>⟨?_,fun q_=>⟨q,r,rfl,⟨h1,h2⟩,q_⟩⟩;rintro⟨q',r',e_,_,q_⟩;simp_arith only[di,bE,bC,aS,aM,bI]at e_;obtain⟨rfl,rfl⟩:=e_;exact q_
theorem ve:FnScope ["one", "other"] ["one", "other"] (defScope (EE 9)):=⟨rfl,rfl,rfl,by decide +kernel,rfl,by decide +kernel,by decide +kernel⟩
theorem d_less(Fn:FnIn K mg "less" (EE 9) ["one", "other"])(Z:Bz mg)(d_fraction:∀rl,Dfn P w K mg base rl "fraction" ["top", "bottom"] 2 bG)   : Dfn P w K mg base rl "less" ["one", "other"] 3 fV:=by
 have sc:=ve;refine Dfn.of Fn sc (fV.mono) (fV.len) (fun cdv A outer s H E hr=>(ax (aH (av (d_fraction _) (hr.mono (by decide)) (aa (v_sub (v_mul (br (vn 0) af) (br (vn 1) af)) (v_mul (br (vn 1) af) (br (vn 0) af))) (aa (v_mul (br (vn 0) af) (br (vn 1) af)) ab)))))) ?_;rintro ws Q ⟨q,r,rfl,⟨h1,h2⟩,hQ⟩;refine aE ?_;have m1:bj q.num r.den:=.bb h1.bn h2.bd;have m2:bj r.num q.den:=.bb h2.bn h1.bd;have m3:bj q.den r.den:=.bb h1.bd h2.bd;have m4:bj q.num r.num:=.bb h1.bn h2.bn;have d1:(q.den:Int)*r.den≠0:=by have:=dX q r;omega
 have d2:=dW h1 h2;simp_arith only[ah,ae,bG.eq,Hg,yp];exact aF hQ
noncomputable def dS:List W->(Hi->Prop)->Prop:=fun ws Q=>∃(q r:Rat),ws=[.d (fr q),.d (fr r)]/\((E9 2000 q)/\(E9 2000 r))/\Q (fr (q*r))
theorem dS.mono:∀ws (Q Q':Hi->Prop),(∀d,Q d->Q' d)->dS ws Q->dS ws Q':=fun _ _ _ h_=>HC fun _=>HC fun _=>Ho (Ho (h_ _))
theorem dS.len:∀ws (Q:Hi->Prop),dS ws Q->ws.length=2:=fun _ _ h_=>by obtain⟨_,_,e_,_⟩:=h_;subst e_;rfl
theorem dS.eq(q r:Rat)(h1:E9 2000 q)(h2:E9 2000 r):dS [.d (fr q),.d (fr r)]=VL.ret (fr (q*r):Hi):=by
 refine ag fun Q=>⟨?_,fun q_=>⟨q,r,rfl,⟨h1,h2⟩,q_⟩⟩;rintro⟨q',r',e_,_,q_⟩;simp_arith only[di,bE,bC,aS,aM,bI]at e_;obtain⟨rfl,rfl⟩:=e_;exact q_
theorem rK:FnScope ["one", "other"] ["one", "other"] (defScope (EE 10)):=⟨rfl,rfl,rfl,by decide +kernel,rfl,by decide +kernel,by decide +kernel⟩
theorem d_times(Fn:FnIn K mg "times" (EE 10) ["one", "other"])(Z:Bz mg)(d_fraction:∀rl,Dfn P w K mg base rl "fraction" ["top", "bottom"] 2 bG)   : Dfn P w K mg base rl "times" ["one", "other"] 3 dS:=by
 have sc:=rK;refine Dfn.of Fn sc (dS.mono) (dS.len) (fun cdv A outer s H E hr=>(ax (aH (av (d_fraction _) (hr.mono (by decide)) (aa (v_mul (br (vn 0) af) (br (vn 1) af)) (aa (v_mul (br (vn 0) af) (br (vn 1) af)) ab)))))) ?_;rintro ws Q ⟨q,r,rfl,⟨h1,h2⟩,hQ⟩;refine aE ?_;have m1:bj q.num r.den:=.bb h1.bn h2.bd;have m2:bj r.num q.den:=.bb h2.bn h1.bd;have m3:bj q.den r.den:=.bb h1.bd h2.bd;have m4:bj q.num r.num:=.bb h1.bn h2.bn;have d1:(q.den:Int)*r.den≠0:=by have:=dX q r;omega
 have d2:=dW h1 h2;simp_arith only[ah,ae,bG.eq,Hg,t3];exact aF hQ
noncomputable def cn:List W->(Hi->Prop)->Prop:=fun ws Q=>∃(n:Nat)(qs:List Rat),ws=[.d (.list (qs.map fr))]/\((n*qs.length<=1900)/\(qs.length<=60)/\(n<=2000)/\(∀q∈qs,E9 n q))/\Q (fr (bJ qs))
theorem cn.mono:∀ws (Q Q':Hi->Prop),(∀d,Q d->Q' d)->cn ws Q->cn ws Q':=fun _ _ _ h_=>HC fun _=>HC fun _=>Ho (Ho (h_ _))
theorem cn.len:∀ws (Q:Hi->Prop),cn ws Q->ws.length=1:=fun _ _ h_=>by obtain⟨_,_,e_,_⟩:=h_;subst e_;rfl
theorem cn.eq(n:Nat)(qs:List Rat)(hn:n*qs.length<=1900)(h1:qs.length<=60)(n2:n<=2000)(hq:∀q∈qs,E9 n q):cn [.d (.list (qs.map fr))]=VL.ret (fr (bJ qs):Hi):=by
 refine ag fun Q=>⟨?_,fun q_=>⟨n,qs,rfl,⟨hn,h1,n2,hq⟩,q_⟩⟩;rintro⟨n',qs',e_,_,q_⟩;simp_arith only[di,bE,bC,aS,aM,bI,dF,cK]at e_;obtain⟨rfl,rfl⟩:=e_;exact q_
theorem oO:FnScope ["some", "bottom", "one"] ["some"] (defScope (EE 11)):=⟨rfl,rfl,rfl,by decide +kernel,rfl,by decide +kernel,by decide +kernel⟩
theorem d_sum_of(Fn:FnIn K mg "sum_of" (EE 11) ["some"])(Z:Bz mg)(d_fraction:∀rl,Dfn P w K mg base rl "fraction" ["top", "bottom"] 2 bG)(d_common_divisor:∀rl,Dfn P w K mg base rl "common_divisor" ["one", "other"] 1 aT)   : Dfn P w K mg base rl "sum_of" ["some"] 3 cn:=by
 have sc:=oO
 refine Dfn.of Fn sc (cn.mono) (cn.len) (fun cdv A outer s H E hr=>(au (ay 1 sc.nd af)
  (au (cx [2] Ih rfl (cH (vn 0)) (ak 2 sc.nd) (ax (xh 1 sc.nd wp (v_div (br (vn 2) af) (av (d_common_divisor _) (hr.mono (by decide)) (aa (vn 1) (aa (br (vn 2) af) ab)))))))
  (ax (aH (av (d_fraction _) (hr.mono (by decide)) (aa (v_sum Z.sum_ (aa (bc ["one", "bottom"] [none,some 1] rfl (cH (vn 0)) (fun _=>(ak 0 (show Ij (["one", "bottom"]:List Str) by decide +kernel))) (fun _=>cr) (fun _=>(v_mul (br (vn 0) af) (v_div (vn 1) (br (vn 0) af))))) ab)) (aa (vn 1) ab)))))))) ?_
 rintro ws Q ⟨n,qs,rfl,⟨hn,h1,n2,hq⟩,hQ⟩;refine aE ?_;have sz:=HN;simp_arith only[ah,ae,bG.eq,aT.eq,Hg];refine dA (xs:=qs) (enc:=fr) (fun i ρ=>∃B:Int,LcmI n (qs.take i) B/\ρ=[some (.d (.list (qs.map fr))),some (.d (.int B)),none]) rfl ⟨1,LcmI.nil n,rfl⟩ ?_ ?_
 · rintro i hi ρ ⟨B,hB,rfl⟩ K hK;have sq:=hq _ (HZ hi);have s2:E9 2000 qs[i]:=sq.mono n2;have st:=hB.step sq;have dp:=fy qs[i];have gp:(0:Int)<(IC B qs[i].den:Int):=by have:=Ko B (show(qs[i].den:Int)≠0 by omega);omega
   have gl:(IC B qs[i].den:Int)<=qs[i].den:=Int.le_of_dvd dp (Int.gcd_dvd_right ..);have nl:n*(qs.take i).length<=n*qs.length:=Nat.mul_le_mul_left n (by rw[Iz];omega);have bl:B<2^2000:=K8 hB.z (d8 (by decide) (by omega));have bp:=hB.p;have db:(qs[i].den:Int)<2^2000:=by have:=s2.2;exact_mod_cast this
   have cd:eC (qs[i].den:Int) (IC B qs[i].den:Int):=qL (k:=2000) (by omega) (iE (by omega) (by omega)) (by decide);have ef:(qs[i].den:Int).fdiv (IC B qs[i].den:Int)=(qs[i].den:Int) / (IC B qs[i].den:Int):=JA _ (by omega);have q0:0<=(qs[i].den:Int) / (IC B qs[i].den:Int):=Int.ediv_nonneg (by omega) (by omega);have q1:(qs[i].den:Int) / (IC B qs[i].den:Int)<=qs[i].den:=Int.ediv_le_self _ (by omega);have cm:bj B ((qs[i].den:Int) / (IC B qs[i].den:Int)):=.bb (qS (iE (by omega) bl) (by decide)) (qS (k:=2000) (iE q0 (by omega)) (by decide));simp_arith only[ah,ae,bG.eq,aT.eq,Hg,ef];exact hK _ (cf ⟨_,by rw[HG hi];exact st,rfl⟩)
 · rintro ρ ⟨B,hB,rfl⟩;rw[HF (Hw _)]at hB;have bl:B<2^2000:=K8 hB.z (d8 (by decide) (by omega));have bp:=hB.p;have b0:B≠0:=by omega
   have bz:B.natAbs<2^8000:=iE (by omega) (K8 bl (d8 (by decide) (by decide)));simp_arith only[ah,ae,Hg];refine cg (xs:=qs) (enc:=fr) (fun q=>.int (q.num*(B / q.den))) rfl ?_ (by omega) ?_
   · intro q mq;have s2:E9 2000 q:=(hq q mq).mono n2;have dp:=fy q;have db:(q.den:Int)<2^2000:=by have:=s2.2;exact_mod_cast this
     have cd:eC B (q.den:Int):=qL (k:=2000) (by omega) (iE (by omega) (by omega)) (by decide);have ef:B.fdiv (q.den:Int)=B / (q.den:Int):=JA _ (by omega);have q0:0<=B / (q.den:Int):=Int.ediv_nonneg (by omega) (by omega);have q1:B / (q.den:Int)<=B:=Int.ediv_le_self _ (by omega);have cm:bj q.num (B / (q.den:Int)):=.bb s2.bn (qS (k:=2000) (iE q0 (by omega)) (by decide));simp_arith only[ah,ae,FH,Hg,ef]
   · have e:=tU hB.p qs hB.d;rw[mw];simp_arith only[ah,ae,Hd,bG.eq,aT.eq,e];exact aF hQ
noncomputable def cE:List W->(Hi->Prop)->Prop:=fun ws Q=>∃(q r:Rat),ws=[.d (fr q),.d (fr r)]/\((E9 2000 q)/\(E9 2000 r))/\Q (.bool (decide (q<r)))
theorem cE.mono:∀ws (Q Q':Hi->Prop),(∀d,Q d->Q' d)->cE ws Q->cE ws Q':=fun _ _ _ h_=>HC fun _=>HC fun _=>Ho (Ho (h_ _))
theorem cE.len:∀ws (Q:Hi->Prop),cE ws Q->ws.length=2:=fun _ _ h_=>by obtain⟨_,_,e_,_⟩:=h_;subst e_;rfl
theorem cE.eq(q r:Rat)(h1:E9 2000 q)(h2:E9 2000 r):cE [.d (fr q),.d (fr r)]=VL.ret (.bool (decide (q<r)):Hi):=by
 refine ag fun Q=>⟨?_,fun q_=>⟨q,r,rfl,⟨h1,h2⟩,q_⟩⟩;rintro⟨q',r',e_,_,q_⟩;simp_arith only[di,bE,bC,aS,aM,bI]at e_;obtain⟨rfl,rfl⟩:=e_;exact q_
theorem kQ:FnScope ["one", "other"] ["one", "other"] (defScope (EE 14)):=⟨rfl,rfl,rfl,by decide +kernel,rfl,by decide +kernel,by decide +kernel⟩
theorem d_is_below(Fn:FnIn K mg "is_below" (EE 14) ["one", "other"])(Z:Bz mg)    : Dfn P w K mg base rl "is_below" ["one", "other"] 1 cE:=by
 have sc:=kQ;refine Dfn.of Fn sc (cE.mono) (cE.len) (fun cdv A outer s H E hr=>(ax (aH (hR pG n6 (bH _) (v_mul (br (vn 0) af) (br (vn 1) af)) (v_mul (br (vn 1) af) (br (vn 0) af)))))) ?_;rintro ws Q ⟨q,r,rfl,⟨h1,h2⟩,hQ⟩;refine aE ?_;have m1:bj q.num r.den:=.bb h1.bn h2.bd;have m2:bj r.num q.den:=.bb h2.bn h1.bd;simp_arith only[ah,ae,Hg,Bo];exact aF hQ
noncomputable def dh:List W->(Hi->Prop)->Prop:=fun ws Q=>∃(rows:List (List Int)),ws=[.d (.list (rows.map mC))]/\((rows.length<=2)/\(∀r∈rows,r.length<=7))/\Q (.list ((FW rows).map dC))
theorem dh.mono:∀ws (Q Q':Hi->Prop),(∀d,Q d->Q' d)->dh ws Q->dh ws Q':=fun _ _ _ h_=>HC fun _=>Ho (Ho (h_ _))
theorem dh.len:∀ws (Q:Hi->Prop),dh ws Q->ws.length=1:=fun _ _ h_=>by obtain⟨_,e_,_⟩:=h_;subst e_;rfl
theorem dh.eq(rows:List (List Int))(h4:rows.length<=2)(h3:∀r∈rows,r.length<=7):dh [.d (.list (rows.map mC))]=VL.ret (.list ((FW rows).map dC):Hi):=by
 refine ag fun Q=>⟨?_,fun q_=>⟨rows,rfl,⟨h4,h3⟩,q_⟩⟩;rintro⟨rows',e_,_,q_⟩;simp_arith only[di,bE,bC,aS,aM,bI,dF,cK]at e_;obtain rfl:=e_;exact q_
theorem nh:FnScope ["rows", "chosen", "row"] ["rows"] (defScope (EE 20)):=⟨rfl,rfl,rfl,by decide +kernel,rfl,by decide +kernel,by decide +kernel⟩
theorem d_choices(Fn:FnIn K mg "choices" (EE 20) ["rows"])(Z:Bz mg)    : Dfn P w K mg base rl "choices" ["rows"] 1 dh:=by
 have sc:=nh
 refine Dfn.of Fn sc (dh.mono) (dh.len) (fun cdv A outer s H E hr=>(au (ay 1 sc.nd (dP (aa (bD ab) ab)))
  (au (cx [2] Ih rfl (cH (vn 0)) (ak 2 sc.nd) (ax (ko 1 sc.nd ["begun", "thing", "row"] [none,none,some 2] rfl (cH (vn 1)) (fun _=>(ak 0 (show Ij (["begun", "thing", "row"]:List Str) by decide +kernel))) (fun _=>cr) (fun _=>(cH (vn 2))) (fun _=>(ak 1 (show Ij (["begun", "thing", "row"]:List Str) by decide +kernel))) (fun _=>cr) (fun _=>(dJ (vn 0) (bD (aa (vn 1) ab)))))))
  (ax (aH (vn 1)))))) ?_
 rintro ws Q ⟨rows,rfl,⟨h4,h3⟩,hQ⟩;refine aE ?_;have sz:=HN;simp_arith only[ah,ae];refine dA (xs:=rows) (enc:=mC) (fun i ρ=>∃ch:List (List Int),ch=FW (rows.take i)/\ch.length<=7^i/\(∀b∈ch,b.length<=i)/\ρ=[some (.d (.list (rows.map mC))),some (.d (.list (ch.map dC))),none]) rfl ⟨[[]],rfl,by simp,by simp,rfl⟩ ?_ ?_
 · rintro i hi ρ ⟨ch,hch,hl,hbl,rfl⟩ K hK;have hr:=h3 _ (HZ hi);have p1:7^i<=7^1:=HJ (by decide) (by omega);generalize hrr:rows[i]=r at hr;simp_arith only[ah,ae,Hh,mC]
   have hlen:(ch.flatMap fun b=>r.map fun t=>dC (b++[t])).length<=7^i*7:=by
    rw[Ke]
    have:∀(l:List (List Int)),(l.map fun b=>(r.map fun t=>dC (b++[t])).length).sum<=l.length*7:=fun l=>by
     induction l with
     | nil=>simp
     | cons b l ih=>rw[HE,NF,Hs,Il];omega
    exact Je (this ch) (Nat.mul_le_mul_right 7 hl)
   refine Bv (xs:=ch) (enc:=dC) (fun b=>r.map fun t=>dC (b++[t])) rfl ?_ (by omega) ?_
   · intro b mb acc ha;rw[Hs]at ha;simp_arith only[ah,ae,um,mC,dC];rw[fB (enc:=Iv) (fun t=>some (dC (b++[t]))) r acc ?_ ha,MA]
     · rfl
     intro t mt;have hb1:=hbl b mb;have hb2:b.length+1<=sizeLine:=by omega
     simp_arith only[ah,ae,FH];simp[dC]
   · try simp_arith only[ah,ae]
     refine hK _ (cf ⟨ch.flatMap fun b=>r.map fun t=>b++[t],?_,?_,?_,?_⟩)
     · rw[HG hi,hrr];unfold FW;rw[JF];show _=List.flatMap _ _;rw[hch];rfl
     · rw[MQ];refine Je (Nat.le_of_eq ?_) hlen;rw[Ke,Ke];simp
     · intro b mb;obtain⟨b',mb',hb'⟩:=Jz.mp mb;obtain⟨x,_,rfl⟩:=HX.mp hb';have:=hbl b' mb';simp;omega
     · simp[fo,Mv];rfl
 · rintro ρ ⟨ch,hch,hl,_,rfl⟩;rw[HF (Hw _)]at hch;subst hch;simp_arith only[ah,ae];exact aF hQ
noncomputable def bW:List W->(Hi->Prop)->Prop:=fun ws Q=>∃(x:Rat)(c:List Rat),ws=[.d (fr x),.d (Fb c)]/\((E9 60 x)/\(c.length<=60)/\(∀q∈c,E9 60 q))/\Q (.int (stN x c))
theorem bW.mono:∀ws (Q Q':Hi->Prop),(∀d,Q d->Q' d)->bW ws Q->bW ws Q':=fun _ _ _ h_=>HC fun _=>HC fun _=>Ho (Ho (h_ _))
theorem bW.len:∀ws (Q:Hi->Prop),bW ws Q->ws.length=2:=fun _ _ h_=>by obtain⟨_,_,e_,_⟩:=h_;subst e_;rfl
theorem bW.eq(x:Rat)(c:List Rat)(hx:E9 60 x)(hl:c.length<=60)(hc:∀q∈c,E9 60 q):bW [.d (fr x),.d (Fb c)]=VL.ret (.int (stN x c):Hi):=by
 refine ag fun Q=>⟨?_,fun q_=>⟨x,c,rfl,⟨hx,hl,hc⟩,q_⟩⟩;rintro⟨x',c',e_,_,q_⟩;simp_arith only[di,bE,bC,aS,aM,bI,dF,cK]at e_;obtain⟨rfl,rfl⟩:=e_;exact q_
theorem iS:FnScope ["x", "ends"] ["x", "ends"] (defScope (EE 22)):=⟨rfl,rfl,rfl,by decide +kernel,rfl,by decide +kernel,by decide +kernel⟩
theorem d_stretch_of(Fn:FnIn K mg "stretch_of" (EE 22) ["x", "ends"])(Z:Bz mg)(d_is_below:∀rl,Dfn P w K mg base rl "is_below" ["one", "other"] 1 cE)   : Dfn P w K mg base rl "stretch_of" ["x", "ends"] 2 bW:=by
 have sc:=iS;refine Dfn.of Fn sc (bW.mono) (bW.len) (fun cdv A outer s H E hr=>(ax (aH (dg Z.len_ (aa (bc ["end", "x"] [none,some 0] rfl (dO (vn 1)) (fun _=>(ak 0 (show Ij (["end", "x"]:List Str) by decide +kernel))) (fun _=>nX (xx (jt (av (d_is_below _) (hr.mono (by decide)) (aa (vn 1) (aa (vn 0) ab)))))) (fun _=>(vn 0))) ab))))) ?_;rintro ws Q ⟨x,c,rfl,⟨hx,hl,hc⟩,hQ⟩;refine aE ?_;have sz:=HN;have x2:=hx.up;simp_arith only[ah,ae,Hg];refine qK (xs:=c) (enc:=fr) (fun e=>if(!decide (x<e))=true then some (fr e)else none) rfl ?_ (by omega) ?_
 · intro e me;have e2:=(hc e me).up;simp_arith only[ah,ae,FH,cE.eq]
   try rfl
   try (split<;>rfl)
 · try simp_arith only[ah,ae]
   rw[ut (fun e=>!decide (x<e))];exact aF hQ
noncomputable def cR:List W->(Hi->Prop)->Prop:=fun ws Q=>∃(p:List Rat)(cs:List (List Rat)),ws=[.d (Fb p),.d (ptsQ cs)]/\((∀x∈p,E9 60 x)/\(p.length<=60)/\(∀c∈cs,c.length<=60/\∀q∈c,E9 60 q))/\Q (dC (ptc p cs))
theorem cR.mono:∀ws (Q Q':Hi->Prop),(∀d,Q d->Q' d)->cR ws Q->cR ws Q':=fun _ _ _ h_=>HC fun _=>HC fun _=>Ho (Ho (h_ _))
theorem cR.len:∀ws (Q:Hi->Prop),cR ws Q->ws.length=2:=fun _ _ h_=>by obtain⟨_,_,e_,_⟩:=h_;subst e_;rfl
theorem cR.eq(p:List Rat)(cs:List (List Rat))(hp:∀x∈p,E9 60 x)(hl:p.length<=60)(hc:∀c∈cs,c.length<=60/\∀q∈c,E9 60 q):cR [.d (Fb p),.d (ptsQ cs)]=VL.ret (dC (ptc p cs):Hi):=by
 refine ag fun Q=>⟨?_,fun q_=>⟨p,cs,rfl,⟨hp,hl,hc⟩,q_⟩⟩;rintro⟨p',cs',e_,_,q_⟩;simp_arith only[di,bE,bC,aS,aM,bI,dF,cK]at e_;obtain⟨rfl,rfl⟩:=e_;exact q_
theorem kP:FnScope ["point", "cuts"] ["point", "cuts"] (defScope (EE 23)):=⟨rfl,rfl,rfl,by decide +kernel,rfl,by decide +kernel,by decide +kernel⟩
theorem d_patch_of(Fn:FnIn K mg "patch_of" (EE 23) ["point", "cuts"])(Z:Bz mg)(d_stretch_of:∀rl,Dfn P w K mg base rl "stretch_of" ["x", "ends"] 2 bW)   : Dfn P w K mg base rl "patch_of" ["point", "cuts"] 3 cR:=by
 have sc:=kP;refine Dfn.of Fn sc (cR.mono) (cR.len) (fun cdv A outer s H E hr=>(ax (aH (cO Z.tuple_ (aa (bc ["x", "ends"] [none,none] rfl (c9 Z.zip_ (aa (vn 0) (aa (vn 1) ab))) (fun _=>(dj (n:=2) rfl (aI (ak 0 (show Ij (["x", "ends"]:List Str) by decide +kernel)) (aI (ak 1 (show Ij (["x", "ends"]:List Str) by decide +kernel)) cI)))) (fun _=>cr) (fun _=>(av (d_stretch_of _) (hr.mono (by decide)) (aa (vn 0) (aa (vn 1) ab))))) ab))))) ?_;rintro ws Q ⟨p,cs,rfl,⟨hp,hl,hc⟩,hQ⟩;refine aE ?_;have sz:=HN;simp_arith only[ah,ae,Hg];rw[dD];refine cg (xs:=p.zip cs) (enc:=fun z=>Ii [fr z.1,Fb z.2]) (fun z=>.int (stN z.1 z.2:Int)) rfl ?_ (by rw[IR];omega) ?_
 · rintro⟨x,c⟩ hm;obtain⟨mx,mc⟩:=IB hm;have h1:=hp x mx;obtain⟨h2,h3⟩:=hc c mc;simp_arith only[ah,ae,FH,bW.eq]
 · rw[mw];simp_arith only[ah,ae,tup_of];exact aF hQ
noncomputable def bK:List W->(Hi->Prop)->Prop:=fun ws Q=>∃(cs:List (List Rat)),ws=[.d (ptsQ cs)]/\((cs.length<=2)/\(∀c∈cs,c.length<=6))/\Q (.list ((pch cs).map dC))
theorem bK.mono:∀ws (Q Q':Hi->Prop),(∀d,Q d->Q' d)->bK ws Q->bK ws Q':=fun _ _ _ h_=>HC fun _=>Ho (Ho (h_ _))
theorem bK.len:∀ws (Q:Hi->Prop),bK ws Q->ws.length=1:=fun _ _ h_=>by obtain⟨_,e_,_⟩:=h_;subst e_;rfl
theorem bK.eq(cs:List (List Rat))(hl:cs.length<=2)(hc:∀c∈cs,c.length<=6):bK [.d (ptsQ cs)]=VL.ret (.list ((pch cs).map dC):Hi):=by
 refine ag fun Q=>⟨?_,fun q_=>⟨cs,rfl,⟨hl,hc⟩,q_⟩⟩;rintro⟨cs',e_,_,q_⟩;simp_arith only[di,bE,bC,aS,aM,bI,dF,cK]at e_;obtain rfl:=e_;exact q_
theorem iV:FnScope ["cuts"] ["cuts"] (defScope (EE 24)):=⟨rfl,rfl,rfl,by decide +kernel,rfl,by decide +kernel,by decide +kernel⟩
theorem d_patches_of(Fn:FnIn K mg "patches_of" (EE 24) ["cuts"])(Z:Bz mg)(d_choices:∀rl,Dfn P w K mg base rl "choices" ["rows"] 1 dh)   : Dfn P w K mg base rl "patches_of" ["cuts"] 2 bK:=by
 have sc:=iV;refine Dfn.of Fn sc (bK.mono) (bK.len) (fun cdv A outer s H E hr=>(ax (aH (av (d_choices _) (hr.mono (by decide)) (aa (bc ["ends"] [none] rfl (dO (vn 0)) (fun _=>(ak 0 (show Ij (["ends"]:List Str) by decide +kernel))) (fun _=>cr) (fun _=>(oh Z.list_ Z.range_ (aa (v_add (dg Z.len_ (aa (vn 0) ab)) af) ab)))) ab))))) ?_;rintro ws Q ⟨cs,rfl,⟨hl,hc⟩,hQ⟩;refine aE ?_;have sz:=HN;have l2:(cs.map fun c=>fq 0 (c.length+1)).length<=2:=by rw[Hs];exact hl
 have l7:∀r∈cs.map (fun c=>fq 0 (c.length+1)),r.length<=7:=fun r hr=>by
  obtain⟨c,mc,rfl⟩:=HX.mp hr;have:=hc c mc;rw[cB];omega
 simp_arith only[ah,ae,Hg];refine cg (xs:=cs) (enc:=Fb) (fun c=>mC (fq 0 (c.length+1))) rfl ?_ (by omega) ?_
 · intro c mc;have:=hc c mc;have g1 : -(2^62)<=((c.length:Int)+1)/\((c.length:Int)+1)<2^62:=by omega
   have e1:((c.length:Int)+1).toNat=c.length+1:=by omega
   simp_arith only[ah,ae,FH,Hg];rw[e1,gv];rfl
 · rw[sj];simp_arith only[ah,ae,dh.eq];exact aF hQ
noncomputable def cj:List W->(Hi->Prop)->Prop:=fun ws Q=>∃(s:Sh)(p:List Int),ws=[.d (shD s),.d (dC p)]/\((s.OkN 45)/\(kd s.cuts p))/\Q (fr (s.at p))
theorem cj.mono:∀ws (Q Q':Hi->Prop),(∀d,Q d->Q' d)->cj ws Q->cj ws Q':=fun _ _ _ h_=>HC fun _=>HC fun _=>Ho (Ho (h_ _))
theorem cj.len:∀ws (Q:Hi->Prop),cj ws Q->ws.length=2:=fun _ _ h_=>by obtain⟨_,_,e_,_⟩:=h_;subst e_;rfl
theorem cj.eq(s:Sh)(p:List Int)(hs:s.OkN 45)(hp:kd s.cuts p):cj [.d (shD s),.d (dC p)]=VL.ret (fr (s.at p):Hi):=by
 refine ag fun Q=>⟨?_,fun q_=>⟨s,p,rfl,⟨hs,hp⟩,q_⟩⟩;rintro⟨s',p',e_,_,q_⟩;simp_arith only[di,bE,bC,aS,aM,bI,dF,cK]at e_;obtain⟨rfl,rfl⟩:=e_;exact q_
theorem kK:FnScope ["sheet", "patch", "value", "stretch"] ["sheet", "patch"] (defScope (EE 26)):=⟨rfl,rfl,rfl,by decide +kernel,rfl,by decide +kernel,by decide +kernel⟩
theorem d_value_in(Fn:FnIn K mg "value_in" (EE 26) ["sheet", "patch"])(Z:Bz mg)    : Dfn P w K mg base rl "value_in" ["sheet", "patch"] 1 cj:=by
 have sc:=kK
 refine Dfn.of Fn sc (cj.mono) (cj.len) (fun cdv A outer s H E hr=>(au (ay 2 sc.nd (br (vn 0) af))
  (au (cx [3] Ih rfl (dO (vn 1)) (ak 3 sc.nd) (ax (ay 2 sc.nd (br (vn 2) (vn 3)))))
  (ax (aH (vn 2)))))) ?_
 rintro ws Q ⟨s,p,rfl,⟨hs,hp⟩,hQ⟩;refine aE ?_
 cases s with
 | one c v =>
   obtain⟨k,rfl,k0,k1⟩:=kd.one hp;have hl:v.length=c.length+1:=hs.2.1;have e:=cp (xs:=v) 0 k0 (by omega);simp_arith only[ah,ae,Hf,Hg,mD,jQ,Sh.vD,e]
   exact aF hQ
 | two c d vs =>
   obtain⟨k,j,rfl,⟨k0,k1⟩,j0,j1⟩:=kd.two hp;obtain⟨_,_,hl,hv⟩:=hs;have e:=cp (xs:=vs) [] k0 (by omega);have hv:=(hv _ (getD_mem (d:=[]) (show k.toNat<vs.length by omega))).1;have e2:=cp (xs:=vs.getD k.toNat []) 0 j0 (by omega);simp_arith only[ah,ae,Hf,Hg,mD,jQ,Sh.vD,e,e2];exact aF hQ
noncomputable def cP:List W->(Hi->Prop)->Prop:=fun ws Q=>∃(s:Sh)(p:List Rat),ws=[.d (shD s),.d (Fb p)]/\((s.OkN 45)/\(∀x∈p,E9 60 x)/\(p.length=s.cuts.length))/\Q (fr (s.at (ptc p s.cuts)))
theorem cP.mono:∀ws (Q Q':Hi->Prop),(∀d,Q d->Q' d)->cP ws Q->cP ws Q':=fun _ _ _ h_=>HC fun _=>HC fun _=>Ho (Ho (h_ _))
theorem cP.len:∀ws (Q:Hi->Prop),cP ws Q->ws.length=2:=fun _ _ h_=>by obtain⟨_,_,e_,_⟩:=h_;subst e_;rfl
theorem cP.eq(s:Sh)(p:List Rat)(hs:s.OkN 45)(hp:∀x∈p,E9 60 x)(hl:p.length=s.cuts.length):cP [.d (shD s),.d (Fb p)]=VL.ret (fr (s.at (ptc p s.cuts)):Hi):=by
 refine ag fun Q=>⟨?_,fun q_=>⟨s,p,rfl,⟨hs,hp,hl⟩,q_⟩⟩;rintro⟨s',p',e_,_,q_⟩;simp_arith only[di,bE,bC,aS,aM,bI,dF,cK]at e_;obtain⟨rfl,rfl⟩:=e_;exact q_
theorem kM:FnScope ["sheet", "point"] ["sheet", "point"] (defScope (EE 27)):=⟨rfl,rfl,rfl,by decide +kernel,rfl,by decide +kernel,by decide +kernel⟩
theorem d_value_at(Fn:FnIn K mg "value_at" (EE 27) ["sheet", "point"])(Z:Bz mg)(d_value_in:∀rl,Dfn P w K mg base rl "value_in" ["sheet", "patch"] 1 cj)(d_patch_of:∀rl,Dfn P w K mg base rl "patch_of" ["point", "cuts"] 3 cR)   : Dfn P w K mg base rl "value_at" ["sheet", "point"] 4 cP:=by
 have sc:=kM;refine Dfn.of Fn sc (cP.mono) (cP.len) (fun cdv A outer s H E hr=>(ax (aH (av (d_value_in _) (hr.mono (by decide)) (aa (vn 0) (aa (av (d_patch_of _) (hr.mono (by decide)) (aa (vn 1) (aa (br (vn 0) af) ab))) ab)))))) ?_;rintro ws Q ⟨s,p,rfl,⟨hs,hp,hl⟩,hQ⟩;refine aE ?_;have h60:=Sh.cut60 hs;have c2:=s.cl;have l60:p.length<=60:=by omega
 have pk:=gB hl;simp_arith only[ah,ae,Hf,cj.eq,cR.eq];exact aF hQ
theorem uh{r:Rat}(h:r≠0):r.num≠0:=fun z=>h (Rat.num_eq_zero.mp z)
theorem vw{r:Rat}(h:r≠0):qd (q.num*r.den) (q.den*r.num)=q / r:=by
 have e1:=gw q;have e2:=gw r;have n1:=uh h;have d1:=fy q;have d2:=fy r;unfold qd at *;have a1:(r.num:Rat)≠0:=by intro z;exact n1 (by exact_mod_cast z)
 have a2:((q.den:Int):Rat)≠0:=by
  intro z;have:(q.den:Int)=0:=by exact_mod_cast z
  omega
 have a3:((r.den:Int):Rat)≠0:=by
  intro z;have:(r.den:Int)=0:=by exact_mod_cast z
  omega
 rw[IQ,IQ];generalize (q.num:Rat)=x at *;generalize (r.num:Rat)=y at *;generalize ((q.den:Int):Rat)=u at *;generalize ((r.den:Int):Rat)=v at *;subst e1 e2
 grind
noncomputable def gH:List W->(Hi->Prop)->Prop:=fun ws Q=>∃(q r:Rat),ws=[.d (fr q),.d (fr r)]/\((E9 2000 q)/\(E9 2000 r)/\(r≠0))/\Q (fr (q / r))
theorem gH.mono:∀ws (Q Q':Hi->Prop),(∀d,Q d->Q' d)->gH ws Q->gH ws Q':=fun _ _ _ h_=>HC fun _=>HC fun _=>Ho (Ho (h_ _))
theorem gH.len:∀ws (Q:Hi->Prop),gH ws Q->ws.length=2:=fun _ _ h_=>by obtain⟨_,_,e_,_⟩:=h_;subst e_;rfl
theorem gH.eq(q r:Rat)(h1:E9 2000 q)(h2:E9 2000 r)(hr:r≠0):gH [.d (fr q),.d (fr r)]=VL.ret (fr (q / r):Hi):=by
 refine ag fun Q=>⟨?_,fun q_=>⟨q,r,rfl,⟨h1,h2,hr⟩,q_⟩⟩;rintro⟨q',r',e_,_,q_⟩;simp_arith only[di,bE,bC,aS,aM,bI]at e_;obtain⟨rfl,rfl⟩:=e_;exact q_
theorem vb:FnScope ["one", "other"] ["one", "other"] (defScope (EE 13)):=⟨rfl,rfl,rfl,by decide +kernel,rfl,by decide +kernel,by decide +kernel⟩
theorem d_over(Fn:FnIn K mg "over" (EE 13) ["one", "other"])(Z:Bz mg)(d_fraction:∀rl,Dfn P w K mg base rl "fraction" ["top", "bottom"] 2 bG)   : Dfn P w K mg base rl "over" ["one", "other"] 3 gH:=by
 have sc:=vb
 refine Dfn.of Fn sc (gH.mono) (gH.len) (fun cdv A outer s H E hr=>(au (eI (cC (eZ hr.units) df (bH _) (br (vn 1) af) af) (ax lK) c7)
  (ax (aH (av (d_fraction _) (hr.mono (by decide)) (aa (v_mul (br (vn 0) af) (br (vn 1) af)) (aa (v_mul (br (vn 0) af) (br (vn 1) af)) ab))))))) ?_
 rintro ws Q ⟨q,r,rfl,⟨h1,h2,hr⟩,hQ⟩;refine aE ?_;have n1:=uh hr;have n0:(r.num==0)=false:=by simpa using n1
 have m1:bj q.num r.den:=.bb h1.bn h2.bd;have m2:bj q.den r.num:=.bb h1.bd h2.bn;have d1:(q.den:Int)*r.num≠0:=Int.mul_ne_zero (by have:=fy q;omega) n1
 have d2:((q.den:Int)*r.num).natAbs<2^8000:=by
  rw[KG,Jm];exact Hy (Ls h1.2 h2.1) (by rw[<- Np];exact HJ (by decide) (by decide))
 have e:=vw (q:=q) hr;simp_arith only[ah,ae,bG.eq,Hg,n0,e];exact aF hQ
noncomputable def bR:List W->(Hi->Prop)->Prop:=fun ws Q=>∃(s:Sh)(ps:List (List Rat)),ws=[.d (shD s),.d (ptsQ ps)]/\((s.OkN 45)/\(1<=ps.length)/\(ps.length<=40)/\(∀p∈ps,p.length=s.cuts.length/\∀x∈p,E9 60 x))/\Q (fr (bJ (ps.map fun p=>s.at (ptc p s.cuts)) / qd ps.length 1))
theorem bR.mono:∀ws (Q Q':Hi->Prop),(∀d,Q d->Q' d)->bR ws Q->bR ws Q':=fun _ _ _ h_=>HC fun _=>HC fun _=>Ho (Ho (h_ _))
theorem bR.len:∀ws (Q:Hi->Prop),bR ws Q->ws.length=2:=fun _ _ h_=>by obtain⟨_,_,e_,_⟩:=h_;subst e_;rfl
theorem bR.eq(s:Sh)(ps:List (List Rat))(hs:s.OkN 45)(h1:1<=ps.length)(h8:ps.length<=40)(hp:∀p∈ps,p.length=s.cuts.length/\∀x∈p,E9 60 x):bR [.d (shD s),.d (ptsQ ps)]=VL.ret (fr (bJ (ps.map fun p=>s.at (ptc p s.cuts)) / qd ps.length 1):Hi):=by
 refine ag fun Q=>⟨?_,fun q_=>⟨s,ps,rfl,⟨hs,h1,h8,hp⟩,q_⟩⟩;rintro⟨s',ps',e_,_,q_⟩;simp_arith only[di,bE,bC,aS,aM,bI,dF,cK]at e_;obtain⟨rfl,rfl⟩:=e_;exact q_
theorem nc:FnScope ["sheet", "points"] ["sheet", "points"] (defScope (EE 28)):=⟨rfl,rfl,rfl,by decide +kernel,rfl,by decide +kernel,by decide +kernel⟩
theorem d_mean_of(Fn:FnIn K mg "mean_of" (EE 28) ["sheet", "points"])(Z:Bz mg)(d_over:∀rl,Dfn P w K mg base rl "over" ["one", "other"] 3 gH)(d_sum_of:∀rl,Dfn P w K mg base rl "sum_of" ["some"] 3 cn)(d_value_at:∀rl,Dfn P w K mg base rl "value_at" ["sheet", "point"] 4 cP)   : Dfn P w K mg base rl "mean_of" ["sheet", "points"] 5 bR:=by
 have sc:=nc;refine Dfn.of Fn sc (bR.mono) (bR.len) (fun cdv A outer s H E hr=>(ax (aH (av (d_over _) (hr.mono (by decide)) (aa (av (d_sum_of _) (hr.mono (by decide)) (aa (bc ["point", "sheet"] [none,some 0] rfl (dO (vn 1)) (fun _=>(ak 0 (show Ij (["point", "sheet"]:List Str) by decide +kernel))) (fun _=>cr) (fun _=>(av (d_value_at _) (hr.mono (by decide)) (aa (vn 1) (aa (vn 0) ab))))) ab)) (aa (bD (aa (dg Z.len_ (aa (vn 1) ab)) (aa af ab))) ab)))))) ?_;rintro ws Q ⟨s,ps,rfl,⟨hs,h1,h8,hp⟩,hQ⟩;refine aE ?_;have sz:=HN;simp_arith only[ah,ae,Hg];refine cg (xs:=ps) (enc:=Fb) (fun p=>fr (s.at (ptc p s.cuts))) rfl ?_ (by omega) ?_
 · intro p mp;obtain⟨e1,e2⟩:=hp p mp;simp_arith only[ah,ae,FH,gH.eq,cn.eq,cP.eq]
 · rw[lf]
   have hq:∀q∈ps.map (fun p=>s.at (ptc p s.cuts)),E9 45 q:=fun q mq=>by
    obtain⟨p,mp,rfl⟩:=HX.mp mq;exact Sh.at_sm hs (gB (hp p mp).1)
   have ll:(ps.map fun p=>s.at (ptc p s.cuts)).length=ps.length:=Hs ..;have ps_:cn [.d (.list ((ps.map fun p=>s.at (ptc p s.cuts)).map fr))]=VL.ret (fr (bJ (ps.map fun p=>s.at (ptc p s.cuts)))):=cn.eq 45 _ (by rw[ll];omega) (by rw[ll];omega) (by decide) hq;have s1:E9 2000 (bJ (ps.map fun p=>s.at (ptc p s.cuts))):=(iM hq).mono (by rw[ll];omega);have s2:E9 2000 (qd ps.length 1):=(kW (k:=60) (by decide) (by omega) (by decide)).up
   have nz:qd ps.length 1≠0:=by
    intro z;have:(0:Rat)=qd 0 1:=(tX (by decide)).symm;rw[this]at z;have h:=congrArg fr z;rw[<- qg,<- qg]at h
    injection h with h
    injection h with h
    injection h with h
    omega
   simp_arith only[ah,ae,Hg,ps_,qg,gH.eq];exact aF hQ
noncomputable def aZ:List W->(Hi->Prop)->Prop:=fun ws Q=>∃(c:List Rat)(j:Int),ws=[.d (Fb c),.d (.int j)]/\((∀q∈lim c,E9 60 q)/\(c.length<=60)/\(0<=j)/\(j<=(c.length:Int)))/\Q (fr (lh c j))
theorem aZ.mono:∀ws (Q Q':Hi->Prop),(∀d,Q d->Q' d)->aZ ws Q->aZ ws Q':=fun _ _ _ h_=>HC fun _=>HC fun _=>Ho (Ho (h_ _))
theorem aZ.len:∀ws (Q:Hi->Prop),aZ ws Q->ws.length=2:=fun _ _ h_=>by obtain⟨_,_,e_,_⟩:=h_;subst e_;rfl
theorem aZ.eq(c:List Rat)(j:Int)(hc:∀q∈lim c,E9 60 q)(hl:c.length<=60)(j0:0<=j)(j1:j<=(c.length:Int)):aZ [.d (Fb c),.d (.int j)]=VL.ret (fr (lh c j):Hi):=by
 refine ag fun Q=>⟨?_,fun q_=>⟨c,j,rfl,⟨hc,hl,j0,j1⟩,q_⟩⟩;rintro⟨c',j',e_,_,q_⟩;simp_arith only[di,bE,bC,aS,aM,bI,dF,cK]at e_;obtain⟨rfl,rfl⟩:=e_;exact q_
theorem fI:FnScope ["ends", "stretch", "limits"] ["ends", "stretch"] (defScope (EE 29)):=⟨rfl,rfl,rfl,by decide +kernel,rfl,by decide +kernel,by decide +kernel⟩
theorem d_stretch_length(Fn:FnIn K mg "stretch_length" (EE 29) ["ends", "stretch"])(Z:Bz mg)(d_less:∀rl,Dfn P w K mg base rl "less" ["one", "other"] 3 fV)(gl_ONE:GlD K mg "ONE" (pr 1 1))(gl_ZERO:GlD K mg "ZERO" (pr 0 1))  : Dfn P w K mg base rl "stretch_length" ["ends", "stretch"] 4 aZ:=by
 have sc:=fI
 refine Dfn.of Fn sc (aZ.mono) (aZ.len) (fun cdv A outer s H E hr=>(au (ay 2 sc.nd (dJ (dJ (bD (aa (eQ gl_ZERO) ab)) (vn 0)) (bD (aa (eQ gl_ONE) ab))))
  (ax (aH (av (d_less _) (hr.mono (by decide)) (aa (br (vn 2) (v_add (vn 1) af)) (aa (br (vn 2) (vn 1)) ab))))))) ?_
 rintro ws Q ⟨c,j,rfl,⟨hc,hl,j0,j1⟩,hQ⟩;refine aE ?_;have sz:=HN;have l2:=pO c;have e1:=cp (xs:=lim c) 0 j0 (by omega);have e2:=cp (xs:=lim c) 0 (show 0<=j+1 by omega) (by omega);have et:(j+1).toNat=j.toNat+1:=by omega
 rw[et]at e2;have s1:E9 2000 ((lim c).getD j.toNat 0):=(hc _ (getD_mem (by omega))).up;have s2:E9 2000 ((lim c).getD (j.toNat+1) 0):=(hc _ (getD_mem (by omega))).up
 have eq1:∀i:Int,atI (([pr 0 1]++c.map fr)++[pr 1 1]) i=(atI (lim c) i).map fr:=fun i=>by
  rw[<- atI_map];congr 1;unfold lim;rw[HE,Ir,Lq,MM];rfl
 have eq2:∀i:Int,atI (fr 0::(c.map fr++[fr 1])) i=(atI (lim c) i).map fr:=fun i=>by rw[<- eq1];rfl
 have g1:1+c.length<=sizeLine:=by omega
 have g2:c.length+1<=sizeLine:=by omega
 have g3:c.length+1+1<=sizeLine:=by omega
 simp_arith only[ah,ae,Hg,fV.eq,eq1,eq2,e1,e2];exact aF hQ
noncomputable def bX:List W->(Hi->Prop)->Prop:=fun ws Q=>∃(qs:List Rat),ws=[.d (.list (qs.map fr))]/\((qs.length<=4)/\(∀q∈qs,E9 190 q))/\Q (fr (prodQ qs))
theorem bX.mono:∀ws (Q Q':Hi->Prop),(∀d,Q d->Q' d)->bX ws Q->bX ws Q':=fun _ _ _ h_=>HC fun _=>Ho (Ho (h_ _))
theorem bX.len:∀ws (Q:Hi->Prop),bX ws Q->ws.length=1:=fun _ _ h_=>by obtain⟨_,e_,_⟩:=h_;subst e_;rfl
theorem bX.eq(qs:List Rat)(h4:qs.length<=4)(hq:∀q∈qs,E9 190 q):bX [.d (.list (qs.map fr))]=VL.ret (fr (prodQ qs):Hi):=by
 refine ag fun Q=>⟨?_,fun q_=>⟨qs,rfl,⟨h4,hq⟩,q_⟩⟩;rintro⟨qs',e_,_,q_⟩;simp_arith only[di,bE,bC,aS,aM,bI]at e_;obtain rfl:=e_;exact q_
theorem iU:FnScope ["some", "product", "one"] ["some"] (defScope (EE 12)):=⟨rfl,rfl,rfl,by decide +kernel,rfl,by decide +kernel,by decide +kernel⟩
theorem d_product_of(Fn:FnIn K mg "product_of" (EE 12) ["some"])(Z:Bz mg)(d_times:∀rl,Dfn P w K mg base rl "times" ["one", "other"] 3 dS)(gl_ONE:GlD K mg "ONE" (pr 1 1))  : Dfn P w K mg base rl "product_of" ["some"] 4 bX:=by
 have sc:=iU
 refine Dfn.of Fn sc (bX.mono) (bX.len) (fun cdv A outer s H E hr=>(au (ay 1 sc.nd (eQ gl_ONE))
  (au (cx [2] Ih rfl (cH (vn 0)) (ak 2 sc.nd) (ax (ay 1 sc.nd (av (d_times _) (hr.mono (by decide)) (aa (vn 1) (aa (vn 2) ab))))))
  (ax (aH (vn 1)))))) ?_
 rintro ws Q ⟨qs,rfl,⟨h4,hq⟩,hQ⟩;refine aE ?_;simp_arith only[ah,ae,dS.eq,Hg];refine dA (xs:=qs) (fun i ρ=>ρ=[some (.d (.list (qs.map fr))),some (.d (fr ((qs.take i).foldl (· * ·) 1))),none]) rfl rfl ?_ ?_
 · rintro i hi ρ rfl K hK;have hs:=lZ (qs.take i) 60 1 DJ fun r hr=>hq r (M_ hr);have hl:(qs.take i).length<=4:=by rw[Iz];omega
   have s1:E9 2000 ((qs.take i).foldl (· * ·) 1):=hs.mono (by omega);have s2:E9 2000 qs[i]:=(hq _ (HZ hi)).mono (by decide);simp_arith only[ah,ae,dS.eq,Hg];refine hK _ (cf ?_);simp_arith only[ae];rw[nG hi]
 · rintro ρ rfl;simp_arith only[ae];rw[HF (Hw _)];exact aF hQ
noncomputable def bY:List W->(Hi->Prop)->Prop:=fun ws Q=>∃(cs:List (List Rat))(p:List Int),ws=[.d (ptsQ cs),.d (dC p)]/\((cs.length<=2)/\(∀c∈cs,da 6 c)/\(kd cs p))/\Q (fr (eK cs p))
theorem bY.mono:∀ws (Q Q':Hi->Prop),(∀d,Q d->Q' d)->bY ws Q->bY ws Q':=fun _ _ _ h_=>HC fun _=>HC fun _=>Ho (Ho (h_ _))
theorem bY.len:∀ws (Q:Hi->Prop),bY ws Q->ws.length=2:=fun _ _ h_=>by obtain⟨_,_,e_,_⟩:=h_;subst e_;rfl
theorem bY.eq(cs:List (List Rat))(p:List Int)(hl:cs.length<=2)(hc:∀c∈cs,da 6 c)(hp:kd cs p):bY [.d (ptsQ cs),.d (dC p)]=VL.ret (fr (eK cs p):Hi):=by
 refine ag fun Q=>⟨?_,fun q_=>⟨cs,p,rfl,⟨hl,hc,hp⟩,q_⟩⟩;rintro⟨cs',p',e_,_,q_⟩;simp_arith only[di,bE,bC,aS,aM,bI,dF,cK]at e_;obtain⟨rfl,rfl⟩:=e_;exact q_
theorem iW:FnScope ["cuts", "patch"] ["cuts", "patch"] (defScope (EE 30)):=⟨rfl,rfl,rfl,by decide +kernel,rfl,by decide +kernel,by decide +kernel⟩
theorem d_patch_size(Fn:FnIn K mg "patch_size" (EE 30) ["cuts", "patch"])(Z:Bz mg)(d_product_of:∀rl,Dfn P w K mg base rl "product_of" ["some"] 4 bX)(d_stretch_length:∀rl,Dfn P w K mg base rl "stretch_length" ["ends", "stretch"] 4 aZ)   : Dfn P w K mg base rl "patch_size" ["cuts", "patch"] 5 bY:=by
 have sc:=iW;refine Dfn.of Fn sc (bY.mono) (bY.len) (fun cdv A outer s H E hr=>(ax (aH (av (d_product_of _) (hr.mono (by decide)) (aa (bc ["ends", "stretch"] [none,none] rfl (c9 Z.zip_ (aa (vn 0) (aa (vn 1) ab))) (fun _=>(dj (n:=2) rfl (aI (ak 0 (show Ij (["ends", "stretch"]:List Str) by decide +kernel)) (aI (ak 1 (show Ij (["ends", "stretch"]:List Str) by decide +kernel)) cI)))) (fun _=>cr) (fun _=>(av (d_stretch_length _) (hr.mono (by decide)) (aa (vn 0) (aa (vn 1) ab))))) ab))))) ?_;rintro ws Q ⟨cs,p,rfl,⟨hl,hc,hp⟩,hQ⟩;refine aE ?_;have sz:=HN;simp_arith only[ah,ae,Hg,Hf];rw[dD];refine cg (xs:=cs.zip p) (enc:=fun z=>Ii [Fb z.1,.int z.2]) (fun z=>fr (lh z.1 z.2)) rfl ?_ (by rw[IR];omega) ?_
 · rintro⟨c,j⟩ hm;obtain⟨mc,mj⟩:=IB hm;obtain⟨j0,j1⟩:=hp.2 _ hm;have ck:=hc c mc;have h3:∀q∈lim c,E9 60 q:=fun q hq=>(uj ck q hq).mono (by decide);have h4:c.length<=60:=by have:=ck.len;omega
   simp_arith only[ah,ae,FH,bX.eq,aZ.eq]
 · have l4:((cs.zip p).map fun z=>lh z.1 z.2).length<=4:=by rw[Hs,IR];omega
   have hq:∀q∈(cs.zip p).map (fun z=>lh z.1 z.2),E9 190 q:=fun q mq=>by
    obtain⟨z,mz,rfl⟩:=HX.mp mq;exact(uk (hc _ (IB mz).1) (hp.2 z mz).1 (hp.2 z mz).2).mono (by decide)
   rw[lf];simp_arith only[ah,ae,bX.eq,aZ.eq];exact aF hQ
noncomputable def bS:List W->(Hi->Prop)->Prop:=fun ws Q=>∃(s:Sh),ws=[.d (shD s)]/\((s.OkN 45))/\Q (fr (bo s))
theorem bS.mono:∀ws (Q Q':Hi->Prop),(∀d,Q d->Q' d)->bS ws Q->bS ws Q':=fun _ _ _ h_=>HC fun _=>Ho (Ho (h_ _))
theorem bS.len:∀ws (Q:Hi->Prop),bS ws Q->ws.length=1:=fun _ _ h_=>by obtain⟨_,e_,_⟩:=h_;subst e_;rfl
theorem bS.eq(s:Sh)(hs:s.OkN 45):bS [.d (shD s)]=VL.ret (fr (bo s):Hi):=by
 refine ag fun Q=>⟨?_,fun q_=>⟨s,rfl,hs,q_⟩⟩;rintro⟨s',e_,_,q_⟩;simp_arith only[di,bE,bC,aS,aM,bI,dF,cK]at e_;obtain rfl:=e_;exact q_
theorem kJ:FnScope ["sheet", "cuts"] ["sheet"] (defScope (EE 31)):=⟨rfl,rfl,rfl,by decide +kernel,rfl,by decide +kernel,by decide +kernel⟩
theorem d_whole_of(Fn:FnIn K mg "whole_of" (EE 31) ["sheet"])(Z:Bz mg)(d_sum_of:∀rl,Dfn P w K mg base rl "sum_of" ["some"] 3 cn)(d_times:∀rl,Dfn P w K mg base rl "times" ["one", "other"] 3 dS)(d_value_in:∀rl,Dfn P w K mg base rl "value_in" ["sheet", "patch"] 1 cj)(d_patch_size:∀rl,Dfn P w K mg base rl "patch_size" ["cuts", "patch"] 5 bY)(d_patches_of:∀rl,Dfn P w K mg base rl "patches_of" ["cuts"] 2 bK)   : Dfn P w K mg base rl "whole_of" ["sheet"] 6 bS:=by
 have sc:=kJ
 refine Dfn.of Fn sc (bS.mono) (bS.len) (fun cdv A outer s H E hr=>(au (ay 1 sc.nd (br (vn 0) af))
  (ax (aH (av (d_sum_of _) (hr.mono (by decide)) (aa (bc ["patch", "sheet", "cuts"] [none,some 0,some 1] rfl (cH (av (d_patches_of _) (hr.mono (by decide)) (aa (vn 1) ab))) (fun _=>(ak 0 (show Ij (["patch", "sheet", "cuts"]:List Str) by decide +kernel))) (fun _=>cr) (fun _=>(av (d_times _) (hr.mono (by decide)) (aa (av (d_value_in _) (hr.mono (by decide)) (aa (vn 1) (aa (vn 0) ab))) (aa (av (d_patch_size _) (hr.mono (by decide)) (aa (vn 2) (aa (vn 0) ab))) ab))))) ab)))))) ?_
 rintro ws Q ⟨s,rfl,hs,hQ⟩;refine aE ?_;have sz:=HN;have c2:=s.cl;have c6:=s.cut6 hs;have cl6:∀c∈s.cuts,c.length<=6:=fun c mc=>(c6 c mc).len;have pl:=gF hs;simp_arith only[ah,ae,Hf,cn.eq,dS.eq,cj.eq,bY.eq,bK.eq];refine cg (xs:=pch s.cuts) (enc:=dC) (fun p=>fr (trm s p)) rfl ?_ (by omega) ?_
 · intro p mp;have pk:=s.pch_ok p mp;have s1:E9 2000 (s.at p):=(s.at_sm hs pk).mono (by decide);have s2:E9 2000 (eK s.cuts p):=(lY c2 c6 pk).mono (by decide);simp_arith only[ah,ae,FH,cn.eq,dS.eq,cj.eq,bY.eq,bK.eq];rfl
 · rw[lf]
   have hm:∀q∈(pch s.cuts).map (trm s),E9 85 q:=fun q mq=>by
    obtain⟨p,mp,rfl⟩:=HX.mp mq;exact tQ hs (s.pch_ok p mp)
   have ll:((pch s.cuts).map (trm s)).length<=16:=by rw[Hs];exact pl
   have ps_:cn [.d (.list (((pch s.cuts).map (trm s)).map fr))]=VL.ret (fr (bo s)):=cn.eq 85 _ (by omega) (by omega) (by decide) hm;simp_arith only[ah,ae,ps_];exact aF hQ
noncomputable def b6:List W->(Hi->Prop)->Prop:=fun ws Q=>∃(x y:Rat)(b:Bool),ws=[.d (fr x),.d (fr y),.d (.bool b)]/\((E9 2000 x)/\(E9 2000 y))/\Q (.bool (FQ x y b))
theorem b6.mono:∀ws (Q Q':Hi->Prop),(∀d,Q d->Q' d)->b6 ws Q->b6 ws Q':=fun _ _ _ h_=>HC fun _=>HC fun _=>HC fun _=>Ho (Ho (h_ _))
theorem b6.len:∀ws (Q:Hi->Prop),b6 ws Q->ws.length=3:=fun _ _ h_=>by obtain⟨_,_,_,e_,_⟩:=h_;subst e_;rfl
theorem b6.eq(x y:Rat)(b:Bool)(h1:E9 2000 x)(h2:E9 2000 y):b6 [.d (fr x),.d (fr y),.d (.bool b)]=VL.ret (.bool (FQ x y b):Hi):=by
 refine ag fun Q=>⟨?_,fun q_=>⟨x,y,b,rfl,⟨h1,h2⟩,q_⟩⟩;rintro⟨x',y',b',e_,_,q_⟩;simp_arith only[di,bE,bC,aS,aM,bI]at e_;obtain⟨rfl,rfl,rfl⟩:=e_;exact q_
theorem iY:FnScope ["one", "other", "may_meet"] ["one", "other", "may_meet"] (defScope (EE 16)):=⟨rfl,rfl,rfl,by decide +kernel,rfl,by decide +kernel,by decide +kernel⟩
theorem d_goes_ahead(Fn:FnIn K mg "goes_ahead" (EE 16) ["one", "other", "may_meet"])(Z:Bz mg)(d_is_below:∀rl,Dfn P w K mg base rl "is_below" ["one", "other"] 1 cE)   : Dfn P w K mg base rl "goes_ahead" ["one", "other", "may_meet"] 2 b6:=by
 have sc:=iY
 refine Dfn.of Fn sc (b6.mono) (b6.len) (fun cdv A outer s H E hr=>(au (eI (jt (vn 2)) (ax (aH (v_not (av (d_is_below _) (hr.mono (by decide)) (aa (vn 1) (aa (vn 0) ab)))))) c7)
  (ax (aH (av (d_is_below _) (hr.mono (by decide)) (aa (vn 0) (aa (vn 1) ab))))))) ?_
 rintro ws Q ⟨x,y,b,rfl,⟨h1,h2⟩,hQ⟩;refine aE ?_;simp_arith only[ah,ae,cE.eq,Hg];cases b<;>simp only[FQ,Km,↓reduceIte]at hQ ⊢ <;> exact aF hQ
noncomputable def gJ:List W->(Hi->Prop)->Prop:=fun ws Q=>∃(x:Rat)(s:Sd)(w:Str),ws=[.d (fr x),.d (E1 s),.d (.str w)]/\((E9 60 x)/\(s.Sm)/\(FI w))/\Q (.bool (Ft s w x))
theorem gJ.mono:∀ws (Q Q':Hi->Prop),(∀d,Q d->Q' d)->gJ ws Q->gJ ws Q':=fun _ _ _ h_=>HC fun _=>HC fun _=>HC fun _=>Ho (Ho (h_ _))
theorem gJ.len:∀ws (Q:Hi->Prop),gJ ws Q->ws.length=3:=fun _ _ h_=>by obtain⟨_,_,_,e_,_⟩:=h_;subst e_;rfl
theorem gJ.eq(x:Rat)(s:Sd)(w:Str)(sx:E9 60 x)(sm:s.Sm)(hw:FI w):gJ [.d (fr x),.d (E1 s),.d (.str w)]=VL.ret (.bool (Ft s w x):Hi):=by
 refine ag fun Q=>⟨?_,fun q_=>⟨x,s,w,rfl,⟨sx,sm,hw⟩,q_⟩⟩;rintro⟨x',s',w',e_,_,q_⟩;simp_arith only[di,bE,bC,aS,aM,bI]at e_;obtain⟨rfl,rfl,rfl⟩:=e_;exact q_
theorem vd:FnScope ["x", "side", "way", "ahead", "behind"] ["x", "side", "way"] (defScope (EE 17)):=⟨rfl,rfl,rfl,by decide +kernel,rfl,by decide +kernel,by decide +kernel⟩
theorem d_lies(Fn:FnIn K mg "lies" (EE 17) ["x", "side", "way"])(Z:Bz mg)(d_goes_ahead:∀rl,Dfn P w K mg base rl "goes_ahead" ["one", "other", "may_meet"] 2 b6)   : Dfn P w K mg base rl "lies" ["x", "side", "way"] 3 gJ:=by
 have sc:=vd
 refine Dfn.of Fn sc (gJ.mono) (gJ.len) (fun cdv A outer s H E hr=>(au (ay 3 sc.nd (av (d_goes_ahead _) (hr.mono (by decide)) (aa (vn 0) (aa (br (vn 1) (xD af)) (aa (hR vW n8 (bH _) (vn 2) fT) ab)))))
  (au (eI (cC vW n8 (bH _) (br (vn 1) af) fT) (ax (aH (vn 3))) c7)
  (au (ay 4 sc.nd (av (d_goes_ahead _) (hr.mono (by decide)) (aa (br (vn 1) af) (aa (vn 0) (aa (hR A4 xj (bH _) (vn 2) fT) ab)))))
  (au (eI (cC vW n8 (bH _) (br (vn 1) af) fT) (ax (aH (v_and (vn 4) (uN (vn 3))))) c7)
  (ax (aH (v_or (vn 4) (uN (vn 3)))))))))) ?_
 rintro ws Q ⟨x,s,w,rfl,⟨sx,sm,hw⟩,hQ⟩;have w1:decide (Iw "from" = Iw "to")=false:=by decide +kernel
 have w2:decide (Iw "round" = Iw "to")=false:=by decide +kernel
 have w3:decide (Iw "round" = Iw "from")=false:=by decide +kernel
 have w4:decide (Iw "to" = Iw "to")=true:=by decide +kernel
 have w5:decide (Iw "from" = Iw "from")=true:=by decide +kernel
 refine aE ?_;have sx':=sx.up;have a1:E9 2000 s.last:=sm.2.up;have a2:E9 2000 s.first:=sm.1.up
 cases s with
 | to t =>
   have a1:E9 2000 t:=a1;simp_arith only[ah,ae,b6.eq,Hg,w1,w2,w3,w4,w5,E1]
   exact aF hQ
 | «from» a b =>
   have a1:E9 2000 b:=a1;have a2:E9 2000 a:=a2;simp_arith only[ah,ae,b6.eq,Hg,w1,w2,w3,w4,w5,E1]
   exact aF hQ
 | round a b =>
   have a1:E9 2000 b:=a1;have a2:E9 2000 a:=a2;simp_arith only[ah,ae,b6.eq,Hg,w1,w2,w3,w4,w5,E1];exact aF hQ
noncomputable def cJ:List W->(Hi->Prop)->Prop:=fun ws Q=>∃(qs:List Rat)(ss:List Sd)(w:Str),ws=[.d (Fb qs),.d (nQ ss),.d (.str w)]/\((BC ss.length qs)/\(BD ss)/\(FI w))/\Q (.bool (FA qs ss w))
theorem cJ.mono:∀ws (Q Q':Hi->Prop),(∀d,Q d->Q' d)->cJ ws Q->cJ ws Q':=fun _ _ _ h_=>HC fun _=>HC fun _=>HC fun _=>Ho (Ho (h_ _))
theorem cJ.len:∀ws (Q:Hi->Prop),cJ ws Q->ws.length=3:=fun _ _ h_=>by obtain⟨_,_,_,e_,_⟩:=h_;subst e_;rfl
theorem cJ.eq(qs:List Rat)(ss:List Sd)(w:Str)(hp:BC ss.length qs)(hb:BD ss)(hw:FI w):cJ [.d (Fb qs),.d (nQ ss),.d (.str w)]=VL.ret (.bool (FA qs ss w):Hi):=by
 refine ag fun Q=>⟨?_,fun q_=>⟨qs,ss,w,rfl,⟨hp,hb,hw⟩,q_⟩⟩;rintro⟨qs',ss',w',e_,_,q_⟩;simp_arith only[di,bE,bC,aS,aM,bI]at e_;obtain⟨rfl,rfl,rfl⟩:=e_;exact q_
theorem ng:FnScope ["point", "box", "way"] ["point", "box", "way"] (defScope (EE 18)):=⟨rfl,rfl,rfl,by decide +kernel,rfl,by decide +kernel,by decide +kernel⟩
theorem d_lies_in(Fn:FnIn K mg "lies_in" (EE 18) ["point", "box", "way"])(Z:Bz mg)(d_lies:∀rl,Dfn P w K mg base rl "lies" ["x", "side", "way"] 3 gJ)   : Dfn P w K mg base rl "lies_in" ["point", "box", "way"] 4 cJ:=by
 have sc:=ng;refine Dfn.of Fn sc (cJ.mono) (cJ.len) (fun cdv A outer s H E hr=>(ax (aH (v_all Z.all_ (aa (bc ["x", "side", "way"] [none,none,some 2] rfl (c9 Z.zip_ (aa (vn 0) (aa (vn 1) ab))) (fun _=>(dj (n:=2) rfl (aI (ak 0 (show Ij (["x", "side", "way"]:List Str) by decide +kernel)) (aI (ak 1 (show Ij (["x", "side", "way"]:List Str) by decide +kernel)) cI)))) (fun _=>cr) (fun _=>(av (d_lies _) (hr.mono (by decide)) (aa (vn 0) (aa (vn 1) (aa (vn 2) ab)))))) ab))))) ?_;rintro ws Q ⟨qs,ss,w,rfl,⟨hp,hb,hw⟩,hQ⟩;refine aE ?_;have sz:=HN;have h4:=hb.2.1;simp_arith only[ae,Hg];rw[dD];refine cg (xs:=qs.zip ss) (fun p=>.bool (Ft p.2 w p.1)) rfl ?_ (by rw[IR];omega) ?_
 · rintro⟨x,s⟩ hm;obtain⟨mx,ms⟩:=IB hm;have:=hp.2 x mx;have:=hb.2.2 s ms;simp_arith only[ah,ae,FH,gJ.eq]
 · have e:(qs.zip ss).map (fun p=>JT (Ft p.2 w p.1))=((qs.zip ss).map fun p=>Ft p.2 w p.1).map .bool:=by rw[IU];rfl
   rw[e];simp_arith only[ah,ae];refine aF ?_;rw[List.all_map];exact hQ
theorem sd(h:s.Ok):s.OkN 45:=by
 cases s with
 | one c v=>exact⟨h.1,h.2.1,fun q mq=>(h.2.2 q mq).mono (by decide)⟩
 | two c d vs=>exact⟨h.1,h.2.1,h.2.2.1,fun v mv=>⟨(h.2.2.2 v mv).1,fun q mq=>((h.2.2.2 v mv).2 q mq).mono (by decide)⟩⟩
noncomputable def Fi(p:List Int)(i:Nat):List Int:=p.take i++[p.getD i 0+1]++p.drop (i+1)
noncomputable def bm(s:Sh):Nat->List Int->Rat
 | 0,p=>s.at p
 | i+1,p=>bm s i p-(if Fi p i∈pch s.cuts then bm s i (Fi p i)else 0)
noncomputable def FE(cs:List (List Rat))(G:List Int->Rat):List (List Int×Hi):=(pch cs).map fun p=>(p,fr (G p))
theorem kD(cs:List (List Rat))(G:List Int->Rat)(g:List Int):nL (FE cs G) g=if g∈pch cs then some (fr (G g))else none:=by
 unfold nL FE;generalize pch cs=l
 induction l with
 | nil=>rfl
 | cons a l ih =>
   rw[HE,Jo];by_cases e:a=g
   · subst e;simp
   · have e':¬g=a:=fun z=>e z.symm;simp only[e,decide_false];rw[ih];simp[e']
theorem vE{k:List Int}{x:Hi}(h:∀kv∈kvs,kv.1≠k):i9 kvs k x=kvs++[(k,x)]:=by
 unfold i9;rw[if_neg];simp only[List.any_eq_true,decide_eq_true_eq,not_exists,not_and];exact h
theorem qh(G:List Int->Hi):∀(l r:List (List Int)),(r++l).Nodup->(l.map fun p=>(p,G p)).foldl (fun a p=>i9 a p.1 p.2) (r.map fun p=>(p,G p))=(r++l).map fun p=>(p,G p)
 | [],r,_=>by simp
 | a::l,r,h=>by
   have hn:∀kv∈r.map (fun p=>(p,G p)),kv.1≠a:=by
    intro kv mk;obtain⟨p,mp,rfl⟩:=HX.mp mk;intro e;have:=(Na.mp h).2.2 p mp a Hr;exact this e
   rw[HE,IH,vE hn];have e:(r.map fun p=>(p,G p))++[(a,G a)]=(r++[a]).map fun p=>(p,G p):=by simp
   show KQ _ ((r.map fun p=>(p,G p))++[(a,G a)]) _=_;rw[e,qh G l (r++[a]) (by simpa using h)];simp
theorem ln(a:Int)(n:Nat):(fq a n).Nodup:=by
 unfold fq;refine Lj.mpr ?_;exact(List.nodup_range (n:=n)).imp fun h=>by omega
theorem yK(s:Sh):(pch s.cuts).Nodup:=by
 cases s with
 | one c v =>
   show(FW [fq 0 (c.length+1)]).Nodup;rw[wX]
   exact Lj.mpr ((ln 0 _).imp fun h e=>h (by injection e))
 | two c d vs =>
   show(FW [fq 0 (c.length+1),fq 0 (d.length+1)]).Nodup;rw[zD];refine List.pairwise_flatMap.mpr ⟨fun a _=>Lj.mpr ((ln 0 _).imp fun h e=>h (by injection e with _ e;injection e)),(ln 0 _).imp fun{a b} h x mx y my e=>?_⟩;obtain⟨j,_,rfl⟩:=HX.mp mx;obtain⟨k,_,rfl⟩:=HX.mp my
   injection e with e
   exact h e
theorem t9(s:Sh)(G:List Int->Rat):((pch s.cuts).map fun p=>(p,fr (G p))).foldl (fun a p=>i9 a p.1 p.2) []=FE s.cuts G:=qh (fun p=>fr (G p)) (pch s.cuts) [] (yK s)
theorem l_(h:kd s.cuts p):p∈pch s.cuts:=by
 cases s with
 | one c v =>
   obtain⟨k,rfl,k0,k1⟩:=kd.one h;show [k]∈FW [fq 0 (c.length+1)];rw[wX]
   exact HX.mpr ⟨k,Aa.mpr (by omega),rfl⟩
 | two c d vs =>
   obtain⟨k,j,rfl,⟨k0,k1⟩,j0,j1⟩:=kd.two h;show [k,j]∈FW [fq 0 (c.length+1),fq 0 (d.length+1)];rw[zD];exact Jz.mpr ⟨k,Aa.mpr (by omega),HX.mpr ⟨j,Aa.mpr (by omega),rfl⟩⟩
theorem jh{m:Nat}{s:Sh}(h:s.OkM m 20):∀(i:Nat)(p:List Int),p∈pch s.cuts->E9 (21*2^i-1) (bm s i p)
 | 0,p,mp=>(s.at_sm h (s.pch_ok p mp)).mono (by omega)
 | i+1,p,mp=>by
   have h1:=jh h i p mp
   have h2:E9 (21*2^i-1) (if Fi p i∈pch s.cuts then bm s i (Fi p i)else 0):=by
    split
    · exact jh h i _ (by assumption)
    · exact q0s.mono (by have:=Nat.pow_pos (n:=i) (show 0<2 by decide);omega)
   have e:21*2^i-1+(21*2^i-1)+1=21*2^(i+1)-1:=by rw[MQ];have:=Nat.pow_pos (n:=i) (show 0<2 by decide);omega
   rw[<- e];exact oG h1 h2
theorem jg(h:s.OkM m 20)(hi:i<=2)(mp:p∈pch s.cuts):E9 90 (bm s i p):=(jh h i p mp).mono (by
 have:=HJ (show 0<2 by decide) hi;omega)
noncomputable def endsP(cs:List (List Rat))(p:List Int):List Rat:=(cs.zip p).map fun z=>(z.1++[1]).getD z.2.toNat 0
noncomputable def Eh(z:List Rat×Rat):Hi:=.tuple [FX z.1,fr z.2]
noncomputable def fZ(s:Sh):List (List Rat×Rat):=((pch s.cuts).filter fun p=>decide (bm s s.cuts.length p≠0)).map fun p=>(endsP s.cuts p,bm s s.cuts.length p)
noncomputable def E3(q:Rat):Rat:=if q<0 then -q else q
noncomputable def hU(l:List (List Rat×Rat)):Rat:=l.foldl (fun a z=>if z.1=HB z.1.length 1 then a else a+E3 z.2) 0
theorem zq(a b:Rat):IL (EG a) (EG b)=decide (a=b):=by
 have e:=eqv_fr a b;show IL (.tuple [.str "to", fr a]) (.tuple [.str "to", fr b])=_;simp only[IL,Kc]at e ⊢;simp[e]
theorem qo:∀(es fs:List Rat),Kc (es.map EG) (fs.map EG)=decide (es=fs)
 | [],[]=>by simp[Kc]
 | [],_::_=>by simp[Kc]
 | _::_,[]=>by simp[Kc]
 | a::es,b::fs=>by
   rw[HE,HE];unfold Kc;rw[zq,qo es fs];by_cases h:a=b<;>by_cases g:es=fs<;>simp[h,g]
theorem zr(es fs:List Rat):IL (FX es) (FX fs)=decide (es=fs):=by
 unfold FX;simp only[IL];exact qo es fs
theorem jB(es:List Rat):IK (FX es)=true:=by
 have h1:∀es:List Rat,IE (es.map EG)=true:=fun es=>by
  induction es with
  | nil=>rfl
  | cons e es ih=>simp[IE,JR,EG,E1,fr]at ih ⊢;exact⟨by decide +kernel,ih⟩
 have h2:∀es:List Rat,IN (es.map EG)<=3:=fun es=>by
  induction es with
  | nil=>simp[IN]
  | cons e es ih =>
    rw[HE];unfold IN;have:(EG e).depth<=2:=by simp[EG,E1,fr,Ks,IN]
    omega
 have:=h2 es;unfold FX IK;simp[JR,h1,Ks];omega
theorem sa(n:Nat):Ii (HB n [Ii [NM (Iw "to"),fr 1]]).flatten=FX (HB n 1):=by
 rw[List.flatten_replicate_singleton];unfold FX;rw[List.map_replicate];rfl
theorem dU(h:kd s.cuts p):(endsP s.cuts p).length=s.cuts.length:=by unfold endsP;rw[Hs,IR,h.1,LS]
theorem cpos(s:Sh):1<=s.cuts.length:=by cases s<;>simp[Sh.cuts]
theorem kj(h:z∈fZ s):∃p∈pch s.cuts,bm s s.cuts.length p≠0/\z=(endsP s.cuts p,bm s s.cuts.length p):=by
 obtain⟨p,mp,rfl⟩:=HX.mp h;obtain⟨m1,m2⟩:=LA.mp mp;exact⟨p,m1,of_decide_eq_true m2,rfl⟩
theorem uD(h:z∈fZ s):1<=z.1.length:=by
 obtain⟨p,mp,_,rfl⟩:=kj h;rw[dU (s.pch_ok p mp)];exact cpos s
theorem re(h:z∈fZ s):z.1.length<=2:=by
 obtain⟨p,mp,_,rfl⟩:=kj h;rw[dU (s.pch_ok p mp)];exact s.cl
theorem tE(hs:s.OkM m 20)(h:z∈fZ s):E9 90 z.2:=by
 obtain⟨p,mp,_,rfl⟩:=kj h;exact jg hs s.cl mp
theorem oY(h:E9 n q):E9 n (E3 q):=by
 unfold E3;split
 · exact⟨by have:=h.1;rw[Mp,Ll];exact this,by rw[Od];exact h.2⟩
 · exact h
theorem v7:q.num<0↔q<0:=by
 rw[<- Rat.not_le,<- Rat.num_nonneg];omega
theorem ur(q:Rat):Ii [.int (if q.num<0 then -q.num else q.num),.int (q.den:Int)]=fr (E3 q):=by
 unfold E3 fr;by_cases c:q<0
 · have c':q.num<0:=v7.mpr c;rw[if_pos c,if_pos c',Mp,Od]
 · have c':¬q.num<0:=fun z=>c (v7.mp z);rw[if_neg c,if_neg c']
theorem lU(l:List (List Rat×Rat))(hi:i<l.length):hU (l.take (i+1))=if l[i].1=HB l[i].1.length 1 then hU (l.take i)else hU (l.take i)+E3 l[i].2:=by
 unfold hU;rw[HG hi,JF];rfl
theorem xb(hs:s.Ok):(fZ s).length<=16:=by
 have:=gF hs;have h:=Jh (fun p=>decide (bm s s.cuts.length p≠0)) (pch s.cuts);unfold fZ;rw[Hs];omega
theorem tS(hs:s.Ok):∀i:Nat,E9 1600 (hU ((fZ s).take i))/\E9 2000 (hU ((fZ s).take i)):=by
 have n16:=xb hs
 have key:∀i,i<=16->E9 (1+91*i) (hU ((fZ s).take i)):=fun i=>by
  induction i with
  | zero=>intro _;exact q0s
  | succ i ih =>
    intro hi;have h:=ih (by omega);by_cases c:i<(fZ s).length
    · rw[lU _ c];split
      · exact h.mono (by omega)
      · exact(j_ h (oY (tE hs (HZ c)))).mono (by omega)
    · rw[HF (by omega)];rw[HF (by omega)]at h;exact h.mono (by omega)
 intro i;by_cases c:i<=16
 · have:=key i c;exact⟨this.mono (by omega),this.mono (by omega)⟩
 · have:=key 16 (by omega);rw[HF n16]at this;rw[HF (by omega)];exact⟨this.mono (by omega),this.mono (by omega)⟩
noncomputable def Ek(W:List (List Rat×Rat)):List Rat->List (List Rat)->Hi
 | b,[]=>fr (bJ ((W.filter fun z=>opB b z.1).map (·.2)))
 | b,c::cs=>.tuple ((0::c).map fun x=>Ek W (b++[x]) cs)
noncomputable def Ge(n:Nat)(W:List (List Rat×Rat)):Prop:=W.length<=49/\∀z∈W,z.1.length=n/\(∀q∈z.1,E9 60 q)/\E9 38 z.2
noncomputable def G_(cs:List (List Rat)):Prop:=1<=cs.length/\cs.length<=2/\∀c∈cs,c.length<=6/\∀q∈c,E9 60 q
theorem wL(es:List Rat):FX es=nQ (es.map Sd.to):=by unfold FX nQ;rw[IU];rfl
theorem Ba{b:List Rat}:FA b (es.map Sd.to) "half" = opB b es:=by
 unfold FA opB
 induction b generalizing es with
 | nil=>rfl
 | cons x b ih =>
   cases es with
   | nil=>rfl
   | cons e es =>
     rw[HE,List.zip_cons_cons,List.zip_cons_cons,Lw,Lw,ih];congr 1
theorem dv(p:List Int):kf (.d (dC p))=some p:=zM p
theorem du(kvs:List (List Int×Hi)):(W.xm kvs).isPk=false:=rfl
theorem dt(kvs:List (List Int×Hi)):(W.xr kvs).isPk=false:=rfl
theorem Br(xs:List α)(f:α->Hi)(k:Nat):VL.cutD (xs.map f) none (some (k:Int))=(xs.take k).map f:=by
 unfold VL.cutD;rw[HT.sIx_none,HT.sIx_nat,List.drop_zero,Hs,NU,<- List.map_take];congr 1;by_cases z:k<=xs.length
 · rw[MW z]
 · rw[Mu (by omega),HF (by omega),HF (by omega)]
theorem Bs(xs:List α)(f:α->Hi)(k:Nat):VL.cutD (xs.map f) (some (k:Int)) none=(xs.drop k).map f:=by
 unfold VL.cutD;rw[HT.sIx_none,HT.sIx_nat,Hs,<- List.map_drop];by_cases z:k<=xs.length
 · rw[MW z,HF (by simp)]
 · rw[Mu (by omega),MD (show xs.length<=xs.length by omega),MD (show xs.length<=k by omega)];simp
noncomputable def bZ:List W->(Hi->Prop)->Prop:=fun ws Q=>∃(p:List Int)(i:Int),ws=[.d (dC p),.d (.int i)]/\((0<=i)/\(i<(p.length:Int))/\(p.length<=2))/\Q (dC (Fi p i.toNat))
theorem bZ.mono:∀ws (Q Q':Hi->Prop),(∀d,Q d->Q' d)->bZ ws Q->bZ ws Q':=fun _ _ _ h_=>HC fun _=>HC fun _=>Ho (Ho (h_ _))
theorem bZ.len:∀ws (Q:Hi->Prop),bZ ws Q->ws.length=2:=fun _ _ h_=>by obtain⟨_,_,e_,_⟩:=h_;subst e_;rfl
theorem bZ.eq(p:List Int)(i:Int)(i0:0<=i)(hi:i<(p.length:Int))(hl:p.length<=2):bZ [.d (dC p),.d (.int i)]=VL.ret (dC (Fi p i.toNat):Hi):=by
 refine ag fun Q=>⟨?_,fun q_=>⟨p,i,rfl,⟨i0,hi,hl⟩,q_⟩⟩;rintro⟨p',i',e_,_,q_⟩;simp_arith only[di,bE,bC,aS,aM,bI,dF,cK]at e_;obtain⟨rfl,rfl⟩:=e_;exact q_
theorem iX:FnScope ["patch", "side"] ["patch", "side"] (defScope (EE 32)):=⟨rfl,rfl,rfl,by decide +kernel,rfl,by decide +kernel,by decide +kernel⟩
theorem d_next_patch(Fn:FnIn K mg "next_patch" (EE 32) ["patch", "side"])(Z:Bz mg)    : Dfn P w K mg base rl "next_patch" ["patch", "side"] 1 bZ:=by
 have sc:=iX;refine Dfn.of Fn sc (bZ.mono) (bZ.len) (fun cdv A outer s H E hr=>(ax (aH (dJ (dJ (xA (vn 0) kz (kr (vn 1))) (bD (aa (v_add (br (vn 0) (vn 1)) af) ab))) (xA (vn 0) (kr (v_add (vn 1) af)) kz))))) ?_;rintro ws Q ⟨p,i,rfl,⟨i0,hi,hl⟩,hQ⟩;refine aE ?_;have sz:=HN;have e1:=cp (xs:=p) 0 i0 hi;obtain⟨k,rfl⟩:∃k:Nat,i=(k:Int):=⟨i.toNat,by omega⟩;rw[JE]at *;have c1:=Br p Iv k;have c2:=Bs p Iv (k+1);rw[show((k+1:Nat):Int)=(k:Int)+1 by omega]at c2;have g1:(p.take k).length+1<=sizeLine:=by rw[Iz];omega
 have g2:(p.take k).length+1+(p.drop (k+1)).length<=sizeLine:=by rw[Iz,Ms];omega
 have eo:Ii ((p.take k).map Iv++[Iv (p.getD k 0+1)]++(p.drop (k+1)).map Iv)=dC (Fi p k):=by
  unfold Fi dC;simp
 have g3:((p.take k).map Iv++[Iv (p.getD k 0+1)]).length+(p.drop (k+1)).length<=sizeLine:=by rw[HS,Hs];exact g2
 simp_arith only[ah,ae,Hf,e1,c1,c2,g1,g3];rw[eo];exact aF hQ
noncomputable def cS:List W->(G3->Prop)->Prop:=fun ws Q=>∃(s:Sh),ws=[.d (shD s)]/\((s.Ok))/\Q (FE s.cuts (bm s s.cuts.length))
theorem cS.mono:∀ws (Q Q':G3->Prop),(∀d,Q d->Q' d)->cS ws Q->cS ws Q':=fun _ _ _ h_=>HC fun _=>Ho (Ho (h_ _))
theorem cS.len:∀ws (Q:G3->Prop),cS ws Q->ws.length=1:=fun _ _ h_=>by obtain⟨_,e_,_⟩:=h_;subst e_;rfl
theorem cS.eq(s:Sh)(hs:s.Ok):cS [.d (shD s)]=VL.ret (FE s.cuts (bm s s.cuts.length):G3):=by
 refine ag fun Q=>⟨?_,fun q_=>⟨s,rfl,hs,q_⟩⟩;rintro⟨s',e_,_,q_⟩;simp_arith only[di,bE,bC,aS,aM,bI,dF,cK]at e_;obtain rfl:=e_;exact q_
theorem kU:FnScope ["sheet", "cuts", "falls", "side"] ["sheet"] (defScope (EE 33)):=⟨rfl,rfl,rfl,by decide +kernel,rfl,by decide +kernel,by decide +kernel⟩
theorem d_falls_of(Fn:FnIn K mg "falls_of" (EE 33) ["sheet"])(Z:Bz mg)(d_value_in:∀rl,Dfn P w K mg base rl "value_in" ["sheet", "patch"] 1 cj)(d_patches_of:∀rl,Dfn P w K mg base rl "patches_of" ["cuts"] 2 bK)(d_less:∀rl,Dfn P w K mg base rl "less" ["one", "other"] 3 fV)(d_next_patch:∀rl,Dfn P w K mg base rl "next_patch" ["patch", "side"] 1 bZ)(gl_ZERO:GlD K mg "ZERO" (pr 0 1))  : DfnX P w K mg base rl "falls_of" ["sheet"] 4 cS:=by
 have sc:=kU
 refine DfnX.of Fn sc (cS.mono) (cS.len) (fun cdv A outer s H E hr=>(au (ay 1 sc.nd (br (vn 0) af))
  (au (lL 2 (fQ 2 sc.nd ["patch", "sheet"] [none,some 0] hr.units rfl (cH (av (d_patches_of _) (hr.mono (by decide)) (aa (vn 1) ab))) (fun _=>(ak 0 (show Ij (["patch", "sheet"]:List Str) by decide +kernel))) (fun _=>cr) (fun _=>(vn 0)) (fun _=>(av (d_value_in _) (hr.mono (by decide)) (aa (vn 1) (aa (vn 0) ab))))))
  (au (cx [3] Ih rfl (cu Z.range_ (aa (dg Z.len_ (aa (vn 1) ab)) ab)) (ak 3 sc.nd) (ax (lL 2 (fQ 2 sc.nd ["patch", "falls", "side"] [none,some 2,some 3] hr.units rfl (lN (vn 2)) (fun _=>(ak 0 (show Ij (["patch", "falls", "side"]:List Str) by decide +kernel))) (fun _=>cr) (fun _=>(vn 0)) (fun _=>(av (d_less _) (hr.mono (by decide)) (aa (n_ 1 hr.units (vn 0)) (aa (rh 1 hr.units (av (d_next_patch _) (hr.mono (by decide)) (aa (vn 0) (aa (vn 2) ab))) (eQ gl_ZERO)) ab))))))))
  (ax (aH (vn 2))))))) ?_
 rintro ws Q ⟨s,rfl,hs,hQ⟩;refine rL ?_;have sz:=HN;have pl:=gF hs;have h45:=sd hs;have c2:=s.cl;have c6:=s.cut6 hs;have cl6:∀c∈s.cuts,c.length<=6:=fun c mc=>(c6 c mc).len;simp_arith only[ah,ae,Hf,cj.eq,bK.eq,fV.eq,bZ.eq,cV,dq,cw,dn,eF,EX,lW,nI,mW,du,hJ,cU,dr,dt,dv];refine EU (nU (xs:=pch s.cuts) (enc:=dC) (fun p=>(p,fr (s.at p))) rfl ?_ (by omega) ?_)
 · intro p mp;have pk:=s.pch_ok p mp;simp_arith only[ah,ae,nN,cj.eq,bK.eq,fV.eq,bZ.eq,cV,dq,cw,dn,eF,EX,lW,nI,mW,du,hJ,cU,dr,dt,dv]
 rw[t9];have el:lj (ptsQ s.cuts)=some s.cuts.length:=by show some (s.cuts.map Fb).length=_;rw[Hs]
 have g0 : -(2^62)<=(s.cuts.length:Int)/\(s.cuts.length:Int)<2^62:=by omega
 simp_arith only[ah,ae,Hf,el,cj.eq,bK.eq,fV.eq,bZ.eq,cV,dq,cw,dn,eF,EX,lW,nI,mW,du,hJ,cU,dr,dt,dv];refine eN (fun i ρ=>ρ=[some (.d (shD s)),some (.d (ptsQ s.cuts)),some (.xr (FE s.cuts (bm s i))),none]) rfl ?_ ?_
 · rintro i hi ρ rfl K hK;simp_arith only[ah,ae,Hf,cj.eq,bK.eq,fV.eq,bZ.eq,cV,dq,cw,dn,eF,EX,lW,nI,mW,du,hJ,cU,dr,dt,dv];have kl:(FE s.cuts (bm s i)).length<=16:=by unfold FE;rw[Hs];exact pl
   refine EU (nU (xs:=pch s.cuts) (enc:=dC) (fun p=>(p,fr (bm s (i+1) p))) ?_ ?_ (by omega) ?_)
   · unfold FE;rw[IU];rfl
   · intro p mp;have pk:=s.pch_ok p mp;have v1:nL (FE s.cuts (bm s i)) p=some (fr (bm s i p)):=by rw[kD,if_pos mp]
     have v2:(nL (FE s.cuts (bm s i)) (Fi p i)).getD (pr 0 1)=fr (if Fi p i∈pch s.cuts then bm s i (Fi p i)else 0):=by
      rw[kD];split<;>rfl
     have s1:E9 2000 (bm s i p):=(jg hs (by omega) mp).mono (by decide)
     have s2:E9 2000 (if Fi p i∈pch s.cuts then bm s i (Fi p i)else 0):=by
      split
      · exact(jg hs (by omega) (by assumption)).mono (by decide)
      · exact q0s.mono (by decide)
     have i2:(i:Int)<(p.length:Int):=by rw[pk.1];omega
     have p2:p.length<=2:=by rw[pk.1];exact c2
     have et:(0+(i:Int)).toNat=i:=by omega
     simp_arith only[ah,ae,nN,cj.eq,bK.eq,fV.eq,bZ.eq,cV,dq,cw,dn,eF,EX,lW,nI,mW,du,hJ,cU,dr,dt,dv,v1,v2,et];rfl
   rw[t9];simp_arith only[ah,ae,Hf,cj.eq,bK.eq,fV.eq,bZ.eq,cV,dq,cw,dn,eF,EX,lW,nI,mW,du,hJ,cU,dr,dt,dv];refine(show sq (VL.ret (Fl.nx _)) (mS _) K from ?_);simp_arith only[ah,ae,Hf,cj.eq,bK.eq,fV.eq,bZ.eq,cV,dq,cw,dn,eF,EX,lW,nI,mW,du,hJ,cU,dr,dt,dv];exact hK _ (cf rfl)
 · rintro ρ rfl;simp_arith only[ah,ae,Hf,cj.eq,bK.eq,fV.eq,bZ.eq,cV,dq,cw,dn,eF,EX,lW,nI,mW,du,hJ,cU,dr,dt,dv];exact vg hQ
noncomputable def bv:List W->(Hi->Prop)->Prop:=fun ws Q=>∃(cs:List (List Rat))(p:List Int),ws=[.d (ptsQ cs),.d (dC p)]/\((cs.length<=2)/\(∀c∈cs,da 6 c)/\(kd cs p))/\Q (FX (endsP cs p))
theorem bv.mono:∀ws (Q Q':Hi->Prop),(∀d,Q d->Q' d)->bv ws Q->bv ws Q':=fun _ _ _ h_=>HC fun _=>HC fun _=>Ho (Ho (h_ _))
theorem bv.len:∀ws (Q:Hi->Prop),bv ws Q->ws.length=2:=fun _ _ h_=>by obtain⟨_,_,e_,_⟩:=h_;subst e_;rfl
theorem bv.eq(cs:List (List Rat))(p:List Int)(hl:cs.length<=2)(hc:∀c∈cs,da 6 c)(hp:kd cs p):bv [.d (ptsQ cs),.d (dC p)]=VL.ret (FX (endsP cs p):Hi):=by
 refine ag fun Q=>⟨?_,fun q_=>⟨cs,p,rfl,⟨hl,hc,hp⟩,q_⟩⟩;rintro⟨cs',p',e_,_,q_⟩;simp_arith only[di,bE,bC,aS,aM,bI,dF,cK]at e_;obtain⟨rfl,rfl⟩:=e_;exact q_
theorem gt:FnScope ["cuts", "patch"] ["cuts", "patch"] (defScope (EE 34)):=⟨rfl,rfl,rfl,by decide +kernel,rfl,by decide +kernel,by decide +kernel⟩
theorem d_patch_corner(Fn:FnIn K mg "patch_corner" (EE 34) ["cuts", "patch"])(Z:Bz mg)(gl_ONE:GlD K mg "ONE" (pr 1 1))  : Dfn P w K mg base rl "patch_corner" ["cuts", "patch"] 1 bv:=by
 have sc:=gt;refine Dfn.of Fn sc (bv.mono) (bv.len) (fun cdv A outer s H E hr=>(ax (aH (cO Z.tuple_ (aa (bc ["ends", "stretch"] [none,none] rfl (c9 Z.zip_ (aa (vn 0) (aa (vn 1) ab))) (fun _=>(dj (n:=2) rfl (aI (ak 0 (show Ij (["ends", "stretch"]:List Str) by decide +kernel)) (aI (ak 1 (show Ij (["ends", "stretch"]:List Str) by decide +kernel)) cI)))) (fun _=>cr) (fun _=>(bD (aa fT (aa (br (dJ (vn 0) (bD (aa (eQ gl_ONE) ab))) (vn 1)) ab))))) ab))))) ?_;rintro ws Q ⟨cs,p,rfl,⟨hl,hc,hp⟩,hQ⟩;refine aE ?_;have sz:=HN;simp_arith only[ah,ae,Hf,Hg];rw[dD];refine cg (xs:=cs.zip p) (enc:=fun z=>Ii [Fb z.1,.int z.2]) (fun z=>EG ((z.1++[1]).getD z.2.toNat 0)) rfl ?_ (by rw[IR];omega) ?_
 · rintro⟨c,j⟩ hm;obtain⟨mc,mj⟩:=IB hm;obtain⟨j0,j1⟩:=hp.2 _ hm;dsimp only at j0 j1;have h4:c.length<=6:=(hc c mc).len;have e1:=cp (xs:=c++[1]) 0 j0 (by simp;omega)
   have e2:atI (c.map fr++[fr 1]) j=some (fr ((c++[1]).getD j.toNat 0)):=by
    rw[show c.map fr++[fr 1]=(c++[1]).map fr by rw[Ir];rfl,atI_map,e1];rfl
   have g1:(c.map fr).length+1<=sizeLine:=by rw[Hs];omega
   have g2:c.length+1<=sizeLine:=by omega
   simp_arith only[ah,ae,FH,Hf,Hg,e2];rfl
 · refine aF ?_;unfold FX endsP at hQ;rw[IU]at hQ;exact hQ
noncomputable def bV:List W->(Hi->Prop)->Prop:=fun ws Q=>∃(s:Sh),ws=[.d (shD s)]/\((s.Ok))/\Q (.tuple ((fZ s).map Eh))
theorem bV.mono:∀ws (Q Q':Hi->Prop),(∀d,Q d->Q' d)->bV ws Q->bV ws Q':=fun _ _ _ h_=>HC fun _=>Ho (Ho (h_ _))
theorem bV.len:∀ws (Q:Hi->Prop),bV ws Q->ws.length=1:=fun _ _ h_=>by obtain⟨_,e_,_⟩:=h_;subst e_;rfl
theorem bV.eq(s:Sh)(hs:s.Ok):bV [.d (shD s)]=VL.ret (.tuple ((fZ s).map Eh):Hi):=by
 refine ag fun Q=>⟨?_,fun q_=>⟨s,rfl,hs,q_⟩⟩;rintro⟨s',e_,_,q_⟩;simp_arith only[di,bE,bC,aS,aM,bI,dF,cK]at e_;obtain rfl:=e_;exact q_
theorem iR:FnScope ["sheet", "falls"] ["sheet"] (defScope (EE 35)):=⟨rfl,rfl,rfl,by decide +kernel,rfl,by decide +kernel,by decide +kernel⟩
theorem d_weights_of(Fn:FnIn K mg "weights_of" (EE 35) ["sheet"])(Z:Bz mg)(d_falls_of:∀rl,DfnX P w K mg base rl "falls_of" ["sheet"] 4 cS)(d_patch_corner:∀rl,Dfn P w K mg base rl "patch_corner" ["cuts", "patch"] 1 bv)(gl_ZERO:GlD K mg "ZERO" (pr 0 1))  : Dfn P w K mg base rl "weights_of" ["sheet"] 5 bV:=by
 have sc:=iR
 refine Dfn.of Fn sc (bV.mono) (bV.len) (fun cdv A outer s H E hr=>(au (eE 1 sc.nd (uP (d_falls_of _) (hr.mono (by decide)) (aa (vn 0) ab)))
  (ax (aH (cO Z.tuple_ (aa (bc ["patch", "sheet", "falls"] [none,some 0,some 1] rfl (lN (vn 1)) (fun _=>(ak 0 (show Ij (["patch", "sheet", "falls"]:List Str) by decide +kernel))) (fun _=>nX (cC (ip hr.units) df (bH _) (n_ 2 hr.units (vn 0)) (eQ gl_ZERO))) (fun _=>(bD (aa (av (d_patch_corner _) (hr.mono (by decide)) (aa (br (vn 1) af) (aa (vn 0) ab))) (aa (n_ 2 hr.units (vn 0)) ab))))) ab)))))) ?_
 rintro ws Q ⟨s,rfl,hs,hQ⟩;refine aE ?_;have sz:=HN;have pl:=gF hs;have c2:=s.cl;have c6:=s.cut6 hs;simp_arith only[ah,ae,Hf,cS.eq,bv.eq,cV,dq,cw,dn,eF,EX,lW,nI,mW,du,hJ,cU,dr,dt,dv];refine qK (xs:=pch s.cuts) (enc:=dC) (fun p=>if decide (bm s s.cuts.length p≠0)=true then some (Eh (endsP s.cuts p,bm s s.cuts.length p))else none) ?_ ?_ (by omega) ?_
 · unfold FE;rw[IU];rfl
 · intro p mp;have pk:=s.pch_ok p mp;have v1:nL (FE s.cuts (bm s s.cuts.length)) p=some (fr (bm s s.cuts.length p)):=by rw[kD,if_pos mp]
   have sh:=eU (bm s s.cuts.length p);have ev:(fr (bm s s.cuts.length p)).eqv (pr 0 1)=decide (bm s s.cuts.length p=0):=eqv_fr _ 0;simp_arith only[ah,ae,FH,Hf,cS.eq,bv.eq,cV,dq,cw,dn,eF,EX,lW,nI,mW,du,hJ,cU,dr,dt,dv,v1,sh,ev];by_cases c:bm s s.cuts.length p=0<;>simp[c]<;>rfl
 · rw[qi];refine aF ?_;unfold fZ at hQ;rw[IU]at hQ;exact hQ
noncomputable def cQ:List W->(Hi->Prop)->Prop:=fun ws Q=>∃(s:Sh),ws=[.d (shD s)]/\((s.Ok))/\Q (fr (hU (fZ s)))
theorem cQ.mono:∀ws (Q Q':Hi->Prop),(∀d,Q d->Q' d)->cQ ws Q->cQ ws Q':=fun _ _ _ h_=>HC fun _=>Ho (Ho (h_ _))
theorem cQ.len:∀ws (Q:Hi->Prop),cQ ws Q->ws.length=1:=fun _ _ h_=>by obtain⟨_,e_,_⟩:=h_;subst e_;rfl
theorem cQ.eq(s:Sh)(hs:s.Ok):cQ [.d (shD s)]=VL.ret (fr (hU (fZ s)):Hi):=by
 refine ag fun Q=>⟨?_,fun q_=>⟨s,rfl,hs,q_⟩⟩;rintro⟨s',e_,_,q_⟩;simp_arith only[di,bE,bC,aS,aM,bI,dF,cK]at e_;obtain rfl:=e_;exact q_
theorem kN:FnScope ["sheet", "swing", "box", "top", "bottom"] ["sheet"] (defScope (EE 38)):=⟨rfl,rfl,rfl,by decide +kernel,rfl,by decide +kernel,by decide +kernel⟩
theorem d_swing_of(Fn:FnIn K mg "swing_of" (EE 38) ["sheet"])(Z:Bz mg)(d_weights_of:∀rl,Dfn P w K mg base rl "weights_of" ["sheet"] 5 bV)(d_plus:∀rl,Dfn P w K mg base rl "plus" ["one", "other"] 3 gG)(gl_ZERO:GlD K mg "ZERO" (pr 0 1))(gl_ONE:GlD K mg "ONE" (pr 1 1))  : Dfn P w K mg base rl "swing_of" ["sheet"] 6 cQ:=by
 have sc:=kN
 refine Dfn.of Fn sc (cQ.mono) (cQ.len) (fun cdv A outer s H E hr=>(au (ay 1 sc.nd (eQ gl_ZERO))
  (au (cx [2,3,4] Ih rfl (dO (av (d_weights_of _) (hr.mono (by decide)) (aa (vn 0) ab))) (dj (n:=2) rfl (aI (ak 2 sc.nd) (aI (dj (n:=2) rfl (aI (ak 3 sc.nd) (aI (ak 4 sc.nd) cI))) cI))) (ax (eI (cC (ip hr.units) df (bH _) (vn 2) (xC (bD (aa (bD (aa fT (aa (eQ gl_ONE) ab))) ab)) (dg Z.len_ (aa (vn 2) ab)))) (ax (ay 1 sc.nd (av (d_plus _) (hr.mono (by decide)) (aa (vn 1) (aa (bD (aa (rm Z.abs_ (aa (vn 3) ab)) (aa (vn 4) ab))) ab))))) c7)))
  (ax (aH (vn 1)))))) ?_
 rintro ws Q ⟨s,rfl,hs,hQ⟩;refine aE ?_;have sz:=HN;simp_arith only[ah,ae,Hf,bV.eq,gG.eq,Hg];refine dA (xs:=fZ s) (enc:=Eh) (fun i ρ=>ρ=[some (.d (shD s)),some (.d (fr (hU ((fZ s).take i)))),none,none,none]) rfl rfl ?_ ?_
 · rintro i hi ρ rfl K hK;have mi:=HZ hi;generalize hz:(fZ s)[i]=z at *;have z1:1<=z.1.length:=uD mi;have z2:z.1.length<=2:=re mi;have gz:(z.1.length:Int)<2^62:=by omega
   have gz2:1*z.1.length<=sizeLine:=by omega
   have gz1:(1:Int)<=(z.1.length:Int):=by omega
   have sb:=jB z.1;have so:=jB (HB z.1.length 1);have ev:=zr z.1 (HB z.1.length 1);obtain⟨w1,w2⟩:=tS hs i;have ss:=lU (fZ s) hi;rw[hz]at ss;have ea:=ur z.2;have qz:E9 90 z.2:=tE hs mi;have sr:E9 2000 (E3 z.2):=(oY qz).mono (by decide);have tb:tupD (Eh z)=some [FX z.1,fr z.2]:=rfl;have tl:lj (FX z.1)=some z.1.length:=by show some (z.1.map EG).length=_;rw[Hs]
   simp_arith only[ah,ae,Hf,bV.eq,gG.eq,Hg,tb,tl,uY,sa,gz,gz1,gz2,sb,so,ev,ea];refine hK _ (cf ?_);rw[ss];by_cases c:z.1=HB z.1.length 1
   · rw[if_pos c,if_neg (by rw[decide_eq_true c];decide)];rfl
   · rw[if_neg c,if_pos (by rw[decide_eq_false c];decide)];rfl
 · rintro ρ rfl;rw[HF (Hw _)];simp_arith only[ah,ae,Hg];exact aF hQ
noncomputable def aR(m:Nat):List W->(Hi->Prop)->Prop:=fun ws Q=>∃(cs:List (List Rat))(V:List (List Rat×Rat))(b:List Rat),ws=[.d (ptsQ cs),.d (.tuple (V.map Eh)),.d (Fb b)]/\(b.length<=cs.length/\cs.length-b.length<m/\G_ cs/\Ge cs.length V/\∀q∈b,E9 60 q)/\Q (Ek V b (cs.drop b.length))
theorem aR.mono(m:Nat):∀ws (Q Q':Hi->Prop),(∀d,Q d->Q' d)->aR m ws Q->aR m ws Q':=fun _ _ _ h_=>HC fun _=>HC fun _=>HC fun _=>Ho (Ho (h_ _))
theorem aR.len(m:Nat):∀ws (Q:Hi->Prop),aR m ws Q->ws.length=3:=fun _ _ h_=>by obtain⟨_,_,_,e_,_⟩:=h_;subst e_;rfl
theorem Ak{x y:List Rat×Rat}:Eh x=Eh y↔x=y:=by
 unfold Eh;simp only[Iy,Ie,and_true,qR,di];constructor
 · rintro⟨h1,h2⟩;exact N3 h1 h2
 · rintro rfl;exact⟨rfl,rfl⟩
theorem xf{a b:List (List Rat×Rat)}:a.map Eh=b.map Eh↔a=b:=aX fun _ _=>Ak
theorem aR.eq(m:Nat)(cs:List (List Rat))(V:List (List Rat×Rat))(b:List Rat)(h:b.length<=cs.length)(hm:cs.length-b.length<m)(hc:G_ cs)(hw:Ge cs.length V)(hb:∀q∈b,E9 60 q):aR m [.d (ptsQ cs),.d (.tuple (V.map Eh)),.d (Fb b)]=VL.ret (Ek V b (cs.drop b.length)):=by
 refine ag fun Q=>⟨?_,fun q_=>⟨cs,V,b,rfl,⟨h,hm,hc,hw,hb⟩,q_⟩⟩;rintro⟨cs',V',b',e_,_,q_⟩;simp only[Ie,W.d.injEq,Iy,aM,xf,bC,and_true]at e_;obtain⟨rfl,rfl,rfl⟩:=e_;exact q_
theorem hW:FnScope ["cuts", "weights", "begun", "side"] ["cuts", "weights", "begun"] (defScope (EE 36)):=⟨rfl,rfl,rfl,by decide +kernel,rfl,by decide +kernel,by decide +kernel⟩
theorem gS(n:Nat)(Fn:FnIn K mg "values_from" (EE 36) ["cuts", "weights", "begun"])(Z:Bz mg)(d_sum_of:∀rl,Dfn P w K mg base rl "sum_of" ["some"] 3 cn)(d_lies_in:∀rl,Dfn P w K mg base rl "lies_in" ["point", "box", "way"] 4 cJ)(gl_ZERO:GlD K mg "ZERO" (pr 0 1))(d_values_from:∀rl,Dfn P w K mg base rl "values_from" ["cuts", "weights", "begun"] (4+n) (aR n)):Dfn P w K mg base rl "values_from" ["cuts", "weights", "begun"] (4+n+1) (aR (n+1)):=by
 have sc:=hW
 refine Dfn.of Fn sc (aR.mono _) (aR.len _) (fun cdv A outer s H E hr=>(au (ay 3 sc.nd (dg Z.len_ (aa (vn 2) ab)))
  (au (eI (cC (eZ hr.units) df (bH _) (vn 3) (dg Z.len_ (aa (vn 0) ab))) (ax (aH (av (d_sum_of _) (hr.mono (by omega)) (aa (bc ["box", "weight", "begun"] [none,none,some 2] rfl (dO (vn 1)) (fun _=>(dj (n:=2) rfl (aI (ak 0 (show Ij (["box", "weight", "begun"]:List Str) by decide +kernel)) (aI (ak 1 (show Ij (["box", "weight", "begun"]:List Str) by decide +kernel)) cI)))) (fun _=>nX (jt (av (d_lies_in _) (hr.mono (by omega)) (aa (vn 2) (aa (vn 0) (aa fT ab)))))) (fun _=>(vn 1))) ab)))) c7)
  (ax (aH (cO Z.tuple_ (aa (bc ["begin", "cuts", "weights", "begun"] [none,some 0,some 1,some 2] rfl (dO (dJ (bD (aa (eQ gl_ZERO) ab)) (br (vn 0) (vn 3)))) (fun _=>(ak 0 (show Ij (["begin", "cuts", "weights", "begun"]:List Str) by decide +kernel))) (fun _=>cr) (fun _=>(av (d_values_from _) (hr.mono (by omega)) (aa (vn 1) (aa (vn 2) (aa (dJ (vn 3) (bD (aa (vn 0) ab))) ab)))))) ab))))))) ?_
 rintro ws Q ⟨cs,V,b,rfl,⟨hl,hm,hc,hw,hb⟩,hQ⟩;refine aE ?_;have sz:=HN;have c2:=hc.2.1;have v20:=hw.1;have el:lj (ptsQ cs)=some cs.length:=by show some (cs.map Fb).length=_;rw[Hs]
 have el2:lj (Fb b)=some b.length:=by show some (b.map fr).length=_;rw[Hs]
 have il:((b.length:Int)==(cs.length:Int))=decide (b.length=cs.length):=by
  by_cases c:b.length=cs.length
  · rw[decide_eq_true c,c];simp
  · rw[decide_eq_false c];simp;omega
 by_cases c:b.length=cs.length
 · have d:=decide_eq_true c;simp_arith only[ah,ae,Hf,Hg,el,el2,il,d];refine EU (qK (xs:=V) (enc:=Eh) (fun z=>if opB b z.1=true then some (fr z.2)else none) rfl ?_ (by omega) ?_)
   · intro z mz;obtain⟨w1,w2,w3⟩:=hw.2 z mz;have tb:tupD (Eh z)=some [FX z.1,fr z.2]:=rfl;have hp:BC (z.1.map Sd.to).length b:=⟨by rw[Hs,w1,c],hb⟩
     have hx:BD (z.1.map Sd.to):=⟨by rw[Hs,w1];exact hc.1,by rw[Hs,w1];omega,fun s ms=>by
      obtain⟨q,mq,rfl⟩:=HX.mp ms
      exact⟨w2 q mq,w2 q mq⟩⟩
     have wh:FI "half" := .inl rfl;simp_arith only[ah,ae,FH,cn.eq,cJ.eq,Hg,tb,wL,Ba];split<;>rfl
   have ed:cs.drop b.length=[]:=by rw[c,JN]
   rw[ed]at hQ
   have ef:V.filterMap (fun z=>if opB b z.1=true then some (fr z.2)else none)=((V.filter fun z=>opB b z.1).map (·.2)).map fr:=by
    rw[qi (fun z:List Rat×Rat=>opB b z.1) (fun z=>fr z.2),IU];rfl
   have fl:=Jh (fun z=>opB b z.1) V;have ll:((V.filter fun z=>opB b z.1).map (·.2)).length<=49:=by rw[Hs];omega
   have hq:∀q∈(V.filter fun z=>opB b z.1).map (·.2),E9 38 q:=fun q mq=>by
    obtain⟨z,mz,rfl⟩:=HX.mp mq;exact(hw.2 z (LA.mp mz).1).2.2
   have ps_:=cn.eq 38 _ (by omega) (by omega) (by decide) hq;rw[ef];simp_arith only[ah,ae,ps_];exact aF hQ
 · have d:=decide_eq_false c;have hlt:b.length<cs.length:=by omega
   have e1:=cp (xs:=cs) [] (show(0:Int)<=(b.length:Int) by omega) (by omega);rw[JE]at e1;have ed:cs.drop b.length=cs.getD b.length []::cs.drop (b.length+1):=by rw[bA hlt];exact IT hlt
   rw[ed]at hQ;have mc:cs.getD b.length []∈cs:=getD_mem hlt;obtain⟨l6,hcq⟩:=hc.2.2 _ mc;generalize cs.getD b.length []=cc at *;simp_arith only[ah,ae,Hf,Hg,el,el2,il,d,e1];refine cg (xs:=0::cc) (enc:=fr) (fun x=>Ek V (b++[x]) (cs.drop (b.length+1))) rfl ?_ (by simp;omega) ?_
   · intro x mx;have lx:(b++[x]).length=b.length+1:=by simp
     have a1:(b++[x]).length<=cs.length:=by omega
     have a2:cs.length-(b++[x]).length<n:=by omega
     have a3:∀q∈b++[x],E9 60 q:=fun q mq=>by
      rcases Ik.mp mq with h|h
      · exact hb q h
      · rw[HI.mp h];rcases Ic.mp mx with rfl|mx
        · exact DK
        · exact hcq x mx
     have pv:=aR.eq n cs V (b++[x]) a1 a2 hc hw a3;rw[lx]at pv;have tp:∀y,Ii (b.map fr++[fr y])=Fb (b++[y]):=fun y=>by unfold Fb;rw[Ir];rfl
     have g1:(b.map fr).length+1<=sizeLine:=by rw[Hs];omega
     have g2:b.length+1<=sizeLine:=by omega
     simp_arith only[ah,ae,FH,Hg,tp,pv]
   exact aF hQ
theorem gT(Fn:FnIn K mg "values_from" (EE 36) ["cuts", "weights", "begun"])(Z:Bz mg)(d_sum_of:∀rl,Dfn P w K mg base rl "sum_of" ["some"] 3 cn)(d_lies_in:∀rl,Dfn P w K mg base rl "lies_in" ["point", "box", "way"] 4 cJ)(gl_ZERO:GlD K mg "ZERO" (pr 0 1))(n:Nat):∀rl,Dfn P w K mg base rl "values_from" ["cuts", "weights", "begun"] (4+n) (aR n):=by
 induction n with
 | zero=>exact fun rl=>Dfn.never Fn (fun _ _ ⟨_,_,_,_,⟨_,z,_⟩,_⟩=>absurd z (Nat.not_lt_zero _))
 | succ n ih=>exact fun rl=>gS n Fn Z d_sum_of d_lies_in gl_ZERO  ih
theorem d_values_from(Fn:FnIn K mg "values_from" (EE 36) ["cuts", "weights", "begun"])(Z:Bz mg)(d_sum_of:∀rl,Dfn P w K mg base rl "sum_of" ["some"] 3 cn)(d_lies_in:∀rl,Dfn P w K mg base rl "lies_in" ["point", "box", "way"] 4 cJ)(gl_ZERO:GlD K mg "ZERO" (pr 0 1))  : Dfn P w K mg base rl "values_from" ["cuts", "weights", "begun"] 7 (aR 3):=gT Fn Z d_sum_of d_lies_in gl_ZERO  3 rl
noncomputable def cD:List W->(Hi->Prop)->Prop:=fun ws Q=>∃(cs:List (List Rat))(V:List (List Rat×Rat)),ws=[.d (ptsQ cs),.d (.tuple (V.map Eh))]/\((G_ cs)/\(Ge cs.length V))/\Q (.tuple [ptsQ cs,Ek V [] cs])
theorem cD.mono:∀ws (Q Q':Hi->Prop),(∀d,Q d->Q' d)->cD ws Q->cD ws Q':=fun _ _ _ h_=>HC fun _=>HC fun _=>Ho (Ho (h_ _))
theorem cD.len:∀ws (Q:Hi->Prop),cD ws Q->ws.length=2:=fun _ _ h_=>by obtain⟨_,_,e_,_⟩:=h_;subst e_;rfl
theorem cD.eq(cs:List (List Rat))(V:List (List Rat×Rat))(hc:G_ cs)(hw:Ge cs.length V):cD [.d (ptsQ cs),.d (.tuple (V.map Eh))]=VL.ret (.tuple [ptsQ cs,Ek V [] cs]:Hi):=by
 refine ag fun Q=>⟨?_,fun q_=>⟨cs,V,rfl,⟨hc,hw⟩,q_⟩⟩;rintro⟨cs',V',e_,_,q_⟩;simp_arith only[aM,xf]at e_;obtain⟨rfl,rfl⟩:=e_;exact q_
theorem kO:FnScope ["cuts", "weights"] ["cuts", "weights"] (defScope (EE 37)):=⟨rfl,rfl,rfl,by decide +kernel,rfl,by decide +kernel,by decide +kernel⟩
theorem d_sheet_of(Fn:FnIn K mg "sheet_of" (EE 37) ["cuts", "weights"])(Z:Bz mg)(d_values_from:∀rl,Dfn P w K mg base rl "values_from" ["cuts", "weights", "begun"] 7 (aR 3))   : Dfn P w K mg base rl "sheet_of" ["cuts", "weights"] 8 cD:=by
 have sc:=kO;refine Dfn.of Fn sc (cD.mono) (cD.len) (fun cdv A outer s H E hr=>(ax (aH (bD (aa (vn 0) (aa (av (d_values_from _) (hr.mono (by decide)) (aa (vn 0) (aa (vn 1) (aa (bD ab) ab)))) ab)))))) ?_;rintro ws Q ⟨cs,V,rfl,⟨hc,hw⟩,hQ⟩;refine aE ?_;have c2:=hc.2.1;have pv:=aR.eq 3 cs V [] (II _) (by show cs.length-0<3;omega) hc hw (fun q mq=>absurd mq (by simp));have e0:Fb [] = .tuple []:=rfl;rw[e0]at pv;have pv:aR 3 [.d (ptsQ cs),.d (.tuple (V.map Eh)),.d (.tuple [])]=VL.ret (Ek V [] cs):=pv;simp_arith only[ah,ae,Hg,pv];exact aF hQ
noncomputable def aW:List W->(Hi->Prop)->Prop:=fun ws Q=>∃(a b:Int),ws=[.d (.int a),.d (.int b)]/\((0<b)/\(b.natAbs<2^8000))/\Q (fr (qd a b))
theorem aW.mono:∀ws (Q Q':Hi->Prop),(∀d,Q d->Q' d)->aW ws Q->aW ws Q':=fun _ _ _ h_=>HC fun _=>HC fun _=>Ho (Ho (h_ _))
theorem aW.len:∀ws (Q:Hi->Prop),aW ws Q->ws.length=2:=fun _ _ h_=>by obtain⟨_,_,e_,_⟩:=h_;subst e_;rfl
theorem aW.eq(a b:Int)(hb:0<b)(hz:b.natAbs<2^8000):aW [.d (.int a),.d (.int b)]=VL.ret (fr (qd a b):Hi):=by
 refine ag fun Q=>⟨?_,fun q_=>⟨a,b,rfl,⟨hb,hz⟩,q_⟩⟩;rintro⟨a',b',e_,_,q_⟩;simp_arith only[di,bE,bC,aS,aM,bI]at e_;obtain⟨rfl,rfl⟩:=e_;exact q_
theorem jD:FnScope ["_law_n", "_law_d", "_law_one", "_law_other"] ["_law_n", "_law_d"] (defScope (EE 42)):=⟨rfl,rfl,rfl,by decide +kernel,rfl,by decide +kernel,by decide +kernel⟩
theorem d__law_frac(Fn:FnIn K mg "_law_frac" (EE 42) ["_law_n", "_law_d"])(Z:Bz mg)    : Dfn P w K mg base rl "_law_frac" ["_law_n", "_law_d"] 1 aW:=by
 have sc:=jD
 refine Dfn.of Fn sc (aW.mono) (aW.len) (fun cdv A outer s H E hr=>(au (ay 2 sc.nd (rm Z.abs_ (aa (vn 0) ab)))
  (au (ay 3 sc.nd (vn 1))
  (au (jq [] Ih (cC yN xl (bH _) (vn 3) af) (ax (tF 2 3 rfl sc.nd (aa (vn 3) (aa (v_mod (vn 2) (vn 3)) ab)))))
  (ax (aH (bD (aa (v_div (vn 0) (vn 2)) (aa (v_div (vn 1) (vn 2)) ab))))))))) ?_
 rintro ws Q ⟨a,b,rfl,⟨hb,hz⟩,hQ⟩;refine aE ?_;have e:IC (if a<0 then -a else a) b=IC a b:=by split<;>simp[IC]
 simp_arith only[ae];refine lJ (σ:=Int×Int) (fun s=>[some (.d (.int a)),some (.d (.int b)),some (.d (.int s.1)),some (.d (.int s.2))]) (fun s=>decide (0<s.2)) (fun s=>(s.2,s.1.fmod s.2)) (fun s=>s.2.natAbs) (fun s=>0<=s.1/\0<=s.2/\IC s.1 s.2=IC a b) (if a<0 then -a else a,b) rfl ⟨by dsimp only;split<;>omega,by dsimp only;omega,e⟩ ?_ ?_ ?_
 · intro s _;simp_arith only[ae]
 · rintro s ⟨h1,h2,e⟩ c;have hc:0<s.2:=by simpa using c
   have hc':s.2≠0:=by omega
   refine⟨⟨h2,JD _ hc,by rw[mK];exact e⟩,gP hc',_,?_,rfl⟩;simp_arith only[ah,ae]
 · rintro s ⟨h1,h2,e⟩ c;have hc:¬0<s.2:=by simpa using c
   have hc:s.2=0:=by omega
   rw[hc,Int.gcd_zero_right]at e;have ex:s.1=(IC a b:Int):=by omega
   have c1:eC a (IC a b:Int):=p_ hb hz _;have c2:eC b (IC a b:Int):=p_ hb hz _;simp_arith only[ah,ae,ex];rw[pL hb];exact aF hQ
theorem DL{a c d:Int}:pr a b=pr c d↔a=c/\b=d:=by
 constructor
 · intro h;injection h with h;injection h with h1 h2;injection h2 with h2;injection h1 with h1;injection h2 with h2;exact⟨h1,h2⟩
 · rintro⟨rfl,rfl⟩;rfl
noncomputable def aU:List W->(Hi->Prop)->Prop:=fun ws Q=>∃(a b c d:Int),ws=[.d (pr a b),.d (pr c d)]/\((bj a d)/\(bj c b))/\Q (.bool (decide (a*d<c*b)))
theorem aU.mono:∀ws (Q Q':Hi->Prop),(∀d,Q d->Q' d)->aU ws Q->aU ws Q':=fun _ _ _ h_=>HC fun _=>HC fun _=>HC fun _=>HC fun _=>Ho (Ho (h_ _))
theorem aU.len:∀ws (Q:Hi->Prop),aU ws Q->ws.length=2:=fun _ _ h_=>by obtain⟨_,_,_,_,e_,_⟩:=h_;subst e_;rfl
theorem aU.eq(a b c d:Int)(m1:bj a d)(m2:bj c b):aU [.d (pr a b),.d (pr c d)]=VL.ret (.bool (decide (a*d<c*b)):Hi):=by
 refine ag fun Q=>⟨?_,fun q_=>⟨a,b,c,d,rfl,⟨m1,m2⟩,q_⟩⟩;rintro⟨a',b',c',d',e_,_,q_⟩;simp_arith only[di,bE,bC,aS,aM,bI,DL,and_assoc]at e_;obtain⟨rfl,rfl,rfl,rfl⟩:=e_;exact q_
theorem i5:FnScope ["_law_one", "_law_other"] ["_law_one", "_law_other"] (defScope (EE 43)):=⟨rfl,rfl,rfl,by decide +kernel,rfl,by decide +kernel,by decide +kernel⟩
theorem d__law_below(Fn:FnIn K mg "_law_below" (EE 43) ["_law_one", "_law_other"])(Z:Bz mg)    : Dfn P w K mg base rl "_law_below" ["_law_one", "_law_other"] 1 aU:=by
 have sc:=i5;refine Dfn.of Fn sc (aU.mono) (aU.len) (fun cdv A outer s H E hr=>(ax (aH (hR pG n6 (bH _) (v_mul (br (vn 0) af) (br (vn 1) af)) (v_mul (br (vn 1) af) (br (vn 0) af)))))) ?_;rintro ws Q ⟨a,b,c,d,rfl,⟨m1,m2⟩,hQ⟩;refine aE ?_;have i0:∀a b:Int,itemAt (pr a b) 0=some (.int a):=fun _ _=>rfl;have i1:∀a b:Int,itemAt (pr a b) 1=some (.int b):=fun _ _=>rfl;simp_arith only[ah,ae,i0,i1];exact aF hQ
theorem sC(q r:Rat)(h1:E9 2000 q)(h2:E9 2000 r):aU [.d (fr q),.d (fr r)]=VL.ret (.bool (decide (q<r))):=by
 have:=aU.eq q.num q.den r.num r.den (.bb h1.bn h2.bd) (.bb h2.bn h1.bd);rw[show decide (q.num*(r.den:Int)<r.num*(q.den:Int))=decide (q<r)from decide_eq_decide.mpr (NO q r).symm]at this;exact this
noncomputable def bN:List W->(Hi->Prop)->Prop:=fun ws Q=>ws=[.reel]/\(True)/\∀r:Rat,(E9 20 r/\0<=r/\r<1)->Q (fr r)
theorem bN.mono:∀ws (Q Q':Hi->Prop),(∀d,Q d->Q' d)->bN ws Q->bN ws Q':=fun _ _ _ h_=>Ho (Ho fun q_ o_ ho_=>h_ _ (q_ o_ ho_))
theorem bN.len:∀ws (Q:Hi->Prop),bN ws Q->ws.length=1:=fun _ _ h_=>by obtain⟨e_,_⟩:=h_;subst e_;rfl
theorem bN.eq   : bN [.reel]=FY (anyM fun r:Rat=>E9 20 r/\0<=r/\r<1) fun r=>VL.ret (fr r:Hi):=by
 refine ag fun Q=>⟨?_,fun q_=>⟨rfl,trivial,q_⟩⟩;rintro⟨e_,_,q_⟩;simp_arith only[di,bE,bC,aS,aM,bI]at e_;exact q_
theorem ia:FnScope ["_law_feed_here", "_law_d"] ["_law_feed_here"] (defScope (EE 44)):=⟨rfl,rfl,rfl,by decide +kernel,rfl,by decide +kernel,by decide +kernel⟩
theorem d__law_number(Fn:FnIn K mg "_law_number" (EE 44) ["_law_feed_here"])(Z:Bz mg)(d__law_frac:∀rl,Dfn P w K mg base rl "_law_frac" ["_law_n", "_law_d"] 1 aW)(d__law_draw:∀al,DfnC P w K mg base al 1 "_law_draw" ["_law_feed_here", "_law_many"] 1 a_)   : DfnC P w K mg base al 2 "_law_number" ["_law_feed_here"] 2 bN:=by
 have sc:=ia
 refine DfnC.of Fn sc (bN.mono) (bN.len) (fun cdv A outer s H E hr=>(aD (dY 1 sc.nd (wY (cv fun _=>(dP (aa af (aa af (aa af (aa af (aa af (aa af (aa af (aa af ab)))))))))) (cG (d__law_draw _) (hr.mono (by decide)) (aj (cv fun _=>(vn 0)) (aj (cv fun _=>af) aN)))))
  (cN (qC (qQ (fun n=>d__law_frac _) (hr.mono (by decide)) (aj (cG (d__law_draw _) (hr.mono (by decide)) (aj (cv fun _=>(vn 0)) (aj (cv fun _=>(vn 1)) aN))) (aj (cv fun _=>(vn 1)) aN))))))) (by decide) ?_
 rintro ws Q ⟨rfl,_,hQ⟩;refine aE ?_;simp_arith only[ah,ae,aO,aP,aA,aC,aQ,aB,aq,ac,a_.eq]
 (with_reducible (first|refine aL fun k hk=>?_|refine aY fun k hk=>?_))
 refine ET (eg (xs:=[2,3,4,5,6,8,12,1000003]) (enc:=Iv) (fun m=>2<=m/\m<=1000003) rfl hk.1 (by show k<8;omega) (by decide) fun m hm=>?_);have m0:0<m:=by omega
 have mb:m<2^60:=by omega
 have mz:m.natAbs<2^8000:=Hy (show m.natAbs<2^60 by omega) (HJ (by decide) (by decide));simp_arith only[ah,ae,aO,aP,aA,aC,aQ,aB,aq,ac,a_.eq]
 (with_reducible (first|refine aL fun x hx=>?_|refine aY fun x hx=>?_))
 simp_arith only[ah,ae,aO,aP,aA,aC,aQ,aB,aq,ac,aW.eq];exact aF (hQ _ ⟨kW m0 (by omega) (by omega),nj m0 hx.1,o6 m0 hx.2⟩)
noncomputable def bM:List W->(Hi->Prop)->Prop:=fun ws Q=>∃(s m:Int),ws=[.reel,.d (.int s),.d (.int m)]/\((1<=s)/\(s<=4)/\(1<=m)/\(m<=40))/\∀ps:List (List Rat),(Gy s.toNat ps/\ps.length=m.toNat)->Q (ptsQ ps)
theorem bM.mono:∀ws (Q Q':Hi->Prop),(∀d,Q d->Q' d)->bM ws Q->bM ws Q':=fun _ _ _ h_=>HC fun _=>HC fun _=>Ho (Ho fun q_ o_ ho_=>h_ _ (q_ o_ ho_))
theorem bM.len:∀ws (Q:Hi->Prop),bM ws Q->ws.length=3:=fun _ _ h_=>by obtain⟨_,_,e_,_⟩:=h_;subst e_;rfl
theorem bM.eq(s m:Int)(s1:1<=s)(s4:s<=4)(m1:1<=m)(m40:m<=40):bM [.reel,.d (.int s),.d (.int m)]=FY (anyM fun ps:List (List Rat)=>Gy s.toNat ps/\ps.length=m.toNat) fun ps=>VL.ret (ptsQ ps:Hi):=by
 refine ag fun Q=>⟨?_,fun q_=>⟨s,m,rfl,⟨s1,s4,m1,m40⟩,q_⟩⟩;rintro⟨s',m',e_,_,q_⟩;simp_arith only[di,bE,bC,aS,aM,bI]at e_;obtain⟨rfl,rfl⟩:=e_;exact q_
theorem hZ:FnScope ["_law_feed_here", "_law_s", "_law_many", "_law_found", "_law_k", "_law_point"] ["_law_feed_here", "_law_s", "_law_many"] (defScope (EE 45)):=⟨rfl,rfl,rfl,by decide +kernel,rfl,by decide +kernel,by decide +kernel⟩
theorem d__law_points(Fn:FnIn K mg "_law_points" (EE 45) ["_law_feed_here", "_law_s", "_law_many"])(Z:Bz mg)(d__law_number:∀al,DfnC P w K mg base al 2 "_law_number" ["_law_feed_here"] 2 bN)(d__law_draw:∀al,DfnC P w K mg base al 1 "_law_draw" ["_law_feed_here", "_law_many"] 1 a_)   : DfnC P w K mg base al 8320 "_law_points" ["_law_feed_here", "_law_s", "_law_many"] 3 bM:=by
 have sc:=hZ
 refine DfnC.of Fn sc (bM.mono) (bM.len) (fun cdv A outer s H E hr=>(aD (cs fun _=>(eE 3 sc.nd (dP ab)))
  (aD (iz 64 [4,5] Ih rfl (ci fun _=>(cu Z.range_ (aa (vn 2) ab))) (fun _=>(ak 4 sc.nd)) (aD (dY 5 sc.nd (jn Z.tuple_ (aj (jo 64 ["_law_side", "_law_feed_here"] [none,some 0] rfl (ci fun _=>(cu Z.range_ (aa (vn 1) ab))) (fun _ _=>(ak 0 (show Ij (["_law_side", "_law_feed_here"]:List Str) by decide +kernel))) (fun _=>mM) (fun _=>(cG (d__law_number _) (hr.mono (by decide)) (aj (cv fun _=>(vn 1)) aN)))) aN)))
  (aD (sZ (Ha.cb (zH (cb fun _=>(cC (ip hr.units) df (bH _) (vn 3) (dP ab))) (wI (zG (eZ hr.units) (fun _=>df) (bH _) (cG (d__law_draw _) (hr.mono (by decide)) (aj (cv fun _=>(vn 0)) (aj (cv fun _=>af) aN))) (cv fun _=>af))))) (cN (dY 5 sc.nd (wY (cv fun _=>(vn 3)) (cG (d__law_draw _) (hr.mono (by decide)) (aj (cv fun _=>(vn 0)) (aj (cv fun _=>(dg Z.len_ (aa (vn 3) ab))) aN)))))) mN)
  (cN (cs fun _=>(jr 3 (aa (vn 5) ab)))))))
  (cN (cs fun _=>(aH (cO Z.tuple_ (aa (vn 3) ab)))))))) (by decide) ?_
 rintro ws Q ⟨s,m,rfl,⟨s1,s4,m1,m40⟩,hQ⟩;refine aE ?_;have sz:=HN;have gs : -(2^62)<=s/\s<2^62:=by omega
 have gm : -(2^62)<=m/\m<2^62:=by omega
 simp_arith only[ah,ae,aO,aP,aA,aC,aQ,aB,aq,ac];refine eN (fun i ρ=>∃ps:List (List Rat),ps.length=i/\Gy s.toNat ps/\ρ=[some .reel,some (.d (.int s)),some (.d (.int m)),some (.ml (ps.map Fb)),none,none]) ⟨[],rfl,by simp[Gy],rfl⟩ ?_ ?_
 · rintro i hi ρ ⟨ps,hl,hp,rfl⟩ K hK;simp_arith only[ah,ae,aO,aP,aA,aC,aQ,aB,aq,ac];refine EU (jm (fun d=>∃r:Rat,(E9 20 r/\0<=r/\r<1)/\d=fr r) ?_ (by omega) ?_)
   · intro j hj K2 hK2;simp_arith only[ah,ae,FH,bN.eq]
     (with_reducible (first|refine aL fun x hx=>?_|refine aY fun x hx=>?_))
     exact hK2 _ ⟨x,hx,rfl⟩
   intro ds dl hds;obtain⟨qs,rfl,ql,hqs⟩:=fA hds;have qlen:qs.length=s.toNat:=by omega
   have qz:(qs.map fr).length<=sizeLine:=by rw[Hs];omega
   have pz:ps.length<sizeLine:=by omega
   have fin:∀p:List Rat,(p.length=s.toNat/\∀q∈p,E9 20 q/\0<=q/\q<1)->∀o o',K (.nx [some .reel,some (.d (.int s)),some (.d (.int m)),some (.ml (ps.map Fb++[Fb p])),o,o']):=fun p hpp o o' =>
    hK _ (cf ⟨ps++[p],by rw[HS,hl];rfl,fun z mz=>by
     rcases Ik.mp mz with h|h
     · exact hp z h
     · rw[HI.mp h];exact hpp,by simp[fo,Ir]⟩)
   have sh:=na ps;have e0:IK (.list [])=true:=by decide
   simp_arith only[ah,ae,aO,aP,aA,aC,aQ,aB,aq,ac,Hf,sh,e0,wC,a_.eq];refine dG (fun hne=>?_) fun _=>fin qs ⟨qlen,hqs⟩ _ _
   (with_reducible (first|refine aL fun a ha=>?_|refine aY fun a ha=>?_))
   try rw[sq_ite]
   refine dG (fun _=>?_) fun _=>?_
   · have pn:0<ps.length:=by
       cases ps with
       | nil=>exact absurd hne (by decide)
       | cons x l=>simp
     have p1:(0:Int)<(ps.length:Int):=by omega
     have p2:(ps.length:Int)<2^60:=by omega
     simp_arith only[ah,ae,aO,aP,aA,aC,aQ,aB,aq,ac,a_.eq]
     (with_reducible (first|refine aL fun k hk=>?_|refine aY fun k hk=>?_))
     refine ET (eg (xs:=ps) (enc:=Fb) (fun p:List Rat=>p.length=s.toNat/\∀q∈p,E9 20 q/\0<=q/\q<1) rfl hk.1 hk.2 hp fun p hpp=>?_);simp_arith only[ah,ae,aO,aP,aA,aC,aQ,aB,aq,ac];exact fin p hpp _ _
   · simp_arith only[ah,ae,aO,aP,aA,aC,aQ,aB,aq,ac];exact fin qs ⟨qlen,hqs⟩ _ _
 · rintro ρ ⟨ps,hl,hp,rfl⟩;simp_arith only[ah,ae,aO,aP,aA,aC,aQ,aB,aq,ac];exact aF (hQ ps ⟨hp,hl⟩)
theorem se(l:List α)(f:α->Bool):(!((l.map fun z=>JT (f z)).any fun z=>z.eqv (.bool true)))=l.all fun z=>!f z:=by
 induction l with
 | nil=>rfl
 | cons a l ih =>
   rw[HE,K1,Lw,Bool.not_or,ih];congr 1;cases f a<;>rfl
theorem mh(l:List α)(f:α->Bool):(!((l.map fun z=>JT (f z)).any fun z=>z.eqv (.bool false)))=l.all f:=by
 induction l with
 | nil=>rfl
 | cons a l ih =>
   rw[HE,K1,Lw,Bool.not_or,ih];congr 1;cases f a<;>rfl
theorem gM(l:List α)(f:α->Bool):IE (l.map fun z=>JT (f z))=true:=by
 induction l with
 | nil=>rfl
 | cons a l ih=>simp[IE,JR,ih]
theorem dN(p es:List Rat):ki (p.map fr) (es.map fr)=(p.zip es).map fun z=>Ii [fr z.1,fr z.2]:=dD _ _ _ _
noncomputable def bO:List W->(Hi->Prop)->Prop:=fun ws Q=>∃(ps:List (List Rat))(es:List Rat),ws=[.d (ptsQ ps),.d (Fb es)]/\((1<=ps.length)/\(ps.length<60)/\(es.length<=4)/\(∀p∈ps,p.length<=4/\∀q∈p,E9 20 q)/\(∀e∈es,E9 20 e))/\Q (.tuple [.int ((shC ps es:Int)*btE es 1-tpE es*ps.length),.int (tpE es*ps.length-(opC ps es:Int)*btE es 1),.int (btE es ps.length)])
theorem bO.mono:∀ws (Q Q':Hi->Prop),(∀d,Q d->Q' d)->bO ws Q->bO ws Q':=fun _ _ _ h_=>HC fun _=>HC fun _=>Ho (Ho (h_ _))
theorem bO.len:∀ws (Q:Hi->Prop),bO ws Q->ws.length=2:=fun _ _ h_=>by obtain⟨_,_,e_,_⟩:=h_;subst e_;rfl
theorem bO.eq(ps:List (List Rat))(es:List Rat)(h1:1<=ps.length)(h60:ps.length<60)(e4:es.length<=4)(hp:∀p∈ps,p.length<=4/\∀q∈p,E9 20 q)(he:∀e∈es,E9 20 e):bO [.d (ptsQ ps),.d (Fb es)]=VL.ret (.tuple [.int ((shC ps es:Int)*btE es 1-tpE es*ps.length),.int (tpE es*ps.length-(opC ps es:Int)*btE es 1),.int (btE es ps.length)]:Hi):=by
 refine ag fun Q=>⟨?_,fun q_=>⟨ps,es,rfl,⟨h1,h60,e4,hp,he⟩,q_⟩⟩;rintro⟨ps',es',e_,_,q_⟩;simp_arith only[di,bE,bC,aS,aM,bI,ya,yz,vG,rC,rB,wf,yV,qR,v8,vf,yh,u6,xW,wN,yS,and_assoc]at e_;obtain⟨rfl,rfl⟩:=e_;exact q_
theorem ib:FnScope ["_law_points_here", "_law_ends", "_law_top", "_law_bottom", "_law_end", "_law_shut", "_law_bare", "_law_point", "_law_part"] ["_law_points_here", "_law_ends"] (defScope (EE 46)):=⟨rfl,rfl,rfl,by decide +kernel,rfl,by decide +kernel,by decide +kernel⟩
theorem d__law_corner(Fn:FnIn K mg "_law_corner" (EE 46) ["_law_points_here", "_law_ends"])(Z:Bz mg)(d__law_below:∀rl,Dfn P w K mg base rl "_law_below" ["_law_one", "_law_other"] 1 aU)   : Dfn P w K mg base rl "_law_corner" ["_law_points_here", "_law_ends"] 2 bO:=by
 have sc:=ib
 refine Dfn.of Fn sc (bO.mono) (bO.len) (fun cdv A outer s H E hr=>(au (ay 2 sc.nd af)
  (au (ay 3 sc.nd (dg Z.len_ (aa (vn 0) ab)))
  (au (cx [4] Ih rfl (dO (vn 1)) (ak 4 sc.nd) (au (ay 2 sc.nd (v_mul (vn 2) (og Z.max_ (aa af (aa (br (vn 4) af) ab)))))
  (ax (ay 3 sc.nd (v_mul (vn 3) (br (vn 4) af))))))
  (au (ay 5 sc.nd af)
  (au (ay 6 sc.nd af)
  (au (cx [7] Ih rfl (dO (vn 0)) (ak 7 sc.nd) (au (ay 5 sc.nd (v_add (vn 5) (oj Z.int_ (aa (hR (eY hr.u65) lM (by with_unfolding_all rfl) nn (bc ["_law_x", "_law_end"] [none,none] rfl (c9 Z.zip_ (aa (vn 7) (aa (vn 1) ab))) (fun _=>(dj (n:=2) rfl (aI (ak 0 (show Ij (["_law_x", "_law_end"]:List Str) by decide +kernel)) (aI (ak 1 (show Ij (["_law_x", "_law_end"]:List Str) by decide +kernel)) cI)))) (fun _=>cr) (fun _=>(av (d__law_below _) (hr.mono (by decide)) (aa (vn 1) (aa (vn 0) ab)))))) ab))))
  (ax (ay 6 sc.nd (v_add (vn 6) (oj Z.int_ (aa (hR (eY hr.u65) lM (by with_unfolding_all rfl) nn (bc ["_law_x", "_law_end"] [none,none] rfl (c9 Z.zip_ (aa (vn 7) (aa (vn 1) ab))) (fun _=>(dj (n:=2) rfl (aI (ak 0 (show Ij (["_law_x", "_law_end"]:List Str) by decide +kernel)) (aI (ak 1 (show Ij (["_law_x", "_law_end"]:List Str) by decide +kernel)) cI)))) (fun _=>cr) (fun _=>(av (d__law_below _) (hr.mono (by decide)) (aa (vn 0) (aa (vn 1) ab)))))) ab)))))))
  (au (ay 8 sc.nd (v_div (vn 3) (dg Z.len_ (aa (vn 0) ab))))
  (ax (aH (bD (aa (v_sub (v_mul (vn 5) (vn 8)) (v_mul (vn 2) (dg Z.len_ (aa (vn 0) ab)))) (aa (v_sub (v_mul (vn 2) (dg Z.len_ (aa (vn 0) ab))) (v_mul (vn 6) (vn 8))) (aa (vn 3) ab)))))))))))))) ?_
 rintro ws Q ⟨ps,es,rfl,⟨h1,h60,e4,hp,he⟩,hQ⟩;refine aE ?_;have sz:=HN;simp_arith only[ah,ae,Hg];refine dA (xs:=es) (enc:=fr) (fun i ρ=>ρ=[some (.d (ptsQ ps)),some (.d (Fb es)),some (.d (.int (tpE (es.take i)))),some (.d (.int (btE (es.take i) ps.length))),none,none,none,none,none]) rfl rfl ?_ ?_
 · rintro i hi ρ rfl K hK;have q:=he _ (HZ hi);have c1:∀x:Int,bj x (max 0 es[i].num):=fun x=>.rt (by have:=q.1;omega);have c2:∀x:Int,bj x (es[i].den:Int):=fun x=>.rt (by have:=q.2;omega);simp_arith only[ah,ae,Hg,c1,c2];refine hK _ (cf ?_);unfold tpE btE;rw[HG hi,JF,JF];rfl
 · rintro ρ rfl;rw[HF (Hw _)];simp_arith only[ah,ae,Hg];refine dA (xs:=ps) (enc:=Fb) (fun i ρ=>ρ=[some (.d (ptsQ ps)),some (.d (Fb es)),some (.d (.int (tpE es))),some (.d (.int (btE es ps.length))),none,some (.d (.int (shC (ps.take i) es:Int))),some (.d (.int (opC (ps.take i) es:Int))),none,none]) rfl rfl ?_ ?_
   · rintro i hi ρ rfl K hK;obtain⟨p4,hq⟩:=hp _ (HZ hi)
     have n1:(shC (ps.take (i+1)) es:Int)=(shC (ps.take i) es:Int)+(if L2.VL.shB ps[i] es=true then 1 else 0):=by
      unfold shC;rw[HG hi,LU,HS];by_cases c:L2.VL.shB ps[i] es=true
      · rw[if_pos c,IS (by exact c)];simp
      · rw[if_neg c,I0 (by exact c)];simp
     have n2:(opC (ps.take (i+1)) es:Int)=(opC (ps.take i) es:Int)+(if L2.VL.opB ps[i] es=true then 1 else 0):=by
      unfold opC;rw[HG hi,LU,HS];by_cases c:L2.VL.opB ps[i] es=true
      · rw[if_pos c,IS (by exact c)];simp
      · rw[if_neg c,I0 (by exact c)];simp
     generalize ps[i]=p at *;have zl:(p.zip es).length<=sizeLine:=by rw[IR];omega
     have t1:=se (p.zip es) fun z=>decide (z.2<z.1);have t2:=mh (p.zip es) fun z=>decide (z.1<z.2);have t1:(!(((p.zip es).map fun z=>JT (decide (z.2<z.1))).any fun z=>z.eqv (.bool true)))=L2.VL.shB p es:=t1;have t2:(!(((p.zip es).map fun z=>JT (decide (z.1<z.2))).any fun z=>z.eqv (.bool false)))=L2.VL.opB p es:=t2;have y1:=gM (p.zip es) fun z=>decide (z.2<z.1);have y2:=gM (p.zip es) fun z=>decide (z.1<z.2);simp_arith only[ah,ae,Hg,dN];refine EU (cg (xs:=p.zip es) (enc:=fun z=>Ii [fr z.1,fr z.2]) (fun z=>.bool (decide (z.2<z.1))) rfl ?_ zl ?_)
     · rintro⟨x,e⟩ hm;obtain⟨mx,me⟩:=IB hm;have h2:E9 2000 x:=(hq x mx).mono (by decide);have h3:E9 2000 e:=(he e me).mono (by decide);simp_arith only[ah,ae,FH,sC]
     simp_arith only[ah,ae,Hg,dN,y1,t1];refine(show sq (VL.ret (Fl.nx _)) (mS _) K from ?_);simp_arith only[ah,ae,Hg,dN];refine(cg (xs:=p.zip es) (enc:=fun z=>Ii [fr z.1,fr z.2]) (fun z=>.bool (decide (z.1<z.2))) rfl ?_ zl ?_)
     · rintro⟨x,e⟩ hm;obtain⟨mx,me⟩:=IB hm;have h2:E9 2000 x:=(hq x mx).mono (by decide);have h3:E9 2000 e:=(he e me).mono (by decide);simp_arith only[ah,ae,FH,sC]
     simp_arith only[ah,ae,Hg,dN,y2,t2];refine hK _ (cf ?_);rw[n1,n2];rfl
   · rintro ρ rfl;rw[HF (Hw _)];obtain⟨tp0,tp1,bt1⟩:=tR e4 he;have b0:=lv es;have n0:(ps.length:Int)≠0:=by omega
     have cd:eC (btE es ps.length) (ps.length:Int):=qL (k:=60) n0 (by omega) (by decide)
     have ed:(btE es ps.length).fdiv (ps.length:Int)=btE es 1:=by
      rw[gY,JA _ (by omega),KR _ n0]
     have s60:shC ps es<60:=by have:=Jh (fun p=>L2.VL.shB p es) ps;unfold shC;omega
     have o60:opC ps es<60:=by have:=Jh (fun p=>L2.VL.opB p es) ps;unfold opC;omega
     have m1:bj (shC ps es:Int) (btE es 1):=.lt (by omega);have m2:bj (opC ps es:Int) (btE es 1):=.lt (by omega);have m3:bj (tpE es) (ps.length:Int):=.rt (by omega);simp_arith only[ah,ae,Hg,ed];exact aF hQ
noncomputable def zR(n:Nat)(ps:List (List Rat))(C:List (List Rat))(a b:Int):Prop:=0<b/\b<2^100/\a.natAbs<2^100/\0<=qd a b/\(qd a b=0\/∃es∈C,qd a b=ov ps es\/qd a b=la ps es)/\∀es∈C,ov ps es<=qd a b/\la ps es<=qd a b
theorem vA{a c:Int}(hb:0<b)(h:a<=c):qd a b<=qd c b:=by
 have e:qd c b=qd a b+qd (c-a) b:=by rw[gA _ _ hb];congr 1;omega
 have n:=nj hb (show 0<=c-a by omega);rw[e]
 grind
theorem jK{a c d:Int}(hb:0<b)(hd:0<d):a*d<c*b↔qd a b<qd c d:=by
 have e1:qd a b=qd (a*d) (b*d):=by
  unfold qd;have r1:=cM hb;have r2:=cM hd;rw[IQ,IQ]
  grind
 have e2:qd c d=qd (c*b) (b*d):=by
  unfold qd;have r1:=cM hb;have r2:=cM hd;rw[IQ,IQ]
  grind
 have hbd:=KJ hb hd;rw[e1,e2];constructor
 · intro h;have h1:=vA hbd (show a*d+1<=c*b by omega);have h2:qd (a*d+1) (b*d)=qd (a*d) (b*d)+qd 1 (b*d):=(gA _ _ hbd).symm
   have h3:0<qd 1 (b*d):=by
    have z:qd 1 (b*d)≠0:=by
     unfold qd;have r:=cM hbd;have:((1:Int):Rat)=1:=rfl;rw[this];intro z;have:(1:Rat)=0:=by grind
     exact absurd this (by decide)
    have:=nj hbd (show(0:Int)<=1 by decide)
    grind
   grind
 · intro h;by_cases c1:a*d<c*b
   · exact c1
   · have:=vA hbd (show c*b<=a*d by omega)
     grind
noncomputable def bu:List W->(Hi->Prop)->Prop:=fun ws Q=>∃(ps:List (List Rat)),ws=[.d (ptsQ ps)]/\((1<=ps.length)/\(ps.length<60)/\(pdim ps<=4)/\(Gy (pdim ps) ps)/\((ps.length+1)^(pdim ps)<=3000))/\Q (fr (Ez (pdim ps) ps))
theorem bu.mono:∀ws (Q Q':Hi->Prop),(∀d,Q d->Q' d)->bu ws Q->bu ws Q':=fun _ _ _ h_=>HC fun _=>Ho (Ho (h_ _))
theorem bu.len:∀ws (Q:Hi->Prop),bu ws Q->ws.length=1:=fun _ _ h_=>by obtain⟨_,e_,_⟩:=h_;subst e_;rfl
theorem bu.eq(ps:List (List Rat))(h1:1<=ps.length)(h60:ps.length<60)(n4:pdim ps<=4)(hp:Gy (pdim ps) ps)(h3:(ps.length+1)^(pdim ps)<=3000):bu [.d (ptsQ ps)]=VL.ret (fr (Ez (pdim ps) ps):Hi):=by
 refine ag fun Q=>⟨?_,fun q_=>⟨ps,rfl,⟨h1,h60,n4,hp,h3⟩,q_⟩⟩;rintro⟨ps',e_,_,q_⟩;simp_arith only[di,bE,bC,aS,aM,bI,ya,yz,vG,rC,rB,wf,yV,qR,v8,vf,yh,u6,xW,wN,yS,and_assoc]at e_;obtain rfl:=e_;exact q_
theorem hX:FnScope ["_law_points_here", "_law_some", "_law_side", "_law_ends", "_law_point", "_law_wider", "_law_one", "_law_best", "_law_above", "_law_beneath", "_law_bottom"] ["_law_points_here"] (defScope (EE 47)):=⟨rfl,rfl,rfl,by decide +kernel,rfl,by decide +kernel,by decide +kernel⟩
theorem d__law_uneven(Fn:FnIn K mg "_law_uneven" (EE 47) ["_law_points_here"])(Z:Bz mg)(d__law_frac:∀rl,Dfn P w K mg base rl "_law_frac" ["_law_n", "_law_d"] 1 aW)(d__law_corner:∀rl,Dfn P w K mg base rl "_law_corner" ["_law_points_here", "_law_ends"] 2 bO)(d__law_below:∀rl,Dfn P w K mg base rl "_law_below" ["_law_one", "_law_other"] 1 aU)   : Dfn P w K mg base rl "_law_uneven" ["_law_points_here"] 3 bu:=by
 have sc:=hX
 refine Dfn.of Fn sc (bu.mono) (bu.len) (fun cdv A outer s H E hr=>(au (ay 1 sc.nd (dP (aa (bD ab) ab)))
  (au (cx [2,3,4,5,6] Ih rfl (cu Z.range_ (aa (dg Z.len_ (aa (br (vn 0) af) ab)) ab)) (ak 2 sc.nd) (au (eE 3 sc.nd (dP (aa (bD (aa af (aa af ab))) ab)))
  (au (cx [4] Ih rfl (dO (vn 0)) (ak 4 sc.nd) (ax (eI (cC (eY hr.u65) lM (by with_unfolding_all rfl) (br (vn 4) (vn 2)) (vn 3)) (ax (jr 3 (aa (br (vn 4) (vn 2)) ab))) c7)))
  (au (tG 3 (ay 5 sc.nd (dP ab)))
  (au (cx [6] Ih rfl (cH (vn 1)) (ak 6 sc.nd) (ax (ay 5 sc.nd (xF (vn 5) (bc ["_law_end", "_law_one"] [none,some 6] rfl (cH (vn 3)) (fun _=>(ak 0 (show Ij (["_law_end", "_law_one"]:List Str) by decide +kernel))) (fun _=>cr) (fun _=>(dJ (vn 1) (bD (aa (vn 0) ab)))))))))
  (ax (ay 1 sc.nd (vn 5))))))))
  (au (ay 7 sc.nd (bD (aa af (aa af ab))))
  (au (cx [6,8,9,10] Ih rfl (cH (vn 1)) (ak 6 sc.nd) (au (xi (av (d__law_corner _) (hr.mono (by decide)) (aa (vn 0) (aa (vn 6) ab))) (dj (n:=3) rfl (aI (ak 8 sc.nd) (aI (ak 9 sc.nd) (aI (ak 10 sc.nd) cI)))))
  (ax (eI (jt (av (d__law_below _) (hr.mono (by decide)) (aa (vn 7) (aa (bD (aa (og Z.max_ (aa (vn 8) (aa (vn 9) ab))) (aa (vn 10) ab))) ab)))) (ax (ay 7 sc.nd (bD (aa (og Z.max_ (aa (vn 8) (aa (vn 9) ab))) (aa (vn 10) ab))))) c7))))
  (ax (aH (av (d__law_frac _) (hr.mono (by decide)) (aa (br (vn 7) af) (aa (br (vn 7) af) ab)))))))))) ?_
 rintro ws Q ⟨ps,rfl,⟨h1,h60,n4,hp,h3⟩,hQ⟩;refine aE ?_;have sz:=HN;have gn : -(2^62)<=((pdim ps:Nat):Int)/\((pdim ps:Nat):Int)<2^62:=by omega
 have e0:atI ps 0=some (ps.head?.getD []):=by
  cases ps with
  | nil=>simp at h1
  | cons p l=>exact at0 p l
 have ep:(ps.head?.getD []).length=pdim ps:=rfl;simp_arith only[ah,ae,Hg,e0,ep];refine eN (fun i ρ=>∃Es:List (List Rat),zP i ps Es/\ρ=[some (.d (ptsQ ps)),some (.d (.list ((chP Es).map Fb))),none,none,none,none,none,none,none,none,none]) ⟨[],⟨rfl,fun i hi=>by omega⟩,rfl⟩ ?_ ?_
 · rintro i hi ρ ⟨Es,hE,rfl⟩ K hK;simp_arith only[ah,ae,Hg];refine dA (xs:=ps) (enc:=Fb) (fun j ρ=>∃E:List Rat,G1 (ps.take j) i E/\ρ=[some (.d (ptsQ ps)),some (.d (.list ((chP Es).map Fb))),some (.d (.int (0+(i:Int)))),some (.ml (E.map fr)),none,none,none,none,none,none,none]) rfl ⟨[1],⟨by simp,fun e=>by simp⟩,rfl⟩ ?_ ?_
   · rintro j hj ρ ⟨E,hEj,rfl⟩ K2 hK2;have hpj:=hp _ (HZ hj);have ex:=cp (xs:=ps[j]) 0 (show(0:Int)<=0+(i:Int) by omega) (by rw[hpj.1];omega);rw[show(0+(i:Int)).toNat=i by omega]at ex;have sh:=eU (ps[j].getD i 0);have ly:=lm E;have El:=hEj.1;have Elz:E.length<sizeLine:=by rw[Iz]at El;omega
     have tk:ps.take (j+1)=ps.take j++[ps[j]]:=HG hj;generalize ps[j]=p at *;generalize hx_:p.getD i 0=x at *
     have ea:((E.map fr).any fun z=>z.eqv (fr x))=decide (x∈E):=by
      rw[List.any_map];have:(fun z=>IL (fr z) (fr x))=fun z=>decide (z=x):=by funext z;exact eqv_fr z x
      show E.any (fun z=>IL (fr z) (fr x))=_;rw[this];by_cases m:x∈E
      · rw[decide_eq_true m,List.any_eq_true];exact⟨x,m,by simp⟩
      · rw[decide_eq_false m,List.any_eq_false];intro z mz;simp;rintro rfl;exact m mz
     by_cases m:x∈E
     · have d:=decide_eq_true m;simp_arith only[ah,ae,Hg,ex,sh,ly,ea,d];refine hK2 _ (cf ⟨E,⟨by rw[tk,HS,JX];omega,fun e=>?_⟩,rfl⟩);rw[hEj.2 e,tk];constructor
       · rintro(h|⟨q,mq,h⟩)
         · exact .inl h
         · exact .inr ⟨q,Jy _ mq,h⟩
       · rintro(h|⟨q,mq,h⟩)
         · exact .inl h
         · rcases Ik.mp mq with mq|mq
           · exact .inr ⟨q,mq,h⟩
           · rw[HI.mp mq]at h;have:=(hEj.2 e).mp (by rw[h,hx_];exact m);exact this
     · have d:=decide_eq_false m;simp_arith only[ah,ae,Hg,ex,sh,ly,ea,d];refine hK2 _ (cf ⟨E++[x],⟨by rw[tk,HS,HS,JX,JX];omega,fun e=>?_⟩,by simp[fo,Ir]⟩);rw[Ik,hEj.2 e,tk,HI];constructor
       · rintro((h|⟨q,mq,h⟩)|h)
         · exact .inl h
         · exact .inr ⟨q,Jy _ mq,h⟩
         · exact .inr ⟨p,HH _ Hr,by rw[h,hx_]⟩
       · rintro(h|⟨q,mq,h⟩)
         · exact .inl (.inl h)
         · rcases Ik.mp mq with mq|mq
           · exact .inl (.inr ⟨q,mq,h⟩)
           · rw[HI.mp mq]at h;exact .inr (by rw[h,hx_])
   · rintro ρ ⟨E,hEj,rfl⟩;rw[HF (Hw _)]at hEj;have El:=hEj.1
     have hE':zP (i+1) ps (Es++[E]):=⟨by simp[hE.1],fun k hk=>by
      by_cases z:k<i
      · rw[p9 _ _ _ _ (by rw[hE.1];exact z)];exact hE.2 k z
      · have:k=i:=by omega
        subst this
        rw[p8 _ _ _ _ (by rw[hE.1];exact Hw _),hE.1,NX];exact hEj⟩
     have rl:((chP Es).flatMap fun b=>E.map fun t=>b++[t]).length<=3000:=by
      rw[<- gh]
      have:=qJ (ps.length+1) (i+1) (Es++[E]) hE'.1 fun r mr=>by
       obtain⟨j,hj,rfl⟩:=KN mr;have:=(hE'.2 j (by rw[hE'.1]at hj;exact hj)).1
       rwa [bA hj]at this
      have h4:(ps.length+1)^(i+1)<=(ps.length+1)^(pdim ps):=HJ (by omega) (by omega);omega
     have hes:∀b∈chP Es,b.length=i:=fun b mb=>((jc 0 i Es hE.1 b).mp mb).1;have cs:chP (Es++[E])=(chP Es).flatMap fun b=>E.map fun t=>b++[t]:=gh Es E;generalize chP Es=C at *;simp_arith only[ah,ae,Hg];refine dA (xs:=C) (enc:=Fb) (fun k ρ=>ρ=[some (.d (ptsQ ps)),some (.d (.list (C.map Fb))),some (.d (.int (0+(i:Int)))),some (.d (.list (E.map fr))),none,some (.d (.list (((C.take k).flatMap fun b=>E.map fun t=>b++[t]).map Fb))),none,none,none,none,none]) rfl rfl ?_ ?_
     · rintro k hk ρ rfl K2 hK2;have bl:=hes _ (HZ hk);have tk:(C.take (k+1)).flatMap (fun b=>E.map fun t=>b++[t])=(C.take k).flatMap (fun b=>E.map fun t=>b++[t])++E.map fun t=>C[k]++[t]:=by rw[HG hk,Nr];simp
       have tl:((C.take k).flatMap fun b=>E.map fun t=>b++[t]).length+E.length<=sizeLine:=by
        have e1:C.flatMap (fun b=>E.map fun t=>b++[t])=(C.take (k+1)).flatMap (fun b=>E.map fun t=>b++[t])++(C.drop (k+1)).flatMap (fun b=>E.map fun t=>b++[t]):=by rw[<- Nr,List.take_append_drop]
        rw[e1,HS,tk,HS,Hs]at rl;omega
       generalize C[k]=b at *;generalize (C.take k).flatMap (fun b=>E.map fun t=>b++[t])=T at *;have bz:b.length+1<=sizeLine:=by omega
       simp_arith only[ah,ae,Hg];refine cg (xs:=E) (enc:=fr) (fun t=>Fb (b++[t])) rfl ?_ (by omega) ?_
       · intro t mt;simp_arith only[ah,ae,FH,Hg];simp[Fb]
       · have em:E.map (fun t=>Fb (b++[t]))=(E.map fun t=>b++[t]).map Fb:=by rw[IU];rfl
         rw[em];simp_arith only[ah,ae];refine hK2 _ (cf ?_);rw[tk,Ir];rfl
     · rintro ρ rfl;rw[HF (Hw _)];simp_arith only[ah,ae];refine hK _ (cf ⟨Es++[E],hE',?_⟩);rw[cs];rfl
 · rintro ρ ⟨Es,hE,rfl⟩;have hbx:∀es∈chP Es,jp (pdim ps) ps es:=fun es me=>(hE.mem es).mp me;simp_arith only[ah,ae,Hg];refine dA (xs:=chP Es) (enc:=Fb) (fun k ρ=>∃a b:Int,zR (pdim ps) ps ((chP Es).take k) a b/\ρ=[some (.d (ptsQ ps)),some (.d (.list ((chP Es).map Fb))),none,none,none,none,none,some (.d (pr a b)),none,none,none]) rfl ⟨0,1,⟨by decide,by decide,by decide,by rw[tX (by decide)];exact KO,.inl (tX (by decide)),by simp⟩,rfl⟩ ?_ ?_
   · rintro k hk ρ ⟨a,b,hb,rfl⟩ K hK;have bx:=hbx _ (HZ hk);have tk:(chP Es).take (k+1)=(chP Es).take k++[(chP Es)[k]]:=HG hk;generalize (chP Es)[k]=es at *;obtain⟨b0,b1,a1,a0,hz,hm⟩:=hb;have he:∀e∈es,E9 20 e:=fun e me=>(zJ hp bx e me).1;have e4:es.length<=4:=by rw[bx.1];exact n4
     have hp4:∀p∈ps,p.length<=4/\∀q∈p,E9 20 q:=fun p mp=>⟨by rw[(hp p mp).1];exact n4,fun q mq=>((hp p mp).2 q mq).1⟩;obtain⟨o1,o2⟩:=A3 ps h1 es;obtain⟨tp0,tp1,bt1⟩:=tR e4 he;have bt0:=lv es;have s60:shC ps es<60:=by have:=Jh (fun p=>L2.VL.shB p es) ps;unfold shC;omega
     have o60:opC ps es<60:=by have:=Jh (fun p=>L2.VL.opB p es) ps;unfold opC;omega
     have B0:0<btE es ps.length:=by rw[gY];exact KJ (by omega) bt0
     have B1:btE es ps.length<2^100:=by
      rw[gY];have:(ps.length:Int)*btE es 1<=60*btE es 1:=JJ (by omega) (by omega);omega
     have X1:((shC ps es:Int)*btE es 1-tpE es*ps.length).natAbs<2^100:=by
      have u1:(shC ps es:Int)*btE es 1<=60*btE es 1:=JJ (by omega) (by omega);have u2:0<=(shC ps es:Int)*btE es 1:=Lm (by omega) (by omega);have u3:tpE es*ps.length<=tpE es*60:=JM (by omega) tp0;have u4:0<=tpE es*(ps.length:Int):=Lm tp0 (by omega);omega
     have X2:(tpE es*ps.length-(opC ps es:Int)*btE es 1).natAbs<2^100:=by
      have u1:(opC ps es:Int)*btE es 1<=60*btE es 1:=JJ (by omega) (by omega);have u2:0<=(opC ps es:Int)*btE es 1:=Lm (by omega) (by omega);have u3:tpE es*ps.length<=tpE es*60:=JM (by omega) tp0;have u4:0<=tpE es*(ps.length:Int):=Lm tp0 (by omega);omega
     have pc:=bO.eq ps es h1 h60 e4 hp4 he;generalize (shC ps es:Int)*btE es 1-tpE es*ps.length=X at *;generalize tpE es*ps.length-(opC ps es:Int)*btE es 1=Y at *;generalize btE es ps.length=B at *;have M1:(max X Y).natAbs<2^100:=by omega
     have mv:qd (max X Y) B=mx (ov ps es) (la ps es):=by
      rw[<- o1,<- o2];unfold mx;by_cases c:X<Y
      · have:qd X B<qd Y B:=(jK B0 B0).mp (LJ c B0);rw[if_pos this,Int.max_eq_right (by omega)]
      · have:¬qd X B<qd Y B:=fun z=>by
          have:=vA B0 (show Y<=X by omega)
          grind
        rw[if_neg this,Int.max_eq_left (by omega)]
     have lt:=jK (a:=a) (c:=max X Y) b0 B0
     have pb:aU [.d (pr a b),.d (.tuple [.int (max X Y),.int B])]=VL.ret (.bool (decide (qd a b<qd (max X Y) B))):=by
      have l1:Hb a:=Hy a1 (HJ (by decide) (by decide));have l2:Hb B:=Hy (show B.natAbs<2^100 by omega) (HJ (by decide) (by decide));have l3:Hb (max X Y):=Hy M1 (HJ (by decide) (by decide));have l4:Hb b:=Hy (show b.natAbs<2^100 by omega) (HJ (by decide) (by decide));have:=aU.eq a b (max X Y) B (.bb l1 l2) (.bb l3 l4);rw[show decide (a*B<max X Y*b)=decide (qd a b<qd (max X Y) B)from decide_eq_decide.mpr lt]at this;exact this
     by_cases hlt:qd a b<qd (max X Y) B
     · have d:=decide_eq_true hlt;simp_arith only[ah,ae,Hg,pc,pb,d];refine hK _ (cf ⟨max X Y,B,⟨B0,B1,M1,Rat.le_trans a0 (Lo hlt),.inr ⟨es,by rw[tk];exact HH _ Hr,?_⟩,fun fs mf=>?_⟩,rfl⟩)
       · rw[mv];unfold mx;split
         · exact .inr rfl
         · exact .inl rfl
       · rw[tk]at mf;rcases Ik.mp mf with mf|mf
         · have:=hm fs mf;constructor<;>grind
         · rw[HI.mp mf,mv];unfold mx;split<;>constructor<;>grind
     · have d:=decide_eq_false hlt;simp_arith only[ah,ae,Hg,pc,pb,d];refine hK _ (cf ⟨a,b,⟨b0,b1,a1,a0,?_,fun fs mf=>?_⟩,rfl⟩)
       · rcases hz with hz|⟨fs,mf,hz⟩
         · exact .inl hz
         · exact .inr ⟨fs,by rw[tk];exact Jy _ mf,hz⟩
       · rw[tk]at mf;rcases Ik.mp mf with mf|mf
         · exact hm fs mf
         · rw[HI.mp mf];rw[mv]at hlt;have h1:ov ps es<=mx (ov ps es) (la ps es):=by unfold mx;split<;>grind
           have h2:la ps es<=mx (ov ps es) (la ps es):=by unfold mx;split<;>grind
           constructor<;>grind
   · rintro ρ ⟨a,b,hb,rfl⟩;rw[HF (Hw _)]at hb;obtain⟨b0,b1,a1,a0,hz,hm⟩:=hb
     have iu:qZ (pdim ps) ps (qd a b):=by
      refine⟨?_,fun es be=>hm es ((hE.mem es).mpr be)⟩;rcases hz with hz|⟨es,me,hz⟩
      · exact⟨_,k5 _ ps,.inl (by rw[pH hp h1];exact hz)⟩
      · exact⟨es,hbx es me,hz⟩
     rw[tO iu]at hQ;have bz:b.natAbs<2^8000:=Hy (show b.natAbs<2^100 by omega) (HJ (by decide) (by decide));have i0:∀a b:Int,itemAt (pr a b) 0=some (.int a):=fun _ _=>rfl;have i1:∀a b:Int,itemAt (pr a b) 1=some (.int b):=fun _ _=>rfl;simp_arith only[ah,ae,Hg,i0,i1,aW.eq];exact aF hQ
noncomputable def cy:List W->(Hi->Prop)->Prop:=fun ws Q=>∃(s:Int),ws=[.reel,.d (.int s)]/\((1<=s)/\(s<=2))/\∀cs:List (List Rat),(cs.length=s.toNat/\∀c∈cs,da (if s=1 then 6 else 3) c)->Q (ptsQ cs)
theorem cy.mono:∀ws (Q Q':Hi->Prop),(∀d,Q d->Q' d)->cy ws Q->cy ws Q':=fun _ _ _ h_=>HC fun _=>Ho (Ho fun q_ o_ ho_=>h_ _ (q_ o_ ho_))
theorem cy.len:∀ws (Q:Hi->Prop),cy ws Q->ws.length=2:=fun _ _ h_=>by obtain⟨_,e_,_⟩:=h_;subst e_;rfl
theorem cy.eq(s:Int)(s1:1<=s)(s2:s<=2):cy [.reel,.d (.int s)]=FY (anyM fun cs:List (List Rat)=>cs.length=s.toNat/\∀c∈cs,da (if s=1 then 6 else 3) c) fun cs=>VL.ret (ptsQ cs:Hi):=by
 refine ag fun Q=>⟨?_,fun q_=>⟨s,rfl,⟨s1,s2⟩,q_⟩⟩;rintro⟨s',e_,_,q_⟩;simp_arith only[di,bE,bC,aS,aM,bI]at e_;obtain rfl:=e_;exact q_
theorem jG:FnScope ["_law_feed_here", "_law_s", "_law_found", "_law_side", "_law_d", "_law_some", "_law_at", "_law_k"] ["_law_feed_here", "_law_s"] (defScope (EE 48)):=⟨rfl,rfl,rfl,by decide +kernel,rfl,by decide +kernel,by decide +kernel⟩
theorem d__law_cuts(Fn:FnIn K mg "_law_cuts" (EE 48) ["_law_feed_here", "_law_s"])(Z:Bz mg)(d__law_draw:∀al,DfnC P w K mg base al 1 "_law_draw" ["_law_feed_here", "_law_many"] 1 a_)(d__law_frac:∀rl,Dfn P w K mg base rl "_law_frac" ["_law_n", "_law_d"] 1 aW)   : DfnC P w K mg base al 4224 "_law_cuts" ["_law_feed_here", "_law_s"] 2 cy:=by
 have sc:=jG
 refine DfnC.of Fn sc (cy.mono) (cy.len) (fun cdv A outer s H E hr=>(aD (cs fun _=>(eE 2 sc.nd (dP ab)))
  (aD (iz 64 [3,4,5,6,7] Ih rfl (ci fun _=>(cu Z.range_ (aa (vn 1) ab))) (fun _=>(ak 3 sc.nd)) (aD (dY 4 sc.nd (wY (cv fun _=>(dP (aa af (aa af (aa af (aa af ab)))))) (cG (d__law_draw _) (hr.mono (by decide)) (aj (cv fun _=>(vn 0)) (aj (cv fun _=>af) aN)))))
  (aD (cs fun _=>(eE 5 sc.nd (dP ab)))
  (aD (cs fun _=>(ay 6 sc.nd af))
  (aD (iz 64 [7] Ih rfl (qI Z.range_ (aj (cG (d__law_draw _) (hr.mono (by decide)) (aj (cv fun _=>(vn 0)) (aj (cv fun _=>(br (dP (aa af (aa af ab))) (v_sub (vn 1) af))) aN))) aN)) (fun _=>(ak 7 sc.nd)) (cN (sZ (cb fun _=>(cC pG n6 (bH _) (v_add (vn 6) af) (vn 4))) (aD (dY 6 sc.nd (wK (cv fun _=>(v_add (vn 6) af)) (cG (d__law_draw _) (hr.mono (by decide)) (aj (cv fun _=>(vn 0)) (aj (cv fun _=>(xE Z.min_ (aa af (aa (v_sub (v_sub (vn 4) (vn 6)) af) ab)))) aN)))))
  (cN (cs fun _=>(jr 5 (aa (av (d__law_frac _) (hr.mono (by decide)) (aa (vn 6) (aa (vn 4) ab))) ab))))) mN)))
  (cN (cs fun _=>(jr 2 (aa (cO Z.tuple_ (aa (vn 5) ab)) ab)))))))))
  (cN (cs fun _=>(aH (cO Z.tuple_ (aa (vn 2) ab)))))))) (by decide) ?_
 rintro ws Q ⟨s,rfl,⟨s1,s2⟩,hQ⟩;refine aE ?_;have sz:=HN;have gs : -(2^62)<=s/\s<2^62:=by omega
 simp_arith only[ah,ae,aO,aP,aA,aC,aQ,aB,aq,ac];refine eN (fun i ρ=>∃cs:List (List Rat),cs.length=i/\(∀c∈cs,da (if s=1 then 6 else 3) c)/\ρ=[some .reel,some (.d (.int s)),some (.ml (cs.map Fb)),none,none,none,none,none]) ⟨[],rfl,by simp[Gy],rfl⟩ ?_ ?_
 · rintro i hi ρ ⟨cs,hl,hc,rfl⟩ K hK;simp_arith only[ah,ae,aO,aP,aA,aC,aQ,aB,aq,ac,a_.eq]
   (with_reducible (first|refine aL fun k hk=>?_|refine aY fun k hk=>?_))
   refine ET (eg (xs:=[8,9,12,1000003]) (enc:=Iv) (fun m=>8<=m/\m<=1000003) rfl hk.1 (by show k<4;omega) (by decide) fun d hd=>?_);have d0:0<d:=by omega
   have dz:d.natAbs<2^8000:=Hy (show d.natAbs<2^60 by omega) (HJ (by decide) (by decide))
   have e7:atI [Iv 7,.int 4] (s-1)=some (.int (if s=1 then 7 else 4)):=by
    rcases(show s=1\/s=2 by omega)with rfl|rfl<;>rfl
   have r7:0<(if s=1 then(7:Int)else 4)/\(if s=1 then(7:Int)else 4)<2^60:=by split<;>omega
   obtain⟨r70,r71⟩:=r7;simp_arith only[ah,ae,aO,aP,aA,aC,aQ,aB,aq,ac,a_.eq,e7]
   (with_reducible (first|refine aL fun n hn=>?_|refine aY fun n hn=>?_))
   have gn : -(2^62)<=n/\n<2^62:=by omega
   have n7:n.toNat<=(if s=1 then 6 else 3):=by have:=hn.2;split at this<;>simp_all<;>omega
   have n64:n.toNat<=64:=by split at n7<;>omega
   simp_arith only[ah,ae,aO,aP,aA,aC,aQ,aB,aq,ac];refine eN (fun j ρ=>∃(as:List Int)(a:Int),as.length<=j/\(∀x∈as,0<x/\x<=a)/\as.Pairwise (· < ·)/\0<=a/\a<d/\ρ=[some .reel,some (.d (.int s)),some (.ml (cs.map Fb)),some (.d (.int (0+i))),some (.d (.int d)),some (.ml ((as.map fun a=>qd a d).map fr)),some (.d (.int a)),none]) ⟨[],0,Hw _,by simp,.nil,No _,d0,rfl⟩ ?_ ?_
   · rintro j hj ρ ⟨as,a,al,ha,hpw,a0,a1,rfl⟩ K2 hK2;simp_arith only[ah,ae,aO,aP,aA,aC,aQ,aB,aq,ac,a_.eq];refine dG (fun hlt=>?_) fun _=>hK2 _ (cf ⟨as,a,by omega,ha,hpw,a0,a1,rfl⟩);have hlt:=of_decide_eq_true hlt;have m0:0<min 4 (d-a-1):=by omega
     have m1:min 4 (d-a-1)<2^60:=by omega
     simp_arith only[ah,ae,aO,aP,aA,aC,aQ,aB,aq,ac,a_.eq]
     (with_reducible (first|refine aL fun x hx=>?_|refine aY fun x hx=>?_))
     have az:as.length<sizeLine:=by split at n7<;>omega
     have xd:a+1+x<d:=by have:=hx.2;omega
     have x0:=hx.1;generalize hy:a+1+x=y at xd;simp_arith only[ah,ae,aO,aP,aA,aC,aQ,aB,aq,ac,aW.eq];refine hK2 _ (cf ⟨as++[y],y,by rw[HS];simp;omega,fun z mz=>?_,?_,by omega,xd,by simp[fo,Ir]⟩)
     · rcases Ik.mp mz with h|h
       · have:=ha z h;omega
       · rw[HI.mp h];omega
     · rw[Na];refine⟨hpw,List.pairwise_singleton _ _,fun u mu v mv=>?_⟩;rw[HI.mp mv];have:=ha u mu;omega
   · rintro ρ ⟨as,a,al,ha,hpw,a0,a1,rfl⟩;have cz:cs.length<sizeLine:=by omega
     have az:as.length<=sizeLine:=by split at n7<;>omega
     simp_arith only[ah,ae,aO,aP,aA,aC,aQ,aB,aq,ac];refine hK _ (cf ⟨cs++[as.map fun a=>qd a d],by rw[HS,hl];rfl,fun c mc=>?_,by simp[fo,Ir,Fb]⟩);rcases Ik.mp mc with h|h
     · exact hc c h
     · rw[HI.mp h];exact⟨d,as,d0,by omega,Je al n7,rfl,fun x mx=>by have:=ha x mx;omega,hpw⟩
 · rintro ρ ⟨cs,hl,hc,rfl⟩;simp_arith only[ah,ae,aO,aP,aA,aC,aQ,aB,aq,ac];exact aF (hQ cs ⟨hl,hc⟩)
noncomputable def b9:List W->(Hi->Prop)->Prop:=fun ws Q=>ws=[.reel]/\(True)/\∀r:Rat,(E9 20 r)->Q (fr r)
theorem b9.mono:∀ws (Q Q':Hi->Prop),(∀d,Q d->Q' d)->b9 ws Q->b9 ws Q':=fun _ _ _ h_=>Ho (Ho fun q_ o_ ho_=>h_ _ (q_ o_ ho_))
theorem b9.len:∀ws (Q:Hi->Prop),b9 ws Q->ws.length=1:=fun _ _ h_=>by obtain⟨e_,_⟩:=h_;subst e_;rfl
theorem b9.eq   : b9 [.reel]=FY (anyM fun r:Rat=>E9 20 r) fun r=>VL.ret (fr r:Hi):=by
 refine ag fun Q=>⟨?_,fun q_=>⟨rfl,trivial,q_⟩⟩;rintro⟨e_,_,q_⟩;simp_arith only[di,bE,bC,aS,aM,bI]at e_;exact q_
theorem iZ:FnScope ["_law_feed_here"] ["_law_feed_here"] (defScope (EE 49)):=⟨rfl,rfl,rfl,by decide +kernel,rfl,by decide +kernel,by decide +kernel⟩
theorem d__law_value(Fn:FnIn K mg "_law_value" (EE 49) ["_law_feed_here"])(Z:Bz mg)(d__law_frac:∀rl,Dfn P w K mg base rl "_law_frac" ["_law_n", "_law_d"] 1 aW)(d__law_draw:∀al,DfnC P w K mg base al 1 "_law_draw" ["_law_feed_here", "_law_many"] 1 a_)   : DfnC P w K mg base al 2 "_law_value" ["_law_feed_here"] 2 b9:=by
 have sc:=iZ;refine DfnC.of Fn sc (b9.mono) (b9.len) (fun cdv A outer s H E hr=>(cN (qC (qQ (fun n=>d__law_frac _) (hr.mono (by decide)) (aj (Bu (cG (d__law_draw _) (hr.mono (by decide)) (aj (cv fun _=>(vn 0)) (aj (cv fun _=>af) aN))) (cv fun _=>af)) (aj (wY (cv fun _=>(dP (aa af (aa af (aa af (aa af (aa af (aa af ab)))))))) (cG (d__law_draw _) (hr.mono (by decide)) (aj (cv fun _=>(vn 0)) (aj (cv fun _=>af) aN)))) aN)))))) (by decide) ?_;rintro ws Q ⟨rfl,_,hQ⟩;refine aE ?_;simp_arith only[ah,ae,aO,aP,aA,aC,aQ,aB,aq,ac,a_.eq]
 (with_reducible (first|refine aL fun a ha=>?_|refine aY fun a ha=>?_))
 try simp_arith only[ah,ae,aO,aP,aA,aC,aQ,aB,aq,ac,a_.eq]
 (with_reducible (first|refine aL fun k hk=>?_|refine aY fun k hk=>?_))
 try simp_arith only[ah,ae,aO,aP,aA,aC,aQ,aB,aq,ac,a_.eq]
 refine(eg (xs:=[1,1,2,3,7,999983]) (enc:=Iv) (fun m=>1<=m/\m<=999983) rfl hk.1 (by show k<6;omega) (by decide) fun m hm=>?_);have m0:0<m:=by omega
 have mz:m.natAbs<2^8000:=Hy (show m.natAbs<2^60 by omega) (HJ (by decide) (by decide));simp_arith only[ah,ae,aO,aP,aA,aC,aQ,aB,aq,ac,aW.eq];exact aF (hQ _ (kW m0 (by omega) (by omega)))
noncomputable def b_:List W->(Hi->Prop)->Prop:=fun ws Q=>∃(s:Int),ws=[.reel,.d (.int s)]/\((1<=s)/\(s<=2))/\∀h:Sh,(h.Ok/\h.cuts.length=s.toNat)->Q (shD h)
theorem b_.mono:∀ws (Q Q':Hi->Prop),(∀d,Q d->Q' d)->b_ ws Q->b_ ws Q':=fun _ _ _ h_=>HC fun _=>Ho (Ho fun q_ o_ ho_=>h_ _ (q_ o_ ho_))
theorem b_.len:∀ws (Q:Hi->Prop),b_ ws Q->ws.length=2:=fun _ _ h_=>by obtain⟨_,e_,_⟩:=h_;subst e_;rfl
theorem b_.eq(s:Int)(s1:1<=s)(s2:s<=2):b_ [.reel,.d (.int s)]=FY (anyM fun h:Sh=>h.Ok/\h.cuts.length=s.toNat) fun h=>VL.ret (shD h:Hi):=by
 refine ag fun Q=>⟨?_,fun q_=>⟨s,rfl,⟨s1,s2⟩,q_⟩⟩;rintro⟨s',e_,_,q_⟩;simp_arith only[di,bE,bC,aS,aM,bI,dF,cK]at e_;obtain rfl:=e_;exact q_
theorem i4:FnScope ["_law_feed_here", "_law_s", "_law_cuts_here", "_law_rows", "_law_k"] ["_law_feed_here", "_law_s"] (defScope (EE 50)):=⟨rfl,rfl,rfl,by decide +kernel,rfl,by decide +kernel,by decide +kernel⟩
theorem d__law_sheet(Fn:FnIn K mg "_law_sheet" (EE 50) ["_law_feed_here", "_law_s"])(Z:Bz mg)(d__law_cuts:∀al,DfnC P w K mg base al 4224 "_law_cuts" ["_law_feed_here", "_law_s"] 2 cy)(d__law_value:∀al,DfnC P w K mg base al 2 "_law_value" ["_law_feed_here"] 2 b9)   : DfnC P w K mg base al 12544 "_law_sheet" ["_law_feed_here", "_law_s"] 3 b_:=by
 have sc:=i4
 refine DfnC.of Fn sc (b_.mono) (b_.len) (fun cdv A outer s H E hr=>(aD (dY 2 sc.nd (cG (d__law_cuts _) (hr.mono (by decide)) (aj (cv fun _=>(vn 0)) (aj (cv fun _=>(vn 1)) aN))))
  (aD (sZ (cb fun _=>(cC (eZ hr.units) df (bH _) (vn 1) af)) (cN (qC (Bt (aj (cv fun _=>(vn 2)) (aj (jn Z.tuple_ (aj (jo 64 ["_law_k", "_law_feed_here"] [none,some 0] rfl (ci fun _=>(cu Z.range_ (aa (v_add (dg Z.len_ (aa (br (vn 2) af) ab)) af) ab))) (fun _ _=>(ak 0 (show Ij (["_law_k", "_law_feed_here"]:List Str) by decide +kernel))) (fun _=>mM) (fun _=>(cG (d__law_value _) (hr.mono (by decide)) (aj (cv fun _=>(vn 1)) aN)))) aN)) aN))))) mN)
  (aD (cs fun _=>(eE 3 sc.nd (dP ab)))
  (aD (iz 64 [4] Ih rfl (ci fun _=>(cu Z.range_ (aa (v_add (dg Z.len_ (aa (br (vn 2) af) ab)) af) ab))) (fun _=>(ak 4 sc.nd)) (cN (qD 3 (aj (jn Z.tuple_ (aj (jo 64 ["_law_j", "_law_feed_here"] [none,some 0] rfl (ci fun _=>(cu Z.range_ (aa (v_add (dg Z.len_ (aa (br (vn 2) af) ab)) af) ab))) (fun _ _=>(ak 0 (show Ij (["_law_j", "_law_feed_here"]:List Str) by decide +kernel))) (fun _=>mM) (fun _=>(cG (d__law_value _) (hr.mono (by decide)) (aj (cv fun _=>(vn 1)) aN)))) aN)) aN))))
  (cN (cs fun _=>(aH (bD (aa (vn 2) (aa (cO Z.tuple_ (aa (vn 3) ab)) ab))))))))))) (by decide) ?_
 rintro ws Q ⟨s,rfl,⟨s1,s2⟩,hQ⟩;refine aE ?_;have sz:=HN;simp_arith only[ah,ae,aO,aP,aA,aC,aQ,aB,aq,ac,cy.eq]
 (with_reducible (first|refine aL fun cs hcs=>?_|refine aY fun cs hcs=>?_))
 obtain⟨cl,hc⟩:=hcs;rcases(show s=1\/s=2 by omega)with rfl|rfl
 · obtain⟨c,rfl⟩:∃c,cs=[c]:=by
     match cs,cl with
     | [c],_=>exact⟨c,rfl⟩
   have ck:da 6 c:=hc c Hr;have c6:=ck.len;have gc : -(2^62)<=((c.length:Int)+1)/\((c.length:Int)+1)<2^62:=by omega
   have e1:((c.length:Int)+1).toNat=c.length+1:=by omega
   have t64:((c.length:Int)+1).toNat<=64:=by omega
   simp_arith only[ah,ae,aO,aP,aA,aC,aQ,aB,aq,ac,Hg];refine EU (jm (fun d=>∃r:Rat,E9 20 r/\d=fr r) ?_ (by omega) ?_)
   · intro j hj K2 hK2;simp_arith only[ah,ae,FH,b9.eq]
     (with_reducible (first|refine aL fun x hx=>?_|refine aY fun x hx=>?_))
     exact hK2 _ ⟨x,hx,rfl⟩
   intro ds dl hds;obtain⟨qs,rfl,ql,hqs⟩:=fA hds;have qz:(qs.map fr).length<=sizeLine:=by omega
   simp_arith only[ah,ae,aO,aP,aA,aC,aQ,aB,aq,ac,Hf];exact aF (hQ (.one c qs) ⟨⟨ck,by omega,hqs⟩,rfl⟩)
 · obtain⟨c,d,rfl⟩:∃c d,cs=[c,d]:=by
     match cs,cl with
     | [c,d],_=>exact⟨c,d,rfl⟩
   have ck:da 3 c:=hc c Hr;have dk:da 3 d:=hc d (Hv _ Hr);have c6:=ck.len;have d6:=dk.len;have gc : -(2^62)<=((c.length:Int)+1)/\((c.length:Int)+1)<2^62:=by omega
   have gd : -(2^62)<=((d.length:Int)+1)/\((d.length:Int)+1)<2^62:=by omega
   have e1:((c.length:Int)+1).toNat=c.length+1:=by omega
   have e2:((d.length:Int)+1).toNat=d.length+1:=by omega
   simp_arith only[ah,ae,aO,aP,aA,aC,aQ,aB,aq,ac,Hg,e1,e2];refine eN (fun i ρ=>∃vs:List (List Rat),vs.length=i/\(∀v∈vs,v.length=d.length+1/\∀q∈v,E9 20 q)/\ρ=[some .reel,some (.d (.int 2)),some (.d (ptsQ [c,d])),some (.ml (vs.map Fb)),none]) ⟨[],rfl,by simp,rfl⟩ ?_ ?_
   · rintro i hi ρ ⟨vs,hl,hv,rfl⟩ K hK;simp_arith only[ah,ae,aO,aP,aA,aC,aQ,aB,aq,ac,Hg,e2];refine(jm (fun d=>∃r:Rat,E9 20 r/\d=fr r) ?_ (by omega) ?_)
     · intro j hj K2 hK2;simp_arith only[ah,ae,FH,b9.eq]
       (with_reducible (first|refine aL fun x hx=>?_|refine aY fun x hx=>?_))
       exact hK2 _ ⟨x,hx,rfl⟩
     intro ds dl hds;obtain⟨qs,rfl,ql,hqs⟩:=fA hds;have qz:(qs.map fr).length<=sizeLine:=by omega
     have vz:vs.length<sizeLine:=by omega
     simp_arith only[ah,ae,aO,aP,aA,aC,aQ,aB,aq,ac,Hf];refine hK _ (cf ⟨vs++[qs],by rw[HS,hl];rfl,fun v mv=>?_,by simp[fo,Ir]⟩);rcases Ik.mp mv with h|h
     · exact hv v h
     · rw[HI.mp h];exact⟨by omega,hqs⟩
   · rintro ρ ⟨vs,hl,hv,rfl⟩;have vz:vs.length<=sizeLine:=by omega
     simp_arith only[ah,ae,aO,aP,aA,aC,aQ,aB,aq,ac];exact aF (hQ (.two c d vs) ⟨⟨ck,dk,hl,hv⟩,rfl⟩)
noncomputable def ca:List W->(Hi->Prop)->Prop:=fun ws Q=>∃(q r:Rat),ws=[.d (fr q),.d (fr r)]/\((E9 2000 q)/\(E9 2000 r))/\Q (fr (q+r))
theorem ca.mono:∀ws (Q Q':Hi->Prop),(∀d,Q d->Q' d)->ca ws Q->ca ws Q':=fun _ _ _ h_=>HC fun _=>HC fun _=>Ho (Ho (h_ _))
theorem ca.len:∀ws (Q:Hi->Prop),ca ws Q->ws.length=2:=fun _ _ h_=>by obtain⟨_,_,e_,_⟩:=h_;subst e_;rfl
theorem ca.eq(q r:Rat)(h1:E9 2000 q)(h2:E9 2000 r):ca [.d (fr q),.d (fr r)]=VL.ret (fr (q+r):Hi):=by
 refine ag fun Q=>⟨?_,fun q_=>⟨q,r,rfl,⟨h1,h2⟩,q_⟩⟩;rintro⟨q',r',e_,_,q_⟩;simp_arith only[di,bE,bC,aS,aM,bI]at e_;obtain⟨rfl,rfl⟩:=e_;exact q_
theorem jC:FnScope ["_law_one", "_law_other"] ["_law_one", "_law_other"] (defScope (EE 51)):=⟨rfl,rfl,rfl,by decide +kernel,rfl,by decide +kernel,by decide +kernel⟩
theorem d__law_plus(Fn:FnIn K mg "_law_plus" (EE 51) ["_law_one", "_law_other"])(Z:Bz mg)(d__law_frac:∀rl,Dfn P w K mg base rl "_law_frac" ["_law_n", "_law_d"] 1 aW)   : Dfn P w K mg base rl "_law_plus" ["_law_one", "_law_other"] 2 ca:=by
 have sc:=jC;refine Dfn.of Fn sc (ca.mono) (ca.len) (fun cdv A outer s H E hr=>(ax (aH (av (d__law_frac _) (hr.mono (by decide)) (aa (v_add (v_mul (br (vn 0) af) (br (vn 1) af)) (v_mul (br (vn 1) af) (br (vn 0) af))) (aa (v_mul (br (vn 0) af) (br (vn 1) af)) ab)))))) ?_;rintro ws Q ⟨q,r,rfl,⟨h1,h2⟩,hQ⟩;refine aE ?_;have m1:bj q.num r.den:=.bb h1.bn h2.bd;have m2:bj r.num q.den:=.bb h2.bn h1.bd;have m3:bj q.den r.den:=.bb h1.bd h2.bd;have m4:bj q.num r.num:=.bb h1.bn h2.bn;have d1:=dX q r;have d2:=dW h1 h2;simp_arith only[ah,ae,aW.eq,Hg,t6];exact aF hQ
noncomputable def bL:List W->(Hi->Prop)->Prop:=fun ws Q=>∃(q r:Rat),ws=[.d (fr q),.d (fr r)]/\((E9 2000 q)/\(E9 2000 r))/\Q (fr (q*r))
theorem bL.mono:∀ws (Q Q':Hi->Prop),(∀d,Q d->Q' d)->bL ws Q->bL ws Q':=fun _ _ _ h_=>HC fun _=>HC fun _=>Ho (Ho (h_ _))
theorem bL.len:∀ws (Q:Hi->Prop),bL ws Q->ws.length=2:=fun _ _ h_=>by obtain⟨_,_,e_,_⟩:=h_;subst e_;rfl
theorem bL.eq(q r:Rat)(h1:E9 2000 q)(h2:E9 2000 r):bL [.d (fr q),.d (fr r)]=VL.ret (fr (q*r):Hi):=by
 refine ag fun Q=>⟨?_,fun q_=>⟨q,r,rfl,⟨h1,h2⟩,q_⟩⟩;rintro⟨q',r',e_,_,q_⟩;simp_arith only[di,bE,bC,aS,aM,bI]at e_;obtain⟨rfl,rfl⟩:=e_;exact q_
theorem i3:FnScope ["_law_one", "_law_other"] ["_law_one", "_law_other"] (defScope (EE 52)):=⟨rfl,rfl,rfl,by decide +kernel,rfl,by decide +kernel,by decide +kernel⟩
theorem d__law_times(Fn:FnIn K mg "_law_times" (EE 52) ["_law_one", "_law_other"])(Z:Bz mg)(d__law_frac:∀rl,Dfn P w K mg base rl "_law_frac" ["_law_n", "_law_d"] 1 aW)   : Dfn P w K mg base rl "_law_times" ["_law_one", "_law_other"] 2 bL:=by
 have sc:=i3;refine Dfn.of Fn sc (bL.mono) (bL.len) (fun cdv A outer s H E hr=>(ax (aH (av (d__law_frac _) (hr.mono (by decide)) (aa (v_mul (br (vn 0) af) (br (vn 1) af)) (aa (v_mul (br (vn 0) af) (br (vn 1) af)) ab)))))) ?_;rintro ws Q ⟨q,r,rfl,⟨h1,h2⟩,hQ⟩;refine aE ?_;have m1:bj q.num r.den:=.bb h1.bn h2.bd;have m2:bj r.num q.den:=.bb h2.bn h1.bd;have m3:bj q.den r.den:=.bb h1.bd h2.bd;have m4:bj q.num r.num:=.bb h1.bn h2.bn;have d1:=dX q r;have d2:=dW h1 h2;simp_arith only[ah,ae,aW.eq,Hg,t3];exact aF hQ
theorem eR{α:Type}(f g:α->Rat):∀l:List α,bJ (l.map fun x=>f x+g x)=bJ (l.map f)+bJ (l.map g)
 | []=>by show(0:Rat)=0+0;rw[MS]
 | x::l=>by rw[HE,HE,HE,ba,ba,ba,eR f g l];grind
theorem d7{α:Type}(a:Rat)(f:α->Rat):∀l:List α,bJ (l.map fun x=>a*f x)=a*bJ (l.map f)
 | []=>by show(0:Rat)=a*0;rw[MY]
 | x::l=>by rw[HE,HE,ba,ba,d7 a f l];grind
theorem dQ{α:Type}(f:α->Rat):∀l:List α,(∀x∈l,f x=0)->bJ (l.map f)=0
 | [],_=>rfl
 | x::l,h=>by rw[HE,ba,h x Hr,dQ f l fun y my=>h y (Hv _ my),MS]
theorem aV{f g:α->Rat}{l:List α}(h:∀x∈l,f x=g x):bJ (l.map f)=bJ (l.map g):=by rw[Kg h]
theorem gb:∀(a b:List Rat),bJ (a++b)=bJ a+bJ b
 | [],b=>by show bJ b=0+bJ b;rw[NW]
 | x::a,b=>by rw[Lq,ba,ba,gb a b];grind
theorem gj{α:Type}(f:α->List Rat):∀l:List α,bJ (l.flatMap f)=bJ (l.map fun x=>bJ (f x))
 | []=>rfl
 | x::l=>by rw[Mc,gb,HE,ba,gj f l]
theorem gq{α β:Type}(f:α->β->Rat)(ys:List β):∀xs:List α,bJ (xs.map fun x=>bJ (ys.map fun y=>f x y))=bJ (ys.map fun y=>bJ (xs.map fun x=>f x y))
 | []=>by
   rw[Jr]
   refine(dQ _ _ fun y _=>rfl).symm
 | x::xs=>by
   rw[HE,ba,gq f ys xs,<- eR];refine aV fun y _=>?_;rw[HE,ba]
theorem jV(n:Nat):fq 0 (n+1)=fq 0 n++[(n:Int)]:=by unfold fq;rw[List.range_succ,Ir];simp
theorem iK(f:Int->Rat)(j:Int):∀m:Nat,0<=j->j<=(m:Int)->bJ ((fq 0 m).map fun k=>if j<=k then f k-f (k+1)else 0)=f j-f m
 | 0,h0,h1=>by
   have:j=0:=by omega
   subst this;show(0:Rat)=f 0-f ((0:Nat):Int);show(0:Rat)=f 0-f 0
   grind
 | m+1,h0,h1=>by
   rw[jV,Ir,gb,HE,Jr,ba];have e:(((m+1:Nat):Int))=(m:Int)+1:=by omega
   rw[e];show _+(_+(0:Rat))=_;by_cases c:j<=(m:Int)
   · rw[iK f j m h0 c,if_pos c];grind
   · have:j=(m:Int)+1:=by omega
     subst this;rw[if_neg c,dQ _ _ fun k mk=>if_neg (by have:=Aa.mp mk;omega)]
     grind
theorem oA(g:Int->Rat)(j:Int)(h0:0<=j):∀m:Nat,bJ ((fq 0 m).map fun k=>if k<=j then g (k+1)-g k else 0)=g (if(m:Int)<=j+1 then(m:Int)else j+1)-g 0
 | 0=>by
   rw[if_pos (show((0:Nat):Int)<=j+1 by omega)];show(0:Rat)=g 0-g 0
   grind
 | m+1=>by
   rw[jV,Ir,gb,oA g j h0 m,HE,Jr,ba];have e:(((m+1:Nat):Int))=(m:Int)+1:=by omega
   rw[e];show _+(_+(0:Rat))=_;by_cases c:(m:Int)<=j
   · rw[if_pos c,if_pos (by omega),if_pos (by omega)];grind
   · by_cases c2:(m:Int)=j+1
     · rw[if_neg c,if_pos (by omega),if_neg (by omega),c2];grind
     · rw[if_neg c,if_neg (by omega),if_neg (by omega)];grind
noncomputable def FB(p q:List Int):Bool:=(p.zip q).all fun z=>decide (z.1<=z.2)
theorem A1(c:List Rat):pch [c]=(fq 0 (c.length+1)).map fun k=>[k]:=by show FW _=_;rw[HE,Jr,wX]
theorem A0(c d:List Rat):pch [c,d]=(fq 0 (c.length+1)).flatMap fun k=>(fq 0 (d.length+1)).map fun j=>[k,j]:=by show FW _=_;rw[HE,HE,Jr,zD]
theorem A_{k:Int}:[k]∈pch [c]↔0<=k/\k<=(c.length:Int):=by
 rw[A1,HX];constructor
 · rintro⟨i,mi,e⟩
   injection e with e
   subst e;have:=Aa.mp mi;omega
 · intro h;exact⟨k,Aa.mpr (by omega),rfl⟩
theorem mem2{d:List Rat}{k:Int}:[k,j]∈pch [c,d]↔(0<=k/\k<=(c.length:Int))/\0<=j/\j<=(d.length:Int):=by
 rw[A0,Jz];constructor
 · rintro⟨i,mi,mj⟩;obtain⟨l,ml,e⟩:=HX.mp mj
   injection e with e e2
   injection e2 with e2
   subst e e2;have:=Aa.mp mi;have:=Aa.mp ml;omega
 · intro h;exact⟨k,Aa.mpr (by omega),HX.mpr ⟨j,Aa.mpr (by omega),rfl⟩⟩
theorem ux(hp:p∈pch s.cuts):s.at p=bJ ((pch s.cuts).map fun q=>if FB p q=true then bm s s.cuts.length q else 0):=by
 cases s with
 | one c v =>
   show _=bJ ((pch [c]).map _);obtain⟨a,rfl,a0,a1⟩:=kd.one (c:=c) ((Sh.one c v).pch_ok p hp)
   have e:∀f:Int->Rat,(∀k,f k=if [k]∈pch [c]then(Sh.one c v).at [k]else 0)->bJ ((pch [c]).map fun q=>if FB [a] q=true then bm (.one c v) 1 q else 0)=f a:=fun f hf=>by
    rw[A1,IU];have t:=iK f a (c.length+1) a0 (by omega);have z:f ((c.length+1:Nat):Int)=0:=by rw[hf,if_neg (by rw[A_];omega)]
    rw[z]at t;rw[show f a=f a-0 by grind,<- t];refine aV fun k mk=>?_;have mk:=Aa.mp mk;show(if FB [a] [k]=true then bm (.one c v) 1 [k]else 0)=_;have el:FB [a] [k]=decide (a<=k):=by simp[FB]
    have ef:bm (.one c v) 1 [k]=f k-f (k+1):=by
     rw[hf,hf,if_pos (by rw[A_];omega)];rfl
    rw[el,ef];by_cases h:a<=k
    · rw[if_pos (decide_eq_true h),if_pos h]
    · rw[if_neg (by simpa using h),if_neg h]
   refine Eq.trans ?_ (e (fun k=>if [k]∈pch [c]then(Sh.one c v).at [k]else 0) fun k=>rfl).symm;show _=if [a]∈pch [c]then _ else _
   rw[if_pos (by rw[A_];omega)]
 | two c d vs =>
   show _=bJ ((pch [c,d]).map _);obtain⟨a,b,rfl,⟨a0,a1⟩,b0,b1⟩:=kd.two (c:=c) (d:=d) ((Sh.two c d vs).pch_ok p hp)
   have e:∀f:Int->Int->Rat,(∀k j,f k j=if [k,j]∈pch [c,d]then(Sh.two c d vs).at [k,j]else 0)->bJ ((pch [c,d]).map fun q=>if FB [a,b] q=true then bm (.two c d vs) 2 q else 0)=f a b:=fun f hf=>by
    rw[A0,Mv,gj];have t:=iK (fun k=>f k b) a (c.length+1) a0 (by omega);have z:f ((c.length+1:Nat):Int) b=0:=by rw[hf,if_neg (by rw[mem2];omega)]
    rw[z]at t;rw[show f a b=f a b-0 by grind,<- t];refine aV fun k mk=>?_;have mk:=Aa.mp mk;rw[IU];have t2:=iK (fun j=>f k j-f (k+1) j) b (d.length+1) b0 (by omega);have z1:f k ((d.length+1:Nat):Int)=0:=by rw[hf,if_neg (by rw[mem2];omega)]
    have z2:f (k+1) ((d.length+1:Nat):Int)=0:=by rw[hf,if_neg (by rw[mem2];omega)]
    rw[z1,z2]at t2;have el:∀j,FB [a,b] [k,j]=(decide (a<=k)&&decide (b<=j)):=fun j=>by simp[FB]
    by_cases h:a<=k
    · rw[if_pos h,show f k b-f (k+1) b=f k b-f (k+1) b-(0-0) by grind,<- t2];refine aV fun j mj=>?_;have mj:=Aa.mp mj;show(if FB [a,b] [k,j]=true then bm (.two c d vs) 2 [k,j]else 0)=_;rw[el j,decide_eq_true h,NE]
      have e1:∀l:Int,0<=l->l<=(d.length:Int)->bm (.two c d vs) 1 [k,l]=f k l-f (k+1) l:=fun l l0 l1=>by
       rw[hf,hf,if_pos (by rw[mem2];omega)];rfl
      have ef:bm (.two c d vs) 2 [k,j]=f k j-f (k+1) j-(f k (j+1)-f (k+1) (j+1)):=by
       show bm (.two c d vs) 1 [k,j]-(if [k,j+1]∈pch [c,d]then bm (.two c d vs) 1 [k,j+1]else 0)=_;rw[e1 j (by omega) (by omega)];by_cases w:[k,j+1]∈pch [c,d]
       · rw[if_pos w,e1 (j+1) (by omega) (mem2.mp w).2.2]
       · rw[if_neg w];have w1:f k (j+1)=0:=by rw[hf,if_neg w]
         have w2:f (k+1) (j+1)=0:=by rw[hf,if_neg (by rw[mem2];intro z;exact w (mem2.mpr ⟨by omega,z.2⟩))]
         rw[w1,w2];grind
      rw[ef];by_cases h2:b<=j
      · rw[if_pos (decide_eq_true h2),if_pos h2]
      · rw[if_neg (by simpa using h2),if_neg h2]
    · rw[if_neg h];refine dQ _ _ fun j mj=>?_;show(if FB [a,b] [k,j]=true then bm (.two c d vs) 2 [k,j]else 0)=0;rw[el j,decide_eq_false h];rfl
   refine Eq.trans ?_ (e (fun k j=>if [k,j]∈pch [c,d]then(Sh.two c d vs).at [k,j]else 0) fun k j=>rfl).symm;show _=if [a,b]∈pch [c,d]then _ else _
   rw[if_pos (by rw[mem2];omega)]
theorem sy(c:List Rat)(k:Nat):(lim c).getD (k+1) 0=(c++[1]).getD k 0:=by unfold lim;rw[List.getD_cons_succ]
theorem yW(c:List Rat)(h:0<=j):lh c j=(lim c).getD (j+1).toNat 0-(lim c).getD j.toNat 0:=by
 unfold lh;rw[show(j+1).toNat=j.toNat+1 by omega]
theorem iQ(c:List Rat)(h0:0<=j)(h1:j<=(c.length:Int)):bJ ((fq 0 (c.length+1)).map fun k=>if k<=j then lh c k else 0)=(c++[1]).getD j.toNat 0:=by
 have t:=oA (fun k=>(lim c).getD k.toNat 0) j h0 (c.length+1);have z:(lim c).getD (0:Int).toNat 0=0:=rfl;have e:(if((c.length+1:Nat):Int)<=j+1 then((c.length+1:Nat):Int)else j+1)=j+1:=by split<;>omega
 rw[e]at t;rw[<- sy,show j.toNat+1=(j+1).toNat by omega];have t:_=(lim c).getD (j+1).toNat 0-(lim c).getD (0:Int).toNat 0:=t;rw[z]at t;rw[show(lim c).getD (j+1).toNat 0=(lim c).getD (j+1).toNat 0-0 by grind,<- t];refine aV fun k mk=>?_;have mk:=Aa.mp mk;rw[yW c mk.1]
theorem lX{q:List Int}(hq:q∈pch s.cuts):bJ ((pch s.cuts).map fun p=>if FB p q=true then eK s.cuts p else 0)=prodQ (endsP s.cuts q):=by
 cases s with
 | one c v =>
   show bJ ((pch [c]).map fun p=>if FB p q=true then eK [c] p else 0)=prodQ (endsP [c] q);obtain⟨a,rfl,a0,a1⟩:=kd.one (c:=c) ((Sh.one c v).pch_ok q hq);have e:prodQ (endsP [c] [a])=(c++[1]).getD a.toNat 0:=by show 1*_=_;rw[KM]
   rw[e,<- iQ c a0 a1,A1,IU];refine aV fun k mk=>?_;show(if FB [k] [a]=true then eK [c] [k]else 0)=_;have el:FB [k] [a]=decide (k<=a):=by simp[FB]
   have ef:eK [c] [k]=lh c k:=by show 1*_=_;rw[KM]
   rw[el,ef];by_cases h:k<=a
   · rw[if_pos (decide_eq_true h),if_pos h]
   · rw[if_neg (by simpa using h),if_neg h]
 | two c d vs =>
   show bJ ((pch [c,d]).map fun p=>if FB p q=true then eK [c,d] p else 0)=prodQ (endsP [c,d] q);obtain⟨a,b,rfl,⟨a0,a1⟩,b0,b1⟩:=kd.two (c:=c) (d:=d) ((Sh.two c d vs).pch_ok q hq);have e:prodQ (endsP [c,d] [a,b])=(d++[1]).getD b.toNat 0*(c++[1]).getD a.toNat 0:=by show 1*_*_=_;grind
   rw[e,<- iQ c a0 a1,<- d7,A0,Mv,gj];refine aV fun k mk=>?_;rw[IU];have el:∀j,FB [k,j] [a,b]=(decide (k<=a)&&decide (j<=b)):=fun j=>by simp[FB]
   by_cases h:k<=a
   · rw[if_pos h,NY,<- iQ d b0 b1,<- d7];refine aV fun j mj=>?_;show(if FB [k,j] [a,b]=true then eK [c,d] [k,j]else 0)=_;rw[el,decide_eq_true h,NE];have ef:eK [c,d] [k,j]=lh c k*lh d j:=by show 1*_*_=_;rw[KM]
     by_cases h2:j<=b
     · rw[if_pos (decide_eq_true h2),if_pos h2,ef]
     · rw[if_neg (by simpa using h2),if_neg h2,MY]
   · rw[if_neg h,MY];refine dQ _ _ fun j mj=>?_;show(if FB [k,j] [a,b]=true then _ else 0)=(0:Rat);rw[el,decide_eq_false h];rfl
theorem wa{a b c:Rat}(h:a<b)(g:b<c):a<c:=by grind
noncomputable def Gw(c:List Rat):Prop:=c.Pairwise (· < ·)/\∀q∈c,0<q/\q<1
theorem t4{a d:Int}(hd:0<d)(h:a<b):qd a d<qd b d:=by
 have e:qd b d=qd a d+qd (b-a) d:=by rw[gA _ _ hd];congr 1;omega
 have n:=nj hd (show 0<=b-a by omega)
 have z:qd (b-a) d≠0:=by
  unfold qd;have r:=cM hd;have r2:=cM (show 0<b-a by omega);intro z;have:((b-a:Int):Rat)=0:=by grind
  exact r2 this
 grind
theorem da.ris(h:da n c):Gw c:=by
 obtain⟨d,as,d0,_,_,rfl,ha,hp⟩:=h;refine⟨Lj.mpr (hp.imp fun h=>t4 d0 h),fun q hq=>?_⟩;obtain⟨a,ma,rfl⟩:=HX.mp hq;have:=ha a ma;have e:=t4 d0 this.1;rw[tX d0]at e;exact⟨e,o6 d0 this.2⟩
theorem lV(x e:Rat)(c:List Rat):L2.VL.stN x (e::c)=(if x<e then 0 else 1)+L2.VL.stN x c:=by
 unfold L2.VL.stN;by_cases h:x<e
 · rw[if_pos h,I0 (by simpa using h),Nat.zero_add]
 · rw[if_neg h,IS (by simpa using h),Il];omega
theorem iN{x:Rat}:∀{c:List Rat},(∀e∈c,x<e)->L2.VL.stN x c=0
 | [],_=>rfl
 | e::c,h=>by rw[lV,if_pos (h e Hr),iN fun y my=>h y (Hv _ my)]
theorem oJ{x:Rat}(hx:x<1):∀(c:List Rat),c.Pairwise (· < ·)->(∀e∈c,e<1)->∀k:Nat,k<=c.length->(L2.VL.stN x c<=k↔x<(c++[1]).getD k 0)
 | [],_,_,k,hk=>by
   have:k=0:=by simpa using hk
   subst this
   exact⟨fun _=>hx,fun _=>Hw _⟩
 | e::c,hp,h1,k,hk=>by
   have hc:=LV.mp hp;rw[lV]
   cases k with
   | zero =>
     show _↔x<e;by_cases h:x<e
     · rw[if_pos h,iN fun y my=>wa h (hc.1 y my)];exact⟨fun _=>h,fun _=>Hw _⟩
     · rw[if_neg h];constructor
       · intro z;omega
       · intro z;exact absurd z h
   | succ k =>
     have ih:=oJ hx c hc.2 (fun y my=>h1 y (Hv _ my)) k (by simpa using hk);show _↔x<(c++[1]).getD k 0;by_cases h:x<e
     · have z:L2.VL.stN x c=0:=iN fun y my=>wa h (hc.1 y my);rw[if_pos h,z];refine⟨fun _=>?_,fun _=>by omega⟩;have:(c++[1]).getD k 0∈c++[1]:=getD_mem (by simp at hk ⊢;omega);rcases Ik.mp this with m|m
       · exact wa h (hc.1 _ m)
       · rw[HI.mp m];exact hx
     · rw[if_neg h,<- ih];omega
theorem oI:∀(x:List Rat)(cs:List (List Rat))(q:List Int),x.length=cs.length->q.length=cs.length->(∀y∈x,y<1)->(∀c∈cs,Gw c)->(∀z∈cs.zip q,0<=z.2/\z.2<=(z.1.length:Int))->FB (ptc x cs) q=opB x (endsP cs q)
 | [],[],[],_,_,_,_,_=>rfl
 | x::xs,c::cs,k::q,h1,h2,hx,hc,hz=>by
   have ih:=oI xs cs q (by simpa using h1) (by simpa using h2) (fun y my=>hx y (Hv _ my)) (fun d md=>hc d (Hv _ md)) fun z mz=>hz z (Hv _ mz);obtain⟨r1,r2⟩:=hc c Hr;obtain⟨k0,k1⟩:=hz (c,k) Hr;dsimp only at k0 k1;have s:=oJ (hx x Hr) c r1 (fun e me=>(r2 e me).2) k.toNat (by omega);have e1:FB (ptc (x::xs) (c::cs)) (k::q)=(decide ((L2.VL.stN x c:Int)<=k)&&FB (ptc xs cs) q):=rfl;have e2:opB (x::xs) (endsP (c::cs) (k::q))=(decide (x<(c++[1]).getD k.toNat 0)&&opB xs (endsP cs q)):=rfl;rw[e1,e2,ih];congr 1;refine decide_eq_decide.mpr ?_
   rw[<- s];omega
 | [],_::_,_,h,_,_,_,_=>by simp at h
 | _::_,[],_,h,_,_,_,_=>by simp at h
 | [],[],_::_,_,h,_,_,_=>by simp at h
 | _::_,_::_,[],_,h,_,_,_=>by simp at h
theorem o9(hs:s.OkM m n){x:List Rat}{q:List Int}(hx:x.length=s.cuts.length)(h1:∀y∈x,y<1)(hq:q∈pch s.cuts)(hm:autoParam (m<=6) æb._auto_1):FB (ptc x s.cuts) q=opB x (endsP s.cuts q):=by
 have pk:=s.pch_ok q hq;exact oI x s.cuts q hx pk.1 h1 (fun c mc=>da.ris (s.cut6 hs hm c mc)) pk.2
theorem lu{α:Type}(f:α->Bool)(a:Rat):∀l:List α,bJ (l.map fun x=>if f x=true then a else 0)=a*(((l.filter f).length:Nat):Rat)
 | []=>by show(0:Rat)=a*((0:Nat):Rat);grind
 | x::l=>by
   rw[HE,ba,lu f a l];by_cases h:f x=true
   · rw[if_pos h,IS h,Il];grind
   · rw[if_neg h,I0 h];grind
theorem qj{f g:α->Bool}:∀{l:List α},(∀x∈l,f x=g x)->(l.filter f).length=(l.filter g).length:=fun{l} h=>by rw[List.filter_congr h]
theorem si(hs:s.OkN n)(hp:∀p∈ps,p.length=s.cuts.length/\∀y∈p,y<1):bJ (ps.map fun x=>s.at (ptc x s.cuts))=bJ ((pch s.cuts).map fun q=>bm s s.cuts.length q*((opC ps (endsP s.cuts q):Nat):Rat)):=by
 have e:bJ (ps.map fun x=>s.at (ptc x s.cuts))=bJ (ps.map fun x=>bJ ((pch s.cuts).map fun q=>if FB (ptc x s.cuts) q=true then bm s s.cuts.length q else 0)):=aV fun x mx=>ux (l_ (gB (hp x mx).1));rw[e,gq];refine aV fun q mq=>?_;rw[lu fun x=>FB (ptc x s.cuts) q];unfold opC;rw[qj fun x mx=>o9 hs (hp x mx).1 (hp x mx).2 mq]
theorem nV:bo s=bJ ((pch s.cuts).map fun q=>bm s s.cuts.length q*prodQ (endsP s.cuts q)):=by
 have e:bo s=bJ ((pch s.cuts).map fun p=>bJ ((pch s.cuts).map fun q=>bm s s.cuts.length q*(if FB p q=true then eK s.cuts p else 0))):=by
  unfold bo;refine aV fun p mp=>?_;have a:=ux mp;rw[a,NY,<- d7];refine aV fun q mq=>?_;split<;>grind
 rw[e,gq];refine aV fun q mq=>?_;rw[d7,lX mq]
theorem tZ(a:Nat)(n:Int):qd (a:Int) n=(a:Rat)*(qd n 1)⁻¹:=by
 unfold qd;have:((1:Int):Rat)=1:=rfl;rw[this,KL,show(n:Rat) / 1=n by grind];rfl
theorem wB(hs:s.OkN n)(hp:∀p∈ps,p.length=s.cuts.length/\∀y∈p,y<1):bJ (ps.map fun x=>s.at (ptc x s.cuts)) / qd ps.length 1-bo s=bJ ((pch s.cuts).map fun q=>bm s s.cuts.length q*(qd (opC ps (endsP s.cuts q):Int) ps.length-prodQ (endsP s.cuts q))):=by
 rw[si hs hp,nV,KL,NY,<- d7]
 have e:∀(f g:List Int->Rat),bJ ((pch s.cuts).map f)-bJ ((pch s.cuts).map g)=bJ ((pch s.cuts).map fun q=>f q-g q):=fun f g=>by
  have:=eR (fun q=>f q-g q) g (pch s.cuts);have e2:(fun x=>f x-g x+g x)=f:=by funext x;grind
  rw[e2]at this;rw[this];grind
 rw[e];refine aV fun q mq=>?_;have q1:=tZ (opC ps (endsP s.cuts q)) ps.length;rw[q1];generalize (qd ps.length 1)⁻¹=i
 grind
theorem vp(a b:Rat):E3 (a+b)<=E3 a+E3 b:=by unfold E3;split<;>split<;>split<;>grind
theorem vj{w m u:Rat}(h1 : -u<=m)(h2:m<=u):E3 (w*m)<=E3 w*u:=by
 have key:∀w:Rat,0<=w -> -(w*u)<=w*m/\w*m<=w*u:=fun w h=>by
  have a:=Kj h2 h;have b:=Kj h1 h;have e:w * -u = -(w*u):=by grind
  rw[e]at b;exact⟨b,a⟩
 by_cases c:w<0
 · have k:=key (-w) (by grind);have e1 : -w*m = -(w*m):=by grind
   have e2 : -w*u = -(w*u):=by grind
   rw[e1,e2]at k;have e3:E3 w*u = -(w*u):=by unfold E3;rw[if_pos c];grind
   rw[e3];unfold E3;split<;>grind
 · have k:=key w (by grind);have e3:E3 w*u=w*u:=by unfold E3;rw[if_neg c]
   rw[e3];unfold E3;split<;>grind
theorem kH:∀(l:List (List Rat×Rat))(a:Rat),l.foldl (fun a z=>if z.1=HB z.1.length 1 then a else a+E3 z.2) a=a+hU l
 | [],a=>by show a=a+0;rw[MS]
 | z::l,a=>by
   unfold hU;rw[IH,IH,kH l,kH l];split<;>grind
theorem rG(z:List Rat×Rat)(l:List (List Rat×Rat)):hU (z::l)=(if z.1=HB z.1.length 1 then 0 else E3 z.2)+hU l:=by
 show KQ _ (if z.1=HB z.1.length 1 then(0:Rat)else 0+E3 z.2) l=_;rw[kH];split<;>grind
theorem mU(V:List Int->Rat)(E:List Int->List Rat)(m:List Int->Rat){u:Rat}(hu:0<=u):∀l:List (List Int),(∀q∈l,E q=HB (E q).length 1->m q=0)->(∀q∈l,-u<=m q/\m q<=u)->E3 (bJ (l.map fun q=>V q*m q))<=hU ((l.filter fun q=>decide (V q≠0)).map fun q=>(E q,V q))*u
 | [],_,_=>by
   have e1:E3 (bJ ([].map fun q=>V q*m q))=0:=rfl;have e2:hU (([].filter fun q=>decide (V q≠0)).map fun q=>(E q,V q))*u=0:=by show 0*u=0;grind
   rw[e1,e2];exact KO
 | q::l,h0,h1=>by
   have ih:=mU V E m hu l (fun x mx=>h0 x (Hv _ mx)) fun x mx=>h1 x (Hv _ mx);obtain⟨a,b⟩:=h1 q Hr;have t:=vj (w:=V q) a b;rw[HE,ba];have s:=vp (V q*m q) (bJ (l.map fun q=>V q*m q));by_cases c:V q=0
   · rw[I0 (by simpa using c)];have z:E3 (V q*m q)=0:=by rw[c,Rat.zero_mul];rfl
     rw[z]at s
     grind
   · rw[IS (by simpa using c),HE,rG];by_cases d:E q=HB (E q).length 1
     · rw[if_pos d];have z:E3 (V q*m q)=0:=by rw[h0 q Hr d,MY];rfl
       rw[z]at s
       grind
     · rw[if_neg d]
       grind
theorem xS:∀(col:List Rat)(e:Rat),∃f:Rat,e<=1->((f=1\/f∈col)/\e<=f/\∀x∈col,x<f->x<e)
 | [],e=>⟨1,fun h=>⟨.inl rfl,h,fun x mx=>absurd mx (by simp)⟩⟩
 | x::col,e=>by
   obtain⟨f,hf⟩:=xS col e;by_cases c:e<=x/\x<f
   · refine⟨x,fun h=>⟨.inr Hr,c.1,fun y my hy=>?_⟩⟩;rcases Ic.mp my with rfl|my
     · exact absurd hy (by grind)
     · exact(hf h).2.2 y my (by grind)
   · refine⟨f,fun h=>⟨(hf h).1.imp id (Hv _),(hf h).2.1,fun y my hy=>?_⟩⟩;rcases Ic.mp my with rfl|my
     · have:=fun z=>c ⟨z,hy⟩
       grind
     · exact(hf h).2.2 y my hy
theorem zu:∀(col:List Rat)(e:Rat),∃f:Rat,(∃x∈col,x<e)->(f∈col/\f<e/\∀x∈col,x<e->x<=f)
 | [],e=>⟨0,fun⟨x,mx,_⟩=>absurd mx (by simp)⟩
 | x::col,e=>by
   obtain⟨f,hf⟩:=zu col e;by_cases c:∃y∈col,y<e
   · obtain⟨a1,a2,a3⟩:=hf c;by_cases d:x<e/\f<x
     · refine⟨x,fun _=>⟨Hr,d.1,fun y my hy=>?_⟩⟩;rcases Ic.mp my with rfl|my
       · exact KO
       · have:=a3 y my hy;grind
     · refine⟨f,fun _=>⟨Hv _ a1,a2,fun y my hy=>?_⟩⟩;rcases Ic.mp my with rfl|my
       · have:=fun z=>d ⟨hy,z⟩;grind
       · exact a3 y my hy
   · refine⟨x,fun⟨y,my,hy⟩=>?_⟩;rcases Ic.mp my with rfl|my
     · refine⟨Hr,hy,fun z mz hz=>?_⟩;rcases Ic.mp mz with rfl|mz
       · exact KO
       · exact absurd ⟨z,mz,hz⟩ c
     · exact absurd ⟨y,my,hy⟩ c
theorem fK:∀{p es:List Rat},p.length=es.length->(opB p es=true↔∀i,i<es.length->p.getD i 0<es.getD i 0)
 | [],[],_=>⟨fun _ i hi=>by simp at hi,fun _=>rfl⟩
 | x::p,e::es,h=>by
   have ih:=fK (p:=p) (es:=es) (by simpa using h);have e1:opB (x::p) (e::es)=(decide (x<e)&&opB p es):=rfl;rw[e1,Ki,ih,decide_eq_true_eq];constructor
   · rintro⟨a,b⟩ i hi
     cases i with
     | zero=>exact a
     | succ i=>exact b i (by simpa using hi)
   · intro b
     exact⟨b 0 (by simp),fun i hi=>b (i+1) (by simpa using hi)⟩
 | [],_::_,h=>by simp at h
 | _::_,[],h=>by simp at h
theorem oM:∀{p es:List Rat},p.length=es.length->(shB p es=true↔∀i,i<es.length->p.getD i 0<=es.getD i 0)
 | [],[],_=>⟨fun _ i hi=>by simp at hi,fun _=>rfl⟩
 | x::p,e::es,h=>by
   have ih:=oM (p:=p) (es:=es) (by simpa using h);have e1:shB (x::p) (e::es)=(!decide (e<x)&&shB p es):=rfl
   have e2:(!decide (e<x))=decide (x<=e):=by
    by_cases c:e<x
    · rw[decide_eq_true c,decide_eq_false (by grind)];rfl
    · rw[decide_eq_false c,decide_eq_true (by grind)];rfl
   rw[e1,e2,Ki,ih,decide_eq_true_eq];constructor
   · rintro⟨a,b⟩ i hi
     cases i with
     | zero=>exact a
     | succ i=>exact b i (by simpa using hi)
   · intro b
     exact⟨b 0 (by simp),fun i hi=>b (i+1) (by simpa using hi)⟩
 | [],_::_,h=>by simp at h
 | _::_,[],h=>by simp at h
theorem i_(q:Rat)(qs:List Rat):prodQ (q::qs)=q*prodQ qs:=by
 have key:∀(l:List Rat)(a:Rat),l.foldl (· * ·) a=a*prodQ l:=by
  intro l
  induction l with
  | nil=>intro a;show a=a*1;grind
  | cons x l ih=>intro a;unfold prodQ;rw[IH,IH,ih,ih];grind
 show KQ _ (1*q) qs=_;rw[key];grind
theorem ga(e:Rat)(es:List Rat):ES (e::es)=mx e 0*ES es:=by unfold ES;rw[HE,i_]
theorem Fp(e:Rat):0<=mx e 0:=by unfold mx;split<;>grind
theorem oE:∀es:List Rat,0<=ES es
 | []=>by show(0:Rat)<=1;decide
 | e::es=>by rw[ga];exact Rat.mul_nonneg (Fp e) (oE es)
theorem oF:∀{es fs:List Rat},es.length=fs.length->(∀i,i<es.length->es.getD i 0<=fs.getD i 0)->ES es<=ES fs
 | [],[],_,_=>KO
 | e::es,f::fs,h,hi=>by
   have ih:=oF (es:=es) (fs:=fs) (by simpa using h) fun i h=>hi (i+1) (by simpa using h);have h0:e<=f:=hi 0 (by simp);rw[ga,ga];have a:mx e 0<=mx f 0:=by unfold mx;split<;>split<;>grind
   have b1:=Kj ih (Fp e);have b2:=Rat.mul_le_mul_of_nonneg_right a (oE fs)
   exact Rat.le_trans b1 b2
 | [],_::_,h,_=>by simp at h
 | _::_,[],h,_=>by simp at h
theorem lq{α:Type}{f g:α->Bool}:∀{l:List α},(∀x∈l,f x=true->g x=true)->(l.filter f).length<=(l.filter g).length
 | [],_=>Hw _
 | x::l,h=>by
   have ih:=lq (f:=f) (g:=g) (l:=l) fun y my=>h y (Hv _ my);by_cases c:f x=true
   · rw[IS c,IS (h x Hr c),Il,Il];omega
   · rw[I0 c];by_cases d:g x=true
     · rw[IS d,Il];omega
     · rw[I0 d];exact ih
theorem wU{f:Nat->Rat}(h:i<n):((IJ n).map f).getD i 0=f i:=by rw[bA (by simpa using h)];simp
theorem E8{a b:Nat}{N:Nat}(hN:1<=N)(h:a<=b):qd (a:Int) (N:Int)<=qd (b:Int) (N:Int):=by
 have e:qd (b:Int) (N:Int)=qd (a:Int) N+qd ((b:Int)-a) N:=by rw[gA _ _ (by omega)];congr 1;omega
 have n:=nj (show(0:Int)<(N:Int) by omega) (show(0:Int)<=(b:Int)-a by omega)
 grind
theorem sf{u:Rat}(hp:∀p∈ps,p.length=n)(h1:1<=ps.length)(hu:qZ n ps u)(u0:0<=u)(el:es.length=n)(he:∀i,i<n->es.getD i 0<=1):qd (opC ps es:Int) ps.length-ES es<=u/\ES es-qd (opC ps es:Int) ps.length<=u:=by
 have col:∀i,∀p∈ps,p.getD i 0∈colQ ps i:=fun i p mp=>HX.mpr ⟨p,mp,rfl⟩
 have uncol:∀i x,x∈colQ ps i->∃p∈ps,x=p.getD i 0:=fun i x mx=>by
  obtain⟨p,mp,e⟩:=HX.mp mx;exact⟨p,mp,e.symm⟩
 constructor
 · by_cases c:∀i,i<n->∃x∈colQ ps i,x<es.getD i 0
   · have hf:∀i,∃f:Rat,i<n->(f∈colQ ps i/\f<es.getD i 0/\∀x∈colQ ps i,x<es.getD i 0->x<=f):=fun i=>by
       obtain⟨f,h⟩:=zu (colQ ps i) (es.getD i 0);exact⟨f,fun hi=>h (c i hi)⟩
     obtain⟨F,hF⟩:=Mq hf;have fl:((IJ n).map F).length=n:=by simp
     have bx:jp n ps ((IJ n).map F):=⟨fl,fun i hi=>by
      rw[wU hi]
      exact .inr (uncol i _ (hF i hi).1)⟩
     have o:=(hu.2 _ bx).1
     have z:ES ((IJ n).map F)<=ES es:=oF (by rw[fl,el]) fun i hi=>by
      rw[fl]at hi;rw[wU hi];exact Lo (hF i hi).2.1
     have cl:opC ps es<=shC ps ((IJ n).map F):=lq fun p mp h=>by
      have h:=(fK (by rw[hp p mp,el])).mp h;refine(oM (by rw[hp p mp,fl])).mpr fun i hi=>?_;rw[fl]at hi;rw[wU hi];exact(hF i hi).2.2 _ (col i p mp) (h i (by rw[el];exact hi))
     have q:=E8 h1 cl;unfold ov at o
     grind
   · have:∃i,i<n/\∀x∈colQ ps i,¬x<es.getD i 0:=by
       refine L5 fun z=>c fun i hi=>L5 fun y=>z ⟨i,hi,fun x mx hx=>y ⟨x,mx,hx⟩⟩
     obtain⟨i,hi,hn⟩:=this
     have o0:opC ps es=0:=by
      unfold opC;rw[Kf,List.filter_eq_nil_iff];intro p mp h;exact hn _ (col i p mp) ((fK (by rw[hp p mp,el])).mp h i (by rw[el];exact hi))
     rw[o0];have:=oE es;have z:qd ((0:Nat):Int) ps.length=0:=tX (by omega);rw[z]
     grind
 · have hf:∀i,∃f:Rat,i<n->((f=1\/f∈colQ ps i)/\es.getD i 0<=f/\∀x∈colQ ps i,x<f->x<es.getD i 0):=fun i=>by
     obtain⟨f,h⟩:=xS (colQ ps i) (es.getD i 0);exact⟨f,fun hi=>h (he i hi)⟩
   obtain⟨F,hF⟩:=Mq hf;have fl:((IJ n).map F).length=n:=by simp
   have bx:jp n ps ((IJ n).map F):=⟨fl,fun i hi=>by
    rw[wU hi]
    exact(hF i hi).1.imp id (uncol i _)⟩
   have o:=(hu.2 _ bx).2
   have z:ES es<=ES ((IJ n).map F):=oF (by rw[fl,el]) fun i hi=>by
    rw[el]at hi;rw[wU hi];exact(hF i hi).2.1
   have cl:opC ps ((IJ n).map F)<=opC ps es:=lq fun p mp h=>by
    have h:=(fK (by rw[hp p mp,fl])).mp h;refine(fK (by rw[hp p mp,el])).mpr fun i hi=>?_;rw[el]at hi;have:=h i (by rw[fl];exact hi);rw[wU hi]at this;exact(hF i hi).2.2 _ (col i p mp) this
   have q:=E8 h1 cl;unfold la at o
   grind
theorem lT:∀{es:List Rat},(∀e∈es,0<=e)->ES es=prodQ es
 | [],_=>rfl
 | e::es,h=>by
   rw[ga,i_,lT fun y my=>h y (Hv _ my)];have:=h e Hr;congr 1;unfold mx;rw[if_neg (by grind)]
theorem mL(hs:s.OkM m n){q:List Int}(hq:q∈pch s.cuts)(hm:autoParam (m<=6) æb._auto_1):∀e∈endsP s.cuts q,0<e/\e<=1:=by
 intro e me;obtain⟨⟨c,k⟩,mz,rfl⟩:=HX.mp me;have pk:=s.pch_ok q hq;obtain⟨k0,k1⟩:=pk.2 _ mz;dsimp only at k0 k1 ⊢;obtain⟨mc,_⟩:=IB mz;have r:=da.ris (s.cut6 hs hm c mc);have:(c++[1]).getD k.toNat 0∈c++[1]:=getD_mem (by simp;omega);rcases Ik.mp this with m|m
 · have:=r.2 _ m;exact⟨this.1,Lo this.2⟩
 · rw[HI.mp m];exact⟨by decide,KO⟩
theorem sV(hs:s.OkM m n){q:List Int}(hq:q∈pch s.cuts)(hm:autoParam (m<=6) æb._auto_1):∀e∈endsP s.cuts q,E9 20 e:=by
 intro e me;obtain⟨⟨c,k⟩,mz,rfl⟩:=HX.mp me;have pk:=s.pch_ok q hq;obtain⟨k0,k1⟩:=pk.2 _ mz;dsimp only at k0 k1 ⊢;obtain⟨mc,_⟩:=IB mz;have:(c++[1]).getD k.toNat 0∈c++[1]:=getD_mem (by simp;omega);rcases Ik.mp this with m|m
 · exact da.sm (s.cut6 hs hm c mc) _ m
 · rw[HI.mp m];exact E_.mono (by decide)
theorem jM:∀n:Nat,prodQ (HB n 1)=1
 | 0=>rfl
 | n+1=>by rw[Jg,i_,jM n,Rat.mul_one]
theorem vT{p:List Rat}(h:p.length=n)(h1:∀y∈p,y<1):opB p (HB n 1)=true:=by
 refine(fK (by simp[h])).mpr fun i hi=>?_;rw[Kq]at hi;rw[bA (show i<p.length by omega),bA (by simpa using hi),MB];exact h1 _ (HZ _)
theorem sO(h:∀e∈es,e<=1)(i:Nat):es.getD i 0<=1:=by
 by_cases c:i<es.length
 · exact h _ (getD_mem c)
 · rw[Iq,JI (by omega)];show(0:Rat)<=1;decide
theorem kG(hs:s.Ok)(hp:∀p∈ps,p.length=s.cuts.length/\∀y∈p,y<1)(h1:1<=ps.length){u:Rat}(hu:qZ s.cuts.length ps u)(u0:0<=u):E3 (bJ (ps.map fun x=>s.at (ptc x s.cuts)) / qd ps.length 1-bo s)<=hU (fZ s)*u:=by
 rw[wB hs hp];refine mU (bm s s.cuts.length) (endsP s.cuts) (fun q=>qd (opC ps (endsP s.cuts q):Int) ps.length-prodQ (endsP s.cuts q)) u0 (pch s.cuts) (fun q mq e=>?_) fun q mq=>?_
 · have el:=dU (s.pch_ok q mq);rw[el]at e;rw[e,jM]
   have o:opC ps (HB s.cuts.length 1)=ps.length:=by
    unfold opC;rw[Nq.mpr fun p mp=>vT (hp p mp).1 (hp p mp).2]
   rw[o,zY (by omega)];grind
 · have el:=dU (s.pch_ok q mq);have ei:=mL hs mq;obtain⟨a,b⟩:=sf (fun p mp=>(hp p mp).1) h1 hu u0 el fun i _=>sO (fun e me=>(ei e me).2) i;rw[lT fun e me=>Lo (ei e me).1]at a b;constructor<;>grind
noncomputable def rd(es b:List Rat):Rat:=if opB b es=true then 1 else 0
noncomputable def lp(es:List Rat):Sh->Sh
 | .one c _=>.one c ((0::c).map fun x=>rd es [x])
 | .two c d _=>.two c d ((0::c).map fun x=>(0::d).map fun y=>rd es [x,y])
theorem fu(es:List Rat)(s:Sh):(lp es s).cuts=s.cuts:=by cases s<;>rfl
theorem tJ(es b:List Rat):Ek [(es,1)] b []=fr (rd es b):=by
 unfold Ek rd;congr 1;by_cases c:opB b es=true
 · rw[if_pos c,List.filter_cons,if_pos (show opB b (es,(1:Rat)).1=true from c)];show(0:Rat)+1=1;rw[NW]
 · rw[if_neg c,List.filter_cons,if_neg (show ¬opB b (es,(1:Rat)).1=true from c)];rfl
theorem xn(es:List Rat)(s:Sh):Ii [ptsQ s.cuts,Ek [(es,1)] [] s.cuts]=shD (lp es s):=by
 unfold shD;rw[fu];congr 3
 cases s with
 | one c v =>
   show Ek [(es,1)] [] [c]=Fb _;unfold Ek Fb;rw[IU];congr 1
   exact Kg fun x _=>tJ es [x]
 | two c d vs =>
   show Ek [(es,1)] [] [c,d]=ptsQ _;unfold Ek ptsQ;rw[IU];congr 1;refine Kg fun x _=>?_;show Ek [(es,1)] [x] [d]=Fb _;unfold Ek Fb;rw[IU];congr 1;exact Kg fun y _=>tJ es [x,y]
theorem pY(es b:List Rat):E9 20 (rd es b):=by
 unfold rd;split
 · exact E_.mono (by decide)
 · exact q0s.mono (by decide)
theorem wu(es:List Rat)(h:s.Ok):(lp es s).Ok:=by
 cases s with
 | one c v=>exact⟨h.1,by simp,fun q mq=>by
     obtain⟨x,_,rfl⟩:=HX.mp mq
     exact pY es _⟩
 | two c d vs=>exact⟨h.1,h.2.1,by simp,fun v mv=>by
     obtain⟨x,_,rfl⟩:=HX.mp mv;refine⟨by simp,fun q mq=>?_⟩;obtain⟨y,_,rfl⟩:=HX.mp mq
     exact pY es _⟩
theorem mV:∀(c:List Rat),c.Pairwise (· < ·)->(∀e∈c,e<1)->∀(a:Rat),(∀e∈c,a<e)->a<1->∀k j:Nat,k<=c.length->j<=c.length->((a::c).getD k 0<(c++[1]).getD j 0↔k<=j)
 | c,hp,h1,a,ha,a1,0,j,_,hj=>by
   refine⟨fun _=>II _,fun _=>?_⟩;have:(c++[1]).getD j 0∈c++[1]:=getD_mem (by simp;omega);show a<_;rcases Ik.mp this with m|m
   · exact ha _ m
   · rw[HI.mp m];exact a1
 | [],_,_,_,_,_,k+1,_,hk,_=>by simp at hk
 | e::c,hp,h1,a,ha,a1,k+1,0,hk,hj=>by
   have hc:=LV.mp hp;show(e::c).getD k 0<e↔_;refine⟨fun z=>?_,fun z=>by omega⟩;have:(e::c).getD k 0∈e::c:=getD_mem (show k<(e::c).length from hk);rcases Ic.mp this with m|m
   · rw[m]at z;exact absurd z (by grind)
   · have:=hc.1 _ m;exact absurd z (by grind)
 | e::c,hp,h1,a,ha,a1,k+1,j+1,hk,hj=>by
   have hc:=LV.mp hp;have ih:=mV c hc.2 (fun y my=>h1 y (Hv _ my)) e hc.1 (h1 e Hr) k j (by simpa using hk) (by simpa using hj);show(e::c).getD k 0<(c++[1]).getD j 0↔_;rw[ih];omega
theorem Gw.begin(h:Gw c){k:Int}(k0:0<=k)(k1:k<=(c.length:Int))(j0:0<=j)(j1:j<=(c.length:Int)):decide ((0::c).getD k.toNat 0<(c++[1]).getD j.toNat 0)=decide (k<=j):=by
 refine decide_eq_decide.mpr ?_;rw[mV c h.1 (fun e me=>(h.2 e me).2) 0 (fun e me=>(h.2 e me).1) (by decide) k.toNat j.toNat (by omega) (by omega)];omega
theorem uo(hs:s.OkN n){q:List Int}(hp:p∈pch s.cuts)(hq:q∈pch s.cuts):(lp (endsP s.cuts q) s).at p=if FB p q=true then 1 else 0:=by
 cases s with
 | one c v =>
   obtain⟨a,rfl,a0,a1⟩:=kd.one (c:=c) ((Sh.one c v).pch_ok p hp);obtain⟨b,rfl,b0,b1⟩:=kd.one (c:=c) ((Sh.one c v).pch_ok q hq);have r:=da.ris ((Sh.one c v).cut6 hs (by decide) c Hr);show((0::c).map fun x=>rd (endsP [c] [b]) [x]).getD a.toNat 0=_;have hl:a.toNat<(0::c).length:=by rw[Il];omega
   rw[bA (by rw[Hs];exact hl),Lu,<- bA (d:=0) hl];unfold rd;have e1:opB [(0::c).getD a.toNat 0] (endsP [c] [b])=(decide ((0::c).getD a.toNat 0<(c++[1]).getD b.toNat 0)&&true):=rfl;have e2:FB [a] [b]=(decide (a<=b)&&true):=rfl
   rw[e1,e2,r.begin a0 a1 b0 b1]
 | two c d vs =>
   obtain⟨a,a',rfl,⟨a0,a1⟩,a2,a3⟩:=kd.two (c:=c) (d:=d) ((Sh.two c d vs).pch_ok p hp);obtain⟨b,b',rfl,⟨b0,b1⟩,b2,b3⟩:=kd.two (c:=c) (d:=d) ((Sh.two c d vs).pch_ok q hq);have r:=da.ris ((Sh.two c d vs).cut6 hs (by decide) c Hr);have r':=da.ris ((Sh.two c d vs).cut6 hs (by decide) d (Hv _ Hr));show(((0::c).map fun x=>(0::d).map fun y=>rd (endsP [c,d] [b,b']) [x,y]).getD a.toNat []).getD a'.toNat 0=_;have hl:a.toNat<(0::c).length:=by rw[Il];omega
   have hl':a'.toNat<(0::d).length:=by rw[Il];omega
   rw[bA (d:=[]) (by rw[Hs];exact hl),Lu,<- bA (d:=0) hl,bA (d:=0) (by rw[Hs];exact hl'),Lu,<- bA (d:=0) hl'];unfold rd;have e1:opB [(0::c).getD a.toNat 0,(0::d).getD a'.toNat 0] (endsP [c,d] [b,b'])=(decide ((0::c).getD a.toNat 0<(c++[1]).getD b.toNat 0)&&(decide ((0::d).getD a'.toNat 0<(d++[1]).getD b'.toNat 0)&&true)):=rfl;have e2:FB [a,a'] [b,b']=(decide (a<=b)&&(decide (a'<=b')&&true)):=rfl;rw[e1,e2,r.begin a0 a1 b0 b1,r'.begin a2 a3 b2 b3]
theorem sI(hs:s.Ok)(hp:∀p∈ps,p.length=s.cuts.length/\∀y∈p,y<1){q:List Int}(hq:q∈pch s.cuts):bJ (ps.map fun x=>(lp (endsP s.cuts q) s).at (ptc x (lp (endsP s.cuts q) s).cuts)) / qd ps.length 1=qd (opC ps (endsP s.cuts q):Int) ps.length:=by
 rw[fu]
 have e:bJ (ps.map fun x=>(lp (endsP s.cuts q) s).at (ptc x s.cuts))=bJ (ps.map fun x=>if opB x (endsP s.cuts q)=true then(1:Rat)else 0):=aV fun x mx=>by
  rw[uo hs (l_ (gB (hp x mx).1)) hq,o9 hs (hp x mx).1 (hp x mx).2 hq]
 have q1:=tZ (opC ps (endsP s.cuts q)) ps.length;rw[e,lu fun x=>opB x (endsP s.cuts q),KM,KL,q1];rfl
theorem pX(hs:s.Ok){q:List Int}(hq:q∈pch s.cuts):bo (lp (endsP s.cuts q) s)=prodQ (endsP s.cuts q):=by
 unfold bo;rw[fu,<- lX hq];refine aV fun p mp=>?_;rw[uo hs mp hq];split<;>grind
noncomputable def ka:Sh->Sh->Sh
 | .one c v,.one _ w=>.one c (ID (· + ·) v w)
 | .two c d v,.two _ _ w=>.two c d (ID (fun x y=>ID (· + ·) x y) v w)
 | s,_=>s
noncomputable def hG:Sh->Sh
 | .one c v=>.one c v.reverse
 | .two c d v=>.two c d v.reverse
theorem oQ(s:Sh):(hG s).cuts=s.cuts:=by cases s<;>rfl
theorem vh(h:s.Ok):(hG s).Ok:=by
 cases s with
 | one c v=>exact⟨h.1,by rw[KH];exact h.2.1,fun q mq=>h.2.2 q (List.mem_reverse.mp mq)⟩
 | two c d v=>exact⟨h.1,h.2.1,by rw[KH];exact h.2.2.1,fun q mq=>h.2.2.2 q (List.mem_reverse.mp mq)⟩
theorem nT{v w:List Rat}(h:v.length=w.length)(k:Nat):(ID (· + ·) v w).getD k 0=v.getD k 0+w.getD k 0:=by
 by_cases c:k<v.length
 · rw[bA (by simp;omega),bA c,bA (by omega),KC]
 · rw[Iq,Iq,Iq,JI (by simp;omega),JI (by omega),JI (by omega)];show(0:Rat)=0+0;grind
theorem fE{t:Sh}(h:t.cuts=s.cuts):(∃c v w,s = .one c v/\t = .one c w)\/∃c d v w,s = .two c d v/\t = .two c d w:=by
 cases s with
 | one c v=>cases t with
   | one c' w=>injection h with h;subst h;exact .inl ⟨c',v,w,rfl,rfl⟩
   | two c' d' w=>injection h with h h2;cases h2
 | two c d v=>cases t with
   | one c' w=>injection h with h h2;cases h2
   | two c' d' w=>injection h with h h2;injection h2 with h2;subst h h2;exact .inr ⟨c',d',v,w,rfl,rfl⟩
theorem g_{t:Sh}(h:t.cuts=s.cuts):(ka s t).cuts=s.cuts:=by
 rcases fE h with⟨c,v,w,rfl,rfl⟩|⟨c,d,v,w,rfl,rfl⟩<;>rfl
theorem w_{v w:List Rat}(hv:∀q∈v,E9 20 q)(hw:∀q∈w,E9 20 q):∀q∈ID (· + ·) v w,E9 45 q:=by
 intro q mq;obtain⟨i,hi,rfl⟩:=KN mq;rw[KC];exact(j_ (hv _ (HZ _)) (hw _ (HZ _))).mono (by decide)
theorem wQ{t:Sh}(hs:s.Ok)(ht:t.Ok)(h:t.cuts=s.cuts):(ka s t).OkN 45:=by
 rcases fE h with⟨c,v,w,rfl,rfl⟩|⟨c,d,v,w,rfl,rfl⟩
 · exact⟨hs.1,by rw[Jq,hs.2.1,ht.2.1,LS],w_ hs.2.2 ht.2.2⟩
 · refine⟨hs.1,hs.2.1,by rw[Jq,hs.2.2.1,ht.2.2.1,LS],fun q mq=>?_⟩;obtain⟨i,hi,rfl⟩:=KN mq;rw[KC];rw[Jq]at hi;have a:=hs.2.2.2 _ (HZ (show i<v.length by omega));have b:=ht.2.2.2 _ (HZ (show i<w.length by omega));exact⟨by rw[Jq,a.1,b.1,LS],w_ a.2 b.2⟩
theorem qW{t:Sh}(hs:s.Ok)(ht:t.Ok)(h:t.cuts=s.cuts)(hp:p∈pch s.cuts):(ka s t).at p=s.at p+t.at p:=by
 rcases fE h with⟨c,v,w,rfl,rfl⟩|⟨c,d,v,w,rfl,rfl⟩
 · exact nT (by rw[hs.2.1,ht.2.1]) _
 · obtain⟨a,b,rfl,⟨a0,a1⟩,b0,b1⟩:=kd.two (c:=c) (d:=d) ((Sh.two c d v).pch_ok p hp);have hl:a.toNat<v.length:=by have:=hs.2.2.1;omega
   have hl':a.toNat<w.length:=by have:=ht.2.2.1;omega
   show((ID (fun x y=>ID (· + ·) x y) v w).getD a.toNat []).getD b.toNat 0=(v.getD a.toNat []).getD b.toNat 0+(w.getD a.toNat []).getD b.toNat 0;rw[bA (d:=[]) (show a.toNat<(ID (fun x y=>ID (· + ·) x y) v w).length by rw[Jq];omega),KC,bA (d:=[]) hl,bA (d:=[]) hl'];exact nT (by rw[(hs.2.2.2 _ (HZ hl)).1,(ht.2.2.2 _ (HZ hl')).1]) _
theorem qV{t:Sh}(hs:s.Ok)(ht:t.Ok)(h:t.cuts=s.cuts):bo (ka s t)=bo s+bo t:=by
 unfold bo;rw[g_ h,h,<- eR];refine aV fun p mp=>?_;rw[qW hs ht h mp];grind
theorem tw{t:Sh}(hs:s.Ok)(ht:t.Ok)(h:t.cuts=s.cuts)(hp:∀p∈ps,p.length=s.cuts.length)(n:Rat):bJ (ps.map fun x=>(ka s t).at (ptc x (ka s t).cuts)) / n=bJ (ps.map fun x=>s.at (ptc x s.cuts)) / n+bJ (ps.map fun x=>t.at (ptc x t.cuts)) / n:=by
 rw[g_ h,h]
 have e:bJ (ps.map fun x=>(ka s t).at (ptc x s.cuts))=bJ (ps.map fun x=>s.at (ptc x s.cuts))+bJ (ps.map fun x=>t.at (ptc x s.cuts)):=by
  rw[<- eR];exact aV fun x mx=>qW hs ht h (l_ (gB (hp x mx)))
 rw[e,KL,KL,KL];grind
theorem AD{Es:List (List Rat)}(hE:zP n ps Es){t:Rat×Str×List Rat}(mt:t∈(chP Es).flatMap (msQ ps))(ht:∀u∈(chP Es).flatMap (msQ ps),u.1<=t.1):qZ n ps t.1:=by
 refine⟨?_,fun es be=>?_⟩
 · obtain⟨es,me,mt⟩:=Jz.mp mt;refine⟨es,(hE.mem es).mp me,?_⟩;rcases Ic.mp mt with rfl|mt
   · exact .inl rfl
   · rw[HI.mp mt];exact .inr rfl
 · have me:=(hE.mem es).mpr be;exact⟨ht (ov ps es, "over", es) (Jz.mpr ⟨es,me,Hr⟩),ht (la ps es, "lack", es) (Jz.mpr ⟨es,me,Hv _ Hr⟩)⟩
theorem AB(hp:Gy n ps)(n4:n<=4)(h1:1<=ps.length)(h:ps.length<60){u:Rat}(hu:qZ n ps u):E9 150 u/\0<=u:=by
 refine⟨?_,?_⟩
 · obtain⟨es,be,e⟩:=hu.1;have:=A2 hp n4 h1 (by omega) be;rcases e with rfl|rfl
   · exact this.1
   · exact this.2
 · have:=(hu.2 _ (k5 n ps)).1
   rwa [pH hp h1]at this
theorem AF(hp:Gy n ps)(h1:1<=ps.length):∃u,qZ n ps u:=by
 obtain⟨Es,hE⟩:∃Es,zP n ps Es:=⟨(IJ n).map fun i=>1::colQ ps i,by simp,fun i hi=>by
  rw[bA (by simp;exact hi)];simp only[Lu,List.getElem_range];refine⟨by simp[colQ],fun e=>?_⟩;unfold colQ;rw[Ic,HX];constructor
  · rintro(h|⟨p,mp,rfl⟩)
    · exact .inl h
    · exact .inr ⟨p,mp,rfl⟩
  · rintro(h|⟨p,mp,rfl⟩)
    · exact .inl h
    · exact .inr ⟨p,mp,rfl⟩⟩
 have key:∀l:List (Rat×Str×List Rat),l≠[]->∃t∈l,∀u∈l,u.1<=t.1:=by
  intro l
  induction l with
  | nil=>intro h;exact absurd rfl h
  | cons x l ih =>
    intro _;by_cases z:l=[]
    · subst z;exact⟨x,Hr,fun u mu=>by rw[HI.mp mu];exact KO⟩
    · obtain⟨t,mt,ht⟩:=ih z;by_cases c:x.1<=t.1
      · exact⟨t,Hv _ mt,fun u mu=>by
          rcases Ic.mp mu with rfl|mu
          · exact c
          · exact ht u mu⟩
      · exact⟨x,Hr,fun u mu=>by
          rcases Ic.mp mu with rfl|mu
          · exact KO
          · have:=ht u mu;grind⟩
 obtain⟨t,mt,ht⟩:=key ((chP Es).flatMap (msQ ps)) fun z=>by
  have:(ov ps (HB n 1),("over" : Str),HB n 1)∈(chP Es).flatMap (msQ ps):=Jz.mpr ⟨_,(hE.mem _).mpr (k5 n ps),Hr⟩;rw[z]at this;cases this
 exact⟨t.1,AD hE mt ht⟩
theorem pK{S:Rat}(h:E9 200 S)(h1:1<=n)(h6:n<=6):E9 260 (S / qd n 1):=by
 have n0:(0:Int)<(n:Int):=by omega
 rw[<- yr S n0];have dp:=fy S;refine kW (KJ dp n0) (Hy h.1 (HJ (by decide) (by decide))) ?_;rw[KG,Jm];exact Hy (Ls h.2 (show(n:Int).natAbs<2^60 by omega)) (by rw[<- Np];exact Hw _)
theorem r8(hp:Gy n ps)(h1:1<=ps.length):pdim ps=n:=by
 cases ps with
 | nil=>simp at h1
 | cons p l=>exact(hp p Hr).1
theorem yj(s:Sh):∃xs:List Hi,tupD s.vD=some xs/\Ii [ptsQ s.cuts,Ii xs.reverse]=shD (hG s):=by
 cases s with
 | one c v =>
   refine⟨v.map fr,rfl,?_⟩
   rw[<- List.map_reverse];rfl
 | two c d v =>
   refine⟨v.map Fb,rfl,?_⟩;rw[<- List.map_reverse];rfl
noncomputable def bw:List W->(Hi->Prop)->Prop:=fun ws Q=>∃(s:Sh)(ps:List (List Rat)),ws=[.reel,.d (shD s),.d (ptsQ ps)]/\((s.Ok)/\(1<=ps.length)/\(ps.length<=6)/\(Gy s.cuts.length ps))/\∀b:Bool,(b=true)->Q (.bool b)
theorem bw.mono:∀ws (Q Q':Hi->Prop),(∀d,Q d->Q' d)->bw ws Q->bw ws Q':=fun _ _ _ h_=>HC fun _=>HC fun _=>Ho (Ho fun q_ o_ ho_=>h_ _ (q_ o_ ho_))
theorem bw.len:∀ws (Q:Hi->Prop),bw ws Q->ws.length=3:=fun _ _ h_=>by obtain⟨_,_,e_,_⟩:=h_;subst e_;rfl
theorem bw.eq(s:Sh)(ps:List (List Rat))(hs:s.Ok)(h1:1<=ps.length)(h6:ps.length<=6)(hp:Gy s.cuts.length ps):bw [.reel,.d (shD s),.d (ptsQ ps)]=FY (anyM fun b:Bool=>b=true) fun b=>VL.ret (.bool b:Hi):=by
 refine ag fun Q=>⟨?_,fun q_=>⟨s,ps,rfl,⟨hs,h1,h6,hp⟩,q_⟩⟩;rintro⟨s',ps',e_,_,q_⟩;simp_arith only[di,bE,bC,aS,aM,bI,dF,cK]at e_;obtain⟨rfl,rfl⟩:=e_;exact q_
theorem gu:FnScope ["_law_feed_here", "_law_sheet_here", "_law_points_here", "_law_ends", "_law_side", "_law_some", "_law_one", "_law_many", "_law_size", "_law_end", "_law_point"] ["_law_feed_here", "_law_sheet_here", "_law_points_here"] (defScope (EE 53)):=⟨rfl,rfl,rfl,by decide +kernel,rfl,by decide +kernel,by decide +kernel⟩
theorem d__law_one_box(Fn:FnIn K mg "_law_one_box" (EE 53) ["_law_feed_here", "_law_sheet_here", "_law_points_here"])(Z:Bz mg)(d_sheet_of:∀rl,Dfn P w K mg base rl "sheet_of" ["cuts", "weights"] 8 cD)(d__law_times:∀rl,Dfn P w K mg base rl "_law_times" ["_law_one", "_law_other"] 2 bL)(d_mean_of:∀rl,Dfn P w K mg base rl "mean_of" ["sheet", "points"] 5 bR)(d__law_frac:∀rl,Dfn P w K mg base rl "_law_frac" ["_law_n", "_law_d"] 1 aW)(d_whole_of:∀rl,Dfn P w K mg base rl "whole_of" ["sheet"] 6 bS)(d__law_draw:∀al,DfnC P w K mg base al 1 "_law_draw" ["_law_feed_here", "_law_many"] 1 a_)(d__law_below:∀rl,Dfn P w K mg base rl "_law_below" ["_law_one", "_law_other"] 1 aU)   : DfnC P w K mg base al 64 "_law_one_box" ["_law_feed_here", "_law_sheet_here", "_law_points_here"] 9 bw:=by
 have sc:=gu
 refine DfnC.of Fn sc (bw.mono) (bw.len) (fun cdv A outer s H E hr=>(aD (cs fun _=>(eE 3 sc.nd (dP ab)))
  (aD (iz 64 [4,5] Ih rfl (ci fun _=>(cu Z.range_ (aa (dg Z.len_ (aa (br (vn 1) af) ab)) ab))) (fun _=>(ak 4 sc.nd)) (aD (cs fun _=>(ay 5 sc.nd (dJ (br (br (vn 1) af) (vn 4)) (bD (aa (bD (aa af (aa af ab))) ab)))))
  (cN (qD 3 (aj (wY (cv fun _=>(vn 5)) (cG (d__law_draw _) (hr.mono (by decide)) (aj (cv fun _=>(vn 0)) (aj (cv fun _=>(dg Z.len_ (aa (vn 5) ab))) aN)))) aN)))))
  (aD (cs fun _=>(tG 3 (ay 6 sc.nd (av (d_sheet_of _) (hr.mono (by decide)) (aa (br (vn 1) af) (aa (bD (aa (bD (aa (cO Z.tuple_ (aa (bc ["_law_end"] [none] rfl (cH (vn 3)) (fun _=>(ak 0 (show Ij (["_law_end"]:List Str) by decide +kernel))) (fun _=>cr) (fun _=>(bD (aa fT (aa (vn 0) ab))))) ab)) (aa (bD (aa af (aa af ab))) ab))) ab)) ab))))))
  (aD (cs fun _=>(ay 7 sc.nd af))
  (aD (cs fun _=>(ay 8 sc.nd (bD (aa af (aa af ab)))))
  (aD (cs fun _=>(cx [9] Ih rfl (cH (vn 3)) (ak 9 sc.nd) (ax (ay 8 sc.nd (av (d__law_times _) (hr.mono (by decide)) (aa (vn 8) (aa (vn 9) ab)))))))
  (aD (cs fun _=>(cx [10] Ih rfl (dO (vn 2)) (ak 10 sc.nd) (ax (ay 7 sc.nd (v_add (vn 7) (oj Z.int_ (aa (hR (eY hr.u65) lM (by with_unfolding_all rfl) nn (bc ["_law_x", "_law_end"] [none,none] rfl (rg Z.zip_ (aa (vn 10) (aa (vn 3) ab))) (fun _=>(dj (n:=2) rfl (aI (ak 0 (show Ij (["_law_x", "_law_end"]:List Str) by decide +kernel)) (aI (ak 1 (show Ij (["_law_x", "_law_end"]:List Str) by decide +kernel)) cI)))) (fun _=>cr) (fun _=>(av (d__law_below _) (hr.mono (by decide)) (aa (vn 0) (aa (vn 1) ab)))))) ab)))))))
  (cN (cs fun _=>(aH (v_and (hR (eZ hr.units) df (bH _) (av (d_mean_of _) (hr.mono (by decide)) (aa (vn 6) (aa (vn 2) ab))) (av (d__law_frac _) (hr.mono (by decide)) (aa (vn 7) (aa (dg Z.len_ (aa (vn 2) ab)) ab)))) (uN (hR (eZ hr.units) df (bH _) (av (d_whole_of _) (hr.mono (by decide)) (aa (vn 6) ab)) (vn 8))))))))))))))) (by decide) ?_
 rintro ws Q ⟨s,ps,rfl,⟨hs,h1,h6,hp⟩,hQ⟩;refine aE ?_;have sz:=HN;have c2:=s.cl;have c6:=s.cut6 hs;have el:lj (ptsQ s.cuts)=some s.cuts.length:=by show some (s.cuts.map Fb).length=_;rw[Hs]
 have g0 : -(2^62)<=(s.cuts.length:Int)/\(s.cuts.length:Int)<2^62:=by omega
 simp_arith only[ah,ae,aO,aP,aA,aC,aQ,aB,aq,ac,a_.eq,Hg,Hf,el];refine eN (fun i ρ=>∃q:List Int,q.length=i/\(∀z∈(s.cuts.take i).zip q,0<=z.2/\z.2<=(z.1.length:Int))/\ρ=[some .reel,some (.d (shD s)),some (.d (ptsQ ps)),some (.ml ((endsP (s.cuts.take i) q).map fr)),none,none,none,none,none,none,none]) ⟨[],rfl,by simp,rfl⟩ ?_ ?_
 · rintro i hi ρ ⟨q,hq,hz,rfl⟩ K hK;have e1:atI s.cuts (0+(i:Int))=some s.cuts[i]:=by rw[Int.zero_add];exact lA (Ip hi)
   have ck:=c6 _ (HZ hi);have cl:=ck.len;have te:(endsP (s.cuts.take i) q).length=i:=by unfold endsP;rw[Hs,IR,Iz];omega
   have tl:(endsP (s.cuts.take i) q).length<sizeLine:=by omega
   have tk:s.cuts.take (i+1)=s.cuts.take i++[s.cuts[i]]:=HG hi;generalize s.cuts[i]=c at *;have g1:(c.map fr).length+1<=sizeLine:=by rw[Hs];omega
   have g2:c.length+1<=sizeLine:=by omega
   have em:c.map fr++[Ii [Iv 1,Iv 1]]=(c++[1]).map fr:=by rw[Ir];rfl
   have lc:(c++[1]).length=c.length+1:=by simp
   have m0:(0:Int)<((c++[1]).length:Int):=by omega
   have mb:((c++[1]).length:Int)<2^60:=by omega
   simp_arith only[ah,ae,aO,aP,aA,aC,aQ,aB,aq,ac,a_.eq,Hg,Hf,e1,em,Hs]
   (with_reducible (first|refine aL fun k hk=>?_|refine aY fun k hk=>?_))
   have e2:=cp (xs:=c++[1]) 0 hk.1 hk.2
   try simp_arith only[ah,ae,aO,aP,aA,aC,aQ,aB,aq,ac,a_.eq,Hg,Hf,e2]
   refine hK _ (cf ⟨q++[k],by simp[hq],fun z mz=>?_,?_⟩)
   · rw[tk,List.zip_append (by rw[Iz];omega)]at mz;rcases Ik.mp mz with mz|mz
     · exact hz z mz
     · rw[HI.mp mz];have:=hk.2;exact⟨hk.1,by dsimp only;omega⟩
   · have ee:endsP (s.cuts.take (i+1)) (q++[k])=endsP (s.cuts.take i) q++[(c++[1]).getD k.toNat 0]:=by
       unfold endsP;rw[tk,List.zip_append (by rw[Iz];omega),Ir];rfl
     rw[ee,Ir];rfl
 · rintro ρ ⟨q,hq,hz,rfl⟩;rw[HF (Hw _)]at *;have pk:kd s.cuts q:=⟨hq,hz⟩;have mq:=l_ pk;have eln:=dU pk;have ein:=mL hs mq;have im:=sI hs (fun p mp=>⟨(hp p mp).1,fun y my=>((hp p mp).2 y my).2.2⟩) mq;have iw:=pX hs mq;have vi:=xn (endsP s.cuts q) s;have iok:=sd (wu (endsP s.cuts q) hs);have esm:=sV hs mq;generalize hE:endsP s.cuts q=es at *;simp_arith only[ah,ae,aO,aP,aA,aC,aQ,aB,aq,ac,a_.eq,Hg,Hf];refine EU (cg (xs:=es) (enc:=fr) EG rfl ?_ (by omega) ?_)
   · intro e me;simp_arith only[ah,ae,FH];rfl
   have hV:Ge s.cuts.length [(es,(1:Rat))]:=⟨by simp,fun z mz=>by
    rw[HI.mp mz]
    exact⟨eln,fun q mq=>(esm q mq).mono (by decide),E_.mono (by decide)⟩⟩
   have hC:G_ s.cuts:=⟨cpos s,c2,fun c mc=>⟨(c6 c mc).len,fun q mq=>(da.sm (c6 c mc) q mq).mono (by decide)⟩⟩
   have psh:cD [.d (ptsQ s.cuts),.d (.tuple [.tuple [.tuple (es.map EG),.tuple [.int 1,.int 1]]])]=VL.ret (shD (lp es s)):=by
    have:=cD.eq s.cuts [(es,1)] hC hV;rw[vi]at this;exact this
   simp_arith only[ah,ae,aO,aP,aA,aC,aQ,aB,aq,ac,a_.eq,Hg,Hf,psh];refine dA (xs:=es) (enc:=fr) (fun i ρ=>ρ=[some .reel,some (.d (shD s)),some (.d (ptsQ ps)),some (.d (.list (es.map fr))),none,none,some (.d (shD (lp es s))),some (.d (.int 0)),some (.d (fr (prodQ (es.take i)))),none,none]) rfl rfl ?_ ?_
   · rintro i hi ρ rfl K hK;have pr:=po (es.take i) 1 1 E_ (fun q mq=>esm q (M_ mq));have p1:E9 2000 (prodQ (es.take i)):=pr.mono (by rw[Iz];omega);have p2:E9 2000 es[i]:=(esm _ (HZ hi)).mono (by decide)
     have pe:prodQ (es.take (i+1))=prodQ (es.take i)*es[i]:=by
      unfold prodQ;rw[HG hi,JF];rfl
     simp_arith only[ah,ae,aO,aP,aA,aC,aQ,aB,aq,ac,Hg,Hf,bL.eq];refine hK _ (cf ?_);rw[pe];rfl
   · rintro ρ rfl;rw[HF (Hw _)];simp_arith only[ah,ae,aO,aP,aA,aC,aQ,aB,aq,ac,Hg,Hf];refine dA (xs:=ps) (enc:=Fb) (fun i ρ=>ρ=[some .reel,some (.d (shD s)),some (.d (ptsQ ps)),some (.d (.list (es.map fr))),none,none,some (.d (shD (lp es s))),some (.d (.int (opC (ps.take i) es:Int))),some (.d (fr (prodQ es))),none,none]) rfl rfl ?_ ?_
     · rintro i hi ρ rfl K hK;obtain⟨p4,hq⟩:=hp _ (HZ hi)
       have n2:(opC (ps.take (i+1)) es:Int)=(opC (ps.take i) es:Int)+(if L2.VL.opB ps[i] es=true then 1 else 0):=by
        unfold opC;rw[HG hi,LU,HS];by_cases c:L2.VL.opB ps[i] es=true
        · rw[if_pos c,IS (by exact c)];simp
        · rw[if_neg c,I0 (by exact c)];simp
       generalize ps[i]=p at *;have zl:(p.zip es).length<=sizeLine:=by rw[IR];omega
       have t2:(!(((p.zip es).map fun z=>JT (decide (z.1<z.2))).any fun z=>z.eqv (.bool false)))=L2.VL.opB p es:=mh (p.zip es) fun z=>decide (z.1<z.2);have y2:=gM (p.zip es) fun z=>decide (z.1<z.2);simp_arith only[ah,ae,Hg,dN];refine(cg (xs:=p.zip es) (enc:=fun z=>Ii [fr z.1,fr z.2]) (fun z=>.bool (decide (z.1<z.2))) rfl ?_ zl ?_)
       · rintro⟨x,e⟩ hm;obtain⟨mx,me⟩:=IB hm;have h2:E9 2000 x:=(hq x mx).1.mono (by decide);have h3:E9 2000 e:=(esm e me).mono (by decide);simp_arith only[ah,ae,FH,sC]
       simp_arith only[ah,ae,Hg,dN,y2,t2];refine hK _ (cf ?_);rw[n2];rfl
     · rintro ρ rfl;rw[HF (Hw _)]
       have pm:bR [.d (shD (lp es s)),.d (ptsQ ps)]=VL.ret (fr (qd (opC ps es:Int) ps.length)):=by
        have:=bR.eq (lp es s) ps iok h1 (by omega) (fun p mp=>by
         rw[fu]
         exact⟨(hp p mp).1,fun x mx=>((hp p mp).2 x mx).1.mono (by decide)⟩)
        rw[im]at this;exact this
       have pw:bS [.d (shD (lp es s))]=VL.ret (fr (prodQ es)):=by rw[<- iw];exact bS.eq (lp es s) iok
       have b0:(0:Int)<(ps.length:Int):=by omega
       have bz:(ps.length:Int).natAbs<2^8000:=Hy (show(ps.length:Int).natAbs<2^4 by omega) (HJ (by decide) (by decide));simp_arith only[ah,ae,aO,aP,aA,aC,aQ,aB,aq,ac,Hg,Hf,pm,pw,aW.eq,eU,eqv_fr];exact aF (hQ _ rfl)
noncomputable def ce:List W->(Hi->Prop)->Prop:=fun ws Q=>∃(s:Sh)(d:Hi),ws=[.d (shD s),.d d]/\((s.Ok)/\(∃t:Sh,t.Ok/\t.cuts=s.cuts/\d=t.vD))/\∀u:Sh,(∀t:Sh,t.Ok->t.cuts=s.cuts->d=t.vD->u=ka s t)->Q (shD u)
theorem ce.mono:∀ws (Q Q':Hi->Prop),(∀d,Q d->Q' d)->ce ws Q->ce ws Q':=fun _ _ _ h_=>HC fun _=>HC fun _=>Ho (Ho fun q_ o_ ho_=>h_ _ (q_ o_ ho_))
theorem ce.len:∀ws (Q:Hi->Prop),ce ws Q->ws.length=2:=fun _ _ h_=>by obtain⟨_,_,e_,_⟩:=h_;subst e_;rfl
theorem ce.eq(s:Sh)(d:Hi)(hs:s.Ok)(ht:∃t:Sh,t.Ok/\t.cuts=s.cuts/\d=t.vD):ce [.d (shD s),.d d]=FY (anyM fun u:Sh=>∀t:Sh,t.Ok->t.cuts=s.cuts->d=t.vD->u=ka s t) fun u=>VL.ret (shD u:Hi):=by
 refine ag fun Q=>⟨?_,fun q_=>⟨s,d,rfl,⟨hs,ht⟩,q_⟩⟩;rintro⟨s',d',e_,_,q_⟩;simp_arith only[di,bE,bC,aS,aM,bI,dF,cK]at e_;obtain⟨rfl,rfl⟩:=e_;exact q_
theorem i6:FnScope ["_law_one", "_law_other", "_law_rows", "_law_first", "_law_second"] ["_law_one", "_law_other"] (defScope (EE 54)):=⟨rfl,rfl,rfl,by decide +kernel,rfl,by decide +kernel,by decide +kernel⟩
theorem d__law_added(Fn:FnIn K mg "_law_added" (EE 54) ["_law_one", "_law_other"])(Z:Bz mg)(d__law_plus:∀rl,Dfn P w K mg base rl "_law_plus" ["_law_one", "_law_other"] 2 ca)   : Dfn P w K mg base rl "_law_added" ["_law_one", "_law_other"] 3 ce:=by
 have sc:=i6
 refine Dfn.of Fn sc (ce.mono) (ce.len) (fun cdv A outer s H E hr=>(au (eI (cC (eZ hr.units) df (bH _) (dg Z.len_ (aa (br (vn 0) af) ab)) af) (ax (aH (bD (aa (br (vn 0) af) (aa (cO Z.tuple_ (aa (bc ["_law_a", "_law_b"] [none,none] rfl (c9 Z.zip_ (aa (br (vn 0) af) (aa (vn 1) ab))) (fun _=>(dj (n:=2) rfl (aI (ak 0 (show Ij (["_law_a", "_law_b"]:List Str) by decide +kernel)) (aI (ak 1 (show Ij (["_law_a", "_law_b"]:List Str) by decide +kernel)) cI)))) (fun _=>cr) (fun _=>(av (d__law_plus _) (hr.mono (by decide)) (aa (vn 0) (aa (vn 1) ab))))) ab)) ab))))) c7)
  (au (eE 2 sc.nd (dP ab))
  (au (cx [3,4] Ih rfl (c9 Z.zip_ (aa (br (vn 0) af) (aa (vn 1) ab))) (dj (n:=2) rfl (aI (ak 3 sc.nd) (aI (ak 4 sc.nd) cI))) (ax (jr 2 (aa (cO Z.tuple_ (aa (bc ["_law_a", "_law_b"] [none,none] rfl (c9 Z.zip_ (aa (vn 3) (aa (vn 4) ab))) (fun _=>(dj (n:=2) rfl (aI (ak 0 (show Ij (["_law_a", "_law_b"]:List Str) by decide +kernel)) (aI (ak 1 (show Ij (["_law_a", "_law_b"]:List Str) by decide +kernel)) cI)))) (fun _=>cr) (fun _=>(av (d__law_plus _) (hr.mono (by decide)) (aa (vn 0) (aa (vn 1) ab))))) ab)) ab))))
  (ax (aH (bD (aa (br (vn 0) af) (aa (cO Z.tuple_ (aa (vn 2) ab)) ab))))))))) ?_
 rintro ws Q ⟨s,d,rfl,⟨hs,ht⟩,hQ⟩;refine aE ?_;have sz:=HN;obtain⟨t,ht,htc,rfl⟩:=ht
 have un:∀t':Sh,t'.Ok->t'.cuts=s.cuts->t.vD=t'.vD->ka s t=ka s t':=fun t' _ h e=>by
  have:t=t':=dF.mp (by unfold shD;rw[h,htc,e]);rw[this]
 have el:lj (ptsQ s.cuts)=some s.cuts.length:=by show some (s.cuts.map Fb).length=_;rw[Hs]
 have zw:∀v w:List Rat,(v.zip w).map (fun z=>fr (z.1+z.2))=(ID (· + ·) v w).map fr:=fun v w=>by
  rw[<- List.map_uncurry_zip_eq_zipWith,IU];rfl
 rcases fE htc with⟨c,v,w,rfl,rfl⟩|⟨c,e,v,w,rfl,rfl⟩
 · have hv:=hs.2.2;have hw:=ht.2.2;have l1:=hs.2.1;have l2:=hs.1.len;have sv:fR (Fb v)=some (v.map fr):=rfl;have sw:fR (Fb w)=some (w.map fr):=rfl;have kv:dM (Fb v)=true:=rfl;have kw:dM (Fb w)=true:=rfl;simp_arith only[ah,ae,Hg,Hf,el,Sh.vD,Sh.cuts,sv,sw,dN];refine(cg (xs:=v.zip w) (enc:=fun z=>Ii [fr z.1,fr z.2]) (fun z=>fr (z.1+z.2)) rfl ?_ (by rw[IR];omega) ?_)
   · rintro⟨x,y⟩ hm;obtain⟨mx,my⟩:=IB hm;have h2:E9 2000 x:=(hv x mx).mono (by decide);have h3:E9 2000 y:=(hw y my).mono (by decide);simp_arith only[ah,ae,FH,ca.eq]
   rw[zw];have h:=hQ (ka (.one c v) (.one c w)) fun t' h1 h2 h3=>un t' h1 h2 h3;simp_arith only[ah,ae];exact aF h
 · have l1:=hs.2.2.1;have l2:=hs.1.len;have hl:=ht.2.2.1;have c2:((([c,e]:List (List Rat)).length:Nat):Int)=2:=rfl;have ev:ptsQ v = .tuple (v.map Fb):=rfl;have ew:ptsQ w = .tuple (w.map Fb):=rfl;have zp:ki (v.map Fb) (w.map Fb)=(v.zip w).map fun z=>Ii [Fb z.1,Fb z.2]:=dD _ _ _ _;simp_arith only[ah,ae,Hg,Hf,el,Sh.vD,Sh.cuts,ev,ew,zp];refine dA (xs:=v.zip w) (enc:=fun z=>Ii [Fb z.1,Fb z.2]) (fun i ρ=>ρ=[some (.d (shD (.two c e v))),some (.d (ptsQ w)),some (.ml ((ID (fun x y=>ID (· + ·) x y) (v.take i) (w.take i)).map Fb)),none,none]) rfl rfl ?_ ?_
   · rintro i hi ρ rfl K hK;have i1:i<v.length:=by rw[IR]at hi;omega
     have i2:i<w.length:=by omega
     have ez:(v.zip w)[i]=(v[i],w[i]):=by rw[List.getElem_zip]
     have nx:ID (fun x y=>ID (· + ·) x y) (v.take (i+1)) (w.take (i+1))=ID (fun x y=>ID (· + ·) x y) (v.take i) (w.take i)++[ID (· + ·) v[i] w[i]]:=by
      rw[HG i1,HG i2,List.zipWith_append (by rw[Iz,Iz];omega)];rfl
     have a1:=hs.2.2.2 _ (HZ i1);have a2:=ht.2.2.2 _ (HZ i2);have d3:=hs.2.1.len;have tl:(ID (fun x y=>ID (· + ·) x y) (v.take i) (w.take i)).length<sizeLine:=by rw[Jq,Iz];omega
     rw[ez];generalize v[i]=x at *;generalize w[i]=y at *;simp_arith only[ah,ae,Hg,Hf,dN];refine(cg (xs:=x.zip y) (enc:=fun z=>Ii [fr z.1,fr z.2]) (fun z=>fr (z.1+z.2)) rfl ?_ (by rw[IR,a1.1];omega) ?_)
     · rintro⟨p,q⟩ hm;obtain⟨mx,my⟩:=IB hm;have h2:E9 2000 p:=(a1.2 p mx).mono (by decide);have h3:E9 2000 q:=(a2.2 q my).mono (by decide);simp_arith only[ah,ae,FH,ca.eq]
     rw[zw]
     try simp_arith only[ah,ae]
     refine hK _ (cf ?_);rw[nx,Ir];rfl
   · rintro ρ rfl;have lz:(v.zip w).length=v.length:=by rw[IR];omega
     rw[lz,HF (Hw _),HF (by omega)];have tl:(ID (fun x y=>ID (· + ·) x y) v w).length<=sizeLine:=by rw[Jq];omega
     have h:=hQ (ka (.two c e v) (.two c e w)) fun t' h1 h2 h3=>un t' h1 h2 h3;simp_arith only[ah,ae,Hg,Hf];exact aF h
theorem nA{β:Type}{R:α->β->Prop}{P:β->Prop}{xs:List α}{ys:List β}(h:Jc R xs ys)(k:∀x y,x∈xs->R x y->P y):∀y∈ys,P y:=by
 induction h with
 | nil=>intro y my;cases my
 | cons r h ih =>
   intro y my;rcases Ic.mp my with rfl|my
   · exact k _ _ Hr r
   · exact ih (fun a b ma r=>k a b (Hv _ ma) r) y my
theorem zZ.eq(h:ns.length<=63):zZ [.sc ns]=True:=eq_true ⟨ns,rfl,h⟩
theorem AE(ρ:En):Ey (.nx ρ)=VL.ret (.nx (nR ρ)):=rfl
theorem AC(x:Hi):Ey (.rt (.d x))=VL.ret (.rt (.d x)):=ag fun Q=>⟨fun⟨_,h⟩=>h,fun h=>⟨rfl,h⟩⟩
theorem ye:FnScope ["_law_script", "_law_feed_here", "_law_s", "_law_sheet_here", "_law_points_here", "_law_point", "_law_some", "_law_mean", "_law_whole", "_law_gap", "_law_other", "_law_both"] ["_law_script"] (defScope (EE 55)):=⟨rfl,rfl,rfl,by decide +kernel,rfl,by decide +kernel,by decide +kernel⟩
theorem sE(Z:Bz mg)(d__law_feed:DfnR P w K mg base "_law_feed" ["_law_script"] 2 zZ)(d__law_sheet:∀al,DfnC P w K mg base al 12544 "_law_sheet" ["_law_feed_here", "_law_s"] 3 b_)(d__law_points:∀al,DfnC P w K mg base al 8320 "_law_points" ["_law_feed_here", "_law_s", "_law_many"] 3 bM)(d_mean_of:∀rl,Dfn P w K mg base rl "mean_of" ["sheet", "points"] 5 bR)(d_whole_of:∀rl,Dfn P w K mg base rl "whole_of" ["sheet"] 6 bS)(d__law_plus:∀rl,Dfn P w K mg base rl "_law_plus" ["_law_one", "_law_other"] 2 ca)(d__law_below:∀rl,Dfn P w K mg base rl "_law_below" ["_law_one", "_law_other"] 1 aU)(d__law_added:∀rl,Dfn P w K mg base rl "_law_added" ["_law_one", "_law_other"] 3 ce)(d__law_draw:∀al,DfnC P w K mg base al 1 "_law_draw" ["_law_feed_here", "_law_many"] 1 a_)(d__law_times:∀rl,Dfn P w K mg base rl "_law_times" ["_law_one", "_law_other"] 2 bL)(d__law_one_box:∀al,DfnC P w K mg base al 64 "_law_one_box" ["_law_feed_here", "_law_sheet_here", "_law_points_here"] 9 bw)(d_swing_of:∀rl,Dfn P w K mg base rl "swing_of" ["sheet"] 6 cQ)(d__law_uneven:∀rl,Dfn P w K mg base rl "_law_uneven" ["_law_points_here"] 3 bu)(F:Fun K "law" "law" (EE 55) f fd):FnOk P w K mg base G6 11 f fd ["_law_script"] (ij K):=by
 have sc:=ye
 refine v4 F sc (fun cdv A outer s H E hr=>(wG 1 d__law_feed (hr.mono (by decide)) sc.nd (aa (vn 0) ab) (fun r=>(aD (dY 2 sc.nd (wK (cv fun _=>af) (cG (d__law_draw _) (hr.mono (by decide)) (aj (cv fun _=>(vn 1)) (aj (cv fun _=>af) aN)))))
  (aD (dY 3 sc.nd (cG (d__law_sheet _) (hr.mono (by decide)) (aj (cv fun _=>(vn 1)) (aj (cv fun _=>(vn 2)) aN))))
  (aD (cs fun _=>(eE 4 sc.nd (dP ab)))
  (aD (iz 64 [5,6] Ih rfl (zC (cG (d__law_points _) (hr.mono (by decide)) (aj (cv fun _=>(vn 1)) (aj (cv fun _=>(vn 2)) (aj (wK (cv fun _=>af) (cG (d__law_draw _) (hr.mono (by decide)) (aj (cv fun _=>(vn 1)) (aj (cv fun _=>af) aN)))) aN))))) (fun _=>(ak 5 sc.nd)) (aD (cs fun _=>(km 6 sc.nd ["_law_side", "_law_point", "_law_sheet_here"] [none,some 5,some 3] rfl (cu Z.range_ (aa (vn 2) ab)) (fun _=>(ak 0 (show Ij (["_law_side", "_law_point", "_law_sheet_here"]:List Str) by decide +kernel))) (fun _=>cr) (fun _=>(dJ (dJ (bD (aa (br (vn 1) (vn 0)) ab)) (br (br (vn 2) af) (vn 0))) (bD (aa (bD (aa af (aa af ab))) ab))))))
  (cN (qD 4 (aj (jn Z.tuple_ (aj (jo 64 ["_law_one", "_law_feed_here"] [none,some 1] rfl (ci fun _=>(cH (vn 6))) (fun _ _=>(ak 0 (show Ij (["_law_one", "_law_feed_here"]:List Str) by decide +kernel))) (fun _=>mM) (fun _=>(wY (cv fun _=>(vn 0)) (cG (d__law_draw _) (hr.mono (by decide)) (aj (cv fun _=>(vn 1)) (aj (cv fun _=>(dg Z.len_ (aa (vn 0) ab))) aN)))))) aN)) aN)))))
  (aD (cs fun _=>(eE 4 sc.nd (cO Z.tuple_ (aa (vn 4) ab))))
  (aD (cs fun _=>(ay 7 sc.nd (av (d_mean_of _) (hr.mono (by decide)) (aa (vn 3) (aa (vn 4) ab)))))
  (aD (cs fun _=>(ay 8 sc.nd (av (d_whole_of _) (hr.mono (by decide)) (aa (vn 3) ab))))
  (aD (cs fun _=>(ay 9 sc.nd (av (d__law_plus _) (hr.mono (by decide)) (aa (vn 7) (aa (bD (aa (v_sub af (br (vn 8) af)) (aa (br (vn 8) af) ab))) ab)))))
  (aD (cs fun _=>(eI (jt (av (d__law_below _) (hr.mono (by decide)) (aa (av (d__law_times _) (hr.mono (by decide)) (aa (av (d_swing_of _) (hr.mono (by decide)) (aa (vn 3) ab)) (aa (av (d__law_uneven _) (hr.mono (by decide)) (aa (vn 4) ab)) ab))) (aa (bD (aa (rm Z.abs_ (aa (br (vn 9) af) ab)) (aa (br (vn 9) af) ab))) ab)))) (ax (aH nn)) c7))
  (aD (sZ (zF (zE (cG (d__law_one_box _) (hr.mono (by decide)) (aj (cv fun _=>(vn 1)) (aj (cv fun _=>(vn 3)) (aj (cv fun _=>(vn 4)) aN)))))) (cN (cs fun _=>(aH nn))) mN)
  (aD (cs fun _=>(ay 10 sc.nd (bD (aa (br (vn 3) af) (aa (xB (br (vn 3) af)) ab)))))
  (aD (cs fun _=>(ay 11 sc.nd (av (d__law_added _) (hr.mono (by decide)) (aa (vn 3) (aa (br (vn 10) af) ab)))))
  (aD (cs fun _=>(eI (cC (ip hr.units) df (bH _) (av (d_mean_of _) (hr.mono (by decide)) (aa (vn 11) (aa (vn 4) ab))) (av (d__law_plus _) (hr.mono (by decide)) (aa (vn 7) (aa (av (d_mean_of _) (hr.mono (by decide)) (aa (vn 10) (aa (vn 4) ab))) ab)))) (ax (aH nn)) c7))
  (cN (cs fun _=>(aH (hR (eZ hr.units) df (bH _) (av (d_whole_of _) (hr.mono (by decide)) (aa (vn 11) ab)) (av (d__law_plus _) (hr.mono (by decide)) (aa (vn 8) (aa (av (d_whole_of _) (hr.mono (by decide)) (aa (vn 10) ab)) ab))))))))))))))))))))) (by decide +kernel))) ?_
 intro ns hn;have sz:=HN;have pf:=zZ.eq hn;simp_arith only[ah,ae,aO,aP,aA,aC,aQ,aB,aq,ac,pf,AE,AC];simp_arith only[ah,ae,aO,aP,aA,aC,aQ,aB,aq,ac,a_.eq]
 (with_reducible (first|refine aL fun s0 hs0=>?_|refine aY fun s0 hs0=>?_))
 have s1:1<=1+s0:=by omega
 have s2:1+s0<=2:=by omega
 generalize 1+s0=s at *;simp_arith only[ah,ae,aO,aP,aA,aC,aQ,aB,aq,ac,a_.eq,b_.eq]
 (with_reducible (first|refine aL fun h hh=>?_|refine aY fun h hh=>?_))
 obtain⟨hs,hcl⟩:=hh
 try simp_arith only[ah,ae,aO,aP,aA,aC,aQ,aB,aq,ac,a_.eq]
 (with_reducible (first|refine aL fun m0 hm0=>?_|refine aY fun m0 hm0=>?_))
 have m1:1<=1+m0:=by omega
 have m6:1+m0<=6:=by omega
 have m40:1+m0<=40:=by omega
 have s4:s<=4:=by omega
 generalize 1+m0=m at *;simp_arith only[ah,ae,aO,aP,aA,aC,aQ,aB,aq,ac,a_.eq,Hg,bM.eq]
 (with_reducible (first|refine aL fun ps hps=>?_|refine aY fun ps hps=>?_))
 obtain⟨hps,pl⟩:=hps;have p64:ps.length<=64:=by omega
 have c6:=h.cut6 hs;have cl2:=h.cl;have gs : -(2^62)<=s/\s<2^62:=by omega
 try simp_arith only[ah,ae,aO,aP,aA,aC,aQ,aB,aq,ac,a_.eq,Hg]
 refine dA (xs:=ps) (enc:=Fb) (fun i ρ=>∃rs:List (List Rat),rs.length=i/\Gy h.cuts.length rs/\ρ=[some (.sc ns),some .reel,some (.d (.int s)),some (.d (shD h)),some (.ml (rs.map Fb)),none,none,none,none,none,none,none]) rfl ⟨[],rfl,by simp[Gy],rfl⟩ ?_ ?_
 · rintro i hi ρ ⟨rs,rl_,hrs,rfl⟩ K hK;obtain⟨pln,hpq⟩:=hps _ (HZ hi);generalize ps[i]=p at *;have rz:rs.length<sizeLine:=by omega
   simp_arith only[ah,ae,aO,aP,aA,aC,aQ,aB,aq,ac,Hg,Hf];refine EU (cg (xs:=fq 0 s.toNat) (enc:=Iv) (fun k=>Fb (p.getD k.toNat 0::(h.cuts.getD k.toNat []++[0]))) (gv _ _) ?_ (by rw[cB];omega) ?_)
   · intro k mk;obtain⟨k0,k1⟩:=Aa.mp mk;have e1:=cp (xs:=p) 0 k0 (by omega);have e2:=cp (xs:=h.cuts) [] k0 (by omega);have mc:h.cuts.getD k.toNat []∈h.cuts:=getD_mem (by omega);have cl:=(c6 _ mc).len;generalize h.cuts.getD k.toNat []=c at *;have g1:1+c.length<=sizeLine:=by omega
     have g2:c.length<=sizeLine:=by omega
     have g3:c.length+1+1<=sizeLine:=by omega
     have em:Ii (fr (p.getD k.toNat 0)::(c.map fr++[Ii [Iv 0,Iv 1]]))=Fb (p.getD k.toNat 0::(c++[0])):=by unfold Fb;rw[HE,Ir];rfl
     simp_arith only[ah,ae,FH,Hg,Hf,e1,e2,em]
   simp_arith only[ah,ae,aO,aP,aA,aC,aQ,aB,aq,ac,a_.eq,Hg,Hf];refine cW (by rw[cB];omega) ?_;refine wJ (xs:=fq 0 s.toNat) (enc:=fun k=>Fb (p.getD k.toNat 0::(h.cuts.getD k.toNat []++[0]))) (fun _ d=>∃q:Rat,(E9 20 q/\0<=q/\q<1)/\d=fr q) rfl ?_ (by rw[cB];omega) ?_
   · intro k mk K2 hK2;obtain⟨k0,k1⟩:=Aa.mp mk;have hq:E9 20 (p.getD k.toNat 0)/\0<=p.getD k.toNat 0/\p.getD k.toNat 0<1:=hpq _ (getD_mem (by omega));have mc:h.cuts.getD k.toNat []∈h.cuts:=getD_mem (by omega);have ck:=c6 _ mc;have cl:=ck.len;generalize h.cuts.getD k.toNat []=c at *;generalize p.getD k.toNat 0=x at *;have el:lj (Fb (x::(c++[0])))=some (c.length+2):=by show some ((x::(c++[0])).map fr).length=_;simp
     have m0:(0:Int)<((c.length+2:Nat):Int):=by omega
     have m1:((c.length+2:Nat):Int)<2^60:=by omega
     simp_arith only[ah,ae,FH,aO,aP,aA,aC,aQ,aB,aq,ac,a_.eq,Hg,el]
     (with_reducible (first|refine aL fun j hj=>?_|refine aY fun j hj=>?_))
     have jl:j.toNat<(x::(c++[0])).length:=by simp;have:=hj.1;have:=hj.2;omega
     have e2:=cp (xs:=x::(c++[0])) 0 hj.1 (by have:=hj.1;omega)
     have hqq:∀z∈x::(c++[0]),E9 20 z/\0<=z/\z<1:=by
      intro z mz;rcases Ic.mp mz with rfl|mz
      · exact hq
      rcases Ik.mp mz with mz|mz
      · exact⟨da.sm ck z mz,da.in01 ck z mz⟩
      · rw[HI.mp mz];exact⟨q0s.mono (by decide),by decide,by decide⟩
     have hg:=hqq _ (getD_mem (d:=0) jl);generalize (x::(c++[0])).getD j.toNat 0=z at *;simp_arith only[ah,ae,FH,aO,aP,aA,aC,aQ,aB,aq,ac,Hg,e2];exact hK2 _ ⟨z,hg,rfl⟩
   intro ds hds;have dl:=Jt hds;obtain⟨r,rfl,rl2,hr⟩:=fA (nA hds fun _ _ _ z=>z);have rln:r.length=h.cuts.length:=by rw[cB]at dl;rw[rl2,<- dl,hcl]
   try simp_arith only[ah,ae,aO,aP,aA,aC,aQ,aB,aq,ac]
   refine hK _ (cf ⟨rs++[r],by rw[HS,rl_];rfl,fun z mz=>?_,by simp[fo,Ir];rfl⟩);rcases Ik.mp mz with h|h
   · exact hrs z h
   · rw[HI.mp h];exact⟨rln,hr⟩
 · rintro ρ ⟨rs,rl_,hrs,rfl⟩;have r1:1<=rs.length:=by omega
   have r6:rs.length<=6:=by omega
   have rz:rs.length<=sizeLine:=by omega
   have h45:=sd hs;have hr45:∀p∈rs,p.length=h.cuts.length/\∀x∈p,E9 60 x:=fun p mp=>⟨(hrs p mp).1,fun x mx=>((hrs p mp).2 x mx).1.mono (by decide)⟩;have r40:rs.length<=40:=by omega
   simp_arith only[ah,ae,aO,aP,aA,aC,aQ,aB,aq,ac,Hf,yt]
   have hq:∀q∈rs.map (fun p=>h.at (ptc p h.cuts)),E9 20 q:=fun q mq=>by
    obtain⟨p,mp,rfl⟩:=HX.mp mq;exact Sh.at_sm hs (gB (hrs p mp).1)
   have smS:E9 200 (bJ (rs.map fun p=>h.at (ptc p h.cuts))):=(iM hq).mono (by rw[Hs];omega);have smM:E9 260 (bJ (rs.map fun p=>h.at (ptc p h.cuts)) / qd rs.length 1):=pK smS r1 r6;have smW:E9 1000 (bo h):=lI hs;have smW2:E9 2000 (bo h):=smW.mono (by decide);have smM2:E9 2000 (bJ (rs.map fun p=>h.at (ptc p h.cuts)) / qd rs.length 1):=smM.mono (by decide);have smN:E9 2000 (-(bo h)):=ui smW2;have nf:Ii [.int (0-(bo h).num),.int ((bo h).den:Int)]=fr (-(bo h)):=by unfold fr;rw[Mp,Od,Int.zero_sub]
   generalize hS:bJ (rs.map fun p=>h.at (ptc p h.cuts)) / qd rs.length 1=M at *;have pm:bR [.d (shD h),.d (ptsQ rs)]=VL.ret (fr M):=by rw[<- hS];exact bR.eq h rs h45 r1 r40 hr45
   obtain⟨u,hu⟩:=AF hrs r1;obtain⟨usm,u0⟩:=AB hrs (by omega) r1 (by omega) hu;have pdm:=r8 hrs r1
   have pu:bu [.d (ptsQ rs)]=VL.ret (fr u):=by
    have g3:(rs.length+1)^(pdim rs)<=3000:=by
     rw[pdm];refine Je (HJ (by omega) cl2) ?_;have:(rs.length+1)^2<=8^2:=Nat.pow_le_pow_left (by omega) 2;omega
    have:=bu.eq rs r1 (by omega) (by rw[pdm];omega) (by rw[pdm];exact hrs) g3;rw[pdm,tO hu]at this;exact this
   have sw1:E9 1600 (hU (fZ h)):=by
    have:=(tS hs 16).1
    rwa [HF (xb hs)]at this
   have sw2:E9 2000 (hU (fZ h)):=sw1.mono (by decide);have u2:E9 2000 u:=usm.mono (by decide);have su2:E9 2000 (hU (fZ h)*u):=(jP sw1 usm).mono (by decide);have gsm:E9 2000 (M + -bo h):=(j_ smM (ui smW)).mono (by decide);have rsm:E9 2000 (E3 (M + -bo h)):=oY gsm;have ea:=ur (M + -bo h);have hr1:∀p∈rs,p.length=h.cuts.length/\∀y∈p,y<1:=fun p mp=>⟨(hrs p mp).1,fun y my=>((hrs p mp).2 y my).2.2⟩
   have bd:decide (hU (fZ h)*u<E3 (M + -bo h))=false:=by
    have:=kG hs hr1 r1 hu u0;rw[hS]at this;have e:M + -bo h=M-bo h:=by grind
    rw[e];exact decide_eq_false (by grind)
   simp_arith only[ah,ae,aO,aP,aA,aC,aQ,aB,aq,ac,Hg,Hf,pm,bS.eq,nf,ca.eq,cQ.eq,pu,bL.eq,ea,sC,bd,bw.eq]
   (with_reducible (first|refine aL fun b hb=>?_|refine aY fun b hb=>?_))
   subst hb;have rok:=vh hs;have rcu:=oQ h;have hex:∃t:Sh,t.Ok/\t.cuts=h.cuts/\(hG h).vD=t.vD:=⟨hG h,rok,rcu,rfl⟩;obtain⟨xs,ex,er⟩:=yj h;simp_arith only[ah,ae,aO,aP,aA,aC,aQ,aB,aq,ac,Hg,Hf,ex,er,ce.eq]
   (with_reducible (first|refine aL fun v hv=>?_|refine aY fun v hv=>?_))
   have hv:=hv (hG h) rok rcu rfl;subst hv;have aok:=wQ hs rok rcu;have r45:=sd rok;have am:=tw hs rok rcu (fun p mp=>(hrs p mp).1) (qd rs.length 1);have aw:=qV hs rok rcu;have acu:=g_ rcu
   have hq2:∀q∈rs.map (fun p=>(hG h).at (ptc p (hG h).cuts)),E9 20 q:=fun q mq=>by
    obtain⟨p,mp,rfl⟩:=HX.mp mq;exact Sh.at_sm rok (gB (by rw[rcu];exact(hrs p mp).1))
   have smS2:E9 200 (bJ (rs.map fun p=>(hG h).at (ptc p (hG h).cuts))):=(iM hq2).mono (by rw[Hs];omega);have smM3:E9 2000 (bJ (rs.map fun p=>(hG h).at (ptc p (hG h).cuts)) / qd rs.length 1):=(pK smS2 r1 r6).mono (by decide);have smW3:E9 2000 (bo (hG h)):=(lI rok).mono (by decide);generalize hS2:bJ (rs.map fun p=>(hG h).at (ptc p (hG h).cuts)) / qd rs.length 1=M2 at *;rw[hS]at am;have pm2:bR [.d (shD (hG h)),.d (ptsQ rs)]=VL.ret (fr M2):=by rw[<- hS2];exact bR.eq (hG h) rs r45 r1 r40 (by rw[rcu];exact hr45)
   have pm3:bR [.d (shD (ka h (hG h))),.d (ptsQ rs)]=VL.ret (fr (M+M2)):=by rw[<- am];exact bR.eq (ka h (hG h)) rs aok r1 r40 (by rw[acu];exact hr45)
   have pw3:bS [.d (shD (ka h (hG h)))]=VL.ret (fr (bo h+bo (hG h))):=by rw[<- aw];exact bS.eq (ka h (hG h)) aok
   simp_arith only[ah,ae,aO,aP,aA,aC,aQ,aB,aq,ac,Hg,Hf,pm2,pm3,pw3,bS.eq,ca.eq,eU,eqv_fr];exact wl
structure Txt (K:JS) (mg:Str->Option Hq):Prop where
 bz:Bz mg
 f__law_feed:FnIn K mg "_law_feed" (EE 40) ["_law_script"]
 f__law_draw:FnIn K mg "_law_draw" (EE 41) ["_law_feed_here", "_law_many"]
 f_common_divisor:FnIn K mg "common_divisor" (EE 6) ["one", "other"]
 f_fraction:FnIn K mg "fraction" (EE 7) ["top", "bottom"]
 f_plus:FnIn K mg "plus" (EE 8) ["one", "other"]
 f_less:FnIn K mg "less" (EE 9) ["one", "other"]
 f_times:FnIn K mg "times" (EE 10) ["one", "other"]
 f_sum_of:FnIn K mg "sum_of" (EE 11) ["some"]
 f_is_below:FnIn K mg "is_below" (EE 14) ["one", "other"]
 f_choices:FnIn K mg "choices" (EE 20) ["rows"]
 f_stretch_of:FnIn K mg "stretch_of" (EE 22) ["x", "ends"]
 f_patch_of:FnIn K mg "patch_of" (EE 23) ["point", "cuts"]
 f_patches_of:FnIn K mg "patches_of" (EE 24) ["cuts"]
 f_value_in:FnIn K mg "value_in" (EE 26) ["sheet", "patch"]
 f_value_at:FnIn K mg "value_at" (EE 27) ["sheet", "point"]
 f_over:FnIn K mg "over" (EE 13) ["one", "other"]
 f_mean_of:FnIn K mg "mean_of" (EE 28) ["sheet", "points"]
 f_stretch_length:FnIn K mg "stretch_length" (EE 29) ["ends", "stretch"]
 f_product_of:FnIn K mg "product_of" (EE 12) ["some"]
 f_patch_size:FnIn K mg "patch_size" (EE 30) ["cuts", "patch"]
 f_whole_of:FnIn K mg "whole_of" (EE 31) ["sheet"]
 f_goes_ahead:FnIn K mg "goes_ahead" (EE 16) ["one", "other", "may_meet"]
 f_lies:FnIn K mg "lies" (EE 17) ["x", "side", "way"]
 f_lies_in:FnIn K mg "lies_in" (EE 18) ["point", "box", "way"]
 f_next_patch:FnIn K mg "next_patch" (EE 32) ["patch", "side"]
 f_falls_of:FnIn K mg "falls_of" (EE 33) ["sheet"]
 f_patch_corner:FnIn K mg "patch_corner" (EE 34) ["cuts", "patch"]
 f_weights_of:FnIn K mg "weights_of" (EE 35) ["sheet"]
 f_swing_of:FnIn K mg "swing_of" (EE 38) ["sheet"]
 f_values_from:FnIn K mg "values_from" (EE 36) ["cuts", "weights", "begun"]
 f_sheet_of:FnIn K mg "sheet_of" (EE 37) ["cuts", "weights"]
 f__law_frac:FnIn K mg "_law_frac" (EE 42) ["_law_n", "_law_d"]
 f__law_below:FnIn K mg "_law_below" (EE 43) ["_law_one", "_law_other"]
 f__law_number:FnIn K mg "_law_number" (EE 44) ["_law_feed_here"]
 f__law_points:FnIn K mg "_law_points" (EE 45) ["_law_feed_here", "_law_s", "_law_many"]
 f__law_corner:FnIn K mg "_law_corner" (EE 46) ["_law_points_here", "_law_ends"]
 f__law_uneven:FnIn K mg "_law_uneven" (EE 47) ["_law_points_here"]
 f__law_cuts:FnIn K mg "_law_cuts" (EE 48) ["_law_feed_here", "_law_s"]
 f__law_value:FnIn K mg "_law_value" (EE 49) ["_law_feed_here"]
 f__law_sheet:FnIn K mg "_law_sheet" (EE 50) ["_law_feed_here", "_law_s"]
 f__law_plus:FnIn K mg "_law_plus" (EE 51) ["_law_one", "_law_other"]
 f__law_times:FnIn K mg "_law_times" (EE 52) ["_law_one", "_law_other"]
 f__law_one_box:FnIn K mg "_law_one_box" (EE 53) ["_law_feed_here", "_law_sheet_here", "_law_points_here"]
 f__law_added:FnIn K mg "_law_added" (EE 54) ["_law_one", "_law_other"]
 g_ZERO:GlD K mg "ZERO" (pr 0 1)
 g_ONE:GlD K mg "ONE" (pr 1 1)
theorem yP(F:Fun K "law" "law" (EE 55) f fd)(T:Txt K mg)  : FnOk P w K mg base G6 11 f fd ["_law_script"] (ij K):=by
 have d__law_feed:DfnR P w K mg base "_law_feed" ["_law_script"] 2 zZ:=K88.d__law_feed T.f__law_feed T.bz   ;have d__law_draw:∀al,DfnC P w K mg base al 1 "_law_draw" ["_law_feed_here", "_law_many"] 1 a_:=fun rl=>K88.d__law_draw T.f__law_draw T.bz   ;have d_common_divisor:∀rl,Dfn P w K mg base rl "common_divisor" ["one", "other"] 1 aT:=fun rl=>K88.d_common_divisor T.f_common_divisor T.bz   ;have d_fraction:∀rl,Dfn P w K mg base rl "fraction" ["top", "bottom"] 2 bG:=fun rl=>K88.d_fraction T.f_fraction T.bz d_common_divisor  ;have d_plus:∀rl,Dfn P w K mg base rl "plus" ["one", "other"] 3 gG:=fun rl=>K88.d_plus T.f_plus T.bz d_fraction  ;have d_less:∀rl,Dfn P w K mg base rl "less" ["one", "other"] 3 fV:=fun rl=>K88.d_less T.f_less T.bz d_fraction  ;have d_times:∀rl,Dfn P w K mg base rl "times" ["one", "other"] 3 dS:=fun rl=>K88.d_times T.f_times T.bz d_fraction  ;have d_sum_of:∀rl,Dfn P w K mg base rl "sum_of" ["some"] 3 cn:=fun rl=>K88.d_sum_of T.f_sum_of T.bz d_fraction d_common_divisor  ;have d_is_below:∀rl,Dfn P w K mg base rl "is_below" ["one", "other"] 1 cE:=fun rl=>K88.d_is_below T.f_is_below T.bz   ;have d_choices:∀rl,Dfn P w K mg base rl "choices" ["rows"] 1 dh:=fun rl=>K88.d_choices T.f_choices T.bz   ;have d_stretch_of:∀rl,Dfn P w K mg base rl "stretch_of" ["x", "ends"] 2 bW:=fun rl=>K88.d_stretch_of T.f_stretch_of T.bz d_is_below  ;have d_patch_of:∀rl,Dfn P w K mg base rl "patch_of" ["point", "cuts"] 3 cR:=fun rl=>K88.d_patch_of T.f_patch_of T.bz d_stretch_of  ;have d_patches_of:∀rl,Dfn P w K mg base rl "patches_of" ["cuts"] 2 bK:=fun rl=>K88.d_patches_of T.f_patches_of T.bz d_choices  ;have d_value_in:∀rl,Dfn P w K mg base rl "value_in" ["sheet", "patch"] 1 cj:=fun rl=>K88.d_value_in T.f_value_in T.bz   ;have d_value_at:∀rl,Dfn P w K mg base rl "value_at" ["sheet", "point"] 4 cP:=fun rl=>K88.d_value_at T.f_value_at T.bz d_value_in d_patch_of  ;have d_over:∀rl,Dfn P w K mg base rl "over" ["one", "other"] 3 gH:=fun rl=>K88.d_over T.f_over T.bz d_fraction  ;have d_mean_of:∀rl,Dfn P w K mg base rl "mean_of" ["sheet", "points"] 5 bR:=fun rl=>K88.d_mean_of T.f_mean_of T.bz d_over d_sum_of d_value_at  ;have d_stretch_length:∀rl,Dfn P w K mg base rl "stretch_length" ["ends", "stretch"] 4 aZ:=fun rl=>K88.d_stretch_length T.f_stretch_length T.bz d_less T.g_ONE T.g_ZERO ;have d_product_of:∀rl,Dfn P w K mg base rl "product_of" ["some"] 4 bX:=fun rl=>K88.d_product_of T.f_product_of T.bz d_times T.g_ONE ;have d_patch_size:∀rl,Dfn P w K mg base rl "patch_size" ["cuts", "patch"] 5 bY:=fun rl=>K88.d_patch_size T.f_patch_size T.bz d_product_of d_stretch_length  ;have d_whole_of:∀rl,Dfn P w K mg base rl "whole_of" ["sheet"] 6 bS:=fun rl=>K88.d_whole_of T.f_whole_of T.bz d_sum_of d_times d_value_in d_patch_size d_patches_of  ;have d_goes_ahead:∀rl,Dfn P w K mg base rl "goes_ahead" ["one", "other", "may_meet"] 2 b6:=fun rl=>K88.d_goes_ahead T.f_goes_ahead T.bz d_is_below  ;have d_lies:∀rl,Dfn P w K mg base rl "lies" ["x", "side", "way"] 3 gJ:=fun rl=>K88.d_lies T.f_lies T.bz d_goes_ahead  
 have d_lies_in:∀rl,Dfn P w K mg base rl "lies_in" ["point", "box", "way"] 4 cJ:=fun rl=>K88.d_lies_in T.f_lies_in T.bz d_lies  ;have d_next_patch:∀rl,Dfn P w K mg base rl "next_patch" ["patch", "side"] 1 bZ:=fun rl=>K88.d_next_patch T.f_next_patch T.bz   ;have d_falls_of:∀rl,DfnX P w K mg base rl "falls_of" ["sheet"] 4 cS:=fun rl=>K88.d_falls_of T.f_falls_of T.bz d_value_in d_patches_of d_less d_next_patch T.g_ZERO ;have d_patch_corner:∀rl,Dfn P w K mg base rl "patch_corner" ["cuts", "patch"] 1 bv:=fun rl=>K88.d_patch_corner T.f_patch_corner T.bz  T.g_ONE ;have d_weights_of:∀rl,Dfn P w K mg base rl "weights_of" ["sheet"] 5 bV:=fun rl=>K88.d_weights_of T.f_weights_of T.bz d_falls_of d_patch_corner T.g_ZERO ;have d_swing_of:∀rl,Dfn P w K mg base rl "swing_of" ["sheet"] 6 cQ:=fun rl=>K88.d_swing_of T.f_swing_of T.bz d_weights_of d_plus T.g_ZERO T.g_ONE ;have d_values_from:∀rl,Dfn P w K mg base rl "values_from" ["cuts", "weights", "begun"] 7 (aR 3):=fun rl=>K88.d_values_from T.f_values_from T.bz d_sum_of d_lies_in T.g_ZERO ;have d_sheet_of:∀rl,Dfn P w K mg base rl "sheet_of" ["cuts", "weights"] 8 cD:=fun rl=>K88.d_sheet_of T.f_sheet_of T.bz d_values_from  ;have d__law_frac:∀rl,Dfn P w K mg base rl "_law_frac" ["_law_n", "_law_d"] 1 aW:=fun rl=>K88.d__law_frac T.f__law_frac T.bz   ;have d__law_below:∀rl,Dfn P w K mg base rl "_law_below" ["_law_one", "_law_other"] 1 aU:=fun rl=>K88.d__law_below T.f__law_below T.bz   ;have d__law_number:∀al,DfnC P w K mg base al 2 "_law_number" ["_law_feed_here"] 2 bN:=fun rl=>K88.d__law_number T.f__law_number T.bz d__law_frac d__law_draw  ;have d__law_points:∀al,DfnC P w K mg base al 8320 "_law_points" ["_law_feed_here", "_law_s", "_law_many"] 3 bM:=fun rl=>K88.d__law_points T.f__law_points T.bz d__law_number d__law_draw  ;have d__law_corner:∀rl,Dfn P w K mg base rl "_law_corner" ["_law_points_here", "_law_ends"] 2 bO:=fun rl=>K88.d__law_corner T.f__law_corner T.bz d__law_below  ;have d__law_uneven:∀rl,Dfn P w K mg base rl "_law_uneven" ["_law_points_here"] 3 bu:=fun rl=>K88.d__law_uneven T.f__law_uneven T.bz d__law_frac d__law_corner d__law_below  ;have d__law_cuts:∀al,DfnC P w K mg base al 4224 "_law_cuts" ["_law_feed_here", "_law_s"] 2 cy:=fun rl=>K88.d__law_cuts T.f__law_cuts T.bz d__law_draw d__law_frac  ;have d__law_value:∀al,DfnC P w K mg base al 2 "_law_value" ["_law_feed_here"] 2 b9:=fun rl=>K88.d__law_value T.f__law_value T.bz d__law_frac d__law_draw  ;have d__law_sheet:∀al,DfnC P w K mg base al 12544 "_law_sheet" ["_law_feed_here", "_law_s"] 3 b_:=fun rl=>K88.d__law_sheet T.f__law_sheet T.bz d__law_cuts d__law_value  ;have d__law_plus:∀rl,Dfn P w K mg base rl "_law_plus" ["_law_one", "_law_other"] 2 ca:=fun rl=>K88.d__law_plus T.f__law_plus T.bz d__law_frac  ;have d__law_times:∀rl,Dfn P w K mg base rl "_law_times" ["_law_one", "_law_other"] 2 bL:=fun rl=>K88.d__law_times T.f__law_times T.bz d__law_frac  ;have d__law_one_box:∀al,DfnC P w K mg base al 64 "_law_one_box" ["_law_feed_here", "_law_sheet_here", "_law_points_here"] 9 bw:=fun rl=>K88.d__law_one_box T.f__law_one_box T.bz d_sheet_of d__law_times d_mean_of d__law_frac d_whole_of d__law_draw d__law_below  
 have d__law_added:∀rl,Dfn P w K mg base rl "_law_added" ["_law_one", "_law_other"] 3 ce:=fun rl=>K88.d__law_added T.f__law_added T.bz d__law_plus  ;exact sE T.bz d__law_feed d__law_sheet d__law_points d_mean_of d_whole_of d__law_plus d__law_below d__law_added d__law_draw d__law_times d__law_one_box d_swing_of d__law_uneven   F
end
theorem us_0(hl:us.length=0):us=[]:=List.eq_nil_of_length_eq_zero hl
theorem CM(hl:us.length=1):∃a0,us=[a0]:=by
 cases us with
 | nil=>cases hl
 | cons a0 t=>cases us_0 (N0 hl);exact⟨a0,rfl⟩
theorem CL(hl:us.length=2):∃a0 a1,us=[a0,a1]:=by
 cases us with
 | nil=>cases hl
 | cons a0 t=>obtain⟨a1,rfl⟩:=CM (N0 hl);exact⟨a0,a1,rfl⟩
theorem Dm(hl:us.length=3):∃a0 a1 a2,us=[a0,a1,a2]:=by
 cases us with
 | nil=>cases hl
 | cons a0 t=>obtain⟨a1,a2,rfl⟩:=CL (N0 hl);exact⟨a0,a1,a2,rfl⟩
noncomputable def FF(K:JS)(x:Str)(st:Stmt):Prop:=∃(f:Addr)(oc kV dc pm cd ct:Hq)(od an:Option Addr)(sl:Array (Option Hq)),MZ K IG x=some (some (.ref f))/\K.lookup f=some ⟨oc,od,.func (M0 x x (defArgs st) (defBody st) (defScope st) .none kV dc pm an cd ct),sl⟩/\Nf K cd x=true/\Ng K (.ref f)=true
theorem ff_mk{K:JS}{st:Stmt}{oc kV dc pm cd ct:Hq}{od an:Option Addr}{sl:Array (Option Hq)}(a:MZ K IG x=some (some (.ref f)))(l:K.lookup f=some ⟨oc,od,.func (M0 x x (defArgs st) (defBody st) (defScope st) .none kV dc pm an cd ct),sl⟩)(c:Nf K cd x=true)(k:Ng K (.ref f)=true):FF K x st:=⟨f,oc,kV,dc,pm,cd,ct,od,an,sl,a,l,c,k⟩
theorem aK{K:JS}(X:K.In h)(G:h.Ns IG mg){st:Stmt}{ps:List Str}(q:FF K x st)(hb:∀(kV doc pm:Hq)(an:Option Addr)(cdv ct:Hq)(us:List Hq),us.length=ps.length->bindArgs (M0 x x (defArgs st) (defBody st) (defScope st) .none kV doc pm an cdv ct) ⟨us,[]⟩=pure (ps.zip us):=by intro _ _ _ _ _ _ us hl;first|(cases us_0 hl;exact rfl)|(obtain⟨_,rfl⟩:=CM hl;exact rfl)|(obtain⟨_,_,rfl⟩:=CL hl;exact rfl)|(obtain⟨_,_,_,rfl⟩:=Dm hl;exact rfl)):FnIn K mg x st ps:=by
 obtain⟨f,_,_,_,_,_,_,_,_,_,a,l,c,k⟩:=q;exact⟨⟨f,_,PySem.W.mg_of X G a,qf l c k,(qf l c k).binds hb⟩⟩
abbrev NI(K:JS)(x:Str)(f:Addr):Prop:=MZ K IG x=some (some (.ref f))
abbrev NZ(K:JS)(x:Str):Prop:=MZ K IG x=some none
abbrev LK(K:JS)(x:Str)(st:Stmt)(f:Addr)(oc:Hq)(od:Option Addr)(kV dc pm:Hq)(an:Option Addr)(cd ct:Hq)(sl:Array (Option Hq)):Prop:=K.lookup f=some ⟨oc,od,.func (M0 x x (defArgs st) (defBody st) (defScope st) .none kV dc pm an cd ct),sl⟩
theorem all_mk{l:M3}{K:JS}{fa:Addr}(X:K.In h)(G:h.Ns IG mg)(hfa:mg "law" = some (.ref fa))
 {f45:Addr}{od45 an45:Option Addr}{sl45:Array (Option Hq)}{oc45 kV45 dc45 pm45 cd45 ct45:Hq}
 (f1:FF K "_law_feed" (EE 40))(f2:FF K "_law_draw" (EE 41))(f3:FF K "common_divisor" (EE 6))(f4:FF K "fraction" (EE 7))(f5:FF K "plus" (EE 8))(f6:FF K "less" (EE 9))(f7:FF K "times" (EE 10))(f8:FF K "sum_of" (EE 11))(f9:FF K "is_below" (EE 14))(f10:FF K "choices" (EE 20))(f11:FF K "stretch_of" (EE 22))(f12:FF K "patch_of" (EE 23))(f13:FF K "patches_of" (EE 24))(f14:FF K "value_in" (EE 26))(f15:FF K "value_at" (EE 27))(f16:FF K "over" (EE 13))(f17:FF K "mean_of" (EE 28))(f18:FF K "stretch_length" (EE 29))(f19:FF K "product_of" (EE 12))(f20:FF K "patch_size" (EE 30))(f21:FF K "whole_of" (EE 31))(f22:FF K "goes_ahead" (EE 16))(f23:FF K "lies" (EE 17))(f24:FF K "lies_in" (EE 18))(f25:FF K "next_patch" (EE 32))(f26:FF K "falls_of" (EE 33))(f27:FF K "patch_corner" (EE 34))(f28:FF K "weights_of" (EE 35))(f29:FF K "swing_of" (EE 38))(f30:FF K "values_from" (EE 36))(f31:FF K "sheet_of" (EE 37))(f32:FF K "_law_frac" (EE 42))(f33:FF K "_law_below" (EE 43))(f34:FF K "_law_number" (EE 44))(f35:FF K "_law_points" (EE 45))(f36:FF K "_law_corner" (EE 46))(f37:FF K "_law_uneven" (EE 47))(f38:FF K "_law_cuts" (EE 48))(f39:FF K "_law_value" (EE 49))(f40:FF K "_law_sheet" (EE 50))(f41:FF K "_law_plus" (EE 51))(f42:FF K "_law_times" (EE 52))(f43:FF K "_law_one_box" (EE 53))(f44:FF K "_law_added" (EE 54))(a45:NI K "law" f45)(l45:LK K "law" (EE 55) f45 oc45 od45 kV45 dc45 pm45 an45 cd45 ct45 sl45)(c45:Nf K cd45 "law" = true)(k45:Ng K (.ref f45)=true)
 (z_int:NZ K "int")(z_bool:NZ K "bool")(z_str:NZ K "str")(z_list:NZ K "list")(z_tuple:NZ K "tuple")(z_dict:NZ K "dict")(z_isinstance:NZ K "isinstance")(z_len:NZ K "len")(z_abs:NZ K "abs")(z_repr:NZ K "repr")(z_range:NZ K "range")(z_all:NZ K "all")(z_any:NZ K "any")(z_sum:NZ K "sum")(z_min:NZ K "min")(z_max:NZ K "max")(z_sorted:NZ K "sorted")(z_zip:NZ K "zip")(z_enumerate:NZ K "enumerate")(z_reversed:NZ K "reversed")(z_divmod:NZ K "divmod")(z_set:NZ K "set")(g_ZERO:GlK K "ZERO" (pr 0 1))(g_ONE:GlK K "ONE" (pr 1 1))  :
 ∃fd:Kb,(∀(s:Ht)(v:Hq),N7 s fd ⟨[v],[]⟩ [("_law_script", v)])/\∀base:Heap,K.In base->base.Ns IG mg->FnOk l.prog w K mg base G6 11 fa fd ["_law_script"] (ij K):=by
 have e:=hfa.symm.trans (PySem.W.mg_of X G a45);cases e;have B:Bz mg:=⟨HY X G z_int,HY X G z_bool,HY X G z_str,HY X G z_list,HY X G z_tuple,HY X G z_dict,HY X G z_isinstance,HY X G z_len,HY X G z_abs,HY X G z_repr,HY X G z_range,HY X G z_all,HY X G z_any,HY X G z_sum,HY X G z_min,HY X G z_max,HY X G z_sorted,HY X G z_zip,HY X G z_enumerate,HY X G z_reversed,HY X G z_divmod,HY X G z_set⟩;have T:Txt K mg:=⟨B,(aK X G f1),(aK X G f2),(aK X G f3),(aK X G f4),(aK X G f5),(aK X G f6),(aK X G f7),(aK X G f8),(aK X G f9),(aK X G f10),(aK X G f11),(aK X G f12),(aK X G f13),(aK X G f14),(aK X G f15),(aK X G f16),(aK X G f17),(aK X G f18),(aK X G f19),(aK X G f20),(aK X G f21),(aK X G f22),(aK X G f23),(aK X G f24),(aK X G f25),(aK X G f26),(aK X G f27),(aK X G f28),(aK X G f29),(aK X G f30),(aK X G f31),(aK X G f32),(aK X G f33),(aK X G f34),(aK X G f35),(aK X G f36),(aK X G f37),(aK X G f38),(aK X G f39),(aK X G f40),(aK X G f41),(aK X G f42),(aK X G f43),(aK X G f44),g_ZERO.of X G,g_ONE.of X G⟩;have FL:=qf (st:=EE 55) l45 c45 k45;exact⟨_,fun s v=>.of_eq rfl,fun base _ _=>yP FL T ⟩
theorem walk{l:M3}{q:HV}{YP:IF->Heap->Prop}{d:DefRec}{K:Oe->JS}(hn:l.most=some 63)(hdf:d.params.defaults=[])
 (hY:∀(w:IF)(h:Heap),YP w h->(K w.params).In h)
 (F:∀(w:IF)(mg:Str->Option Hq)(fa:Addr)(h:Heap),(K w.params).In h->h.Ns IG mg->mg d.name=some (.ref fa) ->
  ∃fd:Kb,(∀(s:Ht)(u:Hq),N7 s fd ⟨[u],[]⟩ [("_law_script", u)])/\∀base:Heap,(K w.params).In base->base.Ns IG mg->FnOk l.prog w (K w.params) mg base G6 11 fa fd ["_law_script"] (ij (K w.params))) :
 PySem.W.WalkO q loose XP YP l.row.toRowW d [] (fun f vs=>PySem.call f vs) :=
 L2.walk_of (n:=63) (k:=11) (x := "_law_script") (CX:=fun _=>G6) (sp:=fun w=>ij (K w.params)) hn (by decide) hdf ⟨rfl,by decide,by decide,rfl⟩ hY F (fun _ _ a ns hl _ hS=>⟨a,ns,rfl,hS,hl,fun _=>rfl⟩) fun _ _ _ _ _ z=>z
end K88
noncomputable def PySem.W.Fast.tw616082423420683971:PySem.Params->JS:=K88.heapK
theorem PySem.W.Fast.te616082423420683971:K88.heapK=PySem.W.Fast.tw616082423420683971:=rfl
open PySem PySem.W PyProof.Rows
set_option maxRecDepth 100000 in
set_option maxHeartbeats 0 in
theorem PySem.Challenge.cw_evenpoints_k88_whole_means_miss_no_more_holds : PySem.Challenge.rw_evenpoints_k88_whole_means_miss_no_more.Holds := by
 refine(congrArg M3.Holds K88.rw_eq).mpr ?_
 w_on;o_law
 refine holds_open (loose:=[]) (XP:=XL K88.zview []) (YP:=Hook.says (kHook K88.heapK K88.heapA K88.heapE)) K88.zleft
  (Hook.of _) (Hook.keeps _) (fun s e=>xl_of s (Hz.mp e).1)
  XL.keeps (by rfl) (by rfl) (by rfl) (fun s e=>recFacts_of (Hz.mp e).2) (by rfl)
  (by first|assumption|decide +kernel) (by decide +kernel) ⟨rfl,rfl,rfl,rfl,rfl,by decide +kernel⟩ ?hw ?hc
 (case hw=>w_witness2)
 k_fill
 refine K88.walk (l:=K88.rwN) rfl rfl (fun w h Y=>PySem.W.kIn_of (as:=K88.heapA) (e:=K88.heapE) Y) ?F
 case F =>
  intro w mg fa h KX G hmg
  refine' K88.all_mk KX G hmg ?f1 ?f2 ?f3 ?f4 ?f5 ?f6 ?f7 ?f8 ?f9 ?f10 ?f11 ?f12 ?f13 ?f14 ?f15 ?f16 ?f17 ?f18 ?f19 ?f20 ?f21 ?f22 ?f23 ?f24 ?f25 ?f26 ?f27 ?f28 ?f29 ?f30 ?f31 ?f32 ?f33 ?f34 ?f35 ?f36 ?f37 ?f38 ?f39 ?f40 ?f41 ?f42 ?f43 ?f44 ?a45 ?l45 ?c45 ?k45 ?zint ?zbool ?zstr ?zlist ?ztuple ?zdict ?zisinstance ?zlen ?zabs ?zrepr ?zrange ?zall ?zany ?zsum ?zmin ?zmax ?zsorted ?zzip ?zenumerate ?zreversed ?zdivmod ?zset ?gZERO ?gONE 
  all_goals (try (refine' K88.ff_mk ?a ?l ?c ?k;(case a=>k_is);(case l=>k_is);(case c=>k_is);(case k=>k_is)))
  all_goals (try change _=_)
  (case a45=>k_is);(case l45=>k_is);(case c45=>k_is);(case k45=>k_is)
  (case zint=>k_is)
  (case zbool=>k_is)
  (case zstr=>k_is)
  (case zlist=>k_is)
  (case ztuple=>k_is)
  (case zdict=>k_is)
  (case zisinstance=>k_is)
  (case zlen=>k_is)
  (case zabs=>k_is)
  (case zrepr=>k_is)
  (case zrange=>k_is)
  (case zall=>k_is)
  (case zany=>k_is)
  (case zsum=>k_is)
  (case zmin=>k_is)
  (case zmax=>k_is)
  (case zsorted=>k_is)
  (case zzip=>k_is)
  (case zenumerate=>k_is)
  (case zreversed=>k_is)
  (case zdivmod=>k_is)
  (case zset=>k_is)
  (case gZERO=>refine' L2.VL.GlK.pair ?h1 ?h2;(case h1=>k_is);(case h2=>k_is))
  (case gONE=>refine' L2.VL.GlK.pair ?h1 ?h2;(case h1=>k_is);(case h2=>k_is))
