import PyProof.Rows.All
import Wide.All
import OpenK.AllK
import Wide.FinOn
import Lean
import PyProof.EqAt
import PyProof.EqKinds
import PyProof.TupleCall
import KE.KDictSum
import KE.KMinKey
import PyProof.Rows.CallKwBuiltin
import PyProof.SumWalkG
import PyProof.WalksMore
import PyProof.AutoSeq1
import KE.KDictOf
import PyProof.AttrMissHeap
import PySem.Challenge.RW_evenpoints_k87_weights_of_sheets
set_option compiler.extract_closed false
set_option bootstrap.genMatcherCode false
set_option Elab.async false
set_option linter.all false
set_option maxRecDepth 100000
set_option maxHeartbeats 4000000
open And renaming intro->ES, imp_right->E5
open Array renaming length_toList->Hv, getElem?_eq_getElem->JB, getElem?_eq_none->Kh, mk->LH
open Bool renaming and_eq_true_iff->E2, or_eq_true_iff->Fu, false_ne_true->Fz, false_eq_true->HG, and_eq_true->IL, eq_iff_iff->Ja
open Classical renaming choose_spec->EV, choose->Ft
open Exists renaming imp->Fp
open False renaming elim->Gx
open ForInStep renaming yield->HM
open Iff renaming rfl->Ip
open Int renaming gcd->FY, eq_ofNat_of_zero_le->GS, natAbs_natCast->GT, fmod_nonneg_of_pos->GW, toNat_natCast->GX, fdiv_eq_ediv_of_nonneg->Hd, fmod_lt_of_pos->HH, gcd_pos_of_ne_zero_right->HI, mul_neg_of_pos_of_neg->HZ, natAbs_neg->Iz, mul_le_mul_of_nonneg_right->IE, mul_le_mul_of_nonneg_left->IN, natCast_mul->Jg, lt_of_lt_of_le->Jt, natAbs_mul->JA, gcd_dvd_natAbs_right->JL, lt_trichotomy->JO, mul_ediv_cancel_left->JP, fmod_add_mul_fdiv->Kt, le_of_lt->Ku, fdiv_nonneg->KB, natAbs_of_nonneg->KP, le_refl->K8, le_trans->LC, zero_add->LD
open List renaming length_map->E1, mem_cons_self->E7, mem_cons_of_mem->E9, getElem?_set_ne->E_, size_toArray->Fb, map_cons->Fd, getElem?_eq_some_iff->Ff, replicate->Fg, mem_append_right->Fh, take_of_length_le->Fi, getElem?_set_self->Fj, mem_singleton->FM, take_succ_eq_append_getElem->FN, mem_map->FP, drop_eq_getElem_cons->FS, map_append->FU, mem_cons->FV, getElem?_eq_getElem->FX, getElem?_set->F_, length_append->Ga, getElem_mem->Gb, lookup_cons->Gi, range->Gm, replicate_succ->Gp, length_cons->Gq, getElem?_map->Gr, Nodup->Gu, map_nil->Gv, find?_cons->GA, map_map->GC, mem_append->GG, length_take->GK, append_nil->GQ, all_eq_true->GU, drop_length->G3, pairwise_map->G9, of_mem_zip->Hq, flatten_cons->Hs, length_flatMap->HA, getElem_map->HB, foldl_cons->HL, reverse_cons->HQ, pairwise_append->HU, getElem?_append_left->HV, filterMap_cons->H0, length_reverse->H_, map_congr_left->Ib, forIn_cons->Il, mem_range->Ix, take_append_drop->IG, length_filter_le->IH, length_drop->IK, ext_getElem->IM, mem_reverse->IQ, mem_append_left->IR, mem_of_getElem?->IS, foldl->IW, mem_filter->I0, nodup_cons->Jb, length_zip->Jj, getElem?_append_right->Jl, getD_eq_getElem?_getD->Jm, pairwise_cons->Ju, append_assoc->JI, filterMap_cons_none->JM, flatMap_cons->JN, getElem?_replicate->JT, any_cons->JV, filter_cons_of_neg->J4, filter_cons_of_pos->J5, cons_append->J7, mem_flatMap->J8, filterMap_eq_map'->Kf, sum_replicate_nat->Kg, drop_eq_nil_of_le->Ki, length_singleton->Ko, length_nil->Kp, getElem?_eq_none->Kq, pairwise_flatMap->KC, pairwise_reverse->KE, foldl_nil->KS, nodup_nil->KW, all_cons->Ln, getD->LQ
open List.cons renaming injEq->FJ
open Nat renaming le_refl->E3, lt_of_lt_of_le->E6, pow_le_pow_right->Fq, zero_le->FE, ne_of_lt->FK, le_trans->Gk, lt_irrefl->GE, lt_of_le_of_lt->Hh, le_of_succ_le->HR, le_add_right->IP, min_eq_right->J9, ne_of_gt->Km, pow_succ->Kw, min_eq_left->KA, pow_lt_pow_right->KO, mul_le_mul->KU, mul_le_mul_left->K7, le_of_lt->Lv, mul_succ->LA, sub_zero->LB
open Nat.succ renaming inj->LF
open Ne renaming symm->II
open Option renaming isSome_iff_exists->Hr, map_eq_some_iff->HE
open Option.some renaming inj->FO
open Or renaming inr->F0, inl->GB
open PyProof.Rows renaming slot_tuple_getitem->Fw, callWith_type1->Gy, tupleItemsOf_->Ij, assignInOrder_cons->Jn, args_tuple_getitem->Jp, envOfC->JG, subscriptTail_builtinR->J_, Subscript_->KJ, AllBare->K1, IntsAre->K5, subscriptTail->Lh, IsTup->LG
open PySem renaming PyData->ET, wpAny_bind->EU, wpAny_pure->EW, Value->EX, Shared->EZ, starEach->E4, wpAny->Fm, Program->Fo, model->FA, wpAny_newObj_type->FB, foldedSetIterable->FC, wpAny_mono->FH, sizeLine_eq->FI, wpAny_callSpecial?_slot->FQ, World->Gc, mainGlobals->Gd, Around->Gh, mem_of_lookup->Go, wpAny_field->Gz, wpAny_call_entry->GD, swapsWith->GH, wpAny_standAt->GJ, wpAny_comprehension_free->GN, Paired->GO, backTo->GP, cellsFrom->GV, letOwnedTupleGo->G0, sysModules->G1, wpAny_typeNameOfWhole_keyiter->G4, wpAny_holding->G5, codeAny->G_, tupleKind_room_in1->Hg, wpAny_setField_rec->Hj, wpAny_seqItems->Hl, tupleKind->Hm, wpAny_truthy_bool->Hn, wpAny_passesOwn->Ho, wpAny_typeNameOf_keyiter->Hu, binaryOp->Hw, FuncData->Hy, assignEach->HC, assign->HF, bootBuiltins->HJ, compareOp->HK, behindInMarks->HN, wpAny_sequenceKey->HP, wpAny_Call_Name_kw->Ig, NameKind->Ih, attributeBase->Ik, wpAny_assign_Name->Is, wpAny_rule->Iu, wpAny_pyIter_list->Iv, sliceBounds->Iw, newFunctionEnv->Iy, DictEntry->IA, exec_Assign_Name_used->IC, wpAny_isOneOf_keyiter->IF, Keyword->IJ, wpAny_updateSeq_pair->IT, cLine->IU, intKind->IZ, wpAny_execs_nil->I_, getItem->Jc, keywordEach->Jd, theTreesLotGoes->Je, IsPair->Jh, codeAny_mono->Jo, wpAny_typeOf->Jq, wpAny_getItem_heap->Js, storedH->Jw, wpAny_setField->Jy, firstArgMember->Jz, wpAny_fieldsOf->JC, pyNext->JE, wpAny_getItem_list_slice->JH, wpAny_dictEntries->JQ, swapsWithSole->JR, swappedStores->JS, evalPart_none->JU, wpAny_of_eq->JX, wpAny_onRaise->JY, wpAny_attempt->JZ, noFill_tuple_add->J6, atKey->Kc, wpAny_Assign_Subscript->Kd, codeAny_compStart_list->Ke, importedModules->Kj, standAt->Kk, holding->Kl, IsPart->Kn, codeAny_loop->Kr, wpAny_dictEpoch->Ky, wpAny_loadName_local->KM, rawInt->KQ, intBits_le_iff->KR, wpAny_loadName_cell->K3, subscripted->K4, wpAny_noted->K6, assignInOrder->Lb, Operator->Lc, PassesOwn->Ld, seq_tuple_add->Lg, backToKw->Li, compTurn->Lj, noteFrame->Lk, compPost->Ll, comprehension->Lm, entryOfKey->Lp, call_meets->Lq, valueAt->Lr, callerA->Ls, IsZip->Lu, pyIter->Lw, Result->Lx, concat_meets->Ly, seqIndex_neg->Lz, BindsTo->LJ, wpAny_Slice->LL, seqIndex_of->LM, pushCells->LO, wpAny_letGo->LS, Params->LV, relabel->LX
open PySem.Builtin.Dict renaming showsAll->Kx
open PySem.Builtin.Dict_items renaming ownsTuple->IV
open PySem.Builtin.Slice renaming slicePlaces->Gs, sliceApplied->Ha, sliceAdjust->HW, sliceFields->Jv
open PySem.Builtin.SmallTypes renaming nextOf->FR, ownedTupleIsFree->GL, ownedTupleHandOut->HY
open PySem.Builtin.Tuple renaming tupleExact->FW, tupleItemsOf->Hb, tupleIsExact->HS
open PySem.Calls renaming spliced_cons->Ie, Name_function_global->Jk, spliced_nil->JF, callWith_builtin->Kb, evalArgs_plain->KN
open PySem.F renaming slot_dict_getitem->HX, args_tuple_add_2->Ic, entry_tuple_add->Ii, slot_tuple_add->Iq, slot_list_append->JJ, type_list_append->JK, plainAttrs_list->JW, slot_dict_get->Kz
open PySem.Heap renaming get?_push_of_some->EY, lt_size->E8, get?_push_size->Fa, size_push->GY, SameBut->G7, get?_update_self->IB, get?_update_other->Ka, ExtBut->LR
open PySem.Heap.IsSliceOf renaming new->Jr
open PySem.Heap.SameBut renaming refl->Ht, update->Ia
open PySem.NameKind renaming free->Gg, cell->G6
open PySem.Obj renaming data_mapFields->Io, isFreed_of_fields->Kv, mapSeq->KL
open PySem.Paired renaming length->GI, snoc->LN
open PySem.PassesOwn renaming never->FZ
open PySem.PyData renaming int->FG, eqv->Gn, tuple->Gw, canLayAll0->GM, depthAll->GR, canLay0->GZ, depth->Hi, eqvAll->Hz, leavesShort->Im, showable->Jf, bulkAll->Jx, bool->J0, leavesShortAll->Ks, list->K9, bulk->LP
open PySem.PyData.tuple renaming injEq->Gj
open PySem.SeqAt renaming shaped->Gf
open PySem.Str renaming ofString->FT
open PySem.Value renaming ref->Ge, none->Hf, int->JD, str->La, bool->Lo, isInt->LI
open PySem.W renaming mg_none_of->Fv, boot_heap->GF, Frag->G8, nsIn->KF, fnOf->KG, OpenLaw->KH, boot_drawn->KI, codeIn->KY, keepIn->KZ, boot_toks->K_, OpenLaw->LW
open Rat renaming zero_add->ID, intCast_mul->Ji, normalize->J1, neg_num->J3, neg_den->LU
open Sum renaming inr->Ir, inl->K0
open True renaming intro->HD
open PySem PySem.Spec PyProof.Rows
variable{loose N ps N':List Str}{α:Type}{m t' i j n:Nat}{xs xs':List ET}{us its:List EX}{a b it f:Addr}{P:Fo}{w:Gc}{h h':Heap}{x qual:Str}{A:Gh}{E Q:EX->EZ->Prop}{u:List (List Int×Addr×EX)×Obj}{s:EZ}{pos pos' px spos:Pos}{pins:List (Addr×Obj)}{tg iter:Expr}{fp:List Addr}{op:CmpOp}{fd:Hy}{mg:Str->Option EX}{scope:Scope}{kvs:List (List Int×ET)}{XP:(Str->Option EX)->Heap->Prop}{ns p:List Int}{d:ET}{ifs:List Expr}{tn:Nat->Heap->Prop}{Rp:Addr->Lx->EZ->Prop}{q:Rat}{c:List Rat}{z:List Rat×Rat}
theorem æa(h:True:=by rfl):True:=trivial
theorem æb(h:True:=by decide):True:=trivial
theorem æc(h:True:=by first|exact GB rfl|exact F0 (GB rfl)|exact F0 (F0 rfl)):True:=trivial
theorem æd(h:True:=by intro _;rfl):True:=trivial
theorem æe(h:True:=by first|exact GB rfl|exact F0 rfl):True:=trivial
theorem æf(h:True:=by first|exact .inl rfl|exact .inr rfl):True:=trivial
theorem æg(h:True:=by exact fun _ _=>rfl):True:=trivial
theorem æh(h:True:=by first|exact .inl rfl|exact .inr rfl|assumption):True:=trivial
theorem æi(h:True:=by intro _ _;rfl):True:=trivial
noncomputable section
namespace L2
open PySem
noncomputable def ur(s:Stmt)(j:Nat):Stmt:=match s with
 | .ClassDef _ _ _ body _ _ _ _ _ _ _=>body.getD j (.Pass ⟨0,0,0,0⟩)
 | _=>.Pass ⟨0,0,0,0⟩
noncomputable def defArgs(s:Stmt):Arguments:=match s with
 | .FunctionDef _ a _ _ _ _ _ _ _ _=>a
 | _=>{posonlyargs:=[],args:=[],vararg:=none,kwonlyargs:=[],kw_defaults:=[],kwarg:=none,defaults:=[]}
noncomputable def defBody(s:Stmt):List Stmt:=match s with
 | .FunctionDef _ _ b _ _ _ _ _ _ _=>b
 | _=>[]
noncomputable def defScope(s:Stmt):Scope:=match s with
 | .FunctionDef _ _ _ _ _ _ sc _ _ _=>sc
 | _=>{kind:=.function,names:=[],isGenerator:=false,isCoroutine:=false}
end L2
namespace L2.TT
open PySem PySem.W
noncomputable def Dz(tb:String->Option Builtin)(p:Fo)(w:Gc)(m:Nat)(ann:Option EX):Nat->SharedT->Thread->Option SharedT
 | 0,_,_=>none
 | n+1,s,t=>match through t with
   | true=>some s
   | false=>match stepOk m ann t with
     | false=>none
     | true=>match stepT (denote tb) p w s t with
       | some r=>Dz tb p w m ann n r.1 r.2
       | none=>none
theorem rB{tb:String->Option Builtin}{p:Fo}{w:Gc}{m:Nat}{ann:Option EX}:∀{n:Nat}{s s':SharedT}{t:Thread},Dz tb p w m ann n s t=some s'->topRun tb p w m ann n s.abs t=some s'.abs
 | 0,_,_,_,h=>by cases h
 | n+1,s,s',t,h=>by
   unfold Dz at h;unfold topRun
   cases he:through t with
   | true=>rw[he]at h;cases h;rfl
   | false =>
     rw[he]at h
     cases hk:stepOk m ann t with
     | false=>rw[hk]at h;cases h
     | true =>
       rw[hk]at h
       cases hs:stepT (denote tb) p w s t with
       | none=>rw[hs]at h;cases h
       | some r=>rw[hs]at h;rw[stepT_spec hs];exact rB h
noncomputable def bt(os:List Obj):Nat->Nat->Nat->BT
 | 0,_,_=>.nil
 | f+1,a,b=>match os[b]? with
   | some o=>.node o (bt os f (2*a) (a+b)) (bt os f (2*a) (2*a+b))
   | none=>.nil
theorem boot_abs(P:LV):absHeap (bt (GF P).objs.toList 12 1 0) (GF P).objs.size (GF P).life=GF P:=by kernel_rfl
abbrev wV(p q:Fo)(loose:List Str)(Xt:EZ->Bool){α:Type}(Yf:EZ->α)(h₀:Heap)(s:EZ) :=
 (staticsOk (Kj p.main.body) h₀ s.heap&&namesBound p s.heap&&gensDone s&&laidKept h₀ s.heap,openSeen q loose (Kj p.main.body) Xt true s,Yf s)
theorem left_of{p q:Fo}{Xt:EZ->Bool}{Yf:EZ->α}{Ya:Gc->α}{N M:Nat}{ann:Option EX}
 (e:opening p=plainProg p.main.scope.names)(hN:Nat.ble 600 N=true)(f:∀s,fenceModules? p s=some s)(le:Nat.ble M N=true)
 (size:∀w:Gc,((GF w.params).isNs Gd,(GF w.params).objs.size,(GF w.params).nsMap Gd "__annotations__")=(true,m,ann))
 (run:∀(w:Gc)(os:OsState),(Dz treeTable p w m ann M ⟨bt (GF w.params).objs.toList 12 1 0,(GF w.params).objs.size,(GF w.params).life,LH [],KI,K_,os⟩ (topStub p)).map (fun s=>wV p q loose Xt Yf (GF w.params) s.abs)=some (true,openGood q loose,Ya w)) :
 LeftO p q loose Xt Yf Ya N:=fun w=>by
 obtain⟨⟨h,gs,d,k,os⟩,eo,e'⟩:=HE.mp (boot_open e hN f w);obtain⟨rfl,rfl,rfl,rfl⟩:h=GF w.params/\gs=LH []/\d=KI/\k=K_:=by simpa using e'
 obtain⟨z1,z2,z3⟩:_/\_/\_:=by simpa only[Prod.mk.injEq]using size w
 obtain⟨s',r,l⟩:=HE.mp (run w os);obtain⟨l1,l2,l3⟩:_/\_/\_:=by simpa only[wV,Prod.mk.injEq]using l
 have r:=rB r
 have hb:SharedT.abs ⟨bt (GF w.params).objs.toList 12 1 0,(GF w.params).objs.size,(GF w.params).life,LH [],KI,K_,os⟩=⟨GF w.params,LH [],KI,K_,os⟩:=by
  show EZ.mk (absHeap _ _ _) _ _ _ _=_;rw[boot_abs]
 rw[hb]at r;have r:=topRun_mono (N-M) _ _ _ _ r;rw[show M+(N-M)=N by have:=Nat.le_of_ble_eq_true le;omega]at r
 have t:topFrom treeTable p w N ⟨GF w.params,LH [],KI,K_,os⟩=some s'.abs:=by
  unfold topFrom;dsimp only;rw[z1,z2,z3,r];show(match staticsOk (Kj p.main.body) (GF w.params) s'.abs.heap&&namesBound p s'.abs.heap&&gensDone s'.abs&&laidKept (GF w.params) s'.abs.heap with|true=>_|false=>_)=_;rw[l1]
 unfold openEnds;rw[eo];show(topFrom treeTable p w N _).map _=_;rw[t];exact congrArg some (Prod.ext l2 l3)
end L2.TT
namespace K87
open PySem
def Cu(i:Nat):Stmt:=PySem.Challenge.pw_evenpoints_k87_weights_of_sheets.main.body.getD i (.Pass ⟨0,0,0,0⟩)
end K87
noncomputable def PySem.W.Fast.tw12943976544876571946:PySem.Program:=PySem.Challenge.pw_evenpoints_k87_weights_of_sheets
theorem PySem.W.Fast.te12943976544876571946:PySem.Challenge.pw_evenpoints_k87_weights_of_sheets=PySem.W.Fast.tw12943976544876571946:=rfl
namespace K87
open PySem PySem.W L2
def BZ:Stmt:=Cu 0
def BY:Stmt:=Cu 1
def BX:Stmt:=Cu 2
def BW:Stmt:=Cu 3
def BV:Stmt:=Cu 4
def BU:Stmt:=Cu 5
def BS:Stmt:=Cu 6
def BR:Stmt:=Cu 7
def BQ:Stmt:=Cu 8
def BP:Stmt:=Cu 9
def AA:Stmt:=Cu 10
def Az:Stmt:=Cu 11
def Ba:Stmt:=Cu 12
def Ay:Stmt:=Cu 13
def Ax:Stmt:=Cu 14
def Aw:Stmt:=Cu 15
def A_:Stmt:=Cu 16
def Av:Stmt:=Cu 17
def A9:Stmt:=Cu 18
def Au:Stmt:=Cu 19
def A8:Stmt:=Cu 20
def At:Stmt:=Cu 21
def As:Stmt:=Cu 22
def Ar:Stmt:=Cu 23
def Aq:Stmt:=Cu 24
def Ap:Stmt:=Cu 25
def Ao:Stmt:=Cu 26
def An:Stmt:=Cu 27
def Am:Stmt:=Cu 28
def A7:Stmt:=Cu 29
def Al:Stmt:=Cu 30
def Ak:Stmt:=Cu 31
def Aj:Stmt:=Cu 32
def Ai:Stmt:=Cu 33
def Ah:Stmt:=Cu 34
def Ag:Stmt:=Cu 35
def Af:Stmt:=Cu 36
def Ae:Stmt:=Cu 37
def Ad:Stmt:=Cu 38
def Ac:Stmt:=Cu 39
def Ab:Stmt:=Cu 40
def Aa:Stmt:=Cu 41
def C9:Fo:={PySem.Challenge.pw_evenpoints_k87_weights_of_sheets with main:={PySem.Challenge.pw_evenpoints_k87_weights_of_sheets.main with body:=[BZ,BY,BX,BW,BV,BU,BS,BR,BQ,BP,AA,Az,Ba,Ay,Ax,Aw,A_,Av,A9,Au,A8,At,As,Ar,Aq,Ap,Ao,An,Am,A7,Al,Ak,Aj,Ai,Ah,Ag,Af,Ae,Ad,Ac,Ab,Aa]}}
def rwN:LW:={PySem.Challenge.rw_evenpoints_k87_weights_of_sheets with prog:=C9}
noncomputable def zview:Fo:={PySem.Challenge.pw_evenpoints_k87_weights_of_sheets with main:={PySem.Challenge.pw_evenpoints_k87_weights_of_sheets.main with body:=[BY,BX,BV,BU,BS,BR,BQ,BP,AA,Az,Ay,Ax,Aw,Av,Au,At,As,Ar,Aq,Ap,Ao,An,Am,Al,Ak,Aj,Ai,Ah,Ag,Af,Ae,Ad,Ac,Ab,Aa]}}
theorem rw_eq:PySem.Challenge.rw_evenpoints_k87_weights_of_sheets=rwN:=rfl
noncomputable def B9(P:LV)(x:Str)(t:Nat)(v:EX):IA:=⟨ET.keyHash P x,.str x t,v⟩
noncomputable def B8(n q:Str)(s:Stmt)(pm cd:EX):Obj:=⟨.type "function", none,.func (fnOf n q (defArgs s) (defBody s) (defScope s) .none .none .none pm none cd .none),#[]⟩
noncomputable def Ca(n q:Str)(a b c:Nat)(l x y:Int)(r:Nat)(z:Int)(r2:Nat)(v1 v2 v3:EX)(r3:Nat)(u:Int)(c2:Nat):Obj:=⟨.type "code", none,.fields #[.str n a,.str q b,.str "/claim/cut.py" c,.int l 0,.int x 0,.int 0 0,.int 0 0,.int y 0,.ref r,.bool true,.int z 0,.ref r2,v1,v2,v3,.ref r3,.int u 0,.int l 0,.str "/claim/cut.py" c2],#[]⟩
noncomputable def B6:EX:=.str "evenpoints.errors" 187
noncomputable def B5:EX:=.str "evenpoints.fractions" 232
noncomputable def B4:EX:=.str "evenpoints.boxes" 287
noncomputable def B3:EX:=.str "evenpoints.choices" 315
noncomputable def B2:EX:=.str "evenpoints.patches" 323
noncomputable def B1:EX:=.str "evenpoints.sums" 331
noncomputable def B0:EX:=.str "law_evenpoints_k87_weights_of_sheets" 394
abbrev B7(n:Str):=B8 n n
abbrev B_(n:Str):=Ca n n
noncomputable def heapK(P:LV):Frag :=
 (nat_lit 2,(.mk .none none (.dict #[] 0) #[])) ::
 (nat_lit 3,(.mk (.type "dict") none (.dict #[B9 P "__name__" 165 (.str "law_evenpoints_k87_weights_of_sheets" 394),B9 P "__doc__" 166 .none,B9 P "__package__" 167 .none,B9 P "__loader__" 168 (.builtin "__main__.__loader__#opaque"),B9 P "__spec__" 169 .none,B9 P "__annotations__" 170 (.ref 6),B9 P "__builtins__" 171 (.ref 4),B9 P "__file__" 173 (.str "/claim/cut.py" 172),B9 P "__cached__" 174 .none,B9 P "EvenError" 206 (.ref 24),B9 P "Nought" 231 (.ref 44),B9 P "ZERO" 236 (.ref 47),B9 P "ONE" 239 (.ref 48),B9 P "common_divisor" 247 (.ref 55),B9 P "fraction" 256 (.ref 62),B9 P "plus" 264 (.ref 69),B9 P "less" 272 (.ref 76),B9 P "sum_of" 278 (.ref 81),B9 P "is_below" 286 (.ref 88),B9 P "goes_ahead" 297 (.ref 95),B9 P "lies" 308 (.ref 102),B9 P "lies_in" 314 (.ref 107),B9 P "choices" 322 (.ref 112),B9 P "patches_of" 330 (.ref 117),B9 P "value_in" 342 (.ref 124),B9 P "next_patch" 350 (.ref 131),B9 P "falls_of" 356 (.ref 136),B9 P "patch_corner" 362 (.ref 141),B9 P "weights_of" 368 (.ref 146),B9 P "values_from" 374 (.ref 151),B9 P "sheet_of" 382 (.ref 158),B9 P "swing_of" 393 (.ref 165),B9 P "_law_feed" 402 (.ref 172),B9 P "_law_draw" 415 (.ref 179),B9 P "_law_frac" 425 (.ref 186),B9 P "_law_cuts" 440 (.ref 193),B9 P "_law_value" 447 (.ref 200),B9 P "_law_sheet" 453 (.ref 205),B9 P "_law_plus" 461 (.ref 212),B9 P "_law_patches" 467 (.ref 217),B9 P "_law_at" 476 (.ref 224),B9 P "_law_evened" 486 (.ref 231),B9 P "_law_weights" 492 (.ref 236),B9 P "law" 498 (.ref 241)] 44) #[])) ::
 (nat_lit 6,(.mk (.type "dict") none (.dict #[] 0) #[])) ::
 (nat_lit 15,(.mk (.type "tuple") none (.seq #[(.type "ValueError")] 0) #[])) ::
 (nat_lit 22,(.mk (.type "tuple") none (.seq #[] 0) #[])) ::
 (nat_lit 23,(.mk (.type "dict") none (.dict #[B9 P "__module__" 196 (.str "evenpoints.errors" 187),B9 P "__firstlineno__" 200 (.int 2 199),B9 P "__static_attributes__" 201 (.ref 22),B9 P "__weakref__" 203 (.ref 25),B9 P "__doc__" 204 .none] 3) #[])) ::
 (nat_lit 24,(.mk (.type "type") none (.cls (.mk "EvenError" [(.type "ValueError")] [(.ref 24),(.type "ValueError"),(.type "Exception"),(.type "BaseException"),(.type "object")] 23 "EvenError" true [] [(.ref 44)] false none false)) #[(some (.ref 15)),none,(some (.str "EvenError" 189)),(some (.str "EvenError" 197)),(some (.builtin "ValueError.__new__")),(some (.bool true))])) ::
 (nat_lit 25,(.mk (.type "getset_descriptor") none (.fields #[(.str "__weakref__" 202),(.ref 24),(.builtin "ExceptionGroup.__weakref__"),.none]) #[])) ::
 (nat_lit 28,(.mk (.type "tuple") none (.seq #[(.ref 24)] 0) #[])) ::
 (nat_lit 40,Ca "__init__" "Nought.__init__" 219 220 221 6 2 3 35 181 36 .none (.ref 37) (.ref 38) 39 224 225) ::
 (nat_lit 41,B8 "__init__" "Nought.__init__" (ur (Cu 2) 0) B6 (.ref 40)) ::
 (nat_lit 42,(.mk (.type "tuple") none (.seq #[(.str "word" 227)] 0) #[])) ::
 (nat_lit 43,(.mk (.type "dict") none (.dict #[B9 P "__module__" 214 (.str "evenpoints.errors" 187),B9 P "__firstlineno__" 218 (.int 4 217),B9 P "__init__" 226 (.ref 41),B9 P "__static_attributes__" 228 (.ref 42),B9 P "__doc__" 229 .none] 2) #[])) ::
 (nat_lit 44,(.mk (.type "type") none (.cls (.mk "Nought" [(.ref 24)] [(.ref 44),(.ref 24),(.type "ValueError"),(.type "Exception"),(.type "BaseException"),(.type "object")] 43 "Nought" true [] [] false none false)) #[(some (.ref 28)),none,(some (.str "Nought" 207)),(some (.str "Nought" 215)),(some (.builtin "ValueError.__new__")),(some (.bool true))])) ::
 (nat_lit 47,(.mk (.type "tuple") none (.seq #[(.int 0 234),(.int 1 235)] 0) #[])) ::
 (nat_lit 48,(.mk (.type "tuple") none (.seq #[(.int 1 237),(.int 1 238)] 0) #[])) ::
 (nat_lit 54,B_ "common_divisor" 240 241 242 11 2 3 49 181 50 .none (.ref 51) (.ref 52) 53 245 246) ::
 (nat_lit 55,B7 "common_divisor" (Cu 6) B5 (.ref 54)) ::
 (nat_lit 61,B_ "fraction" 248 249 250 15 2 3 56 181 57 .none (.ref 58) (.ref 59) 60 254 255) ::
 (nat_lit 62,B7 "fraction" (Cu 7) B5 (.ref 61)) ::
 (nat_lit 68,B_ "plus" 257 258 259 22 2 3 63 181 64 .none (.ref 65) (.ref 66) 67 262 263) ::
 (nat_lit 69,B7 "plus" (Cu 8) B5 (.ref 68)) ::
 (nat_lit 75,B_ "less" 265 266 267 24 2 3 70 181 71 .none (.ref 72) (.ref 73) 74 270 271) ::
 (nat_lit 76,B7 "less" (Cu 9) B5 (.ref 75)) ::
 (nat_lit 80,B_ "sum_of" 273 274 275 26 1 3 77 181 78 .none .none .none 79 276 277) ::
 (nat_lit 81,B7 "sum_of" (Cu 10) B5 (.ref 80)) ::
 (nat_lit 87,B_ "is_below" 279 280 281 31 2 3 82 181 83 .none (.ref 84) (.ref 85) 86 284 285) ::
 (nat_lit 88,B7 "is_below" (Cu 11) B5 (.ref 87)) ::
 (nat_lit 94,B_ "goes_ahead" 289 290 291 34 3 3 89 181 90 .none (.ref 91) (.ref 92) 93 295 296) ::
 (nat_lit 95,B7 "goes_ahead" (Cu 13) B4 (.ref 94)) ::
 (nat_lit 101,B_ "lies" 298 299 300 38 3 3 96 181 97 .none (.ref 98) (.ref 99) 100 306 307) ::
 (nat_lit 102,B7 "lies" (Cu 14) B4 (.ref 101)) ::
 (nat_lit 106,B_ "lies_in" 309 310 311 46 3 3 103 181 104 .none .none .none 105 312 313) ::
 (nat_lit 107,B7 "lies_in" (Cu 15) B4 (.ref 106)) ::
 (nat_lit 111,B_ "choices" 317 318 319 49 1 3 108 181 109 .none .none .none 110 320 321) ::
 (nat_lit 112,B7 "choices" (Cu 17) B3 (.ref 111)) ::
 (nat_lit 116,B_ "patches_of" 325 326 327 55 1 3 113 181 114 .none .none .none 115 328 329) ::
 (nat_lit 117,B7 "patches_of" (Cu 19) B2 (.ref 116)) ::
 (nat_lit 123,B_ "value_in" 333 334 335 58 2 3 118 181 119 .none (.ref 120) (.ref 121) 122 340 341) ::
 (nat_lit 124,B7 "value_in" (Cu 21) B1 (.ref 123)) ::
 (nat_lit 130,B_ "next_patch" 343 344 345 63 2 3 125 181 126 .none (.ref 127) (.ref 128) 129 348 349) ::
 (nat_lit 131,B7 "next_patch" (Cu 22) B1 (.ref 130)) ::
 (nat_lit 135,B_ "falls_of" 351 352 353 65 1 3 132 181 133 .none .none .none 134 354 355) ::
 (nat_lit 136,B7 "falls_of" (Cu 23) B1 (.ref 135)) ::
 (nat_lit 140,B_ "patch_corner" 357 358 359 71 2 3 137 181 138 .none .none .none 139 360 361) ::
 (nat_lit 141,B7 "patch_corner" (Cu 24) B1 (.ref 140)) ::
 (nat_lit 145,B_ "weights_of" 363 364 365 73 1 3 142 181 143 .none .none .none 144 366 367) ::
 (nat_lit 146,B7 "weights_of" (Cu 25) B1 (.ref 145)) ::
 (nat_lit 150,B_ "values_from" 369 370 371 76 3 3 147 181 148 .none .none .none 149 372 373) ::
 (nat_lit 151,B7 "values_from" (Cu 26) B1 (.ref 150)) ::
 (nat_lit 157,B_ "sheet_of" 375 376 377 81 2 3 152 181 153 .none (.ref 154) (.ref 155) 156 380 381) ::
 (nat_lit 158,B7 "sheet_of" (Cu 27) B1 (.ref 157)) ::
 (nat_lit 164,B_ "swing_of" 383 384 385 83 1 3 159 181 160 .none (.ref 161) (.ref 162) 163 391 392) ::
 (nat_lit 165,B7 "swing_of" (Cu 28) B1 (.ref 164)) ::
 (nat_lit 171,B_ "_law_feed" 396 397 398 90 1 3 166 181 167 .none (.ref 168) (.ref 169) 170 400 401) ::
 (nat_lit 172,B7 "_law_feed" (Cu 30) B0 (.ref 171)) ::
 (nat_lit 178,B_ "_law_draw" 403 404 405 92 2 3 173 181 174 .none (.ref 175) (.ref 176) 177 413 414) ::
 (nat_lit 179,B7 "_law_draw" (Cu 31) B0 (.ref 178)) ::
 (nat_lit 185,B_ "_law_frac" 416 417 418 106 2 3 180 181 181 .none (.ref 182) (.ref 183) 184 423 424) ::
 (nat_lit 186,B7 "_law_frac" (Cu 32) B0 (.ref 185)) ::
 (nat_lit 192,B_ "_law_cuts" 426 427 428 112 2 3 187 181 188 .none (.ref 189) (.ref 190) 191 438 439) ::
 (nat_lit 193,B7 "_law_cuts" (Cu 33) B0 (.ref 192)) ::
 (nat_lit 199,B_ "_law_value" 441 442 443 127 1 3 194 181 195 .none (.ref 196) (.ref 197) 198 445 446) ::
 (nat_lit 200,B7 "_law_value" (Cu 34) B0 (.ref 199)) ::
 (nat_lit 204,B_ "_law_sheet" 448 449 450 129 2 3 201 181 202 .none .none .none 203 451 452) ::
 (nat_lit 205,B7 "_law_sheet" (Cu 35) B0 (.ref 204)) ::
 (nat_lit 211,B_ "_law_plus" 454 455 456 137 2 3 206 181 207 .none (.ref 208) (.ref 209) 210 459 460) ::
 (nat_lit 212,B7 "_law_plus" (Cu 36) B0 (.ref 211)) ::
 (nat_lit 216,B_ "_law_patches" 462 463 464 139 1 3 213 181 214 .none .none .none 215 465 466) ::
 (nat_lit 217,B7 "_law_patches" (Cu 37) B0 (.ref 216)) ::
 (nat_lit 223,B_ "_law_at" 468 469 470 146 2 3 218 181 219 .none (.ref 220) (.ref 221) 222 474 475) ::
 (nat_lit 224,B7 "_law_at" (Cu 38) B0 (.ref 223)) ::
 (nat_lit 230,B_ "_law_evened" 477 478 479 149 2 3 225 181 226 .none (.ref 227) (.ref 228) 229 484 485) ::
 (nat_lit 231,B7 "_law_evened" (Cu 39) B0 (.ref 230)) ::
 (nat_lit 235,B_ "_law_weights" 487 488 489 157 1 3 232 181 233 .none .none .none 234 490 491) ::
 (nat_lit 236,B7 "_law_weights" (Cu 40) B0 (.ref 235)) ::
 (nat_lit 240,B_ "law" 493 494 495 172 1 3 237 181 238 .none .none .none 239 496 497) ::
 (nat_lit 241,B7 "law" (Cu 41) B0 (.ref 240))::[]
noncomputable def heapA:List Addr:=nat_lit 2::nat_lit 3::nat_lit 6::nat_lit 15::nat_lit 22::nat_lit 23::nat_lit 24::nat_lit 25::nat_lit 28::nat_lit 40::nat_lit 41::nat_lit 42::nat_lit 43::nat_lit 44::nat_lit 47::nat_lit 48::nat_lit 54::nat_lit 55::nat_lit 61::nat_lit 62::nat_lit 68::nat_lit 69::nat_lit 75::nat_lit 76::nat_lit 80::nat_lit 81::nat_lit 87::nat_lit 88::nat_lit 94::nat_lit 95::nat_lit 101::nat_lit 102::nat_lit 106::nat_lit 107::nat_lit 111::nat_lit 112::nat_lit 116::nat_lit 117::nat_lit 123::nat_lit 124::nat_lit 130::nat_lit 131::nat_lit 135::nat_lit 136::nat_lit 140::nat_lit 141::nat_lit 145::nat_lit 146::nat_lit 150::nat_lit 151::nat_lit 157::nat_lit 158::nat_lit 164::nat_lit 165::nat_lit 171::nat_lit 172::nat_lit 178::nat_lit 179::nat_lit 185::nat_lit 186::nat_lit 192::nat_lit 193::nat_lit 199::nat_lit 200::nat_lit 204::nat_lit 205::nat_lit 211::nat_lit 212::nat_lit 216::nat_lit 217::nat_lit 223::nat_lit 224::nat_lit 230::nat_lit 231::nat_lit 235::nat_lit 236::nat_lit 240::nat_lit 241::[]
theorem heapE:∀P,heapA=(heapK P).map (·.1):=fun _=>rfl
theorem ye:∀w:Gc,((GF w.params).isNs Gd,(GF w.params).objs.size,(GF w.params).nsMap Gd "__annotations__")=(true,11,some (.ref 6)):=fun w=>by kernel_rfl
set_option maxHeartbeats 0 in
theorem zleft:LeftO C9 zview [] (fun s=>xlAt zview [] s&&recOk (RowW.records rwN.row.toRowW) s) (Hook.obs (kHook heapK heapA heapE)) (Hook.val (kHook heapK heapA heapE)) 3576 :=
 L2.TT.left_of (M:=3576) (by kernel_rfl) rfl (fun s=>by kernel_rfl) rfl ye fun w os=>by kernel_rfl
end K87
namespace L2
abbrev Ep:=Sum Int Str
noncomputable def lR:Ep->EX->Bool
 | .inl k,v=>LI k v
 | .inr x,v=>EX.isStrOf x v
noncomputable def BE(w:Gc):Ep->Int
 | .inl k=>hashInt k
 | .inr x=>hashStr w x
theorem bq:∀{k:Ep}{v:EX},lR k v=true->(∃i t,k=K0 i/\v=JD i t)\/(∃x t,k=Ir x/\v=La x t)
 | .inl i,v,h=>by
   obtain⟨t,e⟩:=EX.isInt_shape (k:=i) (v:=v) h
   exact .inl ⟨i,t,rfl,e⟩
 | .inr x,v,h=>by
   obtain⟨t,e⟩:=EX.isStrOf_shape (x:=x) (v:=v) h;exact .inr ⟨x,t,rfl,e⟩
theorem nV(i:Int)(t:Tok):lR (.inl i) (.int i t)=true:=by simp[lR,LI]
theorem nU(x:Str)(t:Tok):lR (.inr x) (.str x t)=true:=by simp[lR,EX.isStrOf]
theorem xb(a b:Int):decide ((K0 a:Ep)=K0 b)=(a==b):=by
 by_cases e:a=b
 · subst e;simp
 · have h:¬(K0 a:Ep)=K0 b:=fun q=>e (K0.inj q);rw[decide_eq_false h];exact(beq_eq_false_iff_ne.mpr e).symm
theorem wZ(a b:Str):decide ((Ir a:Ep)=Ir b)=decide (a=b):=by
 by_cases e:a=b
 · subst e;simp
 · have h:¬(Ir a:Ep)=Ir b:=fun q=>e (Ir.inj q);rw[decide_eq_false h,decide_eq_false e]
theorem xa(a:Int)(b:Str):decide ((K0 a:Ep)=Ir b)=false:=decide_eq_false (fun q=>nomatch q)
theorem w_(a:Str)(b:Int):decide ((Ir a:Ep)=K0 b)=false:=decide_eq_false (fun q=>nomatch q)
noncomputable def bP(prog:Fo)(w:Gc):PySem.KeyKind prog w Ep where
 is:=lR
 hash:=BE w
 inj:=fun v a b ha hb=>by
  rcases bq ha with⟨i,t,rfl,rfl⟩|⟨x,t,rfl,rfl⟩
  · rcases bq hb with⟨j,u,rfl,e⟩|⟨y,u,rfl,e⟩
    · injection e with e1 _;rw[e1]
    · exact nomatch e
  · rcases bq hb with⟨j,u,rfl,e⟩|⟨y,u,rfl,e⟩
    · exact nomatch e
    · injection e with e1 _;rw[e1]
 byValue:=fun k v h=>by
   rcases bq h with⟨i,t,rfl,rfl⟩|⟨x,t,rfl,rfl⟩<;>rfl
 pyHash:=fun hv h=>by
  rcases bq hv with⟨i,t,rfl,rfl⟩|⟨x,t,rfl,rfl⟩
  · exact wpAny_pyHash_int h
  · exact wpAny_pyHash_str h
 eqBool:=fun hu hv h=>by
  rcases bq hu with⟨i,t,rfl,rfl⟩|⟨x,t,rfl,rfl⟩
  · rcases bq hv with⟨j,u,rfl,rfl⟩|⟨y,u,rfl,rfl⟩
    · rw[xb]at h;exact wpAny_eqBool_int h
    · rw[xa]at h;exact SeqAt.EqAt.int_str i t y u _ _ _ _ h
  · rcases bq hv with⟨j,u,rfl,rfl⟩|⟨y,u,rfl,rfl⟩
    · rw[w_]at h;exact SeqAt.EqAt.str_int x t j u _ _ _ _ h
    · rw[wZ]at h;exact wpAny_eqBool_str h
 «strs»:=fun k x t v h=>by
  rcases bq h with⟨i,u,rfl,e⟩|⟨y,u,rfl,e⟩
  · exact nomatch e
  · injection e with e1 _
    subst e1;cases v<;>rfl
theorem jO(prog:Fo)(w:Gc)(i:Int)(t:Tok):(bP prog w).is (.inl i) (.int i t)=true:=nV i t
theorem jN(prog:Fo)(w:Gc)(x:Str)(t:Tok):(bP prog w).is (.inr x) (.str x t)=true:=nU x t
inductive V where
 | non|bl (b:Bool)|int (i:Int)|str (x:Str)|byt (b:Array UInt8)|flt (b:UInt64)|ref (a:Addr)|ty (n:String)
 deriving DecidableEq
noncomputable def RelV:V->EX->Prop
 | .non,u=>u=Hf
 | .bl b,u=>u=Lo b
 | .int i,u=>∃t,u=JD i t
 | .str x,u=>∃t,u=La x t
 | .byt b,u=>∃t,u=EX.bytes b t
 | .flt b,u=>∃t,u=EX.float b t
 | .ref a,u=>u=Ge a
 | .ty n,u=>u=EX.type n
abbrev cE:List V->List EX->Prop:=GO RelV
theorem cE.length{xs:List V}(r:cE xs us):xs.length=us.length:=GI r
theorem cE.get:∀{xs:List V}{us:List EX}{i:Nat}{x:V},cE xs us->xs[i]?=some x->∃u,us[i]?=some u/\RelV x u
 | _,_,_,_,.nil,e=>by simp at e
 | _,_,0,_,.cons r _,e=>by simp at e;subst e;exact⟨_,rfl,r⟩
 | _,_,i+1,x,.cons _ t,e=>by
   obtain⟨u,h1,h2⟩:=cE.get (i:=i) (x:=x) t (by simpa using e);exact⟨u,by simpa using h1,h2⟩
theorem cE.set{x:V}{u:EX}(r:RelV x u):∀{xs:List V}{us:List EX}(i:Nat),cE xs us->cE (xs.set i x) (us.set i u)
 | _,_,_,.nil=>.nil
 | _,_,0,.cons _ t=>.cons r t
 | _,_,i+1,.cons q t=>.cons q (cE.set r i t)
theorem cE.append:∀{xs ys:List V}{us ws:List EX},cE xs us->cE ys ws->cE (xs++ys) (us++ws)
 | _,_,_,_,.nil,s=>s
 | _,_,_,_,.cons r t,s=>.cons r (cE.append t s)
theorem cE.take:∀{xs:List V}{us:List EX}(n:Nat),cE xs us->cE (xs.take n) (us.take n)
 | _,_,0,_=>.nil
 | _,_,_+1,.nil=>.nil
 | _,_,n+1,.cons r t=>.cons r (cE.take n t)
theorem cE.drop:∀{xs:List V}{us:List EX}(n:Nat),cE xs us->cE (xs.drop n) (us.drop n)
 | _,_,0,r=>r
 | _,_,_+1,.nil=>.nil
 | _,_,n+1,.cons _ t=>cE.drop n t
noncomputable def uK:Option V->Option EX->Prop
 | some v,some u=>RelV v u
 | none,none=>True
 | _,_=>False
noncomputable def KV{κ:Type}:List (κ×V)->List (κ×EX)->Prop:=GO fun(p:κ×V)(q:κ×EX)=>p.1=q.1/\RelV p.2 q.2
noncomputable def kV:Ep->V
 | .inl i=>.int i
 | .inr x=>.str x
inductive HO where
 | lst (xs:List V)
 | tup (xs:List V)
 | dK (kvs:List (Ep×V))|dT (kvs:List (List Ep×V))
 | set (S:Int->Bool) (n:Nat)
 | ins (C dx:Addr) (fs:List (Str×V))
 | own (x:Addr)
 | xd (fs:List (Str×V))
 | met (f x:Addr)
 | rng (lo hi:Int)
 | frz (o:Obj) (u:HO)
 | tbl (ps:Array EX)
 | ext (φ:Heap->Prop)
abbrev Hp:=Addr->Option HO
noncomputable def Co(H:Hp)(a:Addr)(o:HO):Hp:=fun b=>if b=a then some o else H b
theorem ar{H:Hp}{o:HO}:Co H a o a=some o:=by unfold Co;rw[if_pos rfl]
theorem ak{H:Hp}{o:HO}(h:b≠a):Co H a o b=H b:=by unfold Co;rw[if_neg h]
theorem zc{H:Hp}{o u:HO}(h:H a=some o)(h':H b=some u)(d:o≠u):a≠b:=by
 intro e;subst e;rw[h]at h';exact d (FO h')
theorem aG{H:Hp}{o:HO}(h:H a=some o)(h':H b=none):a≠b:=by
 intro e;subst e;rw[h]at h';cases h'
section
variable(P:Fo)(w:Gc)
noncomputable def pc(h:Heap)(a:Addr)(items:Array EX):Prop:=∃o,h.get? a=some o/\o.cls = .type "tuple" /\ (∃n,o.data = .seq items n)/\o.dict=none
theorem pc.tup{h:Heap}{a:Addr}{items:Array EX}(x:pc h a items):LG h a items:=let ⟨o,e1,e2,e3,_⟩:=x;⟨o,e1,e2,e3⟩
theorem pc.new(h:Heap)(items:Array EX):pc (h.push {cls:=.type "tuple", data:=.seq items}) h.objs.size items:=⟨_,Fa _ rfl,rfl,⟨_,rfl⟩,rfl⟩
noncomputable def cD(H:Hp)(h:Heap)(a:Addr):HO->Prop
 | .lst xs=>xs.length<=sizeLine/\∃(its:List EX)(n:Nat),cE xs its/\h.get? a=some {cls:=.type "list", data:=.seq its.toArray n}
 | .tup xs=>xs.length<=sizeLine/\∃its:List EX,cE xs its/\pc h a its.toArray
 | .dK kvs=>kvs.length<=sizeLine/\(a==G1)=false/\∃vs,KV kvs vs/\h.DictOf (bP P w) a vs
 | .dT kvs=>kvs.length<=sizeLine/\(a==G1)=false/\∃xs:List (List Ep×Addr×EX),
     GO (fun(p:List Ep×V)(q:List Ep×Addr×EX)=>p.1=q.1/\H q.2.1=some (.tup (p.1.map kV))/\RelV p.2 q.2.2) kvs xs /\
     ∃o es ep,h.get? a=some o/\o.ExactDict/\o.data = .dict es ep/\es.toList=xs.map (Lp (Hm (bP P w)))/\(xs.map (·.1)).Nodup
 | .set S n=>h.SetOf (IZ P w) a S n
 | .ins C dx fs=>H dx=some (.own a)/\fs.length<=1000/\dx≠a/\h.get? a=some (W.instObj C dx) /\
     ∃mA,h.Ns1 dx mA/\(∀f,uK (fs.lookup f) (mA f))/\PySem.Within mA (fs.map (·.1))
 | .own _=>∃o,h.get? a=some o
 | .xd fs=>∃mA,h.Ns1 a mA/\∀f,uK (fs.lookup f) (mA f)
 | .rng lo hi=>∃t u v,h.get? a=some {cls:=.type "range", data:=.fields #[.int lo t,.int hi u,.int 1 v]}
 | .frz o u=>h.get? a=some o/\cD H h a u
 | .tbl ps=>h.get? a=some {cls:=.none,data:=.fields ps}
 | .met f x=>h.get? a=some (W.methodObj (.ref f) (.ref x))
 | .ext φ=>φ h/\(∃o,h.get? a=some o)/\∀h1 h2:Heap,φ h1->(∀o,h1.get? a=some o->h2.get? a=some o)->φ h2
noncomputable def EB(H:Hp)(h:Heap):Prop:=∀a o,H a=some o->cD P w H h a o
end
section
variable{P:Fo}{w:Gc}{H H':Hp}{h h':Heap}{a:Addr}{o:HO}
theorem cD.lt(x:cD P w H h a o):a<h.objs.size:=by
 cases o with
 | lst xs=>obtain⟨_,_,_,_,e⟩:=x;exact E8 e
 | tup xs=>obtain⟨_,_,_,p⟩:=x;exact p.tup.lt
 | dK kvs=>obtain⟨_,_,_,_,o,_,_,e,_⟩:=x;exact E8 e
 | dT kvs=>obtain⟨_,_,_,_,o,_,_,e,_⟩:=x;exact E8 e
 | set S n=>obtain⟨o,_,_,_,e,_⟩:=x;exact E8 e
 | ins C dx fs=>obtain⟨_,_,_,e,_⟩:=x;exact E8 e
 | own y=>obtain⟨_,e⟩:=x;exact E8 e
 | xd fs=>obtain⟨_,⟨_,_,_,e,_⟩,_⟩:=x;exact E8 e
 | rng lo hi=>obtain⟨_,_,_,e⟩:=x;exact E8 e
 | frz ob u=>obtain⟨e,_⟩:=x;exact E8 e
 | tbl ps=>exact E8 (show h.get? a=some _ from x)
 | met f y=>exact E8 (show h.get? a=some _ from x)
 | ext φ=>obtain⟨_,⟨_,e⟩,_⟩:=x;exact E8 e
theorem GO.mapP{α β:Type}{F G:α->β->Prop}:∀{l₁:List α}{l₂:List β},GO F l₁ l₂->(∀a b,F a b->G a b)->GO G l₁ l₂
 | _,_,.nil,_=>.nil
 | _,_,.cons r t,f=>.cons (f _ _ r) (GO.mapP t f)
theorem cD.stay(x:cD P w H h a o)(k:∀b u,(b=a\/H b=some (.own a))->h.get? b=some u->h'.get? b=some u)
 (ho:∀b,H b=some (.own a)->H' b=some (.own a))(ht:∀b xs,H b=some (.tup xs)->H' b=some (.tup xs)):cD P w H' h' a o:=by
 induction o with
 | lst xs=>obtain⟨z,its,n,r,e⟩:=x;exact⟨z,its,n,r,k _ _ (.inl rfl) e⟩
 | tup xs=>obtain⟨z,its,r,ob,e,c⟩:=x;exact⟨z,its,r,ob,k _ _ (.inl rfl) e,c⟩
 | dK kvs=>obtain⟨z,y,vs,r,ob,es,ep,e,c⟩:=x;exact⟨z,y,vs,r,ob,es,ep,k _ _ (.inl rfl) e,c⟩
 | dT kvs =>
   obtain⟨z,y,xs,r,ob,es,ep,e,c⟩:=x
   exact⟨z,y,xs,GO.mapP r fun p q z=>⟨z.1,ht _ _ z.2.1,z.2.2⟩,ob,es,ep,k _ _ (.inl rfl) e,c⟩
 | set S n=>obtain⟨ob,es,ep,t,e,c⟩:=x;exact⟨ob,es,ep,t,k _ _ (.inl rfl) e,c⟩
 | ins C dx fs =>
   obtain⟨d,z,ne,e,mA,⟨od,es,ep,e2,c⟩,r⟩:=x
   exact⟨ho _ d,z,ne,k _ _ (.inl rfl) e,mA,⟨od,es,ep,k _ _ (.inr d) e2,c⟩,r⟩
 | own y=>obtain⟨ob,e⟩:=x;exact⟨ob,k _ _ (.inl rfl) e⟩
 | xd fs=>obtain⟨mA,⟨od,es,ep,e,c⟩,r⟩:=x;exact⟨mA,⟨od,es,ep,k _ _ (.inl rfl) e,c⟩,r⟩
 | rng lo hi=>obtain⟨t,u,v,e⟩:=x;exact⟨t,u,v,k _ _ (.inl rfl) e⟩
 | frz ob u ih=>obtain⟨e,q⟩:=x;exact⟨k _ _ (.inl rfl) e,ih q⟩
 | tbl ps =>
   have e:h.get? a=some {cls:=.none,data:=.fields ps}:=x;show h'.get? a=some {cls:=.none,data:=.fields ps}
   exact k a _ (.inl rfl) e
 | met f y =>
   have e:h.get? a=some (W.methodObj (.ref f) (.ref y)):=x;show h'.get? a=some (W.methodObj (.ref f) (.ref y))
   exact k a _ (.inl rfl) e
 | ext φ=>obtain⟨p,⟨o,e⟩,st⟩:=x;exact⟨st _ _ p fun o q=>k _ _ (.inl rfl) q,⟨o,k _ _ (.inl rfl) e⟩,st⟩
theorem EB.lt(x:EB P w H h)(e:H a=some o):a<h.objs.size:=(x a o e).lt
theorem EB.fresh(x:EB P w H h)(e:h.objs.size<=a):H a=none:=by
 cases q:H a with
 | none=>rfl
 | some u=>exact absurd (E6 (x.lt q) e) (GE _)
theorem EB.kept(x:EB P w H h)(k:∀b u,h.get? b=some u->h'.get? b=some u):EB P w H h':=fun a o e =>
 (x a o e).stay (fun b u _ q=>k b u q) (fun _ q=>q) fun _ _ q=>q
theorem EB.laid(x:EB P w H h)(k:∀b u,h.get? b=some u->h'.get? b=some u)(hp:h.objs.size<=a)(new:cD P w (Co H a o) h' a o):EB P w (Co H a o) h':=fun b u e=>by
 have hn:=x.fresh hp;by_cases hb:b=a
 · subst hb;rw[ar]at e;cases e;exact new
 · rw[ak hb]at e;exact(x b u e).stay (fun c v _ q=>k c v q) (fun c q=>by rw[ak (aG q hn)];exact q) fun c xs q=>by rw[ak (aG q hn)];exact q
end
noncomputable def Rd(H:Hp)(a:Addr)(u:HO):Prop:=H a=some u\/∃o,H a=some (.frz o u)
theorem Rd.ok{H:Hp}{u:HO}(r:Rd H a u)(x:EB P w H h):cD P w H h a u:=by
 rcases r with r|⟨o,r⟩
 · exact x a u r
 · obtain⟨_,q⟩:=x a _ r;exact q
noncomputable def El:Option HO->Prop
 | some (.lst _)=>True
 | some (.dK _)=>True
 | some (.dT _)=>True
 | some (.set _ _)=>True
 | some (.ins _ _ _)=>True
 | some (.ext _)=>True
 | _=>False
section
variable{P:Fo}{w:Gc}{H:Hp}{h h':Heap}{x e:Addr}{o':HO}
theorem EB.write(ok:EB P w H h)(mu:El (H x))(he:e=x\/H e=some (.own x))(k:∀b u,b≠e->h.get? b=some u->h'.get? b=some u)(heo:∃u,h'.get? e=some u)
 (new:cD P w (Co H x o') h' x o'):EB P w (Co H x o') h':=fun b u q=>by
 have nown:∀c y,H c=some (.own y)->c≠x:=fun c y r z=>by subst z;rw[r]at mu;exact mu
 have ntup:∀c xs,H c=some (.tup xs)->c≠x:=fun c xs r z=>by subst z;rw[r]at mu;exact mu
 by_cases hb:b=x
 · subst hb;rw[ar]at q;cases q;exact new
 · rw[ak hb]at q;by_cases hbe:b=e
   · have q':H b=some (.own x):=by
       rcases he with z|z
       · exact absurd (hbe.trans z) hb
       · rw[hbe];exact z
     rw[q]at q';cases q';obtain⟨v,hv⟩:=heo;exact⟨v,by rw[hbe];exact hv⟩
   · refine(ok b u q).stay (fun c v hc r=>k c v ?_ r) (fun c r=>by rw[ak (nown c b r)];exact r) fun c xs r=>by rw[ak (ntup c xs r)];exact r
     rcases hc with rfl|hc
     · exact hbe
     · rintro rfl;rcases he with z|z
       · exact nown c b hc z
       · rw[hc]at z;cases z;exact hb rfl
end
structure Un (fs ex:List Addr) (H H':Hp) (h h':Heap):Prop where
 keep:∀b o,h.get? b=some o->H b=none->b∉fs->b∉ex->h'.get? b=some o
 slot:∀b o,h.get? b=some o->H b=none->b∈fs->b∉ex->∃sl,h'.get? b=some {o with slots:=sl}
 free:∀b o,h.get? b=some o->H b=none->b∉ex->H' b=none
 there:∀b o,h.get? b=some o->b∉ex->∃o',h'.get? b=some o'
 tups:∀b xs,H b=some (.tup xs)->H' b=some (.tup xs)
 frzs:∀b o u,H b=some (.frz o u)->H' b=some (.frz o u)
 tbls:∀b ps,H b=some (.tbl ps)->∃more,H' b=some (.tbl (ps++more))
section
variable{fs fs' ex ex':List Addr}{H H1 H2:Hp}{h h1 h2 h':Heap}{a x e:Addr}{o:HO}
theorem Un.any(u:Un fs ex H H1 h h1){ob:Obj}(q:h.get? b=some ob)(n:H b=none)(hx:b∉ex):∃sl,h1.get? b=some {ob with slots:=sl}:=by
 by_cases hb:b∈fs
 · exact u.slot b ob q n hb hx
 · exact⟨ob.slots,u.keep b ob q n hb hx⟩
theorem Un.kept(k:∀b u,h.get? b=some u->h'.get? b=some u):Un fs ex H H h h' :=
 ⟨fun b ob q _ _ _=>k b ob q,fun b ob q _ _ _=>⟨ob.slots,k b ob q⟩,fun _ _ _ n _=>n,fun b ob q _=>⟨ob,k b ob q⟩,fun _ _ q=>q,fun _ _ _ q=>q,fun _ ps q=>⟨#[],by rw[q];simp⟩⟩
theorem Un.refl:Un fs ex H H h h:=Un.kept fun _ _ q=>q
theorem Un.laid(k:∀b u,h.get? b=some u->h'.get? b=some u)(hp:h.objs.size<=a)(hn:H a=none):Un fs ex H (Co H a o) h h' where
 keep:=fun b u q _ _ _=>k b u q
 slot:=fun b u q _ _ _=>⟨u.slots,k b u q⟩
 free:=fun b u q n _=>by rw[ak (FK (E6 (E8 q) hp))];exact n
 there:=fun b u q _=>⟨u,k b u q⟩
 tups:=fun b xs q=>by rw[ak (aG q hn)];exact q
 frzs:=fun b u xs q=>by rw[ak (aG q hn)];exact q
 tbls:=fun b ps q=>⟨#[],by rw[ak (aG q hn),q];simp⟩
theorem Un.write(mu:El (H x))(he:e=x\/H e=some (.own x))(k:∀b u,b≠e->h.get? b=some u->h'.get? b=some u)(heo:∃u,h'.get? e=some u):Un fs ex H (Co H x o) h h':=by
 have hx:∀b,H b=none->b≠x:=fun b n z=>by subst z;rw[n]at mu;exact mu
 have hb:∀b,H b=none->b≠e:=fun b n z=>by
  subst z;rcases he with r|r
  · exact hx b n r
  · rw[n]at r;cases r
 have hm:∀b u,H b=some u->¬El (some u)->b≠x:=fun b u q nm z=>by subst z;rw[q]at mu;exact nm mu
 refine⟨fun b u q n _ _=>k b u (hb b n) q,fun b u q n _ _=>⟨u.slots,k b u (hb b n) q⟩,fun b u q n _=>by rw[ak (hx b n)];exact n,fun b u q _=>?_,
  fun b xs q=>by rw[ak (hm b _ q fun z=>z)];exact q,fun b u xs q=>by rw[ak (hm b _ q fun z=>z)];exact q,fun b ps q=>⟨#[],by rw[ak (hm b _ q fun z=>z),q];simp⟩⟩
 by_cases hbe:b=e
 · subst hbe;exact heo
 · exact⟨u,k b u hbe q⟩
end
noncomputable def Ct(h:Heap)(H:Hp):List Addr:=(Gm h.objs.size).filter fun a=>(H a).isSome
noncomputable def qi(h:Heap)(H:Hp):Heap:=W.hideAll h (Ct h H)
theorem oa(h:Heap)(H:Hp):(qi h H).objs.size=h.objs.size:=W.hideAll_size _ _
theorem qh{H:Hp}{o:Obj}(e:h.get? b=some o)(n:H b=none):(qi h H).get? b=some o :=
 W.hideAll_get _ e fun hm=>by
  have q:(H b).isSome=true:=(I0.mp hm).2;rw[n]at q;simp at q
theorem t4{H:Hp}{o:Obj}(e:(qi h H).get? b=some o):h.get? b=some o/\H b=none:=by
 have e':h.get? b=some o:=W.of_hideAll (Ct h H) e;refine⟨e',?_⟩
 cases q:H b with
 | none=>rfl
 | some x =>
   have hm:b∈Ct h H:=I0.mpr ⟨Ix.mpr (E8 e'),by simp[q]⟩;have z:(qi h H).get? b=none:=W.hideAll_none (Ct h H) hm;rw[z]at e;cases e
noncomputable def uG(g h:Heap)(L:Addr):List (Addr×Obj):=(Gm h.objs.size).filterMap fun a=>if a=L\/(g.get? a).isSome=true then none else(h.get? a).map fun o=>(a,o)
noncomputable def rest(g h:Heap)(L d:Addr):List (Addr×Obj):=(uG g h L).filter fun p=>decide (p.1≠d)
structure Mod (K:W.Frag) (mg:Str->Option EX) (base:Heap):Prop where
 kin:K.In base
 glob:base.Ns Gd mg
 blt:∃mb,base.Ns builtinsNs mb/\∀x:Str,x ≠ "__name__" -> mb x=HJ x
 nolimit:base.NoLimit
structure Cx where
 prog:Fo
 w:Gc
 K:W.Frag
 mg:Str->Option EX
 base:Heap
 A:Gh
 N:List Str
 s₀:EZ
 H₀:Hp
 env:Env
 outer:List Env
 stack:List Env
 ex:List Addr
 fn:Str->Bool
 calm:Bool
 pn:List (Addr×Obj)
 xe:EX->EZ->Prop
noncomputable def frs(l:List Env):List Addr:=l.filterMap (·.frame)
abbrev Cx.fs(X:Cx):List Addr:=frs X.outer
noncomputable def DR(sc:Scope)(x:Str):Prop:=sc.names.lookup x=some .local\/sc.names.lookup x=some .cell\/sc.names.lookup x=some .free
noncomputable def Loc(sc:Scope)(x:Str):Prop:=sc.names.lookup x=some .local\/sc.names.lookup x=some .cell
noncomputable def Look(env:Env)(h:Heap)(m:Str->Option EX)(x:Str)(u:EX):Prop :=
 (env.kindOf x=some .local/\m x=some u)\/((env.kindOf x=some .cell\/env.kindOf x=some .free)/\∃c,env.cells.lookup x=some c/\h.IsCell c (some u))
structure Cx.Ok (X:Cx):Prop where
 mod:Mod X.K X.mg X.base
 kind:X.env.scope.kind = .function
 glob:X.env.globals=Gd
 blt:X.env.builtins=builtinsNs
 above:X.s₀.heap.objs.size<=X.env.locals
 inj:∀x y c,X.env.cells.lookup x=some c->X.env.cells.lookup y=some c->x=y
 has:∀x,(X.env.kindOf x=some .cell\/X.env.kindOf x=some .free)->∃c,X.env.cells.lookup x=some c
 cab:∀x c,X.fn x=true->X.env.cells.lookup x=some c->X.s₀.heap.objs.size<=c
 hd:X.calm=true->X.A.handled=none
 frames:X.A.frames=some X.stack
 stk:X.stack=X.outer\/(X.stack=X.env::X.outer/\X.env.frame=some X.env.locals)
 exf:∀b∈X.ex,b≠X.env.locals/\∀x c,X.env.cells.lookup x=some c->c≠b
 bs:∀b o,X.base.get? b=some o->X.s₀.heap.get? b=some o/\X.H₀ b=none
 bsz:X.base.objs.size<=X.s₀.heap.objs.size
 noex:∀b o,X.base.get? b=some o->b∉X.ex
 exfs:∀b∈X.ex,b∉X.fs
 funs:X.s₀.heap.FunFrames X.base X.outer
 frf:∀b∈X.fs,X.H₀ b=none
structure Inv (X:Cx) (pins:List (Addr×Obj)) (σ:List (Option V)) (H:Hp) (s:EZ):Prop where
 ok:X.Ok
 os:s.os=X.s₀.os
 bare:K1 s.gens
 base:Un X.fs X.ex X.H₀ H X.s₀.heap s.heap
 loc:∃m,s.heap.Ns X.env.locals m/\∀(i:Nat)(x:Str)(v:V),X.N[i]?=some x->σ[i]?=some (some v)->DR X.env.scope x->∃u,RelV v u/\Look X.env s.heap m x u
 cell:∀x c,X.env.cells.lookup x=some c->∃v,s.heap.IsCell c v
 free:H X.env.locals=none
 freeC:∀x c,X.env.cells.lookup x=some c->H c=none
 pin:∀p∈X.pn++pins,s.heap.get? p.1=some p.2/\H p.1=none/\p.1≠X.env.locals/\p.1∉X.fs/\∀v,p.2.data ≠ .cell v
 hok:EB X.prog X.w H s.heap
 len:σ.length=X.N.length
section
variable{X:Cx}{pins:List (Addr×Obj)}{σ:List (Option V)}{H H':Hp}{s:EZ}{h':Heap}
theorem Cx.Ok.nofr(ok:X.Ok){o:Obj}(e:X.base.get? b=some o):b∉X.fs:=fun hb=>by
 have:=(ok.funs.mem hb).1;rw[e]at this;cases this
theorem Inv.bs(I:Inv X pins σ H s):∀b o,X.base.get? b=some o->s.heap.get? b=some o/\H b=none:=fun b o e =>
 ⟨I.base.keep b o (I.ok.bs b o e).1 (I.ok.bs b o e).2 (I.ok.nofr e) (I.ok.noex b o e),I.base.free b o (I.ok.bs b o e).1 (I.ok.bs b o e).2 (I.ok.noex b o e)⟩
theorem Inv.bk(I:Inv X pins σ H s):∀b o,X.base.get? b=some o->s.heap.get? b=some o:=fun b o e=>(I.bs b o e).1
theorem Inv.mod(I:Inv X pins σ H s):Mod X.K X.mg X.base:=I.ok.mod
theorem Inv.kIn(I:Inv X pins σ H s):X.K.In s.heap:=I.ok.mod.kin.keeps I.bk
theorem Inv.lt(I:Inv X pins σ H s):X.env.locals<s.heap.objs.size:=let ⟨_,hn,_⟩:=I.loc;hn.lt
theorem Inv.sz(I:Inv X pins σ H s):X.s₀.heap.objs.size<=s.heap.objs.size:=Gk I.ok.above (Lv I.lt)
theorem Inv.nofs(I:Inv X pins σ H s)(h:s.heap.objs.size<=a):a∉X.fs:=fun hb=>by
 obtain⟨_,o,ho,_⟩:=I.ok.funs.mem hb;exact absurd (E6 (E8 ho) (Gk I.sz h)) (GE _)
theorem Inv.cne(I:Inv X pins σ H s):∀x c,X.env.cells.lookup x=some c->c≠X.env.locals:=fun x c e z=>by
 obtain⟨v,o,ho,hd⟩:=I.cell x c e;obtain⟨m,⟨o',es,ep,ho',hd',_⟩,_⟩:=I.loc;rw[z,ho']at ho;cases ho;rw[hd']at hd;cases hd
theorem Inv.funs(I:Inv X pins σ H s):s.heap.FunFrames X.base X.outer:=by
 have all:∀(l:List Env),(∀b∈frs l,b∈X.fs)->X.s₀.heap.FunFrames X.base l->s.heap.FunFrames X.base l:=by
  intro l
  induction l with
  | nil=>intro _ _;trivial
  | cons env r ih =>
    intro hs hl;obtain⟨hk,⟨L,o,hf,hn,ho,hd⟩,hr⟩:=hl;have hL:L∈X.fs:=hs L (by unfold frs;rw[H0,hf];exact E7);obtain⟨sl,e⟩:=I.base.slot L o ho (I.ok.frf L hL) hL fun z=>I.ok.exfs L z hL;exact⟨hk,⟨L,_,hf,hn,e,hd⟩,ih (fun b hb=>hs b (by unfold frs;rw[H0,hf];exact E9 _ hb)) hr⟩
 exact all X.outer (fun _ hb=>hb) I.ok.funs
theorem Inv.stack(I:Inv X pins σ H s):s.heap.FunFrames X.base X.stack:=by
 rcases I.ok.stk with e|⟨e,hf⟩
 · rw[e];exact I.funs
 · rw[e];obtain⟨m,hn,_⟩:=I.loc;refine .cons (by rw[I.ok.kind];decide) hf hn ?_ I.funs;exact Heap.get?_none_of_le (Gk I.ok.bsz I.ok.above)
theorem Inv.stkSub(I:Inv X pins σ H s):∀b∈frs X.stack,b∈X.env.locals::X.fs:=fun b hb=>by
 rcases I.ok.stk with e|⟨e,hf⟩
 · rw[e]at hb;exact E9 _ hb
 · rw[e]at hb;unfold frs at hb;rw[H0,hf]at hb;exact hb
theorem Inv.stkFree(I:Inv X pins σ H s):∀b∈frs X.stack,H b=none:=fun b hb=>by
 rcases FV.mp (I.stkSub b hb)with e|hb
 · rw[e];exact I.free
 · obtain⟨_,o,ho,_⟩:=I.ok.funs.mem hb;exact I.base.free b o ho (I.ok.frf b hb) fun z=>I.ok.exfs b z hb
theorem Inv.step{g':Array GenState}{d':Drawn}{ch:List Addr}(I:Inv X pins σ H s)
 (hch:∀b∈ch,(b∈X.ex\/X.s₀.heap.objs.size<=b)/\b≠X.env.locals/\(∀x c,X.env.cells.lookup x=some c->c≠b)/\∀p∈X.pn++pins,p.1≠b)
 (keep:∀b o,b≠X.env.locals->b∉X.fs->b∉ch->s.heap.get? b=some o->H b=none->h'.get? b=some o)
 (slot:∀b o,b≠X.env.locals->b∈X.fs->b∉ch->s.heap.get? b=some o->H b=none->∃sl,h'.get? b=some {o with slots:=sl})(free:∀b o,b∉ch->s.heap.get? b=some o->H b=none->H' b=none)
 (there:∀b o,b∉ch->s.heap.get? b=some o->∃o',h'.get? b=some o')
 (tups:∀b xs,H b=some (.tup xs)->H' b=some (.tup xs))(frzs:∀b o u,H b=some (.frz o u)->H' b=some (.frz o u))(tbls:∀b ps,H b=some (.tbl ps)->∃more,H' b=some (.tbl (ps++more)))
 (ns:∀m,s.heap.Ns X.env.locals m->h'.Ns X.env.locals m)(hok:EB X.prog X.w H' h')(hg:K1 g') :
 Inv X pins σ H' {s with heap:=h',gens:=g',drawn:=d',toks:=t' }:=by
 have neL:∀b o,X.s₀.heap.get? b=some o->b≠X.env.locals:=fun b o e=>FK (E6 (E8 e) I.ok.above)
 have neC:∀b o,X.s₀.heap.get? b=some o->b∉X.ex->b∉ch:=fun b o e hx hb=>by
  rcases(hch b hb).1 with z|z
  · exact hx z
  · exact absurd (E6 (E8 e) z) (GE _)
 have cellK:∀x c,X.env.cells.lookup x=some c->∀v,s.heap.IsCell c v->h'.IsCell c v:=fun x c e v ⟨o,ho,hd⟩=>by
  have nch:c∉ch:=fun z=>(hch c z).2.2.1 x c e rfl;by_cases hc:c∈X.fs
  · obtain⟨sl,q⟩:=slot c o (I.cne x c e) hc nch ho (I.freeC x c e);exact⟨_,q,hd⟩
  · exact⟨o,keep c o (I.cne x c e) hc nch ho (I.freeC x c e),hd⟩
 refine⟨I.ok,I.os,hg,⟨fun b o e n hb hx=>?_,fun b o e n hb hx=>?_,fun b o e n hx=>?_,fun b o e hx=>?_,fun b xs e=>tups b xs (I.base.tups b xs e),fun b o xs e=>frzs b o xs (I.base.frzs b o xs e),fun b ps e=>?_⟩,?_,fun x c e=>?_,?_,fun x c e=>?_,fun p hp=>?_,hok,I.len⟩
 · exact keep b o (neL b o e) hb (neC b o e hx) (I.base.keep b o e n hb hx) (I.base.free b o e n hx)
 · obtain⟨sl,e1⟩:=I.base.slot b o e n hb hx;obtain⟨sl',e2⟩:=slot b _ (neL b o e) hb (neC b o e hx) e1 (I.base.free b o e n hx);exact⟨sl',e2⟩
 · obtain⟨o',e1⟩:=I.base.there b o e hx;exact free b o' (neC b o e hx) e1 (I.base.free b o e n hx)
 · obtain⟨o',e1⟩:=I.base.there b o e hx;exact there b o' (neC b o e hx) e1
 · obtain⟨m1,e1⟩:=I.base.tbls b ps e;obtain⟨m2,e2⟩:=tbls b _ e1;exact⟨m1++m2,by rw[e2,Array.append_assoc]⟩
 · obtain⟨m,hn,hl⟩:=I.loc;refine⟨m,ns m hn,fun i x v e1 e2 e3=>?_⟩;obtain⟨u,r,l⟩:=hl i x v e1 e2 e3;refine⟨u,r,?_⟩;rcases l with l|⟨k,c,e,z⟩
   · exact .inl l
   · exact .inr ⟨k,c,e,cellK x c e _ z⟩
 · obtain⟨v,z⟩:=I.cell x c e;exact⟨v,cellK x c e v z⟩
 · obtain⟨m,⟨o,_,_,ho,_⟩,_⟩:=I.loc;exact free _ o (fun z=>(hch _ z).2.1 rfl) ho I.free
 · obtain⟨v,o,ho,hd⟩:=I.cell x c e;exact free c o (fun z=>(hch c z).2.2.1 x c e rfl) ho (I.freeC x c e)
 · obtain⟨e,n,ne,nf,d⟩:=I.pin p hp;have nch:p.1∉ch:=fun z=>(hch p.1 z).2.2.2 p hp rfl;exact⟨keep p.1 p.2 ne nf nch e n,free p.1 p.2 nch e n,ne,nf,d⟩
theorem Inv.un(I:Inv X pins σ H s)(u:Un X.fs [] H H' s.heap h')(hok:EB X.prog X.w H' h'):Inv X pins σ H' {s with heap:=h',toks:=t' }:=by
 obtain⟨m,⟨o,es,ep,ho,r⟩,_⟩:=id I.loc;obtain⟨sl,hL⟩:=u.any ho I.free (by simp)
 exact I.step (g':=s.gens) (d':=s.drawn) (ch:=[]) (fun _ z=>nomatch z) (fun b o _ hb _ e n=>u.keep b o e n hb (by simp)) (fun b o _ hb _ e n=>u.slot b o e n hb (by simp)) (fun b o _ e n=>u.free b o e n (by simp)) (fun b o _ e=>u.there b o e (by simp)) u.tups u.frzs u.tbls (fun m' hm=>by
  obtain⟨o',es',ep',ho',r'⟩:=hm;rw[ho]at ho';cases ho'
  exact⟨_,es',ep',hL,r'⟩) hok I.bare
theorem Inv.call{g':Array GenState}{d':Drawn}{ch:List Addr}(I:Inv X pins σ H s)(u:Un (frs X.stack) ch H H' s.heap h')(hok:EB X.prog X.w H' h')(hg:K1 g')
 (hch:∀b∈ch,(b∈X.ex\/X.s₀.heap.objs.size<=b)/\b≠X.env.locals/\(∀x c,X.env.cells.lookup x=some c->c≠b)/\∀p∈X.pn++pins,p.1≠b) :
 Inv X pins σ H' {s with heap:=h',gens:=g',drawn:=d',toks:=t' }:=by
 obtain⟨m,⟨o,es,ep,ho,r⟩,_⟩:=id I.loc;obtain⟨sl,hL⟩:=u.any ho I.free fun z=>(hch _ z).2.1 rfl
 exact I.step (ch:=ch) hch (fun b o hL hb hc e n=>u.keep b o e n (fun z=>(FV.mp (I.stkSub b z)).elim hL hb) hc) (fun b o _ _ hc e n=>u.any e n hc) (fun b o hc e n=>u.free b o e n hc) (fun b o hc e=>u.there b o e hc) u.tups u.frzs u.tbls (fun m' hm=>by
  obtain⟨o',es',ep',ho',r'⟩:=hm;rw[ho]at ho';cases ho'
  exact⟨_,es',ep',hL,r'⟩) hok hg
theorem Inv.turned(I:Inv X pins σ H s)(k:∀b o,b≠it->s.heap.get? b=some o->h'.get? b=some o)(hn:H it=none)(hL:it≠X.env.locals)
 (h1:it∈X.ex\/X.s₀.heap.objs.size<=it)(h2:∀x c,X.env.cells.lookup x=some c->c≠it)(h3:∀p∈X.pn++pins,p.1≠it):Inv X pins σ H {s with heap:=h',toks:=t' }:=by
 have nit:∀b u,H b=some u->b≠it:=fun b u e z=>by rw[z,hn]at e;cases e
 refine I.step (g':=s.gens) (d':=s.drawn) (ch:=[it]) (fun b hb=>?_) (fun b o _ _ hc e _=>k b o (fun z=>hc (by simp[z])) e) (fun b o _ _ hc e _=>⟨o.slots,k b o (fun z=>hc (by simp[z])) e⟩) (fun _ _ _ _ n=>n)
  (fun b o hc e=>⟨o,k b o (fun z=>hc (by simp[z])) e⟩) (fun _ _ e=>e) (fun _ _ _ e=>e) (fun b ps e=>⟨#[],by rw[e];simp⟩) (fun m hm=>?_) (fun b u e=>?_) I.bare
 · have e:b=it:=by simpa using hb
   subst e;exact⟨h1,hL,h2,h3⟩
 · obtain⟨o,es,ep,ho,r⟩:=hm;exact⟨o,es,ep,k _ o (II hL) ho,r⟩
 · refine(I.hok b u e).stay (fun c v hc q=>k c v ?_ q) (fun _ q=>q) fun _ _ q=>q;rcases hc with z|z
   · rw[z];exact nit b u e
   · exact nit c _ z
theorem Inv.tok(I:Inv X pins σ H s)(t:Nat):Inv X pins σ H {s with toks:=t}:=I.un (h':=s.heap) (t':=t) Un.refl I.hok
theorem Inv.kept{t':Nat}(I:Inv X pins σ H s)(k:∀b u,s.heap.get? b=some u->h'.get? b=some u):Inv X pins σ H {s with heap:=h',toks:=t' }:=I.un (Un.kept k) (I.hok.kept k)
theorem Inv.laid{a:Addr}{o:HO}{t':Nat}(I:Inv X pins σ H s)(k:∀b u,s.heap.get? b=some u->h'.get? b=some u)(hp:s.heap.objs.size<=a)(new:cD X.prog X.w (Co H a o) h' a o) :
 Inv X pins σ (Co H a o) {s with heap:=h',toks:=t' }:=I.un (Un.laid k hp (I.hok.fresh hp)) (I.hok.laid k hp new)
theorem Inv.write{x e:Addr}{o:HO}{t':Nat}(I:Inv X pins σ H s)(mu:El (H x))(he:e=x\/H e=some (.own x))(k:∀b u,b≠e->s.heap.get? b=some u->h'.get? b=some u)(heo:∃u,h'.get? e=some u)
 (new:cD X.prog X.w (Co H x o) h' x o):Inv X pins σ (Co H x o) {s with heap:=h',toks:=t' }:=I.un (Un.write mu he k heo) (I.hok.write mu he k heo new)
theorem Inv.pins_of{pins':List (Addr×Obj)}(I:Inv X pins σ H s)(h:∀p∈pins',s.heap.get? p.1=some p.2/\H p.1=none/\p.1≠X.env.locals/\p.1∉X.fs/\∀v,p.2.data ≠ .cell v):Inv X pins' σ H s :=
 ⟨I.ok,I.os,I.bare,I.base,I.loc,I.cell,I.free,I.freeC,fun p hp=>(GG.mp hp).elim (fun z=>I.pin p (IR _ z)) (h p),I.hok,I.len⟩
theorem kK(hN:N.Nodup)(a:N[i]?=some x)(b:N[j]?=some x):i=j:=by
 obtain⟨h1,e1⟩:=Ff.mp a;obtain⟨h2,e2⟩:=Ff.mp b;exact(List.getElem_inj hN).mp (e1.trans e2.symm)
theorem dW{M:Model}{v:V}{u:EX}{Q:Unit->EZ->Prop}(I:Inv X pins σ H s)(hN:X.N.Nodup)(hi:X.N[i]?=some x)(hx:Loc X.env.scope x)(r:RelV v u)
 (h:∀s',Inv X pins (σ.set i (some v)) H s'->(∃a,G7 a s.heap s'.heap/\(a=X.env.locals\/X.env.cells.lookup x=some a))->Q () s')(hf:autoParam (X.fn x=true\/X.env.scope.names.lookup x=some .local) æh._auto_1):Fm M A (storeName X.env x u) Q E s:=by
 obtain⟨m,hn,hl⟩:=id I.loc;have hcls:(X.env.scope.kind == .class||(X.env.scope.kind == .module&&X.env.locals != X.env.globals))=false:=by rw[I.ok.kind];rfl
 have hiσ:i<σ.length:=by rw[I.len];exact(Ff.mp hi).1
 have cne:=I.cne
 have tracked:∀{a:Addr}{h':Heap},(∃o,s.heap.get? a=some o/\H a=none)->G7 a s.heap h'->EB X.prog X.w H h':=fun{a h'} ha hs b ob e=>by
  obtain⟨_,_,hfree⟩:=ha;refine(I.hok b ob e).stay (fun c w' hc q=>(hs.2 c ?_).trans q) (fun _ q=>q) fun _ _ q=>q;rintro rfl;rcases hc with rfl|hc
  · rw[hfree]at e;cases e
  · rw[hfree]at hc;cases hc
 rcases hx with hk|hk
 · refine wpAny_storeName_local hk hn (fun h' hn' hs=>?_) hcls;obtain⟨oL,_,_,hoL,_⟩:=id hn;refine h _ ⟨I.ok,I.os,I.bare,⟨fun b o e n hb hx=>?_,fun b o e n hb hx=>?_,I.base.free,fun b o e hx=>?_,I.base.tups,I.base.frzs,I.base.tbls⟩,⟨_,hn',fun j y v' e1 e2 e3=>?_⟩,fun y c e=>?_,I.free,I.freeC,fun p hp=>?_,tracked ⟨oL,hoL,I.free⟩ hs,by simpa using I.len⟩ ⟨_,hs,.inl rfl⟩
   · exact(hs.2 b (FK (E6 (E8 e) I.ok.above))).trans (I.base.keep b o e n hb hx)
   · obtain⟨sl,e1⟩:=I.base.slot b o e n hb hx;exact⟨sl,(hs.2 b (FK (E6 (E8 e) I.ok.above))).trans e1⟩
   · obtain⟨o',e1⟩:=I.base.there b o e hx;exact⟨o',(hs.2 b (FK (E6 (E8 e) I.ok.above))).trans e1⟩
   · by_cases hj:j=i
     · subst hj;rw[hi]at e1;cases e1;rw[Fj hiσ]at e2;cases e2;exact⟨u,r,.inl ⟨hk,by simp⟩⟩
     · rw[E_ (II hj)]at e2;obtain⟨u',r',q⟩:=hl j y v' e1 e2 e3;refine⟨u',r',?_⟩;rcases q with⟨k,e⟩|⟨k,c,e,z⟩
       · refine .inl ⟨k,?_⟩;have:y≠x:=fun e=>hj (kK hN e1 (e▸hi));simp[this,e]
       · exact .inr ⟨k,c,e,z.sameBut hs (cne y c e)⟩
   · obtain⟨w',z⟩:=I.cell y c e;exact⟨w',z.sameBut hs (cne y c e)⟩
   · obtain⟨e,n,ne,nf,d⟩:=I.pin p hp;exact⟨(hs.2 p.1 ne).trans e,n,ne,nf,d⟩
 · have hfn:X.fn x=true:=by
     rcases hf with z|z
     · exact z
     · rw[z]at hk;cases hk
   obtain⟨c,hc⟩:=I.ok.has x (.inl hk);obtain⟨w',z⟩:=I.cell x c hc;refine wpAny_storeName_cell I.ok.kind hk hc z (fun h' hc' hs=>?_);obtain⟨oc,hoc,hocd⟩:=id z;refine h {s with heap:=h' } ⟨I.ok,I.os,I.bare,⟨fun b o e n hb hx=>?_,fun b o e n hb hx=>?_,I.base.free,fun b o e hx=>?_,I.base.tups,I.base.frzs,I.base.tbls⟩,⟨m,hn.sameBut hs (II (cne x c hc)),fun j y v' e1 e2 e3=>?_⟩,fun y c' e=>?_,I.free,I.freeC,fun p hp=>?_,tracked ⟨oc,hoc,I.freeC x c hc⟩ hs,by simpa using I.len⟩ ⟨c,hs,.inr hc⟩
   · exact(hs.2 b (FK (E6 (E8 e) (I.ok.cab x c hfn hc)))).trans (I.base.keep b o e n hb hx)
   · obtain⟨sl,e1⟩:=I.base.slot b o e n hb hx;exact⟨sl,(hs.2 b (FK (E6 (E8 e) (I.ok.cab x c hfn hc)))).trans e1⟩
   · obtain⟨o',e1⟩:=I.base.there b o e hx;exact⟨o',(hs.2 b (FK (E6 (E8 e) (I.ok.cab x c hfn hc)))).trans e1⟩
   · by_cases hj:j=i
     · subst hj;rw[hi]at e1;cases e1;rw[Fj hiσ]at e2;cases e2;exact⟨u,r,.inr ⟨.inl hk,c,hc,hc'⟩⟩
     · rw[E_ (II hj)]at e2;obtain⟨u',r',q⟩:=hl j y v' e1 e2 e3;refine⟨u',r',?_⟩;rcases q with q|⟨k,c',e,z'⟩
       · exact .inl q
       · refine .inr ⟨k,c',e,z'.sameBut hs ?_⟩;rintro rfl;exact hj (kK hN e1 (I.ok.inj _ _ _ e hc▸hi))
   · by_cases hcc:c'=c
     · subst hcc;exact⟨_,hc'⟩
     · obtain⟨w2,z2⟩:=I.cell y c' e;exact⟨w2,z2.sameBut hs hcc⟩
   · obtain⟨e,n,ne,nf,d⟩:=I.pin p hp;refine⟨(hs.2 p.1 ?_).trans e,n,ne,nf,d⟩;intro q;rw[q,hoc]at e;have q':oc=p.2:=FO e;exact d w' (by rw[<- q'];exact hocd)
theorem dX{M:Model}{v:V}{u:EX}{Q:Unit->EZ->Prop}(I:Inv X pins σ H s)(hN:X.N.Nodup)(hi:X.N[i]?=some x)(hx:Loc X.env.scope x)(r:RelV v u)
 (h:∀s',Inv X pins (σ.set i (some v)) H s'->Q () s')(hf:autoParam (X.fn x=true\/X.env.scope.names.lookup x=some .local) æh._auto_1):Fm M A (storeName X.env x u) Q E s :=
 dW I hN hi hx r (fun s' I' _=>h s' I') hf
end
abbrev XK:=EX->Option Addr->Hp->Prop
abbrev St:=List (Option V)
abbrev VK:=V->Hp->Prop
abbrev TE:=St->Hp->VK->Prop
abbrev TT:=St->Hp->(Bool->Hp->Prop)->Prop
abbrev TA:=St->Hp->(List V->Hp->Prop)->Prop
structure Ends where
 nx:St->Hp->Prop
 rt:VK
 bk:St->Hp->Prop:=fun _ _=>False
 ct:St->Hp->Prop:=fun _ _=>False
abbrev TS:=Ends->St->Hp->Prop
noncomputable def EP(X:Cx)(pins:List (Addr×Obj))(σ:St)(Q:VK)(u:EX)(s':EZ):Prop:=∃v H',Inv X pins σ H' s'/\RelV v u/\Q v H'
noncomputable def TP(X:Cx)(pins:List (Addr×Obj))(σ:St)(Q:Bool->Hp->Prop)(b:Bool)(s':EZ):Prop:=∃H',Inv X pins σ H' s'/\Q b H'
noncomputable def AP(X:Cx)(pins:List (Addr×Obj))(σ:St)(Q:List V->Hp->Prop)(us:List EX)(s':EZ):Prop:=∃vs H',Inv X pins σ H' s'/\cE vs us/\Q vs H'
noncomputable def SP(X:Cx)(pins:List (Addr×Obj))(D:Ends)(f:Flow)(s':EZ):Prop :=
 match f with
 | .next=>∃σ' H',Inv X pins σ' H' s'/\D.nx σ' H'
 | .brk=>∃σ' H',Inv X pins σ' H' s'/\D.bk σ' H'
 | .cont=>∃σ' H',Inv X pins σ' H' s'/\D.ct σ' H'
 | .ret u=>∃v σ' H',Inv X pins σ' H' s'/\RelV v u/\D.rt v H'
noncomputable def PE(X:Cx)(e:Expr)(t:TE):Prop :=
 ∀(pins:List (Addr×Obj))(s:EZ)(σ:St)(H:Hp)(Q:VK),Inv X pins σ H s->t σ H Q->Fm (FA X.prog X.w) X.A (eval e X.env) (EP X pins σ Q) X.xe s
noncomputable def PT(X:Cx)(e:Expr)(t:TT):Prop :=
 ∀(pins:List (Addr×Obj))(s:EZ)(σ:St)(H:Hp)(Q:Bool->Hp->Prop),Inv X pins σ H s->t σ H Q->Fm (FA X.prog X.w) X.A (isTrue e X.env (eval e X.env)) (TP X pins σ Q) X.xe s
noncomputable def PW(X:Cx)(e:Expr)(t:TT):Prop :=
 ∀(whole:Sem EX)(pins:List (Addr×Obj))(s:EZ)(σ:St)(H:Hp)(Q:Bool->Hp->Prop),Inv X pins σ H s->t σ H Q->Fm (FA X.prog X.w) X.A (isTrue e X.env whole) (TP X pins σ Q) X.xe s
theorem PW.pt{X:Cx}{e:Expr}{t:TT}(h:PW X e t):PT X e t:=h _
noncomputable def PA(X:Cx)(es:List Expr)(t:TA):Prop :=
 ∀(pos:Pos)(pins:List (Addr×Obj))(s:EZ)(σ:St)(H:Hp)(Q:List V->Hp->Prop),Inv X pins σ H s->t σ H Q->Fm (FA X.prog X.w) X.A (spliced (GP pos (E4 es X.env))) (AP X pins σ Q) X.xe s
noncomputable def PS(X:Cx)(st:Stmt)(t:TS):Prop :=
 ∀(pins:List (Addr×Obj))(s:EZ)(σ:St)(H:Hp)(D:Ends),Inv X pins σ H s->t D σ H->Fm (FA X.prog X.w) X.A (exec st X.env) (SP X pins D) X.xe s
noncomputable def Eb(X:Cx)(st:List Stmt)(t:TS):Prop :=
 ∀(pins:List (Addr×Obj))(s:EZ)(σ:St)(H:Hp)(D:Ends),Inv X pins σ H s->t D σ H->Fm (FA X.prog X.w) X.A (execs st X.env) (SP X pins D) X.xe s
theorem Cy{t:Sem α}{Q Q':α->EZ->Prop}{M:Model}(h:Fm M A t Q E s)(hQ:∀a s,Q a s->Q' a s):Fm M A t Q' E s:=FH h hQ fun _ _ x=>x
section
variable{X:Cx}
noncomputable def AJ(i:Nat):TE:=fun σ H Q=>∃v,σ[i]?=some (some v)/\Q v H
noncomputable def tC(v:V):TE:=fun _ H Q=>Q v H
theorem cH(hN:X.N[i]?=some x)(hv:DR X.env.scope x)(hd:autoParam ((x==("__debug__" : Str))=false) æb._auto_1)(hcd:autoParam ((x==("__classdict__" : Str))=false) æb._auto_1):PE X (.Name x pos) (AJ i):=by
 intro pins s σ H Q I h;obtain⟨v,e,h⟩:=h;obtain⟨m,hn,hl⟩:=I.loc;obtain⟨u,r,l⟩:=hl i x v hN e hv;have fin:EP X pins σ Q u s:=⟨v,H,I,r,h⟩;rcases l with⟨hk,hm⟩|⟨hk,c,hc,hcell⟩
 · exact wpAny_Name (KM I.ok.kind hk hn hm fin) hd
 · rcases hk with hk|hk
   · exact wpAny_Name (K3 I.ok.kind hk hc hcell fin) hd
   · exact wpAny_Name (wpAny_loadName_free I.ok.kind hk hc hcell fin hcd) hd
theorem i9{i j pos}:PE X (.Constant (.int i) j pos) (tC (.int i)):=fun _ _ _ H _ I h=>wpAny_Constant_int ⟨.int i,H,I.tok _,⟨_,rfl⟩,h⟩
theorem y8{b j pos}:PE X (.Constant (.bool b) j pos) (tC (.bl b)):=fun _ _ _ H _ I h=>Constant_bool ⟨.bl b,H,I,rfl,h⟩
theorem d8{x j pos}:PE X (.Constant (.str x) j pos) (tC (.str x)):=fun _ _ _ H _ I h=>Calls.Constant_str ⟨.str x,H,I.tok _,⟨_,rfl⟩,h⟩
noncomputable def Gl(X:Cx)(x:Str):Prop:=X.env.kindOf x=some .globalImplicit
theorem nQ{σ:St}{H:Hp}{u:EX}(I:Inv X pins σ H s)(hg:Gl X x)(hm:X.mg x=some u)(h:Q u s)
 (hd:autoParam ((x==("__debug__" : Str))=false) æb._auto_1):Fm (FA X.prog X.w) X.A (eval (.Name x pos) X.env) Q E s :=
 Jk I.ok.kind hg (Calls.loadGlobal_global (by rw[I.ok.glob];exact I.mod.glob.keeps I.bk) hm h) hd
theorem f_{σ:St}{H:Hp}{u:EX}(I:Inv X pins σ H s)(hg:Gl X x)(hm:X.mg x=none)(hv:HJ x=some u)(h:Q u s)
 (hn:autoParam (x ≠ "__name__") æb._auto_1)(hd:autoParam ((x==("__debug__" : Str))=false) æb._auto_1):Fm (FA X.prog X.w) X.A (eval (.Name x pos) X.env) Q E s:=by
 obtain⟨mb,h1,h2⟩:=I.mod.blt;exact Jk I.ok.kind hg (Calls.loadGlobal_builtin (by rw[I.ok.glob];exact I.mod.glob.keeps I.bk) hm (by rw[I.ok.blt];exact h1.keeps I.bk) ((h2 x hn).trans hv) h) hd
theorem tO{v:V}{u:EX}(hg:Gl X x)(hm:X.mg x=some u)(r:RelV v u)(hd:autoParam ((x==("__debug__" : Str))=false) æb._auto_1):PE X (.Name x pos) (tC v) :=
 fun _ _ _ H _ I h=>nQ I hg hm ⟨v,H,I,r,h⟩ hd
variable{a b:Expr}{ta tb:TE}{pos:Pos}
noncomputable def tB(t:TE):TT:=fun σ H Q=>t σ H fun x H1=>∃c,x = .bl c/\Q c H1
theorem wq{e:Expr}{t:TE}(h:PE X e t)(he:autoParam (∀whole,isTrue e X.env whole=(do let v <- whole;Kk e.pos;Kl [v] (truthy v))) æd._auto_1):PT X e (tB t):=by
 intro pins s σ H Q I hw;refine isTrue_plain (Cy (h pins s σ H _ I hw) fun v s1 ⟨x,H1,I1,r1,q1⟩=>?_) (he _);obtain⟨d,rfl,q⟩:=q1;cases r1;exact Hn ⟨H1,I1,q⟩
variable{tA tB':TT}{rest:List Expr}
noncomputable def Bt(t u:TT):TT:=fun σ H Q=>t σ H fun c H1=>if c=true then u σ H1 Q else Q false H1
noncomputable def CD(t u:TT):TT:=fun σ H Q=>t σ H fun c H1=>if c=true then Q true H1 else u σ H1 Q
theorem nj(ha:PT X a tA):PW X (.BoolOp .And [a] pos) tA:=by
 intro wh pins s σ H Q I h;refine isTrue_and (Cy (ha pins s σ H Q I h) fun c s1 e=>?_)
 cases c with
 | true=>exact isTrue_and_nil e
 | false=>exact e
theorem qW(ha:PT X a tA):PW X (.BoolOp .Or [a] pos) tA:=by
 intro wh pins s σ H Q I h;refine isTrue_or (Cy (ha pins s σ H Q I h) fun c s1 e=>?_)
 cases c with
 | false=>exact isTrue_or_nil e
 | true=>exact e
theorem qX(ha:PT X a tA)(hb:PW X (.BoolOp .And (b::rest) pos) tB'):PW X (.BoolOp .And (a::b::rest) pos) (Bt tA tB'):=by
 intro wh pins s σ H Q I h;refine isTrue_and (Cy (ha pins s σ H _ I h) fun c s1 ⟨H1,I1,q1⟩=>?_)
 cases c with
 | true=>exact hb wh pins s1 σ H1 Q I1 q1
 | false=>exact⟨H1,I1,q1⟩
theorem wp(ha:PT X a tA)(hb:PW X (.BoolOp .Or (b::rest) pos) tB'):PW X (.BoolOp .Or (a::b::rest) pos) (CD tA tB'):=by
 intro wh pins s σ H Q I h;refine isTrue_or (Cy (ha pins s σ H _ I h) fun c s1 ⟨H1,I1,q1⟩=>?_)
 cases c with
 | true=>exact⟨H1,I1,q1⟩
 | false=>exact hb wh pins s1 σ H1 Q I1 q1
noncomputable def yO(ta tb:TE):TE:=fun σ H Q=>ta σ H fun x H1=>∃c,x = .bl c/\if c=true then tb σ H1 Q else Q (.bl false) H1
noncomputable def Bm(ta tb:TE):TE:=fun σ H Q=>ta σ H fun x H1=>∃c,x = .bl c/\if c=true then Q (.bl true) H1 else tb σ H1 Q
noncomputable def yI(ta:TE):TE:=fun σ H Q=>ta σ H fun x H1=>∃c,x = .bl c/\Q (.bl (!c)) H1
theorem wF{op}{t:TE}(h:PE X a t):PE X (.BoolOp op [a] pos) t:=fun pins s σ H Q I hw=>BoolOp_one (h pins s σ H Q I hw)
theorem wK(ha:PE X a ta)(hb:PE X (.BoolOp .And (b::rest) pos) tb):PE X (.BoolOp .And (a::b::rest) pos) (yO ta tb):=by
 intro pins s σ H Q I h;refine BoolOp_and (Cy (ha pins s σ H _ I h) fun v s1 ⟨x,H1,I1,r1,q1⟩=>?_);obtain⟨c,rfl,q1⟩:=q1;cases r1;refine Hn ?_
 cases c with
 | true=>exact hb pins s1 σ H1 Q I1 q1
 | false=>exact⟨.bl false,H1,I1,rfl,q1⟩
theorem y7(ha:PE X a ta)(hb:PE X (.BoolOp .Or (b::rest) pos) tb):PE X (.BoolOp .Or (a::b::rest) pos) (Bm ta tb):=by
 intro pins s σ H Q I h;refine BoolOp_or (Cy (ha pins s σ H _ I h) fun v s1 ⟨x,H1,I1,r1,q1⟩=>?_);obtain⟨c,rfl,q1⟩:=q1;cases r1;refine Hn ?_
 cases c with
 | false=>exact hb pins s1 σ H1 Q I1 q1
 | true=>exact⟨.bl true,H1,I1,rfl,q1⟩
theorem wG(ha:PE X a ta):PE X (.UnaryOp .Not a pos) (yI ta):=by
 intro pins s σ H Q I h;refine UnaryOp_ (Cy (ha pins s σ H _ I h) fun v s1 ⟨x,H1,I1,r1,q1⟩=>?_);obtain⟨c,rfl,q1⟩:=q1;cases r1;exact not_of (Hn ⟨.bl (!c),H1,I1,rfl,q1⟩)
noncomputable def CH(t:TT)(ta tb:TE):TE:=fun σ H Q=>t σ H fun c H1=>if c=true then ta σ H1 Q else tb σ H1 Q
theorem pV{c:Expr}(hc:PT X c tA)(ha:PE X a ta)(hb:PE X b tb):PE X (.IfExp c a b pos) (CH tA ta tb):=by
 intro pins s σ H Q I h;refine wpAny_IfExp (Cy (hc pins s σ H _ I h) fun d s1 ⟨H1,I1,q1⟩=>?_)
 cases d with
 | true=>exact ha pins s1 σ H1 Q I1 q1
 | false=>exact hb pins s1 σ H1 Q I1 q1
end
noncomputable def D1(K:W.Frag)(H:Hp)(a:Addr)(xs:List V):Prop :=
 Rd H a (.lst xs) \/
  ∃(o:Obj)(its:Array EX)(n:Nat),K.lookup a=some o/\o.cls = .type "list" /\ o.dict=none/\o.data = .seq its n/\its.size<=sizeLine/\cE xs its.toList
noncomputable def D0(K:W.Frag)(H:Hp)(a:Addr)(xs:List V):Prop :=
 Rd H a (.tup xs) \/
  ∃(o:Obj)(its:Array EX)(n:Nat),K.lookup a=some o/\o.cls = .type "tuple" /\ o.data = .seq its n/\its.size<=sizeLine/\cE xs its.toList/\o.dict=none
noncomputable def BO:EX->Option V
 | .none=>some .non
 | .bool b=>some (.bl b)
 | .int i _=>some (.int i)
 | .str x _=>some (.str x)
 | .bytes b _=>some (.byt b)
 | .float b _=>some (.flt b)
 | .ref a=>some (.ref a)
 | .type n=>some (.ty n)
 | _=>none
theorem RelV.abs{x:V}{u:EX}(r:RelV x u):BO u=some x:=by
 cases x with
 | non=>cases r;rfl
 | bl _=>cases r;rfl
 | int _=>obtain⟨t,rfl⟩:=r;rfl
 | str _=>obtain⟨t,rfl⟩:=r;rfl
 | byt _=>obtain⟨t,rfl⟩:=r;rfl
 | flt _=>obtain⟨t,rfl⟩:=r;rfl
 | ref _=>cases r;rfl
 | ty _=>cases r;rfl
theorem RelV.inj{x y:V}{u:EX}(r:RelV x u)(q:RelV y u):x=y:=FO (r.abs.symm.trans q.abs)
theorem cE.inj:∀{xs ys:List V}{us:List EX},cE xs us->cE ys us->xs=ys
 | _,_,_,.nil,.nil=>rfl
 | _,_,_,.cons r t,.cons r' t'=>by rw[r.inj r',cE.inj t t']
section
variable{X:Cx}{pins:List (Addr×Obj)}{σ:St}{H:Hp}{s:EZ}{a:Addr}{xs ys:List V}
theorem Inv.list(I:Inv X pins σ H s)(h:D1 X.K H a xs):∃its:List EX,cE xs its/\PlainL s.heap a its.toArray/\xs.length<=sizeLine:=by
 rcases h with h|⟨o,its,n,hk,hc,hd,hs,hz,r⟩
 · obtain⟨z,its,n,r,e⟩:=h.ok I.hok;exact⟨its,r,⟨_,n,e,rfl,rfl,rfl⟩,z⟩
 · refine⟨its.toList,r,⟨o,n,I.kIn a o hk,hc,hd,by simpa using hs⟩,?_⟩;have e:=r.length;simp only[Hv]at e;omega
theorem Inv.tuple(I:Inv X pins σ H s)(h:D0 X.K H a xs):∃its:List EX,cE xs its/\LG s.heap a its.toArray/\xs.length<=sizeLine:=by
 rcases h with h|⟨o,its,n,hk,hc,hs,hz,r,hd⟩
 · obtain⟨z,its,r,p⟩:=h.ok I.hok;exact⟨its,r,p.tup,z⟩
 · refine⟨its.toList,r,⟨o,I.kIn a o hk,hc,n,by simpa using hs⟩,?_⟩;have e:=r.length;simp only[Hv]at e;omega
theorem Inv.list_inj(I:Inv X pins σ H s)(h:D1 X.K H a xs)(h':D1 X.K H a ys):xs=ys:=by
 obtain⟨its,r,⟨o,n,e,_,_,d⟩,_⟩:=I.list h;obtain⟨its',r',⟨o',n',e',_,_,d'⟩,_⟩:=I.list h';rw[e]at e';cases e';rw[d]at d'
 injection d' with d1 _
 have:its=its':=by simpa using congrArg Array.toList d1
 subst this;exact r.inj r'
theorem Inv.tupleD(I:Inv X pins σ H s)(h:D0 X.K H a xs):∃ob,s.heap.get? a=some ob/\ob.cls = .type "tuple" /\ ob.dict=none:=by
 rcases h with h|⟨o,its,n,hk,hc,hs,hz,r,hd⟩
 · obtain⟨z,its,r,⟨o,e1,e2,_,e3⟩⟩:=h.ok I.hok;exact⟨o,e1,e2,e3⟩
 · exact⟨o,I.kIn a o hk,hc,hd⟩
theorem Inv.tuple_inj(I:Inv X pins σ H s)(h:D0 X.K H a xs)(h':D0 X.K H a ys):xs=ys:=by
 obtain⟨its,r,⟨o,e,_,n,d⟩,_⟩:=I.tuple h;obtain⟨its',r',⟨o',e',_,n',d'⟩,_⟩:=I.tuple h';rw[e]at e';cases e';rw[d]at d'
 injection d' with d1 _
 have:its=its':=by simpa using congrArg Array.toList d1
 subst this;exact r.inj r'
end
abbrev Cx.wish(X:Cx)(E:EX->EZ->Prop):Cx:={X with xe:=E}
abbrev Cx.nox(X:Cx):Cx:=X.wish fun _ _=>False
theorem Cx.Ok.wish{X:Cx}(ok:X.Ok)(E:EX->EZ->Prop):(X.wish E).Ok :=
 ⟨ok.mod,ok.kind,ok.glob,ok.blt,ok.above,ok.inj,ok.has,ok.cab,ok.hd,ok.frames,ok.stk,ok.exf,ok.bs,ok.bsz,ok.noex,ok.exfs,ok.funs,ok.frf⟩
theorem Cx.Ok.unwish{X:Cx}(ok:(X.wish E).Ok):X.Ok :=
 ⟨ok.mod,ok.kind,ok.glob,ok.blt,ok.above,ok.inj,ok.has,ok.cab,ok.hd,ok.frames,ok.stk,ok.exf,ok.bs,ok.bsz,ok.noex,ok.exfs,ok.funs,ok.frf⟩
section
variable{X:Cx}{pins:List (Addr×Obj)}{σ:St}{H:Hp}{s:EZ}{E:EX->EZ->Prop}
theorem Inv.wish(I:Inv X pins σ H s)(E:EX->EZ->Prop):Inv (X.wish E) pins σ H s:=⟨I.ok.wish E,I.os,I.bare,I.base,I.loc,I.cell,I.free,I.freeC,I.pin,I.hok,I.len⟩
theorem Inv.unwish(I:Inv (X.wish E) pins σ H s):Inv X pins σ H s:=⟨I.ok.unwish,I.os,I.bare,I.base,I.loc,I.cell,I.free,I.freeC,I.pin,I.hok,I.len⟩
theorem SP.unwish{D:Ends}{f:Flow}{s':EZ}(h:SP (X.wish E) pins D f s'):SP X pins D f s':=by
 cases f with
 | next=>obtain⟨σ',H',I,q⟩:=h;exact⟨σ',H',I.unwish,q⟩
 | brk=>obtain⟨σ',H',I,q⟩:=h;exact⟨σ',H',I.unwish,q⟩
 | cont=>obtain⟨σ',H',I,q⟩:=h;exact⟨σ',H',I.unwish,q⟩
 | ret u=>obtain⟨v,σ',H',I,r,q⟩:=h;exact⟨v,σ',H',I.unwish,r,q⟩
theorem Eb.nox{st:List Stmt}{t:TS}(h:Eb X.nox st t):Eb X st t:=fun pins s σ H D I hw =>
 FH (h pins s σ H D (I.wish _) hw) (fun _ _ q=>q.unwish) fun _ _ z=>Gx z
end
section
variable{X:Cx}{st:Stmt}{rest:List Stmt}{t u:TS}{e:Expr}{te:TE}{pos:Pos}
noncomputable def yJ:TS:=fun D σ H=>D.nx σ H
noncomputable def Bi(t u:TS):TS:=fun D σ H=>t {D with nx:=u D} σ H
theorem tq:Eb X [] yJ:=fun _ _ σ H _ I h=>I_ ⟨σ,H,I,h⟩
theorem d7(h1:PS X st t)(h2:Eb X rest u):Eb X (st::rest) (Bi t u):=by
 intro pins s σ H D I h;refine wpAny_execs_cons (Cy (h1 pins s σ H {D with nx:=u D} I h) fun f s1 q=>?_)
 cases f with
 | next =>
   obtain⟨σ',H',I',q⟩:=q
   exact h2 pins s1 σ' H' D I' q
 | ret v=>exact q
 | brk=>exact q
 | cont=>exact q
theorem jI(h1:PS X st t):Eb X [st] t:=by
 intro pins s σ H D I h;refine wpAny_execs_cons (Cy (h1 pins s σ H D I h) fun f s1 q=>?_)
 cases f with
 | next=>exact I_ q
 | ret v=>exact q
 | brk=>exact q
 | cont=>exact q
theorem Inv.quiet{σ:St}{H:Hp}(I:Inv X pins σ H s):interactive X.env=false:=by simp[interactive,I.ok.kind]
noncomputable def yK(te:TE):TS:=fun D σ H=>te σ H fun _ H1=>D.nx σ H1
theorem nw(he:PE X e te)(hs:autoParam (GH e none pos.line X.env=pure false) æa._auto_1):PS X (.Expr e pos) (yK te):=by
 intro pins s σ H D I h;exact wpAny_Expr_any (Cy (he pins s σ H _ I h) fun v s1 ⟨x,H1,I1,r1,q1⟩=>⟨σ,H1,I1,q1⟩) I.quiet hs
noncomputable def Bk(te:TE):TS:=fun D σ H=>te σ H D.rt
theorem nv(he:PE X e te):PS X (.Return (some e) pos) (Bk te):=by
 intro pins s σ H D I h;exact wpAny_Return_some (Cy (he pins s σ H _ I h) fun v s1 ⟨x,H1,I1,r1,q1⟩=>⟨x,σ,H1,I1,r1,q1⟩)
noncomputable def Bq(c:TT)(t u:TS):TS:=fun D σ H=>c σ H fun b H1=>if b=true then t D σ H1 else u D σ H1
theorem wu{c:Expr}{a b:List Stmt}{tc:TT}(hc:PT X c tc)(ha:Eb X a t)(hb:Eb X b u):PS X (.If c a b pos) (Bq tc t u):=by
 intro pins s σ H D I h;refine wpAny_If (Cy (hc pins s σ H _ I h) fun d s1 ⟨H1,I1,q1⟩=>?_)
 cases d with
 | true=>exact ha pins s1 σ H1 D I1 q1
 | false=>exact hb pins s1 σ H1 D I1 q1
noncomputable def vN:TS:=fun _ _ _=>False
theorem pP:PS X st vN:=fun _ _ _ _ _ _ h=>h.elim
end
abbrev TG:=V->St->Hp->(St->Hp->Prop)->Prop
abbrev DZ:=List V->St->Hp->(St->Hp->Prop)->Prop
noncomputable def PG(X:Cx)(target:Expr)(t:TG):Prop :=
 ∀ (pins:List (Addr×Obj))(s:EZ)(σ:St)(H:Hp)(v:V)(u:EX)(Q:St->Hp->Prop),Inv X pins σ H s->RelV v u->t v σ H Q ->
   Fm (FA X.prog X.w) X.A (HF target X.env u) (fun _ s'=>∃σ' H',Inv X pins σ' H' s'/\Q σ' H') X.xe s
noncomputable def Eh(X:Cx)(ts:List Expr)(t:DZ):Prop :=
 ∀ (pins:List (Addr×Obj))(s:EZ)(σ:St)(H:Hp)(vs:List V)(us:List EX)(Q:St->Hp->Prop),Inv X pins σ H s->cE vs us->t vs σ H Q ->
   Fm (FA X.prog X.w) X.A (Lb ((HC ts X.env).map (·.2)) us) (fun _ s'=>∃σ' H',Inv X pins σ' H' s'/\Q σ' H') X.xe s
abbrev zH:=V->V->V->Hp->(Hp->Prop)->Prop
noncomputable def A6(X:Cx)(t:zH):Prop :=
 ∀ (pins:List (Addr×Obj))(s:EZ)(σ:St)(H:Hp)(o i v:V)(ov iv u:EX)(Q:Hp->Prop),Inv X pins σ H s->RelV o ov->RelV i iv->RelV v u->t o i v H Q ->
   Fm (FA X.prog X.w) X.A (setItem ov iv u) (fun _ s'=>∃H',Inv X pins σ H' s'/\Q H') X.xe s
abbrev DX:=V->V->Hp->VK->Prop
noncomputable def Ee(X:Cx)(op:Lc)(t:DX):Prop :=
 ∀ (pins:List (Addr×Obj))(s:EZ)(σ:St)(H:Hp)(x y:V)(v u:EX)(Q:VK),Inv X pins σ H s->RelV x v->RelV y u->t x y H Q ->
   Fm (FA X.prog X.w) X.A (inplaceOp op v u) (EP X pins σ Q) X.xe s
section
variable{X:Cx}{pos:Pos}
noncomputable def iB(i:Nat):TG:=fun v σ H Q=>Q (σ.set i (some v)) H
theorem tK(hN:X.N.Nodup)(hi:X.N[i]?=some x)(hx:Loc X.env.scope x)(hf:autoParam (X.fn x=true\/X.env.scope.names.lookup x=some .local) æh._auto_1):PG X (.Name x pos) (iB i):=by
 intro pins s σ H v u Q I r h;exact Is (dX I hN hi hx r (fun s' I'=>⟨_,H,I',h⟩) hf)
noncomputable def BJ:DZ:=fun vs σ H Q=>vs=[]/\Q σ H
noncomputable def zq(t:TG)(u:DZ):DZ:=fun vs σ H Q=>∃v r,vs=v::r/\t v σ H fun σ' H'=>u r σ' H' Q
theorem tJ:Eh X [] BJ:=by
 intro pins s σ H vs us Q I r h;obtain⟨e,h⟩:=h;subst e;cases r;exact assignInOrder_nil ⟨σ,H,I,h⟩
theorem pU{e:Expr}{es:List Expr}{t:TG}{u:DZ}(h1:PG X e t)(h2:Eh X es u)
 (hs:autoParam ((HC (e::es) X.env).map (·.2)=HF e X.env::(HC es X.env).map (·.2)) æa._auto_1):Eh X (e::es) (zq t u):=by
 intro pins s σ H vs us Q I r h;obtain⟨v,vr,e1,h⟩:=h;subst e1
 cases r with
 | cons r rr =>
   rw[hs];refine Jn (Cy (h1 pins s σ H _ _ _ I r h) fun _ s1 ⟨σ1,H1,I1,q1⟩=>?_);exact h2 pins s1 σ1 H1 _ _ Q I1 rr q1
noncomputable def BH(K:W.Frag)(n:Nat)(t:DZ):TG:=fun v σ H Q=>∃a xs,v = .ref a/\D0 K H a xs/\xs.length=n/\t xs σ H Q
theorem wB{es:List Expr}{k:Nat}{t:DZ}(hc:X.calm=true)(h:Eh X es t)
 (hn:autoParam ((HC es X.env).length=n) æa._auto_1)(hst:autoParam ((HC es X.env).findIdx? (·.1)=none) æa._auto_1):PG X (.Tuple es k pos) (BH X.K n t):=by
 intro pins s σ H v u Q I r hw;obtain⟨a,xs,e1,hq,hl,hw⟩:=hw;subst e1;cases r;obtain⟨its,rv,ht,hz⟩:=I.tuple hq;refine assign_Tuple_tuple (I.ok.hd hc) ht (by simp[hn,<- hl,rv.length]) hst fun h' hx=>?_;have I1:Inv X pins σ H {s with heap:=h' }:=I.kept (t':=s.toks) fun b o e=>hx b o (FK (E8 e)) e;exact h pins _ σ H xs _ Q I1 (by simpa using rv) hw
noncomputable def BI(to ti:TE)(t:zH):TG:=fun v σ H Q=>to σ H fun o H1=>ti σ H1 fun i H2=>t o i v H2 fun H3=>Q σ H3
theorem wC{o i:Expr}{to ti:TE}{t:zH}(ho:PE X o to)(hi:PE X i ti)(hs:A6 X t)
 (ha:autoParam (∀v,HF (.Subscript o i pos) X.env v=(do
  let ov <- Kl [v] (eval o X.env)
  let iv <- Kl [v,ov] (eval i X.env)
  Kk pos
  Kl [v,ov,iv] (setItem ov iv v)
  release [v,ov,iv] [])) æd._auto_1):PG X (.Subscript o i pos) (BI to ti t):=by
 intro pins s σ H v u Q I r h;rw[ha];refine EU (G5 (Cy (ho pins s σ H _ I h) fun ov s1 ⟨x,H1,I1,r1,q1⟩=>?_));refine EU (G5 (Cy (hi pins s1 σ H1 _ I1 q1) fun iv s2 ⟨y,H2,I2,r2,q2⟩=>?_));refine EU (GJ (EU (G5 (Cy (hs pins s2 σ H2 x y v ov iv u _ I2 r1 r2 r q2) fun _ s3 ⟨H3,I3,q3⟩=>?_))));exact wpAny_release ⟨σ,H3,I3,q3⟩
noncomputable def vQ(te:TE)(g:TG):TS:=fun D σ H=>te σ H fun x H1=>g x σ H1 D.nx
theorem ww{e:Expr}{te:TE}{g:TG}(he:PE X e te)(hg:PG X tg g)(hs:autoParam (JR [tg] e pos.line X.env=pure false) æa._auto_1)(hw:autoParam (JS [tg] e X.env=pure none) æa._auto_1)
 (h1:autoParam ((HC [tg] X.env).map (·.2)=[HF tg X.env]) æa._auto_1):PS X (.Assign [tg] e pos) (vQ te g):=by
 intro pins s σ H D I h;refine wpAny_Assign_stores (Cy (he pins s σ H _ I h) fun v s1 ⟨x,H1,I1,r1,q1⟩=>?_) hs hw;rw[h1];exact Cy (hg pins s1 σ H1 x v _ I1 r1 q1) fun _ s2 q=>q
theorem fS{e:Expr}{te:TE}(hN:X.N.Nodup)(hi:X.N[i]?=some x)(hx:Loc X.env.scope x)(he:PE X e te)(hs:autoParam (GH e (some (.Name x pos')) pos.line X.env=pure false) æa._auto_1)(hf:autoParam (X.fn x=true\/X.env.scope.names.lookup x=some .local) æh._auto_1) :
 PS X (.Assign [.Name x pos'] e pos) (vQ te (iB i)):=by
 intro pins s σ H D I h;refine wpAny_Assign_Name (Cy (he pins s σ H _ I h) fun v s1 ⟨y,H1,I1,r1,q1⟩=>?_) hs;exact dX I1 hN hi hx r1 (fun s2 I2=>⟨_,H1,I2,q1⟩) hf
noncomputable def Bl(i j:Nat)(ta:TA):TS:=fun D σ H=>ta σ H fun vs H1=>∃v w,vs=[v,w]/\D.nx ((σ.set i (some v)).set j (some w)) H1
theorem wr{y:Str}{a b:Expr}{ta:TA}{py pt:Pos}{kt k2 pt2}(hc:X.calm=true)(hN:X.N.Nodup)(hi:X.N[i]?=some x)(hj:X.N[j]?=some y)(hij:i≠j)
 (hx:X.env.scope.names.lookup x=some .local)(hy:X.env.scope.names.lookup y=some .local)(ha:PA X [a,b] ta)
 (hw:JS [.Tuple [.Name x px,.Name y py] kt pt] (.Tuple [a,b] k2 pt2) X.env=pure (some [x,y]))
 (hs:autoParam (JR [.Tuple [.Name x px,.Name y py] kt pt] (.Tuple [a,b] k2 pt2) pos.line X.env=pure false) æa._auto_1) :
 PS X (.Assign [.Tuple [.Name x px,.Name y py] kt pt] (.Tuple [a,b] k2 pt2) pos) (Bl i j ta):=by
 intro pins s σ H D I h;rw[exec_Assign_arm];refine EU (GJ ?_);rw[hs];refine EU (EW ?_);rw[if_neg (by decide)];refine EU (Tuple_ (Cy (ha _ pins s σ H _ I h) fun us s1 ⟨vs,H1,I1,r1,q1⟩=>?_));obtain⟨v,w,e1,q1⟩:=q1;subst e1
 obtain⟨u1,u2,rfl,rv,rw'⟩:∃u1 u2,us=[u1,u2]/\RelV v u1/\RelV w u2:=by
  cases r1 with
  | cons p q =>
    cases q with
    | cons p' q' =>
      cases q';exact⟨_,_,rfl,p,p'⟩
 refine FB ?_ (by show 2<=sizeLine;decide);have I2:Inv X pins σ H1 {s1 with heap:=s1.heap.push {cls:=.type "tuple", data:=.seq [u1,u2].toArray}}:=I1.kept (t':=s1.toks) fun b o e=>EY _ e;rw[hw];refine EU (EW ?_);show Fm (FA X.prog X.w) X.A (do rule "assign.swapped-stores"; let items <- unpackItems (.ref s1.heap.objs.size) 2 none;Lb [fun v=>bindName X.env y v,fun v=>bindName X.env x v] items.reverse;pure Flow.next) _ _ _;refine EU (Iu (EU (unpackItems_tuple (items:=#[u1,u2]) (I.ok.hd hc) (LG.new s1.heap _) fun h' hx'=>?_)));have I3:=I2.kept (h':=h') (t':=s1.toks) fun b o e=>hx' b o (FK (E8 e)) e;show Fm _ _ (Lb [fun v=>bindName X.env y v,fun v=>bindName X.env x v] [u2,u1] >>= fun _=>pure Flow.next) _ _ _;refine EU (Jn (wpAny_bindName (dX I3 hN hj (.inl hy) rw' (fun s2 I4=>?_) (.inr hy))));refine Jn (wpAny_bindName (dX I4 hN hi (.inl hx) rv (fun s3 I5=>assignInOrder_nil (EW ?_)) (.inr hx)));rw[List.set_comm _ _ (II hij)]at I5;exact⟨_,H1,I5,q1⟩
noncomputable def Bs(i:Nat)(te:TE)(ti:DX):TS:=fun D σ H=>∃x,σ[i]?=some (some x)/\te σ H fun y H1=>ti x y H1 fun z H2=>D.nx (σ.set i (some z)) H2
theorem wv{e:Expr}{te:TE}{op:Lc}{ti:DX}(hN:X.N.Nodup)(hi:X.N[i]?=some x)(hx:Loc X.env.scope x)(he:PE X e te)(ho:Ee X op ti)(hf:autoParam (X.fn x=true\/X.env.scope.names.lookup x=some .local) æh._auto_1) :
 PS X (.AugAssign (.Name x pos') op e pos) (Bs i te ti):=by
 intro pins s σ H D I h;obtain⟨v,e1,h⟩:=h;obtain⟨m,hn,hl⟩:=I.loc;have vis:DR X.env.scope x:=by rcases hx with k|k;exact .inl k;exact .inr (.inl k)
 obtain⟨u,r,l⟩:=hl i x v hi e1 vis;refine wpAny_AugAssign_Name ?_
 have go:Fm (FA X.prog X.w) X.A (eval e X.env) (fun w s₂=>Fm (FA X.prog X.w) X.A (inplaceOp op u w) (fun r s₃=>Fm (FA X.prog X.w) X.A (storeName X.env x r) (fun _=>SP X pins D .next) X.xe s₃) X.xe s₂) X.xe s:=by
  refine Cy (he pins s σ H _ I h) fun w s1 ⟨y,H1,I1,r1,q1⟩=>?_;refine Cy (ho pins s1 σ H1 v y u w _ I1 r r1 q1) fun z s2 ⟨zv,H2,I2,r2,q2⟩=>?_;exact dX I2 hN hi hx r2 (fun s3 I3=>⟨_,H2,I3,q2⟩) hf
 rcases l with⟨hk,hm⟩|⟨hk,c,hc,hcell⟩
 · exact KM I.ok.kind hk hn hm go
 · rcases hk with hk|hk
   · exact K3 I.ok.kind hk hc hcell go
   · rcases hx with k|k
     · have:X.env.scope.names.lookup x=some .free:=hk;rw[k]at this;cases this
     · have:X.env.scope.names.lookup x=some .free:=hk;rw[k]at this;cases this
end
section
variable{X:Cx}{pos:Pos}
noncomputable def vM(c:TT)(tb:TS):TS:=fun D σ H=>∃W:Nat->St->Hp->Prop,(∃m,W m σ H)/\∀m σ H,W m σ H ->
 c σ H fun b H1=>if b=true then ∃N:St->Hp->Prop,(∀σ' H',N σ' H'->∃m',m'<m/\W m' σ' H')/\tb {D with nx:=N,ct:=N,bk:=D.nx} σ H1 else D.nx σ H1
theorem pO{c:Expr}{body:List Stmt}{tc:TT}{tb:TS}(hp:Ld (FA X.prog X.w) X.A X.env X.xe)(hc:PT X c tc)(hb:Eb X body tb):PS X (.While c body [] pos) (vM tc tb):=by
 intro pins s σ H D I h;obtain⟨W,⟨m0,w0⟩,turn⟩:=h;refine wpAny_While (codeAny_whileLoop (fun n s'=>∃σ' H',Inv X pins σ' H' s'/\W n σ' H') ?_ m0 ⟨σ,H,I,w0⟩);rintro n s1 ⟨σ1,H1,I1,w1⟩;refine Ho hp (Cy (hc pins s1 σ1 H1 _ I1 (turn n σ1 H1 w1)) fun b s2 ⟨H2,I2,q2⟩=>?_)
 cases b with
 | true =>
   obtain⟨N,hN,q2⟩:=q2;rw[if_pos rfl];refine Ho hp (Cy (hb pins s2 σ1 H2 _ I2 q2) fun f s3 q3=>?_)
   cases f with
   | next =>
     obtain⟨σ3,H3,I3,n3⟩:=q3;obtain⟨m',hm,w3⟩:=hN σ3 H3 n3
     exact⟨m',hm,σ3,H3,I3,w3⟩
   | cont =>
     obtain⟨σ3,H3,I3,n3⟩:=q3;obtain⟨m',hm,w3⟩:=hN σ3 H3 n3
     exact⟨m',hm,σ3,H3,I3,w3⟩
   | brk=>exact q3
   | ret v=>exact q3
 | false =>
   rw[if_neg Fz];exact I_ ⟨σ1,H2,I2,q2⟩
end
structure It where
 go:Nat->Hp->Prop
 yld:Nat->Hp->V->Hp->Prop
 stop:Nat->Hp->Prop
noncomputable def j6(X:Cx)(pins:List (Addr×Obj))(H:Hp)(b:Addr):Prop :=
 H b=none/\b≠X.env.locals/\b∉X.fs/\(b∈X.ex\/X.s₀.heap.objs.size<=b)/\(∀x c,X.env.cells.lookup x=some c->c≠b)/\∀p∈X.pn++pins,p.1≠b
theorem Inv.fpOk{X:Cx}{σ:St}{H H':Hp}(I:Inv X pins σ H s)(hb:s.heap.objs.size<=b)(hn:H' b=none):j6 X pins H' b:=by
 refine⟨hn,Km (E6 I.lt hb),I.nofs hb,.inr (Gk I.sz hb),fun x c e z=>?_,fun p hp z=>?_⟩
 · obtain⟨v,q⟩:=I.cell x c e;exact absurd (E6 q.lt (by rw[z];exact hb)) (GE _)
 · exact absurd (E6 (E8 (I.pin p hp).1) (by rw[z];exact hb)) (GE _)
structure Turn (P:Fo) (w:Gc) (K:W.Frag) (tg:Expr) (J:It) (fp:List Addr) (it:Addr) (tn:Nat->Heap->Prop):Prop where
 mem:it∈fp
 obj:∀i h,tn i h->∀b∈fp,∃o,h.get? b=some o/\∀v,o.data ≠ .cell v
 keep:∀i h h',tn i h->(∀b∈fp,∀o,h.get? b=some o->h'.get? b=some o)->tn i h'
 item:∀(X:Cx),X.prog=P->X.w=w->X.K=K->X.calm=true->∀(i:Nat)(pins:List (Addr×Obj))(s:EZ)(σ:St)(H:Hp)(E:EX->EZ->Prop),Inv X pins σ H s->(∀b∈fp,j6 X pins H b)->tn i s.heap->J.go i H ->
  Fm (FA P w) X.A (JE (.ref it)) (fun r s1=>∃u,r=some u /\
   Fm (FA P w) X.A (G0 tg (.ref it) u) (fun _ s2=>∃x H',Inv X pins σ H' s2/\RelV x u/\J.yld i H x H'/\tn (i+1) s2.heap/\∀b∈fp,H' b=none) E s1) E s
 done:∀(X:Cx),X.prog=P->X.w=w->X.K=K->X.calm=true->∀(i:Nat)(pins:List (Addr×Obj))(s:EZ)(σ:St)(H:Hp)(E:EX->EZ->Prop),Inv X pins σ H s->(∀b∈fp,j6 X pins H b)->tn i s.heap->J.stop i H ->
  Fm (FA P w) X.A (JE (.ref it)) (fun r s1=>r=none/\Inv X pins σ H s1) E s
 self:∀(A:Gh)(i:Nat)(s:EZ)(Q:EX->EZ->Prop)(E:EX->EZ->Prop),tn i s.heap->Q (.ref it) s->Fm (FA P w) A (Lw (.ref it)) Q E s
abbrev TI:=St->Hp->(It->Hp->Prop)->Prop
noncomputable def Eg(X:Cx)(pins:List (Addr×Obj))(σ:St)(tg:Expr)(R:It->Hp->Prop)(itv:EX)(s2:EZ):Prop :=
 ∃(it:Addr)(fp:List Addr)(tn:Nat->Heap->Prop)(J:It)(H':Hp),itv = .ref it/\Inv X pins σ H' s2/\Turn X.prog X.w X.K tg J fp it tn/\tn 0 s2.heap/\(∀b∈fp,j6 X pins H' b)/\R J H'
noncomputable def PI(X:Cx)(tg iter:Expr)(wi:TI):Prop :=
 ∀ (pins:List (Addr×Obj))(s:EZ)(σ:St)(H:Hp)(R:It->Hp->Prop),Inv X pins σ H s->wi σ H R ->
   Fm (FA X.prog X.w) X.A (eval iter X.env) (fun v s1=>Fm (FA X.prog X.w) X.A (Lw v) (Eg X pins σ tg R) X.xe s1) X.xe s
theorem qo{M:Model}{u:EX}{o:Obj}{n:String}{vs:Array EX}{Q:Unit->EZ->Prop}(ho:s.heap.get? it=some o)(hc:o.cls = .type n)(hd:o.data = .fields vs)
 (hn:["enumerate", "zip", "dict_itemiterator", "dict_reverseitemiterator", "odict_iterator", "itertools.zip_longest", "itertools.pairwise"].contains n=false)(hQ:Q () s):Fm M A (G0 tg (.ref it) u) Q E s:=by
 unfold G0
 cases tg<;>first
  | exact EW hQ
  | (cases u<;>first
      | exact EW hQ
      | (refine EU (wpAny_load ho ?_)
         rw[hc,hd];show Fm M A (if(["enumerate", "zip", "dict_itemiterator", "dict_reverseitemiterator", "odict_iterator", "itertools.zip_longest", "itertools.pairwise"].contains n&&vs[0]?==some (KQ _))=true then _ else _) Q E s;rw[if_neg (by intro h;rw[hn,Bool.false_and]at h;cases h)]
         exact EW hQ))
noncomputable def Ex(K:W.Frag)(a:Addr):It :=
 ⟨fun i H=>∃xs x,D1 K H a xs/\xs[i]?=some x,fun i H x H'=>H'=H/\∀xs,D1 K H a xs->xs[i]?=some x,fun i H=>∃xs,D1 K H a xs/\xs.length<=i⟩
noncomputable def Ev(K:W.Frag)(a:Addr):It :=
 ⟨fun i H=>∃xs x,D0 K H a xs/\xs[i]?=some x,fun i H x H'=>H'=H/\∀xs,D0 K H a xs->xs[i]?=some x,fun i H=>∃xs,D0 K H a xs/\xs.length<=i⟩
noncomputable def Ew(lo:Int)(n:Nat):It:=⟨fun i _=>i<n,fun i H x H'=>H'=H/\x = .int (lo+i),fun i _=>n<=i⟩
theorem mT{K:W.Frag}(a it:Addr):Turn P w K tg (Ex K a) [it] it (fun i h=>h.IsListIter it a i) where
 mem:=by simp
 obj:=fun i h st b hb=>by
  have e:b=it:=by simpa using hb
  subst e;obtain⟨o,e,c,d⟩:=st;exact⟨o,e,fun v z=>by rw[d]at z;cases z⟩
 keep:=fun i h h' st k=>st.at fun o e=>k it (by simp) o e
 item:=by
  intro X hP hw hK hc i pins s σ H E I hf st hg;subst hP hw hK;obtain⟨xs,x,hq,hx⟩:=hg;obtain⟨its,rv,p,hz⟩:=I.list hq;obtain⟨u,hu,ru⟩:=rv.get hx;obtain⟨f0,f1,f2,f3,f4,f5⟩:=hf it (by simp);refine wpAny_pyNext_list_item st p.isList (x:=u) (by simpa using hu) fun h' st' sb=>?_;have I1:Inv X pins σ H {s with heap:=h' }:=I.turned (t':=s.toks) (fun b o hb e=>(sb.2 b hb).trans e) f0 f1 f3 f4 f5;obtain⟨o,e,c,d⟩:=id st';exact⟨u,rfl,qo (s:={s with heap:=h' }) e c d (by decide) ⟨x,H,I1,ru,⟨rfl,fun ys hy=>by rw[I.list_inj hy hq];exact hx⟩,st',fun b hb=>(hf b hb).1⟩⟩
 done:=by
  intro X hP hw hK hc i pins s σ H E I hf st hg;subst hP hw hK;obtain⟨xs,hq,hx⟩:=hg;obtain⟨its,rv,p,hz⟩:=I.list hq;obtain⟨f0,f1,f2,f3,f4,f5⟩:=hf it (by simp);have hl:=rv.length;exact wpAny_pyNext_list_end (I.ok.hd hc) st p.isList (by simp;omega) fun h' eb=>⟨rfl,I.turned (t':=s.toks) (fun b o hb e=>eb b o hb e) f0 f1 f3 f4 f5⟩
 self:=fun _ _ _ _ _ st h=>wpAny_pyIter_listiter st h
theorem ly{K:W.Frag}(a it:Addr):Turn P w K tg (Ev K a) [it] it (fun i h=>h.IsTupleIter it a i) where
 mem:=by simp
 obj:=fun i h st b hb=>by
  have e:b=it:=by simpa using hb
  subst e;obtain⟨o,e,c,d⟩:=st;exact⟨o,e,fun v z=>by rw[d]at z;cases z⟩
 keep:=fun i h h' st k=>st.at fun o e=>k it (by simp) o e
 item:=by
  intro X hP hw hK hc i pins s σ H E I hf st hg;subst hP hw hK;obtain⟨xs,x,hq,hx⟩:=hg;obtain⟨its,rv,p,hz⟩:=I.tuple hq;obtain⟨u,hu,ru⟩:=rv.get hx;obtain⟨f0,f1,f2,f3,f4,f5⟩:=hf it (by simp);refine wpAny_pyNext_tuple_item st (show s.heap.IsTuple a its.toArray from p) (x:=u) (by simpa using hu) fun h' st' sb=>?_;have I1:Inv X pins σ H {s with heap:=h' }:=I.turned (t':=s.toks) (fun b o hb e=>(sb.2 b hb).trans e) f0 f1 f3 f4 f5;obtain⟨o,e,c,d⟩:=id st';exact⟨u,rfl,qo (s:={s with heap:=h' }) e c d (by decide) ⟨x,H,I1,ru,⟨rfl,fun ys hy=>by rw[I.tuple_inj hy hq];exact hx⟩,st',fun b hb=>(hf b hb).1⟩⟩
 done:=by
  intro X hP hw hK hc i pins s σ H E I hf st hg;subst hP hw hK;obtain⟨xs,hq,hx⟩:=hg;obtain⟨its,rv,p,hz⟩:=I.tuple hq;obtain⟨f0,f1,f2,f3,f4,f5⟩:=hf it (by simp);have hl:=rv.length;exact wpAny_pyNext_tuple_end (I.ok.hd hc) st (show s.heap.IsTuple a its.toArray from p) (by simp;omega) fun h' eb=>⟨rfl,I.turned (t':=s.toks) (fun b o hb e=>eb b o hb e) f0 f1 f3 f4 f5⟩
 self:=fun _ _ _ _ _ st h=>wpAny_pyIter_tupleiter st h
theorem lA{K:W.Frag}(it:Addr)(lo:Int)(n:Nat):Turn P w K tg (Ew lo n) [it] it (fun i h=>IsRangeIter h it (lo+(i:Nat)*1) ((n:Int)-(i:Nat)) 1) where
 mem:=by simp
 obj:=fun i h st b hb=>by
  have e:b=it:=by simpa using hb
  subst e
  exact⟨_,st,fun v z=>by
   have z':Data.fields _=Data.cell v:=z
   cases z'⟩
 keep:=fun i h h' st k=>k it (by simp) _ st
 item:=by
  intro X hP hw hK hc i pins s σ H E I hf st hg;subst hP hw hK;obtain⟨f0,f1,f2,f3,f4,f5⟩:=hf it (by simp);have W:=Walks.range (prog:=X.prog) (w:=X.w) (I.ok.hd hc) it lo 1 n;refine W.item i s _ _ hg st fun v h' tk hv st' kk=>?_;obtain⟨t,rfl⟩:=hv;have I1:Inv X pins σ H {s with heap:=h',toks:=tk}:=I.turned (fun b o hb e=>kk b o (by simpa using hb) e) f0 f1 f3 f4 f5;refine⟨_,rfl,qo (s:={s with heap:=h',toks:=tk}) (n := "range_iterator") st' rfl rfl (by decide) ⟨.int (lo+i),H,I1,⟨t,?_⟩,⟨rfl,rfl⟩,st',fun b hb=>(hf b hb).1⟩⟩;rw[Int.mul_one]
 done:=by
  intro X hP hw hK hc i pins s σ H E I hf st hg;subst hP hw hK;obtain⟨f0,f1,f2,f3,f4,f5⟩:=hf it (by simp);exact wpAny_pyNext_range_end (I.ok.hd hc) st (by have:n<=i:=hg;omega) fun h' eb=>⟨rfl,I.turned (t':=s.toks) (fun b o hb e=>eb b o hb e) f0 f1 f3 f4 f5⟩
 self:=fun _ _ _ _ _ st h=>wpAny_pyIter_rangeiter st h
section
variable{X:Cx}{tg:Expr}
noncomputable def zk(K:W.Frag)(tl:TE):TI:=fun σ H R=>tl σ H fun x H1=>∃a,x = .ref a/\(∃xs,D1 K H1 a xs)/\R (Ex K a) H1
noncomputable def BG(K:W.Frag)(tl:TE):TI:=fun σ H R=>tl σ H fun x H1=>∃a,x = .ref a/\(∃xs,D0 K H1 a xs)/\R (Ev K a) H1
theorem tI{l:Expr}{tl:TE}(hl:PE X l tl):PI X tg l (zk X.K tl):=by
 intro pins s σ H R I h;refine Cy (hl pins s σ H _ I h) fun v s1 ⟨x,H1,I1,r1,q1⟩=>?_;obtain⟨a,e,⟨xs,hq⟩,q⟩:=q1;subst e;cases r1;obtain⟨its,rv,p,hz⟩:=I1.list hq;refine Iv p.isList ?_;refine⟨s1.heap.objs.size,[s1.heap.objs.size],_,_,H1,rfl,I1.kept (t':=s1.toks) fun b o e=>EY _ e,mT a _,⟨_,Fa _ rfl,rfl,rfl⟩,fun b hb=>?_,q⟩;have e:b=s1.heap.objs.size:=by simpa using hb
 subst e;exact I1.fpOk (E3 _) (I1.hok.fresh (E3 _))
theorem wA{l:Expr}{tl:TE}(hl:PE X l tl):PI X tg l (BG X.K tl):=by
 intro pins s σ H R I h;refine Cy (hl pins s σ H _ I h) fun v s1 ⟨x,H1,I1,r1,q1⟩=>?_;obtain⟨a,e,⟨xs,hq⟩,q⟩:=q1;subst e;cases r1;obtain⟨its,rv,p,hz⟩:=I1.tuple hq;refine wpAny_pyIter_tuple (show s1.heap.IsTuple a its.toArray from p) ?_;refine⟨s1.heap.objs.size,[s1.heap.objs.size],_,_,H1,rfl,I1.kept (t':=s1.toks) fun b o e=>EY _ e,ly a _,⟨_,Fa _ rfl,rfl,rfl⟩,fun b hb=>?_,q⟩;have e:b=s1.heap.objs.size:=by simpa using hb
 subst e;exact I1.fpOk (E3 _) (I1.hok.fresh (E3 _))
theorem kF{σ:St}{H:Hp}{R:It->Hp->Prop}{lo hi:Int}{t u v:Tok}{tk:Nat}(I:Inv X pins σ H s)(h1 : -(2^62)<=lo)(h2:lo<2^62)(h3 : -(2^62)<=hi)(h4:hi<2^62)
 (q:R (Ew lo (hi-lo).toNat) H):Fm (FA X.prog X.w) X.A (Lw (.ref s.heap.objs.size)) (Eg X pins σ tg R) E {s with heap:=s.heap.push {cls:=.type "range", data:=.fields #[.int lo t,.int hi u,.int 1 v]},toks:=tk}:=by
 refine wpAny_pyIter_range (IsRange.new ..) (small_one h1 h2 h3 h4) ?_;have I1:Inv X pins σ H {s with heap:=s.heap.push {cls:=.type "range", data:=.fields #[.int lo t,.int hi u,.int 1 v]},toks:=tk}:=I.kept fun b o e=>EY _ e
 refine⟨(s.heap.push {cls:=.type "range", data:=.fields #[.int lo t,.int hi u,.int 1 v]}).objs.size,[(s.heap.push {cls:=.type "range", data:=.fields #[.int lo t,.int hi u,.int 1 v]}).objs.size],_,_,H,rfl,
  I1.kept (t':=tk) fun b o e=>EY _ e,lA _ lo (hi-lo).toNat,?_,fun b hb=>?_,q⟩
 · have e1:lo+((0:Nat):Int)*1=lo:=by simp
   have e2:(((hi-lo).toNat:Nat):Int)-((0:Nat):Int)=Builtin.Range.rangeSize lo hi 1:=by rw[rangeSize_one];split<;>omega
   show IsRangeIter _ _ (lo+((0:Nat):Int)*1) ((((hi-lo).toNat:Nat):Int)-((0:Nat):Int)) 1;rw[e1,e2];exact Fa _ rfl
 · have e:b=(s.heap.push {cls:=.type "range", data:=.fields #[.int lo t,.int hi u,.int 1 v]}).objs.size:=by simpa using hb
   subst e;exact I1.fpOk (E3 _) (I1.hok.fresh (E3 _))
noncomputable def zj(ta:TA):TI:=fun σ H R=>ta σ H fun vs H1=>∃j:Int,vs=[.int j] /\ -(2^62)<=j/\j<2^62/\R (Ew 0 j.toNat) H1
noncomputable def zi(ta:TA):TI:=fun σ H R=>ta σ H fun vs H1=>∃i j:Int,vs=[.int i,.int j]/\(-(2^62)<=i/\i<2^62 /\ -(2^62)<=j/\j<2^62)/\R (Ew i (j-i).toNat) H1
theorem i8{a:Expr}{ta:TA}{p:Pos}(hg:Gl X "range")(hm:X.mg "range" = none)(ha:PA X [a] ta)(hs:autoParam (E4 [a] X.env=[(false,eval a X.env)]) æa._auto_1):PI X tg (.Call (.Name "range" p) [a] [] pos) (zj ta):=by
 intro pins s σ H R I h;refine Call_ (f_ I hg hm boot_range (Gy (Cy (ha pos pins s σ H _ I h) fun us s1 ⟨vs,H1,I1,r1,q1⟩=>?_) hs rfl));obtain⟨j,e,q1,q2,q⟩:=q1;subst e
 cases r1 with
 | cons r rr =>
   cases rr;obtain⟨t,rfl⟩:=r;exact call_range_1 (kF I1 (by omega) (by omega) q1 q2 (by simpa using q))
theorem nB{a b:Expr}{ta:TA}{p:Pos}(hg:Gl X "range")(hm:X.mg "range" = none)(ha:PA X [a,b] ta)(hs:autoParam (E4 [a,b] X.env=[(false,eval a X.env),(false,eval b X.env)]) æa._auto_1)(hs2:autoParam (E4 [b] X.env=[(false,eval b X.env)]) æa._auto_1) :
 PI X tg (.Call (.Name "range" p) [a,b] [] pos) (zi ta):=by
 intro pins s σ H R I h;refine Call_ (f_ I hg hm boot_range (Gy (Cy (ha pos pins s σ H _ I h) fun us s1 ⟨vs,H1,I1,r1,q1⟩=>?_) (by rw[hs,hs2]) (by rw[hs2];rfl)));obtain⟨i,j,e,⟨q1,q2,q3,q4⟩,q⟩:=q1;subst e
 cases r1 with
 | cons r rr =>
   cases rr with
   | cons r' rr =>
     cases rr;obtain⟨t,rfl⟩:=r;obtain⟨t',rfl⟩:=r';exact call_range_2 (kF I1 q1 q2 q3 q4 q)
noncomputable def Br(wi:TI)(g:TG)(tb:TS):TS:=fun D σ H=>wi σ H fun J H1=>∃W:Nat->Nat->St->Hp->Prop,(∃m,W 0 m σ H1)/\∀i m σ H,W i m σ H ->
 (J.stop i H/\D.nx σ H)\/(J.go i H/\∃N:St->Hp->Prop,(∀σ' H',N σ' H'->∃m',m'<m/\W (i+1) m' σ' H')/\∀x H',J.yld i H x H'->g x σ H' fun σ2 H2=>tb {D with nx:=N,ct:=N,bk:=D.nx} σ2 H2)
noncomputable def eZ(fp:List Addr)(h:Heap):List (Addr×Obj):=fp.filterMap fun b=>(h.get? b).map fun o=>(b,o)
theorem bw{o:Obj}(hb:b∈fp)(e:h.get? b=some o):(b,o)∈eZ fp h:=List.mem_filterMap.mpr ⟨b,hb,by rw[e];rfl⟩
theorem nL{p:Addr×Obj}(hp:p∈eZ fp h):p.1∈fp/\h.get? p.1=some p.2:=by
 obtain⟨b,hb,e⟩:=List.mem_filterMap.mp hp
 cases q:h.get? b with
 | none=>rw[q]at e;cases e
 | some o =>
   rw[q]at e;have e':(b,o)=p:=FO e;subst e';exact⟨hb,q⟩
theorem Inv.pinned{σ:St}{H:Hp}(I:Inv X pins σ H s)(hf:∀b∈fp,j6 X pins H b)(ho:∀b∈fp,∃o,s.heap.get? b=some o/\∀v,o.data ≠ .cell v):Inv X (pins++eZ fp s.heap) σ H s :=
 I.pins_of fun p hp=>(GG.mp hp).elim (fun z=>I.pin p (Fh _ z)) fun z=>by
  obtain⟨hb,e⟩:=nL z;obtain⟨f0,f1,f2,_⟩:=hf p.1 hb;obtain⟨o,e',d⟩:=ho p.1 hb;rw[e]at e';cases e';exact⟨e,f0,f1,f2,d⟩
theorem Inv.unpinned{pl:List (Addr×Obj)}{σ:St}{H:Hp}(I:Inv X (pins++pl) σ H s):Inv X pins σ H s:=I.pins_of fun p hp=>I.pin p (Fh _ (IR _ hp))
theorem qZ{body:List Stmt}{wi:TI}{g:TG}{tb:TS}(hp:Ld (FA X.prog X.w) X.A X.env X.xe)(hc:X.calm=true)(hi:PI X tg iter wi)(hg:PG X tg g)(hb:Eb X body tb)
 (hs:autoParam (∀x,FC iter X.env x=pure x) æd._auto_1):PS X (.For tg iter body [] pos) (Br wi g tb):=by
 intro pins s σ H D I h;refine wpAny_For (Cy (hi pins s σ H _ I h) fun v s1 h1=>Cy h1 fun itv s2 h2=>?_) hs;obtain⟨it,fp,tn,J,H2,e,I2,T,st2,f2,W,⟨m0,w0⟩,turn⟩:=h2;subst e;have stat:∀{H':Hp},(∀b∈fp,H' b=none)->∀b∈fp,j6 X pins H' b:=fun hn b hb=>⟨hn b hb,(f2 b hb).2⟩;refine codeAny_forLoop_any (fun n s'=>∃i σ' H',Inv X pins σ' H' s'/\tn i s'.heap/\(∀b∈fp,H' b=none)/\W i n σ' H') ?_ m0 ⟨0,σ,H2,I2,st2,fun b hb=>(f2 b hb).1,w0⟩;rintro n s3 ⟨i,σ3,H3,I3,st3,fr3,w3⟩;rcases turn i n σ3 H3 w3 with⟨stop,qn⟩|⟨go,N,hN,step⟩
 · refine Ho hp (Cy (T.done X rfl rfl rfl hc i pins s3 σ3 H3 X.xe I3 (stat fr3) st3 stop) fun r s4 ⟨hr,I4⟩=>?_);subst hr;exact I_ ⟨σ3,H3,I4,qn⟩
 · refine Ho hp (Cy (T.item X rfl rfl rfl hc i pins s3 σ3 H3 X.xe I3 (stat fr3) st3 go) fun r s4 ⟨u,hr,h4⟩=>?_);subst hr;refine Ho hp (Cy h4 fun _ s5 ⟨x,H5,I5,r5,y5,st5,fr5⟩=>?_);have I5':=I5.pinned (stat fr5) (T.obj _ _ st5);refine Ho hp (Cy (hg _ s5 σ3 H5 x u _ I5' r5 (step x H5 y5)) fun _ s6 ⟨σ6,H6,I6,q6⟩=>?_);refine Ho hp (Cy (hb _ s6 σ6 H6 _ I6 q6) fun f s7 q7=>?_)
   have again:∀{σ7:St}{H7:Hp},Inv X (pins++eZ fp s5.heap) σ7 H7 s7->N σ7 H7->∃m,m<n/\∃i σ' H',Inv X pins σ' H' s7/\tn i s7.heap/\(∀b∈fp,H' b=none)/\W i m σ' H':=fun{σ7 H7} I7 n7=>by
    obtain⟨m',hm,w7⟩:=hN σ7 H7 n7;refine⟨m',hm,i+1,σ7,H7,I7.unpinned,T.keep _ _ _ st5 fun b hb o e=>(I7.pin (b,o) (Fh _ (Fh _ (bw hb e)))).1,fun b hb=>?_,w7⟩;obtain⟨o,e,d⟩:=T.obj _ _ st5 b hb;exact(I7.pin (b,o) (Fh _ (Fh _ (bw hb e)))).2.1
   cases f with
   | next=>obtain⟨σ7,H7,I7,n7⟩:=q7;exact again I7 n7
   | cont=>obtain⟨σ7,H7,I7,n7⟩:=q7;exact again I7 n7
   | brk=>obtain⟨σ7,H7,I7,q7⟩:=q7;exact⟨σ7,H7,I7.unpinned,q7⟩
   | ret v=>obtain⟨x7,σ7,H7,I7,r7,q7⟩:=q7;exact⟨x7,σ7,H7,I7.unpinned,r7,q7⟩
end
abbrev R2:=V->V->Hp->VK->Prop
noncomputable def Ek(X:Cx)(f:EX->EX->Sem EX)(r:R2):Prop :=
 ∀ (pins:List (Addr×Obj))(s:EZ)(σ:St)(H:Hp)(x y:V)(v u:EX)(Q:VK),Inv X pins σ H s->RelV x v->RelV y u->r x y H Q ->
   Fm (FA X.prog X.w) X.A (f v u) (EP X pins σ Q) X.xe s
noncomputable def DT(X:Cx)(f:EX->Sem EX)(r:V->Hp->VK->Prop):Prop :=
 ∀ (pins:List (Addr×Obj))(s:EZ)(σ:St)(H:Hp)(x:V)(v:EX)(Q:VK),Inv X pins σ H s->RelV x v->r x H Q ->
   Fm (FA X.prog X.w) X.A (f v) (EP X pins σ Q) X.xe s
noncomputable def eR(X:Cx)(f:EX)(r:List V->Hp->VK->Prop):Prop :=
 ∀ (pins:List (Addr×Obj))(s:EZ)(σ:St)(H:Hp)(xs:List V)(us:List EX)(Q:VK),Inv X pins σ H s->cE xs us->r xs H Q ->
   Fm (FA X.prog X.w) X.A (call f us) (EP X pins σ Q) X.xe s
noncomputable def CF(r:R2)(ta tb:TE):TE:=fun σ H Q=>ta σ H fun x H1=>tb σ H1 fun y H2=>r x y H2 Q
noncomputable def CA(r:V->Hp->VK->Prop)(ta:TE):TE:=fun σ H Q=>ta σ H fun x H1=>r x H1 Q
noncomputable def rI(C:Int->Int->Prop)(g:Int->Int->V):R2:=fun x y H Q=>∃i j,x = .int i/\y = .int j/\C i j/\Q (g i j) H
noncomputable def C4(g:Int->Int->V):R2:=fun x y H Q=>∃i j,x = .int i/\y = .int j/\Q (g i j) H
noncomputable def rU(g:Int->V):V->Hp->VK->Prop:=fun x H Q=>∃i,x = .int i/\Q (g i) H
section
variable{X:Cx}{a b c:Expr}{ta tb tc:TE}{pos:Pos}
theorem zE(ha:PE X a ta)(hb:PE X b tb){σ:St}{H:Hp}{R:V->V->Hp->Prop}(I:Inv X pins σ H s)
 (h:ta σ H fun x H1=>tb σ H1 fun y H2=>R x y H2){f:EX->EX->Sem EX}
 (hf:∀v u s2 x y H2,Inv X pins σ H2 s2->RelV x v->RelV y u->R x y H2->Fm (FA X.prog X.w) X.A (f v u) Q X.xe s2) :
 Fm (FA X.prog X.w) X.A (eval a X.env) (fun v s₁=>Fm (FA X.prog X.w) X.A (eval b X.env) (fun u s₂=>Fm (FA X.prog X.w) X.A (f v u) Q X.xe s₂) X.xe s₁) X.xe s:=by
 refine Cy (ha pins s σ H _ I h) fun v s1 ⟨x,H1,I1,r1,q1⟩=>?_;refine Cy (hb pins s1 σ H1 _ I1 q1) fun u s2 ⟨y,H2,I2,r2,q2⟩=>?_;exact hf v u s2 x y H2 I2 r1 r2 q2
theorem wE{op:Lc}{r:R2}(ho:Ek X (Hw op) r)(ha:PE X a ta)(hb:PE X b tb):PE X (.BinOp a op b pos) (CF r ta tb):=by
 intro pins s σ H Q I h;exact wpAny_BinOp (zE ha hb I h fun v u s2 x y H2 I2 rx ry q=>ho pins s2 σ H2 x y v u Q I2 rx ry q)
theorem tM{op:UnaryOp}{r:V->Hp->VK->Prop}(ho:DT X (unaryOp op) r)(ha:PE X a ta):PE X (.UnaryOp op a pos) (CA r ta):=by
 intro pins s σ H Q I h;exact UnaryOp_ (Cy (ha pins s σ H _ I h) fun v s1 ⟨x,H1,I1,r1,q1⟩=>ho pins s1 σ H1 x v Q I1 r1 q1)
theorem Da{f:EX->EX->Sem EX}{C:Int->Int->Prop}{g:Int->Int->Int}
 (rule:∀(i j:Int)(t u:Tok)(s:EZ)(Q:EX->EZ->Prop)(E:EX->EZ->Prop),C i j->Q (.int (g i j) s.toks) {s with toks:=s.toks+1}->Fm (FA X.prog X.w) X.A (f (.int i t) (.int j u)) Q E s) :
 Ek X f (rI C fun i j=>.int (g i j)):=by
 intro pins s σ H x y v u Q I rx ry h;obtain⟨i,j,rfl,rfl,hc,q⟩:=h;obtain⟨t,rfl⟩:=rx;obtain⟨t',rfl⟩:=ry;exact rule i j t t' s _ _ hc ⟨.int (g i j),H,I.tok _,⟨_,rfl⟩,q⟩
theorem AS{f:EX->EX->Sem EX}{g:Int->Int->Int}
 (rule:∀(i j:Int)(t u:Tok)(s:EZ)(Q:EX->EZ->Prop)(E:EX->EZ->Prop),Q (.int (g i j) s.toks) {s with toks:=s.toks+1}->Fm (FA X.prog X.w) X.A (f (.int i t) (.int j u)) Q E s) :
 Ek X f (C4 fun i j=>.int (g i j)):=by
 intro pins s σ H x y v u Q I rx ry h;obtain⟨i,j,rfl,rfl,q⟩:=h;obtain⟨t,rfl⟩:=rx;obtain⟨t',rfl⟩:=ry;exact rule i j t t' s _ _ ⟨.int (g i j),H,I.tok _,⟨_,rfl⟩,q⟩
theorem zb{f:EX->EX->Sem EX}{g:Int->Int->Bool}
 (rule:∀(i j:Int)(t u:Tok)(s:EZ)(Q:EX->EZ->Prop)(E:EX->EZ->Prop),Q (.bool (g i j)) s->Fm (FA X.prog X.w) X.A (f (.int i t) (.int j u)) Q E s) :
 Ek X f (C4 fun i j=>.bl (g i j)):=by
 intro pins s σ H x y v u Q I rx ry h;obtain⟨i,j,rfl,rfl,q⟩:=h;obtain⟨t,rfl⟩:=rx;obtain⟨t',rfl⟩:=ry;exact rule i j t t' s _ _ ⟨.bl (g i j),H,I,rfl,q⟩
noncomputable def yd(i j:Int):Prop:=0<=j/\j<=1000000/\i.natAbs<2^64
theorem rh:Ek X (Hw .Add) (C4 fun i j=>.int (i+j)):=AS fun _ _ _ _ _ _ _ q=>add_int q
theorem rg:Ek X (Hw .Sub) (C4 fun i j=>.int (i-j)):=AS fun _ _ _ _ _ _ _ q=>sub_int q
theorem tT:Ek X (Hw .Mod) (rI (fun _ j=>j≠0) fun i j=>.int (i.fmod j)):=Da fun _ _ _ _ _ _ _ hc q=>mod_int' hc q
theorem wN:Ek X (Hw .Pow) (rI yd fun i j=>.int (i^j.toNat)):=Da fun _ _ _ _ _ _ _ hc q=>pow_int_small hc.1 hc.2.1 hc.2.2 q
theorem Cq{f:EX->Sem EX}{g:Int->Int}
 (rule:∀(i:Int)(t:Tok)(s:EZ)(Q:EX->EZ->Prop)(E:EX->EZ->Prop),Q (.int (g i) s.toks) {s with toks:=s.toks+1}->Fm (FA X.prog X.w) X.A (f (.int i t)) Q E s) :
 DT X f (rU fun i=>.int (g i)):=by
 intro pins s σ H x v Q I rx h;obtain⟨i,rfl,q⟩:=h;obtain⟨t,rfl⟩:=rx;exact rule i t s _ _ ⟨.int (g i),H,I.tok _,⟨_,rfl⟩,q⟩
theorem mR:DT X (unaryOp .USub) (rU fun i=>.int (-i)):=Cq fun _ _ _ _ _ q=>neg_int q
end
noncomputable def AL:V->V->Bool
 | .non,.non=>true | .non,.int _=>true | .int _,.non=>true | .non,.bl _=>true | .bl _,.non=>true | .non,.str _=>true | .str _,.non=>true
 | .int _,.int _=>true | .bl _,.bl _=>true | .str _,.str _=>true | .byt _,.byt _=>true
 | .int _,.str _=>true | .str _,.int _=>true | .bl _,.str _=>true | .str _,.bl _=>true
 | _,_=>false
noncomputable def C5:R2:=fun x y H Q=>AL x y=true/\Q (.bl (decide (x=y))) H
noncomputable def C2:R2:=fun x y H Q=>AL x y=true/\Q (.bl (!decide (x=y))) H
theorem oB{i j:Int}:decide (V.int i=V.int j)=(i==j):=by
 rw[Ja];simp
theorem rE{i j:Bool}:decide (V.bl i=V.bl j)=(i==j):=by
 rw[Ja];simp
theorem oA{i j:Str}:decide (V.str i=V.str j)=(i==j):=by
 rw[Ja];simp
theorem oC{i j:Array UInt8}:decide (V.byt i=V.byt j)=(i.toList==j.toList):=by
 rw[Ja];cases i;cases j;simp
section
variable{X:Cx}{a b c:Expr}{ta tb tc:TE}{pos:Pos}
theorem aW{σ:St}{H:Hp}{Q:VK}{k k':Bool}(I:Inv X pins σ H s)(q:Q (.bl k) H)(e:k=k'):EP X pins σ Q (.bool k') s:=by
 subst e;exact⟨.bl k,H,I,rfl,q⟩
theorem tV:Ek X (HK .Eq) C5:=by
 intro pins s σ H x y v u Q I rx ry h;obtain⟨hs,q⟩:=h
 cases x with
 | non =>
   cases rx
   cases y with
   | non=>cases ry;exact PySem.EqNone.eq_none_none (aW I q (by simp))
   | bl j=>cases ry;exact PySem.EqNone.eq_none_bool (aW I q (by simp))
   | int j=>obtain⟨t',rfl⟩:=ry;exact PySem.EqNone.eq_none_int (aW I q (by simp))
   | str j=>obtain⟨t',rfl⟩:=ry;exact PySem.EqNone.eq_none_str (aW I q (by simp))
   | _=>exact absurd (show false=true from hs) Fz
 | bl i =>
   cases rx
   cases y with
   | non=>cases ry;exact PySem.EqNone.eq_bool_none (aW I q (by simp))
   | bl j=>cases ry;exact eq_bool (aW I q rE)
   | str j=>obtain⟨t',rfl⟩:=ry;exact PySem.EqMixed.eq_bool_str (aW I q (by simp))
   | _=>exact absurd (show false=true from hs) Fz
 | int i =>
   obtain⟨t,rfl⟩:=rx
   cases y with
   | non=>cases ry;exact PySem.EqNone.eq_int_none (aW I q (by simp))
   | int j=>obtain⟨t',rfl⟩:=ry;exact eq_int (aW I q oB)
   | str j=>obtain⟨t',rfl⟩:=ry;exact PySem.EqMixed.eq_int_str (aW I q (by simp))
   | _=>exact absurd (show false=true from hs) Fz
 | str i =>
   obtain⟨t,rfl⟩:=rx
   cases y with
   | non=>cases ry;exact PySem.EqNone.eq_str_none (aW I q (by simp))
   | bl j=>cases ry;exact PySem.EqMixed.eq_str_bool (aW I q (by simp))
   | int j=>obtain⟨t',rfl⟩:=ry;exact PySem.EqMixed.eq_str_int (aW I q (by simp))
   | str j=>obtain⟨t',rfl⟩:=ry;exact eq_str (aW I q oA)
   | _=>exact absurd (show false=true from hs) Fz
 | byt i =>
   obtain⟨t,rfl⟩:=rx
   cases y with
   | byt j=>obtain⟨t',rfl⟩:=ry;exact W.eq_bytes (aW I q oC)
   | _=>exact absurd (show false=true from hs) Fz
 | _=>cases y<;>exact absurd (show false=true from hs) Fz
theorem nI:Ek X (HK .NotEq) C2:=by
 intro pins s σ H x y v u Q I rx ry h;obtain⟨hs,q⟩:=h
 cases x with
 | non =>
   cases rx
   cases y with
   | non=>cases ry;exact PySem.EqNone.ne_none_none (aW I q (by simp))
   | bl j=>cases ry;exact PySem.EqNone.ne_none_bool (aW I q (by simp))
   | int j=>obtain⟨t',rfl⟩:=ry;exact PySem.EqNone.ne_none_int (aW I q (by simp))
   | str j=>obtain⟨t',rfl⟩:=ry;exact PySem.EqNone.ne_none_str (aW I q (by simp))
   | _=>exact absurd (show false=true from hs) Fz
 | bl i =>
   cases rx
   cases y with
   | non=>cases ry;exact PySem.EqNone.ne_bool_none (aW I q (by simp))
   | bl j=>cases ry;exact ne_bool (aW I q (congrArg not rE))
   | str j=>obtain⟨t',rfl⟩:=ry;exact PySem.EqMixed.ne_bool_str (aW I q (by simp))
   | _=>exact absurd (show false=true from hs) Fz
 | int i =>
   obtain⟨t,rfl⟩:=rx
   cases y with
   | non=>cases ry;exact PySem.EqNone.ne_int_none (aW I q (by simp))
   | int j=>obtain⟨t',rfl⟩:=ry;exact ne_int (aW I q (congrArg not oB))
   | str j=>obtain⟨t',rfl⟩:=ry;exact PySem.EqMixed.ne_int_str (aW I q (by simp))
   | _=>exact absurd (show false=true from hs) Fz
 | str i =>
   obtain⟨t,rfl⟩:=rx
   cases y with
   | non=>cases ry;exact PySem.EqNone.ne_str_none (aW I q (by simp))
   | bl j=>cases ry;exact PySem.EqMixed.ne_str_bool (aW I q (by simp))
   | int j=>obtain⟨t',rfl⟩:=ry;exact PySem.EqMixed.ne_str_int (aW I q (by simp))
   | str j=>obtain⟨t',rfl⟩:=ry;exact ne_str (aW I q (congrArg not oA))
   | _=>exact absurd (show false=true from hs) Fz
 | byt i =>
   obtain⟨t,rfl⟩:=rx
   cases y with
   | byt j=>obtain⟨t',rfl⟩:=ry;exact W.ne_bytes (aW I q (congrArg not oC))
   | _=>exact absurd (show false=true from hs) Fz
 | _=>cases y<;>exact absurd (show false=true from hs) Fz
theorem nJ:Ek X (HK .Lt) (C4 fun i j=>.bl (decide (i<j))):=zb fun _ _ _ _ _ _ _ q=>lt_int q
theorem tU:Ek X (HK .Gt) (C4 fun i j=>.bl (decide (j<i))):=zb fun _ _ _ _ _ _ _ q=>gt_int q
theorem za:Ek X (HK .GtE) (C4 fun i j=>.bl (decide (j<=i))):=zb fun _ _ _ _ _ _ _ q=>ge_int q
theorem aQ(b:Expr)(h:autoParam (op ≠ .In) æb._auto_1)(h2:autoParam (op ≠ .NotIn) æb._auto_1):HN op b=false:=by
 have e1:(op==CmpOp.In)=false:=by cases op<;>first|rfl|exact absurd rfl h
 have e2:(op==CmpOp.NotIn)=false:=by cases op<;>first|rfl|exact absurd rfl h2
 cases b<;>simp[HN,e1,e2]
theorem tQ{r:R2}(ho:Ek X (HK op) r)(ha:PE X a ta)(hb:PE X b tb)(hm:HN op b=false):PE X (.Compare a [op] [b] pos) (CF r ta tb):=by
 intro pins s σ H Q I h;exact wpAny_Compare1 (zE ha hb I h fun v u s2 x y H2 I2 rx ry q=>ho pins s2 σ H2 x y v u Q I2 rx ry q) hm
noncomputable def yF(t:TE):TT:=fun σ H Q=>t σ H fun x H'=>∃k,x = .bl k/\Q k H'
theorem nu{r:R2}(ho:Ek X (HK op) r)(ha:PE X a ta)(hb:PE X b tb)(hm:HN op b=false):PT X (.Compare a [op] [b] pos) (yF (CF r ta tb)):=by
 intro pins s σ H Q I h
 refine wpAny_isTrue_Compare1 (Cy (ha pins s σ H _ I h) fun v s1 ⟨x,H1,I1,r1,q1⟩=>Cy (hb pins s1 σ H1 _ I1 q1) fun u s2 ⟨y,H2,I2,r2,q2⟩ =>
  Cy (ho pins s2 σ H2 x y v u _ I2 r1 r2 q2) fun c s3 ⟨z,H3,I3,r3,k,e,q3⟩=>?_) hm
 subst e;cases r3;exact Hn ⟨H3,I3,q3⟩
theorem jc:(sizeLine:Nat)<2^63:=by rw[sizeLine_eq];decide
theorem vals1{x:V}(r:cE [x] us):∃u,us=[u]/\RelV x u:=by
 cases r with
 | cons r1 r2=>cases r2;exact⟨_,rfl,r1⟩
theorem vals2{x y:V}(r:cE [x,y] us):∃u w',us=[u,w']/\RelV x u/\RelV y w':=by
 cases r with
 | cons r1 r2 =>
   cases r2 with
   | cons r3 r4=>cases r4;exact⟨_,_,rfl,r1,r3⟩
theorem qH:eR X (.builtin "abs") (fun xs H Q=>∃i,xs=[.int i]/\Q (.int (if i<0 then -i else i)) H):=by
 intro pins s σ H xs us Q I r h;obtain⟨i,rfl,q⟩:=h;obtain⟨u,rfl,t,rfl⟩:=vals1 r;exact call_abs_int fun u tk=>⟨.int (if i<0 then -i else i),H,I.tok _,⟨_,rfl⟩,q⟩
theorem oU(hc:X.calm=true):eR X (.builtin "min") (fun xs H Q=>∃i j,xs=[.int i,.int j]/\Q (.int (if j<i then j else i)) H):=by
 intro pins s σ H xs us Q I r h;obtain⟨i,j,rfl,q⟩:=h;obtain⟨u,w',rfl,⟨t,rfl⟩,⟨t',rfl⟩⟩:=vals2 r;refine min_two_ints (I.ok.hd hc) fun h' tk k=>⟨_,H,I.kept k,?_,q⟩;by_cases hj:j<i
 · rw[if_pos hj,if_pos hj];exact⟨_,rfl⟩
 · rw[if_neg hj,if_neg hj];exact⟨_,rfl⟩
end
section
variable{prog:Fo}{w:Gc}{A:Gh}{E:EX->EZ->Prop}{s:EZ}{K:W.Frag}{x dx C f:Addr}{mA:Str->Option EX}{name:Str}{v:EX}
end
theorem uK.some_of{v:V}{o:Option EX}(r:uK (some v) o):∃u,o=some u/\RelV v u:=by
 cases o with
 | none=>exact(show False from r).elim
 | some u=>exact⟨u,rfl,r⟩
section
variable{P:Fo}{w:Gc}{H H':Hp}{h h':Heap}{a C dx:Addr}{fs fs':List (Str×V)}
end
section
variable{X:Cx}{pins:List (Addr×Obj)}{σ:St}{H:Hp}{s:EZ}{a C dx:Addr}{fs:List (Str×V)}{f:Str}{v:V}{A:Gh}{E:EX->EZ->Prop}
end
section
variable{X:Cx}{o e value:Expr}{f:Str}{pos pos' tpos:Pos}{ta tv:TE}
end
section
variable{X:Cx}{pins:List (Addr×Obj)}{σ:St}{H:Hp}{s:EZ}{A:Gh}{E:EX->EZ->Prop}{Q:EX->EZ->Prop}{c:EX}{b:Bool}
end
structure Room (k:Nat) (A:Gh):Prop where
 hd:A.handled=none
 dp:A.depth+3*k+5<recursionLimit
 un:A.units+16*k+200<IU
 gd:A.guards=some []
theorem Room.mono{k:Nat}(r:Room k A)(h:j<=k):Room j A:=⟨r.hd,by have:=r.dp;omega,by have:=r.un;omega,r.gd⟩
theorem Room.deeper{k:Nat}(r:Room (k+1) A)(env:Env):Room k (A.deeper env) :=
 ⟨r.hd,by have:=r.dp;show A.depth+1+3*k+5<_;omega,by have:=r.un;show A.units+3+16*k+200<_;omega,r.gd⟩
theorem Room.depth{k:Nat}(r:Room k A):A.depth<recursionLimit:=by have:=r.dp;omega
theorem Room.units{k:Nat}(r:Room k A):A.units+64<IU:=by have:=r.un;omega
noncomputable def Bn:TA:=fun _ H Q=>Q [] H
noncomputable def yN(ta:TE)(tr:TA):TA:=fun σ H Q=>ta σ H fun x H1=>tr σ H1 fun xs H2=>Q (x::xs) H2
section
variable{X:Cx}{e:Expr}{es:List Expr}{te:TE}{t:TA}{pos:Pos}
theorem wM:PA X [] Bn:=fun _ _ _ _ H Q I h=>JF ⟨[],H,I,.nil,h⟩
theorem nH(ha:PE X e te)(hr:PA X es t)(hs:autoParam (E4 (e::es) X.env=(false,eval e X.env)::E4 es X.env) æa._auto_1):PA X (e::es) (yN te t):=by
 intro pos pins s σ H Q I h;rw[hs];show Fm _ _ (spliced ((false,eval e X.env)::GP pos (E4 es X.env))) _ _ s;refine Ie (Cy (ha pins s σ H _ I h) fun u s1 ⟨x,H1,I1,r1,q1⟩=>?_);exact Cy (hr pos pins s1 σ H1 _ I1 q1) fun us s2 ⟨xs,H2,I2,r2,q2⟩=>⟨x::xs,H2,I2,.cons r1 r2,q2⟩
noncomputable def Bh(t:TA):TE:=fun σ H Q=>t σ H fun xs H1=>xs.length<=sizeLine/\∀p,H1 p=none->Q (.ref p) (Co H1 p (.tup xs))
noncomputable def Bo(t:TA):TE:=fun σ H Q=>t σ H fun xs H1=>xs.length<=sizeLine/\∀p,H1 p=none->Q (.ref p) (Co H1 p (.lst xs))
theorem rb{x1}(h:PA X es t):PE X (.Tuple es x1 pos) (Bh t):=by
 intro pins s σ H Q I hq;refine wpAny_Tuple_spliced (Cy (h pos pins s σ H _ I hq) fun us s1 ⟨xs,H1,I1,r,z,q⟩=>⟨by rw[<- r.length];exact z,?_⟩);have hf:H1 s1.heap.objs.size=none:=I1.hok.fresh (E3 _);refine⟨.ref s1.heap.objs.size,Co H1 s1.heap.objs.size (.tup xs),I1.laid (t':=s1.toks) (fun b u e=>EY _ e) (E3 _) ?_,rfl,q _ hf⟩;exact⟨z,us,r,pc.new _ _⟩
theorem wH(h:PA X es t):PE X (.List es pos) (Bo t):=by
 intro pins s σ H Q I hq;refine wpAny_List_spliced (Cy (h pos pins s σ H _ I hq) fun us s1 ⟨xs,H1,I1,r,z,q⟩=>⟨by rw[<- r.length];exact z,?_⟩);have hf:H1 s1.heap.objs.size=none:=I1.hok.fresh (E3 _);refine⟨.ref s1.heap.objs.size,Co H1 s1.heap.objs.size (.lst xs),I1.laid (t':=s1.toks) (fun b u e=>EY _ e) (E3 _) ?_,rfl,q _ hf⟩;exact⟨z,us,0,r,Fa _ rfl⟩
end
abbrev Sp:=List V->Hp->VK->XK->Prop
abbrev EF:=List Env->Hp->EZ->XK->EX->EZ->Prop
structure Env0 (P:Fo) (w:Gc) (K:W.Frag) (mg:Str->Option EX) (base:Heap) (A:Gh) (outer:List Env) (s:EZ) (H:Hp):Prop where
 frames:A.frames=some outer
 mod:Mod K mg base
 bs:∀b o,base.get? b=some o->s.heap.get? b=some o/\H b=none
 bsz:base.objs.size<=s.heap.objs.size
 funs:s.heap.FunFrames base outer
 frf:∀b∈frs outer,H b=none
 hok:EB P w H s.heap
 bare:K1 s.gens
noncomputable def CE(outer:List Env)(P:Fo)(w:Gc)(H:Hp)(s:EZ)(Q:VK)(u:EX)(s':EZ):Prop :=
 ∃v H',s'.os=s.os/\K1 s'.gens/\Un (frs outer) [] H H' s.heap s'.heap/\EB P w H' s'.heap/\RelV v u/\Q v H'
noncomputable def CR(CX:EF)(outer:List Env)(P:Fo)(w:Gc)(H:Hp)(s:EZ)(Q:VK)(E:XK)(r:Lx)(s':EZ):Prop :=
 match r with
 | .ok (.ret u)=>CE outer P w H s Q u s'
 | .ok _=>False
 | .error e=>CX outer H s E e s'
structure FnOk (P:Fo) (w:Gc) (K:W.Frag) (mg:Str->Option EX) (base:Heap) (CX:EF) (k:Nat) (f:Addr) (fd:Hy) (ps:List Str) (sp:Sp):Prop where
 len:∀vs H Q E,sp vs H Q E->vs.length=ps.length
 run:∀(A:Gh)(outer:List Env)(s:EZ)(H:Hp)(args:Args)(us:List EX)(vs:List V)(Q:VK)(E:XK),Room k A->Env0 P w K mg base A outer s H->LJ s fd args (ps.zip us)->cE vs us->sp vs H Q E ->
  G_ (FA P w) A (.call (.ref f) args) (CR CX outer P w H s Q E) s
section
variable{X:Cx}{pins:List (Addr×Obj)}{σ:St}{H:Hp}{s s':EZ}
theorem Inv.env0(I:Inv X pins σ H s):Env0 X.prog X.w X.K X.mg X.base X.A X.stack s H :=
 ⟨I.ok.frames,I.ok.mod,I.bs,Gk I.ok.bsz I.sz,I.stack,I.stkFree,I.hok,I.bare⟩
theorem Inv.after{Q:VK}{u:EX}(I:Inv X pins σ H s)(h:CE X.stack X.prog X.w H s Q u s'):EP X pins σ Q u s':=by
 obtain⟨v,H',os,bare,un,hok,r,q⟩:=h;obtain⟨hh,g,d,t,os'⟩:=s';obtain rfl:os'=s.os:=os;exact⟨v,H',I.call (h':=hh) (g':=g) (d':=d) (t':=t) (ch:=[]) un hok bare (fun b z=>absurd z (by simp)),r,q⟩
end
noncomputable def vP(sp:Sp)(dvs:List V)(E:XK)(t:TA):TE:=fun σ H Q=>t σ H fun vs H1=>sp (vs++dvs) H1 Q E
noncomputable def Binds(K:W.Frag)(fd:Hy)(ps:List Str)(ds:List EX):Prop :=
 ∀(s:EZ)(us:List EX),K.In s.heap->(us++ds).length=ps.length->LJ s fd ⟨us,[]⟩ (ps.zip (us++ds))
theorem Binds.all{K:W.Frag}(h:∀us:List EX,us.length=ps.length->bindArgs fd ⟨us,[]⟩=pure (ps.zip us)):Binds K fd ps []:=fun s us _ hl=>by
 rw[GQ]at hl ⊢;exact .of_eq (h us hl)
noncomputable def o7(CX:EF)(X:Cx)(E:XK):Prop:=∀(pins:List (Addr×Obj))(σ:St)(H:Hp)(s:EZ)(e:EX)(s':EZ),Inv X pins σ H s->CX X.stack H s E e s'->X.xe e s'
section
variable{X:Cx}{CX:EF}{k:Nat}{f C:Addr}{fd:Hy}{ps:List Str}{sp:Sp}{dvs:List V}{ds:List EX}{E:XK}{x m:Str}{p pos apos:Pos}{e o:Expr}{es:List Expr}{ta:TE}{t:TA}
theorem v_{σ:St}{H:Hp}{Q:VK}{vs:List V}(F:FnOk X.prog X.w X.K X.mg X.base CX k f fd ps sp)(hr:Room k X.A)(hb:Binds X.K fd ps ds)(hd:cE dvs ds)(hx:o7 CX X E)
 (I:Inv X pins σ H s)(r:cE vs us)(h:sp (vs++dvs) H Q E):Fm (FA X.prog X.w) X.A (call (.ref f) us) (EP X pins σ Q) X.xe s:=by
 have r2:cE (vs++dvs) (us++ds):=r.append hd;have hl:(us++ds).length=ps.length:=by rw[<- r2.length];exact F.len _ _ _ _ h
 refine wpAny_call (Jo (F.run X.A X.stack s H ⟨us,[]⟩ (us++ds) (vs++dvs) Q E hr I.env0 (hb s us I.kIn hl) r2 h) fun r s' hq=>?_)
 cases r with
 | error e=>exact hx pins σ H s e s' I hq
 | ok fl =>
   cases fl with
   | ret u=>exact I.after hq
   | next=>exact Gx hq
   | brk=>exact Gx hq
   | cont=>exact Gx hq
theorem fT(F:FnOk X.prog X.w X.K X.mg X.base CX k f fd ps sp)(hr:Room k X.A)(hg:Gl X x)(hm:X.mg x=some (.ref f))(hk:W.keepIn X.K (.ref f)=true)(hb:Binds X.K fd ps ds)(hd:cE dvs ds)(hx:o7 CX X E)
 (ha:PA X (e::es) t)(hdb:autoParam ((x==("__debug__" : Str))=false) æb._auto_1)(he:autoParam (E4 (e::es) X.env=(false,eval e X.env)::E4 es X.env) æa._auto_1)(hpl:autoParam ((GP pos (E4 es X.env)).any (·.1)=false) æa._auto_1) :
 PE X (.Call (.Name x p) (e::es) [] pos) (vP sp dvs E t):=by
 intro pins s σ H Q I h;refine Ig (nQ I hg hm ?_ hdb);refine W.callWith_K (h₀:=X.base) I.ok.mod.kin hk (Cy (ha pos pins s σ H _ I h) fun us s1 ⟨vs,H1,I1,r,q⟩=>⟨I1.kIn,?_⟩) he hpl;exact v_ F hr hb hd hx I1 r q
end
section
variable{X:Cx}{CX:EF}{k:Nat}{f C:Addr}{fd:Hy}{ps ks:List Str}{sp:Sp}{E:XK}{x m:Str}{p pos apos kpos:Pos}{e o:Expr}{es:List Expr}{kws:List IJ}{te ta:TE}{t tk:TA}{nm:Option Str}
variable{g:List EX->List EX->List EX}{gV:List V->List V->List V}
end
structure FnScope (N P:List Str) (sc:Scope):Prop where
 kind:sc.kind = .function
 co:sc.isCoroutine=false
 gen:sc.isGenerator=false
 nd:N.Nodup
 pre:N.take P.length=P
 par:∀x∈P,sc.names.lookup x=some .local\/sc.names.lookup x=some .cell
 nofree:∀y∈sc.names,y.2 ≠ .free
theorem jn{kindOf:Str->Option Ih}{x:Str}:∀{binds:List (Str×EX)}{m:Str->Option EX},(∀v,(x,v)∉binds)->bindL kindOf binds m x=m x
 | [],_,_=>rfl
 | (n,v)::r,m,h=>by
   unfold bindL;rw[jn fun w hw=>h w (E9 _ hw)];split
   · have:x≠n:=by rintro rfl;exact h v E7
     simp[this]
   · rfl
theorem jp{kindOf:Str->Option Ih}{x:Str}:∀{binds:List (Str×EX)}{m:Str->Option EX},(∀v,(x,v)∉binds)->bindC kindOf binds m x=m x
 | [],_,_=>rfl
 | (n,v)::r,m,h=>by
   unfold bindC;rw[jp fun w hw=>h w (E9 _ hw)];split
   · rfl
   · have:x≠n:=by rintro rfl;exact h v E7
     simp[this]
theorem jo{kindOf:Str->Option Ih}{x:Str}{v:EX}:∀{P:List Str}{vs:List EX}{i:Nat}{m:Str->Option EX},P.Nodup->P[i]?=some x->vs[i]?=some v->kindOf x=some .local ->
 bindL kindOf (P.zip vs) m x=some v
 | [],_,_,_,_,h,_,_=>by simp at h
 | _::_,[],_,_,_,_,h,_=>by simp at h
 | p::P,w::vs,0,m,nd,h1,h2,hk=>by
   simp at h1 h2;subst h1;subst h2;show bindL kindOf ((p,w)::P.zip vs) m p=_;unfold bindL;rw[jn fun v hv=>(Jb.mp nd).1 (Hq hv).1,if_pos hk]
   simp
 | p::P,w::vs,i+1,m,nd,h1,h2,hk=>by
   show bindL kindOf ((p,w)::P.zip vs) m x=_;unfold bindL;exact jo (i:=i) (Jb.mp nd).2 (by simpa using h1) (by simpa using h2) hk
theorem jq{kindOf:Str->Option Ih}{x:Str}{v:EX}:∀{P:List Str}{vs:List EX}{i:Nat}{m:Str->Option EX},P.Nodup->P[i]?=some x->vs[i]?=some v->kindOf x≠some .local ->
 bindC kindOf (P.zip vs) m x=some v
 | [],_,_,_,_,h,_,_=>by simp at h
 | _::_,[],_,_,_,_,h,_=>by simp at h
 | p::P,w::vs,0,m,nd,h1,h2,hk=>by
   simp at h1 h2;subst h1;subst h2;show bindC kindOf ((p,w)::P.zip vs) m p=_;unfold bindC;rw[jp fun v hv=>(Jb.mp nd).1 (Hq hv).1,if_neg hk]
   simp
 | p::P,w::vs,i+1,m,nd,h1,h2,hk=>by
   show bindC kindOf ((p,w)::P.zip vs) m x=_;unfold bindC;exact jq (i:=i) (Jb.mp nd).2 (by simpa using h1) (by simpa using h2) hk
noncomputable def start(N:List Str)(vs:List V):St:=vs.map some++Fg (N.length-vs.length) none
noncomputable def lZ(CX:EF)(P:Fo)(w:Gc)(K:W.Frag)(mg:Str->Option EX)(base:Heap)(N:List Str)(qual:Str)(scope:Scope)(f:Addr)(cd:EX)(A:Gh)(outer:List Env)(s:EZ)(H:Hp)(E:XK):Cx where
 prog:=P
 w:=w
 K:=K
 mg:=mg
 base:=base
 A:=A.deeper (JG qual scope s.heap.objs.size f cd)
 N:=N
 s₀:=s
 H₀:=H
 env:=JG qual scope s.heap.objs.size f cd
 outer:=outer
 stack:=JG qual scope s.heap.objs.size f cd::outer
 ex:=[]
 calm:=true
 fn:=fun _=>true
 pn:=[]
 xe:=fun e s'=>Fm (FA P w) (A.deeper (JG qual scope s.heap.objs.size f cd)) (leaving (JG qual scope s.heap.objs.size f cd) e) (fun _ s''=>CX outer H s E e s'') (fun e' s''=>CX outer H s E e' s'') s'
theorem lg{sc:Scope}(h:sc.names.lookup x=some .cell):∃c,(GV n sc.names []).lookup x=some c:=by
 have q:=W.cellsFrom_some sc.names n [] (.inl h);exact Hr.mp q
theorem nY{CX:EF}{K:W.Frag}{base:Heap}{cd:EX}{outer:List Env}{s1:EZ}{H:Hp}{E:XK}{vs:List V}
 (S:FnScope N ps scope)(hd:A.handled=none)(e0:Env0 P w K mg base A outer s H)(hl:vs.length=ps.length)(r:cE vs us)
 (x:InCallC s s.heap.objs.size (bindL (JG qual scope s.heap.objs.size f cd).kindOf (ps.zip us) fun _=>none) (GV (s.heap.objs.size+1) scope.names []) (bindC (JG qual scope s.heap.objs.size f cd).kindOf (ps.zip us) fun _=>none) s1) :
 Inv (lZ CX P w K mg base N qual scope f cd A outer s H E) [] (start N vs) H s1:=by
 have hpl:ps.length<=N.length:=by have:=congrArg List.length S.pre;rw[GK]at this;omega
 obtain⟨h1,tk,rfl,hk⟩:=x.done;have noA:∀b:Addr,b∉(lZ CX P w K mg base N qual scope f cd A outer s H E).ex:=fun b z=>absurd (show b∈([]:List Addr)from z) (by simp)
 refine⟨⟨e0.mod,S.kind,rfl,rfl,E3 _,fun y z c h1 h2=>?_,fun y hy=>?_,fun y c _ h=>?_,fun _=>hd,Gh.frames_deeper e0.frames,.inr ⟨rfl,rfl⟩,fun b z=>absurd z (noA b),e0.bs,e0.bsz,fun b _ _=>noA b,fun b z=>absurd z (noA b),e0.funs,e0.frf⟩,
  rfl,e0.bare,Un.kept hk,⟨_,x.toInCall.ns,fun i y v h1 h2 h3=>?_⟩,fun y c h=>⟨_,x.cell y c h⟩,e0.hok.fresh (E3 _),fun y c h=>?_,fun p hp=>absurd (show p∈([]:List (Addr×Obj))from hp) (by simp),e0.hok.kept hk,?_⟩
 · exact name_of_addr x.apart (Go h1) (Go h2)
 · have hy:scope.names.lookup y=some .cell\/scope.names.lookup y=some .free:=hy;rcases hy with hy|hy
   · exact lg hy
   · exact absurd rfl (S.nofree _ (Go hy))
 · exact Lv (x.above y c (Go h))
 · have hi:i<vs.length:=by
     unfold start at h2;by_cases hi:i<vs.length
     · exact hi
     · rw[Jl (by simpa using hi)]at h2;rw[JT]at h2;split at h2<;>cases h2
   have ha:vs[i]?=some v:=by
    unfold start at h2;rw[HV (by simpa using hi),Gr]at h2
    cases e:vs[i]? with
    | none=>rw[e]at h2;cases h2
    | some a=>rw[e]at h2;cases h2;rfl
   obtain⟨u,hu,rv⟩:=r.get ha
   have hp:ps[i]?=some y:=by
    rw[<- S.pre,List.getElem?_take_of_lt (by omega)];exact h1
   have ndP:ps.Nodup:=by rw[<- S.pre];exact S.nd.sublist (List.take_sublist _ _)
   refine⟨u,rv,?_⟩;rcases S.par y (IS hp)with k|k
   · exact .inl ⟨k,jo ndP hp hu k⟩
   · obtain⟨c,e⟩:=lg (n:=s.heap.objs.size+1) k;refine .inr ⟨.inl k,c,e,?_⟩;have q:=x.cell y c e;rw[jq ndP hp hu (by show scope.names.lookup y≠_;rw[k];decide)]at q;exact q
 · exact e0.hok.fresh (Lv (x.above y c (Go h)))
 · unfold start;show _=N.length;rw[Ga,E1,List.length_replicate];omega
theorem zw{CX:EF}{K:W.Frag}{base:Heap}{k:Nat}{name:Str}{params:Arguments}{body:List Stmt}{dV kV doc pm cdv ct oc:EX}{an od:Option Addr}
 {osl:Array (Option EX)}{sp:Sp}(lk:K.lookup f=some ⟨oc,od,.func (W.fnOf name qual params body scope dV kV doc pm an cdv ct),osl⟩)(hcd:W.codeIn K cdv qual=true)(S:FnScope N ps scope)
 (len:∀vs H Q E,sp vs H Q E->vs.length=ps.length)
 (hbody:∀(A:Gh)(outer:List Env)(s:EZ)(H:Hp)(vs:List V)(Q:VK)(E:XK),Room k (A.deeper (JG qual scope s.heap.objs.size f cdv))->sp vs H Q E ->
  ∃t,Eb (lZ CX P w K mg base N qual scope f cdv A outer s H E) body t/\t {nx:=fun _ H'=>Q .non H',rt:=Q} (start N vs) H) :
 FnOk P w K mg base CX (k+1) f (W.fnOf name qual params body scope dV kV doc pm an cdv ct) ps sp:=by
 refine⟨len,fun A outer s H args us vs Q E hr e0 hb r hsp=>?_⟩;have hl:=len _ _ _ _ hsp;have KX:K.In s.heap:=e0.mod.kin.keeps fun b o e=>(e0.bs b o e).1;have lim:s.heap.NoLimit:=e0.mod.nolimit.keeps fun b o e=>(e0.bs b o e).1
 have hkind:∀y∈ps.zip us,scope.names.lookup y.1=some .local\/(scope.names.lookup y.1=some .cell/\((GV (s.heap.objs.size+1) scope.names []).lookup y.1).isSome=true):=fun⟨n,v⟩ hy=>by
  rcases S.par n (Hq hy).1 with q|q
  · exact .inl q
  · exact .inr ⟨q,W.cellsFrom_some _ _ _ (.inl q)⟩
 refine codeAny_call_function hr.depth (KX _ _ lk) rfl S.co S.gen rfl (W.codeRec_of KX hcd) (hb _ _ _ _ ?_);refine wpAny_newFunctionEnv_cells S.kind hkind fun env he s1 x=>?_;subst he;refine⟨lim.keeps x.toInCall.keep,codeAny_func ?_⟩;obtain⟨t,ht,hq⟩:=hbody A outer s H vs Q E (hr.deeper _) hsp;have I:Inv (lZ CX P w K mg base N qual scope f cdv A outer s H E) [] (start N vs) H s1:=nY S hr.hd e0 hl r x;refine FH (ht [] s1 (start N vs) H _ I hq) (fun fl s' hs=>?_) fun e s' hs=>hs
 have fin:∀{σ':St}{H':Hp}{v:V}{u:EX},Inv (lZ CX P w K mg base N qual scope f cdv A outer s H E) [] σ' H' s'->RelV v u->Q v H'->CE outer P w H s Q u s' :=
  fun{σ' H' v u} J rv q=>⟨v,H',J.os,J.bare,J.base,J.hok,rv,q⟩
 cases fl with
 | ret u =>
   obtain⟨v,σ',H',J,rv,q⟩:=hs
   exact fin J rv q
 | next =>
   obtain⟨σ',H',J,q⟩:=hs
   exact fin (v:=V.non) (u:=Hf) J rfl q
 | brk =>
   obtain⟨_,_,_,q⟩:=hs
   exact Gx q
 | cont =>
   obtain⟨_,_,_,q⟩:=hs;exact Gx q
section
variable{X:Cx}{x:Str}{p pos:Pos}{e:Expr}{es:List Expr}{t:TA}{id T:String}{r:List V->Hp->VK->Prop}
noncomputable def CJ(r:List V->Hp->VK->Prop)(t:TA):TE:=fun σ H Q=>t σ H fun vs H1=>r vs H1 Q
theorem pX(hc:eR X (.builtin id) r)(hg:Gl X x)(hm:X.mg x=none)(hv:HJ x=some (.builtin id))(ha:PA X (e::es) t)(hn:autoParam (x ≠ "__name__") æb._auto_1)(hdb:autoParam ((x==("__debug__" : Str))=false) æb._auto_1)
 (he:autoParam (E4 (e::es) X.env=(false,eval e X.env)::E4 es X.env) æa._auto_1)(hpl:autoParam ((GP pos (E4 es X.env)).any (·.1)=false) æa._auto_1):PE X (.Call (.Name x p) (e::es) [] pos) (CJ r t):=by
 intro pins s σ H Q I h;refine Ig (f_ I hg hm hv ?_ hn hdb);exact PyProof.Rows.callWith_builtin1 (Cy (ha pos pins s σ H _ I h) fun us s1 ⟨vs,H1,I1,r1,q1⟩=>hc pins s1 σ H1 vs us Q I1 r1 q1) he hpl
theorem i_(hc:eR X (.type T) r)(hg:Gl X x)(hm:X.mg x=none)(hv:HJ x=some (.type T))(ha:PA X (e::es) t)(hn:autoParam (x ≠ "__name__") æb._auto_1)(hdb:autoParam ((x==("__debug__" : Str))=false) æb._auto_1)
 (he:autoParam (E4 (e::es) X.env=(false,eval e X.env)::E4 es X.env) æa._auto_1)(hpl:autoParam ((GP pos (E4 es X.env)).any (·.1)=false) æa._auto_1):PE X (.Call (.Name x p) (e::es) [] pos) (CJ r t):=by
 intro pins s σ H Q I h;refine Ig (f_ I hg hm hv ?_ hn hdb);exact Gy (Cy (ha pos pins s σ H _ I h) fun us s1 ⟨vs,H1,I1,r1,q1⟩=>hc pins s1 σ H1 vs us Q I1 r1 q1) he hpl
end
end L2
variable{H H' F F' F₀ H₀:L2.Hp}{o:L2.HO}{v:L2.V}{X:L2.Cx}{σ:L2.St}{r:List L2.V->L2.Hp->L2.VK->Prop}{vs:List L2.V}
namespace HT
open PySem PyProof.Rows
section
open PySem.SeqAt
open PySem.AutoSeq1 (wpAny_loadPart')
open PySem.MeetsSeq PySem.MeetsSeq2 PySem.MeetsSeq3
end
section
variable{prog:Fo}{w:Gc}{A:Gh}{E:EX->EZ->Prop}{s:EZ}
theorem cat_tup{t:Addr}{vs ws:List EX}(ht:LG s.heap t vs.toArray)(hb:LG s.heap b ws.toArray)(hv:vs≠[])
 (h1:ws=[]->Q (.ref t) s)(h2:ws≠[]->Q (.ref s.heap.objs.size) {s with heap:=s.heap.push {cls:=.type "tuple", data:=.seq (vs++ws).toArray}})
 (hsz:vs.length+ws.length<=sizeLine):Fm (FA prog w) A (Hw .Add (.ref t) (.ref b)) Q E s:=by
 obtain⟨⟨cls,dd,data,sl⟩,ho,hc,n,hd⟩:=id ht;obtain⟨⟨cls2,dd2,data2,sl2⟩,ho2,hc2,n2,hd2⟩:=id hb;simp only at hc hd hc2 hd2;subst hc hd hc2 hd2;have e:vs.toArray++ws.toArray=(vs++ws).toArray:=by simp
 by_cases hw:ws=[]
 · exact Ly ⟨_,ho,rfl⟩ ⟨_,ho2,rfl⟩ J6 Lg Iq Ii (Ic _ _)
     (tuple_addW1 t b vs.toArray ws.toArray n n2 dd dd2 sl sl2 (by simpa using hv) (by simp[hw])) ⟨ho,ho2,h1 hw⟩
 · refine Ly ⟨_,ho,rfl⟩ ⟨_,ho2,rfl⟩ J6 Lg Iq Ii (Ic _ _)
     (tuple_addW2 t b vs.toArray ws.toArray n n2 dd dd2 sl sl2 (by simpa using hv) (by simpa using hw) (by rw[Fb,Fb];exact hsz)) ⟨ho,ho2,?_⟩
   rw[e];exact h2 hw
noncomputable def sIx(n d:Nat):Option Int->Nat
 | none=>d
 | some v=>if v<0 then(v+(n:Int)).toNat else min v.toNat n
theorem sIx_none(n d:Nat):sIx n d none=d:=rfl
theorem sIx_nat(n d k:Nat):sIx n d (some (k:Int))=min k n:=by
 show(if(k:Int)<0 then((k:Int)+(n:Int)).toNat else min (k:Int).toNat n)=min k n;rw[if_neg (by omega),GX]
theorem v7(n d:Nat)(hd:d<=n)(o:Option Int):sIx n d o<=n:=by
 cases o with
 | none=>exact hd
 | some v =>
   show(if v<0 then(v+(n:Int)).toNat else min v.toNat n)<=n;by_cases hv:v<0
   · rw[if_pos hv];omega
   · rw[if_neg hv];exact Nat.min_le_right _ _
theorem oP(v:Int)(n d:Nat):(if v<0 then max (v+(n:Int)) 0 else min v (n:Int))=((sIx n d (some v):Nat):Int):=by
 show(if v<0 then max (v+(n:Int)) 0 else min v (n:Int))=(((if v<0 then(v+(n:Int)).toNat else min v.toNat n):Nat):Int);by_cases hv:v<0
 · simp only[if_pos hv];omega
 · simp only[if_neg hv];omega
theorem lU(lo hi:Option Int)(n:Nat):HW lo hi 1 (n:Int)=(((sIx n 0 lo:Nat):Int),((sIx n n hi:Nat):Int)):=by
 have h1:¬((1:Int)<0):=by omega
 unfold HW;simp only[h1,if_false];refine Prod.ext ?_ ?_
 · cases lo with
   | none=>rfl
   | some v=>exact oP v n 0
 · cases hi with
   | none=>rfl
   | some v=>exact oP v n n
theorem lK(i j:Nat):Gs (i:Int) (j:Int) 1=j-i:=by
 unfold Gs;have h1:(1:Int)>0:=by omega
 simp only[h1,if_true,Int.ediv_one];split<;>omega
theorem slicePart_{v:EX}{o:Option Int}{Q:Option Int->EZ->Prop}(p:Kn v o)(h:Q o s):Fm (FA prog w) A (Builtin.Slice.slicePartIndex v) Q E s:=by
 cases p with
 | none=>exact slicePart_none h
 | int i t=>exact slicePart_int h
theorem sliceApplied_gen{sl:Addr}{vl vu:EX}{lo hi:Option Int}{Q:Int×Int×Nat->EZ->Prop}(hs:s.heap.IsSliceOf sl vl vu .none)(pl:Kn vl lo)(pu:Kn vu hi)
 (h:Q (((sIx n 0 lo:Nat):Int),1,sIx n n hi-sIx n 0 lo) s):Fm (FA prog w) A (Ha (.ref sl) (pure (n:Int))) Q E s:=by
 obtain⟨os,hos,hcs,hds⟩:=id hs;unfold Ha Jv;refine EU (EU (Gz hos hds (x:=vl) rfl (EU (Gz hos hds (x:=vu) rfl (EU (Gz hos hds (x:=.none) rfl (EW ?_)))))));refine EU (slicePart_none ?_);show Fm _ _ (if((1:Int)==0)=true then _ else _) _ _ s;rw[if_neg (by decide)];refine EU (slicePart_ pl (EU (slicePart_ pu (EU (EW ?_)))));show Fm _ _ (match HW lo hi 1 (n:Int)with|(lo,hi)=>pure (lo,(1:Int),Gs lo hi 1)) _ _ s;rw[lU lo hi n];show Fm _ _ (pure (((sIx n 0 lo:Nat):Int),(1:Int),Gs ((sIx n 0 lo:Nat):Int) ((sIx n n hi:Nat):Int) 1)) _ _ s;rw[lK];exact EW h
theorem pS(xs:Array EX)(i k:Nat):((Gm k).filterMap fun(m:Nat)=>xs[((i:Int)+(m:Int)*1).toNat]?).toArray=((xs.toList.drop i).take k).toArray:=by
 have e:(fun(m:Nat)=>xs[((i:Int)+(m:Int)*1).toNat]?)=fun m=>xs[i+m]?:=by
  funext m;have:((i:Int)+(m:Int)*1).toNat=i+m:=by omega
  rw[this]
 rw[e];have:=pick_run xs i k;rw[List.filterMap_map]at this;have e2:((fun x=>xs[x]?) ∘ fun x=>i+x)=fun m=>xs[i+m]?:=rfl;rw[e2]at this;rw[this]
theorem getItem_tuple_cut{t sl:Addr}{items:Array EX}{vl vu:EX}{lo hi:Option Int}(ht:LG s.heap t items)(hs:s.heap.IsSliceOf sl vl vu .none)(pl:Kn vl lo)(pu:Kn vu hi)
 (hw:¬(sIx items.size 0 lo=0/\sIx items.size items.size hi=items.size))
 (h:Q (.ref s.heap.objs.size) {s with heap:=s.heap.push {cls:=.type "tuple", data:=.seq ((items.toList.drop (sIx items.size 0 lo)).take (sIx items.size items.size hi-sIx items.size 0 lo)).toArray}})
 (hsz:items.size<=sizeLine):Fm (FA prog w) A (Jc (.ref t) (.ref sl)) Q E s:=by
 have htake:sizeOk (.seq ((items.toList.drop (sIx items.size 0 lo)).take (sIx items.size items.size hi-sIx items.size 0 lo)).toArray):=by
  show((items.toList.drop (sIx items.size 0 lo)).take (sIx items.size items.size hi-sIx items.size 0 lo)).toArray.size<=sizeLine;rw[Fb,GK,IK,Hv];omega
 have hj:sIx items.size items.size hi<=items.size:=v7 _ _ (E3 _) hi;obtain⟨os,hos,hcs,hds⟩:=id hs;have hTs:s.TypeIs (.ref sl) "slice" := ⟨os,hos,hcs⟩;unfold Jc
 try with_reducible refine G5 ?_
 first|refine EU (EW ?_)|skip
 refine EU (HP ht.typeIs (by decide) ?_)
 refine EU (FQ (name:=FT "__getitem__") ht.typeIs Fw
  (GD Fw ht.typeIs entry_tuple_getitem ?_ (Jp _ _)))
 show Fm _ _ (Hb (.ref t) >>= _) _ _ s;refine EU (Ij ht ?_);refine EU (Jq hTs ?_);rw[if_pos (by decide)];refine EU (sliceApplied_gen hs pl pu ?_)
 have hno:¬((((sIx items.size 0 lo:Nat):Int)==0&&(1:Int)==1&&(sIx items.size items.size hi-sIx items.size 0 lo)==items.size)=true):=by
  intro q;rw[IL,IL]at q;have q1:((sIx items.size 0 lo:Nat):Int)=0:=eq_of_beq q.1.1;have q2:sIx items.size items.size hi-sIx items.size 0 lo=items.size:=eq_of_beq q.2;exact hw ⟨by omega,by omega⟩
 show Fm _ _ (if(((sIx items.size 0 lo:Nat):Int)==0&&(1:Int)==1&&(sIx items.size items.size hi-sIx items.size 0 lo)==items.size)=true then _ else _) _ _ s;rw[if_neg hno,pS]
 first
  | exact EU (m:=FW _) (FB (EW ⟨_,rfl,EW h⟩) htake)
  | exact EU (m:=FW _) (FB (EU (EW (EW ⟨_,rfl,EW h⟩))) htake)
  | exact EU (EU (m:=FW _) (FB (EW (EW ⟨_,rfl,EW h⟩)) htake))
  | exact EU (EU (m:=FW _) (FB (EW ⟨_,rfl,EW h⟩) htake))
end
end HT
namespace L2
abbrev TO:=St->Hp->(Option Int->Hp->Prop)->Prop
noncomputable def PO(X:Cx)(e:Option Expr)(t:TO):Prop :=
 ∀ (pins:List (Addr×Obj))(s:EZ)(σ:St)(H:Hp)(Q:Option Int->Hp->Prop),Inv X pins σ H s->t σ H Q ->
   Fm (FA X.prog X.w) X.A (evalPart e X.env) (fun u s'=>∃o H',Inv X pins σ H' s'/\Kn u o/\Q o H') X.xe s
noncomputable def sP:TO:=fun _ H Q=>Q none H
noncomputable def yH(t:TE):TO:=fun σ H Q=>t σ H fun x H1=>∃i,x = .int i/\Q (some i) H1
section
variable{X:Cx}{e:Expr}{te:TE}{lo hi:Option Expr}{tl th:TO}{pos p2:Pos}
theorem tH:PO X none sP:=by
 intro pins s σ H Q I h;rw[JU];exact EW ⟨none,H,I,.none,h⟩
theorem jK(h:PE X e te):PO X (some e) (yH te):=by
 intro pins s σ H Q I hw;rw[evalPart_some];refine Cy (h pins s σ H _ I hw) fun u s1 ⟨x,H1,I1,r1,q1⟩=>?_;obtain⟨i,rfl,q⟩:=q1;obtain⟨t,rfl⟩:=r1;exact⟨some i,H1,I1,.int i t,q⟩
noncomputable def D4(X:Cx)(r:V->Option Int->Option Int->Hp->VK->Prop):Prop :=
 ∀ (pins:List (Addr×Obj))(s:EZ)(σ:St)(H:Hp)(x:V)(v vl vu:EX)(lo hi:Option Int)(sl:Addr)(Q:VK),Inv X pins σ H s->RelV x v->s.heap.IsSliceOf sl vl vu .none->Kn vl lo->Kn vu hi->r x lo hi H Q ->
   ∃T id,typeLookup (.type T) "__getitem__" = pure (some (.builtin id))/\s.TypeIs v T/\Fm (FA X.prog X.w) X.A (Jc v (.ref sl)) (EP X pins σ Q) X.xe s
noncomputable def CC(r:V->Option Int->Option Int->Hp->VK->Prop)(te:TE)(tl th:TO):TE:=fun σ H Q=>te σ H fun x H1=>tl σ H1 fun l H2=>th σ H2 fun u H3=>r x l u H3 Q
theorem kJ{r:V->Option Int->Option Int->Hp->VK->Prop}(hr:D4 X r)(he:PE X e te)(hl:PO X lo tl)(hu:PO X hi th):PE X (.Subscript e (.Slice lo hi none p2) pos) (CC r te tl th):=by
 intro pins s σ H Q I h;refine KJ (Cy (he pins s σ H _ I h) fun v s1 ⟨x,H1,I1,r1,q1⟩=>?_);refine LL (Cy (hl pins s1 σ H1 _ I1 q1) fun vl s2 ⟨l,H2,I2,pl,q2⟩=>Cy (hu pins s2 σ H2 _ I2 q2) fun vu s3 ⟨u,H3,I3,pu,q3⟩=>?_);rw[JU];refine EW ?_;have I4:Inv X pins σ H3 {s3 with heap:=s3.heap.push {cls:=.type "slice", data:=.fields #[vl,vu,.none]}}:=I3.kept (t':=s3.toks) fun b ob q=>EY _ q;obtain⟨T,id,hT,ht,hg⟩:=hr pins {s3 with heap:=s3.heap.push {cls:=.type "slice", data:=.fields #[vl,vu,.none]}} σ H3 x v vl vu l u s3.heap.objs.size Q I4 r1 (Jr ..) pl pu q3;show Fm (FA X.prog X.w) X.A (Lh e (.Slice lo hi none p2) v (.ref s3.heap.objs.size)) (EP X pins σ Q) X.xe {s3 with heap:=s3.heap.push {cls:=.type "slice", data:=.fields #[vl,vu,.none]}};exact tail_any (ops:=[.ref s3.heap.objs.size,v]) ht hT hg (by with_unfolding_all rfl)
noncomputable def qC(xs:List V)(lo hi:Option Int):List V:=(xs.drop (HT.sIx xs.length 0 lo)).take (HT.sIx xs.length xs.length hi-HT.sIx xs.length 0 lo)
theorem gu(xs:List V)(lo hi:Option Int):(qC xs lo hi).length<=xs.length:=by
 unfold qC;rw[GK,IK];omega
noncomputable def AM(K:W.Frag):V->Option Int->Option Int->Hp->VK->Prop:=fun x lo hi H Q=>∃a xs,x = .ref a/\D0 K H a xs /\
 ¬(HT.sIx xs.length 0 lo=0/\HT.sIx xs.length xs.length hi=xs.length)/\∀p,H p=none->Q (.ref p) (Co H p (.tup (qC xs lo hi)))
theorem vU:D4 X (AM X.K):=by
 intro pins s σ H x v vl vu lo hi sl Q I rx hs pl pu h;obtain⟨a,xs,rfl,hx,hw,q⟩:=h;cases rx;obtain⟨its,r,ht,hz⟩:=I.tuple hx;have hlen:its.toArray.size=xs.length:=by rw[Fb];exact r.length.symm
 refine⟨"tuple", _,Fw.lookup,ht.typeIs,?_⟩;refine HT.getItem_tuple_cut ht hs pl pu (by rw[hlen];exact hw) ?_ (by rw[hlen];exact hz);rw[hlen];refine⟨.ref s.heap.objs.size,_,I.laid (t':=s.toks) (o:=.tup (qC xs lo hi)) (fun b ob q=>EY _ q) (E3 _) ?_,rfl,q _ (I.hok.fresh (E3 _))⟩;exact⟨Gk (gu xs lo hi) hz,_,(r.drop (HT.sIx xs.length 0 lo)).take (HT.sIx xs.length xs.length hi-HT.sIx xs.length 0 lo),pc.new _ _⟩
noncomputable def sY(K:W.Frag):R2:=fun x y H Q=>∃a b xs ys,x = .ref a/\y = .ref b/\D0 K H a xs/\D0 K H b ys/\xs≠[]/\xs.length+ys.length<=sizeLine /\
 (ys=[]->Q (.ref a) H)/\(ys≠[]->∀p,H p=none->Q (.ref p) (Co H p (.tup (xs++ys))))
theorem cE.nil_iff{xs:List V}(r:cE xs us):us=[]↔xs=[]:=by
 cases r with
 | nil=>simp
 | cons _ _=>simp
theorem tW:Ek X (Hw .Add) (sY X.K):=by
 intro pins s σ H x y v u Q I rx ry h;obtain⟨a,b,xs,ys,rfl,rfl,ha,hb,hx,hz,q1,q2⟩:=h;cases rx;cases ry;obtain⟨its,r1,p1,_⟩:=I.tuple ha;obtain⟨its2,r2,p2,_⟩:=I.tuple hb;refine HT.cat_tup p1 p2 (fun z=>hx (r1.nil_iff.mp z)) (fun z=>⟨.ref a,H,I,rfl,q1 (r2.nil_iff.mp z)⟩) (fun z=>?_) (by rw[<- r1.length,<- r2.length];exact hz);refine⟨.ref s.heap.objs.size,_,I.laid (t':=s.toks) (o:=.tup (xs++ys)) (fun b ob q=>EY _ q) (E3 _) ?_,rfl,q2 (fun w=>z (r2.nil_iff.mpr w)) _ (I.hok.fresh (E3 _))⟩;exact⟨by rw[Ga];exact hz,_,r1.append r2,pc.new _ _⟩
end
noncomputable def ixN(n:Nat)(i:Int):Option Nat:=if 0<=i then(if i<n then some i.toNat else none)else if -(n:Int)<=i then some (i+n).toNat else none
noncomputable def atI{α:Type}(xs:List α)(i:Int):Option α:=(ixN xs.length i).bind fun j=>xs[j]?
theorem nX{i:Int}(h:ixN n i=some j):seqIndex? i n=some j/\j<n /\ -(n:Int)<=i/\i<n:=by
 unfold ixN at h;by_cases h0:0<=i
 · rw[if_pos h0]at h;by_cases h1:i<n
   · rw[if_pos h1]at h;have e:i.toNat=j:=FO h;exact⟨by rw[LM h0 h1,e],by omega,by omega,h1⟩
   · rw[if_neg h1]at h;cases h
 · rw[if_neg h0]at h;by_cases h1 : -(n:Int)<=i
   · rw[if_pos h1]at h;have e:(i+n).toNat=j:=FO h;exact⟨by rw[Lz (by omega) h1,e],by omega,h1,by omega⟩
   · rw[if_neg h1]at h;cases h
theorem jW{xs:List α}{i:Int}{v:α}(h:atI xs i=some v):∃j,seqIndex? i xs.length=some j/\xs[j]?=some v/\j<xs.length /\ -(xs.length:Int)<=i/\i<xs.length:=by
 unfold atI at h
 cases e:ixN xs.length i with
 | none=>rw[e]at h;cases h
 | some j =>
   rw[e]at h;obtain⟨h1,h2,h3,h4⟩:=nX e;exact⟨j,h1,h,h2,h3,h4⟩
theorem o0{xs:List α}{v:α}(h:xs[j]?=some v):atI xs (j:Int)=some v:=by
 have hj:j<xs.length:=(Ff.mp h).1
 have e:ixN xs.length (j:Int)=some j:=by
  unfold ixN;rw[if_pos (by omega),if_pos (by omega)];simp
 unfold atI;rw[e];exact h
noncomputable def jZ(b:Expr):Prop:=∀o i,K4 b false o i=operate [o,i] (Jc o i)
noncomputable def Et(X:Cx)(r:R2):Prop :=
 ∀ (value slice:Expr)(pins:List (Addr×Obj))(s:EZ)(σ:St)(H:Hp)(x y:V)(v u:EX)(Q:VK),Inv X pins σ H s->RelV x v->RelV y u->r x y H Q ->
   K4 slice false v u=operate [v,u] (Jc v u)->Fm (FA X.prog X.w) X.A (Lh value slice v u) (EP X pins σ Q) X.xe s
noncomputable def Em(X:Cx)(id:String)(r:V->List V->Hp->VK->Prop):Prop :=
 ∀ (pins:List (Addr×Obj))(s:EZ)(σ:St)(H:Hp)(x:V)(xs:List V)(v:EX)(us:List EX)(Q:VK),Inv X pins σ H s->RelV x v->cE xs us->r x xs H Q ->
   Fm (FA X.prog X.w) X.A (call (.builtin id) (v::us)) (EP X pins σ Q) X.xe s
section
variable{X:Cx}{a b:Expr}{ta tb:TE}{pos:Pos}
theorem Et.or{r r':R2}(h:Et X r)(h':Et X r'):Et X (fun x y H Q=>r x y H Q\/r' x y H Q):=by
 intro value slice pins s σ H x y v u Q I rx ry q hs;rcases q with q|q
 · exact h value slice pins s σ H x y v u Q I rx ry q hs
 · exact h' value slice pins s σ H x y v u Q I rx ry q hs
theorem wI{r:R2}(hr:Et X r)(ha:PE X a ta)(hb:PE X b tb)(hs:jZ b):PE X (.Subscript a b pos) (CF r ta tb):=by
 intro pins s σ H Q I h;exact KJ (zE ha hb I h fun v u s2 x y H2 I2 rx ry q=>hr a b pins s2 σ H2 x y v u Q I2 rx ry q (hs _ _))
noncomputable def AQ(K:W.Frag):R2:=fun x y H Q=>∃p xs i v,x = .ref p/\y = .int i/\D1 K H p xs/\atI xs i=some v/\Q v H
noncomputable def AN(K:W.Frag):R2:=fun x y H Q=>∃p xs i v,x = .ref p/\y = .int i/\D0 K H p xs/\atI xs i=some v/\Q v H
noncomputable def AO:R2:=fun x y H Q=>∃z i c,x = .str z/\y = .int i/\z.length<=sizeLine/\atI z.cps.toList i=some c/\Q (.str ⟨#[c]⟩) H
theorem zh:Et X (AQ X.K):=by
 intro value slice pins s σ H x y v u Q I rx ry h hs;obtain⟨p,xs,i,z,rfl,rfl,hq,he,q⟩:=h;cases rx;obtain⟨t,rfl⟩:=ry;obtain⟨its,r,pl,hz⟩:=I.list hq;obtain⟨j,h1,h2,h3,h4,h5⟩:=jW he;obtain⟨w,ew,rw'⟩:=r.get h2;have hl:=r.length;have hn:=jc;have fin:EP X pins σ Q w s:=⟨z,H,I,rw',q⟩;by_cases h0:0<=i
 · have hj:i.toNat=j:=by
     rw[LM h0 h5]at h1;exact FO h1
   exact item_listR pl.isList h0 (by omega) (by rw[hj];simpa using ew) fin hs
 · have hj:(i+(its.toArray.size:Int)).toNat=j:=by
     rw[Lz (by omega) h4]at h1;rw[Fb,<- hl];exact FO h1
   exact J_ (x:=w) pl.isList.typeIs slot_list_getitem.lookup
    (wpAny_getItem_list_neg (Q:=fun r s'=>r=w/\EP X pins σ Q r s') pl.isList (by omega) (by rw[Fb]<;>omega) (by omega) (by rw[hj];simpa using ew) ⟨rfl,fin⟩) hs
theorem AT:Et X (AN X.K):=by
 intro value slice pins s σ H x y v u Q I rx ry h hs;obtain⟨p,xs,i,z,rfl,rfl,hq,he,q⟩:=h;cases rx;obtain⟨t,rfl⟩:=ry;obtain⟨its,r,pl,hz⟩:=I.tuple hq;obtain⟨j,h1,h2,h3,h4,h5⟩:=jW he;obtain⟨w,ew,rw'⟩:=r.get h2;have hl:=r.length;have hn:=jc;have fin:EP X pins σ Q w s:=⟨z,H,I,rw',q⟩
 exact J_ (x:=w) pl.typeIs slot_tuple_getitem.lookup
  (getItem_tuple (j:=j) (Q:=fun r s'=>r=w/\EP X pins σ Q r s') pl (by omega) (by omega) (by rw[Fb,<- hl];exact h1) (by simpa using ew) ⟨rfl,fin⟩) hs
theorem xf:Et X AO:=by
 intro value slice pins s σ H x y v u Q I rx ry h hs;obtain⟨z,i,c,rfl,rfl,hz,he,q⟩:=h;obtain⟨t,rfl⟩:=rx;obtain⟨t',rfl⟩:=ry;obtain⟨j,h1,h2,h3,h4,h5⟩:=jW he;have hl:z.cps.toList.length=z.length:=by simp[Str.length]
 rw[hl]at h1 h4 h5;have hn:=jc
 exact tail_any (typeIs_str s z t) slot_str_getitem.lookup (getItem_str (c:=c) (by
  have e1:decide (i < -(2^63:Int))=false:=decide_eq_false (by omega);have e2:decide (i ≥ 2^63)=false:=decide_eq_false (by omega)
  rw[e1,e2,Bool.or_false]) (by rw[h1];simpa using h2) ⟨.str ⟨#[c]⟩,H,I.tok _,⟨_,rfl⟩,q⟩) hs
noncomputable def C3(K:W.Frag):R2:=fun x y H Q=>AQ K x y H Q\/AN K x y H Q\/AO x y H Q
theorem rn:Et X (C3 X.K):=zh.or (AT.or xf)
theorem lN(its:List EX)(n j:Nat)(u:EX):KL (·.setIfInBounds j u) {cls:=.type "list", data:=.seq its.toArray n}={cls:=.type "list", data:=.seq (its.set j u).toArray n}:=by
 simp[KL]
theorem Inv.lst{pins:List (Addr×Obj)}{σ:St}{H:Hp}{s:EZ}{p:Addr}{xs:List V}(I:Inv X pins σ H s)(h:H p=some (.lst xs)) :
 ∃(its:List EX)(n:Nat),cE xs its/\s.heap.get? p=some {cls:=.type "list", data:=.seq its.toArray n}/\xs.length<=sizeLine:=by
 obtain⟨z,its,n,r,e⟩:=I.hok p _ h;exact⟨its,n,r,e,z⟩
theorem Inv.lstUpd{p:Addr}{xs ys:List V}{its':List EX}{n':Nat}{f:Obj->Obj}(I:Inv X pins σ H s)(h:H p=some (.lst xs))
 (ho:s.heap.get? p=some {cls:=.type "list", data:=.seq its.toArray n})(hf:f {cls:=.type "list", data:=.seq its.toArray n}={cls:=.type "list", data:=.seq its'.toArray n' })(r:cE ys its')(hz:ys.length<=sizeLine)(t:Nat) :
 Inv X pins σ (Co H p (.lst ys)) {s with heap:=s.heap.update p f,toks:=t}:=by
 have e:(s.heap.update p f).get? p=some {cls:=.type "list", data:=.seq its'.toArray n' }:=by
  rw[IB f ho (by rw[hf]<;>rfl),hf]
 refine I.write (x:=p) (e:=p) (by rw[h];trivial) (.inl rfl) (fun b u hb q=>(Ka _ _ (II hb)).trans q) ⟨_,e⟩ ?_;exact⟨hz,its',n',r,e⟩
noncomputable def yU:V->V->V->Hp->(Hp->Prop)->Prop:=fun o i v H Q=>∃p xs k j,o = .ref p/\i = .int k/\H p=some (.lst xs)/\ixN xs.length k=some j/\Q (Co H p (.lst (xs.set j v)))
theorem pJ:A6 X yU:=by
 intro pins s σ H o i v ov iv u Q I ro ri rv h;obtain⟨p,xs,k,j,rfl,rfl,hp,hj,q⟩:=h;cases ro;obtain⟨t,rfl⟩:=ri;obtain⟨its,n,r,ho,hz⟩:=I.lst hp;obtain⟨h1,h2,h3,h4⟩:=nX hj;have hl:=r.length;have hn:=jc
 have I':Inv X pins σ (Co H p (.lst (xs.set j v))) {s with heap:=s.heap.update p (KL (·.setIfInBounds j u))} :=
  I.lstUpd hp ho (lN its n j u) (r.set rv j) (by rw[List.length_set];exact hz) s.toks
 by_cases h0:0<=k
 · have hk:k.toNat=j:=by
     rw[LM h0 h4]at h1;exact FO h1
   exact W.ki_setAt ho h0 (by omega) (by rw[Fb,<- hl];exact h4) (by rw[hk];exact⟨_,I',q⟩)
 · have hk:(k+(its.toArray.size:Int)).toNat=j:=by
     rw[Lz (by omega) h3]at h1;rw[Fb,<- hl];exact FO h1
   exact W.ki_setBack ho (by omega) (by rw[Fb,<- hl];exact h3) (by omega) (by rw[hk];exact⟨_,I',q⟩)
theorem iU(lo hi:Option Int)(n:Nat):(Iw lo hi none n).1=((HT.sIx n 0 lo:Nat):Int)/\(Iw lo hi none n).2.1=((HT.sIx n n hi:Nat):Int)/\(Iw lo hi none n).2.2=1:=by
 refine⟨?_,?_,rfl⟩
 · cases lo with
   | none=>simp[Iw,HT.sIx]
   | some i =>
     simp only[Iw,HT.sIx,Option.getD_none,show(1:Int)>0 by decide,if_true];by_cases h:i<0
     · simp only[h,if_true]<;>omega
     · simp only[h,if_false]<;>omega
 · cases hi with
   | none=>simp[Iw,HT.sIx]
   | some i =>
     simp only[Iw,HT.sIx,Option.getD_none,show(1:Int)>0 by decide,if_true];by_cases h:i<0
     · simp only[h,if_true]<;>omega
     · simp only[h,if_false]<;>omega
theorem ie(its:List EX)(lo hi:Option Int):slicePick its.toArray lo hi none=((its.drop (HT.sIx its.length 0 lo)).take (HT.sIx its.length its.length hi-HT.sIx its.length 0 lo)).toArray:=by
 obtain⟨h1,h2,h3⟩:=iU lo hi its.toArray.size;unfold slicePick;rw[h1,h2,h3];simp only[sliceRange_one,pick_run,Fb]<;>rfl
noncomputable def By(K:W.Frag):V->Option Int->Option Int->Hp->VK->Prop:=fun x lo hi H Q=>∃a xs,x = .ref a/\D1 K H a xs/\∀p,H p=none->Q (.ref p) (Co H p (.lst (qC xs lo hi)))
theorem sS:D4 X (By X.K):=by
 intro pins s σ H x v vl vu lo hi sl Q I rx hs pl pu h;obtain⟨a,xs,rfl,hx,q⟩:=h;cases rx;obtain⟨its,r,ht,hz⟩:=I.list hx;have hlen:=r.length;refine⟨"list", _,slot_list_getitem.lookup,ht.isList.typeIs,?_⟩;refine JH ht.isList hs pl pu .none (by simp) ?_ (by rw[Fb]<;>omega);rw[ie,<- hlen];refine⟨.ref s.heap.objs.size,_,I.laid (t':=s.toks) (o:=.lst (qC xs lo hi)) (fun b ob q=>EY _ q) (E3 _) ?_,rfl,q _ (I.hok.fresh (E3 _))⟩;exact⟨Gk (gu xs lo hi) hz,_,0,(r.drop (HT.sIx xs.length 0 lo)).take (HT.sIx xs.length xs.length hi-HT.sIx xs.length 0 lo),Fa _ rfl⟩
theorem jm:eR X (.builtin "len") (fun xs H Q=>∃p ys,xs=[.ref p]/\(D1 X.K H p ys\/D0 X.K H p ys)/\Q (.int ys.length) H):=by
 intro pins s σ H xs us Q I r h;obtain⟨p,ys,rfl,hq,q⟩:=h;obtain⟨u,rfl,rx⟩:=vals1 r;cases rx;have hn:=jc;rcases hq with hq|hq
 · obtain⟨its,r',pl,hz⟩:=I.list hq;have hlen:=r'.length;exact Calls.call_len_list pl.isList (by simp only[Fb]<;>omega) ⟨.int ys.length,H,I.tok _,⟨s.toks+1,by rw[Fb,hlen]⟩,q⟩
 · obtain⟨its,r',pl,hz⟩:=I.tuple hq;have hlen:=r'.length;exact len_tuple pl (by simp only[Fb]<;>omega) ⟨.int ys.length,H,I.tok _,⟨s.toks+1,by rw[Fb,hlen]⟩,q⟩
theorem jl:eR X (.type "list") (fun xs H Q=>∃p ys,xs=[.ref p]/\(D1 X.K H p ys\/D0 X.K H p ys)/\∀l,H l=none->Q (.ref l) (Co H l (.lst ys))):=by
 intro pins s σ H xs us Q I r h;obtain⟨p,ys,rfl,hq,q⟩:=h;obtain⟨u,rfl,rx⟩:=vals1 r;cases rx
 have fin:∀(its:List EX),cE ys its->ys.length<=sizeLine->∀(h':Heap)(c':Nat),(∀b o',s.heap.get? b=some o'->h'.get? b=some o') ->
  h'.get? s.heap.objs.size=some {cls:=.type "list", dict:=none,data:=.seq its.toArray c',slots:=#[]}->EP X pins σ Q (.ref s.heap.objs.size) {s with heap:=h' }:=fun its r' hz h' c' kp e =>
  ⟨.ref s.heap.objs.size,_,I.laid (t':=s.toks) kp (E3 _) (show cD X.prog X.w _ h' _ (.lst ys)from⟨hz,its,c',r',e⟩),rfl,q _ (I.hok.fresh (E3 _))⟩
 rcases hq with hq|hq
 · obtain⟨its,r',pl,hz⟩:=I.list hq;have hlen:=r'.length;obtain⟨o,ho,hc,n,hd⟩:=pl.isList;exact call_list_seq p (.inl rfl) ho hc hd (fun h' c' kp e=>fin its r' hz h' c' kp e) (by simp only[Fb]<;>omega)
 · obtain⟨its,r',pl,hz⟩:=I.tuple hq;have hlen:=r'.length;obtain⟨o,ho,hc,n,hd⟩:=pl;exact call_list_seq p (.inr rfl) ho hc hd (fun h' c' kp e=>fin its r' hz h' c' kp e) (by simp only[Fb]<;>omega)
theorem eB:eR X (.type "tuple") (fun xs H Q=>∃p ys,xs=[.ref p]/\((D1 X.K H p ys/\∀l,H l=none->Q (.ref l) (Co H l (.tup ys)))\/(D0 X.K H p ys/\Q (.ref p) H))):=by
 intro pins s σ H xs us Q I r h;obtain⟨p,ys,rfl,h⟩:=h;obtain⟨u,rfl,rx⟩:=vals1 r;cases rx;rcases h with⟨hq,q⟩|⟨hq,q⟩
 · obtain⟨its,r',pl,hz⟩:=I.list hq;have hlen:=r'.length;refine call_tuple_list pl.isList (fun h' kp=>?_) (by simp only[Fb]<;>omega);have I1:Inv X pins σ H {s with heap:=h' }:=I.kept (t':=s.toks) kp
   have I2:Inv X pins σ (Co H h'.objs.size (.tup ys)) {s with heap:=h'.push {cls:=.type "tuple", data:=.seq its.toArray}} :=
    I1.laid (t':=s.toks) (fun b o e=>EY _ e) (E3 _) (show cD X.prog X.w _ _ _ (.tup ys)from⟨hz,its,r',pc.new _ _⟩)
   exact⟨.ref h'.objs.size,_,I2,rfl,q _ (I1.hok.fresh (E3 _))⟩
 · obtain⟨its,r',pl,hz⟩:=I.tuple hq;exact call_tuple_same pl ⟨.ref p,H,I,rfl,q⟩
noncomputable def Cr(K:W.Frag)(T:String)(x:V)(H:Hp):Prop:=match x with
 | .str _=>T = "str"
 | .int _=>T = "int"
 | .ref p=>(T = "list" /\ ∃xs,D1 K H p xs)\/(T = "tuple" /\ ∃xs,D0 K H p xs) \/
     (T = "dict" /\ ((∃kvs,H p=some (.dK kvs))\/∃kvs,H p=some (.dT kvs)))\/(T = "set" /\ ∃S n,H p=some (.set S n))
 | _=>False
theorem vG{T:String}{x:V}{v:EX}(I:Inv X pins σ H s)(r:RelV x v)(ty:Cr X.K T x H) :
 s.TypeIs v T/\∀a,v = .ref a->∃ob,s.heap.get? a=some ob/\ob.dict=none:=by
 cases x with
 | str z =>
   obtain⟨t,rfl⟩:=r;cases(show T = "str" from ty)
   exact⟨typeIs_str s z t,fun _ e=>nomatch e⟩
 | int i =>
   obtain⟨t,rfl⟩:=r;cases(show T = "int" from ty)
   exact⟨typeIs_int s i t,fun _ e=>nomatch e⟩
 | ref p =>
   cases r;rcases ty with⟨rfl,xs,hq⟩|⟨rfl,xs,hq⟩|⟨rfl,hk⟩|⟨rfl,S,n,hk⟩
   · obtain⟨its,_,pl,_⟩:=I.list hq;refine⟨pl.isList.typeIs,fun a e=>?_⟩;cases e;obtain⟨o,n,e,c,hd,_⟩:=pl;exact⟨o,e,hd⟩
   · obtain⟨o,e1,e2,e3⟩:=I.tupleD hq;refine⟨⟨o,e1,e2⟩,fun a e=>?_⟩;cases e;exact⟨o,e1,e3⟩
   · have z:∃o,s.heap.get? p=some o/\o.ExactDict:=by
       rcases hk with⟨kvs,hk⟩|⟨kvs,hk⟩
       · obtain⟨_,_,_,_,o,_,_,e,ex,_⟩:=I.hok p _ hk;exact⟨o,e,ex⟩
       · obtain⟨_,_,_,_,o,_,_,e,ex,_⟩:=I.hok p _ hk;exact⟨o,e,ex⟩
     obtain⟨o,e,ex⟩:=z;refine⟨⟨o,e,ex.1⟩,fun a e2=>?_⟩;cases e2;exact⟨o,e,ex.2.1⟩
   · obtain⟨o,_,_,_,e,ex,_⟩:=I.hok p _ hk;refine⟨⟨o,e,ex.1⟩,fun a e2=>?_⟩;cases e2
     exact⟨o,e,ex.2.1⟩
 | _=>exact Gx ty
noncomputable def CK(K:W.Frag)(T:String)(r:V->List V->Hp->VK->Prop)(to:TE)(t:TA):TE:=fun σ H Q=>to σ H fun x H1=>Cr K T x H1/\t σ H1 fun xs H2=>r x xs H2 Q
variable{o e:Expr}{es:List Expr}{to:TE}{t:TA}{name:Str}{apos cpos:Pos}{T id:String}{r:V->List V->Hp->VK->Prop}
theorem wJ(pa:PlainAttrs T)(slot:Slot T name id)(hty:typeOf (.builtin id)=pure (.type "method_descriptor"))(hm:Em X id r)(ho:PE X o to)(ha:PA X (e::es) t)
 (hbase:autoParam (Ik o name X.env (eval o X.env)=eval o X.env) æa._auto_1)
 (hfew:autoParam (((GP cpos (E4 (e::es) X.env)).all (fun x=>!x.1)&&(Li cpos (Jd [] X.env)).all (fun x=>x.1.isSome)
  && decide ((e::es).length+([]:List IJ).length+(if([]:List IJ).isEmpty then 0 else 1)<30))=true) æa._auto_1)
 (hline:autoParam ((apos.endLine==cpos.line)=true) æa._auto_1)(hs:autoParam (E4 (e::es) X.env=(false,eval e X.env)::E4 es X.env) æa._auto_1)(hplain:autoParam ((GP cpos (E4 es X.env)).any (·.1)=false) æa._auto_1) :
 PE X (.Call (.Attribute o name apos) (e::es) [] cpos) (CK X.K T r to t):=by
 intro pins s σ H Q I h;refine wpAny_Call_method_late hbase hfew hline rfl (Cy (ho pins s σ H _ I h) fun v s1 ⟨x,H1,I1,r1,ty,q1⟩=>?_);obtain⟨h1,h2⟩:=vG I1 r1 ty;refine⟨T,id,pa,slot,hty,h1,h2,?_⟩;have hA:=ha cpos pins s1 σ H1 _ I1 q1;rw[hs]at hA ⊢;refine Kb (by show(false||(GP cpos (E4 es X.env)).any (·.1))=false;rw[hplain]<;>rfl) (KN ?_);exact Cy hA fun us s2 ⟨vs,H2,I2,r2,q2⟩=>hm pins s2 σ H2 x vs v us Q I2 r1 r2 q2
end
noncomputable def Eo(X:Cx)(id:String)(r:V->List V->Hp->VK->Prop):Prop :=
 ∀ (pins:List (Addr×Obj))(s:EZ)(σ:St)(H:Hp)(x:V)(xs:List V)(v:EX)(us:List EX)(Q:VK),Inv X pins σ H s->RelV x v->cE xs us->r x xs H Q ->
   Fm (FA X.prog X.w) X.A (call (.builtin id) (v::us)) (EP X pins σ Q) X.xe s
theorem cE.one:∀{x:V}{us:List EX},cE [x] us->∃u,us=[u]/\RelV x u
 | _,_,.cons r .nil=>⟨_,rfl,r⟩
theorem cE.reverse{xs:List V}(h:cE xs us):cE xs.reverse us.reverse:=by
 induction h with
 | nil=>exact .nil
 | cons r t ih=>rw[HQ,HQ];exact cE.append ih (.cons r .nil)
theorem cE.rep{xs:List V}{us:List EX}(h:cE xs us):∀k:Nat,cE (Fg k xs).flatten (Fg k us).flatten
 | 0=>.nil
 | k+1=>by
   rw[Gp,Gp,Hs,Hs];exact cE.append h (cE.rep h k)
theorem foldl_rep(its:List EX):∀(k:Nat)(acc:List EX),
 IW (fun x1 x2=>x1++x2) acc.toArray (Fg k its.toArray)=(acc++(Fg k its).flatten).toArray
 | 0,acc=>by simp
 | k+1,acc=>by
   have e:acc.toArray++its.toArray=(acc++its).toArray:=by simp
   have e2:(acc++its)++(Fg k its).flatten=acc++(Fg (k+1) its).flatten:=by
    rw[Gp,Hs,JI]
   rw[<- e2,<- foldl_rep its k (acc++its),<- e,Gp,HL]
section
variable{X:Cx}{pins:List (Addr×Obj)}{σ:St}{H:Hp}{s:EZ}{l b:Addr}{xs ys zs:List V}
theorem Inv.lset{its':List EX}{f:Array EX->Array EX}(I:Inv X pins σ H s)(hH:H l=some (.lst xs))
 (e:s.heap.get? l=some {cls:=.type "list", data:=.seq its.toArray n})(hf:f its.toArray=its'.toArray)(hv:cE ys its')(hz:ys.length<=sizeLine) :
 Inv X pins σ (Co H l (.lst ys)) {s with heap:=s.heap.update l (KL f),toks:=t' }:=by
 have q:=PySem.IsL.update e f;rw[hf]at q;refine I.write (x:=l) (e:=l) (by rw[hH];exact trivial) (.inl rfl) (fun b' u hb hu=>(Ka s.heap (KL f) (II hb)).trans hu) ⟨_,q⟩ ?_;exact⟨hz,its',_,hv,q⟩
theorem Inv.lnew(I:Inv X pins σ H s)(hv:cE ys its)(hz:ys.length<=sizeLine) :
 Inv X pins σ (Co H s.heap.objs.size (.lst ys)) {s with heap:=s.heap.push {cls:=.type "list", data:=.seq its.toArray},toks:=t' } :=
 I.laid (fun _ _ q=>EY _ q) (E3 _) ⟨hz,its,0,hv,Fa _ rfl⟩
theorem Inv.fresh(I:Inv X pins σ H s):H s.heap.objs.size=none:=I.hok.fresh (E3 _)
theorem Inv.lstM(I:Inv X pins σ H s)(hH:H l=some (.lst xs)):xs.length<=sizeLine/\∃(its:List EX)(n:Nat),cE xs its/\xs.length=its.length/\s.heap.get? l=some {cls:=.type "list", data:=.seq its.toArray n}:=by
 obtain⟨z,its,n,r,e⟩:=I.hok l _ hH;exact⟨z,its,n,r,r.length,e⟩
end
section
variable{X:Cx}
noncomputable def ni:V->List V->Hp->VK->Prop:=fun x vs H Q=>∃l xs y,x = .ref l/\vs=[y]/\H l=some (.lst xs)/\xs.length<sizeLine/\Q .non (Co H l (.lst (xs++[y])))
theorem d9:Eo X "list.append" ni:=by
 intro pins s σ H x vs v us Q I rx rv h;obtain⟨l,xs,y,rfl,rfl,hH,hz,q⟩:=h;cases rx;obtain⟨u,rfl,ru⟩:=rv.one;obtain⟨z,its,n,r,hl,e⟩:=I.lstM hH;refine Lq F.slot_list_append ⟨_,e,rfl⟩ F.entry_list_append (F.args_list_append_2 _ _) (PySem.list_append l its.toArray n u (by rw[Fb];omega)) ⟨e,?_⟩;refine⟨.non,_,I.lset (its':=its++[u]) hH e (by simp) (r.append (.cons ru .nil)) ?_,rfl,q⟩;rw[Ga,Ko];omega
noncomputable def AR:R2:=fun x y H Q=>∃l b xs zs,x = .ref l/\y = .ref b/\H l=some (.lst xs)/\H b=some (.lst zs)/\xs.length+zs.length<=sizeLine/\∀p,H p=none->Q (.ref p) (Co H p (.lst (xs++zs)))
theorem wO:Ek X (Hw .Add) AR:=by
 intro pins s σ H x y v u Q I rx ry h;obtain⟨l,b,xs,zs,rfl,rfl,hH,hB,hz,q⟩:=h;cases rx;cases ry;obtain⟨z,its,n,r,hl,e⟩:=I.lstM hH;obtain⟨z2,its2,n2,r2,hl2,e2⟩:=I.lstM hB;refine PySem.P.add_list e e2 ?_ (by rw[Fb,Fb];omega);have ea:its.toArray++its2.toArray=(its++its2).toArray:=by simp
 rw[ea];exact⟨.ref _,_,I.lnew (t':=s.toks) (r.append r2) (by rw[Ga];omega),rfl,q _ I.fresh⟩
theorem uf(xs:List α)(k:Nat):(Fg k xs).flatten.length=k*xs.length:=by
 induction k with
 | zero=>simp
 | succ k ih=>rw[Gp,Hs,Ga,ih,Nat.succ_mul,Nat.add_comm]
end
section
variable{prog:Fo}{w:Gc}{A:Gh}{E:EX->EZ->Prop}{s:EZ}
end
section
variable{X:Cx}
end
section
variable{κ:Type}[DecidableEq κ]
noncomputable def iO(kvs:List (κ×V))(k:κ):Option V:=(kvs.find? fun kv=>decide (kv.1=k)).map (·.2)
noncomputable def gL(kvs:List (κ×V))(k:κ)(v:V):List (κ×V) :=
 if(kvs.any fun kv=>decide (kv.1=k))=true then kvs.map (fun kv=>if kv.1=k then(kv.1,v)else kv)else kvs++[(k,v)]
theorem dt{p:κ×V}{r:List (κ×V)}{k:κ}(e:p.1=k):iO (p::r) k=some p.2:=by simp[iO,GA,e]
theorem ia{p:κ×V}{r:List (κ×V)}{k:κ}(e:¬p.1=k):iO (p::r) k=iO r k:=by simp[iO,GA,e]
theorem kj(k:κ):∀kvs:List (κ×V),(kvs.any fun kv=>decide (kv.1=k))=(iO kvs k).isSome
 | []=>rfl
 | p::r=>by
   rw[JV];by_cases e:p.1=k
   · simp only[dt e,decide_eq_true e,Bool.true_or,Option.isSome_some]
   · rw[ia e,decide_eq_false e,Bool.false_or];exact kj k r
theorem dN(kvs:List (κ×V))(k:κ)(v:V):(gL kvs k v).length<=kvs.length+1:=by
 unfold gL;split
 · rw[E1];omega
 · rw[Ga,Gq,Kp];omega
theorem uK.isSome_eq{o:Option V}{u:Option EX}(r:uK o u):o.isSome=u.isSome:=by
 cases o with
 | none=>cases u with
   | none=>rfl
   | some _=>exact(show False from r).elim
 | some _=>cases u with
   | none=>exact(show False from r).elim
   | some _=>rfl
theorem KV.val{kvs:List (κ×V)}{vs:List (κ×EX)}(r:KV kvs vs)(k:κ):uK (iO kvs k) (Lr vs k):=by
 unfold KV at r
 induction r with
 | nil=>exact HD
 | @cons p q ps qs h t ih =>
   obtain⟨h1,h2⟩:=h;by_cases e:p.1=k
   · have e':q.1=k:=h1.symm.trans e;have b:Lr (q::qs) k=some q.2:=by simp[Lr,GA,e']
     rw[dt e,b];exact h2
   · have e':¬q.1=k:=fun z=>e (h1.trans z);have b:Lr (q::qs) k=Lr qs k:=by simp[Lr,GA,e']
     rw[ia e,b];exact ih
theorem KV.any{kvs:List (κ×V)}{vs:List (κ×EX)}(r:KV kvs vs)(k:κ):(kvs.any fun kv=>decide (kv.1=k))=vs.any fun kv=>decide (kv.1=k):=by
 unfold KV at r
 induction r with
 | nil=>rfl
 | cons h t ih=>rw[JV,JV,ih,h.1]
theorem KV.repl{kvs:List (κ×V)}{vs:List (κ×EX)}(r:KV kvs vs)(k:κ){y:V}{u:EX}(ry:RelV y u) :
 KV (kvs.map fun kv=>if kv.1=k then(kv.1,y)else kv) (vs.map fun kv=>if kv.1=k then(kv.1,u)else kv):=by
 unfold KV at r ⊢
 induction r with
 | nil=>exact .nil
 | @cons p q ps qs h t ih =>
   rw[Fd,Fd];refine .cons ?_ ih;obtain⟨h1,h2⟩:=h;by_cases e:p.1=k
   · rw[if_pos e,if_pos (h1.symm.trans e)];exact⟨h1,ry⟩
   · rw[if_neg e,if_neg (fun z=>e (h1.trans z))];exact⟨h1,h2⟩
theorem KV.put{kvs:List (κ×V)}{vs:List (κ×EX)}(r:KV kvs vs)(k:κ){y:V}{u:EX}(ry:RelV y u):KV (gL kvs k y) (stored vs k u):=by
 unfold gL stored;rw[r.any k];by_cases e:(vs.any fun kv=>decide (kv.1=k))=true
 · rw[if_pos e,if_pos e];exact r.repl k ry
 · rw[if_neg e,if_neg e];exact LN r ⟨rfl,ry⟩
theorem KV.length{kvs:List (κ×V)}{vs:List (κ×EX)}(r:KV kvs vs):kvs.length=vs.length:=GI r
end
theorem qf{k:Ep}{u:EX}(r:RelV (kV k) u):(bP P w).is k u=true:=by
 cases k with
 | inl i=>obtain⟨t,e⟩:=(show ∃t,u=JD i t from r);subst e;exact jO P w i t
 | inr x=>obtain⟨t,e⟩:=(show ∃t,u=La x t from r);subst e;exact jN P w x t
theorem jd{P:Fo}{w:Gc}:∀{ks:List Ep}{us:List EX},cE (ks.map kV) us->ItemsAre (bP P w) ks us
 | [],_,r=>by rw[Gv]at r;cases r;exact .nil
 | k::ks,_,r=>by
   rw[Fd]at r
   cases r with
   | cons h t=>exact .cons (qf h) (jd t)
abbrev KT(H:Hp):List (List Ep×V)->List (List Ep×Addr×EX)->Prop:=GO fun p q=>p.1=q.1/\H q.2.1=some (.tup (p.1.map kV))/\RelV p.2 q.2.2
theorem KT.val{kvs:List (List Ep×V)}{xs:List (List Ep×Addr×EX)}(r:KT H kvs xs)(k:List Ep):uK (iO kvs k) ((Kc xs k).map (·.2)):=by
 induction r with
 | nil=>exact HD
 | @cons p q ps qs h t ih =>
   obtain⟨h1,_,h2⟩:=h;by_cases e:p.1=k
   · have e':q.1=k:=h1.symm.trans e;have b:Kc (q::qs) k=some q.2:=by simp[Kc,GA,e']
     rw[dt e,b];exact h2
   · have e':¬q.1=k:=fun z=>e (h1.trans z);have b:Kc (q::qs) k=Kc qs k:=by simp[Kc,GA,e']
     rw[ia e,b];exact ih
theorem KT.repl{kvs:List (List Ep×V)}{xs:List (List Ep×Addr×EX)}(r:KT H kvs xs)(k:List Ep){y:V}{u:EX}(ry:RelV y u) :
 KT H (kvs.map fun kv=>if kv.1=k then(kv.1,y)else kv) (xs.map (putAt k u)):=by
 induction r with
 | nil=>exact .nil
 | @cons p q ps qs h t ih =>
   rw[Fd,Fd];refine .cons ?_ ih;obtain⟨h1,h2,h3⟩:=h;unfold putAt;by_cases e:p.1=k
   · rw[if_pos e,if_pos (h1.symm.trans e)];exact⟨h1,h2,ry⟩
   · rw[if_neg e,if_neg (fun z=>e (h1.trans z))];exact⟨h1,h2,h3⟩
theorem KT.put{kvs:List (List Ep×V)}{xs:List (List Ep×Addr×EX)}(r:KT H kvs xs)(k:List Ep){y:V}{u:EX}(hb:H b=some (.tup (k.map kV)))(ry:RelV y u) :
 KT H (gL kvs k y) (Jw xs k b u):=by
 have e:(kvs.any fun kv=>decide (kv.1=k))=(Kc xs k).isSome:=by
  rw[kj,(r.val k).isSome_eq,Option.isSome_map]
 unfold gL Jw;rw[e];by_cases q:(Kc xs k).isSome=true
 · rw[if_pos q,if_pos q];exact r.repl k ry
 · rw[if_neg q,if_neg q];exact LN r ⟨rfl,hb,ry⟩
theorem KT.keeps{kvs:List (List Ep×V)}{xs:List (List Ep×Addr×EX)}(r:KT H kvs xs)(ht:∀b ys,H b=some (.tup ys)->H' b=some (.tup ys)):KT H' kvs xs :=
 GO.mapP r fun _ _ z=>⟨z.1,ht _ _ z.2.1,z.2.2⟩
section
variable{P:Fo}{w:Gc}{H:Hp}{h:Heap}{a:Addr}
theorem wb{u:HO}(ok:EB P w H h)(e:Rd H a u):cD P w H h a u:=e.ok ok
theorem uy{kvs:List (Ep×V)}(ok:EB P w H h)(e:Rd H a (.dK kvs)):kvs.length<=sizeLine/\(a==G1)=false/\∃vs,KV kvs vs/\h.DictOf (bP P w) a vs :=
 show cD P w H h a (.dK kvs)from wb ok e
theorem xB{kvs:List (Ep×V)}(ok:EB P w H h)(e:H a=some (.dK kvs)):kvs.length<=sizeLine/\(a==G1)=false/\∃vs,KV kvs vs/\h.DictOf (bP P w) a vs:=uy ok (.inl e)
theorem nT{ks:List Ep}(ok:EB P w H h)(e:H a=some (.tup (ks.map kV))):(Hm (bP P w)).is h ks a:=by
 obtain⟨_,its,r,o,h1,h2,⟨n,h3⟩,_⟩:=(show cD P w H h a (.tup (ks.map kV))from ok a _ e);exact⟨o,its.toArray,n,h1,h2,h3,by simpa using jd r⟩
theorem ux{kvs:List (List Ep×V)}(ok:EB P w H h)(e:Rd H a (.dT kvs)):kvs.length<=sizeLine/\(a==G1)=false /\
 ∃xs,KT H kvs xs/\h.DictOfH (Hm (bP P w)) a xs:=by
 obtain⟨z,y,xs,r,o,es,ep,h1,h2,h3,h4,h5⟩:=(show cD P w H h a (.dT kvs)from wb ok e);refine⟨z,y,xs,r,o,es,ep,h1,h2,h3,h4,fun x hx=>?_,h5⟩
 have all:∀{l:List (List Ep×V)}{m:List (List Ep×Addr×EX)},KT H l m->∀x∈m,(Hm (bP P w)).is h x.1 x.2.1:=by
  intro l m q
  induction q with
  | nil=>intro x hx;exact nomatch hx
  | @cons p q ps qs hq t ih =>
    intro x hx;rcases FV.mp hx with e|hx
    · subst e;exact nT ok (by rw[<- hq.1];exact hq.2.1)
    · exact ih x hx
 exact all r x hx
theorem zx{kvs:List (List Ep×V)}(ok:EB P w H h)(e:H a=some (.dT kvs)):kvs.length<=sizeLine/\(a==G1)=false /\
 ∃xs,KT H kvs xs/\h.DictOfH (Hm (bP P w)) a xs:=ux ok (.inl e)
end
noncomputable def yc(H:Hp)(a:Addr)(y:V)(r:Option V):Prop :=
 (∃kvs k,Rd H a (.dK kvs)/\y=kV k/\r=iO kvs k)\/∃kvs k b,Rd H a (.dT kvs)/\y = .ref b/\H b=some (.tup (k.map kV))/\r=iO kvs k
noncomputable def zM(H:Hp)(a:Addr)(y v:V)(H':Hp):Prop :=
 (∃kvs k,H a=some (.dK kvs)/\y=kV k/\kvs.length<sizeLine/\H'=Co H a (.dK (gL kvs k v))) \/
 ∃kvs k b,H a=some (.dT kvs)/\y = .ref b/\H b=some (.tup (k.map kV))/\kvs.length<sizeLine/\H'=Co H a (.dT (gL kvs k v))
theorem yc.k{H:Hp}{a:Addr}{kvs:List (Ep×V)}{k:Ep}(e:H a=some (.dK kvs)):yc H a (kV k) (iO kvs k):=.inl ⟨kvs,k,.inl e,rfl,rfl⟩
theorem zM.k{H:Hp}{a:Addr}{kvs:List (Ep×V)}{k:Ep}{v:V}(e:H a=some (.dK kvs))(hl:kvs.length<sizeLine):zM H a (kV k) v (Co H a (.dK (gL kvs k v))):=.inl ⟨kvs,k,e,rfl,hl,rfl⟩
section
variable{X:Cx}{pins:List (Addr×Obj)}{σ:St}{H:Hp}{s:EZ}{a:Addr}{y v:V}{u r:EX}{o:Option V}{A:Gh}{E:EX->EZ->Prop}
theorem Inv.big(I:Inv X pins σ H s):G1<s.heap.objs.size:=by
 have h:Gd<s.heap.objs.size:=(I.mod.glob.keeps I.bk).lt;exact Nat.lt_trans (by decide) h
theorem oH(hu:A.units+1<IU)(I:Inv X pins σ H s)(g:yc H a y (some v))(ry:RelV y u)(h:∀w' s',Inv X pins σ H s'->RelV v w'->Q w' s') :
 Fm (FA X.prog X.w) A (Jc (.ref a) u) Q E s:=by
 rcases g with⟨kvs,k,e,ey,l⟩|⟨kvs,k,b,e,ey,eb,l⟩
 · subst ey;obtain⟨z,hd,vs,rel,dd⟩:=uy I.hok e;obtain⟨w',hw,rw'⟩:=uK.some_of (v:=v) (o:=Lr vs k) (by rw[l];exact rel.val k);exact wpAny_getItem_of (qf ry) dd.mapOf hw (h w' _ (I.tok _) rw')
 · subst ey;cases(show u=Ge b from ry);obtain⟨z,hd,xs,rel,dd⟩:=ux I.hok e;obtain⟨w',hw,rw'⟩:=uK.some_of (v:=v) (o:=(Kc xs k).map (·.2)) (by rw[l];exact rel.val k);obtain⟨p,hp,hp2⟩:=HE.mp hw;refine Js (Hg hu) (nT I.hok eb) dd hp ?_;rw[hp2];exact h w' _ (I.tok _) rw'
theorem dq{ob:HO}(I:Inv X pins σ H s)(mu:El (H a))(hs:G7 a s.heap h')(he:∃q,h'.get? a=some q)(new:cD X.prog X.w (Co H a ob) h' a ob) :
 Inv X pins σ (Co H a ob) {s with heap:=h',toks:=t' } :=
 I.write (x:=a) (e:=a) mu (.inl rfl) (fun b q hb z=>(hs.2 b hb).trans z) he new
theorem dk_new{kvs:List (Ep×V)}{vs:List (Ep×EX)}(z:kvs.length<=sizeLine)(hd:(a==G1)=false)(rel:KV kvs vs)(dd:h'.DictOf (bP P w) a vs) :
 cD P w H' h' a (.dK kvs):=⟨z,hd,vs,rel,dd⟩
theorem oG{Q:Unit->EZ->Prop}(hu:A.units+1<IU)(I:Inv X pins σ H s)(g:zM H a y v H')(ry:RelV y u)(rv:RelV v r)(h:∀s',Inv X pins σ H' s'->Q () s') :
 Fm (FA X.prog X.w) A (setItem (.ref a) u r) Q E s:=by
 rcases g with⟨kvs,k,e,ey,l,eH⟩|⟨kvs,k,b,e,ey,eb,l,eH⟩
 · subst ey eH;obtain⟨z,hd,vs,rel,dd⟩:=xB I.hok e;have hz:vs.length<=sizeLine:=by rw[<- rel.length];exact z
   have hl:(gL kvs k v).length<=sizeLine:=by have:=dN kvs k v;omega
   refine wpAny_setItem_pairs (hsz:=hz) (qf ry) dd fun h' dd' hs=>h _ ?_;have he:∃q,h'.get? a=some q:=let ⟨q,_,_,hq,_⟩:=dd';⟨q,hq⟩
   exact dq I (by rw[e];exact HD) hs he (dk_new hl hd (rel.put k rv) dd')
 · subst ey eH;cases(show u=Ge b from ry);obtain⟨z,hd,xs,rel,dd⟩:=zx I.hok e;have hz:xs.length<=sizeLine:=by rw[<- GI rel];exact z
   have hl:(gL kvs k v).length<=sizeLine:=by have:=dN kvs k v;omega
   refine wpAny_setItem_heap (hsz:=hz) (Hg hu) (nT I.hok eb) dd fun h' dd' hs=>h _ ?_;obtain⟨q,es,ep,hq,h2,h3,h4,_,h5⟩:=dd';refine dq I (by rw[e];exact HD) hs ⟨q,hq⟩ ⟨hl,hd,_,(rel.put k eb rv).keeps fun c ys ec=>?_,q,es,ep,hq,h2,h3,h4,h5⟩;rw[ak (zc ec e (fun z=>nomatch z))];exact ec
end
section
variable{X:Cx}{pins:List (Addr×Obj)}{σ:St}{H:Hp}{s:EZ}{a:Addr}{kvs:List (Ep×V)}{k:Ep}{u:EX}{A:Gh}{E:EX->EZ->Prop}
end
noncomputable def o9(i:Expr):Prop:=∀ov iv,K4 i false ov iv=operate [ov,iv] (Jc ov iv)
theorem jz{prog:Fo}{env:Env}{value slice:Expr}{T id:String}
 (hl:typeLookup (.type T) "__getitem__" = pure (some (.builtin id)))(hs:o9 slice)
 (h:Fm (FA prog w) A (eval value env) (fun o s₁=>Fm (FA prog w) A (eval slice env) (fun i s₂=>s₂.TypeIs o T/\Fm (FA prog w) A (Jc o i) Q E s₂) E s₁) E s) :
 Fm (FA prog w) A (eval (.Subscript value slice pos) env) Q E s:=by
 refine KJ (FH h (fun o s₁ h₁=>FH h₁ (fun i s₂ h₂=>?_) fun _ _ x=>x) fun _ _ x=>x);obtain⟨hT,h₂⟩:=h₂;unfold Lh;refine EU ?_;rw[getitemInPython_of_ne hT.not_modules];refine EU (wpAny_specialOf hT hl ?_)
 have fin:Fm (FA prog w) A (K4 slice false o i) (fun r s₃=>Fm (FA prog w) A (letTemporaryGo value o r >>= fun _=>pure r) Q E s₃) E s₂:=by
  rw[hs o i];exact wpAny_operating (FH h₂ (fun r s₃ h₃=>EU (wpAny_letTemporaryGo (EW h₃))) fun _ _ x=>x)
 first
  | exact EW (EU fin)
  | exact EU (EW (EU fin))
  | exact EU fin
theorem jT{y:V}{o:Option V}(I:Inv X pins σ H s)(g:yc H a y o):s.TypeIs (.ref a) "dict" := by
 rcases g with⟨kvs,k,e,_,_⟩|⟨kvs,k,b,e,_,_,_⟩
 · obtain⟨_,_,vs,_,dd⟩:=uy I.hok e;exact dd.typeIs
 · obtain⟨_,_,xs,_,dd⟩:=ux I.hok e;exact dd.typeIs
noncomputable def yM(td ty:TE):TE:=fun σ H Q=>td σ H fun x H1=>ty σ H1 fun y H2=>∃a v,x = .ref a/\yc H2 a y (some v)/\Q v H2
noncomputable def yS(td ty tv:TE):TS:=fun D σ H=>tv σ H fun v H1=>td σ H1 fun x H2=>ty σ H2 fun y H3=>∃a H4,x = .ref a/\zM H3 a y v H4/\D.nx σ H4
section
variable{X:Cx}{o i e value:Expr}{pos pos' tpos:Pos}{td ty tv:TE}
theorem jL(hu:X.A.units+1<IU)(ho:PE X o td)(hi:PE X i ty)(hs:o9 i):PE X (.Subscript o i pos) (yM td ty):=by
 intro pins s σ H Q I h;refine jz HX.lookup hs (Cy (ho pins s σ H _ I h) fun u s1 ⟨x,H1,I1,rx,q1⟩=>Cy (hi pins s1 σ H1 _ I1 q1) fun iv s2 ⟨y,H2,I2,ry,a,v,ex,g,q2⟩=>?_);subst ex;obtain rfl:u=Ge a:=rx;exact⟨jT I2 g,oH hu I2 g ry fun w' s3 I3 rw'=>⟨v,H2,I3,rw',q2⟩⟩
theorem nz(hu:X.A.units+1<IU)(ho:PE X o td)(hi:PE X i ty)(hv:PE X value tv)(hs:GH value (some (.Subscript o i pos')) pos.line X.env=pure false) :
 PS X (.Assign [.Subscript o i pos'] value pos) (yS td ty tv):=by
 intro pins s σ H D I h;refine Kd (Cy (hv pins s σ H _ I h) fun r s1 ⟨v,H1,I1,rv,q1⟩=>Cy (ho pins s1 σ H1 _ I1 q1) fun u s2 ⟨x,H2,I2,rx,q2⟩=>Cy (hi pins s2 σ H2 _ I2 q2) fun iv s3 ⟨y,H3,I3,ry,a,H4,ex,g,q3⟩=>?_) hs;subst ex;obtain rfl:u=Ge a:=rx;exact oG hu I3 g ry rv fun s4 I4=>⟨σ,H4,I4,q3⟩
end
theorem qy(h:Heap)(hb:G1<h.objs.size):cD P w H (h.push {cls:=.type "dict", data:=.dict #[]}) h.objs.size (.dK []) :=
 ⟨FE _,beq_eq_false_iff_ne.mpr (II (FK hb)),[],.nil,Heap.DictOf.new h⟩
section
variable{X:Cx}{pos:Pos}
end
noncomputable def mU:List (TE×TE)->St->Hp->(List (V×V)->Hp->Prop)->Prop
 | [],_,H,Q=>Q [] H
 | (tk,tv)::r,σ,H,Q=>tk σ H fun x H1=>tv σ H1 fun y H2=>mU r σ H2 fun ps H3=>Q ((x,y)::ps) H3
abbrev VV:List (V×V)->List (EX×EX)->Prop:=GO fun p q=>RelV p.1 q.1/\RelV p.2 q.2
noncomputable def Ed(X:Cx)(pos:Pos)(keys:List (Option Expr))(values:List Expr)(trs:List (TE×TE)):Prop :=
 ∀ (pins:List (Addr×Obj))(s:EZ)(σ:St)(H:Hp)(Q:List (V×V)->Hp->Prop),Inv X pins σ H s->mU trs σ H Q ->
   Fm (FA X.prog X.w) X.A (evalPairs (pairTrees keys values X.env pos)) (fun vs s'=>∃ps H',Inv X pins σ H' s'/\VV ps vs/\Q ps H') X.xe s
theorem tG:Ed X pos [] [] []:=fun pins s σ H Q I h=>pairTrees_nil_walk ⟨[],H,I,.nil,h⟩
theorem iu{k v:Expr}{ks:List (Option Expr)}{vs:List Expr}{tk tv:TE}{trs:List (TE×TE)}(hk:PE X k tk)(hv:PE X v tv)(hr:Ed X pos ks vs trs) :
 Ed X pos (some k::ks) (v::vs) ((tk,tv)::trs):=fun pins s σ H Q I h =>
 pairTrees_cons_walk (Cy (hk pins s σ H _ I h) fun u s1 ⟨x,H1,I1,rx,q1⟩=>Cy (hv pins s1 σ H1 _ I1 q1) fun w2 s2 ⟨y,H2,I2,ry,q2⟩ =>
  Cy (hr pins s2 σ H2 _ I2 q2) fun ws s3 ⟨ps,H3,I3,rel,q3⟩=>⟨(x,y)::ps,H3,I3,.cons ⟨rx,ry⟩ rel,q3⟩)
noncomputable def fZ(kvs more:List (Ep×V)):List (Ep×V):=more.foldl (fun acc kv=>gL acc kv.1 kv.2) kvs
theorem KV.merge:∀{more:List (Ep×V)}{rs:List (Ep×EX)}{kvs:List (Ep×V)}{vs:List (Ep×EX)},KV more rs->KV kvs vs->KV (fZ kvs more) (merged vs rs):=by
 intro more rs kvs vs r;unfold KV at r
 induction r generalizing kvs vs with
 | nil=>intro q;exact q
 | @cons p q ps qs h t ih =>
   intro r0
   have e:KV (gL kvs p.1 p.2) (stored vs q.1 q.2):=by
    have:=r0.put p.1 h.2;rw[<- h.1];exact this
   exact ih e
theorem d_:∀(more kvs:List (Ep×V)),(fZ kvs more).length<=kvs.length+more.length
 | [],kvs=>by show kvs.length<=kvs.length+0;omega
 | p::r,kvs=>by
   have h1:=d_ r (gL kvs p.1 p.2);have h2:=dN kvs p.1 p.2;show(fZ (gL kvs p.1 p.2) r).length<=_;rw[Gq];omega
theorem g_{P:Fo}{w:Gc}:∀{kvs:List (Ep×V)}{ws:List (EX×EX)},VV (kvs.map fun kv=>(kV kv.1,kv.2)) ws->∃rs,Carries (bP P w) ws rs/\KV kvs rs
 | [],_,r=>by rw[Gv]at r;cases r;exact⟨[],HD,.nil⟩
 | p::kvs,_,r=>by
   rw[Fd]at r
   cases r with
   | @cons a b as bs h t =>
     obtain⟨rs,c,q⟩:=g_ (P:=P) (w:=w) t;obtain⟨b1,b2⟩:=b;exact⟨(p.1,b2)::rs,⟨qf h.1,rfl,c⟩,.cons ⟨rfl,h.2⟩ q⟩
noncomputable def yL(trs:List (TE×TE)):TE:=fun σ H Q=>∀p,H p=none->mU trs σ (Co H p (.dK [])) fun ps H2=>H2 p=some (.dK [])/\∃kvs:List (Ep×V),ps=kvs.map (fun kv=>(kV kv.1,kv.2))/\kvs.length<=15/\Q (.ref p) (Co H2 p (.dK (fZ [] kvs)))
theorem tP{keys:List (Option Expr)}{values:List Expr}{trs:List (TE×TE)}(h:Ed X pos keys values trs)(hall:keys.all (·.isSome)=true)(hl:keys.length=values.length)(h0:keys≠[])
 (h15:keys.length<=15):PE X (.Dict keys values pos) (yL trs):=by
 intro pins s σ H Q I q;have hn:=I.hok.fresh (E3 s.heap.objs.size);have I1:=I.laid (a:=s.heap.objs.size) (o:=.dK []) (h':=s.heap.push {cls:=.type "dict", data:=.dict #[]}) (t':=s.toks) (fun _ _ q=>EY _ q) (E3 _) (qy s.heap I.big);refine wpAny_Dict_walk (knd:=bP X.prog X.w) hall hl h0 h15 (Cy (h pins _ σ _ _ I1 (q _ hn)) fun ws s2 ⟨ps,H2,I2,rel,e,kvs,ep,lk,q2⟩=>?_);subst ep;obtain⟨rs,c,rk⟩:=g_ (P:=X.prog) (w:=X.w) rel;obtain⟨z,hd,vs0,r0,dd⟩:=xB I2.hok e;cases r0;refine⟨rs,c,dd,fun h' dd' hs=>⟨.ref s.heap.objs.size,_,?_,rfl,q2⟩⟩
 have hz:(fZ [] kvs).length<=sizeLine:=by
  have h1:=d_ kvs [];rw[Kp]at h1;rw[sizeLine_eq];omega
 have he:∃q,h'.get? s.heap.objs.size=some q:=let ⟨q,_,_,hq,_⟩:=dd';⟨q,hq⟩
 exact dq I2 (by rw[e];exact HD) hs he (dk_new hz hd (rk.merge .nil) dd')
structure M2 (X:Cx) (o:Expr) (m:Str) (apos:Pos) (e f:Expr) (cpos:Pos):Prop where
 base:Ik o m X.env (eval o X.env)=eval o X.env
 few:((GP cpos (E4 [e,f] X.env)).all (fun x=>!x.1)&&(Li cpos (Jd [] X.env)).all (fun x=>x.1.isSome)
  && decide (([e,f]:List Expr).length+([]:List IJ).length+(if([]:List IJ).isEmpty then 0 else 1)<30))=true
 line:(apos.endLine==cpos.line)=true
 trees:GP cpos (E4 [e,f] X.env)=[(false,eval e X.env),(false,eval f X.env)]
section
variable{X:Cx}{pins:List (Addr×Obj)}{σ:St}{H:Hp}{s:EZ}{a:Addr}{y d:V}{u r:EX}{o:Option V}{A:Gh}{E:EX->EZ->Prop}
end
section
variable{X:Cx}{o e f:Expr}{apos cpos:Pos}{td ty tx:TE}
end
section
variable{X:Cx}{pins:List (Addr×Obj)}{σ:St}{H:Hp}{s:EZ}{a:Addr}{kvs:List (Ep×V)}{A:Gh}{E:EX->EZ->Prop}
end
section
variable{X:Cx}{pins:List (Addr×Obj)}{σ:St}{H:Hp}{s:EZ}{a:Addr}{y:V}{u:EX}{A:Gh}{E:EX->EZ->Prop}
end
end L2
namespace Att
open PySem PySem.W PySem.Calls PyProof.Rows
theorem ge{P:LV}:∀(ns:List Int)(vs:List EX),WellAll P h vs (ns.map WData.int)->K5 vs ns:=by
 intro ns
 induction ns with
 | nil =>
   intro vs w;rw[Gv]at w;cases w
   exact .nil
 | cons n ns ih =>
   intro vs w;rw[Fd]at w
   cases w with
   | cons a b =>
     cases a;exact .cons _ _ (ih _ b)
theorem m6{l:LW}(hn:l.most=some n){P:LV}{args:List WData}{vals:List EX}
 (hpre:l.row.toRowW.claim.pre args=true)(hwl:WellAll P h vals args) :
 ∃a vs ns,vals=[Ge a]/\args=[WData.list (ns.map WData.int)]/\h.get? a=some {cls:=.type "list", data:=.seq vs.toArray}/\K5 vs ns/\ns.length<=n:=by
 have hsh:WShape.hasAll [] args [.list .int]=true:=(pre_splitW hpre).1;have hc:l.pre.holds [] {args:=args}=true:=(pre_splitW hpre).2;obtain⟨d,r,rfl,h1,h2⟩:=hasAllW_cons hsh;obtain rfl:=hasAllW_nil h2;obtain⟨xs,rfl,h3⟩:=hasW_list h1;obtain⟨ns,rfl⟩:=items_int h3
 have hlen:ns.length<=n:=by
  unfold LW.pre at hc
  have h4:(WTm.not (.lt (.lit (.int (n:Int))) (.len (.arg 0)))).holds [] {args:=[.list (ns.map .int)]}=true:=by
   have h4:=(holds_andW hc).1;rw[hn]at h4;exact h4
  have h5:=condW_of h4 (w_not (w_lt w_lit (w_len_list (w_arg rfl))));rw[E1]at h5;refine Nat.le_of_not_lt fun q=>?_;have q':(n:Int)<((ns.length:Nat):Int):=by omega
  first
   | (rw[decide_eq_true q']at h5;exact absurd h5 (by decide))
   | (simp at h5;omega)
 cases hwl with
 | cons w1 w2 =>
   cases w2
   cases w1 with
   | list ho hall=>exact⟨_,_,ns,rfl,rfl,ho,ge ns _ hall,hlen⟩
theorem nA(l:LW)(args:List WData):l.row.toRowW.claim.post args (.bool true) args=true :=
 postW_of (r:=l.row.toRowW) (X:=(true==true))
  (show WShape.has [] (.bool true) .bool=true by first|rfl|decide|simp[WShape.has,WShape.arms,WShape.armsAll])
  (show(WTm.eq .res (.lit (.bool true))).value [] {args:=args,res:=some (.bool true),after:=args}=some (.bool (true==true))from w_eq_bool (w_res rfl) w_lit) rfl
theorem attach_call{l:LW}{q:Fo}{YP:Gc->Heap->Prop}{d:DefRec}
 (hn:l.most=some n)(hdf:d.params.defaults=[])
 (call:∀(w:Gc)(s₀ s₁:EZ)(mg mb:Str->Option EX)(fa:Addr)(o:Obj)(pm cd doc:EX)(a:Addr)(vs:List EX)(ns:List Int),
  Ground q loose [] XP w s₀ mg mb s₁.heap->YP w s₁.heap ->
  s₁.heap.get? fa=some o->o.data = .func (docDef d.name d.params d.body d.scope pm cd doc)->s₁.heap.CodeRec cd d.name->mg d.name=some (.ref fa) ->
  s₁.heap.get? a=some {cls:=.type "list", data:=.seq vs.toArray}->K5 vs ns->ns.length<=n->s₁.gens = #[] ->
  G_ (FA l.prog w) Ls (.call (.ref fa) ⟨[.ref a],[]⟩) (fun r s'=>r = .ok (.ret (.bool true))/\OldK s₁.heap s'.heap/\s'.os=s₁.os/\K1 s'.gens) s₁) :
 WalkO q loose XP YP l.row.toRowW d [] (fun f vs=>PySem.call f vs):=by
 intro w s₀ s₁ mg mb G Y fa o pm cd doc dV kV ho hd hcd hD hmg hg args vals as hpre hlay hrd hwl hlo;obtain rfl:dV = .none:=Dflts.none hD hdf;obtain rfl:kV = .none:=Dflts.noKw hD;obtain⟨a,vs,ns,rfl,rfl,hobj,hints,hlen⟩:=m6 hn hpre hwl;refine enter_call (Jo (call w s₀ s₁ mg mb fa o pm cd doc a vs ns G Y ho (fd_plain hd) hcd hmg hobj hints hlen hg) fun r s' hq=>?_);obtain⟨rfl,h2,h3,h4⟩:=hq;exact⟨.inl ⟨.bool true,.bool true,[],rfl,fun _=>rfl,.bool true,nA l _,fun _=>⟨List.Pairwise.nil,fun _ hm=>(nomatch hm)⟩⟩,h2,h3,h4⟩
section
variable{prog:Fo}{w:Gc}{A:Gh}{E:EX->EZ->Prop}{s:EZ}{K:Frag}
end
end Att
namespace L2
theorem iN:∀{vs:List EX}{ns:List Int},K5 vs ns->cE (ns.map V.int) vs
 | _,_,.nil=>.nil
 | _,_,.cons n t h=>.cons ⟨t,rfl⟩ (iN h)
noncomputable def zI(H:Hp):Prop:=∀b,H b=none\/∃o xs,H b=some (.frz o (.lst xs))
theorem qa{K:W.Frag}{mb:Str->Option EX}{CX:EF}{k:Nat}{fa:Addr}{sp:Sp}{s₁:EZ}{vs:List EX}
 (KX:K.In s₁.heap)(hns:s₁.heap.Ns Gd mg)(hb:s₁.heap.Ns builtinsNs mb)(hbb:∀x:Str,x ≠ "__name__" -> mb x=HJ x)(hlim:s₁.heap.NoLimit)(hg:s₁.gens = #[])
 (ha:s₁.heap.get? a=some {cls:=.type "list", data:=.seq vs.toArray})(hi:K5 vs ns)(hl:ns.length<=sizeLine)(hr:Room k Ls)
 (F:∀base:Heap,K.In base->base.Ns Gd mg->FnOk P w K mg base CX k fa fd [x] sp)(hbind:∀(s:EZ)(u:EX),LJ s fd ⟨[u],[]⟩ [(x,u)])
 (hsp:∀H:Hp,zI H->D1 K H a (ns.map V.int)->sp [.ref a] H (fun v _=>v = .bl true) fun _ _ _=>False)
 (hCX:∀H e s',CX [] H s₁ (fun _ _ _=>False) e s'->False) :
 G_ (FA P w) Ls (.call (.ref fa) ⟨[.ref a],[]⟩) (fun r s'=>r = .ok (.ret (.bool true))/\OldK s₁.heap s'.heap/\s'.os=s₁.os/\K1 s'.gens) s₁:=by
 have rv:=iN hi;have lenV:=hi.length
 have core:∀H:Hp,zI H->D1 K H a (ns.map V.int)->EB P w H s₁.heap->(∀b,H b≠none->b=a)->(H a≠none->K.lookup a=none) ->
  G_ (FA P w) Ls (.call (.ref fa) ⟨[.ref a],[]⟩) (fun r s'=>r = .ok (.ret (.bool true))/\OldK s₁.heap s'.heap/\s'.os=s₁.os/\K1 s'.gens) s₁:=by
  intro H hO hS hok hA hK;have base_of:∀{b:Addr}{o:Obj},s₁.heap.get? b=some o->H b=none->(qi s₁.heap H).get? b=some o:=fun e n=>qh e n
  have noA:∀{b:Addr}{o:Obj}{es:Array IA}{ep:Nat},s₁.heap.get? b=some o->o.data = .dict es ep->H b=none:=fun{b o es ep} e d=>by
   cases q:H b with
   | none=>rfl
   | some u =>
     have e':b=a:=hA b (by rw[q];simp);subst e';rw[ha]at e;cases e;have d':Data.seq vs.toArray _=Data.dict es ep:=d;cases d'
  have nsK:∀{b:Addr}{m:Str->Option EX},s₁.heap.Ns b m->(qi s₁.heap H).Ns b m:=fun{b m} ⟨o,es,ep,e,d,r⟩=>⟨o,es,ep,base_of e (noA e d),d,r⟩
  have hKb:K.In (qi s₁.heap H):=fun b o e=>base_of (KX b o e) (by
   cases q:H b with
   | none=>rfl
   | some u =>
     have e':b=a:=hA b (by rw[q];simp);subst e'
     rw[hK (by rw[q];simp)]at e;cases e)
  have hM:Mod K mg (qi s₁.heap H):=⟨hKb,nsK hns,⟨mb,nsK hb,hbb⟩,let ⟨mc,h1,h2⟩:=hlim;⟨mc,nsK h1,h2⟩⟩;have e0:Env0 P w K mg (qi s₁.heap H) Ls [] s₁ H:=⟨rfl,hM,fun b o e=>t4 e,Nat.le_of_eq (oa _ _),trivial,fun b hb=>absurd (show b∈([]:List Addr)from hb) (by simp),hok,.of_eq hg⟩;refine Jo ((F _ hKb (nsK hns)).run Ls [] s₁ H ⟨[.ref a],[]⟩ [.ref a] [.ref a] _ _ hr e0 (hbind s₁ (.ref a)) (.cons rfl .nil) (hsp H hO hS)) fun r s' h=>?_
  cases r with
  | error e=>exact(hCX H e s' h).elim
  | ok fl =>
    cases fl with
    | next=>exact Gx h
    | brk=>exact Gx h
    | cont=>exact Gx h
    | ret u =>
      obtain⟨v,H',os,bare,un,hok',r',q⟩:=h;have q':v = .bl true:=q;subst q';obtain rfl:u=Lo true:=r';refine⟨rfl,OldK.of_keep fun b o e=>?_,os,bare⟩
      cases q:H b with
      | none=>exact un.keep b o e q (by intro z;exact absurd (show b∈([]:List Addr)from z) (by simp)) (by simp)
      | some u =>
        rcases hO b with z|⟨ob,xs,z⟩
        · rw[q]at z;cases z
        · have z2:=un.frzs b ob _ z;obtain⟨e1,_⟩:=hok b _ z;obtain⟨e2,_⟩:=hok' b _ z2;rw[e]at e1;cases e1;exact e2
 cases hk:K.lookup a with
 | some o =>
   have e:=KX a o hk;rw[ha]at e;cases e
   refine core (fun _=>none) (fun _=>.inl rfl) (.inr ⟨_,vs.toArray,_,hk,rfl,rfl,rfl,by rw[Fb,lenV];exact hl,by simpa using rv⟩) (fun b u z=>by have z':(none:Option HO)=some u:=z;cases z') (fun b z=>absurd rfl z) fun z=>absurd rfl z
 | none =>
   refine core (fun b=>if b=a then some (.frz {cls:=.type "list", data:=.seq vs.toArray} (.lst (ns.map V.int)))else none) (fun b=>?_) (.inl (.inr ⟨{cls:=.type "list", data:=.seq vs.toArray},if_pos rfl⟩)) (fun b u z=>?_) (fun b z=>?_) fun _=>hk
   · by_cases hb:b=a
     · exact .inr ⟨_,_,if_pos hb⟩
     · exact .inl (if_neg hb)
   · by_cases hb:b=a
     · have z':=(if_pos hb).symm.trans z;cases z';subst hb;exact⟨ha,by rw[E1];exact hl,vs,_,rv,ha⟩
     · have z':=(if_neg hb).symm.trans z;cases z'
   · by_cases hb:b=a
     · exact hb
     · exact absurd (if_neg hb) z
theorem walk_of{l:W.OpenLaw}{k:Nat}{q:Fo}{YP:Gc->Heap->Prop}{d:DefRec}{K:LV->W.Frag}{CX:Gc->EF}{sp:Gc->Sp}
 (hn:l.most=some n)(hn2:n<=sizeLine)(hdf:d.params.defaults=[])(hr:Room k Ls)
 (hY:∀(w:Gc)(h:Heap),YP w h->(K w.params).In h)
 (F:∀(w:Gc)(mg:Str->Option EX)(fa:Addr)(h:Heap),(K w.params).In h->h.Ns Gd mg->mg d.name=some (.ref fa) ->
  ∃ fd:Hy,(∀(s:EZ)(u:EX),LJ s fd ⟨[u],[]⟩ [(x,u)]) /\
    ∀base:Heap,(K w.params).In base->base.Ns Gd mg->FnOk l.prog w (K w.params) mg base (CX w) k fa fd [x] (sp w))
 (hsp:∀(w:Gc)(H:Hp)(a:Addr)(ns:List Int),ns.length<=n->zI H->D1 (K w.params) H a (ns.map V.int)->sp w [.ref a] H (fun v _=>v = .bl true) fun _ _ _=>False)
 (hCX:∀(w:Gc)(H:Hp)(s:EZ)(e:EX)(s':EZ),CX w [] H s (fun _ _ _=>False) e s'->False) :
 W.WalkO q loose XP YP l.row.toRowW d [] (fun f vs=>PySem.call f vs):=by
 refine Att.attach_call hn hdf fun w s₀ s₁ mg mb fa o pm cd doc a vs ns G Y ho hd hcd hmg hobj hints hlen hg=>?_;have KX:=hY w _ Y;obtain⟨fd,hb,hF⟩:=F w mg fa _ KX G.T.g hmg;exact qa KX G.T.g G.T.b G.T.builtins G.T.nolimit hg hobj hints (Gk hlen hn2) hr hF hb (fun H hO hS=>hsp w H a ns hlen hO hS) fun H e s'=>hCX w H s₁ e s'
abbrev EG:EF:=fun _ _ _ _ _ _=>False
abbrev E0:XK:=fun _ _ _=>False
theorem nG:o7 EG X E0:=fun _ _ _ _ _ _ _ h=>h.elim
structure Fun (K:W.Frag) (x qual:Str) (st:Stmt) (f:Addr) (fd:Hy):Prop where
 ex:∃(oc:EX)(od:Option Addr)(kV doc pm:EX)(an:Option Addr)(cdv ct:EX)(osl:Array (Option EX)),
  fd=W.fnOf x qual (defArgs st) (defBody st) (defScope st) .none kV doc pm an cdv ct/\K.lookup f=some ⟨oc,od,.func fd,osl⟩/\W.codeIn K cdv qual=true
 kp:W.keepIn K (.ref f)=true
section
variable{P:Fo}{w:Gc}{K:W.Frag}{mg:Str->Option EX}{base:Heap}
theorem Fun.ok{st:Stmt}{k:Nat}{sp:Sp}(F:Fun K x qual st f fd)(S:FnScope N ps (defScope st))(len:∀vs H Q E,sp vs H Q E->vs.length=ps.length)
 (hbody:∀(cdv:EX)(A:Gh)(outer:List Env)(s:EZ)(H:Hp)(vs:List V)(Q:VK)(E:XK),Room k (A.deeper (JG qual (defScope st) s.heap.objs.size f cdv))->sp vs H Q E ->
  ∃t,Eb (lZ EG P w K mg base N qual (defScope st) f cdv A outer s H E).nox (defBody st) t/\t {nx:=fun _ H'=>Q .non H',rt:=Q} (start N vs) H):FnOk P w K mg base EG (k+1) f fd ps sp:=by
 obtain⟨oc,od,kV,doc,pm,an,cdv,ct,osl,rfl,lk,hcd⟩:=F.ex;refine zw lk hcd S len fun A outer s H vs Q E hr hsp=>?_;obtain⟨t,h,q⟩:=hbody cdv A outer s H vs Q E hr hsp;exact⟨t,h.nox,q⟩
theorem Fun.binds{st:Stmt}(F:Fun K x qual st f fd)
 (h:∀(kV doc pm:EX)(an:Option Addr)(cdv ct:EX)(us:List EX),us.length=ps.length->bindArgs (W.fnOf x qual (defArgs st) (defBody st) (defScope st) .none kV doc pm an cdv ct) ⟨us,[]⟩=pure (ps.zip us)):Binds K fd ps []:=by
 obtain⟨oc,od,kV,doc,pm,an,cdv,ct,osl,rfl,lk,hcd⟩:=F.ex;exact .all (h kV doc pm an cdv ct)
theorem om{st:Stmt}{oc:EX}{od an:Option Addr}{osl:Array (Option EX)}{kV doc pm cdv ct:EX}(l:K.lookup f=some ⟨oc,od,.func (W.fnOf x qual (defArgs st) (defBody st) (defScope st) .none kV doc pm an cdv ct),osl⟩)
 (c:W.codeIn K cdv qual=true)(k:W.keepIn K (.ref f)=true):Fun K x qual st f (W.fnOf x qual (defArgs st) (defBody st) (defScope st) .none kV doc pm an cdv ct):=⟨⟨oc,od,kV,doc,pm,an,cdv,ct,osl,rfl,l,c⟩,k⟩
end
theorem n_{k:Nat}(hr:Room k A):A.units+1<IU:=Hh (Nat.add_le_add_left (by decide:1<=64) _) hr.units
theorem iS(h:n<=1000):n<sizeLine:=Hh h (by decide)
section
variable{X:Cx}
theorem pv(i:Nat)(hN:autoParam (X.N[i]?=some x) æa._auto_1)(hv:autoParam (DR X.env.scope x) æc._auto_1)(hd:autoParam ((x==("__debug__" : Str))=false) æb._auto_1)
 (hcd:autoParam ((x==("__classdict__" : Str))=false) æb._auto_1):PE X (.Name x pos) (AJ i):=cH hN hv hd hcd
end
noncomputable def bJ(H H':Hp):Prop:=∀b o,H b=some o->H' b=some o
theorem bJ.refl(H:Hp):bJ H H:=fun _ _ h=>h
theorem bJ.trans{H1 H2:Hp}(a:bJ H H1)(b:bJ H1 H2):bJ H H2:=fun c o h=>b c o (a c o h)
theorem bJ.free(e:bJ H H'){l:Addr}(h:H' l=Option.none):H l=Option.none:=by
 cases q:H l with
 | none=>rfl
 | some o =>
   rw[e l o q]at h;cases h
section
variable{X:Cx}
end
section
variable{κ:Type}[DecidableEq κ]
end
end L2
namespace L2.VL
structure RlT where
 a:Option Addr
 b:Nat
abbrev RlT.no:RlT:=⟨none,0⟩
abbrev RlT.at'(r:Addr)(b:Nat):RlT:=⟨some r,b⟩
noncomputable def BM:Nat:=2^50000
noncomputable def RO(b:Nat)(F:Hp)(o:HO):Prop:=∃(c:Addr)(ns:List Int)(a l:Int),o = .dK [(Ir "cells", .ref c),(Ir "at", .int a),(Ir "left", .int l)]/\F c=some (.lst (ns.map V.int))/\ns.length<=63/\0<=a/\0<=l/\a+b<2^59990
theorem RO.mono{b:Nat}(s:bJ F F')(h:RO b F o):RO b F' o:=by
 obtain⟨c,ns,a,l,e,q,r⟩:=h;exact⟨c,ns,a,l,e,s _ _ q,r⟩
theorem RO.pay{b b':Nat}(s:b'<=b)(h:RO b F o):RO b' F o:=by
 obtain⟨c,ns,a,l,e,q,h0,h1,h2,h3⟩:=h;exact⟨c,ns,a,l,e,q,h0,h1,h2,by omega⟩
mutual
inductive Rep (K:W.Frag) (F:Hp):V->ET->Prop
 | non:Rep K F .non .none
 | bl (b:Bool):Rep K F (.bl b) (.bool b)
 | int (i:Int):Rep K F (.int i) (.int i)
 | str (x:Str):Rep K F (.str x) (.str x)
 | tup {a:Addr} {vs:List V} {ds:List ET}:D0 K F a vs->Reps K F vs ds->Rep K F (.ref a) (.tuple ds)
 | lst {a:Addr} {vs:List V} {ds:List ET}:F a=some (.lst vs)->Reps K F vs ds->Rep K F (.ref a) (.list ds)
inductive Reps (K:W.Frag) (F:Hp):List V->List ET->Prop
 | nil:Reps K F [] []
 | cons {v:V} {d:ET} {vs:List V} {ds:List ET}:Rep K F v d->Reps K F vs ds->Reps K F (v::vs) (d::ds)
end
theorem cA{K:W.Frag}{xs:List V}(e:bJ H H')(h:D0 K H a xs):D0 K H' a xs:=by
 rcases h with(h|⟨o,h⟩)|h
 · exact .inl (.inl (e _ _ h))
 · exact .inl (.inr ⟨o,e _ _ h⟩)
 · exact .inr h
theorem sW{K:W.Frag}{xs:List V}(e:bJ H H')(h:D1 K H a xs):D1 K H' a xs:=by
 rcases h with(h|⟨o,h⟩)|h
 · exact .inl (.inl (e _ _ h))
 · exact .inl (.inr ⟨o,e _ _ h⟩)
 · exact .inr h
mutual
theorem Rep.mono{K:W.Frag}{F F':Hp}(s:bJ F F'):∀{v:V}{d:ET},Rep K F v d->Rep K F' v d
 | _,_,.non=>.non
 | _,_,.bl b=>.bl b
 | _,_,.int i=>.int i
 | _,_,.str x=>.str x
 | _,_,.tup h r=>.tup (cA s h) (Reps.mono s r)
 | _,_,.lst h r=>.lst (s _ _ h) (Reps.mono s r)
theorem Reps.mono{K:W.Frag}{F F':Hp}(s:bJ F F'):∀{vs:List V}{ds:List ET},Reps K F vs ds->Reps K F' vs ds
 | _,_,.nil=>.nil
 | _,_,.cons h r=>.cons (Rep.mono s h) (Reps.mono s r)
end
theorem Reps.length{K:W.Frag}{F:Hp}:∀{vs:List V}{ds:List ET},Reps K F vs ds->vs.length=ds.length
 | _,_,.nil=>rfl
 | _,_,.cons _ r=>by simp[Reps.length r]
theorem Reps.get{K:W.Frag}{F:Hp}:∀{vs:List V}{ds:List ET}{i:Nat}{d:ET},Reps K F vs ds->ds[i]?=some d->∃v,vs[i]?=some v/\Rep K F v d
 | _,_,_,_,.nil,e=>by simp at e
 | _,_,0,_,.cons h _,e=>by simp at e;subst e;exact⟨_,rfl,h⟩
 | _,_,i+1,d,.cons _ r,e=>by
   obtain⟨v,h1,h2⟩:=Reps.get (i:=i) (d:=d) r (by simpa using e);exact⟨v,by simpa using h1,h2⟩
theorem Reps.append{K:W.Frag}{F:Hp}:∀{vs us:List V}{ds es:List ET},Reps K F vs ds->Reps K F us es->Reps K F (vs++us) (ds++es)
 | _,_,_,_,.nil,s=>s
 | _,_,_,_,.cons h r,s=>.cons h (Reps.append r s)
theorem Reps.snoc{K:W.Frag}{ds:List ET}(r:Reps K F vs ds)(h:Rep K F v d):Reps K F (vs++[v]) (ds++[d]):=r.append (.cons h .nil)
theorem Reps.take{K:W.Frag}{F:Hp}:∀{vs:List V}{ds:List ET}(n:Nat),Reps K F vs ds->Reps K F (vs.take n) (ds.take n)
 | _,_,0,_=>.nil
 | _,_,_+1,.nil=>.nil
 | _,_,n+1,.cons h r=>.cons h (Reps.take n r)
theorem Reps.drop{K:W.Frag}{F:Hp}:∀{vs:List V}{ds:List ET}(n:Nat),Reps K F vs ds->Reps K F (vs.drop n) (ds.drop n)
 | _,_,0,r=>r
 | _,_,_+1,.nil=>.nil
 | _,_,n+1,.cons _ r=>Reps.drop n r
theorem Reps.nil_iff{K:W.Frag}(h:Reps K F vs []):vs=[]:=by cases h;rfl
mutual
theorem Rep.reads{X:Cx}{pins:List (Addr×Obj)}{σ:St}{H F:Hp}{s:EZ}(I:Inv X pins σ H s)(sub:bJ F H):∀{v:V}{d:ET},Rep X.K F v d->∀u,RelV v u->∃as,Reads s.heap u d as
 | _,_,.non,u,r=>by cases(show u=Hf from r);exact⟨_,.none⟩
 | _,_,.bl b,u,r=>by cases(show u=Lo b from r);exact⟨_,.bool b⟩
 | _,_,.int i,u,r=>by obtain⟨t,q⟩:=(show ∃t,u=JD i t from r);cases q;exact⟨_,.int i t⟩
 | _,_,.str x,u,r=>by obtain⟨t,q⟩:=(show ∃t,u=La x t from r);cases q;exact⟨_,.str x t⟩
 | _,_,.tup (a:=a) h q,u,r=>by
   cases(show u=Ge a from r);obtain⟨its,rv,⟨o,h1,h2,n,h3⟩,hz⟩:=I.tuple (cA sub h);obtain⟨as,ra⟩:=Reps.reads I sub q its rv
   exact⟨_,.tuple h1 h2 h3 (by simpa using ra)⟩
 | _,_,.lst (a:=a) h q,u,r=>by
   cases(show u=Ge a from r);obtain⟨its,rv,p,hz⟩:=I.list (.inl (.inl (sub _ _ h)));obtain⟨o,h1,h2,n,h3⟩:=p.isList;obtain⟨as,ra⟩:=Reps.reads I sub q its rv;exact⟨_,.list h1 h2 h3 (by simpa using ra)⟩
theorem Reps.reads{X:Cx}{pins:List (Addr×Obj)}{σ:St}{H F:Hp}{s:EZ}(I:Inv X pins σ H s)(sub:bJ F H):∀{vs:List V}{ds:List ET},Reps X.K F vs ds->∀us,cE vs us->∃as,ReadsAll s.heap us ds as
 | _,_,.nil,us,r=>by cases r;exact⟨_,.nil⟩
 | _,_,.cons h q,us,r=>by
   cases r with
   | cons r1 r2 =>
     obtain⟨as,a1⟩:=Rep.reads I sub h _ r1;obtain⟨bs,a2⟩:=Reps.reads I sub q _ r2;exact⟨_,.cons a1 a2⟩
end
structure ReelOk (b:Nat) (F H:Hp) (r:Addr):Prop where
 ex:∃o,H r=some o/\RO b F o
noncomputable def D7(rl:RlT)(F H:Hp):Prop:=∀r,rl.a=some r->F r=none/\ReelOk rl.b F H r
theorem D7.live{rl:RlT}(h:D7 rl F H){r:Addr}(e:rl.a=some r):∃o,H r=some o:=by
 obtain⟨_,⟨o,q,_⟩⟩:=h r e;exact⟨_,q⟩
structure Grow (rl:RlT) (F H F' H':Hp):Prop where
 same:∀b o,H b=some o->rl.a≠some b->H' b=some o
 fs:bJ F F'
 sub:bJ F' H'
 old:∀b o,H b=some o->F' b=F b
 reel:D7 rl F' H'
theorem Grow.refl{rl:RlT}{F H:Hp}(s:bJ F H)(r:D7 rl F H):Grow rl F H F H:=⟨fun _ _ e _=>e,.refl F,s,fun _ _ _=>rfl,r⟩
theorem Grow.live{rl:RlT}{F H F' H':Hp}(g:Grow rl F H F' H'){b:Addr}{o:HO}(e:H b=some o):∃o',H' b=some o':=by
 by_cases h:rl.a=some b
 · exact g.reel.live h
 · exact⟨o,g.same b o e h⟩
theorem Grow.trans{rl:RlT}{F H F1 H1 F2 H2:Hp}(a:Grow rl F H F1 H1)(b:Grow rl F1 H1 F2 H2):Grow rl F H F2 H2 :=
 ⟨fun c o e n=>b.same c o (a.same c o e n) n,a.fs.trans b.fs,b.sub,fun c o e=>by obtain⟨o',e'⟩:=a.live e;rw[b.old c o' e',a.old c o e],b.reel⟩
theorem Grow.freeB{rl:RlT}(g:Grow rl F H F' H')(e:H' b=none):H b=none:=by
 cases q:H b with
 | none=>rfl
 | some o=>obtain⟨o',e'⟩:=g.live q;rw[e]at e';cases e'
theorem Grow.laid{rl:RlT}(s:bJ F H)(r:D7 rl F H)(n:H a=none):Grow rl F H F (Co H a o):=by
 have ne:∀b u,H b=some u->b≠a:=fun b u e=>aG e n;refine⟨fun b u e _=>by rw[ak (ne b u e)];exact e,.refl F,fun b u e=>by rw[ak (ne b u (s b u e))];exact s b u e,fun _ _ _=>rfl,fun q e=>?_⟩;obtain⟨z,⟨u,h1,h2⟩⟩:=r q e;exact⟨z,⟨u,by rw[ak (ne _ _ h1)];exact h1,h2⟩⟩
theorem Grow.data{rl:RlT}(s:bJ F H)(r:D7 rl F H)(n:H a=none):Grow rl F H (Co F a o) (Co H a o):=by
 have ne:∀b u,H b=some u->b≠a:=fun b u e=>aG e n;have neF:∀b u,F b=some u->b≠a:=fun b u e=>ne b u (s b u e);refine⟨fun b u e _=>by rw[ak (ne b u e)];exact e,fun b u e=>by rw[ak (neF b u e)];exact e,fun b u e=>?_,fun b u e=>by rw[ak (ne b u e)],fun q e=>?_⟩
 · by_cases hb:b=a
   · subst hb;rw[ar]at e ⊢;exact e
   · rw[ak hb]at e ⊢;exact s b u e
 · obtain⟨z,⟨u,h1,h2⟩⟩:=r q e;exact⟨by rw[ak (ne _ _ h1)];exact z,⟨u,by rw[ak (ne _ _ h1)];exact h1,RO.mono (fun b u e=>by rw[ak (neF b u e)];exact e) h2⟩⟩
theorem Grow.freeze{rl:RlT}{F1 H1:Hp}(g:Grow rl F H F1 H1)(n:H a=none)(e:H1 a=some o)(f:F1 a=none)(hr:rl.a≠some a):Grow rl F H (Co F1 a o) H1:=by
 have neF:∀b u,F1 b=some u->b≠a:=fun b u q z=>by subst z;rw[f]at q;cases q
 refine⟨g.same,fun b u q=>by rw[ak (neF b u (g.fs b u q))];exact g.fs b u q,fun b u q=>?_,fun b u q=>by rw[ak (aG q n)];exact g.old b u q,fun q z=>?_⟩
 · by_cases hb:b=a
   · subst hb;rw[ar]at q;rw[e];exact q
   · rw[ak hb]at q;exact g.sub b u q
 · obtain⟨z1,⟨u,h1,h2⟩⟩:=g.reel q z;exact⟨by rw[ak (fun y=>hr (by rw[<- y];exact z))];exact z1,⟨u,h1,RO.mono (fun b u e=>by rw[ak (neF b u e)];exact e) h2⟩⟩
inductive W where
 | d (x:ET)
 | ml (xs:List ET)
 | pk (xs:List ET)
 | reel
 | vv (v:V)
 | md (kvs:List (List Ep×ET))
 | mk (kvs:List (Ep×ET))
 | xm (kvs:List (List Int×ET))
 | nt (ds:List ET)
 | lk
 | sc (ns:List Int)
 | fd (kvs:List (Ep×ET))
 | xr (kvs:List (List Int×ET))
 | xw (a:Addr) (kvs:List (List Int×ET))
 | fw (kvs:List (Ep×ET))
 | ft (kvs:List (List Ep×ET))
 | xc (x:Str) (fs:List (Str×ET))
 | dp (kvs:List (Ep×ET)) (x:ET)
noncomputable def W.dat:W->Option ET
 | .d x=>some x
 | .ml xs=>some (.list xs)
 | .pk xs=>some (.list xs)
 | .nt ds=>some (.tuple ds)
 | _=>none
noncomputable def W.peek:W->W
 | .ml xs=>.pk xs
 | .md _=>.lk
 | .mk _=>.lk
 | .xm _=>.lk
 | w=>w
noncomputable def W.own:W->Bool
 | .ml _=>true
 | .md _=>true
 | .mk _=>true
 | .xm _=>true
 | _=>false
abbrev KD(K:W.Frag)(F:Hp):List (List Ep×V)->List (List Ep×ET)->Prop:=GO fun p q=>p.1=q.1/\Rep K F p.2 q.2
abbrev Es(K:W.Frag)(F:Hp):List (Ep×V)->List (Ep×ET)->Prop:=GO fun p q=>p.1=q.1/\Rep K F p.2 q.2
abbrev Er(K:W.Frag)(F:Hp):List (Str×V)->List (Str×ET)->Prop:=GO fun p q=>p.1=q.1/\Rep K F p.2 q.2
noncomputable def zL(e C dx:Addr):Heap->Prop:=fun h=>∃oe vs,h.get? e=some oe/\oe.cls = .ref C/\oe.dict=some dx/\oe.data = .fields vs
noncomputable def rP(K:W.Frag)(rl:RlT)(F H:Hp)(v:V)(kvs:List (List Ep×ET)):Prop:=∃a us,v = .ref a/\F a=none/\rl.a≠some a/\H a=some (.dT us)/\KD K F us kvs
noncomputable def DAt(a:Addr)(xs:List (List Int×Addr×EX)):Heap->Prop:=fun h=>∃o es ep,h.get? a=some o/\o.ExactDict/\o.data = .dict es ep/\(∀(P:Fo)(w:Gc),es.toList=xs.map (Lp (Hm (IZ P w))))/\(xs.map (·.1)).Nodup/\(a==G1)=false/\xs.length<=sizeLine
noncomputable def DAtO(a:Addr)(u:List (List Int×Addr×EX)×Obj):Heap->Prop:=fun h=>DAt a u.1 h/\h.get? a=some u.2
noncomputable def KX(K:W.Frag)(F:Hp):List (List Int×Addr×EX)->List (List Int×ET)->Prop:=GO fun p q=>p.1=q.1/\D0 K F p.2.1 (p.1.map V.int)/\∃v,RelV v p.2.2/\Rep K F v q.2
theorem KX.mono{K:W.Frag}{F F':Hp}{xs:List (List Int×Addr×EX)}{kvs:List (List Int×ET)}(h:KX K F xs kvs)(s:bJ F F'):KX K F' xs kvs:=GO.mapP h fun _ _ z=>⟨z.1,cA s z.2.1,let ⟨v,r,q⟩:=z.2.2;⟨v,r,q.mono s⟩⟩
noncomputable def ls(K:W.Frag)(rl:RlT)(F H:Hp)(v:V)(kvs:List (List Int×ET)):Prop:=∃a xs,v = .ref a/\F a=none/\rl.a≠some a/\H a=some (.ext (DAt a xs))/\KX K F xs kvs
noncomputable def rO(K:W.Frag)(rl:RlT)(F H:Hp)(v:V)(kvs:List (Ep×ET)):Prop:=∃a us,v = .ref a/\F a=none/\rl.a≠some a/\H a=some (.dK us)/\Es K F us kvs
noncomputable def iJ(K:W.Frag)(rl:RlT)(F H:Hp)(v:V)(xs:List ET):Prop:=∃a vs,v = .ref a/\F a=none/\rl.a≠some a/\H a=some (.lst vs)/\Reps K F vs xs
noncomputable def c7(K:W.Frag)(rl:RlT)(F H:Hp)(v:V):W->Prop
 | .d x=>Rep K F v x
 | .ml xs=>iJ K rl F H v xs
 | .pk xs=>iJ K rl F H v xs
 | .reel=>∃r,rl.a=some r/\v = .ref r
 | .vv u=>v=u
 | .md kvs=>rP K rl F H v kvs
 | .mk kvs=>rO K rl F H v kvs
 | .xm kvs=>ls K rl F H v kvs
 | .nt ds=>∃a vs,v = .ref a/\F a=some (.tup vs)/\Reps K F vs ds
 | .lk=>True
 | .sc ns=>∃a,v = .ref a/\D1 K F a (ns.map V.int)
 | .fd kvs=>∃a us,v = .ref a/\F a=some (.dK us)/\Es K F us kvs
 | .xr kvs=>∃a us,v = .ref a/\F a=some (.ext (DAtO a us))/\KX K F us.1 kvs
 | .xw a kvs=>∃us,v = .ref a/\F a=some (.ext (DAtO a us))/\KX K F us.1 kvs
 | .fw kvs=>∃a us o,v = .ref a/\F a=some (.frz o (.dK us))/\Es K F us kvs
 | .ft kvs=>∃a us o,v = .ref a/\F a=some (.frz o (.dT us))/\KD K F us kvs
 | .xc x fs=>∃e dx us C,v = .ref e/\W.nsIn K Gd x=some (some (.ref C))/\F e=some (.ext (zL e C dx))/\F dx=some (.xd us)/\Er K F us fs
 | .dp kvs x=>∃a b us u o,v = .ref a/\F a=some (.tup [.ref b,u])/\F b=some (.frz o (.dK us))/\Es K F us kvs/\Rep K F u x
theorem rP.grow{K:W.Frag}{rl:RlT}{kvs:List (List Ep×ET)}(g:Grow rl F H F' H')(r:rP K rl F H v kvs):rP K rl F' H' v kvs:=by
 obtain⟨a,us,rfl,h1,h2,h3,h4⟩:=r;exact⟨a,us,rfl,by rw[g.old a _ h3];exact h1,h2,g.same a _ h3 h2,GO.mapP h4 fun _ _ z=>⟨z.1,z.2.mono g.fs⟩⟩
theorem rO.grow{K:W.Frag}{rl:RlT}{kvs:List (Ep×ET)}(g:Grow rl F H F' H')(r:rO K rl F H v kvs):rO K rl F' H' v kvs:=by
 obtain⟨a,us,rfl,h1,h2,h3,h4⟩:=r;exact⟨a,us,rfl,by rw[g.old a _ h3];exact h1,h2,g.same a _ h3 h2,GO.mapP h4 fun _ _ z=>⟨z.1,z.2.mono g.fs⟩⟩
theorem ls.grow{K:W.Frag}{rl:RlT}(g:Grow rl F H F' H')(r:ls K rl F H v kvs):ls K rl F' H' v kvs:=by
 obtain⟨a,us,rfl,h1,h2,h3,h4⟩:=r;exact⟨a,us,rfl,by rw[g.old a _ h3];exact h1,h2,g.same a _ h3 h2,h4.mono g.fs⟩
theorem iJ.grow{K:W.Frag}{rl:RlT}(g:Grow rl F H F' H')(r:iJ K rl F H v xs):iJ K rl F' H' v xs:=by
 obtain⟨a,vs,rfl,h1,h2,h3,h4⟩:=r;exact⟨a,vs,rfl,by rw[g.old a _ h3];exact h1,h2,g.same a _ h3 h2,h4.mono g.fs⟩
theorem c7.grow{K:W.Frag}{rl:RlT}{F H F' H':Hp}{v:V}{w:W}(g:Grow rl F H F' H')(r:c7 K rl F H v w):c7 K rl F' H' v w:=by
 cases w with
 | d x=>exact Rep.mono g.fs r
 | ml xs=>exact iJ.grow g r
 | pk xs=>exact iJ.grow g r
 | reel=>exact r
 | vv u=>exact r
 | md kvs=>exact rP.grow g r
 | mk kvs=>exact rO.grow g r
 | xm kvs=>exact ls.grow g r
 | nt ds=>obtain⟨a,vs,e,h,q⟩:=r;exact⟨a,vs,e,g.fs _ _ h,q.mono g.fs⟩
 | lk=>trivial
 | sc ns=>obtain⟨a,e,h⟩:=r;exact⟨a,e,sW g.fs h⟩
 | fd kvs=>obtain⟨a,us,e,h,q⟩:=r;exact⟨a,us,e,g.fs _ _ h,GO.mapP q fun _ _ z=>⟨z.1,z.2.mono g.fs⟩⟩
 | xr kvs=>obtain⟨a,us,e,h,q⟩:=r;exact⟨a,us,e,g.fs _ _ h,KX.mono q g.fs⟩
 | xw a kvs=>obtain⟨us,e,h,q⟩:=r;exact⟨us,e,g.fs _ _ h,KX.mono q g.fs⟩
 | fw kvs=>obtain⟨a,us,o,e,h,q⟩:=r;exact⟨a,us,o,e,g.fs _ _ h,GO.mapP q fun _ _ z=>⟨z.1,z.2.mono g.fs⟩⟩
 | ft kvs=>obtain⟨a,us,o,e,h,q⟩:=r;exact⟨a,us,o,e,g.fs _ _ h,GO.mapP q fun _ _ z=>⟨z.1,z.2.mono g.fs⟩⟩
 | xc _ _=>obtain⟨a,dx,us,C,e,n,h1,h2,q⟩:=r;exact⟨a,dx,us,C,e,n,g.fs _ _ h1,g.fs _ _ h2,GO.mapP q fun _ _ z=>⟨z.1,z.2.mono g.fs⟩⟩
 | dp _ _=>obtain⟨a,b,us,u,o,e,h1,h2,q,z⟩:=r;exact⟨a,b,us,u,o,e,g.fs _ _ h1,g.fs _ _ h2,GO.mapP q fun _ _ z=>⟨z.1,z.2.mono g.fs⟩,z.mono g.fs⟩
theorem c7.peek{K:W.Frag}{rl:RlT}{w:W}(r:c7 K rl F H v w):c7 K rl F H v w.peek:=by cases w<;>first|exact r|trivial
theorem iJ.rep{K:W.Frag}{rl:RlT}(s:bJ F H)(r:iJ K rl F H v xs):Rep K H v (.list xs):=by
 obtain⟨a,vs,rfl,h1,h2,h3,h4⟩:=r;exact .lst h3 (h4.mono s)
theorem c7.dat{K:W.Frag}{rl:RlT}{w:W}{x:ET}(s:bJ F H)(r:c7 K rl F H v w)(e:w.dat=some x):Rep K H v x:=by
 cases w with
 | d y=>cases e;exact Rep.mono s r
 | ml xs=>cases e;exact iJ.rep s r
 | pk xs=>cases e;exact iJ.rep s r
 | reel=>cases e
 | vv u=>cases e
 | md kvs=>cases e
 | mk kvs=>cases e
 | xm kvs=>cases e
 | nt ds=>cases e;obtain⟨a,vs,rfl,h,q⟩:=r;exact .tup (.inl (.inl (s _ _ h))) (q.mono s)
 | lk=>cases e
 | sc _=>cases e
 | fd _=>cases e
 | xr _=>cases e
 | xw _ _=>cases e
 | fw _=>cases e
 | ft _=>cases e
 | xc _ _=>cases e
 | dp _ _=>cases e
theorem c7.items{K:W.Frag}{rl:RlT}{w:W}(s:bJ F H)(r:c7 K rl F H v w)(e:w.dat=some (.list xs)):∃a vs,v = .ref a/\D1 K H a vs/\Reps K F vs xs:=by
 have own:iJ K rl F H v xs->∃a vs,v = .ref a/\D1 K H a vs/\Reps K F vs xs:=fun⟨a,vs,e1,_,_,e2,e3⟩=>⟨a,vs,e1,.inl (.inl e2),e3⟩
 cases w with
 | d y =>
   cases e
   cases(show Rep K F v (.list xs)from r)with
   | lst h q=>exact⟨_,_,rfl,.inl (.inl (s _ _ h)),q⟩
 | ml ys=>cases e;exact own r
 | pk ys=>cases e;exact own r
 | reel=>cases e
 | vv u=>cases e
 | md kvs=>cases e
 | mk kvs=>cases e
 | xm kvs=>cases e
 | nt ds=>cases e
 | lk=>cases e
 | sc _=>cases e
 | fd _=>cases e
 | xr _=>cases e
 | xw _ _=>cases e
 | fw _=>cases e
 | ft _=>cases e
 | xc _ _=>cases e
 | dp _ _=>cases e
theorem c7.itemsT{K:W.Frag}{rl:RlT}{w:W}(s:bJ F H)(r:c7 K rl F H v w)(e:w.dat=some (.tuple xs)):∃a vs,v = .ref a/\D0 K H a vs/\Reps K F vs xs:=by
 cases w with
 | d y =>
   cases e
   cases(show Rep K F v (.tuple xs)from r)with
   | tup h q=>exact⟨_,_,rfl,cA s h,q⟩
 | ml ys=>cases e
 | pk ys=>cases e
 | reel=>cases e
 | vv u=>cases e
 | md kvs=>cases e
 | mk kvs=>cases e
 | xm kvs=>cases e
 | nt ds=>cases e;obtain⟨a,vs,rfl,h,q⟩:=r;exact⟨a,vs,rfl,.inl (.inl (s _ _ h)),q⟩
 | lk=>cases e
 | sc _=>cases e
 | fd _=>cases e
 | xr _=>cases e
 | xw _ _=>cases e
 | fw _=>cases e
 | ft _=>cases e
 | xc _ _=>cases e
 | dp _ _=>cases e
noncomputable def dB(H:Hp)(v:V):W->Prop
 | .ml _=>∀a,v = .ref a->H a=none
 | .md _=>∀a,v = .ref a->H a=none
 | .mk _=>∀a,v = .ref a->H a=none
 | .xm _=>∀a,v = .ref a->H a=none
 | _=>True
theorem c7.live{K:W.Frag}{rl:RlT}{w:W}(r:c7 K rl F H v w)(h:w.own=true):∃a o,v = .ref a/\H a=some o:=by
 cases w with
 | ml xs=>obtain⟨a,vs,e,_,_,hh,_⟩:=r;exact⟨a,_,e,hh⟩
 | md xs=>obtain⟨a,vs,e,_,_,hh,_⟩:=r;exact⟨a,_,e,hh⟩
 | mk xs=>obtain⟨a,vs,e,_,_,hh,_⟩:=r;exact⟨a,_,e,hh⟩
 | xm xs=>obtain⟨a,vs,e,_,_,hh,_⟩:=r;exact⟨a,_,e,hh⟩
 | _=>cases h
theorem dB.none{w:W}(n:dB H v w)(h:w.own=true)(e:v = .ref a):H a=none:=by
 cases w with
 | ml xs=>exact n a e
 | md xs=>exact n a e
 | mk xs=>exact n a e
 | xm xs=>exact n a e
 | _=>cases h
abbrev En:=List (Option W)
structure VR (K:W.Frag) (rl:RlT) (F₀ H₀ F H:Hp) (σ:St) (ρ:En):Prop where
 g:Grow rl F₀ H₀ F H
 sl:∀(i:Nat) w,ρ[i]?=some (some w)->∃v,σ[i]?=some (some v)/\c7 K rl F H v w/\dB H₀ v w
 ap:∀(i j:Nat)(x y:W) v,i≠j->ρ[i]?=some (some x)->ρ[j]?=some (some y)->x.own=true->y.own=true->σ[i]?=some (some v)->σ[j]?=some (some v)->False
 np:∀(i:Nat) xs,ρ[i]?≠some (some (W.pk xs))
 len:ρ.length=σ.length
section
variable{K:W.Frag}{rl:RlT}{F₀ H₀ F H F' H':Hp}{σ:St}{ρ:En}
theorem VR.sub(r:VR K rl F₀ H₀ F H σ ρ):bJ F H:=r.g.sub
theorem VR.reel(r:VR K rl F₀ H₀ F H σ ρ):D7 rl F H:=r.g.reel
theorem VR.grow(r:VR K rl F₀ H₀ F H σ ρ)(g:Grow rl F H F' H'):VR K rl F₀ H₀ F' H' σ ρ :=
 ⟨r.g.trans g,fun i w e=>let ⟨v,e1,e2,e3⟩:=r.sl i w e;⟨v,e1,e2.grow g,e3⟩,r.ap,r.np,r.len⟩
theorem VR.set(r:VR K rl F₀ H₀ F H σ ρ){H1 F1:Hp}(g:Grow rl F H F1 H1){w:W}(rw':c7 K rl F1 H1 v w)(hn:dB H v w)(hp:∀xs,w ≠ .pk xs)(i:Nat):VR K rl F₀ H₀ F1 H1 (σ.set i (some v)) (ρ.set i (some w)):=by
 have r1:=r.grow g;refine⟨r1.g,fun j w' e=>?_,fun j k xs ys u hjk e1 e2 w1 w2 s1 s2=>?_,fun j xs z=>?_,by simp[r.len]⟩
 · by_cases hj:i=j
   · subst hj
     have hi:i<ρ.length:=by
      rw[F_]at e;by_cases hi:i<ρ.length
      · exact hi
      · simp[hi]at e
     rw[Fj hi]at e;cases e;refine⟨v,by rw[Fj (by rw[<- r.len];exact hi)],rw',?_⟩
     cases w with
     | ml xs=>exact fun a ea=>r.g.freeB (hn a ea)
     | d x=>trivial
     | pk xs=>trivial
     | reel=>trivial
     | vv u=>trivial
     | md xs=>exact fun a ea=>r.g.freeB (hn a ea)
     | mk xs=>exact fun a ea=>r.g.freeB (hn a ea)
     | xm xs=>exact fun a ea=>r.g.freeB (hn a ea)
     | nt ds=>trivial
     | lk=>trivial
     | sc _=>trivial
     | fd _=>trivial
     | xr _=>trivial
     | xw _ _=>trivial
     | fw _=>trivial
     | ft _=>trivial
     | xc _ _=>trivial
     | dp _ _=>trivial
   · rw[E_ hj]at e;obtain⟨u,h1,h2,h3⟩:=r1.sl j w' e;exact⟨u,by rw[E_ hj];exact h1,h2,h3⟩
 · have key:∀(k:Nat)(x y:W),ρ[k]?=some (some y)->some (some w)=some (some x)->x.own=true->y.own=true->σ[k]?=some (some v)->False:=fun k x y d2 e1 o1 o2 s2=>by
     cases e1;obtain⟨u',h1,h2,h3⟩:=r.sl k _ d2;rw[s2]at h1;cases h1;obtain⟨a,o,ea,hh⟩:=h2.live o2;rw[hn.none o1 ea]at hh;cases hh
   by_cases hj:i=j
   · subst hj;have hk:i≠k:=hjk
     have hi:i<ρ.length:=by
      rw[F_]at e1;by_cases hi:i<ρ.length
      · exact hi
      · simp[hi]at e1
     rw[Fj hi]at e1;rw[E_ hk]at e2 s2;rw[Fj (by rw[<- r.len];exact hi)]at s1;cases s1;exact key k xs ys e2 e1 w1 w2 s2
   · by_cases hk:i=k
     · subst hk
       have hi:i<ρ.length:=by
        rw[F_]at e2;by_cases hi:i<ρ.length
        · exact hi
        · simp[hi]at e2
       rw[Fj hi]at e2;rw[E_ hj]at e1 s1;rw[Fj (by rw[<- r.len];exact hi)]at s2;cases s2;exact key j ys xs e1 e2 w2 w1 s1
     · rw[E_ hj]at e1 s1;rw[E_ hk]at e2 s2;exact r.ap j k xs ys u hjk e1 e2 w1 w2 s1 s2
 · rw[F_]at z;split at z
   · split at z
     · exact hp xs (FO (FO z))
     · cases z
   · exact r.np j xs z
end
abbrev TV:=En->(W->Prop)->Prop
abbrev TB:=En->(Bool->Prop)->Prop
abbrev DU:=En->(List W->Prop)->Prop
abbrev eC(K:W.Frag)(rl:RlT)(F H:Hp):List V->List W->Prop:=GO (c7 K rl F H)
noncomputable def PV(X:Cx)(rl:RlT)(e:Expr)(f:TV):Prop:=∃t,PE X e t/\∀{F₀ H₀ F H:Hp}{σ:St}{ρ:En},VR X.K rl F₀ H₀ F H σ ρ->∀(Qd:W->Prop)(Q:VK),f ρ Qd ->
 (∀v w F' H',Grow rl F H F' H'->c7 X.K rl F' H' v w->dB H v w->Qd w->Q v H')->t σ H Q
noncomputable def PB(X:Cx)(rl:RlT)(e:Expr)(f:TB):Prop:=∃t,PT X e t/\∀{F₀ H₀ F H:Hp}{σ:St}{ρ:En},VR X.K rl F₀ H₀ F H σ ρ->∀(Qd:Bool->Prop)(Q:Bool->Hp->Prop),f ρ Qd ->
 (∀b F' H',Grow rl F H F' H'->Qd b->Q b H')->t σ H Q
noncomputable def D9(X:Cx)(rl:RlT)(es:List Expr)(f:DU):Prop:=∃t,PA X es t/\∀{F₀ H₀ F H:Hp}{σ:St}{ρ:En},VR X.K rl F₀ H₀ F H σ ρ->∀(Qd:List W->Prop)(Q:List V->Hp->Prop),f ρ Qd ->
 (∀vs ws F' H',Grow rl F H F' H'->eC X.K rl F' H' vs ws->Qd ws->Q vs H')->t σ H Q
noncomputable def W.fz:W->W
 | .ml xs=>.d (.list xs)
 | .nt ds=>.d (.tuple ds)
 | w=>w
theorem c7.fz{K:W.Frag}{rl:RlT}{F1 H1:Hp}{w:W}(g:Grow rl F H F1 H1)(r:c7 K rl F1 H1 v w)(n:dB H v w):∃F2,Grow rl F H F2 H1/\bJ F1 F2/\c7 K rl F2 H1 v w.fz:=by
 cases w with
 | d x=>exact⟨F1,g,.refl _,r⟩
 | pk xs=>exact⟨F1,g,.refl _,r⟩
 | reel=>exact⟨F1,g,.refl _,r⟩
 | vv u=>exact⟨F1,g,.refl _,r⟩
 | md u=>exact⟨F1,g,.refl _,r⟩
 | mk u=>exact⟨F1,g,.refl _,r⟩
 | xm u=>exact⟨F1,g,.refl _,r⟩
 | lk=>exact⟨F1,g,.refl _,r⟩
 | sc _=>exact⟨F1,g,.refl _,r⟩
 | fd _=>exact⟨F1,g,.refl _,r⟩
 | xr _=>exact⟨F1,g,.refl _,r⟩
 | xw _ _=>exact⟨F1,g,.refl _,r⟩
 | fw _=>exact⟨F1,g,.refl _,r⟩
 | ft _=>exact⟨F1,g,.refl _,r⟩
 | xc _ _=>exact⟨F1,g,.refl _,r⟩
 | dp _ _=>exact⟨F1,g,.refl _,r⟩
 | nt ds=>obtain⟨a,vs,rfl,h,q⟩:=r;exact⟨F1,g,.refl _,.tup (.inl (.inl h)) q⟩
 | ml xs =>
   obtain⟨a,vs,rfl,f,hr,hh,q⟩:=(show iJ K rl F1 H1 v xs from r);have neF:∀b u,F1 b=some u->b≠a:=fun b u q z=>by subst z;rw[f]at q;cases q
   have fsm:bJ F1 (Co F1 a (.lst vs)):=fun b u z=>by rw[ak (neF b u z)];exact z
   exact⟨Co F1 a (.lst vs),g.freeze (n a rfl) hh f hr,fsm,.lst ar (q.mono fsm)⟩
section
variable{X:Cx}{rl:RlT}{a b e:Expr}{es:List Expr}{fa fb fc:TV}{fs:DU}{pos p:Pos}
noncomputable def vC(x:ET):TV:=fun _ Q=>Q (.d x)
theorem fu{x:ET}(h:PE X e (tC v))(r:∀F,Rep X.K F v x):PV X rl e (vC x) :=
 ⟨_,h,fun R Qd Q q k=>k v (.d x) _ _ (Grow.refl R.sub R.reel) (r _) trivial q⟩
theorem ah{i:Int}{j pos}:PV X rl (.Constant (.int i) j pos) (vC (.int i)):=fu i9 fun _=>.int i
theorem pM{i:Bool}{j pos}:PV X rl (.Constant (.bool i) j pos) (vC (.bool i)):=fu y8 fun _=>.bl i
theorem eY{j pos}:PV X rl (.Constant (.str x) j pos) (vC (.str x)):=fu d8 fun _=>.str x
theorem tj{u:EX}{pos:Pos}(hm:X.mg x=some u)(r:RelV v u)(h:∀F,Rep X.K F v d)(hg:autoParam (Gl X x) æa._auto_1)(hd:autoParam ((x==("__debug__" : Str))=false) æb._auto_1):PV X rl (.Name x pos) (vC d) :=
 fu (tO hg hm r hd) h
noncomputable def fK(i:Nat):TV:=fun ρ Q=>∃w,ρ[i]?=some (some w)/\Q w.peek
theorem vn(i:Nat){pos:Pos}(hN:autoParam (X.N[i]?=some x) æa._auto_1)(hv:autoParam (DR X.env.scope x) æc._auto_1)(hd:autoParam ((x==("__debug__" : Str))=false) æb._auto_1)
 (hcd:autoParam ((x==("__classdict__" : Str))=false) æb._auto_1):PV X rl (.Name x pos) (fK i) :=
 ⟨_,cH hN hv hd hcd,fun R Qd Q ⟨w,e,q⟩ k=>by
  obtain⟨v,e1,r,_⟩:=R.sl i w e;refine⟨v,e1,k v w.peek _ _ (Grow.refl R.sub R.reel) r.peek ?_ q⟩
  cases w<;>trivial⟩
noncomputable def mM:DU:=fun _ Q=>Q []
noncomputable def aT(f:TV)(fs:DU):DU:=fun ρ Q=>f ρ fun w=>fs ρ fun ws=>Q (w.fz::ws)
theorem ac:D9 X rl [] mM:=⟨_,wM,fun R Qd Q q k=>k [] [] _ _ (Grow.refl R.sub R.reel) .nil q⟩
theorem aa(h1:PV X rl e fa)(h2:D9 X rl es fs)(hs:autoParam (E4 (e::es) X.env=(false,eval e X.env)::E4 es X.env) æa._auto_1):D9 X rl (e::es) (aT fa fs):=by
 obtain⟨t,p1,k1⟩:=h1;obtain⟨ts,p2,k2⟩:=h2;refine⟨_,nH p1 p2 hs,fun R Qd Q q k=>?_⟩;refine k1 R _ _ q fun v w F1 H1 g1 r1 n1 q1=>?_;obtain⟨F2,g2,s2,r2⟩:=c7.fz g1 r1 n1;refine k2 (R.grow g2) _ _ q1 fun vs ws F3 H3 g3 r3 q3=>?_;exact k (v::vs) (w.fz::ws) F3 H3 (g2.trans g3) (.cons (r2.grow g3) r3) q3
noncomputable def DS(X:Cx)(rl:RlT)(r:R2)(g:W->W->(W->Prop)->Prop):Prop:=∀{F H:Hp}{x y:V}{wx wy:W}(Qd:W->Prop)(Q:VK),bJ F H->D7 rl F H->c7 X.K rl F H x wx->c7 X.K rl F H y wy->g wx wy Qd ->
 (∀v w F' H',Grow rl F H F' H'->c7 X.K rl F' H' v w->dB H v w->Qd w->Q v H')->r x y H Q
noncomputable def Ck(g:W->W->(W->Prop)->Prop)(fa fb:TV):TV:=fun ρ Q=>fa ρ fun x=>fb ρ fun y=>g x y Q
theorem mr{r:R2}{g:W->W->(W->Prop)->Prop}(vo:DS X rl r g)(ha:PV X rl a fa)(hb:PV X rl b fb){e:Expr}(hp:∀ta tb,PE X a ta->PE X b tb->PE X e (CF r ta tb)):PV X rl e (Ck g fa fb):=by
 obtain⟨ta,p1,k1⟩:=ha;obtain⟨tb,p2,k2⟩:=hb;refine⟨_,hp ta tb p1 p2,fun R Qd Q q k=>?_⟩;refine k1 R _ _ q fun v w F1 H1 g1 r1 n1 q1=>?_;refine k2 (R.grow g1) _ _ q1 fun v2 w2 F2 H2 g2 r2 n2 q2=>?_
 exact vo Qd Q g2.sub g2.reel (r1.grow g2) r2 q2 fun v3 w3 F3 H3 g3 r3 n3 q3=>k v3 w3 F3 H3 ((g1.trans g2).trans g3) r3 (by
  cases w3 with
  | ml xs=>exact fun a ea=>g1.freeB (g2.freeB (n3 a ea))
  | md xs=>exact fun a ea=>g1.freeB (g2.freeB (n3 a ea))
  | mk xs=>exact fun a ea=>g1.freeB (g2.freeB (n3 a ea))
  | xm xs=>exact fun a ea=>g1.freeB (g2.freeB (n3 a ea))
  | nt _=>trivial
  | lk=>trivial
  | sc _=>trivial
  | fd _=>trivial
  | xr _=>trivial
  | xw _ _=>trivial
  | fw _=>trivial
  | ft _=>trivial
  | xc _ _=>trivial
  | dp _ _=>trivial
  | d _=>trivial
  | pk _=>trivial
  | reel=>trivial
  | vv _=>trivial) q3
theorem iq{op:Lc}{r:R2}{g:W->W->(W->Prop)->Prop}(ho:Ek X (Hw op) r)(vo:DS X rl r g)(ha:PV X rl a fa)(hb:PV X rl b fb):PV X rl (.BinOp a op b pos) (Ck g fa fb) :=
 mr vo ha hb fun _ _ p1 p2=>wE ho p1 p2
noncomputable def gI(C:Int->Int->Prop)(g:Int->Int->ET):W->W->(W->Prop)->Prop:=fun x y Q=>∃i j,x = .d (.int i)/\y = .d (.int j)/\C i j/\Q (.d (g i j))
theorem aX{K:W.Frag}{i:Int}(h:Rep K F v (.int i)):v = .int i:=by cases h;rfl
theorem hW{C:Int->Int->Prop}{g:Int->Int->V}{gd:Int->Int->ET}(h:∀K F i j,Rep K F (g i j) (gd i j)):DS X rl (rI C g) (gI C gd):=fun{F H x y wx wy} Qd Q s ra r1 r2 q k=>by
 obtain⟨i,j,rfl,rfl,c,q⟩:=q;exact⟨i,j,aX r1,aX r2,c,k _ (.d _) _ _ (Grow.refl s ra) (h _ _ i j) trivial q⟩
noncomputable def DE(g:Int->Int->ET):W->W->(W->Prop)->Prop:=fun x y Q=>∃i j,x = .d (.int i)/\y = .d (.int j)/\Q (.d (g i j))
theorem c8{g:Int->Int->V}{gd:Int->Int->ET}(h:∀K F i j,Rep K F (g i j) (gd i j)):DS X rl (C4 g) (DE gd):=fun{F H x y wx wy} Qd Q s ra r1 r2 q k=>by
 obtain⟨i,j,rfl,rfl,q⟩:=q;exact⟨i,j,aX r1,aX r2,k _ (.d _) _ _ (Grow.refl s ra) (h _ _ i j) trivial q⟩
theorem v_add(ha:PV X rl a fa)(hb:PV X rl b fb):PV X rl (.BinOp a .Add b pos) (Ck (DE fun i j=>.int (i+j)) fa fb):=iq rh (c8 fun _ _ _ _=>.int _) ha hb
theorem v_sub(ha:PV X rl a fa)(hb:PV X rl b fb):PV X rl (.BinOp a .Sub b pos) (Ck (DE fun i j=>.int (i-j)) fa fb):=iq rg (c8 fun _ _ _ _=>.int _) ha hb
noncomputable def EM(i:Int):Prop:=i.natAbs<2^60000
theorem EM.bits{i:Int}(h:EM i):Builtin.Int.intBits i<=60000:=KR.mpr h
noncomputable def b6(i j:Int):Prop:=i.natAbs<2^64\/j.natAbs<2^64\/(EM i/\EM j)
theorem b6.lt{i j:Int}(h:i.natAbs<2^64):b6 i j:=.inl h
theorem b6.rt{i j:Int}(h:j.natAbs<2^64):b6 i j:=.inr (.inl h)
theorem b6.bb{i j:Int}(h:EM i)(h':EM j):b6 i j:=.inr (.inr ⟨h,h'⟩)
theorem b6.ok{i j:Int}(h:b6 i j):IntMulOk i j:=by
 rcases h with h|h|h
 · exact .of_left (KR.mpr h)
 · exact .of_right (KR.mpr h)
 · exact IntMulOk.of_le h.1.bits h.2.bits (by decide)
theorem tS:Ek X (Hw .Mult) (rI b6 fun i j=>.int (i*j)):=Da fun _ _ _ _ _ _ _ hc q=>mul_int q hc.ok
theorem v_mul(ha:PV X rl a fa)(hb:PV X rl b fb):PV X rl (.BinOp a .Mult b pos) (Ck (gI b6 fun i j=>.int (i*j)) fa fb):=iq tS (hW fun _ _ _ _=>.int _) ha hb
noncomputable def dR(_ j:Int):Prop:=j≠0/\j.natAbs<2^9000
theorem pY:Ek X (Hw .FloorDiv) (rI dR fun i j=>.int (i.fdiv j)):=Da fun _ j _ _ _ _ _ hc q=>floordiv_int hc.1 q (.inl (PyProof.noPylong_of_log2 ((Nat.log2_lt (by have:=hc.1;omega)).mpr hc.2)))
theorem v_div(ha:PV X rl a fa)(hb:PV X rl b fb):PV X rl (.BinOp a .FloorDiv b pos) (Ck (gI dR fun i j=>.int (i.fdiv j)) fa fb):=iq pY (hW fun _ _ _ _=>.int _) ha hb
theorem v_mod(ha:PV X rl a fa)(hb:PV X rl b fb):PV X rl (.BinOp a .Mod b pos) (Ck (gI (fun _ j=>j≠0) fun i j=>.int (i.fmod j)) fa fb):=iq tT (hW fun _ _ _ _=>.int _) ha hb
theorem v_pow(ha:PV X rl a fa)(hb:PV X rl b fb):PV X rl (.BinOp a .Pow b pos) (Ck (gI yd fun i j=>.int (i^j.toNat)) fa fb):=iq wN (hW fun _ _ _ _=>.int _) ha hb
noncomputable def yt(fa:TV):TV:=fun ρ Q=>fa ρ fun x=>∃i,x = .d (.int i)/\Q (.d (.int (-i)))
theorem va(ha:PV X rl a fa):PV X rl (.UnaryOp .USub a pos) (yt fa):=by
 obtain⟨ta,p1,k1⟩:=ha;refine⟨_,tM mR p1,fun R Qd Q q k=>k1 R _ _ q fun v w F1 H1 g1 r1 n1 ⟨i,ew,q1⟩=>?_⟩;subst ew;exact⟨i,aX r1,k _ (.d _) F1 H1 g1 (.int _) trivial q1⟩
theorem sv{r:R2}{g:W->W->(W->Prop)->Prop}(ho:Ek X (HK op) r)(vo:DS X rl r g)(hm:HN op b=false)(ha:PV X rl a fa)(hb:PV X rl b fb):PV X rl (.Compare a [op] [b] pos) (Ck g fa fb) :=
 mr vo ha hb fun _ _ p1 p2=>tQ ho p1 p2 hm
noncomputable def mL(f:TV):TB:=fun ρ Q=>f ρ fun w=>∃k,w = .d (.bool k)/\Q k
theorem eV{K:W.Frag}{i:Bool}(h:Rep K F v (.bool i)):v = .bl i:=by cases h;rfl
theorem bg{r:R2}{g:W->W->(W->Prop)->Prop}(ho:Ek X (HK op) r)(vo:DS X rl r g)(hm:HN op b=false)(ha:PV X rl a fa)(hb:PV X rl b fb):PB X rl (.Compare a [op] [b] pos) (mL (Ck g fa fb)):=by
 obtain⟨ta,p1,k1⟩:=ha;obtain⟨tb,p2,k2⟩:=hb;refine⟨_,nu ho p1 p2 hm,fun R Qd Q q k=>?_⟩;refine k1 R _ _ q fun v w F1 H1 g1 r1 n1 q1=>?_;refine k2 (R.grow g1) _ _ q1 fun v2 w2 F2 H2 g2 r2 n2 q2=>?_;refine vo _ _ g2.sub g2.reel (r1.grow g2) r2 q2 fun v3 w3 F3 H3 g3 r3 n3 ⟨kb,ew,q3⟩=>?_;subst ew;exact⟨kb,eV r3,k kb F3 H3 ((g1.trans g2).trans g3) q3⟩
theorem qM(ha:PV X rl e fa)(he:autoParam (∀whole,isTrue e X.env whole=(do let v <- whole;Kk e.pos;Kl [v] (truthy v))) æd._auto_1):PB X rl e (mL fa):=by
 obtain⟨ta,p1,k1⟩:=ha;refine⟨_,wq p1 he,fun R Qd Q q k=>k1 R _ _ q fun v w F1 H1 g1 r1 n1 ⟨kb,ew,q1⟩=>?_⟩;subst ew;exact⟨kb,eV r1,k kb F1 H1 g1 q1⟩
abbrev zr(p:Int->Int->Bool):=DE fun i j=>.bool (p i j)
theorem mw:DS X rl (C4 fun i j=>.bl (decide (i<j))) (zr fun i j=>decide (i<j)):=c8 fun _ _ _ _=>.bl _
theorem sa:DS X rl (C4 fun i j=>.bl (decide (j<i))) (zr fun i j=>decide (j<i)):=c8 fun _ _ _ _=>.bl _
theorem yh:DS X rl (C4 fun i j=>.bl (decide (j<=i))) (zr fun i j=>decide (j<=i)):=c8 fun _ _ _ _=>.bl _
noncomputable def yV(K:W.Frag)(neg:Bool):R2:=fun x y H Q=>∃dx dy,Rep K H x dx/\Rep K H y dy/\Gf dx=true/\Gf dy=true/\Q (.bl (if neg then !Gn dx dy else Gn dx dy)) H
theorem dD(hu:X.A.units+64<IU):Ek X (HK .Eq) (yV X.K false):=by
 intro pins s σ H x y v u Q I rx ry ⟨dx,dy,h1,h2,s1,s2,q⟩;obtain⟨as,a1⟩:=Rep.reads I (.refl H) h1 v rx;obtain⟨bs,a2⟩:=Rep.reads I (.refl H) h2 u ry;exact SeqAt.compareEq_shaped a1 a2 s1 s2 hu ⟨.bl _,H,I,rfl,q⟩
theorem fY(hu:X.A.units+64<IU):Ek X (HK .NotEq) (yV X.K true):=by
 intro pins s σ H x y v u Q I rx ry ⟨dx,dy,h1,h2,s1,s2,q⟩;obtain⟨as,a1⟩:=Rep.reads I (.refl H) h1 v rx;obtain⟨bs,a2⟩:=Rep.reads I (.refl H) h2 u ry;exact SeqAt.compareNe_shaped a1 a2 s1 s2 hu ⟨.bl _,H,I,rfl,q⟩
noncomputable def zp(neg:Bool):W->W->(W->Prop)->Prop:=fun x y Q=>∃dx dy,x.dat=some dx/\y.dat=some dy/\Gf dx=true/\Gf dy=true/\Q (.d (.bool (if neg then !Gn dx dy else Gn dx dy)))
theorem cx{neg:Bool}:DS X rl (yV X.K neg) (zp neg):=fun{F H x y wx wy} Qd Q s ra r1 r2 q k=>by
 obtain⟨dx,dy,e1,e2,s1,s2,q⟩:=q;exact⟨dx,dy,r1.dat s e1,r2.dat s e2,s1,s2,k _ (.d _) _ _ (Grow.refl s ra) (.bl _) trivial q⟩
noncomputable def A0(neg:Bool):W->W->(W->Prop)->Prop:=fun x y Q=>∃dx ys,x.dat=some dx/\(y.dat=some (.list ys)\/y.dat=some (.tuple ys))/\Gf dx=true/\GM ys=true/\Q (.d (.bool (if neg then !(ys.any fun z=>Gn z dx)else ys.any fun z=>Gn z dx)))
noncomputable def xW(f g:TB):TB:=fun ρ Q=>f ρ fun b=>if b=true then g ρ Q else Q false
noncomputable def Cj(f g:TB):TB:=fun ρ Q=>f ρ fun b=>if b=true then Q true else g ρ Q
noncomputable def Bd(f:TB):TB:=fun ρ Q=>f ρ fun b=>Q (!b)
noncomputable def Ej(X:Cx)(rl:RlT)(e:Expr)(f:TB):Prop:=∃t,PW X e t/\∀{F₀ H₀ F H:Hp}{σ:St}{ρ:En},VR X.K rl F₀ H₀ F H σ ρ->∀(Qd:Bool->Prop)(Q:Bool->Hp->Prop),f ρ Qd ->
 (∀b F' H',Grow rl F H F' H'->Qd b->Q b H')->t σ H Q
variable{f g:TB}{rest:List Expr}
theorem Ej.pb(h:Ej X rl e f):PB X rl e f:=let ⟨t,p,k⟩:=h;⟨t,p.pt,k⟩
theorem sj(ha:PB X rl a f):Ej X rl (.BoolOp .And [a] pos) f:=let ⟨t,p,k⟩:=ha;⟨t,nj p,k⟩
theorem u3(ha:PB X rl a f):Ej X rl (.BoolOp .Or [a] pos) f:=let ⟨t,p,k⟩:=ha;⟨t,qW p,k⟩
theorem u4(ha:PB X rl a f)(hb:Ej X rl (.BoolOp .And (b::rest) pos) g):Ej X rl (.BoolOp .And (a::b::rest) pos) (xW f g):=by
 obtain⟨t,p,k⟩:=ha;obtain⟨t2,p2,k2⟩:=hb;refine⟨_,qX p p2,fun R Qd Q q h=>k R _ _ q fun c F1 H1 g1 q1=>?_⟩
 cases c with
 | true=>exact k2 (R.grow g1) _ _ q1 fun c F2 H2 g2 q2=>h c F2 H2 (g1.trans g2) q2
 | false=>exact h false F1 H1 g1 q1
theorem yj(ha:PB X rl a f)(hb:Ej X rl (.BoolOp .Or (b::rest) pos) g):Ej X rl (.BoolOp .Or (a::b::rest) pos) (Cj f g):=by
 obtain⟨t,p,k⟩:=ha;obtain⟨t2,p2,k2⟩:=hb;refine⟨_,wp p p2,fun R Qd Q q h=>k R _ _ q fun c F1 H1 g1 q1=>?_⟩
 cases c with
 | true=>exact h true F1 H1 g1 q1
 | false=>exact k2 (R.grow g1) _ _ q1 fun c F2 H2 g2 q2=>h c F2 H2 (g1.trans g2) q2
noncomputable def sI(fa fb:TV):TV:=fun ρ Q=>fa ρ fun w=>∃c,w = .d (.bool c)/\if c=true then fb ρ Q else Q (.d (.bool false))
noncomputable def yr(fa fb:TV):TV:=fun ρ Q=>fa ρ fun w=>∃c,w = .d (.bool c)/\if c=true then Q (.d (.bool true))else fb ρ Q
noncomputable def sE(fa:TV):TV:=fun ρ Q=>fa ρ fun w=>∃c,w = .d (.bool c)/\Q (.d (.bool (!c)))
theorem dB.back{rl:RlT}{w:W}(g:Grow rl F H F' H')(n:dB H' v w):dB H v w:=by
 cases w with
 | ml xs=>exact fun a ea=>g.freeB (n a ea)
 | md xs=>exact fun a ea=>g.freeB (n a ea)
 | mk xs=>exact fun a ea=>g.freeB (n a ea)
 | xm xs=>exact fun a ea=>g.freeB (n a ea)
 | nt _=>trivial
 | lk=>trivial
 | sc _=>trivial
 | fd _=>trivial
 | xr _=>trivial
 | xw _ _=>trivial
 | fw _=>trivial
 | ft _=>trivial
 | xc _ _=>trivial
 | dp _ _=>trivial
 | d _=>trivial
 | pk _=>trivial
 | reel=>trivial
 | vv _=>trivial
theorem u_{op}(ha:PV X rl a fa):PV X rl (.BoolOp op [a] pos) fa:=let ⟨t,p,k⟩:=ha;⟨t,wF p,k⟩
theorem v_and(ha:PV X rl a fa)(hb:PV X rl (.BoolOp .And (b::rest) pos) fb):PV X rl (.BoolOp .And (a::b::rest) pos) (sI fa fb):=by
 obtain⟨t,p,k⟩:=ha;obtain⟨t2,p2,k2⟩:=hb;refine⟨_,wK p p2,fun R Qd Q q h=>k R _ _ q fun v w F1 H1 g1 r1 n1 ⟨c,ew,q1⟩=>?_⟩;subst ew;refine⟨c,eV r1,?_⟩
 cases c with
 | true=>exact k2 (R.grow g1) _ _ q1 fun v w F2 H2 g2 r2 n2 q2=>h v w F2 H2 (g1.trans g2) r2 (n2.back g1) q2
 | false=>exact h _ (.d _) F1 H1 g1 (.bl false) trivial q1
theorem v_or(ha:PV X rl a fa)(hb:PV X rl (.BoolOp .Or (b::rest) pos) fb):PV X rl (.BoolOp .Or (a::b::rest) pos) (yr fa fb):=by
 obtain⟨t,p,k⟩:=ha;obtain⟨t2,p2,k2⟩:=hb;refine⟨_,y7 p p2,fun R Qd Q q h=>k R _ _ q fun v w F1 H1 g1 r1 n1 ⟨c,ew,q1⟩=>?_⟩;subst ew;refine⟨c,eV r1,?_⟩
 cases c with
 | false=>exact k2 (R.grow g1) _ _ q1 fun v w F2 H2 g2 r2 n2 q2=>h v w F2 H2 (g1.trans g2) r2 (n2.back g1) q2
 | true=>exact h _ (.d _) F1 H1 g1 (.bl true) trivial q1
theorem v_not(ha:PV X rl a fa):PV X rl (.UnaryOp .Not a pos) (sE fa):=by
 obtain⟨t,p,k⟩:=ha;refine⟨_,wG p,fun R Qd Q q h=>k R _ _ q fun v w F1 H1 g1 r1 n1 ⟨c,ew,q1⟩=>?_⟩;subst ew;exact⟨c,eV r1,h _ (.d _) F1 H1 g1 (.bl _) trivial q1⟩
noncomputable def Cn(t:TB)(fa fb:TV):TV:=fun ρ Q=>t ρ fun c=>if c=true then fa ρ Q else fb ρ Q
theorem mH{c:Expr}(hc:PB X rl c f)(ha:PV X rl a fa)(hb:PV X rl b fb):PV X rl (.IfExp c a b pos) (Cn f fa fb):=by
 obtain⟨t,p,k⟩:=hc;obtain⟨t1,p1,k1⟩:=ha;obtain⟨t2,p2,k2⟩:=hb;refine⟨_,pV p p1 p2,fun R Qd Q q h=>k R _ _ q fun c F1 H1 g1 q1=>?_⟩
 cases c with
 | true=>exact k1 (R.grow g1) _ _ q1 fun v w F2 H2 g2 r2 n2 q2=>h v w F2 H2 (g1.trans g2) r2 (n2.back g1) q2
 | false=>exact k2 (R.grow g1) _ _ q1 fun v w F2 H2 g2 r2 n2 q2=>h v w F2 H2 (g1.trans g2) r2 (n2.back g1) q2
noncomputable def iF:List W->Option (List ET)
 | []=>some []
 | .d x::r=>(iF r).map (x :: ·)
 | _::_=>none
theorem dv{K:W.Frag}{F H:Hp}:∀{vs:List V}{ws:List W}{ds:List ET},eC K rl F H vs ws->iF ws=some ds->Reps K F vs ds
 | _,_,_,.nil,e=>by cases e;exact .nil
 | _,.d x::ws,ds,.cons r rs,e=>by
   have e:(iF ws).map (x :: ·)=some ds:=e
   cases q:iF ws with
   | none=>rw[q]at e;cases e
   | some es=>rw[q]at e;cases e;exact .cons r (dv rs q)
 | _,.ml x::ws,ds,.cons r rs,e=>by cases(show none=some ds from e)
 | _,.pk x::ws,ds,.cons r rs,e=>by cases(show none=some ds from e)
 | _,.reel::ws,ds,.cons r rs,e=>by cases(show none=some ds from e)
 | _,.vv u::ws,ds,.cons r rs,e=>by cases(show none=some ds from e)
 | _,.md u::ws,ds,.cons r rs,e=>by cases(show none=some ds from e)
 | _,.nt u::ws,ds,.cons r rs,e=>by cases(show none=some ds from e)
 | _,.lk::ws,ds,.cons r rs,e=>by cases(show none=some ds from e)
 | _,.sc _::ws,ds,.cons r rs,e=>by cases(show none=some ds from e)
 | _,.fd _::ws,ds,.cons r rs,e=>by cases(show none=some ds from e)
 | _,.xr _::ws,ds,.cons r rs,e=>by cases(show none=some ds from e)
 | _,.xw _ _::ws,ds,.cons r rs,e=>by cases(show none=some ds from e)
 | _,.xc _ _::ws,ds,.cons r rs,e=>by cases(show none=some ds from e)
 | _,.mk _::ws,ds,.cons r rs,e=>by cases(show none=some ds from e)
 | _,.xm _::ws,ds,.cons r rs,e=>by cases(show none=some ds from e)
 | _,.fw _::ws,ds,.cons r rs,e=>by cases(show none=some ds from e)
 | _,.ft _::ws,ds,.cons r rs,e=>by cases(show none=some ds from e)
 | _,.dp _ _::ws,ds,.cons r rs,e=>by cases(show none=some ds from e)
noncomputable def xT(fs:DU):TV:=fun ρ Q=>fs ρ fun ws=>∃ds,iF ws=some ds/\ds.length<=sizeLine/\Q (.d (.tuple ds))
noncomputable def yu(fs:DU):TV:=fun ρ Q=>fs ρ fun ws=>∃ds,iF ws=some ds/\ds.length<=sizeLine/\Q (.ml ds)
theorem bZ{x1}(h:D9 X rl es fs):PV X rl (.Tuple es x1 pos) (xT fs):=by
 obtain⟨t,p,k⟩:=h;refine⟨_,rb p,fun R Qd Q q h=>k R _ _ q fun vs ws F1 H1 g1 r1 ⟨ds,e1,z,q1⟩=>?_⟩;have rs:=dv r1 e1;refine⟨by rw[rs.length];exact z,fun p hp=>?_⟩;have g2:=g1.trans (Grow.data (a:=p) (o:=.tup vs) g1.sub g1.reel hp);exact h _ (.d (.tuple ds)) _ _ g2 (.tup (.inl (.inl ar)) (rs.mono (Grow.data (o:=.tup vs) g1.sub g1.reel hp).fs)) trivial q1
theorem de{K:W.Frag}{p:Addr}{ds:List ET}(s:bJ F H)(ra:D7 rl F H)(hp:H p=none)(rs:Reps K F vs ds):iJ K rl F (Co H p (.lst vs)) (.ref p) ds:=by
 refine⟨p,vs,rfl,s.free hp,fun e=>?_,ar,rs⟩;obtain⟨o,q⟩:=ra.live e;rw[hp]at q;cases q
theorem fJ(h:D9 X rl es fs):PV X rl (.List es pos) (yu fs):=by
 obtain⟨t,p,k⟩:=h;refine⟨_,wH p,fun R Qd Q q h=>k R _ _ q fun vs ws F1 H1 g1 r1 ⟨ds,e1,z,q1⟩=>?_⟩;have rs:=dv r1 e1;refine⟨by rw[rs.length];exact z,fun p hp=>?_⟩;exact h _ (.ml ds) _ _ (g1.trans (Grow.laid (a:=p) (o:=.lst vs) g1.sub g1.reel hp)) (de g1.sub g1.reel hp rs) (fun a ea=>by cases ea;exact g1.freeB hp) q1
noncomputable def itemAt:ET->Int->Option ET
 | .list xs,i=>atI xs i
 | .tuple xs,i=>atI xs i
 | _,_=>none
theorem Reps.atI{K:W.Frag}{F:Hp}{vs:List V}{ds:List ET}{i:Int}{d:ET}(r:Reps K F vs ds)(e:L2.atI ds i=some d):∃v,L2.atI vs i=some v/\Rep K F v d:=by
 unfold L2.atI at e ⊢;rw[r.length]
 cases q:ixN ds.length i with
 | none=>rw[q]at e;cases e
 | some j =>
   rw[q]at e;exact r.get e
noncomputable def DB:W->W->(W->Prop)->Prop:=fun x y Q=>∃dx i z,x.dat=some dx/\y = .d (.int i)/\itemAt dx i=some z/\Q (.d z)
theorem uU:DS X rl (C3 X.K) DB:=fun{F H x y wx wy} Qd Q s ra r1 r2 q k=>by
 obtain⟨dx,i,z,e1,rfl,e3,q⟩:=q;have ey:=aX r2;subst ey
 cases dx with
 | list xs =>
   obtain⟨a,vs,rfl,sq,rs⟩:=r1.items s e1;obtain⟨v,e4,rz⟩:=Reps.atI rs e3
   exact .inl ⟨a,vs,i,v,rfl,rfl,sq,e4,k _ (.d _) _ _ (Grow.refl s ra) rz trivial q⟩
 | tuple xs =>
   obtain⟨a,vs,rfl,sq,rs⟩:=r1.itemsT s e1;obtain⟨v,e4,rz⟩:=Reps.atI rs e3
   exact .inr (.inl ⟨a,vs,i,v,rfl,rfl,sq,e4,k _ (.d _) _ _ (Grow.refl s ra) rz trivial q⟩)
 | none=>cases e3
 | bool b=>cases e3
 | int b=>cases e3
 | str b=>cases e3
 | dict b=>cases e3
theorem bK(ha:PV X rl a fa)(hb:PV X rl b fb)(hs:autoParam (jZ b) æg._auto_1):PV X rl (.Subscript a b pos) (Ck DB fa fb):=mr uU ha hb fun _ _ p1 p2=>wI rn p1 p2 hs
noncomputable def eQ(X:Cx)(rl:RlT)(r:List V->Hp->VK->Prop)(g:List W->(W->Prop)->Prop):Prop:=∀{F H:Hp}{vs:List V}{ws:List W}(Qd:W->Prop)(Q:VK),bJ F H->D7 rl F H->eC X.K rl F H vs ws->g ws Qd ->
 (∀v w F' H',Grow rl F H F' H'->c7 X.K rl F' H' v w->dB H v w->Qd w->Q v H')->r vs H Q
noncomputable def dH(g:List W->(W->Prop)->Prop)(fs:DU):TV:=fun ρ Q=>fs ρ fun ws=>g ws Q
theorem ki{g:List W->(W->Prop)->Prop}{t:TA->TE}(vc:eQ X rl r g)(ha:D9 X rl es fs){e:Expr}(hp:∀ta,PA X es ta->PE X e (CJ r ta)):PV X rl e (dH g fs):=by
 obtain⟨ta,p1,k1⟩:=ha;refine⟨_,hp ta p1,fun R Qd Q q k=>k1 R _ _ q fun vs ws F1 H1 g1 r1 q1=>?_⟩;exact vc Qd Q g1.sub g1.reel r1 q1 fun v w F2 H2 g2 r2 n2 q2=>k v w F2 H2 (g1.trans g2) r2 (n2.back g1) q2
theorem eG{id:String}{g:List W->(W->Prop)->Prop}(hc:eR X (.builtin id) r)(vc:eQ X rl r g)(hm:X.mg x=none)(hv:HJ x=some (.builtin id))(ha:D9 X rl (e::es) fs)(hg:autoParam (Gl X x) æa._auto_1)(hn:autoParam (x ≠ "__name__") æb._auto_1)(hdb:autoParam ((x==("__debug__" : Str))=false) æb._auto_1)
 (he:autoParam (E4 (e::es) X.env=(false,eval e X.env)::E4 es X.env) æa._auto_1)(hpl:autoParam ((GP pos (E4 es X.env)).any (·.1)=false) æa._auto_1):PV X rl (.Call (.Name x p) (e::es) [] pos) (dH g fs) :=
 ki (t:=fun _=>tC .non) vc ha fun _ p1=>pX hc hg hm hv p1 hn hdb he hpl
theorem ko{T:String}{g:List W->(W->Prop)->Prop}(hc:eR X (.type T) r)(vc:eQ X rl r g)(hm:X.mg x=none)(hv:HJ x=some (.type T))(ha:D9 X rl (e::es) fs)(hg:autoParam (Gl X x) æa._auto_1)(hn:autoParam (x ≠ "__name__") æb._auto_1)(hdb:autoParam ((x==("__debug__" : Str))=false) æb._auto_1)
 (he:autoParam (E4 (e::es) X.env=(false,eval e X.env)::E4 es X.env) æa._auto_1)(hpl:autoParam ((GP pos (E4 es X.env)).any (·.1)=false) æa._auto_1):PV X rl (.Call (.Name x p) (e::es) [] pos) (dH g fs) :=
 ki (t:=fun _=>tC .non) vc ha fun _ p1=>i_ hc hg hm hv p1 hn hdb he hpl
theorem pd{K:W.Frag}{w:W}(r:eC K rl F H vs [w]):∃v,vs=[v]/\c7 K rl F H v w:=by
 cases r with
 | cons r1 r2=>cases r2;exact⟨_,rfl,r1⟩
theorem yT{K:W.Frag}{w w':W}(r:eC K rl F H vs [w,w']):∃v u,vs=[v,u]/\c7 K rl F H v w/\c7 K rl F H u w':=by
 cases r with
 | cons r1 r2 =>
   cases r2 with
   | cons r3 r4=>cases r4;exact⟨_,_,rfl,r1,r3⟩
noncomputable def ya:List W->(W->Prop)->Prop:=fun ws Q=>∃i,ws=[.d (.int i)]/\Q (.d (.int (if i<0 then -i else i)))
theorem u0:eQ X rl (fun xs H Q=>∃i,xs=[.int i]/\Q (.int (if i<0 then -i else i)) H) ya:=fun{F H vs ws} Qd Q s ra r ⟨i,ew,q⟩ k=>by
 subst ew;obtain⟨v,rfl,r1⟩:=pd r;have e:=aX r1;subst e;exact⟨i,rfl,k _ (.d _) _ _ (Grow.refl s ra) (.int _) trivial q⟩
noncomputable def kS:ET->Option Nat
 | .list xs=>some xs.length
 | .tuple xs=>some xs.length
 | _=>none
noncomputable def x8:List W->(W->Prop)->Prop:=fun ws Q=>∃w d n,ws=[w]/\w.dat=some d/\kS d=some n/\Q (.d (.int n))
theorem uY:eQ X rl (fun xs H Q=>∃p ys,xs=[.ref p]/\(D1 X.K H p ys\/D0 X.K H p ys)/\Q (.int ys.length) H) x8:=fun{F H vs ws} Qd Q s ra r ⟨w,d,n,ew,e1,e2,q⟩ k=>by
 subst ew;obtain⟨v,rfl,r1⟩:=pd r
 cases d with
 | list xs =>
   obtain⟨a,vs,rfl,sq,rs⟩:=r1.items s e1;cases e2
   exact⟨a,vs,rfl,.inl sq,k _ (.d _) _ _ (Grow.refl s ra) (by rw[rs.length];exact .int _) trivial q⟩
 | tuple xs =>
   obtain⟨a,vs,rfl,sq,rs⟩:=r1.itemsT s e1;cases e2
   exact⟨a,vs,rfl,.inr sq,k _ (.d _) _ _ (Grow.refl s ra) (by rw[rs.length];exact .int _) trivial q⟩
 | none=>cases e2
 | bool b=>cases e2
 | int b=>cases e2
 | str b=>cases e2
 | dict b=>cases e2
end
structure VEnds where
 nx:En->Prop
 rt:W->Prop
 bk:En->Prop:=fun _=>False
 ct:En->Prop:=fun _=>False
structure EndsOk (K:W.Frag) (rl:RlT) (F₀ H₀ Fs:Hp) (Dv:VEnds) (D:Ends):Prop where
 nx:∀F H σ ρ,bJ Fs F->VR K rl F₀ H₀ F H σ ρ->Dv.nx ρ->D.nx σ H
 rt:∀v w F H,Grow rl F₀ H₀ F H->c7 K rl F H v w->dB H₀ v w->Dv.rt w->D.rt v H
 bk:∀F H σ ρ,bJ Fs F->VR K rl F₀ H₀ F H σ ρ->Dv.bk ρ->D.bk σ H
 ct:∀F H σ ρ,bJ Fs F->VR K rl F₀ H₀ F H σ ρ->Dv.ct ρ->D.ct σ H
theorem EndsOk.on{K:W.Frag}{rl:RlT}{Fs:Hp}{Dv:VEnds}{D:Ends}(ok:EndsOk K rl F₀ H₀ Fs Dv D)(s:bJ Fs F):EndsOk K rl F₀ H₀ F Dv D :=
 ⟨fun F1 H σ ρ s1=>ok.nx F1 H σ ρ (s.trans s1),ok.rt,fun F1 H σ ρ s1=>ok.bk F1 H σ ρ (s.trans s1),fun F1 H σ ρ s1=>ok.ct F1 H σ ρ (s.trans s1)⟩
abbrev DV:=VEnds->En->Prop
noncomputable def Ec(X:Cx)(rl:RlT)(st:Stmt)(t:DV):Prop:=∃T,PS X st T/\∀{F₀ H₀ F H:Hp}{σ:St}{ρ:En},VR X.K rl F₀ H₀ F H σ ρ->∀Dv D,EndsOk X.K rl F₀ H₀ F Dv D->t Dv ρ->T D σ H
noncomputable def lq(X:Cx)(rl:RlT)(st:List Stmt)(t:DV):Prop:=∃T,Eb X st T/\∀{F₀ H₀ F H:Hp}{σ:St}{ρ:En},VR X.K rl F₀ H₀ F H σ ρ->∀Dv D,EndsOk X.K rl F₀ H₀ F Dv D->t Dv ρ->T D σ H
section
variable{X:Cx}{rl:RlT}{st:Stmt}{rest body:List Stmt}{t u:DV}{a b c e:Expr}{es:List Expr}{fa fb:TV}{fs:DU}{f:TB}{pos p:Pos}
noncomputable def sF:DV:=fun D ρ=>D.nx ρ
noncomputable def vh(t u:DV):DV:=fun D ρ=>t {D with nx:=u D} ρ
theorem cw:lq X rl [] sF:=⟨_,tq,fun R Dv D ok q=>ok.nx _ _ _ _ (.refl _) R q⟩
theorem ax(h:Ec X rl st t):lq X rl [st] t:=let ⟨T,p,k⟩:=h;⟨T,jI p,k⟩
theorem au(h:Ec X rl st t)(h2:lq X rl rest u):lq X rl (st::rest) (vh t u):=by
 obtain⟨T,p,k⟩:=h;obtain⟨T2,p2,k2⟩:=h2;exact⟨_,d7 p p2,fun R Dv D ok q=>k R {Dv with nx:=u Dv} {D with nx:=T2 D} ⟨fun F H σ ρ s' R' q'=>k2 R' Dv D (ok.on s') q',ok.rt,ok.bk,ok.ct⟩ q⟩
noncomputable def yw(fa:TV):DV:=fun D ρ=>fa ρ fun _=>D.nx ρ
noncomputable def yp(fa:TV):DV:=fun D ρ=>fa ρ D.rt
theorem aH(h:PV X rl e fa):Ec X rl (.Return (some e) pos) (yp fa):=by
 obtain⟨t,p,k⟩:=h;exact⟨_,nv p,fun R Dv D ok q=>k R _ _ q fun v w F1 H1 g1 r1 n1 q1=>ok.rt v w F1 H1 (R.g.trans g1) r1 (n1.back R.g) q1⟩
noncomputable def yo:DV:=fun D _=>D.rt (.d .none)
noncomputable def xU(f:TB)(t u:DV):DV:=fun D ρ=>f ρ fun b=>if b=true then t D ρ else u D ρ
theorem dw{A B:List Stmt}(hc:PB X rl c f)(ha:lq X rl A t)(hb:lq X rl B u):Ec X rl (.If c A B pos) (xU f t u):=by
 obtain⟨t0,p0,k0⟩:=hc;obtain⟨t1,p1,k1⟩:=ha;obtain⟨t2,p2,k2⟩:=hb;refine⟨_,wu p0 p1 p2,fun R Dv D ok q=>k0 R _ _ q fun b F1 H1 g1 q1=>?_⟩
 cases b with
 | true=>exact k1 (R.grow g1) Dv D (ok.on g1.fs) q1
 | false=>exact k2 (R.grow g1) Dv D (ok.on g1.fs) q1
theorem pi:Ec X rl st (fun _ _=>False):=⟨_,pP,fun _ _ _ _ q=>q.elim⟩
noncomputable def W.isPk:W->Bool
 | .pk _=>true
 | _=>false
noncomputable def yn(i:Nat)(fa:TV):DV:=fun D ρ=>fa ρ fun w=>w.isPk=false/\D.nx (ρ.set i (some w))
theorem fE(i:Nat)(hN:X.N.Nodup)(he:PV X rl e fa)(hi:autoParam (X.N[i]?=some x) æa._auto_1)(hx:autoParam (Loc X.env.scope x) æe._auto_1)
 (hs:autoParam (GH e (some (.Name x pos')) pos.line X.env=pure false) æa._auto_1)(hf:autoParam (X.fn x=true\/X.env.scope.names.lookup x=some .local) æf._auto_1) :
 Ec X rl (.Assign [.Name x pos'] e pos) (yn i fa):=by
 obtain⟨t,p,k⟩:=he;refine⟨_,fS hN hi hx p hs hf,fun R Dv D ok q=>k R _ _ q fun v w F1 H1 g1 r1 n1 ⟨hp,q1⟩=>?_⟩;exact ok.nx _ _ _ _ g1.fs (R.set g1 r1 n1 (fun xs z=>by subst z;cases hp) i) q1
noncomputable def lV(ρ:En):Prop:=∀(i:Nat)(w:W),ρ[i]?=some (some w)->w.own=false
theorem lV.set{ρ:En}(h:lV ρ)(i:Nat)(x:ET):lV (ρ.set i (some (.d x))):=fun j w z=>by
 rw[F_]at z;split at z
 · split at z
   · cases z;rfl
   · cases z
 · exact h j w z
abbrev DY:=ET->En->(En->Prop)->Prop
abbrev l5:=List ET->En->(En->Prop)->Prop
noncomputable def Ei(X:Cx)(rl:RlT)(tg:Expr)(g:DY):Prop:=∃G,PG X tg G/\∀{F₀ H₀ F H:Hp}{σ:St}{ρ:En},VR X.K rl F₀ H₀ F H σ ρ->∀(v:V)(x:ET)(Qd:En->Prop)(Q:St->Hp->Prop),Rep X.K F v x->g x ρ Qd ->
 (∀F' H' σ' ρ',Grow rl F H F' H'->(lV ρ->lV ρ')->VR X.K rl F₀ H₀ F' H' σ' ρ'->Qd ρ'->Q σ' H')->G v σ H Q
noncomputable def yb(X:Cx)(rl:RlT)(tgs:List Expr)(g:l5):Prop:=∃G,Eh X tgs G/\∀{F₀ H₀ F H:Hp}{σ:St}{ρ:En},VR X.K rl F₀ H₀ F H σ ρ->∀(vs:List V)(xs:List ET)(Qd:En->Prop)(Q:St->Hp->Prop),Reps X.K F vs xs->g xs ρ Qd ->
 (∀F' H' σ' ρ',Grow rl F H F' H'->(lV ρ->lV ρ')->VR X.K rl F₀ H₀ F' H' σ' ρ'->Qd ρ'->Q σ' H')->G vs σ H Q
noncomputable def xi(i:Nat):DY:=fun x ρ Q=>Q (ρ.set i (some (.d x)))
theorem av(i:Nat)(hN:X.N.Nodup)(hi:autoParam (X.N[i]?=some x) æa._auto_1)(hx:autoParam (Loc X.env.scope x) æe._auto_1)(hf:autoParam (X.fn x=true\/X.env.scope.names.lookup x=some .local) æf._auto_1):Ei X rl (.Name x pos) (xi i) :=
 ⟨_,tK hN hi hx hf,fun R v x Qd Q r q k=>k _ _ _ _ (Grow.refl R.sub R.reel) (fun n=>n.set i x) (R.set (w:=.d x) (Grow.refl R.sub R.reel) r trivial (fun _ z=>by cases z) i) q⟩
noncomputable def zn:l5:=fun xs ρ Q=>xs=[]/\Q ρ
noncomputable def qm(g:DY)(gs:l5):l5:=fun xs ρ Q=>∃y r,xs=y::r/\g y ρ fun ρ'=>gs r ρ' Q
theorem eF:yb X rl [] zn:=⟨_,tJ,fun R vs xs Qd Q r ⟨e,q⟩ k=>by subst e;exact⟨r.nil_iff,k _ _ _ _ (Grow.refl R.sub R.reel) (fun n=>n) R q⟩⟩
theorem bM{g:DY}{gs:l5}(h1:Ei X rl e g)(h2:yb X rl es gs)(hs:autoParam ((HC (e::es) X.env).map (·.2)=HF e X.env::(HC es X.env).map (·.2)) æa._auto_1):yb X rl (e::es) (qm g gs):=by
 obtain⟨G,p,k⟩:=h1;obtain⟨G2,p2,k2⟩:=h2;refine⟨_,pU p p2 hs,fun R vs xs Qd Q r ⟨y,ys,ex,q⟩ h=>?_⟩;subst ex
 cases r with
 | cons r1 r2 =>
   refine⟨_,_,rfl,k R _ y _ _ r1 q fun F1 H1 σ1 ρ1 s1 n1 R1 q1=>?_⟩;exact k2 R1 _ ys _ _ (r2.mono s1.fs) q1 fun F2 H2 σ2 ρ2 s2 n2 R2 q2=>h F2 H2 σ2 ρ2 (s1.trans s2) (fun n=>n2 (n1 n)) R2 q2
noncomputable def zm(n:Nat)(gs:l5):DY:=fun x ρ Q=>∃xs,x = .tuple xs/\xs.length=n/\gs xs ρ Q
theorem gO{kk:Nat}{gs:l5}(hc:X.calm=true)(h:yb X rl es gs)(hn:autoParam ((HC es X.env).length=n) æa._auto_1)(hst:autoParam ((HC es X.env).findIdx? (·.1)=none) æa._auto_1):Ei X rl (.Tuple es kk pos) (zm n gs):=by
 obtain⟨G,p,k⟩:=h;refine⟨_,wB hc p hn hst,fun R v x Qd Q r ⟨xs,ex,hl,q⟩ h=>?_⟩;subst ex
 cases r with
 | tup sq rs=>exact⟨_,_,rfl,cA R.sub sq,by rw[rs.length];exact hl,k R _ xs _ _ rs q h⟩
noncomputable def AF(fa:TV)(g:DY):DV:=fun D ρ=>fa ρ fun w=>∃x,w = .d x/\g x ρ D.nx
noncomputable def AC(i j:Nat)(fs:DU):DV:=fun D ρ=>fs ρ fun ws=>∃x y,iF ws=some [x,y]/\D.nx ((ρ.set i (some (.d x))).set j (some (.d y)))
theorem qJ(i j:Nat){y:Str}{py pt:Pos}{kt k2 pt2}(hc:X.calm=true)(hN:X.N.Nodup)(ha:D9 X rl [a,b] fs)
 (hw:autoParam (JS [.Tuple [.Name x px,.Name y py] kt pt] (.Tuple [a,b] k2 pt2) X.env=pure (some [x,y])) æa._auto_1)(hi:autoParam (X.N[i]?=some x) æa._auto_1)(hj:autoParam (X.N[j]?=some y) æa._auto_1)(hij:autoParam (i≠j) æb._auto_1)
 (hx:autoParam (X.env.scope.names.lookup x=some .local) æa._auto_1)(hy:autoParam (X.env.scope.names.lookup y=some .local) æa._auto_1)
 (hs:autoParam (JR [.Tuple [.Name x px,.Name y py] kt pt] (.Tuple [a,b] k2 pt2) pos.line X.env=pure false) æa._auto_1) :
 Ec X rl (.Assign [.Tuple [.Name x px,.Name y py] kt pt] (.Tuple [a,b] k2 pt2) pos) (AC i j fs):=by
 obtain⟨t,p,k⟩:=ha;refine⟨_,wr hc hN hi hj hij hx hy p hw hs,fun R Dv D ok q=>k R _ _ q fun vs ws F1 H1 g1 r1 ⟨x,y,e1,q1⟩=>?_⟩;have rs:=dv r1 e1
 cases rs with
 | cons rx rs =>
   cases rs with
   | cons ry rs =>
     cases rs;have R1:=(R.grow g1).set (w:=.d x) (Grow.refl g1.sub g1.reel) rx trivial (fun _ z=>by cases z) i;exact⟨_,_,rfl,ok.nx _ _ _ _ g1.fs (R1.set (w:=.d y) (Grow.refl g1.sub g1.reel) ry trivial (fun _ z=>by cases z) j) q1⟩
structure VIt (K:W.Frag) (rl:RlT) (F:Hp) (J:It) (xs:List ET):Prop where
 go:∀i H x,xs[i]?=some x->bJ F H->J.go i H
 stop:∀i H,xs.length<=i->bJ F H->J.stop i H
 yld:∀{r:RlT} i H v H' x F2,xs[i]?=some x->bJ F F2->bJ F2 H->D7 r F2 H->J.yld i H v H'->∃F3,Grow r F2 H F3 H'/\Rep K F3 v x
theorem VIt.of{K:W.Frag}{rl:RlT}{J:It}(go:∀i H x,xs[i]?=some x->bJ F H->J.go i H)(stop:∀i H,xs.length<=i->bJ F H->J.stop i H)
 (yld:∀i H v H' x,xs[i]?=some x->bJ F H->J.yld i H v H'->H'=H/\Rep K F v x):VIt K rl F J xs :=
 ⟨go,stop,fun i H v H' x F2 e s s2 ra y=>by
  obtain⟨e1,r⟩:=yld i H v H' x e (s.trans s2) y;subst e1
  exact⟨F2,Grow.refl s2 ra,r.mono s⟩⟩
noncomputable def Ef(X:Cx)(rl:RlT)(tg iter:Expr)(fi:En->(List ET->Prop)->Prop):Prop:=∃wi,PI X tg iter wi/\∀{F₀ H₀ F H:Hp}{σ:St}{ρ:En},VR X.K rl F₀ H₀ F H σ ρ->∀(Qd:List ET->Prop)(R:It->Hp->Prop),fi ρ Qd ->
 (∀J xs F' H',Grow rl F H F' H'->VIt X.K rl F' J xs->Qd xs->R J H')->wi σ H R
end
section
variable{X:Cx}{rl:RlT}{st:Stmt}{rest body:List Stmt}{t u:DV}{a b c e:Expr}{es:List Expr}{fa fb:TV}{fs:DU}{f:TB}{pos p:Pos}{tg:Expr}
noncomputable def AE(i:Nat)(t:DV):DV:=fun D ρ=>∃xs,ρ[i]?=some (some (.ml xs))/\t D (ρ.set i (some (.d (.list xs))))
noncomputable def iL(fa:TV):En->(List ET->Prop)->Prop:=fun ρ Q=>fa ρ fun w=>∃xs,w.fz = .d (.list xs)/\Q xs
noncomputable def iT(fa:TV):En->(List ET->Prop)->Prop:=fun ρ Q=>fa ρ fun w=>∃xs,w.fz = .d (.tuple xs)/\Q xs
theorem c9{l:Expr}(hl:PV X rl l fa):Ef X rl tg l (iL fa):=by
 obtain⟨t,p,k⟩:=hl;refine⟨_,tI p,fun R Qd Q q h=>k R _ _ q fun v w F1 H1 g1 r1 n1 ⟨xs,ew,q1⟩=>?_⟩;obtain⟨F2,g2,s2,r2⟩:=c7.fz g1 r1 n1;rw[ew]at r2
 cases(show Rep X.K F2 v (.list xs)from r2)with
 | @lst a vs _ sq rs =>
   have sqH:∀H,bJ F2 H->D1 X.K H a vs:=fun H s=>.inl (.inl (s _ _ sq));refine⟨a,rfl,⟨vs,sqH H1 g2.sub⟩,h _ xs F2 H1 g2 (.of (fun i H x e s=>?_) (fun i H hl s=>⟨vs,sqH H s,by rw[rs.length];exact hl⟩) (fun i H v H' x e s y=>?_)) q1⟩
   · obtain⟨v,ev,_⟩:=rs.get e;exact⟨vs,v,sqH H s,ev⟩
   · obtain⟨e',hy⟩:=y;obtain⟨v',ev,rv⟩:=rs.get e;have:=hy vs (sqH H s);rw[ev]at this;cases this;exact⟨e',rv⟩
theorem fI{l:Expr}(hl:PV X rl l fa):Ef X rl tg l (iT fa):=by
 obtain⟨t,p,k⟩:=hl;refine⟨_,wA p,fun R Qd Q q h=>k R _ _ q fun v w F1 H1 g1 r1 n1 ⟨xs,ew,q1⟩=>?_⟩;obtain⟨F2,g2,s2,r2⟩:=c7.fz g1 r1 n1;rw[ew]at r2
 cases(show Rep X.K F2 v (.tuple xs)from r2)with
 | @tup a vs _ sq rs =>
   have sqH:∀H,bJ F2 H->D0 X.K H a vs:=fun H s=>cA s sq;refine⟨a,rfl,⟨vs,sqH H1 g2.sub⟩,h _ xs F2 H1 g2 (.of (fun i H x e s=>?_) (fun i H hl s=>⟨vs,sqH H s,by rw[rs.length];exact hl⟩) (fun i H v H' x e s y=>?_)) q1⟩
   · obtain⟨v,ev,_⟩:=rs.get e;exact⟨vs,v,sqH H s,ev⟩
   · obtain⟨e',hy⟩:=y;obtain⟨v',ev,rv⟩:=rs.get e;have:=hy vs (sqH H s);rw[ev]at this;cases this;exact⟨e',rv⟩
noncomputable def aU(lo:Int)(n:Nat):List ET:=(Gm n).map fun(i:Nat)=>.int (lo+i)
theorem gS{lo:Int}{x:ET}(h:(aU lo n)[i]?=some x):i<n/\x = .int (lo+i):=by
 unfold aU at h;rw[Gr]at h;by_cases hi:i<n
 · rw[FX (by simpa using hi)]at h;simp at h;exact⟨hi,h.symm⟩
 · rw[Kq (by simpa using hi)]at h;cases h
theorem ae{lo:Int}:(aU lo n).length=n:=by simp[aU]
theorem fH{K:W.Frag}(lo:Int)(n:Nat):VIt K rl F (Ew lo n) (aU lo n) :=
 .of (fun i H x e s=>(gS e).1) (fun i H hl s=>by rw[ae]at hl;exact hl) (fun i H v H' x e s y=>by
  obtain⟨e1,e2⟩:=y;subst e2;rw[(gS e).2]
  exact⟨e1,.int _⟩)
noncomputable def Dx(fs:DU):En->(List ET->Prop)->Prop:=fun ρ Q=>fs ρ fun ws=>∃j:Int,ws=[.d (.int j)]/\(-(2^62)<=j/\j<2^62)/\Q (aU 0 j.toNat)
noncomputable def Dw(fs:DU):En->(List ET->Prop)->Prop:=fun ρ Q=>fs ρ fun ws=>∃i j:Int,ws=[.d (.int i),.d (.int j)]/\(-(2^62)<=i/\i<2^62 /\ -(2^62)<=j/\j<2^62)/\Q (aU i (j-i).toNat)
theorem bx(hm:X.mg "range" = none)(ha:D9 X rl [a] fs)(hg:autoParam (Gl X "range") æa._auto_1)(hs:autoParam (E4 [a] X.env=[(false,eval a X.env)]) æa._auto_1):Ef X rl tg (.Call (.Name "range" p) [a] [] pos) (Dx fs):=by
 obtain⟨t,p1,k⟩:=ha;refine⟨_,i8 hg hm p1 hs,fun R Qd Q q h=>k R _ _ q fun vs ws F1 H1 g1 r1 ⟨j,ew,b,q1⟩=>?_⟩;subst ew;obtain⟨v,rfl,rv⟩:=pd r1;have e:=aX rv;subst e;exact⟨j,rfl,b.1,b.2,h _ _ F1 H1 g1 (fH 0 _) q1⟩
theorem mC(hm:X.mg "range" = none)(ha:D9 X rl [a,b] fs)(hg:autoParam (Gl X "range") æa._auto_1)(hs:autoParam (E4 [a,b] X.env=[(false,eval a X.env),(false,eval b X.env)]) æa._auto_1)(hs2:autoParam (E4 [b] X.env=[(false,eval b X.env)]) æa._auto_1):Ef X rl tg (.Call (.Name "range" p) [a,b] [] pos) (Dw fs):=by
 obtain⟨t,p1,k⟩:=ha;refine⟨_,nB hg hm p1 hs hs2,fun R Qd Q q h=>k R _ _ q fun vs ws F1 H1 g1 r1 ⟨i,j,ew,b,q1⟩=>?_⟩;subst ew;obtain⟨v,u,rfl,rv,ru⟩:=yT r1;have e:=aX rv;have e':=aX ru;subst e e';exact⟨i,j,rfl,b,h _ _ F1 H1 g1 (fH i _) q1⟩
theorem VR.own{K:W.Frag}{F₀ H₀ F H:Hp}{σ:St}{ρ:En}(r:VR K rl F₀ H₀ F H σ ρ){i:Nat}{xs ys:List ET}{a:Addr}{us:List V}(e:ρ[i]?=some (some (.ml xs)))(es:σ[i]?=some (some (.ref a)))(rs:Reps K F us ys) :
 VR K rl F₀ H₀ F (Co H a (.lst us)) σ (ρ.set i (some (.ml ys))):=by
 obtain⟨v,h1,h2,h3⟩:=r.sl i _ e;rw[es]at h1;cases h1;obtain⟨a',vs,ev,f,hr,hh,q⟩:=(show iJ K rl F H (.ref a) xs from h2);cases ev;have n0:H₀ a=none:=h3 a rfl;have hi:i<ρ.length:=(Ff.mp e).1;have neF:∀b u,F b=some u->b≠a:=fun b u q z=>by subst z;rw[f]at q;cases q
 have g:Grow rl F₀ H₀ F (Co H a (.lst us)):=by
  refine⟨fun b o q1 n=>by rw[ak (aG q1 n0)];exact r.g.same b o q1 n,r.g.fs,fun b o q1=>by rw[ak (neF b o q1)];exact r.sub b o q1,r.g.old,fun y z=>?_⟩;obtain⟨z1,⟨u,h1,h2⟩⟩:=r.reel y z;exact⟨z1,⟨u,by rw[ak (fun q=>hr (by rw[<- q];exact z))];exact h1,h2⟩⟩
 refine⟨g,fun j w e1=>?_,fun j k ys' zs u hjk e1 e2 w1 w2 s1 s2=>?_,fun j ys' z=>?_,by simp[r.len]⟩
 · by_cases hj:i=j
   · subst hj;rw[Fj hi]at e1;cases e1;exact⟨_,es,⟨a,us,rfl,f,hr,ar,rs⟩,h3⟩
   · rw[E_ hj]at e1;obtain⟨u,g1,g2,g3⟩:=r.sl j w e1;refine⟨u,g1,?_,g3⟩
     cases w with
     | d x=>exact g2
     | reel=>exact g2
     | vv u=>exact g2
     | ml zs =>
       obtain⟨b,us',eb,f1,f2,f3,f4⟩:=(show iJ K rl F H u zs from g2);have ne:b≠a:=fun z=>r.ap i j _ _ (.ref a) hj e e1 rfl rfl es (by rw[g1,eb,z])
       exact⟨b,us',eb,f1,f2,by rw[ak ne];exact f3,f4⟩
     | pk zs=>exact absurd e1 (r.np j zs)
     | md zs =>
       obtain⟨b,us',eb,f1,f2,f3,f4⟩:=(show rP K rl F H u zs from g2);have ne:b≠a:=fun z=>r.ap i j _ _ (.ref a) hj e e1 rfl rfl es (by rw[g1,eb,z])
       exact⟨b,us',eb,f1,f2,by rw[ak ne];exact f3,f4⟩
     | mk zs =>
       obtain⟨b,us',eb,f1,f2,f3,f4⟩:=(show rO K rl F H u zs from g2);have ne:b≠a:=fun z=>r.ap i j _ _ (.ref a) hj e e1 rfl rfl es (by rw[g1,eb,z])
       exact⟨b,us',eb,f1,f2,by rw[ak ne];exact f3,f4⟩
     | xm zs =>
       obtain⟨b,us',eb,f1,f2,f3,f4⟩:=(show ls K rl F H u zs from g2);have ne:b≠a:=fun z=>r.ap i j _ _ (.ref a) hj e e1 rfl rfl es (by rw[g1,eb,z])
       exact⟨b,us',eb,f1,f2,by rw[ak ne];exact f3,f4⟩
     | nt ds=>exact g2
     | lk=>trivial
     | sc _=>exact g2
     | fd _=>exact g2
     | xr _=>exact g2
     | xw _ _=>exact g2
     | fw _=>exact g2
     | ft _=>exact g2
     | xc _ _=>exact g2
     | dp _ _=>exact g2
 · have nd:∀(j:Nat)(z:W),(ρ.set i (some (W.ml ys)))[j]?=some (some z)->z.own=true->∃z',ρ[j]?=some (some z')/\z'.own=true:=fun j zs z o=>by
     by_cases hj:i=j
     · subst hj;exact⟨_,e,rfl⟩
     · rw[E_ hj]at z;exact⟨zs,z,o⟩
   obtain⟨_,d1,o1⟩:=nd j _ e1 w1;obtain⟨_,d2,o2⟩:=nd k _ e2 w2;exact r.ap j k _ _ u hjk d1 d2 o1 o2 s1 s2
 · rw[F_]at z;split at z
   · first|cases z|(split at z<;>cases z)
   · exact r.np j ys' z
noncomputable def zG(K:W.Frag)(rl:RlT)(r:V->List V->Hp->VK->Prop)(g:List ET->List W->(List ET->Prop)->Prop):Prop :=
 ∀ {F H:Hp}{a:Addr}{vs args:List V}{xs:List ET}{ws:List W}(Qn:List ET->Prop)(Q:VK),bJ F H->H a=some (.lst vs)->Reps K F vs xs->eC K rl F H args ws->g xs ws Qn ->
   (∀us ys,Reps K F us ys->Qn ys->Q .non (Co H a (.lst us)))->r (.ref a) args H Q
noncomputable def uH(i:Nat)(g:List ET->List W->(List ET->Prop)->Prop)(fs:DU):DV:=fun D ρ=>∃xs,ρ[i]?=some (some (.ml xs))/\fs ρ fun ws=>g xs ws fun ys=>D.nx (ρ.set i (some (.ml ys)))
theorem uS(i:Nat){nm:Str}{id:String}{r:V->List V->Hp->VK->Prop}{g:List ET->List W->(List ET->Prop)->Prop}{apos cpos:Pos}(slot:Slot "list" nm id)(hty:typeOf (.builtin id)=pure (.type "method_descriptor"))(hm:Em X id r)(vm:zG X.K rl r g)(ha:D9 X rl (e::es) fs)
 (hN:autoParam (X.N[i]?=some x) æa._auto_1)(hv:autoParam (DR X.env.scope x) æc._auto_1)
 (hd:autoParam ((x==("__debug__" : Str))=false) æb._auto_1)(hcd:autoParam ((x==("__classdict__" : Str))=false) æb._auto_1)
 (hbase:autoParam (Ik (.Name x px) nm X.env (eval (.Name x px) X.env)=eval (.Name x px) X.env) æa._auto_1)
 (hfew:autoParam (((GP cpos (E4 (e::es) X.env)).all (fun x=>!x.1)&&(Li cpos (Jd [] X.env)).all (fun x=>x.1.isSome)
  && decide ((e::es).length+([]:List IJ).length+(if([]:List IJ).isEmpty then 0 else 1)<30))=true) æa._auto_1)
 (hline:autoParam ((apos.endLine==cpos.line)=true) æa._auto_1)(hs:autoParam (E4 (e::es) X.env=(false,eval e X.env)::E4 es X.env) æa._auto_1)(hplain:autoParam ((GP cpos (E4 es X.env)).any (·.1)=false) æa._auto_1)
 (hsw:autoParam (GH (.Call (.Attribute (.Name x px) nm apos) (e::es) [] cpos) none pos.line X.env=pure false) æa._auto_1) :
 Ec X rl (.Expr (.Call (.Attribute (.Name x px) nm apos) (e::es) [] cpos) pos) (uH i g fs):=by
 obtain⟨t,p1,k⟩:=ha;refine⟨_,nw (wJ JW slot hty hm (cH hN hv hd hcd) p1 hbase hfew hline hs hplain) hsw,fun{F₀ H₀ F H σ ρ} R Dv D ok ⟨xs,e1,q⟩=>?_⟩;obtain⟨v,h1,h2,h3⟩:=R.sl i _ e1;obtain⟨a,vs,rfl,f,hr,hh,rs⟩:=(show iJ X.K rl F H v xs from h2);refine⟨.ref a,h1,.inl ⟨rfl,vs,.inl (.inl hh)⟩,k R _ _ q fun args ws F1 H1 g1 r1 q1=>?_⟩;refine vm _ _ g1.sub (g1.same a _ hh hr) (rs.mono g1.fs) r1 q1 fun us ys r2 q2=>?_;exact ok.nx _ _ _ _ g1.fs ((R.grow g1).own e1 h1 r2) q2
noncomputable def xt:List ET->List W->(List ET->Prop)->Prop:=fun xs ws Q=>∃x,iF ws=some [x]/\xs.length<sizeLine/\Q (xs++[x])
theorem qK{K:W.Frag}:zG K rl ni xt:=fun{F H a vs args xs ws} Qn Q s ha rs ra ⟨x,e,z,q⟩ k=>by
 have r2:=dv ra e
 cases r2 with
 | cons rx r3 =>
   cases r3;exact⟨a,vs,_,rfl,rfl,ha,by rw[rs.length];exact z,k _ _ (rs.snoc rx) q⟩
noncomputable def A1:List ET->List W->(List ET->Prop)->Prop:=fun xs ws Q=>∃ys,iF ws=some [.list ys]/\xs.length+ys.length<=sizeLine/\Q (xs++ys)
theorem mn(i:Nat){apos cpos:Pos}(ha:D9 X rl [e] fs)(hN:autoParam (X.N[i]?=some x) æa._auto_1)(hv:autoParam (DR X.env.scope x) æc._auto_1)
 (hd:autoParam ((x==("__debug__" : Str))=false) æb._auto_1)(hcd:autoParam ((x==("__classdict__" : Str))=false) æb._auto_1)
 (hbase:autoParam (Ik (.Name x px) "append" X.env (eval (.Name x px) X.env)=eval (.Name x px) X.env) æa._auto_1)
 (hfew:autoParam (((GP cpos (E4 [e] X.env)).all (fun x=>!x.1)&&(Li cpos (Jd [] X.env)).all (fun x=>x.1.isSome)
  && decide (([e]).length+([]:List IJ).length+(if([]:List IJ).isEmpty then 0 else 1)<30))=true) æa._auto_1)
 (hline:autoParam ((apos.endLine==cpos.line)=true) æa._auto_1)(hs:autoParam (E4 [e] X.env=(false,eval e X.env)::E4 [] X.env) æa._auto_1)(hplain:autoParam ((GP cpos (E4 [] X.env)).any (·.1)=false) æa._auto_1)
 (hsw:autoParam (GH (.Call (.Attribute (.Name x px) "append" apos) [e] [] cpos) none pos.line X.env=pure false) æa._auto_1) :
 Ec X rl (.Expr (.Call (.Attribute (.Name x px) "append" apos) [e] [] cpos) pos) (uH i xt fs) :=
 uS i JJ JK d9 qK ha hN hv hd hcd hbase hfew hline hs hplain hsw
noncomputable def dr:W->Bool
 | .ml _=>false
 | .md _=>false
 | .mk _=>false
 | .xm _=>false
 | .pk _=>false
 | _=>true
noncomputable def Cc(K:W.Frag)(rl:RlT)(P:List W->(ET->Prop)->Prop):Sp:=fun vs H Q _=>∃F ws,bJ F H/\D7 rl F H/\eC K rl F H vs ws/\ws.all dr=true/\P ws fun d=>∀v F' H',Grow rl F H F' H'->Rep K F' v d->Q v H'
noncomputable def dj(N:List Str)(ws:List W):En:=ws.map some++Fg (N.length-ws.length) none
theorem i6{K:W.Frag}{F H:Hp}:∀{vs:List V}{ws:List W}{i:Nat}{w:W},eC K rl F H vs ws->ws[i]?=some w->∃v,vs[i]?=some v/\c7 K rl F H v w
 | _,_,_,_,.nil,e=>by simp at e
 | _,_,0,_,.cons h _,e=>by simp at e;subst e;exact⟨_,rfl,h⟩
 | _,_,i+1,w,.cons _ r,e=>by
   obtain⟨v,h1,h2⟩:=i6 (i:=i) (w:=w) r (by simpa using e);exact⟨v,by simpa using h1,h2⟩
theorem iR{ws:List W}{w:W}(h:(dj N ws)[i]?=some (some w)):ws[i]?=some w:=by
 unfold dj at h;by_cases hi:i<ws.length
 · rw[HV (by simpa using hi),Gr]at h
   cases q:ws[i]? with
   | none=>rw[q]at h;cases h
   | some x=>rw[q]at h;cases h;rfl
 · rw[Jl (by simpa using hi),JT]at h;split at h<;>cases h
theorem dS{K:W.Frag}{ws:List W}(s:bJ F H)(ra:D7 rl F H)(r:eC K rl F H vs ws)(ok:ws.all dr=true):VR K rl F H F H (start N vs) (dj N ws):=by
 have hl:vs.length=ws.length:=GI r;have no:∀(i:Nat) w,(dj N ws)[i]?=some (some w)->dr w=true:=fun i w e=>(GU.mp ok) w (IS (iR e));refine⟨Grow.refl s ra,fun i w e=>?_,fun i j xs ys v _ e1 _ o _ _ _=>(by have:=no i _ e1;cases xs<;>first|exact Bool.noConfusion o|exact Bool.noConfusion this),fun i xs e=>(by have:=no i _ e;cases this),?_⟩
 · obtain⟨v,h1,h2⟩:=i6 r (iR e);refine⟨v,?_,h2,?_⟩
   · unfold start;rw[HV (by simpa using(Ff.mp h1).1),Gr,h1];rfl
   · have:=no i w e
     cases w with
     | ml xs=>cases this
     | md xs=>cases this
     | mk xs=>cases this
     | xm xs=>cases this
     | nt _=>trivial
     | lk=>trivial
     | sc _=>trivial
     | fd _=>trivial
     | xr _=>trivial
     | xw _ _=>trivial
     | fw _=>trivial
     | ft _=>trivial
     | xc _ _=>trivial
     | dp _ _=>trivial
     | d _=>trivial
     | pk _=>trivial
     | reel=>trivial
     | vv _=>trivial
 · unfold dj start;simp[hl]
noncomputable def lw(Q:ET->Prop):VEnds:=⟨fun _=>Q .none,fun w=>∃d,w.fz = .d d/\Q d,fun _=>False,fun _=>False⟩
theorem Cd{K:W.Frag}{base:Heap}{st:Stmt}{fa:Addr}{k:Nat}{Pd:List W->(ET->Prop)->Prop}{t:DV}
 (Fn:Fun K x qual st fa fd)(S:FnScope N ps (defScope st))(len:∀ws Q,Pd ws Q->ws.length=ps.length)
 (hbody:∀(cdv:EX)(A:Gh)(outer:List Env)(s:EZ)(H:Hp)(E:XK),Room k (A.deeper (JG qual (defScope st) s.heap.objs.size fa cdv)) ->
  lq (lZ EG P w K mg base N qual (defScope st) fa cdv A outer s H E).nox rl (defBody st) t)
 (hread:∀ws Q,Pd ws Q->t (lw Q) (dj N ws)):FnOk P w K mg base EG (k+1) fa fd ps (Cc K rl Pd):=by
 refine Fn.ok S (fun vs H Q E ⟨F,ws,_,_,r,_,q⟩=>(GI r).trans (len ws _ q)) fun cdv A outer s H vs Q E hr h=>?_;obtain⟨F,ws,sm,ra,r,ok,q⟩:=h;obtain⟨T,p,kk⟩:=hbody cdv A outer s H E hr;refine⟨T,p,kk (dS sm ra r ok) (lw _) _ ⟨?_,?_,fun _ _ _ _ _ _ z=>Gx z,fun _ _ _ _ _ _ z=>Gx z⟩ (hread ws _ q)⟩
 · intro F1 H1 σ1 ρ1 _ R1 q1;exact q1 .non F1 H1 R1.g .non
 · rintro v w1 F1 H1 g1 r1 n1 ⟨d,ed,q1⟩;obtain⟨F2,g2,s2,r2⟩:=c7.fz g1 r1 n1;rw[ed]at r2;exact q1 v F2 H1 g2 r2
structure Dfn (P:Fo) (w:Gc) (K:W.Frag) (mg:Str->Option EX) (base:Heap) (rl:RlT) (x:Str) (ps:List Str) (k:Nat) (Pd:List W->(ET->Prop)->Prop):Prop where
 mono:∀ws Q Q',(∀d,Q d->Q' d)->Pd ws Q->Pd ws Q'
 ex:∃f fd,mg x=some (.ref f)/\W.keepIn K (.ref f)=true/\Binds K fd ps []/\FnOk P w K mg base EG k f fd ps (Cc K rl Pd)
noncomputable def xS(Pd:List W->(ET->Prop)->Prop)(fs:DU):TV:=fun ρ Q=>fs ρ fun ws=>ws.all dr=true/\Pd ws fun d=>Q (.d d)
theorem aR{k:Nat}{Pd:List W->(ET->Prop)->Prop}(D:Dfn X.prog X.w X.K X.mg X.base rl x ps k Pd)(hr:Room k X.A)(ha:D9 X rl (e::es) fs)(hg:autoParam (Gl X x) æa._auto_1)
 (hdb:autoParam ((x==("__debug__" : Str))=false) æb._auto_1)(he:autoParam (E4 (e::es) X.env=(false,eval e X.env)::E4 es X.env) æa._auto_1)(hpl:autoParam ((GP pos (E4 es X.env)).any (·.1)=false) æa._auto_1) :
 PV X rl (.Call (.Name x p) (e::es) [] pos) (xS Pd fs):=by
 obtain⟨f,fd,hm,hk,hb,F⟩:=D.ex;obtain⟨t,p1,kk⟩:=ha;refine⟨_,fT F hr hg hm hk hb .nil nG p1 hdb he hpl,fun R Qd Q q h=>kk R _ _ q fun vs ws F1 H1 g1 r1 ⟨ok,q1⟩=>?_⟩;refine⟨F1,ws,g1.sub,g1.reel,by rw[GQ];exact r1,ok,?_⟩;exact D.mono ws _ _ (fun d qd v F2 H2 g2 r2=>h v (.d d) F2 H2 (g1.trans g2) r2 trivial qd) q1
end
end L2.VL
variable{rl:L2.VL.RlT}{ρ:L2.VL.En}{Pd:List L2.VL.W->(ET->Prop)->Prop}{fi:L2.VL.En->(List ET->Prop)->Prop}
namespace L2
theorem eP{env:Env}:∀(names:List (Str×Ih))(acc:List (Str×Addr)),(∀x∈names,x.2 = .free->∃c,env.cells.lookup x.1=some c)->(∀x c,acc.lookup x=some c->env.cells.lookup x=some c) ->
 ∃ cl,(forIn names acc (fun(x:Str×Ih)(cs:List (Str×Addr))=>if(x.2==Gg)=true then do let c <- cellOf env x.1;pure (HM ((x.1,c)::cs))else pure (HM cs)):Sem (List (Str×Addr)))=pure cl /\
   (∀x c,cl.lookup x=some c->env.cells.lookup x=some c)/\(∀x,(acc.lookup x).isSome=true->(cl.lookup x).isSome=true)/\∀x,(x,Gg)∈names->(cl.lookup x).isSome=true
 | [],acc,_,h2=>⟨acc,rfl,h2,fun _ z=>z,fun _ z=>nomatch z⟩
 | (n,k)::r,acc,h1,h2=>by
   by_cases hk:k = .free
   · subst hk;obtain⟨c,hc⟩:=h1 (n,.free) E7 rfl
     have h2':∀x c',((n,c)::acc).lookup x=some c'->env.cells.lookup x=some c':=fun x c' z=>by
      rw[Gi]at z
      cases e:x==n with
      | true =>
        rw[e]at z;have e':x=n:=by simpa using e
        cases z;rw[e']
        exact hc
      | false =>
        rw[e]at z;exact h2 x c' z
     obtain⟨cl,e,g1,g2,g3⟩:=eP r ((n,c)::acc) (fun x hx=>h1 x (E9 _ hx)) h2';refine⟨cl,?_,g1,fun x z=>g2 x ?_,fun x z=>?_⟩
     · rw[Il];simp only[beq_self_eq_true,if_true];have e0:cellOf env n=pure c:=by unfold cellOf;rw[hc]
       rw[e0,pure_bind,pure_bind];exact e
     · rw[Gi];split
       · rfl
       · exact z
     · rcases FV.mp z with z|z
       · cases z;refine g2 _ ?_;rw[Gi];simp
       · exact g3 x z
   · obtain⟨cl,e,g1,g2,g3⟩:=eP r acc (fun x hx=>h1 x (E9 _ hx)) h2;refine⟨cl,?_,g1,g2,fun x z=>?_⟩
     · rw[Il];have hb:(k==Gg)=false:=by simpa using hk
       simp only[hb,HG,if_false];rw[pure_bind];exact e
     · rcases FV.mp z with z|z
       · cases z;exact absurd rfl hk
       · exact g3 x z
theorem cn{env:Env}(h:∀x∈scope.names,x.2 = .free->∃c,env.cells.lookup x.1=some c) :
 ∃cl,closureFor scope env=pure cl/\(∀x c,cl.lookup x=some c->env.cells.lookup x=some c)/\∀x,(x,Gg)∈scope.names->(cl.lookup x).isSome=true:=by
 obtain⟨cl,e,g1,_,g3⟩:=eP scope.names [] h (fun _ _ z=>by cases z);refine⟨cl,?_,g1,g3⟩;unfold closureFor
 first
  | exact e
  | (simp only[bind_pure];exact e)
theorem i5{env:Env}(h:(LX scope env).names.lookup x=some .cell\/(LX scope env).names.lookup x=some .free):(x,Gg)∈scope.names\/(x,G6)∈scope.names:=by
 have key:∀names:List (Str×Ih),∀k,(k = .cell\/k = .free) ->
  (names.map fun(n,k)=>if(k==Gg&&env.scope.kind == .function&&env.kindOf n==some .cell)then(n,G6)else(n,k)).lookup x=some k->(x,Gg)∈names\/(x,G6)∈names:=by
  intro names
  induction names with
  | nil=>intro k _ z;cases z
  | cons y r ih =>
    intro k hk z;obtain⟨n,kn⟩:=y;have step:((x,Gg)∈r\/(x,G6)∈r)->((x,Gg)∈(n,kn)::r\/(x,G6)∈(n,kn)::r):=fun z=>z.imp (E9 _) (E9 _);rw[Fd]at z;dsimp only at z;by_cases hc:(kn==Gg&&env.scope.kind == .function&&env.kindOf n==some .cell)=true
    · rw[if_pos hc,Gi]at z
      have hf:kn = .free:=by
       have:=(E2.mp (E2.mp hc).1).1;simpa using this
      cases e:x==n with
      | true =>
        have e':x=n:=by simpa using e
        rw[e',<- hf]
        exact .inl E7
      | false =>
        rw[e]at z;exact step (ih k hk z)
    · rw[if_neg hc,Gi]at z
      cases e:x==n with
      | true =>
        rw[e]at z;have e':x=n:=by simpa using e
        cases z;rcases hk with hk|hk
        · rw[e',hk];exact .inr E7
        · rw[e',hk];exact .inl E7
      | false =>
        rw[e]at z;exact step (ih k hk z)
 rcases h with h|h
 · exact key scope.names .cell (.inl rfl) h
 · exact key scope.names .free (.inr rfl) h
theorem br:∀(names:List (Str×Ih))(n:Nat)(acc:List (Str×Addr)),GV n names acc=GV n names []++acc
 | [],_,_=>rfl
 | (x,k)::r,n,acc=>by
   unfold GV;split
   · rw[br r (n+1) ((x,n)::acc),br r (n+1) [(x,n)],JI];rfl
   · exact br r n acc
theorem dh{x:Str}{c:Addr}:∀{names:List (Str×Ih)}{n:Nat},(x,c)∈GV n names []->(x,G6)∈names
 | (y,k)::r,n,h=>by
   unfold GV at h;split at h
   · rename_i hk;rw[br]at h;rcases GG.mp h with h|h
     · exact E9 _ (dh h)
     · simp at h;have:k = .cell:=by simpa using hk
       rw[h.1,this];exact E7
   · exact E9 _ (dh h)
theorem eL{a b:List (Str×Addr)}:(a++b).lookup x=(a.lookup x).or (b.lookup x):=by
 induction a with
 | nil=>simp
 | cons y a ih =>
   obtain⟨n,c⟩:=y;rw[J7,Gi,Gi];cases x==n<;>simp[ih]
theorem jM{M:Model}{globals:Addr}{cl:List (Str×Addr)}{o:Env}{Q:Env->EZ->Prop}
 (hQ:Q {scope,locals:=s.heap.objs.size,globals,cells:=GV (s.heap.objs.size+1) scope.names cl,qual,func:=none,code:=o.code,frame:=o.frame,builtins:=o.builtins} {s with heap:=LO (s.heap.push {cls:=.type "dict", data:=.dict #[]}) scope.names}) :
 Fm M A (Iy scope globals cl [] qual none .none (some o)) Q E s:=by
 simp only[Iy,Option.isSome_some,if_true];refine EU (wpAny_alloc ?_);refine EU (wpAny_layCells _ (fun name kind cells=>by cases hkc:kind==G6<;>simp[hkc]) _ _ _ _ ?_);rw[show({s with heap:=s.heap.push {cls:=.type "dict", data:=.dict #[]}}:EZ).heap.objs.size=s.heap.objs.size+1 from GY ..];exact EU (EW (EW hQ))
noncomputable def aS(X:Cx)(N':List Str)(scope:Scope)(cl:List (Str×Addr))(fp:List Addr)(pn:List (Addr×Obj))(s:EZ)(H:Hp):Cx :=
 {X with N:=N',s₀:=s,H₀:=H,env:={compEnvC scope cl s.heap.objs.size X.env with cells:=GV (s.heap.objs.size+1) scope.names cl},outer:=X.stack,ex:=fp,fn:=fun x=>scope.names.lookup x==some .cell,pn:=pn,xe:=fun _ _=>False}
abbrev dI(ifs:List Expr)(env:Env):Sem Bool:=forIn ifs true fun c r=>if r=true then do let ok <- isTrue c env (eval c env);pure (HM ok)else pure (HM r)
noncomputable def Ea(X:Cx)(ifs:List Expr)(t:TT):Prop :=
 ∀(pins:List (Addr×Obj))(s:EZ)(σ:St)(H:Hp)(Q:Bool->Hp->Prop),Inv X pins σ H s->t σ H Q->Fm (FA X.prog X.w) X.A (dI ifs X.env) (TP X pins σ Q) X.xe s
theorem nq:Ea X [] (fun _ H Q=>Q true H):=fun _ _ _ H _ I h=>wpAny_tests_nil ⟨H,I,h⟩
theorem tm{c:Expr}{t:TT}(h:PT X c t):Ea X [c] t:=fun pins s σ H Q I hw=>wpAny_tests_one (h pins s σ H Q I hw)
theorem oM{prog:Fo}{R:Lx->EZ->Prop}{elt target:Expr}{it acc:EX}{env:Env}(I:Nat->EZ->Prop)
 (turn:∀n s,I n s->Fm (FA prog w) A (JE it) (fun r s₁=>(r=none/\R (.ok .next) s₁)\/∃v,r=some v /\
  Fm (FA prog w) A (G0 target it v) (fun _ s₂=>Fm (FA prog w) A (HF target env v) (fun _ s₃=>Fm (FA prog w) A (dI ifs env) (fun ok s₄ =>
   if ok=true then Fm (FA prog w) A (eval elt env) (fun x s₅=>Fm (FA prog w) A (call (.builtin "list.append") [acc,x]) (fun _ s₆=>∃m,m<n/\I m s₆) (fun _ _=>False) s₅) (fun _ _=>False) s₄
   else ∃m,m<n/\I m s₄) (fun _ _=>False) s₃) (fun _ _=>False) s₂) (fun _ _=>False) s₁) (fun _ _=>False) s)
 (n:Nat)(h:I n s):G_ (FA prog w) A (.compLoop (.ListComp elt [⟨target,iter,ifs,0⟩] scope pos) 0 it acc env) R s:=by
 refine Kr rfl I (fun n s hI=>?_) n h;show Fm _ A ((Lj (.ListComp elt [⟨target,iter,ifs,0⟩] scope pos) 0 it acc env).onRaise (fun x=>do Lk x env;Je x)) _ _ s;refine K6 ?_;rw[compTurn_list];refine EU (GJ (EU (FH (turn n s hI) (fun r s₁ h₁=>?_) fun _ _ h'=>h'.elim)));rcases h₁ with⟨rfl,h₁⟩|⟨v,rfl,h₁⟩
 · exact EW h₁
 · refine EU (FH h₁ (fun _ s₂ h₂=>EU (FH h₂ (fun _ s₃ h₃=>EU (FH h₃ (fun ok s₄ h₄=>?_) fun _ _ z=>z.elim)) fun _ _ z=>z.elim)) fun _ _ z=>z.elim)
   cases ok with
   | false=>exact EW ⟨rfl,h₄⟩
   | true=>exact EU (EU (FH h₄ (fun x s₅ h₅=>EU (FH h₅ (fun _ s₆ h₆=>EW (EW ⟨rfl,h₆⟩)) fun _ _ z=>z.elim)) fun _ _ z=>z.elim))
noncomputable def lY(fr:List (Option Nat))(σ:St):St:=fr.map fun o=>o.bind fun j=>(σ[j]?).join
noncomputable def lS(fr:List (Option Nat))(N' N:List Str)(sc scX:Scope):Bool :=
 decide (fr.length=N'.length)&&(Gm fr.length).all fun i=>match fr[i]? with
  | some (some j)=>match N'[i]? with
    | some x=>decide (N[j]?=some x)&&decide (sc.names.lookup x=some .free)&&(decide (scX.names.lookup x=some .cell)||decide (scX.names.lookup x=some .free))
    | none=>false
  | _=>true
noncomputable def lW(sc scX:Scope):Bool :=
 decide (sc.kind = .function)&&sc.names.all fun y=>(decide (y.2 ≠ .cell)||decide (sc.names.lookup y.1=some .cell))&&(decide (y.2 ≠ .local)||decide (sc.names.lookup y.1=some .local)) &&
  (decide (y.2 ≠ .free)||(decide (scX.names.lookup y.1=some .cell)||decide (scX.names.lookup y.1=some .free)))
theorem lS.get{fr:List (Option Nat)}{sc scX:Scope}(h:lS fr N' N sc scX=true):fr.length=N'.length/\∀(i j:Nat),fr[i]?=some (some j)->∃x,N'[i]?=some x/\N[j]?=some x/\sc.names.lookup x=some .free/\(scX.names.lookup x=some .cell\/scX.names.lookup x=some .free):=by
 unfold lS at h;obtain⟨h1,h2⟩:=E2.mp h;refine⟨of_decide_eq_true h1,fun i j e=>?_⟩;have hi:i<fr.length:=(Ff.mp e).1;have q:=GU.mp h2 i (Ix.mpr hi);rw[e]at q;dsimp only at q
 cases en:N'[i]? with
 | none=>rw[en]at q;cases q
 | some x =>
   rw[en]at q;dsimp only at q;obtain⟨q1,q2⟩:=E2.mp q;obtain⟨q3,q4⟩:=E2.mp q1;exact⟨x,rfl,of_decide_eq_true q3,of_decide_eq_true q4,(Fu.mp q2).imp of_decide_eq_true of_decide_eq_true⟩
theorem lO{k:Ih}:∀{names:List (Str×Ih)},names.lookup x=some k->(x,k)∈names:=fun h=>Go h
structure CompA where
 cl:List (Str×Addr)
 fp:List Addr
 pn:List (Addr×Obj)
 s:EZ
 H:Hp
abbrev blk(X:Cx)(N':List Str)(scope:Scope)(y:CompA):Cx:=aS X N' scope y.cl y.fp y.pn y.s y.H
noncomputable def pF(wi:TI)(fr:List (Option Nat))(g:CompA->TG)(tt:CompA->TT)(te:CompA->TE):TE:=fun σ H Q=>wi σ H fun J H1=>∀D,H1 D=none->∃Wv:Nat->Nat->List V->St->Hp->Prop,(∃m,Wv 0 m [] (lY fr σ) (Co H1 D (.lst []))) /\
 ∀ (z:CompA) i m acc σc H,Wv i m acc σc H->(J.stop i H/\Q (.ref D) H)\/(J.go i H/\∀x H',J.yld i H x H'->g z x σc H' fun σ2 H2=>tt z σ2 H2 fun b H3 =>
   if b=true then te z σ2 H3 fun y H4=>H4 D=some (.lst acc)/\acc.length<sizeLine/\∃m',m'<m/\Wv (i+1) m' (acc++[y]) σ2 (Co H4 D (.lst (acc++[y])))else ∃m',m'<m/\Wv (i+1) m' acc σ2 H3)
theorem eX{env:Env}:∀{names:List (Str×Ih)}{x:Str},names.lookup x=some .free ->
 (names.map fun(n,k)=>if(k==Gg&&env.scope.kind == .function&&env.kindOf n==some .cell)then(n,G6)else(n,k)).lookup x=some .cell \/
 (names.map fun(n,k)=>if(k==Gg&&env.scope.kind == .function&&env.kindOf n==some .cell)then(n,G6)else(n,k)).lookup x=some .free
 | [],_,h=>by simp at h
 | (n,k)::r,x,h=>by
   have ih:=@eX env r x;rw[Fd];dsimp only
   cases hx:x==n with
   | true =>
     simp only[Gi,hx]at h;cases h;by_cases hc:((Gg==Gg)&&env.scope.kind == .function&&env.kindOf n==some .cell)=true
     · rw[if_pos hc];simp[Gi,hx]
     · rw[if_neg hc];simp[Gi,hx]
   | false =>
     simp only[Gi,hx]at h;by_cases hc:(k==Gg&&env.scope.kind == .function&&env.kindOf n==some .cell)=true
     · rw[if_pos hc];simp only[Gi,hx];exact ih h
     · rw[if_neg hc];simp only[Gi,hx];exact ih h
theorem dg{ex:Expr}{H3:Hp}{s3:EZ}{D:Addr}{J:It}{Q:VK}
 {cl:List (Str×Addr)}(N':List Str)(fr:List (Option Nat))(hc:X.calm=true)(hkind:scope.kind = .function)(hcell:∀y∈scope.names,y.2 = .cell->scope.names.lookup y.1=some .cell)
 (hfree:∀y∈scope.names,y.2 = .free->X.env.kindOf y.1=some .cell\/X.env.kindOf y.1=some .free)(frl:fr.length=N'.length)
 (frg:∀(i j:Nat),fr[i]?=some (some j)->∃x,N'[i]?=some x/\X.N[j]?=some x/\scope.names.lookup x=some .free/\(X.env.scope.names.lookup x=some .cell\/X.env.scope.names.lookup x=some .free))
 (cl1:∀x c,cl.lookup x=some c->X.env.cells.lookup x=some c)(cl2:∀x,(x,Gg)∈scope.names->(cl.lookup x).isSome=true)
 (I3:Inv X pins σ H3 s3)(T:Turn X.prog X.w X.K tg J fp it tn)(tn3:tn 0 s3.heap)(fpD:∀b∈fp,H3 b=none)(fp3:∀b∈fp,b<s3.heap.objs.size)
 (fpk:∀b∈fp,b≠X.env.locals/\b∉X.fs/\(b∈X.ex\/X.s₀.heap.objs.size<=b)/\(∀x c,X.env.cells.lookup x=some c->c≠b)/\∀p∈X.pn++pins,p.1≠b)
 (loop:∀s',Inv (aS X N' scope cl fp (X.pn++pins) s3 H3) [] (lY fr σ) H3 s'->tn 0 s'.heap->(∀{H':Hp},(∀b∈fp,H' b=none)->∀b∈fp,j6 (aS X N' scope cl fp (X.pn++pins) s3 H3) [] H' b) ->
  G_ (FA X.prog X.w) X.A (.compStart ex 0 (.ref it) (.ref D) (aS X N' scope cl fp (X.pn++pins) s3 H3).env) (fun r s5=>r = .ok .next/\∃σ5 H4,Inv (aS X N' scope cl fp (X.pn++pins) s3 H3) [] σ5 H4 s5/\Q (.ref D) H4) s')
 (fin:∀s5 H4 m,s5.heap.Ns s3.heap.objs.size m->(∀h',G7 s3.heap.objs.size s5.heap h'->Inv X pins σ H4 {s5 with heap:=h' })->j6 X pins H4 s3.heap.objs.size->Q (.ref D) H4->Rp s3.heap.objs.size (.ok .next) s5) :
 Fm (FA X.prog X.w) X.A (Iy scope X.env.globals cl [] X.env.qual none .none (some X.env)) (fun cenv s₄ =>
  G_ (FA X.prog X.w) X.A (.compStart ex 0 (.ref it) (.ref D) {cenv with scope:=LX scope X.env})
   (Rp cenv.locals) s₄) X.xe s3:=by
 refine jM ?_;have ok:=cellsFrom_ok scope.names (s3.heap.push {cls:=.type "dict", data:=.dict #[]}) (s3.heap.objs.size+1) [] ⟨fun _ _ hm=>(nomatch hm),List.Pairwise.nil⟩ (by rw[GY];exact E3 _);rw[GY]at ok;have kp:∀b o,s3.heap.get? b=some o->(LO (s3.heap.push {cls:=.type "dict", data:=.dict #[]}) scope.names).get? b=some o:=fun b o e=>pushCells_keeps _ _ b o (EY _ e);have hns₁:(LO (s3.heap.push {cls:=.type "dict", data:=.dict #[]}) scope.names).Ns s3.heap.objs.size (fun _=>none):=(Heap.Ns.new s3.heap (.type "dict")).keeps (pushCells_keeps _ _);generalize LO (s3.heap.push {cls:=.type "dict", data:=.dict #[]}) scope.names=h₁ at ok kp hns₁ ⊢
 have cs:∀x c,(GV (s3.heap.objs.size+1) scope.names cl).lookup x=some c->(GV (s3.heap.objs.size+1) scope.names []).lookup x=some c\/cl.lookup x=some c:=fun x c e=>by
  rw[br,eL]at e
  cases q:(GV (s3.heap.objs.size+1) scope.names []).lookup x with
  | none=>rw[q]at e;exact .inr (by simpa using e)
  | some c'=>rw[q]at e;exact .inl (by simpa using e)
 have own:∀x c,(GV (s3.heap.objs.size+1) scope.names []).lookup x=some c->h₁.IsCell c none/\s3.heap.objs.size+1<=c:=fun x c e=>ok.empty x c (Go e)
 have clt:∀x c,cl.lookup x=some c->c<s3.heap.objs.size:=fun x c e=>by
  obtain⟨v,o,ho,_⟩:=I3.cell x c (cl1 x c e);exact E8 ho
 have frn:∀x,scope.names.lookup x=some .free->(GV (s3.heap.objs.size+1) scope.names []).lookup x=none:=fun x e=>by
  cases q:(GV (s3.heap.objs.size+1) scope.names []).lookup x with
  | none=>rfl
  | some c =>
    have:=hcell (x,.cell) (dh (Go q)) rfl;rw[e]at this;cases this
 have notC:∀b o,s3.heap.get? b=some o->b≠s3.heap.objs.size:=fun b o e=>FK (E8 e);have fpstk:∀b∈fp,b∉frs X.stack:=fun b hb z=>(FV.mp (I3.stkSub b z)).elim (fpk b hb).1 (fpk b hb).2.1;have cellK:∀c v,s3.heap.IsCell c v->h₁.IsCell c v:=fun c v ⟨o,ho,hd⟩=>⟨o,kp c o ho,hd⟩
 have IY:Inv (aS X N' scope cl fp (X.pn++pins) s3 H3) [] (lY fr σ) H3 {s3 with heap:=h₁}:=by
  refine⟨⟨I3.ok.mod,hkind,I3.ok.glob,I3.ok.blt,E3 _,fun x y c e1 e2=>?_,fun x hx=>?_,fun x c _ e=>?_,I3.ok.hd,I3.ok.frames,.inl rfl,
   fun b hb=>⟨FK (fp3 b hb),fun x c e=>?_⟩,I3.bs,Gk I3.ok.bsz I3.sz,fun b o e hb=>?_,fun b hb=>fpstk b hb,I3.stack,I3.stkFree⟩,
   rfl,I3.bare,Un.kept kp,⟨_,hns₁,fun i x v e1 e2 e3=>?_⟩,fun x c e=>?_,I3.hok.fresh (E3 _),fun x c e=>?_,fun p hp=>?_,I3.hok.kept kp,?_⟩
  · rcases cs x c e1 with q1|q1<;>rcases cs y c e2 with q2|q2
    · exact name_of_addr ok.apart (Go q1) (Go q2)
    · exact absurd (E6 (clt y c q2) (HR (own x c q1).2)) (GE _)
    · exact absurd (E6 (clt x c q1) (HR (own y c q2).2)) (GE _)
    · exact I3.ok.inj x y c (cl1 x c q1) (cl1 y c q2)
  · refine Hr.mp ?_;show((GV (s3.heap.objs.size+1) scope.names cl).lookup x).isSome=true;rcases i5 hx with q|q
    · exact W.cellsFrom_some _ _ _ (.inr (cl2 x q))
    · exact W.cellsFrom_some _ _ _ (.inl (hcell _ q rfl))
  · rename_i hfn;rcases cs x c e with q|q
    · have:=(own x c q).2;show s3.heap.objs.size<=c;omega
    · have hfn:(scope.names.lookup x==some G6)=true:=hfn;have hl:scope.names.lookup x=some .cell:=by simpa using hfn
      obtain⟨c',ec'⟩:=Hr.mp (W.cellsFrom_some scope.names (s3.heap.objs.size+1) [] (.inl hl));have e':(GV (s3.heap.objs.size+1) scope.names cl).lookup x=some c:=e;rw[br,eL,ec']at e';simp at e';subst e';exact HR (own x c' ec').2
  · rcases cs x c e with q|q
    · exact fun z=>absurd (E6 (fp3 b hb) (HR (by rw[<- z];exact(own x c q).2))) (GE _)
    · exact(fpk b hb).2.2.2.1 x c (cl1 x c q)
  · rcases(fpk b hb).2.2.1 with z|z
    · exact I3.ok.noex b o e z
    · exact absurd (E6 (E8 e) (Gk I3.ok.bsz z)) (GE _)
  · have e2':(fr[i]?).map (fun o=>o.bind fun j=>(σ[j]?).join)=some (some v):=by unfold lY at e2;rw[Gr]at e2;exact e2
    cases ef:fr[i]? with
    | none=>rw[ef]at e2';cases e2'
    | some o =>
      cases o with
      | none=>rw[ef]at e2';cases e2'
      | some j =>
        rw[ef]at e2';have e3':(σ[j]?).join=some v:=FO e2'
        have e4:σ[j]?=some (some v):=by
         cases q:σ[j]? with
         | none=>rw[q]at e3';cases e3'
         | some z=>rw[q]at e3';cases e3';rfl
        obtain⟨x',n1,n2,n3,n4⟩:=frg i j ef;have ex:x'=x:=FO (n1.symm.trans e1);subst ex;obtain⟨m,hn,hl⟩:=I3.loc;obtain⟨u,ru,lk⟩:=hl j x' v n2 e4 (n4.elim (fun z=>.inr (.inl z)) fun z=>.inr (.inr z));refine⟨u,ru,?_⟩;rcases lk with⟨kl,_⟩|⟨_,c,ec,hcl⟩
        · exact absurd (show X.env.scope.names.lookup x'=some .local from kl) (by rcases n4 with z|z<;>rw[z]<;>decide)
        · obtain⟨c',ec'⟩:=Hr.mp (cl2 x' (lO n3));have:=cl1 x' c' ec';rw[ec]at this;cases this;refine .inr ⟨eX n3,c,?_,cellK _ _ hcl⟩;show(GV (s3.heap.objs.size+1) scope.names cl).lookup x'=some c;rw[br,eL,frn x' n3];simpa using ec'
  · rcases cs x c e with q|q
    · exact⟨_,(own x c q).1⟩
    · obtain⟨v,z⟩:=I3.cell x c (cl1 x c q);exact⟨v,cellK _ _ z⟩
  · rcases cs x c e with q|q
    · exact I3.hok.fresh (by have:=(own x c q).2;omega)
    · exact I3.freeC x c (cl1 x c q)
  · rw[GQ]at hp;obtain⟨e,n,ne,nf,d⟩:=I3.pin p hp;exact⟨kp _ _ e,n,notC _ _ e,fun z=>(FV.mp (I3.stkSub p.1 z)).elim ne nf,d⟩
  · unfold lY;rw[E1];exact frl
 have stat:∀{H':Hp},(∀b∈fp,H' b=none)->∀b∈fp,j6 (aS X N' scope cl fp (X.pn++pins) s3 H3) [] H' b:=fun hn b hb =>
  ⟨hn b hb,FK (fp3 b hb),fpstk b hb,.inl hb,fun x c e=>(by
   rcases cs x c e with q|q
   · exact fun z=>absurd (E6 (fp3 b hb) (HR (by rw[<- z];exact(own x c q).2))) (GE _)
   · exact(fpk b hb).2.2.2.1 x c (cl1 x c q)),fun p hp=>by rw[GQ]at hp;exact(fpk b hb).2.2.2.2 p hp⟩
 refine Jo (loop _ IY (T.keep _ _ _ tn3 fun b _ o e=>kp b o e) stat) fun r s5 ⟨hr,σ5,H4,I5,qn⟩=>?_;subst hr;obtain⟨m,hn,_⟩:=I5.loc;refine fin s5 H4 m hn (fun h' hs'=>?_) (I3.fpOk (E3 _) I5.free) qn;have k':∀b o,b≠s3.heap.objs.size->s5.heap.get? b=some o->h'.get? b=some o:=fun b o nb e=>hs'.extBut b o nb e;have u5:Un (frs X.stack) fp H3 H4 s3.heap s5.heap:=I5.base
 have un:Un (frs X.stack) fp H3 H4 s3.heap h' :=
  ⟨fun b o e n hb hx=>k' b o (notC b o e) (u5.keep b o e n hb hx),fun b o e n hb hx=>by obtain⟨sl,q⟩:=u5.slot b o e n hb hx;exact⟨sl,k' b _ (notC b o e) q⟩,u5.free,
   fun b o e hx=>by obtain⟨o',q⟩:=u5.there b o e hx;exact⟨o',k' b _ (notC b o e) q⟩,u5.tups,u5.frzs,u5.tbls⟩
 have nC:H4 s3.heap.objs.size=none:=I5.free
 have hok':EB X.prog X.w H4 h':=fun b u e=>(I5.hok b u e).stay (fun c v hcv q=>k' c v (by
  rintro rfl;rcases hcv with z|z
  · rw[<- z]at e;rw[nC]at e;cases e
  · rw[nC]at z;cases z) q) (fun _ q=>q) fun _ _ q=>q
 obtain⟨hh,g5,d5,t5,os5⟩:=s5;have os':os5=s3.os:=I5.os;subst os';have I':=Inv.call (s:=s3) (h':=h') (g':=g5) (d':=d5) (t':=t5) (ch:=fp) I3 un hok' I5.bare (fun b hb=>⟨(fpk b hb).2.2.1,(fpk b hb).1,(fpk b hb).2.2.2.1,(fpk b hb).2.2.2.2⟩);exact I'
theorem gZ{elt:Expr}{g:TG}{tt:TT}{te:TE}{H3:Hp}{s3:EZ}{D:Addr}{J:It}{Q:VK}
 {cl:List (Str×Addr)}(N':List Str)(fr:List (Option Nat))(hc:X.calm=true)(hkind:scope.kind = .function)(hcell:∀y∈scope.names,y.2 = .cell->scope.names.lookup y.1=some .cell)
 (hfree:∀y∈scope.names,y.2 = .free->X.env.kindOf y.1=some .cell\/X.env.kindOf y.1=some .free)(frl:fr.length=N'.length)
 (frg:∀(i j:Nat),fr[i]?=some (some j)->∃x,N'[i]?=some x/\X.N[j]?=some x/\scope.names.lookup x=some .free/\(X.env.scope.names.lookup x=some .cell\/X.env.scope.names.lookup x=some .free))
 (cl1:∀x c,cl.lookup x=some c->X.env.cells.lookup x=some c)(cl2:∀x,(x,Gg)∈scope.names->(cl.lookup x).isSome=true)
 (I3:Inv X pins σ H3 s3)(T:Turn X.prog X.w X.K tg J fp it tn)(tn3:tn 0 s3.heap)(fpD:∀b∈fp,H3 b=none)(fp3:∀b∈fp,b<s3.heap.objs.size)
 (fpk:∀b∈fp,b≠X.env.locals/\b∉X.fs/\(b∈X.ex\/X.s₀.heap.objs.size<=b)/\(∀x c,X.env.cells.lookup x=some c->c≠b)/\∀p∈X.pn++pins,p.1≠b)
 (hg:PG (aS X N' scope cl fp (X.pn++pins) s3 H3) tg g)(ht:Ea (aS X N' scope cl fp (X.pn++pins) s3 H3) ifs tt)(he:PE (aS X N' scope cl fp (X.pn++pins) s3 H3) elt te)
 {Wv:Nat->Nat->List V->St->Hp->Prop}{m0:Nat}(w0:Wv 0 m0 [] (lY fr σ) H3)
 (turn:∀i m acc σc H,Wv i m acc σc H->(J.stop i H/\Q (.ref D) H)\/(J.go i H/\∀x H',J.yld i H x H'->g x σc H' fun σ2 H2=>tt σ2 H2 fun b H3 =>
  if b=true then te σ2 H3 fun y H4=>H4 D=some (.lst acc)/\acc.length<sizeLine/\∃m',m'<m/\Wv (i+1) m' (acc++[y]) σ2 (Co H4 D (.lst (acc++[y])))else ∃m',m'<m/\Wv (i+1) m' acc σ2 H3))
 (fin:∀s5 H4 m,s5.heap.Ns s3.heap.objs.size m->(∀h',G7 s3.heap.objs.size s5.heap h'->Inv X pins σ H4 {s5 with heap:=h' })->j6 X pins H4 s3.heap.objs.size->Q (.ref D) H4->Rp s3.heap.objs.size (.ok .next) s5) :
 Fm (FA X.prog X.w) X.A (Iy scope X.env.globals cl [] X.env.qual none .none (some X.env)) (fun cenv s₄ =>
  G_ (FA X.prog X.w) X.A (.compStart (.ListComp elt [⟨tg,iter,ifs,0⟩] scope pos) 0 (.ref it) (.ref D) {cenv with scope:=LX scope X.env})
   (Rp cenv.locals) s₄) X.xe s3:=by
 refine dg N' fr hc hkind hcell hfree frl frg cl1 cl2 I3 T tn3 fpD fp3 fpk (fun s' IY tY stat=>?_) fin
 have loop:G_ (FA X.prog X.w) X.A (.compLoop (.ListComp elt [⟨tg,iter,ifs,0⟩] scope pos) 0 (.ref it) (.ref D) (aS X N' scope cl fp (X.pn++pins) s3 H3).env)
  (fun r s5=>r = .ok .next/\∃σ5 H4,Inv (aS X N' scope cl fp (X.pn++pins) s3 H3) [] σ5 H4 s5/\Q (.ref D) H4) s':=by
  refine oM (fun n s'=>∃i acc σ' H',Inv (aS X N' scope cl fp (X.pn++pins) s3 H3) [] σ' H' s'/\tn i s'.heap/\(∀b∈fp,H' b=none)/\Wv i n acc σ' H') ?_ m0
   ⟨0,[],_,_,IY,tY,fpD,w0⟩
  rintro n s4 ⟨i,acc,σ4,H4,I4,st4,fr4,w4⟩;rcases turn i n acc σ4 H4 w4 with⟨stop,qn⟩|⟨go,step⟩
  · exact Cy (T.done (aS X N' scope cl fp (X.pn++pins) s3 H3) rfl rfl rfl hc i [] s4 σ4 H4 (fun _ _=>False) I4 (stat fr4) st4 stop) fun r s5 ⟨hr,I5⟩=>.inl ⟨hr,rfl,σ4,H4,I5,qn⟩
  · refine Cy (T.item (aS X N' scope cl fp (X.pn++pins) s3 H3) rfl rfl rfl hc i [] s4 σ4 H4 (fun _ _=>False) I4 (stat fr4) st4 go) fun r s5 ⟨u,hr,h5⟩=>.inr ⟨u,hr,?_⟩;refine Cy h5 fun _ s6 ⟨x,H6,I6,r6,y6,st6,fr6⟩=>?_;have I6':=I6.pinned (stat fr6) (T.obj _ _ st6)
    have again:∀{σ7:St}{H7:Hp}{s7:EZ},Inv (aS X N' scope cl fp (X.pn++pins) s3 H3) ([]++eZ fp s6.heap) σ7 H7 s7->∀{acc':List V}{m':Nat},m'<n->Wv (i+1) m' acc' σ7 H7 ->
     ∃m,m<n/\∃i acc σ' H',Inv (aS X N' scope cl fp (X.pn++pins) s3 H3) [] σ' H' s7/\tn i s7.heap/\(∀b∈fp,H' b=none)/\Wv i m acc σ' H':=fun{σ7 H7 s7} I7 {acc' m'} hm w7=>by
     refine⟨m',hm,i+1,acc',σ7,H7,I7.unpinned,T.keep _ _ _ st6 fun b hb o e=>(I7.pin (b,o) (Fh _ (Fh _ (bw hb e)))).1,fun b hb=>?_,w7⟩;obtain⟨o,e,d⟩:=T.obj _ _ st6 b hb;exact(I7.pin (b,o) (Fh _ (Fh _ (bw hb e)))).2.1
    refine Cy (hg _ s6 σ4 H6 x u _ I6' r6 (step x H6 y6)) fun _ s7 ⟨σ7,H7,I7,q7⟩=>?_;refine Cy (ht _ s7 σ7 H7 _ I7 q7) fun ok s8 ⟨H8,I8,q8⟩=>?_
    cases ok with
    | false =>
      rw[if_neg Fz]at q8 ⊢;obtain⟨m',hm,w8⟩:=q8
      exact again I8 hm w8
    | true =>
      rw[if_pos rfl]at q8 ⊢;refine Cy (he _ s8 σ7 H8 _ I8 q8) fun y s9 ⟨yv,H9,I9,r9,eD,hl,m',hm,w9⟩=>?_
      exact Cy (d9 (X:=aS X N' scope cl fp (X.pn++pins) s3 H3) _ s9 σ7 H9 (.ref D) [yv] (.ref D) [y] (fun _ H'=>H'=Co H9 D (.lst (acc++[yv]))) I9 rfl (.cons r9 .nil) ⟨D,acc,yv,rfl,rfl,eD,hl,rfl⟩)
       fun _ s10 ⟨_,H10,I10,_,e10⟩=>by subst e10;exact again I10 hm w9
 exact Ke loop (T.self X.A 0 _ _ _ tY loop)
section
variable{X:Cx}{elt tg iter:Expr}{ifs:List Expr}{scope:Scope}{pos:Pos}{wi:TI}{g:CompA->TG}{tt:CompA->TT}{te:CompA->TE}
theorem iw(N':List Str)(fr:List (Option Nat))(hc:X.calm=true)(hi:PI X tg iter wi)(hfr:lS fr N' X.N scope X.env.scope=true)(hsc:lW scope X.env.scope=true)
 (hg:∀y,PG (blk X N' scope y) tg (g y))(ht:∀y,Ea (blk X N' scope y) ifs (tt y))(he:∀y,PE (blk X N' scope y) elt (te y))
 (hs:autoParam (∀x,FC iter X.env x=pure x) æd._auto_1):PE X (.ListComp elt [⟨tg,iter,ifs,0⟩] scope pos) (pF wi fr g tt te):=by
 intro pins s σ H Q I h;obtain⟨sk,sn⟩:=E2.mp hsc;have hkind:scope.kind = .function:=of_decide_eq_true sk;have hall:=GU.mp sn
 have hcell:∀y∈scope.names,y.2 = .cell->scope.names.lookup y.1=some .cell:=fun y hy hl=>by
  rcases Fu.mp (E2.mp (E2.mp (hall y hy)).1).1 with z|z
  · exact absurd hl (of_decide_eq_true z)
  · exact of_decide_eq_true z
 have hnames:∀y∈scope.names,y.2 = .local->scope.names.lookup y.1=some .local:=fun y hy hl=>by
  rcases Fu.mp (E2.mp (E2.mp (hall y hy)).1).2 with z|z
  · exact absurd hl (of_decide_eq_true z)
  · exact of_decide_eq_true z
 have hfree:∀y∈scope.names,y.2 = .free->X.env.kindOf y.1=some .cell\/X.env.kindOf y.1=some .free:=fun y hy hl=>by
  rcases Fu.mp (E2.mp (hall y hy)).2 with z|z
  · exact absurd hl (of_decide_eq_true z)
  · exact(Fu.mp z).imp of_decide_eq_true of_decide_eq_true
 obtain⟨frl,frg⟩:=lS.get hfr;obtain⟨cl,hclos,cl1,cl2⟩:=cn (env:=X.env) (scope:=scope) fun y hy hl=>I.ok.has y.1 (hfree y hy hl);rw[eval_ListComp];refine GN (use:=none) rfl hs hclos hkind hnames (Cy (hi pins s σ H _ I h) fun v s1 h1=>Cy h1 fun itv s2 h2=>?_);obtain⟨it,fp,tn,J,H2,e,I2,T,st2,f2,q2⟩:=h2;subst e;refine FB ?_;have hD:H2 s2.heap.objs.size=none:=I2.hok.fresh (E3 _)
 have I3:Inv X pins σ (Co H2 s2.heap.objs.size (.lst [])) {s2 with heap:=s2.heap.push {cls:=.type "list", data:=.seq ([]:List EX).toArray}} :=
  I2.laid (t':=s2.toks) (fun b u e=>EY _ e) (E3 _) ⟨by show 0<=sizeLine;exact FE _,[],0,.nil,Fa _ rfl⟩
 obtain⟨Wv,⟨m0,w0⟩,turn⟩:=q2 _ hD;have tn3:tn 0 (s2.heap.push {cls:=.type "list", data:=.seq ([]:List EX).toArray}):=T.keep _ _ _ st2 fun b _ o e=>EY _ e
 have fpD:∀b∈fp,(Co H2 s2.heap.objs.size (.lst [])) b=none:=fun b hb=>by
  obtain⟨o,e,_⟩:=T.obj _ _ st2 b hb;rw[ak (FK (E8 e))];exact(f2 b hb).1
 have fp3:∀b∈fp,b<(s2.heap.push {cls:=.type "list", data:=.seq ([]:List EX).toArray}).objs.size:=fun b hb=>by
  obtain⟨o,e,_⟩:=T.obj _ _ tn3 b hb;exact E8 e
 exact gZ N' fr hc hkind hcell hfree frl frg cl1 cl2 I3 T tn3 fpD fp3 (fun b hb=>(f2 b hb).2) (hg ⟨cl,fp,X.pn++pins,_,_⟩) (ht ⟨cl,fp,X.pn++pins,_,_⟩) (he ⟨cl,fp,X.pn++pins,_,_⟩) w0 (turn ⟨cl,fp,X.pn++pins,_,_⟩)
  (Rp:=Ll (FA X.prog X.w) X.A X.xe none (EP X pins σ Q) (.ref s2.heap.objs.size)) fun s5 H4 m hn k _ qn=>⟨m,hn,fun h' hs'=>⟨.ref _,H4,k h' hs',rfl,qn⟩⟩
theorem lI{b:Bool}{ix:Nat}(N':List Str)(fr:List (Option Nat))(hc:X.calm=true)(hi:PI X tg iter wi)(hfr:lS fr N' X.N scope X.env.scope=true)(hsc:lW scope X.env.scope=true)
 (hg:∀y,PG (blk X N' scope y) tg (g y))(ht:∀y,Ea (blk X N' scope y) ifs (tt y))(he:∀y,PE (blk X N' scope y) elt (te y))(hN:X.N.Nodup)(hix:X.N[ix]?=some x)(hx:Loc X.env.scope x)
 (hf:X.fn x=true\/X.env.scope.names.lookup x=some .local)(hsw:GH (.ListComp elt [⟨tg,iter,ifs,0⟩] scope pos) (some (.Name x px)) spos.line X.env=pure b)
 (hs:∀x,FC iter X.env x=pure x):PS X (.Assign [.Name x px] (.ListComp elt [⟨tg,iter,ifs,0⟩] scope pos) spos) (vQ (pF wi fr g tt te) (iB ix)):=by
 cases b with
 | false=>exact fS hN hix hx (iw N' fr hc hi hfr hsc hg ht he hs) hsw hf
 | true =>
 intro pins s σ H DD I h;obtain⟨sk,sn⟩:=E2.mp hsc;have hkind:scope.kind = .function:=of_decide_eq_true sk;have hall:=GU.mp sn
 have hcell:∀y∈scope.names,y.2 = .cell->scope.names.lookup y.1=some .cell:=fun y hy hl=>by
  rcases Fu.mp (E2.mp (E2.mp (hall y hy)).1).1 with z|z
  · exact absurd hl (of_decide_eq_true z)
  · exact of_decide_eq_true z
 have hnames:∀y∈scope.names,y.2 = .local->scope.names.lookup y.1=some .local:=fun y hy hl=>by
  rcases Fu.mp (E2.mp (E2.mp (hall y hy)).1).2 with z|z
  · exact absurd hl (of_decide_eq_true z)
  · exact of_decide_eq_true z
 have hfree:∀y∈scope.names,y.2 = .free->X.env.kindOf y.1=some .cell\/X.env.kindOf y.1=some .free:=fun y hy hl=>by
  rcases Fu.mp (E2.mp (hall y hy)).2 with z|z
  · exact absurd hl (of_decide_eq_true z)
  · exact(Fu.mp z).imp of_decide_eq_true of_decide_eq_true
 obtain⟨frl,frg⟩:=lS.get hfr;obtain⟨cl,hclos,cl1,cl2⟩:=cn (env:=X.env) (scope:=scope) fun y hy hl=>I.ok.has y.1 (hfree y hy hl);rw[IC _ _ _ _ hsw];refine EU (GJ (EU ?_));show Fm _ X.A (do let _ <- Lm (.ListComp elt [⟨tg,iter,ifs,0⟩] scope pos) scope X.env _ (newList []) false (eval iter X.env) (some (HF (.Name x px) X.env))) _ _ s
 refine EU (FH (GN (use:=some (HF (.Name x px) X.env)) (Q:=fun _ s'=>SP X pins DD .next s') rfl hs hclos hkind hnames
  (Cy (hi pins s σ H _ I h) fun v s1 h1=>Cy h1 fun itv s2 h2=>?_)) (fun _ s' hq=>EW (EW hq)) fun _ _ e=>e)
 obtain⟨it,fp,tn,J,H2,e,I2,T,st2,f2,q2⟩:=h2;subst e;refine FB ?_;have hD:H2 s2.heap.objs.size=none:=I2.hok.fresh (E3 _)
 have I3:Inv X pins σ (Co H2 s2.heap.objs.size (.lst [])) {s2 with heap:=s2.heap.push {cls:=.type "list", data:=.seq ([]:List EX).toArray}} :=
  I2.laid (t':=s2.toks) (fun b u e=>EY _ e) (E3 _) ⟨by show 0<=sizeLine;exact FE _,[],0,.nil,Fa _ rfl⟩
 obtain⟨Wv,⟨m0,w0⟩,turn⟩:=q2 _ hD;have tn3:tn 0 (s2.heap.push {cls:=.type "list", data:=.seq ([]:List EX).toArray}):=T.keep _ _ _ st2 fun b _ o e=>EY _ e
 have fpD:∀b∈fp,(Co H2 s2.heap.objs.size (.lst [])) b=none:=fun b hb=>by
  obtain⟨o,e,_⟩:=T.obj _ _ st2 b hb;rw[ak (FK (E8 e))];exact(f2 b hb).1
 have fp3:∀b∈fp,b<(s2.heap.push {cls:=.type "list", data:=.seq ([]:List EX).toArray}).objs.size:=fun b hb=>by
  obtain⟨o,e,_⟩:=T.obj _ _ tn3 b hb;exact E8 e
 refine gZ (Q:=fun v H1=>iB ix v σ H1 DD.nx) N' fr hc hkind hcell hfree frl frg cl1 cl2 I3 T tn3 fpD fp3 (fun b hb=>(f2 b hb).2) (hg ⟨cl,fp,X.pn++pins,_,_⟩) (ht ⟨cl,fp,X.pn++pins,_,_⟩) (he ⟨cl,fp,X.pn++pins,_,_⟩) w0 (turn ⟨cl,fp,X.pn++pins,_,_⟩)
  (Rp:=Ll (FA X.prog X.w) X.A X.xe (some (HF (.Name x px) X.env)) (fun _ s'=>SP X pins DD .next s') (.ref s2.heap.objs.size)) fun s5 H4 m hn k fpo qn=>?_
 show Fm _ X.A (HF (.Name x px) X.env (.ref s2.heap.objs.size)) _ _ s5;have I5:Inv X pins σ H4 s5:=k s5.heap (Ht _ _);obtain⟨f0,f1,f2',f3,f4,f5⟩:=fpo;refine Is (dW I5 hN hix hx (v:=.ref s2.heap.objs.size) rfl (fun s6 I6 sb=>?_) hf);obtain⟨a,sb,ha⟩:=sb
 have hne:(s2.heap.push {cls:=.type "list", data:=.seq ([]:List EX).toArray}).objs.size≠a:=by
  rcases ha with rfl|ha
  · exact f1
  · exact fun z=>f4 x a ha z.symm
 refine⟨m,hn.at' fun o e=>sb.extBut _ o hne e,fun h' hs'=>?_⟩;exact⟨_,H4,I6.turned (t':=s6.toks) (fun b o hb e=>hs'.extBut b o hb e) f0 f1 f3 f4 f5,qn⟩
end
end L2
namespace L2.VL
noncomputable def W.cap:W->Option W
 | .d x=>some (.d x)
 | .reel=>some .reel
 | .vv u=>some (.vv u)
 | .sc ns=>some (.sc ns)
 | .fd kvs=>some (.fd kvs)
 | .xr kvs=>some (.xr kvs)
 | .xw a kvs=>some (.xw a kvs)
 | .fw kvs=>some (.fw kvs)
 | .ft kvs=>some (.ft kvs)
 | .xc x fs=>some (.xc x fs)
 | .dp kvs x=>some (.dp kvs x)
 | _=>none
noncomputable def dP(fr:List (Option Nat))(ρ:En):En:=fr.map fun o=>o.bind fun j=>((ρ[j]?).join).bind W.cap
noncomputable def o8(X:Cx)(rl:RlT)(ifs:List Expr)(f:TB):Prop:=∃t,Ea X ifs t/\∀{F₀ H₀ F H:Hp}{σ:St}{ρ:En},VR X.K rl F₀ H₀ F H σ ρ->∀(Qd:Bool->Prop)(Q:Bool->Hp->Prop),f ρ Qd ->
 (∀b F' H',Grow rl F H F' H'->Qd b->Q b H')->t σ H Q
theorem cY:o8 X rl [] (fun _ Q=>Q true):=⟨_,nq,fun R Qd Q q k=>k true _ _ (Grow.refl R.sub R.reel) q⟩
theorem ka{c:Expr}{f:TB}(h:PB X rl c f):o8 X rl [c] f:=let ⟨t,p,k⟩:=h;⟨t,tm p,k⟩
theorem fC{fr:List (Option Nat)}{w:W}(h:(dP fr ρ)[i]?=some (some w)):∃j w',fr[i]?=some (some j)/\ρ[j]?=some (some w')/\w'.cap=some w:=by
 unfold dP at h;rw[Gr]at h
 cases ef:fr[i]? with
 | none=>rw[ef]at h;cases h
 | some o =>
   cases o with
   | none=>rw[ef]at h;cases h
   | some j =>
     rw[ef]at h;have h':((ρ[j]?).join).bind W.cap=some w:=FO h
     cases q:ρ[j]? with
     | none=>rw[q]at h';cases h'
     | some o =>
       cases o with
       | none=>rw[q]at h';cases h'
       | some w'=>rw[q]at h';exact⟨j,w',rfl,q,h'⟩
theorem lh{w' w:W}(h:w'.cap=some w):w=w'/\w.own=false/\∀xs,w ≠ .pk xs:=by
 cases w'<;>cases h<;>exact⟨rfl,rfl,(fun _ z=>by cases z)⟩
theorem fg{K:W.Frag}{fr:List (Option Nat)}(R:VR K rl F₀ H₀ F H σ ρ)(g:Grow rl F H F H'):VR K rl F H F H' (lY fr σ) (dP fr ρ):=by
 refine⟨g,fun i w e=>?_,fun i j xs ys v _ e1 _ o1 _ _ _=>?_,fun i xs e=>?_,by simp[lY,dP]⟩
 · obtain⟨j,w',e1,e2,e3⟩:=fC e;obtain⟨rfl,n1,n2⟩:=lh e3;obtain⟨v,s1,r1,_⟩:=R.sl j w e2;refine⟨v,?_,r1.grow g,?_⟩
   · unfold lY;rw[Gr,e1];show some ((σ[j]?).join)=_;rw[s1];rfl
   · cases w with
     | ml xs=>cases n1
     | md xs=>cases n1
     | mk xs=>cases n1
     | xm xs=>cases n1
     | nt _=>trivial
     | lk=>trivial
     | sc _=>trivial
     | fd _=>trivial
     | xr _=>trivial
     | xw _ _=>trivial
     | fw _=>trivial
     | ft _=>trivial
     | xc _ _=>trivial
     | dp _ _=>trivial
     | d _=>trivial
     | pk _=>trivial
     | reel=>trivial
     | vv _=>trivial
 · obtain⟨_,_,_,_,e3⟩:=fC e1;rw[(lh e3).2.1]at o1;cases o1
 · obtain⟨_,_,_,_,e3⟩:=fC e;exact absurd rfl ((lh e3).2.2 xs)
theorem du{fr:List (Option Nat)}:lV (dP fr ρ):=fun i xs e=>by
 obtain⟨_,_,_,_,e3⟩:=fC e;exact(lh e3).2.1
theorem VR.other{K:W.Frag}(R:VR K rl F₀ H₀ F H σ ρ)(n:lV ρ){D:Addr}(h0:H₀ D=none)(f:F D=none)(hr:rl.a≠some D):VR K rl F₀ H₀ F (Co H D o) σ ρ:=by
 have neF:∀b u,F b=some u->b≠D:=fun b u q z=>by subst z;rw[f]at q;cases q
 have g:Grow rl F₀ H₀ F (Co H D o):=by
  refine⟨fun b o q1 n=>by rw[ak (aG q1 h0)];exact R.g.same b o q1 n,R.g.fs,fun b o q1=>by rw[ak (neF b o q1)];exact R.sub b o q1,R.g.old,fun y z=>?_⟩;obtain⟨z1,⟨u,h1,h2⟩⟩:=R.reel y z;exact⟨z1,⟨u,by rw[ak (fun q=>hr (by rw[<- q];exact z))];exact h1,h2⟩⟩
 refine⟨g,fun i w e=>?_,R.ap,R.np,R.len⟩;obtain⟨v,h1,h2,h3⟩:=R.sl i w e;refine⟨v,h1,?_,h3⟩
 cases w with
 | d x=>exact h2
 | reel=>exact h2
 | vv u=>exact h2
 | ml xs=>cases n i _ e
 | md xs=>cases n i _ e
 | mk xs=>cases n i _ e
 | xm xs=>cases n i _ e
 | nt ds=>exact h2
 | lk=>trivial
 | sc _=>exact h2
 | fd _=>exact h2
 | xr _=>exact h2
 | xw _ _=>exact h2
 | fw _=>exact h2
 | ft _=>exact h2
 | xc _ _=>exact h2
 | dp _ _=>exact h2
 | pk xs=>exact absurd e (R.np i xs)
section
variable{X:Cx}{rl:RlT}{elt tg iter:Expr}{ifs:List Expr}{scope:Scope}{pos:Pos}{fi:En->(List ET->Prop)->Prop}{g:DY}{ft:TB}{fe:TV}
end
mutual
def uL:ET->Prop
 | .none=>True
 | .bool _=>True
 | .int i=>i.natAbs<2^1900
 | .str x=>ET.strOk x=true
 | .list xs=>gE xs
 | .tuple xs=>gE xs
 | .dict _=>False
def gE:List ET->Prop
 | []=>True
 | x::xs=>uL x/\gE xs
end
theorem lP{k:Nat}(h:n<2^k)(hk:0<k):n.log2<k:=by
 by_cases h0:n=0
 · subst h0;simpa using hk
 · exact(Nat.log2_lt h0).mpr h
mutual
theorem uL.facts:∀d:ET,uL d->d.showable=true/\d.canLay0=true/\d.hasDict=false/\d.leavesShort 1921=true
 | .none,_=>⟨rfl,rfl,rfl,rfl⟩
 | .bool _,_=>⟨rfl,rfl,rfl,rfl⟩
 | .int i,h=>by
   have hl:i.natAbs.log2<1920:=lP (E6 (show i.natAbs<2^1900 from h) (Fq (by decide) (by decide))) (by decide);refine⟨by simp[Jf,hl],rfl,rfl,?_⟩;simp only[Im,decide_eq_true_eq]
   exact int_text_len_1921 hl
 | .str x,h=>by
   refine⟨rfl,(show GZ (.str x)=true by simp only[GZ];exact h),rfl,?_⟩;have h:x.cps.all (· < 0x110000)=true:=h;simp only[Im];rw[GU];intro c hc;have:=(Array.all_eq_true_iff_forall_mem.mp h) c (by simpa using hc);simp at this ⊢
   omega
 | .list xs,h=>by
   obtain⟨a,b,c,d⟩:=gE.facts xs h
   exact⟨by simpa[Jf]using a,by simpa[GZ]using b,by simpa[ET.hasDict]using c,by simpa[Im]using d⟩
 | .tuple xs,h=>by
   obtain⟨a,b,c,d⟩:=gE.facts xs h
   exact⟨by simpa[Jf]using a,by simpa[GZ]using b,by simpa[ET.hasDict]using c,by simpa[Im]using d⟩
 | .dict _,h=>Gx h
theorem gE.facts:∀xs:List ET,gE xs->ET.showableAll xs=true/\GM xs=true/\ET.hasDictAll xs=false/\Ks 1921 xs=true
 | [],_=>⟨rfl,rfl,rfl,rfl⟩
 | x::xs,h=>by
   obtain⟨a,b,c,d⟩:=uL.facts x h.1;obtain⟨a',b',c',d'⟩:=gE.facts xs h.2;exact⟨by simp[ET.showableAll,a,a'],by simp[GM,b,b'],by simp[ET.hasDictAll,c,c'],by simp[Ks,d,d']⟩
end
noncomputable def D5(d:ET):Prop:=uL d/\d.depth<=60/\d.bulk<=8000
theorem D5.len(h:D5 d):d.shown.length<=sizeLine:=by
 have q:=ET.shown_le_bulk 1921 (by decide) d (uL.facts d h.1).2.2.2;have:=h.2.2;have e:sizeLine=16777216:=by decide
 omega
section
variable{X:Cx}{rl:RlT}{a b e:Expr}{es:List Expr}{fa fb fc:TV}{fs:DU}{pos p:Pos}
noncomputable def wd(K:W.Frag):List V->Hp->VK->Prop:=fun xs H Q=>∃x d,xs=[x]/\Rep K H x d/\D5 d/\Q (.str d.shown) H
theorem oT(hgd:X.A.guards=some [])(hu:X.A.units+64<IU):eR X (.builtin "repr") (wd X.K):=by
 intro pins s σ H xs us Q I r ⟨x,d,ex,rx,sh,q⟩;subst ex;obtain⟨u,rfl,ru⟩:=vals1 r;have fin:∀tk h' , (∀b o,s.heap.get? b=some o->h'.get? b=some o)->∀t,EP X pins σ Q (.str d.shown t) {s with heap:=h',toks:=tk}:=fun tk h' k t=>⟨.str d.shown,H,I.kept k,⟨t,rfl⟩,q⟩;obtain⟨as,rd⟩:=Rep.reads I (.refl H) rx u ru;have hs:=(uL.facts d sh.1)
 cases rx with
 | non=>cases(show u=Hf from ru);exact P.repr_of_none (fin _ _ (fun _ _ e=>e) _)
 | bl b=>cases(show u=Lo b from ru);exact P.repr_of_bool (fin _ _ (fun _ _ e=>e) _)
 | int i =>
   obtain⟨t,e⟩:=(show ∃t,u=JD i t from ru);cases e
   exact P.repr_of_int (by simpa[Jf]using hs.1) (fin _ _ (fun _ _ e=>e) _)
 | str x =>
   obtain⟨t,e⟩:=(show ∃t,u=La x t from ru);cases e
   exact P.repr_of_str (fin _ _ (fun _ _ e=>e) _) sh.len
 | tup sq rs =>
   cases(show u=Ge _ from ru)
   exact repr_of_reads' rd hs.1 (ET.noDict_hsm hs.2.2.1) hgd (by have:=sh.2.1;omega) (fun _ _ e=>e) (fun h' t tk hk=>fin tk h' hk t) sh.len
 | lst sq rs =>
   cases(show u=Ge _ from ru);exact repr_of_reads' rd hs.1 (ET.noDict_hsm hs.2.2.1) hgd (by have:=sh.2.1;omega) (fun _ _ e=>e) (fun h' t tk hk=>fin tk h' hk t) sh.len
noncomputable def qp:List W->(W->Prop)->Prop:=fun ws Q=>∃w d,ws=[w]/\w.dat=some d/\D5 d/\Q (.d (.str d.shown))
theorem si:eQ X rl (wd X.K) qp:=fun{F H vs ws} Qd Q s ra r ⟨w,d,ew,e1,sh,q⟩ k=>by
 subst ew;obtain⟨v,rfl,r1⟩:=pd r;exact⟨v,d,rfl,r1.dat s e1,sh,k _ (.d _) _ _ (Grow.refl s ra) (.str _) trivial q⟩
theorem eT(hr:Room 0 X.A)(hm:X.mg "repr" = none)(ha:D9 X rl [e] fs)(hg:autoParam (Gl X "repr") æa._auto_1)(he:autoParam (E4 [e] X.env=(false,eval e X.env)::E4 [] X.env) æa._auto_1)(hpl:autoParam ((GP pos (E4 [] X.env)).any (·.1)=false) æa._auto_1) :
 PV X rl (.Call (.Name "repr" p) [e] [] pos) (dH qp fs):=eG (oT hr.gd hr.units) si hm (by first|rfl|exact boot_repr) ha hg (by decide) (by decide) he hpl
noncomputable def Cs:ET->String
 | .none => "NoneType"
 | .bool _ => "bool"
 | .int _ => "int"
 | .str _ => "str"
 | .list _ => "list"
 | .tuple _ => "tuple"
 | .dict _ => "dict"
noncomputable def AU(d:ET)(T:String):Bool:=Cs d==T||(Cs d == "bool" && T == "int")
noncomputable def AI(T:String):Bool:=["int", "bool", "str", "list", "tuple"].contains T
noncomputable def AX:List W->(W->Prop)->Prop:=fun ws Q=>∃w d T,ws=[w,.vv (.ty T)]/\w.dat=some d/\AI T=true/\Q (.d (.bool (AU d T)))
theorem cZ(hm:X.mg "len" = none)(ha:D9 X rl [a] fs)(hg:autoParam (Gl X "len") æa._auto_1)(he:autoParam (E4 [a] X.env=(false,eval a X.env)::E4 [] X.env) æa._auto_1)(hpl:autoParam ((GP pos (E4 [] X.env)).any (·.1)=false) æa._auto_1) :
 PV X rl (.Call (.Name "len" p) [a] [] pos) (dH x8 fs):=eG jm uY hm boot_len ha hg (by decide) (by decide) he hpl
theorem pB(hm:X.mg "abs" = none)(ha:D9 X rl [a] fs)(hg:autoParam (Gl X "abs") æa._auto_1)(he:autoParam (E4 [a] X.env=(false,eval a X.env)::E4 [] X.env) æa._auto_1)(hpl:autoParam ((GP pos (E4 [] X.env)).any (·.1)=false) æa._auto_1) :
 PV X rl (.Call (.Name "abs" p) [a] [] pos) (dH ya fs):=eG qH u0 hm (by first|rfl|exact boot_abs) ha hg (by decide) (by decide) he hpl
noncomputable def xk:List W->(W->Prop)->Prop:=fun ws Q=>∃i,ws=[.d (.int i)]/\i.natAbs.log2<1920/\Q (.d (.str (toString i)))
end
structure FnIn (K:W.Frag) (mg:Str->Option EX) (x:Str) (st:Stmt) (ps:List Str):Prop where
 ex:∃f fd,mg x=some (.ref f)/\Fun K x x st f fd/\Binds K fd ps []
structure Bz (mg:Str->Option EX):Prop where
 int_:mg "int" = none
 bool_:mg "bool" = none
 str_:mg "str" = none
 list_:mg "list" = none
 tuple_:mg "tuple" = none
 dict_:mg "dict" = none
 isinstance_:mg "isinstance" = none
 len_:mg "len" = none
 abs_:mg "abs" = none
 repr_:mg "repr" = none
 range_:mg "range" = none
 all_:mg "all" = none
 any_:mg "any" = none
 sum_:mg "sum" = none
 min_:mg "min" = none
 max_:mg "max" = none
 sorted_:mg "sorted" = none
 zip_:mg "zip" = none
 enumerate_:mg "enumerate" = none
 reversed_:mg "reversed" = none
 divmod_:mg "divmod" = none
 set_:mg "set" = none
section
variable{P:Fo}{w:Gc}{K:W.Frag}{mg:Str->Option EX}{base:Heap}{rl:RlT}{x:Str}{st:Stmt}{N ps:List Str}{k:Nat}{Pd:List W->(ET->Prop)->Prop}{t:DV}
theorem Dfn.of(Fn:FnIn K mg x st ps)(S:FnScope N ps (defScope st))(mono:∀ws Q Q',(∀d,Q d->Q' d)->Pd ws Q->Pd ws Q')(len:∀ws Q,Pd ws Q->ws.length=ps.length)
 (hbody:∀{f:Addr}(cdv:EX)(A:Gh)(outer:List Env)(s:EZ)(H:Hp)(E:XK),Room k (A.deeper (JG x (defScope st) s.heap.objs.size f cdv)) ->
  lq (lZ EG P w K mg base N x (defScope st) f cdv A outer s H E).nox rl (defBody st) t)
 (hread:∀ws Q,Pd ws Q->t (lw Q) (dj N ws)):Dfn P w K mg base rl x ps (k+1) Pd:=by
 obtain⟨f,fd,hm,F,hb⟩:=Fn.ex;exact⟨mono,f,fd,hm,F.kp,hb,Cd F S len hbody hread⟩
end
section
variable{X:Cx}{rl:RlT}{e:Expr}{es:List Expr}{fa fb fc:TV}{fs:DU}{pos p:Pos}
end
theorem fz_d(x:ET):(W.d x).fz = .d x:=rfl
theorem fz_ml(x:List ET):(W.ml x).fz = .d (.list x):=rfl
theorem fz_pk(x:List ET):(W.pk x).fz = .pk x:=rfl
theorem fz_reel:W.reel.fz = .reel:=rfl
theorem fz_vv(x:V):(W.vv x).fz = .vv x:=rfl
theorem pk_d(x:ET):L2.VL.W.peek (.d x) = .d x:=rfl
theorem pk_ml(x:List ET):L2.VL.W.peek (.ml x) = .pk x:=rfl
theorem pk_reel:L2.VL.W.peek .reel = .reel:=rfl
theorem pk_vv(x:V):L2.VL.W.peek (.vv x) = .vv x:=rfl
theorem dat_d(x:ET):(W.d x).dat=some x:=rfl
theorem dat_ml(x:List ET):(W.ml x).dat=some (.list x):=rfl
theorem dat_pk(x:List ET):(W.pk x).dat=some (.list x):=rfl
theorem isPk_d(x:ET):(W.d x).isPk=false:=rfl
theorem isPk_ml(x:List ET):(W.ml x).isPk=false:=rfl
theorem isPk_reel:W.reel.isPk=false:=rfl
theorem dats_nil:iF []=some []:=rfl
theorem dats_d(x:ET)(r:List W):iF (.d x::r)=(iF r).map (x :: ·):=rfl
theorem arg_d(x:ET):dr (.d x)=true:=rfl
theorem arg_reel:dr .reel=true:=rfl
theorem item_l(xs:List ET)(i:Int):L2.VL.itemAt (.list xs) i=L2.atI xs i:=rfl
theorem item_t(xs:List ET)(i:Int):L2.VL.itemAt (.tuple xs) i=L2.atI xs i:=rfl
theorem len_l(xs:List ET):kS (.list xs)=some xs.length:=rfl
theorem len_t(xs:List ET):kS (.tuple xs)=some xs.length:=rfl
theorem at0{α:Type}(x:α)(r:List α):L2.atI (x::r) 0=some x:=by simp[L2.atI,L2.ixN]
theorem at1{α:Type}(x y:α)(r:List α):L2.atI (x::y::r) 1=some y:=by
 have:(1:Int)<((x::y::r).length:Int):=by simp;omega
 simp only[L2.atI,L2.ixN];rw[if_pos (by decide),if_pos this];rfl
theorem gg{x y:Int}(h:y≠0):(x.fmod y).natAbs<y.natAbs:=by
 rcases Int.lt_or_gt_of_ne h with hy|hy
 · have h1:=Kt x y
   have e:x.fmod y = -((-x).fmod (-y)):=by
    have:=Int.neg_fmod_neg x y;omega
   have p:0 < -y:=by omega
   have b1:=GW (-x) p;have b2:=HH (-x) p;omega
 · have b1:=GW x hy;have b2:=HH x hy;omega
theorem k3(x y:Int):FY y (x.fmod y)=FY x y:=by
 have e:x.fmod y=x+y*(-(x.fdiv y)):=by
  have:=Kt x y;rw[Int.mul_neg];omega
 rw[e,Int.gcd_add_mul_left_right];exact Int.gcd_comm y x
theorem eqv_ii(a b:Int):Gn (.int a) (.int b)=(a==b):=by simp[Gn]
theorem shaped_i(a:Int):Gf (.int a)=true:=rfl
theorem shaped_b(a:Bool):Gf (.bool a)=true:=rfl
theorem dR.of{i j:Int}(h:j≠0)(b:j.natAbs<2^64):dR i j:=⟨h,E6 b (Fq (by decide) (by decide))⟩
theorem gB:∀ns:List Int,GM (ns.map FG)=true
 | []=>rfl
 | n::ns=>by simp[GM,GZ,gB ns]
theorem gX:∀ns:List Int,GR (ns.map FG)=0
 | []=>rfl
 | n::ns=>by simp[GR,Hi,gX ns]
theorem shaped_ints(ns:List Int):Gf (.list (ns.map .int))=true:=by simp[Gf,GZ,Hi,gB,gX]
theorem oy(ns:List ET):Gn (.list ns) (.list [])=ns.isEmpty:=by cases ns<;>simp[Gn,Hz]
theorem uv{a b:Int}(h:b≠0):0<(FY a b:Int):=by
 have:=HI a h;omega
theorem xj{a b:Int}(h:b≠0):(FY a b)<=b.natAbs:=Nat.le_of_dvd (by omega) (JL a b)
structure Lf (d:ET):Prop where
 nice:uL d
 dep:d.depth<=2
 wt:d.bulk<=2000
theorem Lf.int{i:Int}(h:i.natAbs<2^1000):Lf (.int i) :=
 ⟨Nat.lt_trans h (KO (by decide) (by decide)),by simp[Hi],by simp[LP]⟩
theorem xL{xs:List α}{k:Int}(h0:0<=k)(h1:k<(xs.length:Int)):∃z,L2.atI xs k=some z/\z∈xs:=by
 obtain⟨n,rfl⟩:=GS h0;have hn:n<xs.length:=by omega
 exact⟨xs[n],o0 (FX hn),Gb hn⟩
theorem ip{K:W.Frag}{i:Str}(h:Rep K F v (.str i)):v = .str i:=by cases h;rfl
noncomputable def x9(neg:Bool):W->W->(W->Prop)->Prop:=fun x y Q=>∃a b:Str,x = .d (.str a)/\y = .d (.str b)/\Q (.d (.bool (if neg then !decide (a=b)else decide (a=b))))
theorem mB:DS X rl C5 (x9 false):=fun{F H x y wx wy} Qd Q s ra r1 r2 q k=>by
 obtain⟨a,b,rfl,rfl,q⟩:=q;have e1:=ip r1;have e2:=ip r2;subst e1 e2
 have e:decide (V.str a=V.str b)=decide (a=b):=by
  by_cases h:a=b
  · subst h;simp
  · rw[decide_eq_false h,decide_eq_false fun z=>h (by injection z)]
 exact⟨rfl,by rw[e];exact k _ (.d _) _ _ (Grow.refl s ra) (.bl _) trivial q⟩
theorem iM:DS X rl C2 (x9 true):=fun{F H x y wx wy} Qd Q s ra r1 r2 q k=>by
 obtain⟨a,b,rfl,rfl,q⟩:=q;have e1:=ip r1;have e2:=ip r2;subst e1 e2
 have e:decide (V.str a=V.str b)=decide (a=b):=by
  by_cases h:a=b
  · subst h;simp
  · rw[decide_eq_false h,decide_eq_false fun z=>h (by injection z)]
 exact⟨rfl,by rw[e];exact k _ (.d _) _ _ (Grow.refl s ra) (.bl _) trivial q⟩
section
variable{P:Fo}{w:Gc}{K:W.Frag}{mg:Str->Option EX}{base:Heap}{rl:RlT}{x:Str}{st:Stmt}{N ps:List Str}{k:Nat}{Pd:List W->(List ET->Prop)->Prop}{t:DV}
end
section
variable{X:Cx}{rl:RlT}{e:Expr}{es:List Expr}{fs:DU}{pos p:Pos}
noncomputable def yk(Pd:List W->(List ET->Prop)->Prop)(fs:DU):TV:=fun ρ Q=>fs ρ fun ws=>ws.all dr=true/\Pd ws fun xs=>Q (.ml xs)
theorem tw(X:Cx)(rest:List Stmt):Eb X rest (fun D σ H=>∀pins s,Inv X pins σ H s->Fm (FA X.prog X.w) X.A (execs rest X.env) (SP X pins D) X.xe s):=fun pins s σ H D I h=>h pins s I
end
section
variable{X:Cx}{rl:RlT}{a b c e:Expr}{es:List Expr}{fa fb fc:TV}{fs:DU}{pos p:Pos}
noncomputable def fq:ET->Option (List ET)
 | .list xs=>some xs
 | .tuple xs=>some xs
 | _=>none
theorem seq_l(xs:List ET):fq (.list xs)=some xs:=rfl
theorem seq_t(xs:List ET):fq (.tuple xs)=some xs:=rfl
theorem fq.of{o:Option ET}(h:o=some d)(e:fq d=some xs):o=some (.list xs)\/o=some (.tuple xs):=by
 cases d<;>cases e
 · exact .inl h
 · exact .inr h
noncomputable def oh:List W->(W->Prop)->Prop:=fun ws Q=>∃w d xs,ws=[w]/\w.dat=some d/\fq d=some xs/\Q (.d (.tuple xs))
theorem qL:eQ X rl (fun xs H Q=>∃p ys,xs=[.ref p]/\((D1 X.K H p ys/\∀l,H l=none->Q (.ref l) (Co H l (.tup ys)))\/(D0 X.K H p ys/\Q (.ref p) H))) oh:=fun{F H vs ws} Qd Q s ra r ⟨w,d,xs,ew,ed1,ed2,q⟩ k=>by
 have ed:=fq.of ed1 ed2;subst ew;obtain⟨v,rfl,r1⟩:=pd r;rcases ed with ed|ed
 · obtain⟨a,us,rfl,sq,rs⟩:=r1.items s ed;refine⟨a,us,rfl,.inl ⟨sq,fun l hl=>?_⟩⟩;have g:=Grow.data (a:=l) (o:=.tup us) s ra hl;exact k _ (.d (.tuple xs)) _ _ g (.tup (.inl (.inl ar)) (rs.mono g.fs)) trivial q
 · cases w with
   | d y =>
     cases ed
     cases(show Rep X.K F v (.tuple xs)from r1)with
     | tup sq rs=>exact⟨_,_,rfl,.inr ⟨cA s sq,k _ (.d (.tuple xs)) _ _ (Grow.refl s ra) (.tup sq rs) trivial q⟩⟩
   | ml ys=>cases ed
   | pk ys=>cases ed
   | reel=>cases ed
   | vv u=>cases ed
   | md u=>cases ed
   | mk u=>cases ed
   | xm u=>cases ed
   | lk=>cases ed
   | sc _=>cases ed
   | fd _=>cases ed
   | xr _=>cases ed
   | xw _ _=>cases ed
   | fw _=>cases ed
   | ft _=>cases ed
   | xc _ _=>cases ed
   | dp _ _=>cases ed
   | nt ds =>
     cases ed;obtain⟨b,us,rfl,h,q'⟩:=r1;exact⟨_,_,rfl,.inr ⟨.inl (.inl (s _ _ h)),k _ (.d (.tuple xs)) _ _ (Grow.refl s ra) (.tup (.inl (.inl h)) q') trivial q⟩⟩
theorem c_(hm:X.mg "tuple" = none)(ha:D9 X rl [a] fs)(hg:autoParam (Gl X "tuple") æa._auto_1)(he:autoParam (E4 [a] X.env=(false,eval a X.env)::E4 [] X.env) æa._auto_1)(hpl:autoParam ((GP pos (E4 [] X.env)).any (·.1)=false) æa._auto_1) :
 PV X rl (.Call (.Name "tuple" p) [a] [] pos) (dH oh fs):=ko eB qL hm (by rfl) ha hg (by decide) (by decide) he hpl
noncomputable def qr:List W->(W->Prop)->Prop:=fun ws Q=>∃w d xs,ws=[w]/\w.dat=some d/\fq d=some xs/\Q (.ml xs)
theorem uX:eQ X rl (fun xs H Q=>∃p ys,xs=[.ref p]/\(D1 X.K H p ys\/D0 X.K H p ys)/\∀l,H l=none->Q (.ref l) (Co H l (.lst ys))) qr:=fun{F H vs ws} Qd Q s ra r ⟨w,d,xs,ew,ed1,ed2,q⟩ k=>by
 have ed:=fq.of ed1 ed2;subst ew;obtain⟨v,rfl,r1⟩:=pd r;rcases ed with ed|ed
 · obtain⟨a,us,rfl,sq,rs⟩:=r1.items s ed;exact⟨a,us,rfl,.inl sq,fun l hl=>k _ (.ml xs) _ _ (Grow.laid s ra hl) (de s ra hl rs) (fun a ea=>by cases ea;exact hl) q⟩
 · obtain⟨a,us,rfl,sq,rs⟩:=r1.itemsT s ed;exact⟨a,us,rfl,.inr sq,fun l hl=>k _ (.ml xs) _ _ (Grow.laid s ra hl) (de s ra hl rs) (fun a ea=>by cases ea;exact hl) q⟩
theorem km(hm:X.mg "list" = none)(ha:D9 X rl [a] fs)(hg:autoParam (Gl X "list") æa._auto_1)(he:autoParam (E4 [a] X.env=(false,eval a X.env)::E4 [] X.env) æa._auto_1)(hpl:autoParam ((GP pos (E4 [] X.env)).any (·.1)=false) æa._auto_1) :
 PV X rl (.Call (.Name "list" p) [a] [] pos) (dH qr fs):=ko jl uX hm (by rfl) ha hg (by decide) (by decide) he hpl
noncomputable def yq(i j l:Nat)(fs:DU):DV:=fun D ρ=>fs ρ fun ws=>∃x y z,iF ws=some [x,y,z]/\D.nx (((ρ.set i (some (.d x))).set j (some (.d y))).set l (some (.d z)))
end
section
variable{X:Cx}{rl:RlT}
noncomputable def AZ:W->W->(W->Prop)->Prop:=fun x y Q=>∃b c,x = .d (.bool b)/\y = .d (.bool c)/\Q (.d (.bool (b==c)))
end
section
variable{X:Cx}{rl:RlT}{a b c e:Expr}{es:List Expr}{fa fb fc:TV}{fs:DU}{pos p p2:Pos}
noncomputable def DC(f:Int->Int->ET):List W->(W->Prop)->Prop:=fun ws Q=>∃i j,ws=[.d (.int i),.d (.int j)]/\Q (.d (f i j))
theorem yi{f:Int->Int->V}{g:Int->Int->ET}(h:∀K F i j,Rep K F (f i j) (g i j)):eQ X rl (fun xs H Q=>∃i j,xs=[.int i,.int j]/\Q (f i j) H) (DC g):=fun{F H vs ws} Qd Q s ra r ⟨i,j,ew,q⟩ k=>by
 subst ew;obtain⟨v,u,rfl,r1,r2⟩:=yT r;have e1:=aX r1;have e2:=aX r2;subst e1 e2;exact⟨i,j,rfl,k _ (.d _) _ _ (Grow.refl s ra) (h _ _ i j) trivial q⟩
theorem vb(hm:X.mg "min" = none)(ha:D9 X rl [a,b] fs)(hc:autoParam (X.calm=true) æa._auto_1)(hg:autoParam (Gl X "min") æa._auto_1)(he:autoParam (E4 [a,b] X.env=(false,eval a X.env)::E4 [b] X.env) æa._auto_1)(hpl:autoParam ((GP pos (E4 [b] X.env)).any (·.1)=false) æa._auto_1) :
 PV X rl (.Call (.Name "min" p) [a,b] [] pos) (dH (DC fun i j=>.int (min i j)) fs) :=
 eG (oU hc) (yi (f:=fun i j=>.int (if j<i then j else i)) fun _ _ i j=>(show(if j<i then j else i)=min i j by split<;>omega) ▸ .int _) hm (by rfl) ha hg (by decide) (by decide) he hpl
noncomputable def oj:List W->(W->Prop)->Prop:=fun ws Q=>∃i j,ws=[.d (.int i),.d (.int j)]/\0<j/\j<1073741824/\Q (.d (.tuple [.int (i / j),.int (i%j)]))
noncomputable def xq:List W->(W->Prop)->Prop:=fun ws Q=>(∃i,ws=[.d (.int i)]/\Q (.d (.int i)))\/∃k:Bool,ws=[.d (.bool k)]/\Q (.d (.int (if k then 1 else 0)))
noncomputable def Dt(C:Int->Int->Prop)(f:Int->Int->Int):DX:=fun x y H Q=>∃i j,x = .int i/\y = .int j/\C i j/\Q (.int (f i j)) H
theorem ul:Ee X .Mult (Dt b6 fun i j=>i*j):=by
 intro pins s σ H x y v u Q I r1 r2 h;obtain⟨i,j,e1,e2,hc,q⟩:=h;subst e1;subst e2;obtain⟨t,rfl⟩:=r1;obtain⟨t',rfl⟩:=r2;exact imul_int ⟨.int _,H,I.tok _,⟨_,rfl⟩,q⟩ hc.ok
noncomputable def yx(i:Nat)(C:Int->Int->Prop)(f:Int->Int->Int)(fa:TV):DV:=fun D ρ=>∃n,ρ[i]?=some (some (.d (.int n)))/\fa ρ fun w=>∃m,w = .d (.int m)/\C n m/\D.nx (ρ.set i (some (.d (.int (f n m)))))
theorem uT(i:Nat){op:Lc}{C:Int->Int->Prop}{f:Int->Int->Int}(hN:X.N.Nodup)(ho:Ee X op (Dt C f))(he:PV X rl e fa)(hi:autoParam (X.N[i]?=some x) æa._auto_1)(hx:autoParam (Loc X.env.scope x) æe._auto_1)
 (hf:autoParam (X.fn x=true\/X.env.scope.names.lookup x=some .local) æf._auto_1):Ec X rl (.AugAssign (.Name x pos') op e pos) (yx i C f fa):=by
 obtain⟨t,p,k⟩:=he;refine⟨_,wv hN hi hx p ho hf,fun R Dv D ok ⟨n,e1,q⟩=>?_⟩;obtain⟨v,s1,r1,_⟩:=R.sl i _ e1;have ev:=aX r1;subst ev;refine⟨_,s1,k R _ _ q fun v w F1 H1 g1 r1 n1 ⟨m,ew,hc,q1⟩=>?_⟩;subst ew;have ev:=aX r1;subst ev;exact⟨n,m,rfl,rfl,hc,ok.nx _ _ _ _ g1.fs (R.set g1 (v:=.int (f n m)) (w:=.d (.int (f n m))) (.int _) trivial (fun _ z=>by cases z) i) q1⟩
noncomputable def cutD(xs:List ET)(lo hi:Option Int):List ET:=(xs.drop (HT.sIx xs.length 0 lo)).take (HT.sIx xs.length xs.length hi-HT.sIx xs.length 0 lo)
theorem Reps.cut{K:W.Frag}{ds:List ET}(r:Reps K F vs ds)(lo hi:Option Int):Reps K F (qC vs lo hi) (cutD ds lo hi):=by
 unfold qC cutD;rw[r.length];exact(r.drop _).take _
abbrev DW:=En->(Option Int->Prop)->Prop
noncomputable def D_(X:Cx)(rl:RlT)(o:Option Expr)(f:DW):Prop:=∃t,PO X o t/\∀{F₀ H₀ F H:Hp}{σ:St}{ρ:En},VR X.K rl F₀ H₀ F H σ ρ->∀(Qd:Option Int->Prop)(Q:Option Int->Hp->Prop),f ρ Qd ->
 (∀o F' H',Grow rl F H F' H'->Qd o->Q o H')->t σ H Q
noncomputable def Dc:DW:=fun _ Q=>Q none
noncomputable def Dd(fa:TV):DW:=fun ρ Q=>fa ρ fun w=>∃i,w = .d (.int i)/\Q (some i)
theorem fG:D_ X rl none Dc:=⟨_,tH,fun R Qd Q q k=>k _ _ _ (Grow.refl R.sub R.reel) q⟩
theorem fF(h:PV X rl e fa):D_ X rl (some e) (Dd fa):=by
 obtain⟨t,p,k⟩:=h;refine⟨_,jK p,fun R Qd Q q h=>k R _ _ q fun v w F1 H1 g1 r1 n1 ⟨i,ew,q1⟩=>?_⟩;subst ew;exact⟨i,aX r1,h _ F1 H1 g1 q1⟩
noncomputable def AB(fa:TV)(fl fh:DW):TV:=fun ρ Q=>fa ρ fun w=>fl ρ fun l=>fh ρ fun h=>∃xs,w.dat=some (.list xs)/\Q (.ml (cutD xs l h))
noncomputable def qt:W->W->(W->Prop)->Prop:=fun x y Q=>∃xs ys,x.dat=some (.list xs)/\y.dat=some (.list ys)/\xs.length+ys.length<=sizeLine/\Q (.ml (xs++ys))
theorem c7.lst{K:W.Frag}{F H:Hp}{v:V}{w:W}{xs:List ET}(s:bJ F H)(r:c7 K rl F H v w)(e:w.dat=some (.list xs)):∃a vs,v = .ref a/\H a=some (.lst vs)/\Reps K F vs xs:=by
 have own:iJ K rl F H v xs->∃a vs,v = .ref a/\H a=some (.lst vs)/\Reps K F vs xs:=fun⟨a,vs,e1,_,_,e2,e3⟩=>⟨a,vs,e1,e2,e3⟩
 cases w with
 | d y =>
   cases e
   cases(show Rep K F v (.list xs)from r)with
   | lst h q=>exact⟨_,_,rfl,s _ _ h,q⟩
 | ml ys=>cases e;exact own r
 | pk ys=>cases e;exact own r
 | reel=>cases e
 | vv u=>cases e
 | md u=>cases e
 | mk u=>cases e
 | xm u=>cases e
 | nt u=>cases e
 | lk=>cases e
 | sc _=>cases e
 | fd _=>cases e
 | xr _=>cases e
 | xw _ _=>cases e
 | fw _=>cases e
 | ft _=>cases e
 | xc _ _=>cases e
 | dp _ _=>cases e
theorem se:DS X rl AR qt:=fun{F H x y wx wy} Qd Q s ra r1 r2 q k=>by
 obtain⟨xs,ys,e1,e2,z,q⟩:=q;obtain⟨a,vs,rfl,h1,q1⟩:=r1.lst s e1;obtain⟨b,us,rfl,h2,q2⟩:=r2.lst s e2;refine⟨a,b,vs,us,rfl,rfl,h1,h2,by rw[q1.length,q2.length];exact z,fun p hp=>?_⟩;exact k _ (.ml _) _ _ (Grow.laid s ra hp) (de s ra hp (q1.append q2)) (fun a ea=>by cases ea;exact hp) q
theorem vd(ha:PV X rl a fa)(hb:PV X rl b fb):PV X rl (.BinOp a .Add b pos) (Ck qt fa fb):=iq wO se ha hb
noncomputable def vB(p p':Int->Int->Bool)(fa fb fc:TV):TV:=fun ρ Q=>fa ρ fun x=>fb ρ fun y=>∃i j,x = .d (.int i)/\y = .d (.int j) /\
 if p i j=true then fc ρ fun z=>∃k,z = .d (.int k)/\Q (.d (.bool (p' j k)))else Q (.d (.bool false))
structure GlD (K:W.Frag) (mg:Str->Option EX) (x:Str) (d:ET):Prop where
 ex:∃v u,mg x=some u/\RelV v u/\∀F,Rep K F v d
theorem gP(G:GlD X.K X.mg x d)(hg:autoParam (Gl X x) æa._auto_1)(hd:autoParam ((x==("__debug__" : Str))=false) æb._auto_1):PV X rl (.Name x pos) (vC d):=by
 obtain⟨v,u,h1,h2,h3⟩:=G.ex;exact tj h1 h2 h3 hg hd
structure GlK (K:W.Frag) (x:Str) (d:ET):Prop where
 ex:∃v u,W.nsIn K Gd x=some (some u)/\RelV v u/\∀F,Rep K F v d
theorem GlK.of{K:W.Frag}(k:GlK K x d)(Y:K.In h)(G:h.Ns Gd mg):GlD K mg x d:=by
 obtain⟨v,u,h1,h2,h3⟩:=k.ex;exact⟨v,u,W.mg_of Y G h1,h2,h3⟩
end
end L2.VL
namespace L2
section
variable{X:Cx}{a b:Expr}{ta:TA}{p q pos pos2:Pos}
theorem gT{α β:Type}{R:α->β->Prop}:∀{xs:List α}{ys:List β},xs.length=ys.length->(∀(i:Nat) x y,xs[i]?=some x->ys[i]?=some y->R x y)->GO R xs ys
 | [],[],_,_=>.nil
 | x::xs,y::ys,hl,h=>.cons (h 0 x y rfl rfl) (gT (by simpa using hl) fun i x y e1 e2=>h (i+1) x y (by simpa using e1) (by simpa using e2))
 | [],_::_,hl,_=>by simp at hl
 | _::_,[],hl,_=>by simp at hl
noncomputable def iA(lo:Int)(n:Nat):List V:=(Gm n).map fun(i:Nat)=>V.int (lo+i)
theorem hZ{lo:Int}{acc:Array EX}(h:ItemsOf (fun i v=>∃t,v = .int (lo+i*1) t) acc n):cE (iA lo n) acc.toList:=by
 obtain⟨h1,h2⟩:=h;refine gT ?_ ?_
 · simp[iA,h1]
 · intro i v u e1 e2;unfold iA at e1;rw[Gr]at e1;obtain⟨t,e4⟩:=h2 i u (by simpa using e2);by_cases hi:i<n
   · rw[FX (by simpa using hi)]at e1;simp at e1;subst e1;exact⟨t,by rw[e4];simp⟩
   · rw[Kq (by simpa using hi)]at e1;cases e1
theorem lQ{Q:VK}{lo hi:Int}{t u v:Tok}{tk:Nat}(hc:X.calm=true)(I:Inv X pins σ H s)(h1 : -(2^62)<=lo)(h2:lo<2^62)(h3 : -(2^62)<=hi)(h4:hi<2^62)(h5:(hi-lo).toNat<=2^24)
 (q:∀l,H l=none->Q (.ref l) (Co H l (.lst (iA lo (hi-lo).toNat)))):Fm (FA X.prog X.w) X.A (call (.type "list") [.ref s.heap.objs.size]) (EP X pins σ Q) X.xe {s with heap:=s.heap.push {cls:=.type "range", data:=.fields #[.int lo t,.int hi u,.int 1 v]},toks:=tk}:=by
 have I1:Inv X pins σ H {s with heap:=s.heap.push {cls:=.type "range", data:=.fields #[.int lo t,.int hi u,.int 1 v]},toks:=tk}:=I.kept fun b o e=>EY _ e;refine call_list_range (n:=(hi-lo).toNat) (I.ok.hd hc) (IsRange.new ..) (small_one h1 h2 h3 h4) (by rw[rangeSize_one];split<;>omega) h5 fun h' tk acc c hk hn hi=>?_;have hv:=hZ hi;refine⟨.ref _,_,I1.laid (t':=tk) hk (E3 _) (show cD X.prog X.w _ h' _ (.lst _)from⟨?_,acc.toList,c,hv,by rw[Array.toArray_toList];exact hn⟩),rfl,q _ (I1.hok.fresh (E3 _))⟩;show(iA lo _).length<=sizeLine;rw[iA,E1,List.length_range];exact Gk h5 (by decide)
noncomputable def Bp(ta:TA):TE:=fun σ H Q=>ta σ H fun vs H1=>∃j:Int,vs=[.int j]/\(-(2^62)<=j/\j<2^62)/\j.toNat<=2^24/\∀l,H1 l=none->Q (.ref l) (Co H1 l (.lst (iA 0 j.toNat)))
theorem lL(hc:X.calm=true)(hl:Gl X "list")(hml:X.mg "list" = none)(hg:Gl X "range")(hm:X.mg "range" = none)(ha:PA X [a] ta)(hs:autoParam (E4 [a] X.env=[(false,eval a X.env)]) æa._auto_1)
 (he:autoParam (E4 [.Call (.Name "range" p) [a] [] pos2] X.env=(false,eval (.Call (.Name "range" p) [a] [] pos2) X.env)::E4 [] X.env) æa._auto_1)(hpl:autoParam ((GP pos (E4 [] X.env)).any (·.1)=false) æa._auto_1) :
 PE X (.Call (.Name "list" q) [.Call (.Name "range" p) [a] [] pos2] [] pos) (Bp ta):=by
 intro pins s σ H Q I h;refine Ig (f_ I hl hml (by rfl) ?_ (by decide) (by decide));refine Gy ?_ he hpl;rw[he];show Fm _ _ (spliced ((false,eval (.Call (.Name "range" p) [a] [] pos2) X.env)::GP pos (E4 [] X.env))) _ _ s;refine Ie ?_;refine Call_ (f_ I hg hm boot_range (Gy (Cy (ha pos2 pins s σ H _ I h) fun us s1 ⟨vs,H1,I1,r1,q1⟩=>?_) hs rfl));obtain⟨j,e,⟨h3,h4⟩,h5,q1⟩:=q1;subst e
 cases r1 with
 | cons r rr =>
   cases rr;obtain⟨t,rfl⟩:=r;exact call_range_1 (JF (lQ hc I1 (by omega) (by omega) h3 h4 (by simpa using h5) (by simpa using q1)))
end
end L2
namespace L2.VL
section
variable{X:Cx}{rl:RlT}{a b c e:Expr}{es:List Expr}{fa fb fc:TV}{fs:DU}{pos pos2 p q:Pos}
theorem lH{K:W.Frag}(lo:Int)(n:Nat):Reps K F (iA lo n) (aU lo n):=by
 unfold iA aU;generalize Gm n=l
 induction l with
 | nil=>exact .nil
 | cons x l ih=>exact .cons (.int _) ih
noncomputable def Be(fs:DU):TV:=fun ρ Q=>fs ρ fun ws=>∃i j:Int,ws=[.d (.int i),.d (.int j)]/\(-(2^62)<=i/\i<2^62 /\ -(2^62)<=j/\j<2^62)/\(j-i).toNat<=2^24/\Q (.ml (aU i (j-i).toNat))
noncomputable def AD(fs:DU):TV:=fun ρ Q=>fs ρ fun ws=>∃j:Int,ws=[.d (.int j)]/\(-(2^62)<=j/\j<2^62)/\j.toNat<=2^24/\Q (.ml (aU 0 j.toNat))
theorem mG(hml:X.mg "list" = none)(hm:X.mg "range" = none)(ha:D9 X rl [a] fs)(hc:autoParam (X.calm=true) æa._auto_1)(hl:autoParam (Gl X "list") æa._auto_1)(hg:autoParam (Gl X "range") æa._auto_1)(hs:autoParam (E4 [a] X.env=[(false,eval a X.env)]) æa._auto_1)
 (he:autoParam (E4 [.Call (.Name "range" p) [a] [] pos2] X.env=(false,eval (.Call (.Name "range" p) [a] [] pos2) X.env)::E4 [] X.env) æa._auto_1)(hpl:autoParam ((GP pos (E4 [] X.env)).any (·.1)=false) æa._auto_1) :
 PV X rl (.Call (.Name "list" q) [.Call (.Name "range" p) [a] [] pos2] [] pos) (AD fs):=by
 obtain⟨t,p1,k⟩:=ha;refine⟨_,lL hc hl hml hg hm p1 hs he hpl,fun R Qd Q q h=>k R _ _ q fun vs ws F1 H1 g1 r1 ⟨j,ew,z,y,q1⟩=>?_⟩;subst ew;obtain⟨v,rfl,rv⟩:=pd r1;have e1:=aX rv;subst e1;exact⟨j,rfl,z,y,fun l hl=>h _ (.ml _) _ _ (g1.trans (Grow.laid g1.sub g1.reel hl)) (de g1.sub g1.reel hl (lH _ _)) (fun a ea=>by cases ea;exact g1.freeB hl) q1⟩
noncomputable def mQ(i j:Nat)(fa:TV):DV:=fun D ρ=>∃xs ys,ρ[i]?=some (some (.ml xs))/\ρ[j]?=some (some (.ml ys))/\fa ρ fun w=>∃k y,w = .d (.int k)/\0<=k/\k<(ys.length:Int)/\ys.length<2^62/\ys[k.toNat]?=some y/\xs.length<sizeLine /\
 D.nx ((ρ.set j (some (.ml (ys.eraseIdx k.toNat)))).set i (some (.ml (xs++[y]))))
end
structure Sm (dp bk:Nat) (d:ET):Prop where
 nice:uL d
 dep:d.depth<=dp
 blk:d.bulk<=bk
theorem gU:∀{xs:List ET},(∀d∈xs,uL d)->gE xs
 | [],_=>trivial
 | x::xs,h=>⟨h x E7,gU fun d hd=>h d (E9 _ hd)⟩
theorem gi{k:Nat}:∀{xs:List ET},(∀d∈xs,d.depth<=k)->GR xs<=k+1
 | [],_=>by simp[GR]
 | x::xs,h=>by
   have h1:=h x E7;have h2:=gi (k:=k) (xs:=xs) fun d hd=>h d (E9 _ hd);simp only[GR];omega
theorem hE{k:Nat}:∀{xs:List ET},(∀d∈xs,d.bulk<=k)->Jx xs<=(k+1)*xs.length
 | [],_=>by simp[Jx]
 | x::xs,h=>by
   have h1:=h x E7;have h2:=hE (k:=k) (xs:=xs) fun d hd=>h d (E9 _ hd);simp only[Jx,Gq,LA];omega
theorem Sm.seq{dp bk:Nat}(h:∀d∈xs,Sm dp bk d)(hl:xs.length<=n):Sm (dp+2) ((bk+1)*n) (.tuple xs)/\Sm (dp+2) ((bk+1)*n) (.list xs):=by
 have a:=gU fun d hd=>(h d hd).nice;have b:=gi fun d hd=>(h d hd).dep;have c:Jx xs<=(bk+1)*n:=Gk (hE fun d hd=>(h d hd).blk) (K7 _ hl);refine⟨⟨a,?_,c⟩,⟨a,?_,c⟩⟩<;>simp only[Hi]<;>omega
theorem Sm.shw{dp bk:Nat}(h:Sm dp bk d)(h1:dp<=60)(h2:bk<=8000):D5 d:=⟨h.nice,by have:=h.dep;omega,by have:=h.blk;omega⟩
theorem Sm.int{i:Int}(h:i.natAbs<2^1000):Sm 0 0 (.int i):=⟨(Lf.int h).nice,by simp[Hi],by simp[LP]⟩
theorem Sm.mono{dp bk dp' bk':Nat}(h:Sm dp bk d)(h1:dp<=dp')(h2:bk<=bk'):Sm dp' bk' d:=⟨h.nice,Gk h.dep h1,Gk h.blk h2⟩
theorem Sm.pair{a b:Int}(ha:a.natAbs<2^1000)(hb:b.natAbs<2^1000):Sm 2 2 (.tuple [.int a,.int b]) :=
 (Sm.seq (dp:=0) (bk:=0) (n:=2) (xs:=[.int a,.int b]) (fun d hd=>by
  rcases FV.mp hd with rfl|hd
  · exact Sm.int ha
  · rcases FV.mp hd with rfl|hd
    · exact Sm.int hb
    · cases hd) (E3 _)).1
end L2.VL
namespace L2
section
variable{X:Cx}{tg e:Expr}{ta te:TE}{p p2 pos:Pos}
noncomputable def Bj(K:W.Frag)(te:TE):TE:=fun σ H Q=>te σ H fun x H1=>∃a xs,x = .ref a/\D1 K H1 a xs/\∀l,H1 l=none->Q (.ref l) (Co H1 l (.lst xs.reverse))
theorem wD{p3 p4:Pos}(he:PE X e te):PE X (.Subscript e (.Slice none none (some (.UnaryOp .USub (.Constant (.int 1) j p3) p4)) p2) pos) (Bj X.K te):=by
 intro pins s σ H Q I h;refine KJ (Cy (he pins s σ H _ I h) fun v s1 ⟨x,H1,I1,r1,q1⟩=>?_);obtain⟨a,xs,rfl,hq,q⟩:=q1;cases r1;refine LL ?_;rw[JU];refine EW (EW ?_);refine Cy (jK (X:=X) (tM mR i9) pins s1 σ H1 (fun o H=>o=some (-1)/\H=H1) I1 ⟨1,rfl,-1,rfl,rfl,rfl⟩) fun vk s3 ⟨o,H3,I3,pk,eo,eH⟩=>?_;subst eo eH;have I4:Inv X pins σ H3 {s3 with heap:=s3.heap.push {cls:=.type "slice", data:=.fields #[.none,.none,vk]}}:=I3.kept (t':=s3.toks) fun b ob q=>EY _ q;obtain⟨its,rv,p,hz⟩:=I4.list hq;have hl:=rv.length;refine tail_any (ops:=[.ref a,.ref s3.heap.objs.size]) p.isList.typeIs slot_list_getitem.lookup ?_ (by with_unfolding_all rfl);refine JH p.isList (Jr ..) .none .none pk (by decide) ?_ (by rw[Fb]<;>omega);rw[W.krv_pick];refine⟨.ref _,_,I4.laid (t':=s3.toks) (o:=.lst xs.reverse) (fun b ob q=>EY _ q) (E3 _) ?_,rfl,q _ (I4.hok.fresh (E3 _))⟩;exact⟨by rw[H_];exact hz,its.reverse,0,rv.reverse,Fa _ rfl⟩
end
end L2
namespace L2.VL
section
variable{X:Cx}{rl:RlT}{a b c e tg:Expr}{es:List Expr}{fa fb fc:TV}{fs:DU}{pos pos2 p p2 q:Pos}
theorem Reps.rev{K:W.Frag}{F:Hp}:∀{vs:List V}{ds:List ET},Reps K F vs ds->Reps K F vs.reverse ds.reverse
 | _,_,.nil=>.nil
 | _,_,.cons h r=>by rw[HQ,HQ];exact(Reps.rev r).snoc h
noncomputable def sD(fa:TV):TV:=fun ρ Q=>fa ρ fun w=>∃xs,w.dat=some (.list xs)/\Q (.ml xs.reverse)
theorem u8{p3 p4:Pos}(ha:PV X rl e fa):PV X rl (.Subscript e (.Slice none none (some (.UnaryOp .USub (.Constant (.int 1) j p3) p4)) p2) pos) (sD fa):=by
 obtain⟨t,p1,k⟩:=ha;refine⟨_,wD p1,fun R Qd Q q h=>k R _ _ q fun v w F1 H1 g1 r1 n1 ⟨xs,ed,q1⟩=>?_⟩;obtain⟨a,vs,rfl,sq,rs⟩:=r1.items g1.sub ed;exact⟨a,vs,rfl,sq,fun l hl=>h _ (.ml _) _ _ (g1.trans (Grow.laid g1.sub g1.reel hl)) (de g1.sub g1.reel hl rs.rev) (fun a ea=>by cases ea;exact g1.freeB hl) q1⟩
end
end L2.VL
namespace L2
section
variable{X:Cx}
theorem uE{bs:List Bool}(r:cE (bs.map V.bl) its){v:EX}(e:its[i]?=some v):v = .bool (bs.getD i false):=by
 have hl:=r.length;rw[E1]at hl;have hi:i<bs.length:=by have:=(Ff.mp e).1;omega
 have hb:(bs.map V.bl)[i]?=some (.bl bs[i]):=by simp[hi]
 obtain⟨u,hu,ru⟩:=r.get hb;rw[e]at hu;cases hu;have:bs.getD i false=bs[i]:=by simp[LQ,hi]
 rw[this];exact ru
theorem nh{bs:List Bool}:(Gm bs.length).all (fun i=>bs.getD i false)=bs.all id:=by
 have:bs=(Gm bs.length).map fun i=>bs.getD i false:=by
  apply IM
  · simp
  · intro i h1 h2;simp[LQ,h1]
 conv=>rhs;rw[this,List.all_map]
 rfl
theorem qG(hc:X.calm=true):eR X (.builtin "all") (fun xs H Q=>∃(p:Addr)(bs:List Bool),xs=[.ref p]/\D1 X.K H p (bs.map V.bl)/\Q (.bl (bs.all id)) H):=by
 intro pins s σ H xs us Q I r ⟨p,bs,ex,hq,q⟩;subst ex;obtain⟨u,rfl,ru⟩:=vals1 r;cases ru;obtain⟨its,rv,pl,hz⟩:=I.list hq;have hl:=rv.length;rw[E1]at hl;refine call_all_walk (Iv pl.isList ?_);have ne:p≠s.heap.objs.size:=by obtain⟨o,ho,_⟩:=pl.isList;exact FK (E8 ho)
 refine⟨s.heap.objs.size,_,_,_,_,_,fun i=>bs.getD i false,rfl,Walks.list (A:=X.A.in1) (I.ok.hd hc) s.heap.objs.size p ne its.toArray,⟨⟨_,Fa _ rfl,rfl,rfl⟩,pl.isList.push _⟩,fun i v s' Q' E' hP hQ=>?_,fun h' tk k=>?_⟩
 · rw[uE rv (show its[i]?=some v by simpa using hP)];exact Hn hQ
 · have e:(Gm its.toArray.size).all (fun i=>bs.getD i false)=bs.all id:=by rw[Fb,<- hl];exact nh
   rw[e];exact⟨.bl _,H,I.kept (t':=tk) fun b o eb=>k b o (by simp;exact FK (E8 eb)) (EY _ eb),rfl,q⟩
end
end L2
namespace L2.VL
section
variable{X:Cx}{rl:RlT}{a b c e:Expr}{es:List Expr}{fa fb fc:TV}{fs:DU}{pos p p2:Pos}
theorem m9{K:W.Frag}{F:Hp}:∀{vs:List V}{bs:List Bool},Reps K F vs (bs.map .bool)->vs=bs.map V.bl
 | _,[],h=>h.nil_iff
 | _,b::bs,.cons h r=>by rw[eV h,m9 r];rfl
noncomputable def x_(f:List Bool->Bool):List W->(W->Prop)->Prop:=fun ws Q=>∃(w:W)(bs:List Bool),ws=[w]/\w.dat=some (.list (bs.map .bool))/\Q (.d (.bool (f bs)))
theorem uZ{f:List Bool->Bool}:eQ X rl (fun xs H Q=>∃(p:Addr)(bs:List Bool),xs=[.ref p]/\D1 X.K H p (bs.map V.bl)/\Q (.bl (f bs)) H) (x_ f):=fun{F H vs ws} Qd Q s ra r ⟨w,bs,ew,ed,q⟩ k=>by
 subst ew;obtain⟨v,rfl,r1⟩:=pd r;obtain⟨a,us,rfl,sq,rs⟩:=r1.items s ed;have e:=m9 rs;subst e;exact⟨a,bs,rfl,sq,k _ (.d _) _ _ (Grow.refl s ra) (.bl _) trivial q⟩
theorem v_all(hm:X.mg "all" = none)(ha:D9 X rl [a] fs)(hc:autoParam (X.calm=true) æa._auto_1)(hg:autoParam (Gl X "all") æa._auto_1)(he:autoParam (E4 [a] X.env=(false,eval a X.env)::E4 [] X.env) æa._auto_1)(hpl:autoParam ((GP pos (E4 [] X.env)).any (·.1)=false) æa._auto_1) :
 PV X rl (.Call (.Name "all" p) [a] [] pos) (dH (x_ fun bs=>bs.all id) fs):=eG (qG hc) uZ hm (by rfl) ha hg (by decide) (by decide) he hpl
end
end L2.VL
namespace L2.TM
theorem wQ:fillsNumberSlot (.type "tuple") "mul" = pure false :=
 PySem.fillsNumberSlot_seq (id := "tuple.__mul__") (r:=some (.builtin "tuple.__rmul__")) F.slot_tuple_mul.lookup (by decide +kernel) F.slot_tuple_rmul.lookup (by decide +kernel)
theorem Bx:seqRepeat? (.type "tuple")=pure (some (.builtin "tuple.__mul__")):=by
 unfold seqRepeat?;have s1:=PySem.seqSlot_of (T := "tuple") (name := "__mul__") (id := "tuple.__mul__") F.slot_tuple_mul.lookup (by decide +kernel);have s2:=PySem.seqSlot_of (T := "tuple") (name := "__rmul__") (id := "tuple.__rmul__") F.slot_tuple_rmul.lookup (by decide +kernel);rw[s1,s2];rfl
theorem pI(its:Array EX):∀n:Nat,(IW (fun x y=>x++y) #[] (Fg n its)).size=its.size*n:=by
 have key:∀(n:Nat)(acc:Array EX),(IW (fun x y=>x++y) acc (Fg n its)).size=acc.size+its.size*n:=by
  intro n
  induction n with
  | zero=>intro acc;simp
  | succ n ih=>intro acc;rw[Gp,HL,ih,Array.size_append,LA];omega
 intro n;have:=key n #[];simpa using this
noncomputable def TupAt(h:Heap)(l:Addr)(its:Array EX):Prop:=∃(dc:Option Addr)(sl:Array (Option EX))(n:Nat),h.get? l=some ⟨.type "tuple", dc,.seq its n,sl⟩
section
variable{prog:Fo}{w:Gc}{A:Gh}{E:EX->EZ->Prop}{s:EZ}{k:Int}{t:Tok}{l:Addr}{its:Array EX}
theorem tupAt(h:LG s.heap l its):TupAt s.heap l its:=by
 obtain⟨⟨c,dc,d,sl⟩,ho,hc,n,hd⟩:=h;cases hc;cases hd;exact⟨dc,sl,n,ho⟩
theorem BK(h:TupAt s.heap l its)(q:Q .notImplemented s):Fm (FA prog w) A (call (.builtin "int.__rmul__") [.int k t,.ref l]) Q E s:=by
 obtain⟨dc,sl,n,ho⟩:=h;refine Lq F.slot_int_rmul (typeIs_int s k t) F.entry_int_rmul (F.args_int_rmul_2 _ _) (S:=fun _ R s=>s.heap.get? l=some ⟨.type "tuple", dc,.seq its n,sl⟩/\R (.ok (.ret EX.notImplemented)) s) ?_ ⟨ho,q⟩
 exact .of_wp fun prog w A R s h=>by
  obtain⟨hp,g,d,tk,os⟩:=s;obtain⟨ho,h⟩:=h
  wp_walk
  exact⟨_,rfl,h⟩
theorem rep_body(hk:2<=k)(hk':k<2^62)(he:its.isEmpty=false)(hz:its.size*k.toNat<=sizeLine)(h:TupAt s.heap l its)
 (q:Q (.ref s.heap.objs.size) {s with heap:=s.heap.push {cls:=.type "tuple", data:=.seq ((Fg k.toNat its).foldl (· ++ ·) #[])}}):Fm (FA prog w) A (call (.builtin "tuple.__mul__") [.ref l,.int k t]) Q E s:=by
 obtain⟨dc,sl,n,ho⟩:=h
 refine Lq F.slot_tuple_mul ⟨_,ho,rfl⟩ F.entry_tuple_mul (F.args_tuple_mul_2 _ _)
  (S:=fun _ R s=>s.heap.get? l=some ⟨.type "tuple", dc,.seq its n,sl⟩/\R (.ok (.ret (.ref s.heap.objs.size))) {s with heap:=s.heap.push {cls:=.type "tuple", data:=.seq ((Fg k.toNat its).foldl (· ++ ·) #[])}}) ?_ ⟨ho,q⟩
 have h1:¬(decide (k < -(2^63))||decide (k ≥ 2^63))=true:=by simp;omega
 have h2:¬(its.isEmpty||k==1)=true:=by rw[he];simp;omega
 have h3:¬(decide (k<=0)||its.isEmpty)=true:=by rw[he];simp;omega
 have sz:=FI;have hk0:k=(k.toNat:Int):=by omega
 have h4:¬((its.size:Int)*k>(2^63-1) / 8):=by
  rw[hk0];have:((its.size*k.toNat:Nat):Int)<=sizeLine:=by exact_mod_cast hz
  rw[Jg]at this;omega
 have h5:¬Builtin.Tuple.tupleTooMany ((its.size:Int)*k)=true:=by
  intro z;have z:=of_decide_eq_true z;rw[hk0]at z;have:((its.size*k.toNat:Nat):Int)<=sizeLine:=by exact_mod_cast hz
  rw[Jg]at this;omega
 refine .of_wp fun prog w A R s h=>?_;obtain⟨ho,h⟩:=h;have tp:LG s.heap l its:=⟨_,ho,rfl,n,rfl⟩;unfold Builtin.«tuple.__mul__»;show Fm _ _ (do let z <- asIndex (.int k t);_) _ _ s;refine EU (JX (a:=k) (by first|rfl|kernel_rfl) ?_);rw[if_neg h1];refine EU (Ij tp ?_);rw[if_neg h2,if_neg h3]
 first|rw[if_neg h4]|skip
 first|rw[if_neg h5]|skip
 show Fm _ _ (do let z <- FW (IW (fun x y=>x++y) #[] (Fg k.toNat its));ret z) _ _ s;refine EU (m:=FW _) (FB (EW ⟨_,rfl,h⟩) ?_);show(IW (fun x y=>x++y) #[] (Fg k.toNat its)).size<=sizeLine;rw[pI];exact hz
theorem rep_one(h:TupAt s.heap l its)(q:Q (.ref l) s):Fm (FA prog w) A (call (.builtin "tuple.__mul__") [.ref l,.int 1 t]) Q E s:=by
 obtain⟨dc,sl,n,ho⟩:=h;refine Lq F.slot_tuple_mul ⟨_,ho,rfl⟩ F.entry_tuple_mul (F.args_tuple_mul_2 _ _) (S:=fun _ R s=>s.heap.get? l=some ⟨.type "tuple", dc,.seq its n,sl⟩/\R (.ok (.ret (.ref l))) s) ?_ ⟨ho,q⟩;refine .of_wp fun prog w A R s h=>?_;obtain⟨ho,h⟩:=h;have tp:LG s.heap l its:=⟨_,ho,rfl,n,rfl⟩;unfold Builtin.«tuple.__mul__»;show Fm _ _ (do let z <- asIndex (.int 1 t);_) _ _ s;refine EU (JX (a:=(1:Int)) (by first|rfl|kernel_rfl) ?_);rw[if_neg (by decide)];refine EU (Ij tp ?_);rw[if_pos (by simp)];show Fm _ _ (do let z <- HS (.ref l);_) _ _ s;refine EU ?_;unfold HS;refine EU (Jq (T := "tuple") ⟨_,ho,rfl⟩ (EW ?_));rw[if_pos (by decide)];exact EU (Iu (EU (EW (EW ⟨_,rfl,h⟩))))
theorem mul_tup(tp:LG s.heap l its)(q:Fm (FA prog w) A (call (.builtin "tuple.__mul__") [.ref l,.int k t]) Q E s):Fm (FA prog w) A (Hw .Mult (.ref l) (.int k t)) Q E s :=
 wpAny_binaryOp_repeat_ref (T := "tuple") (U := "int") (by decide) tp.typeIs (fun s'=>typeIs_int s' k t) wQ F.fills_int_mul F.slot_int_rmul Bx F.slot_int_index.lookup (BK (tupAt tp) ⟨rfl,tp.typeIs,q⟩)
end
end L2.TM
namespace L2
section
variable{X:Cx}
noncomputable def we(K:W.Frag):R2:=fun x y H Q=>∃a k xs,x = .ref a/\y = .int k/\D0 K H a xs/\xs≠[]/\1<=k/\k<2^62/\xs.length*k.toNat<=sizeLine/\(k=1->Q (.ref a) H)/\(2<=k->∀p,H p=none->Q (.ref p) (Co H p (.tup (Fg k.toNat xs).flatten)))
theorem tR:Ek X (Hw .Mult) (we X.K):=by
 intro pins s σ H x y v u Q I rx ry h;obtain⟨a,k,xs,rfl,rfl,ha,hne,h1,h2,hz,q1,q2⟩:=h;cases rx;obtain⟨t,rfl⟩:=ry;obtain⟨its,r,p,_⟩:=I.tuple ha;have hl:=r.length;refine TM.mul_tup p ?_;by_cases hk:k=1
 · subst hk;exact TM.rep_one (TM.tupAt p) ⟨.ref a,H,I,rfl,q1 rfl⟩
 · have he:its.toArray.isEmpty=false:=by
     cases its with
     | nil=>simp at hl;exact absurd hl hne
     | cons _ _=>rfl
   refine TM.rep_body (by omega) h2 he (by rw[Fb,<- hl];exact hz) (TM.tupAt p) ?_
   have e:IW (fun x y=>x++y) #[] (Fg k.toNat its.toArray)=(Fg k.toNat its).flatten.toArray:=by
    have:=foldl_rep its k.toNat [];rw[List.nil_append]at this;exact this
   rw[e];refine⟨.ref s.heap.objs.size,_,I.laid (t':=s.toks) (o:=.tup (Fg k.toNat xs).flatten) (fun b ob q=>EY _ q) (E3 _) ?_,rfl,q2 (by omega) _ (I.hok.fresh (E3 _))⟩;exact⟨by rw[uf,Nat.mul_comm];exact hz,_,r.rep k.toNat,pc.new _ _⟩
end
end L2
namespace L2.VL
section
variable{X:Cx}{rl:RlT}{a b c e:Expr}{es:List Expr}{fa fb fc:TV}{fs:DU}{pos p p2:Pos}
theorem Reps.repl{K:W.Frag}{F:Hp}{vs:List V}{ds:List ET}(r:Reps K F vs ds):∀n:Nat,Reps K F (Fg n vs).flatten (Fg n ds).flatten
 | 0=>.nil
 | n+1=>by rw[Gp,Gp,Hs,Hs];exact r.append (Reps.repl r n)
noncomputable def qq:W->W->(W->Prop)->Prop:=fun x y Q=>∃xs k,x = .d (.tuple xs)/\y = .d (.int k)/\xs≠[]/\1<=k/\k<2^62/\xs.length*k.toNat<=sizeLine/\Q (.d (.tuple (Fg k.toNat xs).flatten))
theorem r_:DS X rl (we X.K) qq:=fun{F H x y wx wy} Qd Q s ra r1 r2 q k=>by
 obtain⟨xs,n,rfl,rfl,hne,h1,h2,hz,q⟩:=q;have ey:=aX r2;subst ey
 cases(show Rep X.K F x (.tuple xs)from r1)with
 | @tup a vs _ sq rs =>
   refine⟨a,n,vs,rfl,rfl,cA s sq,fun z=>hne ?_,h1,h2,by rw[rs.length];exact hz,fun e=>?_,fun e p hp=>?_⟩
   · subst z;cases rs;rfl
   · subst e;have e1:(Fg (Int.toNat 1) xs).flatten=xs:=by simp
     rw[e1]at q;exact k _ (.d (.tuple xs)) _ _ (Grow.refl s ra) (.tup sq rs) trivial q
   · have g:=Grow.data (a:=p) (o:=.tup (Fg n.toNat vs).flatten) s ra hp;exact k _ (.d _) _ _ g (.tup (.inl (.inl ar)) ((rs.repl n.toNat).mono g.fs)) trivial q
theorem u9(ha:PV X rl a fa)(hb:PV X rl b fb):PV X rl (.BinOp a .Mult b pos) (Ck qq fa fb):=iq tR r_ ha hb
noncomputable def zt:W->W->(W->Prop)->Prop:=fun x y Q=>∃xs ys,x = .d (.tuple xs)/\y = .d (.tuple ys)/\xs≠[]/\xs.length+ys.length<=sizeLine/\Q (.d (.tuple (xs++ys)))
theorem sd:DS X rl (sY X.K) zt:=fun{F H x y wx wy} Qd Q s ra r1 r2 q k=>by
 obtain⟨xs,ys,rfl,rfl,hne,hz,q⟩:=q
 cases(show Rep X.K F x (.tuple xs)from r1)with
 | @tup a vs _ sq rs =>
   cases(show Rep X.K F y (.tuple ys)from r2)with
   | @tup b us _ sq2 rs2 =>
     refine⟨a,b,vs,us,rfl,rfl,cA s sq,cA s sq2,fun z=>hne ?_,by rw[rs.length,rs2.length];exact hz,fun e=>?_,fun e p hp=>?_⟩
     · subst z;cases rs;rfl
     · subst e;cases rs2;rw[GQ]at q;exact k _ (.d (.tuple xs)) _ _ (Grow.refl s ra) (.tup sq rs) trivial q
     · have g:=Grow.data (a:=p) (o:=.tup (vs++us)) s ra hp;exact k _ (.d _) _ _ g (.tup (.inl (.inl ar)) ((rs.append rs2).mono g.fs)) trivial q
end
end L2.VL
namespace L2
section
variable{X:Cx}
noncomputable def wg(K:W.Frag):R2:=fun x y H Q=>∃a b ys,x = .ref a/\y = .ref b/\D0 K H a []/\D0 K H b ys/\Q (.ref b) H
theorem tZ:Ek X (Hw .Add) (wg X.K):=by
 intro pins s σ H x y v u Q I rx ry h;obtain⟨a,b,ys,rfl,rfl,ha,hb,q⟩:=h;cases rx;cases ry;obtain⟨its,r1,p1,_⟩:=I.tuple ha;obtain⟨its2,r2,p2,_⟩:=I.tuple hb;cases r1;obtain⟨⟨c1,d1,e1,sl1⟩,ho,hc,n,hd⟩:=p1;obtain⟨⟨c2,d2,e2,sl2⟩,ho2,hc2,n2,hd2⟩:=p2;cases hc;cases hd;cases hc2;cases hd2
 exact Ly ⟨_,ho,rfl⟩ ⟨_,ho2,rfl⟩ J6 Lg Iq Ii (Ic _ _)
  (tuple_addW0 a b _ its2.toArray n n2 d1 d2 sl1 sl2 rfl) ⟨ho,ho2,⟨.ref b,H,I,rfl,q⟩⟩
noncomputable def wf(K:W.Frag):R2:=fun x y H Q=>sY K x y H Q\/wg K x y H Q
theorem tX:Ek X (Hw .Add) (wf X.K):=fun pins s σ H x y v u Q I rx ry h=>h.elim (tW pins s σ H x y v u Q I rx ry) (tZ pins s σ H x y v u Q I rx ry)
section
variable{prog:Fo}{w:Gc}{A:Gh}{E:EX->EZ->Prop}{s:EZ}
end
end
end L2
namespace L2.VL
section
variable{X:Cx}{rl:RlT}{a b c e:Expr}{es:List Expr}{fa fb fc:TV}{fs:DU}{pos p p2:Pos}
noncomputable def qu:W->W->(W->Prop)->Prop:=fun x y Q=>∃xs ys,x = .d (.tuple xs)/\y = .d (.tuple ys)/\xs.length+ys.length<=sizeLine/\Q (.d (.tuple (xs++ys)))
theorem sf:DS X rl (wf X.K) qu:=fun{F H x y wx wy} Qd Q s ra r1 r2 q k=>by
 obtain⟨xs,ys,rfl,rfl,hz,q⟩:=q;by_cases hx:xs=[]
 · subst hx
   cases(show Rep X.K F x (.tuple [])from r1)with
   | @tup a vs _ sq rs =>
     cases rs
     cases(show Rep X.K F y (.tuple ys)from r2)with
     | @tup b us _ sq2 rs2=>exact .inr ⟨a,b,us,rfl,rfl,cA s sq,cA s sq2,k _ (.d (.tuple ys)) _ _ (Grow.refl s ra) (.tup sq2 rs2) trivial q⟩
 · exact .inl (sd Qd Q s ra r1 r2 ⟨xs,ys,rfl,rfl,hx,hz,q⟩ k)
theorem eU(ha:PV X rl a fa)(hb:PV X rl b fb):PV X rl (.BinOp a .Add b pos) (Ck qu fa fb):=iq tX sf ha hb
theorem dZ{K:W.Frag}{F:Hp}:∀{vs:List V}{ns:List Int},Reps K F vs (ns.map .int)->vs=ns.map V.int
 | _,[],h=>h.nil_iff
 | _,n::ns,.cons h r=>by rw[aX h,dZ r];rfl
theorem kY{K:W.Frag}{F:Hp}:∀{ns:List Int},Reps K F (ns.map V.int) (ns.map .int)
 | []=>.nil
 | n::ns=>.cons (.int n) kY
noncomputable def xl:List W->(W->Prop)->Prop:=fun ws Q=>∃(ns:List Int),ws=[.d (.tuple (ns.map .int))]/\ns.length<64/\∀ns':List Int,ns'.Perm ns->ns'.Pairwise (· <= ·)->Q (.ml (ns'.map .int))
end
end L2.VL
namespace L2.TO
section
variable{prog:Fo}{w:Gc}{A:Gh}{E:EX->EZ->Prop}{s:EZ}
theorem lJ(n:Nat):Gs ((n:Int)-1) (-1) (-1)=n:=by
 unfold Gs;rw[if_neg (by decide)];by_cases h:n=0
 · subst h;decide
 · rw[if_pos (by omega),show(- -1:Int)=1 by decide,Int.ediv_one];omega
theorem jY{sl:Addr}{vk:EX}{Q:Int×Int×Nat->EZ->Prop}(hs:s.heap.IsSliceOf sl .none .none vk)(pk:Kn vk (some (-1)))
 (h:Q ((n:Int)-1,-1,n) s):Fm (FA prog w) A (Ha (.ref sl) (pure (n:Int))) Q E s:=by
 obtain⟨o1,hos,_,hds⟩:=hs;unfold Ha Jv;refine EU (EU (Gz hos hds (x:=.none) rfl (EU (Gz hos hds (x:=.none) rfl (EU (Gz hos hds (x:=vk) rfl (EW ?_)))))));refine EU (HT.slicePart_ pk ?_);show Fm _ _ (if((-1:Int)==0)=true then _ else _) _ _ s;rw[if_neg (by decide)];refine EU (HT.slicePart_ .none (EU (HT.slicePart_ .none (EU (EW ?_)))));show Fm _ _ (pure ((n:Int)-1,(-1:Int),Gs ((n:Int)-1) (-1) (-1))) _ _ s;rw[lJ];exact EW h
theorem pR(xs:Array EX):((Gm xs.size).filterMap fun(k:Nat)=>xs[((xs.size:Int)-1+(k:Int) * -1).toNat]?).toArray=xs.toList.reverse.toArray:=by
 have e:(fun(k:Nat)=>xs[((xs.size:Int)-1+(k:Int) * -1).toNat]?)=fun k=>xs[xs.size-1-k]?:=by
  funext k;have:((xs.size:Int)-1+(k:Int) * -1).toNat=xs.size-1-k:=by omega
  rw[this]
 rw[e];have e2:(Gm xs.size).filterMap (fun k=>xs[xs.size-1-k]?)=((Gm xs.size).map fun k=>xs.size-1-k).filterMap (xs[·]?):=by rw[List.filterMap_map];rfl
 rw[e2,W.krv_range,List.filterMap_reverse,W.krv_all]
theorem get_rev{t sl:Addr}{items:Array EX}{vk:EX}(ht:LG s.heap t items)(hs:s.heap.IsSliceOf sl .none .none vk)(pk:Kn vk (some (-1)))
 (h:Q (.ref s.heap.objs.size) {s with heap:=s.heap.push {cls:=.type "tuple", data:=.seq items.toList.reverse.toArray}})
 (hsz:items.size<=sizeLine):Fm (FA prog w) A (Jc (.ref t) (.ref sl)) Q E s:=by
 have hz:sizeOk (.seq items.toList.reverse.toArray):=by
  show items.toList.reverse.toArray.size<=sizeLine;rw[Fb,H_,Hv];exact hsz
 have ty:s.TypeIs (.ref sl) "slice" := let ⟨o,h1,h2,_⟩:=hs;⟨o,h1,h2⟩
 have key:Fm (FA prog w) A (call (.builtin "tuple.__getitem__") [.ref t,.ref sl]) Q E s:=by
  refine GD Fw ht.typeIs entry_tuple_getitem ?_ (Jp _ _);show Fm _ _ (Hb (.ref t) >>= _) _ _ s;refine EU (Ij ht (EU (Jq ty ?_)));rw[if_pos (by decide)];refine EU (jY hs pk ?_);show Fm _ _ (if((items.size:Int)-1==0&&(-1:Int)==1&&items.size==items.size)=true then _ else _) _ _ s;rw[if_neg (by simp),pR]
  first
   | exact EU (m:=FW _) (FB (EW ⟨_,rfl,h⟩) hz)
   | exact EU (m:=FW _) (FB (EU (EW (EW ⟨_,rfl,h⟩))) hz)
   | exact EU (EU (m:=FW _) (FB (EW (EW ⟨_,rfl,h⟩)) hz))
   | exact EU (EU (m:=FW _) (FB (EW ⟨_,rfl,h⟩) hz))
 unfold Jc;try with_reducible refine G5 ?_
 first|exact EU (EW (EU (HP ht.typeIs (by decide) (EU (FQ (name:=FT "__getitem__") ht.typeIs Fw (Cy key fun v s' q=>EW q))))))|exact EU (HP ht.typeIs (by decide) (EU (FQ (name:=FT "__getitem__") ht.typeIs Fw (Cy key fun v s' q=>EW q))))
end
end L2.TO
namespace L2
section
variable{X:Cx}{a b e:Expr}{ta:TA}{te:TE}{p p2 q pos pos2:Pos}
noncomputable def yG(K:W.Frag)(te:TE):TE:=fun σ H Q=>te σ H fun x H1=>∃a xs,x = .ref a/\D0 K H1 a xs/\∀l,H1 l=none->Q (.ref l) (Co H1 l (.tup xs.reverse))
theorem tN{p3 p4:Pos}(he:PE X e te):PE X (.Subscript e (.Slice none none (some (.UnaryOp .USub (.Constant (.int 1) j p3) p4)) p2) pos) (yG X.K te):=by
 intro pins s σ H Q I h;refine KJ (Cy (he pins s σ H _ I h) fun v s1 ⟨x,H1,I1,r1,q1⟩=>?_);obtain⟨a,xs,rfl,hq,q⟩:=q1;cases r1;refine LL ?_;rw[JU];refine EW (EW ?_);refine Cy (jK (X:=X) (tM mR i9) pins s1 σ H1 (fun o H=>o=some (-1)/\H=H1) I1 ⟨1,rfl,-1,rfl,rfl,rfl⟩) fun vk s3 ⟨o,H3,I3,pk,eo,eH⟩=>?_;subst eo eH;have I4:Inv X pins σ H3 {s3 with heap:=s3.heap.push {cls:=.type "slice", data:=.fields #[.none,.none,vk]}}:=I3.kept (t':=s3.toks) fun b ob q=>EY _ q;obtain⟨its,rv,p,hz⟩:=I4.tuple hq;have hl:=rv.length;refine tail_any (ops:=[.ref a,.ref s3.heap.objs.size]) p.typeIs Fw.lookup ?_ (by with_unfolding_all rfl);refine TO.get_rev p (Jr ..) pk ?_ (by rw[Fb]<;>omega);refine⟨.ref _,_,I4.laid (t':=s3.toks) (o:=.tup xs.reverse) (fun b ob q=>EY _ q) (E3 _) ?_,rfl,q _ (I4.hok.fresh (E3 _))⟩;exact⟨by rw[H_];exact hz,its.reverse,rv.reverse,pc.new _ _⟩
end
end L2
namespace L2.VL
section
variable{X:Cx}{rl:RlT}{a b c e:Expr}{es:List Expr}{fa fb fc:TV}{fs:DU}{pos pos2 p q p2:Pos}
noncomputable def Bc(fs:DU):TV:=fun ρ Q=>fs ρ fun ws=>∃j:Int,ws=[.d (.int j)]/\(-(2^62)<=j/\j<2^62)/\j.toNat<=2^24/\Q (.d (.tuple (aU 0 j.toNat)))
noncomputable def sC(fa:TV):TV:=fun ρ Q=>fa ρ fun w=>∃xs,w = .d (.tuple xs)/\Q (.d (.tuple xs.reverse))
theorem u7{p3 p4:Pos}(ha:PV X rl e fa):PV X rl (.Subscript e (.Slice none none (some (.UnaryOp .USub (.Constant (.int 1) j p3) p4)) p2) pos) (sC fa):=by
 obtain⟨t,p1,k⟩:=ha;refine⟨_,tN p1,fun R Qd Q q h=>k R _ _ q fun v w F1 H1 g1 r1 n1 ⟨xs,ew,q1⟩=>?_⟩;subst ew
 cases(show Rep X.K F1 v (.tuple xs)from r1)with
 | @tup a vs _ sq rs =>
   refine⟨a,vs,rfl,cA g1.sub sq,fun l hl=>?_⟩;have g:=Grow.data (a:=l) (o:=.tup vs.reverse) g1.sub g1.reel hl;exact h _ (.d _) _ _ (g1.trans g) (.tup (.inl (.inl ar)) (rs.rev.mono g.fs)) trivial q1
end
end L2.VL
namespace L2.TW
section
variable{prog:Fo}{w:Gc}{A:Gh}{E:EX->EZ->Prop}{s:EZ}
theorem get_whole{t sl:Addr}{items:Array EX}{vl vu:EX}{lo hi:Option Int}(ht:LG s.heap t items)(hs:s.heap.IsSliceOf sl vl vu .none)(pl:Kn vl lo)(pu:Kn vu hi)
 (hw:HT.sIx items.size 0 lo=0/\HT.sIx items.size items.size hi=items.size)(h:Q (.ref t) s):Fm (FA prog w) A (Jc (.ref t) (.ref sl)) Q E s:=by
 have ty:s.TypeIs (.ref sl) "slice" := let ⟨o,h1,h2,_⟩:=hs;⟨o,h1,h2⟩
 have key:Fm (FA prog w) A (call (.builtin "tuple.__getitem__") [.ref t,.ref sl]) Q E s:=by
  refine GD Fw ht.typeIs entry_tuple_getitem ?_ (Jp _ _);show Fm _ _ (Hb (.ref t) >>= _) _ _ s;refine EU (Ij ht (EU (Jq ty ?_)));rw[if_pos (by decide)];refine EU (HT.sliceApplied_gen hs pl pu ?_);rw[hw.1,hw.2,LB];show Fm _ _ (if(((0:Nat):Int)==0&&(1:Int)==1&&items.size==items.size)=true then _ else _) _ _ s;rw[if_pos (by simp)];unfold HS;refine EU (EU (Jq ht.typeIs (EW ?_)));rw[if_pos (by decide)];exact EU (Iu (EU (EW (EW ⟨_,rfl,h⟩))))
 unfold Jc;try with_reducible refine G5 ?_
 first|exact EU (EW (EU (HP ht.typeIs (by decide) (EU (FQ (name:=FT "__getitem__") ht.typeIs Fw (Cy key fun v s' q=>EW q))))))|exact EU (HP ht.typeIs (by decide) (EU (FQ (name:=FT "__getitem__") ht.typeIs Fw (Cy key fun v s' q=>EW q))))
end
end L2.TW
namespace L2
section
variable{X:Cx}
noncomputable def BA(K:W.Frag):V->Option Int->Option Int->Hp->VK->Prop:=fun x lo hi H Q=>AM K x lo hi H Q\/∃a xs,x = .ref a/\D0 K H a xs/\(HT.sIx xs.length 0 lo=0/\HT.sIx xs.length xs.length hi=xs.length)/\Q (.ref a) H
theorem sR:D4 X (BA X.K):=by
 intro pins s σ H x v vl vu lo hi sl Q I rx hs pl pu h;rcases h with h|⟨a,xs,rfl,hx,hw,q⟩
 · exact vU pins s σ H x v vl vu lo hi sl Q I rx hs pl pu h
 · cases rx;obtain⟨its,r,ht,hz⟩:=I.tuple hx;have hlen:its.toArray.size=xs.length:=by rw[Fb];exact r.length.symm
   exact⟨"tuple", _,Fw.lookup,ht.typeIs,TW.get_whole ht hs pl pu (by rw[hlen];exact hw) ⟨.ref a,H,I,rfl,q⟩⟩
end
end L2
namespace L2.VL
section
variable{X:Cx}{rl:RlT}{a b c e:Expr}{es:List Expr}{fa fb fc:TV}{fs:DU}{pos p p2:Pos}
theorem oI{l u:Option Int}(h:HT.sIx xs.length 0 l=0/\HT.sIx xs.length xs.length u=xs.length):cutD xs l u=xs:=by
 unfold cutD;rw[h.1,h.2];simp
noncomputable def ym(fa:TV)(fl fh:DW):TV:=fun ρ Q=>fa ρ fun w=>fl ρ fun l=>fh ρ fun h=>∃xs,w = .d (.tuple xs)/\Q (.d (.tuple (cutD xs l h)))
theorem pq{lo hi:Option Expr}{fl fh:DW}(ha:PV X rl a fa)(hl:D_ X rl lo fl)(hh:D_ X rl hi fh):PV X rl (.Subscript a (.Slice lo hi none p2) pos) (ym fa fl fh):=by
 obtain⟨t,p,k⟩:=ha;obtain⟨tl,pl,kl⟩:=hl;obtain⟨th,ph,kh⟩:=hh;refine⟨_,kJ sR p pl ph,fun R Qd Q q h=>k R _ _ q fun v w F1 H1 g1 r1 n1 q1=>?_⟩;refine kl (R.grow g1) _ _ q1 fun l F2 H2 g2 q2=>kh ((R.grow g1).grow g2) _ _ q2 fun u F3 H3 g3 q3=>?_;obtain⟨xs,rfl,q3⟩:=q3;have r3:=(r1.grow g2).grow g3;have g:=(g1.trans g2).trans g3
 cases(show Rep X.K F3 v (.tuple xs)from r3)with
 | @tup a vs _ sq rs =>
   by_cases hw:HT.sIx xs.length 0 l=0/\HT.sIx xs.length xs.length u=xs.length
   · rw[oI hw]at q3;exact .inr ⟨a,vs,rfl,cA g3.sub sq,by rw[rs.length];exact hw,h _ (.d _) _ _ g (.tup sq rs) trivial q3⟩
   · refine .inl ⟨a,vs,rfl,cA g3.sub sq,by rw[rs.length];exact hw,fun p hp=>?_⟩;have g':=Grow.data (a:=p) (o:=.tup (qC vs l u)) g3.sub g3.reel hp;exact h _ (.d _) _ _ (g.trans g') (.tup (.inl (.inl ar)) ((rs.cut l u).mono g'.fs)) trivial q3
end
end L2.VL
namespace L2
abbrev Bg(D:List (Str×Int)):List (ET×ET):=(D.map fun q=>(q.1,FG q.2)).map fun q=>(ET.str q.1,q.2)
section
variable{X:Cx}{e:Expr}{ty:TE}{px apos cpos:Pos}
end
end L2
namespace L2.VL
section
variable{X:Cx}{rl:RlT}{a b c e:Expr}{es:List Expr}{fa fb fc:TV}{fs:DU}{pos p p2 px apos cpos:Pos}
noncomputable def vK(D:List (Str×Int))(k:Str):ET:=(PySem.Spec.lookup (.str k) (Bg D)).getD .none
noncomputable def vg(D:List (Str×Int))(fk:TV):TV:=fun ρ Q=>fk ρ fun w=>∃k,w = .d (.str k)/\Q (.d (vK D k))
end
end L2.VL
set_option exponentiation.threshold 10000
namespace L2.VL
noncomputable def wU(a b:Int):ET:=.tuple [.int (a.fdiv (FY a b)),.int (b.fdiv (FY a b))]
theorem og{a b:Int}(hb:0<b)(z:b.natAbs<2^8000)(i:Int):dR i (FY a b:Int):=by
 have h1:=uv (a:=a) (b:=b) (by omega);have h2:=xj (a:=a) (b:=b) (by omega);exact⟨by omega,Hh (by omega) (E6 z (Fq (by decide) (by decide)))⟩
noncomputable def cF(lo:Int)(n:Nat):List Int:=(Gm n).map fun(i:Nat)=>lo+i
theorem dJ(lo:Int)(n:Nat):aU lo n=(cF lo n).map .int:=by simp[aU,cF]
theorem x6{lo x:Int}:x∈cF lo n↔lo<=x/\x<lo+n:=by
 unfold cF;simp only[FP,Ix];constructor
 · rintro⟨k,hk,rfl⟩;omega
 · rintro⟨h1,h2⟩;exact⟨(x-lo).toNat,by omega,by omega⟩
theorem cj(lo:Int)(n:Nat):(cF lo n).length=n:=by simp[cF]
noncomputable def xQ(bs:List Int):Prop:=bs.length=4/\(∀b∈bs,2<=b/\b<=16)/\bs.Pairwise fun x y=>FY x y=1
instance (bs:List Int):Decidable (xQ bs):=by unfold xQ;infer_instance
noncomputable def pr(a b:Int):ET:=.tuple [.int a,.int b]
theorem eJ{b:Int}(h:1<=b)(hij:i<=j):b^i<=b^j:=by
 induction hij with
 | refl=>exact K8 _
 | step _ ih =>
   rw[Int.pow_succ];have:0<=b^i:=Ku (Int.pow_pos (by omega))
   exact LC ih (by
    rename_i m _;have hm:0<b^m:=Int.pow_pos (by omega);have:=IN h (Ku hm)
    omega)
theorem GlK.pair{K:W.Frag}{a b:Int}{p:Addr}{sl:Array (Option EX)}{t u:Tok}(h1:W.nsIn K Gd x=some (some (.ref p)))
 (h2:K.lookup p=some ⟨.type "tuple", none,.seq #[.int a t,.int b u] n,sl⟩):GlK K x (pr a b):=by
 refine⟨.ref p,.ref p,h1,rfl,fun F=>.tup (vs:=[.int a,.int b]) (.inr ⟨_,_,n,h2,rfl,rfl,(by show 2<=sizeLine;decide),.cons ⟨t,rfl⟩ (.cons ⟨u,rfl⟩ .nil),rfl⟩) (.cons (.int a) (.cons (.int b) .nil))⟩
end L2.VL
set_option exponentiation.threshold 10000
namespace L2.VL
noncomputable def stepT(b:Int)(p:List Int)(t:Int)(a:Nat):Int:=t*b+p.getD a 0
noncomputable def Cq:ET->Int
 | .int i=>i
 | _=>0
section
variable{P:Fo}{w:Gc}{K:W.Frag}{mg:Str->Option EX}{base:Heap}{rl:RlT}{x:Str}{st:Stmt}{N ps:List Str}{k:Nat}{Pd:List W->(List ET->Prop)->Prop}{t:DV}
end
section
variable{X:Cx}{rl:RlT}{a b c e:Expr}{es:List Expr}{fa fb fc:TV}{fs:DU}{pos p p2 px apos cpos:Pos}
end
end L2.VL
namespace L2.IX
section
variable{prog:Fo}{w:Gc}{A:Gh}{E:EX->EZ->Prop}{s:EZ}
end
end L2.IX
namespace L2
section
variable{X:Cx}
end
end L2
namespace L2.VL
section
variable{X:Cx}{rl:RlT}{a b c e:Expr}{es:List Expr}{fa fb fc:TV}{fs:DU}{pos p p2 px apos cpos:Pos}
noncomputable def je:ET->Bool
 | .none=>true
 | _=>false
noncomputable def AY(neg:Bool):W->W->(W->Prop)->Prop:=fun x y Q=>∃d,x.dat=some d/\y = .d .none/\Q (.d (.bool (if neg then !je d else je d)))
noncomputable def xn:W->W->(W->Prop)->Prop:=fun x y Q=>∃xs k,x.dat=some (.list xs)/\y = .d (.int k) /\ -(2^63)<=k/\k<2^63/\xs.length*k.toNat<=sizeLine/\Q (.ml (Fg k.toNat xs).flatten)
noncomputable def vj(i:Nat):DV:=fun D ρ=>∃xs,ρ[i]?=some (some (.ml xs))/\D.rt (.ml xs)
noncomputable def vF(i:Nat)(fa:TV):DV:=fun D ρ=>∃xs,ρ[i]?=some (some (.ml xs))/\fa ρ fun w=>∃ys,w.isPk=false/\w.dat=some (.list ys)/\xs.length+ys.length<=sizeLine/\D.nx (ρ.set i (some (.ml (xs++ys))))
end
end L2.VL
namespace L2.ZP
section
variable{prog:Fo}{w:Gc}{A:Gh}{E:EX->EZ->Prop}{s:EZ}{it a:Addr}{k:Nat}{xs:Array EX}{v:EX}
theorem sN(st:s.heap.IsTupleIter it a k)(tu:s.heap.IsTuple a xs)(e:xs[k]?=some v)
 (q:∀g,g.IsTupleIter it a (k+1)->G7 it s.heap g->Q v {s with heap:=g}):Fm (FA prog w) A (FR (.ref it)) Q E s:=by
 have ty:=st.typeIs;obtain⟨o,oe,oc,od⟩:=st;obtain⟨l,le,_,_,ld⟩:=tu;unfold FR;have sl:=F.slot_tuple_iterator_next;refine EU (FQ (name:=FT "__next__") ty sl (GD sl ty F.entry_tuple_iterator_next ?_ (F.args_tuple_iterator_next_1 _)));show Fm _ _ (do let z <- field (.ref it) 0;_) _ _ s;refine EU (Gz oe od (x:=.ref a) rfl ?_);show Fm _ _ (ite ((Ge a==Hf)=true) _ _) _ _ s;rw[if_neg (show ¬(Ge a == .none)=true by intro z;cases z)];show Fm _ _ (do let z <- field (.ref it) 1;_) _ _ s;refine EU (Gz oe od (x:=.int k 0) rfl ?_);show Fm _ _ (do let z <- seqItems? (.ref a);_) _ _ s;refine EU (Hl le ld ?_);simp only[GX,e];refine EU (Jy oe od (by simp) (EW ⟨v,rfl,EW (q _ ?_ (Ia ..))⟩));refine⟨_,IB _ oe (Kv (Io od _)),?_,?_⟩
 · exact(Obj.cls_mapFields ..).trans oc
 · rw[Io od];simp[KQ]
theorem vJ(hd:A.handled=none)(st:s.heap.IsTupleIter it a k)(tu:s.heap.IsTuple a xs)(e:xs[k]?=none)
 (q:∀g x,LR it s.heap g->(∃o,g.get? x=some o/\o.cls = .type "StopIteration")->E (.ref x) {s with heap:=g}):Fm (FA prog w) A (FR (.ref it)) Q E s:=by
 have ty:=st.typeIs;obtain⟨o,oe,oc,od⟩:=st;obtain⟨l,le,_,_,ld⟩:=tu;unfold FR;have sl:=F.slot_tuple_iterator_next;refine EU (FQ (name:=FT "__next__") ty sl (GD sl ty F.entry_tuple_iterator_next ?_ (F.args_tuple_iterator_next_1 _)));show Fm _ _ (do let z <- field (.ref it) 0;_) _ _ s;refine EU (Gz oe od (x:=.ref a) rfl ?_);show Fm _ _ (ite ((Ge a==Hf)=true) _ _) _ _ s;rw[if_neg (show ¬(Ge a == .none)=true by intro z;cases z)];show Fm _ _ (do let z <- field (.ref it) 1;_) _ _ s;refine EU (Gz oe od (x:=.int k 0) rfl ?_);show Fm _ _ (do let z <- seqItems? (.ref a);_) _ _ s;refine EU (Hl le ld ?_);simp only[GX,e];refine EU (Iu (EU (Jy oe od (by simp) ?_)));show Fm _ _ (do let z <- newExc (.type "StopIteration") [];_) _ _ _;refine EU ?_;simp only[newExc,newTuple];refine EU (FB ?_ (by size_fits));refine EU (m:=Jz _ _) (JX (a:=.none) (by first|rfl|(simp only[Jz];rfl)) (FB ?_ (by size_fits)));simp only[raiseNew];refine EU (wpAny_handled ?_)
 first
  | rw[show A.in1.handled=none from hd]
  | rw[hd]
 refine EU (EW (wpAny_throw ?_));exact q _ _ (((Ia ..).extBut.push _).push _) ⟨_,Fa _ rfl,rfl⟩
end
noncomputable def Ez(h:Heap)(it a:Addr)(xs:Array EX)(k:Nat):Prop:=(h.IsListIter it a k/\h.IsList a xs)\/(h.IsTupleIter it a k/\h.IsTuple a xs)
section
variable{prog:Fo}{w:Gc}{A:Gh}{E:EX->EZ->Prop}{s:EZ}{it a:Addr}{k:Nat}{xs:Array EX}{v:EX}
theorem Ez.item(st:Ez s.heap it a xs k)(ne:a≠it)(e:xs[k]?=some v)
 (q:∀g,Ez g it a xs (k+1)->G7 it s.heap g->Q v {s with heap:=g}):Fm (FA prog w) A (FR (.ref it)) Q E s:=by
 rcases st with⟨h1,h2⟩|⟨h1,h2⟩
 · exact wpAny_nextOf_list_item h1 h2 e fun g h3 h4=>q g (.inl ⟨h3,h2.extBut h4.extBut ne⟩) h4
 · exact sN h1 h2 e fun g h3 h4=>q g (.inr ⟨h3,h2.extBut h4.extBut ne⟩) h4
theorem Ez.fin(hd:A.handled=none)(st:Ez s.heap it a xs k)(e:xs[k]?=none)
 (q:∀g x,LR it s.heap g->(∃o,g.get? x=some o/\o.cls = .type "StopIteration")->E (.ref x) {s with heap:=g}):Fm (FA prog w) A (FR (.ref it)) Q E s:=by
 rcases st with⟨h1,h2⟩|⟨h1,h2⟩
 · exact wpAny_nextOf_list_end hd h1 h2 e q
 · exact vJ hd h1 h2 e q
theorem Ez.keep(st:Ez h it a xs k)(e1:∀o,h.get? it=some o->h'.get? it=some o)(e2:∀o,h.get? a=some o->h'.get? a=some o):Ez h' it a xs k:=by
 rcases st with⟨⟨o,h1,r1⟩,⟨p,h2,r2⟩⟩|⟨⟨o,h1,r1⟩,⟨p,h2,r2⟩⟩
 · exact .inl ⟨⟨o,e1 _ h1,r1⟩,⟨p,e2 _ h2,r2⟩⟩
 · exact .inr ⟨⟨o,e1 _ h1,r1⟩,⟨p,e2 _ h2,r2⟩⟩
end
section
variable{prog:Fo}{w:Gc}{A:Gh}{E:EX->EZ->Prop}{s:EZ}{z ti to i1 i2 a1 a2:Addr}{k1 k2:Nat}{xs ys:Array EX}{x y p q:EX}
theorem SameBut.keep(sb:G7 a h h')(ne:b≠a):∀o,h.get? b=some o->h'.get? b=some o:=fun o e=>sb.extBut _ _ ne e
theorem rQ(D:ZipApart z ti to i1 i2 a1 a2)(oz:Lu s.heap z ti to .none)(oi:Jh s.heap ti (.ref i1) (.ref i2))(oo:Jh s.heap to p q)
 (s1:Ez s.heap i1 a1 xs k1)(s2:Ez s.heap i2 a2 ys k2)(ex:xs[k1]?=some x)(ey:ys[k2]?=some y)
 (done:∀g,Lu g z ti to (KQ s.heap.objs.size)->Jh g to x y->Ez g i1 a1 xs (k1+1)->Ez g i2 a2 ys (k2+1)->Jh g s.heap.objs.size x y->g.objs.size=s.heap.objs.size+1 ->
  (∀b o,b≠z->b≠to->b≠i1->b≠i2->s.heap.get? b=some o->g.get? b=some o)->Q (.ref s.heap.objs.size) {s with heap:=g}) :
 Fm (FA prog w) A (Builtin.«zip.__next__» ⟨[.ref z],[]⟩) (fun r s'=>∃u,r = .done (.ret u)/\Q u s') E s:=by
 show Fm _ _ (do let c <- field (.ref z) 2;_) _ _ _;refine EU (Gz oz rfl (x:=.bool false) rfl ?_);show Fm _ _ (do let c <- field (.ref z) 3;_) _ _ _;refine EU (Gz oz rfl (x:=.ref ti) rfl ?_);refine EU (Hl oi rfl ?_);show Fm _ _ (do let c <- GL (.ref z);_) _ _ _;refine EU ?_;unfold GL;refine EU (Gz oz rfl (x:=Hf) rfl (EW ?_));simp only[if_true];refine EU (Iu (EU (Gz oz rfl (x:=.ref to) rfl (EU (Hj oz (by simp) fun g1 z1 b1=>?_)))));have z1:Lu g1 z ti to .ellipsis:=z1;refine EU ?_;simp only[Il,List.forIn_nil,List.zipIdx_cons,List.zipIdx_nil];have s1a:Ez g1 i1 a1 xs k1:=s1.keep (SameBut.keep b1 D.i1z) (SameBut.keep b1 D.l1z);refine EU (EU (JY ?_));show Fm _ _ (do let c <- FR (.ref i1);_) _ _ _;refine EU (s1a.item D.l1i1 ex fun g2 s1b b2=>EW ?_);have o2:Jh g2 to p q:=b2.extBut _ _ D.TOi1 (b1.extBut _ _ D.TOz oo);refine EU (Hl o2 rfl (EU (IT o2 fun g3 o3 b3=>?_)));have o3:Jh g3 to x q:=o3;refine EU (LS (EW ?_));have s2a:Ez g3 i2 a2 ys k2:=((s2.keep (SameBut.keep b1 D.i2z) (SameBut.keep b1 D.l2z)).keep (SameBut.keep b2 D.i12.symm) (SameBut.keep b2 D.l2i1)).keep (SameBut.keep b3 D.TOi2.symm) (SameBut.keep b3 D.l2TO);refine EU (EU (JY ?_));show Fm _ _ (do let c <- FR (.ref i2);_) _ _ _;refine EU (s2a.item D.l2i2 ey fun g4 s2b b4=>EW ?_);have o4:Jh g4 to x q:=b4.extBut _ _ D.TOi2 o3;refine EU (Hl o4 rfl (EU (IT o4 fun g5 o5 b5=>?_)));have o5:Jh g5 to x y:=o5;refine EU (LS (EW (EW ?_)));refine EU (Hl o5 rfl (EU (wpAny_newTuple ?_)));have size:g5.objs.size=s.heap.objs.size:=by rw[b5.1,b4.1,b3.1,b2.1,b1.1]
 have z5:Lu g5 z ti to .ellipsis:=b5.extBut _ _ D.TOz.symm (b4.extBut _ _ D.i2z.symm (b3.extBut _ _ D.TOz.symm (b2.extBut _ _ D.i1z.symm z1)));have kp:∀b o,b≠z->b≠to->b≠i1->b≠i2->s.heap.get? b=some o->g5.get? b=some o:=fun b o n1 n2 n3 n4 e=>b5.extBut _ _ n2 (b4.extBut _ _ n4 (b3.extBut _ _ n2 (b2.extBut _ _ n3 (b1.extBut _ _ n1 e))));have s1c:Ez g5 i1 a1 xs (k1+1):=((s1b.keep (SameBut.keep b3 D.TOi1.symm) (SameBut.keep b3 D.l1TO)).keep (SameBut.keep b4 D.i12) (SameBut.keep b4 D.l1i2)).keep (SameBut.keep b5 D.TOi1.symm) (SameBut.keep b5 D.l1TO);have s2c:Ez g5 i2 a2 ys (k2+1):=s2b.keep (SameBut.keep b5 D.TOi2.symm) (SameBut.keep b5 D.l2TO);have zl:z<g5.objs.size:=E8 z5;show Fm _ _ (do HY (.ref z) (.ref g5.objs.size);_) _ _ _;refine EU ?_;unfold HY;have z6:Lu (g5.push {cls:=.type "tuple", data:=.seq #[x,y]}) z ti to .ellipsis:=EY _ z5;refine EU (Hj z6 (by simp) fun g7 z7 b7=>?_);have z7:Lu g7 z ti to (KQ g5.objs.size):=z7;refine Hj z7 (by simp) fun g8 z8 b8=>?_;have z8:Lu g8 z ti to (KQ g5.objs.size):=z8;have up:∀b o,b≠z->g5.get? b=some o->g8.get? b=some o:=fun b o n e=>b8.extBut _ _ n (b7.extBut _ _ n (EY _ e));have t8:Jh g8 g5.objs.size x y:=b8.extBut _ _ (Km zl) (b7.extBut _ _ (Km zl) (Fa _ rfl));have l8:g8.objs.size=g5.objs.size+1:=by rw[b8.1,b7.1,GY]
 rw[size]at z8 t8 l8;refine EW ⟨_,rfl,?_⟩;show Q (.ref g5.objs.size) _;rw[size];exact done g8 z8 (up _ _ D.TOz o5) (s1c.keep (fun o e=>up _ o D.i1z e) fun o e=>up _ o D.l1z e) (s2c.keep (fun o e=>up _ o D.i2z e) fun o e=>up _ o D.l2z e) t8 l8 fun b o n1 n2 n3 n4 e=>up b o n1 (kp b o n1 n2 n3 n4 e)
theorem uM{Q:Fin->EZ->Prop}(hd:A.handled=none)(D:ZipApart z ti to i1 i2 a1 a2)(oz:Lu s.heap z ti to .none)(oi:Jh s.heap ti (.ref i1) (.ref i2))(oo:Jh s.heap to p q)
 (s1:Ez s.heap i1 a1 xs k1)(s2:Ez s.heap i2 a2 ys k2)(e:xs[k1]?=none\/ys[k2]?=none)
 (q':∀g x,(∀b o,b≠z->b≠to->b≠i1->b≠i2->s.heap.get? b=some o->g.get? b=some o)->(∃o,g.get? x=some o/\o.cls = .type "StopIteration")->E (.ref x) {s with heap:=g}) :
 Fm (FA prog w) A (Builtin.«zip.__next__» ⟨[.ref z],[]⟩) Q E s:=by
 show Fm _ _ (do let c <- field (.ref z) 2;_) _ _ _;refine EU (Gz oz rfl (x:=.bool false) rfl ?_);show Fm _ _ (do let c <- field (.ref z) 3;_) _ _ _;refine EU (Gz oz rfl (x:=.ref ti) rfl ?_);refine EU (Hl oi rfl ?_);show Fm _ _ (do let c <- GL (.ref z);_) _ _ _;refine EU ?_;unfold GL;refine EU (Gz oz rfl (x:=Hf) rfl (EW ?_));simp only[if_true];refine EU (Iu (EU (Gz oz rfl (x:=.ref to) rfl (EU (Hj oz (by simp) fun g1 z1 b1=>?_)))));have z1:Lu g1 z ti to .ellipsis:=z1;refine EU ?_;simp only[Il,List.forIn_nil,List.zipIdx_cons,List.zipIdx_nil];have s1a:Ez g1 i1 a1 xs k1:=s1.keep (SameBut.keep b1 D.i1z) (SameBut.keep b1 D.l1z);refine EU (EU (JY ?_));show Fm _ _ (do let c <- FR (.ref i1);_) _ _ _
 have last:∀(g g':Heap)(u:Addr)(o:Obj),g.get? u=some o->o.cls = .type "StopIteration" -> Lu g z ti to .ellipsis->G7 z g g'->∃o,g'.get? u=some o/\o.cls = .type "StopIteration" := fun g g' u o h1 h2 h3 sb=>by
  have ne:u≠z:=fun c=>by rw[c,h3]at h1;cases h1;simp at h2
  exact⟨o,sb.extBut _ _ ne h1,h2⟩
 cases ex:xs[k1]? with
 | none =>
   refine EU (s1a.fin hd ex fun g2 u b2 ⟨o,ou,oc⟩=>?_);have z2:Lu g2 z ti to .ellipsis:=b2 _ _ D.i1z.symm z1
   exact Hj z2 (by simp) fun g3 _ b3=>q' g3 u (fun b o n1 _ n3 _ e=>b3.extBut _ _ n1 (b2 _ _ n3 (b1.extBut _ _ n1 e))) (last g2 g3 u o ou oc z2 b3)
 | some x =>
   have ey:ys[k2]?=none:=e.elim (fun h=>by rw[ex]at h;cases h) id;refine EU (s1a.item D.l1i1 ex fun g2 s1b b2=>EW ?_);have o2:Jh g2 to p q:=b2.extBut _ _ D.TOi1 (b1.extBut _ _ D.TOz oo);refine EU (Hl o2 rfl (EU (IT o2 fun g3 o3 b3=>?_)));refine EU (LS (EW ?_));have s2a:Ez g3 i2 a2 ys k2:=((s2.keep (SameBut.keep b1 D.i2z) (SameBut.keep b1 D.l2z)).keep (SameBut.keep b2 D.i12.symm) (SameBut.keep b2 D.l2i1)).keep (SameBut.keep b3 D.TOi2.symm) (SameBut.keep b3 D.l2TO);refine EU (EU (JY ?_));show Fm _ _ (do let c <- FR (.ref i2);_) _ _ _;refine EU (s2a.fin hd ey fun g4 u b4 ⟨o,ou,oc⟩=>?_);have z4:Lu g4 z ti to .ellipsis:=b4 _ _ D.i2z.symm (b3.extBut _ _ D.TOz.symm (b2.extBut _ _ D.i1z.symm z1));exact Hj z4 (by simp) fun g5 _ b5=>q' g5 u (fun b o n1 n2 n3 n4 e=>b5.extBut _ _ n1 (b4 _ _ n4 (b3.extBut _ _ n2 (b2.extBut _ _ n3 (b1.extBut _ _ n1 e))))) (last g4 g5 u o ou oc z4 b5)
end
noncomputable def D3(b:Bool)(h:Heap)(a:Addr)(xs:Array EX):Prop:=bif b then h.IsTuple a xs else h.IsList a xs
noncomputable def Dq(b:Bool):String:=bif b then "tuple_iterator" else "list_iterator"
theorem D3.push{b:Bool}{h:Heap}{a:Addr}{xs:Array EX}(q:D3 b h a xs)(o:Obj):D3 b (h.push o) a xs:=by
 cases b with
 | true=>exact Heap.IsTuple.push q o
 | false=>exact Heap.IsList.push q o
section
variable{prog:Fo}{w:Gc}{A:Gh}{E:EX->EZ->Prop}{s:EZ}{b b1 b2:Bool}{a a1 a2:Addr}{xs ys:Array EX}
theorem xg(st:D3 b s.heap a xs)(q:Q (.ref s.heap.objs.size) {s with heap:=s.heap.push {cls:=.type (Dq b),data:=.fields #[.ref a,.int 0 0]}}):Fm (FA prog w) A (Lw (.ref a)) Q E s:=by
 cases b with
 | true=>exact wpAny_pyIter_tuple st q
 | false=>exact Iv st q
abbrev y1(h:Heap)(b1:Bool)(a1:Addr):Heap:=h.push {cls:=.type (Dq b1),data:=.fields #[.ref a1,.int 0 0]}
abbrev y2(h:Heap)(b1 b2:Bool)(a1 a2:Addr):Heap:=(y1 h b1 a1).push {cls:=.type (Dq b2),data:=.fields #[.ref a2,.int 0 0]}
abbrev y3(h:Heap)(b1 b2:Bool)(a1 a2:Addr):Heap:=(y2 h b1 b2 a1 a2).push {cls:=.type "tuple", data:=.seq #[.ref h.objs.size,.ref (y1 h b1 a1).objs.size]}
abbrev y4(h:Heap)(b1 b2:Bool)(a1 a2:Addr):Heap:=(y3 h b1 b2 a1 a2).push {cls:=.type "tuple", data:=.seq #[.none,.none]}
abbrev y5(h:Heap)(b1 b2:Bool)(a1 a2:Addr):Heap:=(y4 h b1 b2 a1 a2).push {cls:=.type "zip", data:=.fields #[.none,.bool false,.bool false,.ref (y2 h b1 b2 a1 a2).objs.size,.ref (y3 h b1 b2 a1 a2).objs.size]}
theorem rR(b1 b2:Bool)(a1 a2:Addr)(xs ys:Array EX) :
 Meets (Builtin.«zip.__new__» ⟨[.type "zip", .ref a1,.ref a2],[]⟩) (fun _ R s=>D3 b1 s.heap a1 xs/\D3 b2 s.heap a2 ys/\R (.ok (.ret (.ref (y4 s.heap b1 b2 a1 a2).objs.size))) {s with heap:=y5 s.heap b1 b2 a1 a2}) :=
 .of_wp fun prog w A R s h=>by
  obtain⟨hp,g,d,tk,os⟩:=s;obtain⟨q1,q2,h⟩:=h;have hsub:=sub_zip;have k1:D3 b1 (EZ.heap ⟨hp,g,d,tk,os⟩) a1 xs:=q1;have k2:D3 b2 (EZ.heap ⟨hp.push {cls:=.type (Dq b1),data:=.fields #[.ref a1,.int 0 0]},g,d,tk,os⟩) a2 ys:=q2.push _
  wp_walk using xg k1,xg k2
  exact⟨_,rfl,h⟩
theorem qF(q1:D3 b1 s.heap a1 xs)(q2:D3 b2 s.heap a2 ys)
 (k:∀g,Lu g (s.heap.objs.size+4) (s.heap.objs.size+2) (s.heap.objs.size+3) .none->Jh g (s.heap.objs.size+2) (.ref s.heap.objs.size) (.ref (s.heap.objs.size+1))->Jh g (s.heap.objs.size+3) .none .none ->
  Ez g s.heap.objs.size a1 xs 0->Ez g (s.heap.objs.size+1) a2 ys 0->g.objs.size=s.heap.objs.size+5->(∀c o,s.heap.get? c=some o->g.get? c=some o)->Q (.ref (s.heap.objs.size+4)) {s with heap:=g}) :
 Fm (FA prog w) A (call (.type "zip") [.ref a1,.ref a2]) Q E s:=by
 refine callType_new F.called_zip (by decide) (F.typeCall_zip_2 _ _) (F.newCall_zip_2 _ _) (fun u=>F.args_object_init_3 u _ _) F.entry_zip_new (rR b1 b2 a1 a2 xs ys) ⟨q1,q2,?_⟩;have n1:(y1 s.heap b1 a1).objs.size=s.heap.objs.size+1:=GY ..;have n2:(y2 s.heap b1 b2 a1 a2).objs.size=s.heap.objs.size+2:=by rw[GY,n1]
 have n3:(y3 s.heap b1 b2 a1 a2).objs.size=s.heap.objs.size+3:=by rw[GY,n2]
 have n4:(y4 s.heap b1 b2 a1 a2).objs.size=s.heap.objs.size+4:=by rw[GY,n3]
 have n5:(y5 s.heap b1 b2 a1 a2).objs.size=s.heap.objs.size+5:=by rw[GY,n4]
 have pu:∀{h:Heap}{o u:Obj}{c:Addr},h.get? c=some u->(h.push o).get? c=some u:=fun e=>EY _ e;have kp:∀c o,s.heap.get? c=some o->(y5 s.heap b1 b2 a1 a2).get? c=some o:=fun c o e=>pu (pu (pu (pu (pu e))));have f5:(y5 s.heap b1 b2 a1 a2).get? (y4 s.heap b1 b2 a1 a2).objs.size=some _:=Fa _ rfl;have f4:(y5 s.heap b1 b2 a1 a2).get? (y3 s.heap b1 b2 a1 a2).objs.size=some _:=pu (Fa _ rfl);have f3:(y5 s.heap b1 b2 a1 a2).get? (y2 s.heap b1 b2 a1 a2).objs.size=some _:=pu (pu (Fa _ rfl));have f2:(y5 s.heap b1 b2 a1 a2).get? (y1 s.heap b1 a1).objs.size=some _:=pu (pu (pu (Fa _ rfl)));have f1:(y5 s.heap b1 b2 a1 a2).get? s.heap.objs.size=some _:=pu (pu (pu (pu (Fa _ rfl))));show _/\_;rw[n2,n3,n4]at f5;rw[n1,n2]at f3;rw[n3]at f4;rw[n1]at f2;rw[n4]
 have mk:∀{b:Bool}{i a:Addr}{zs:Array EX},(y5 s.heap b1 b2 a1 a2).get? i=some {cls:=.type (Dq b),data:=.fields #[.ref a,.int 0 0]}->D3 b s.heap a zs->Ez (y5 s.heap b1 b2 a1 a2) i a zs 0:=fun{b i a zs} e q=>by
  cases b with
  | true=>obtain⟨o,h1,h2⟩:=(show s.heap.IsTuple a zs from q);exact .inr ⟨⟨_,e,rfl,rfl⟩,⟨o,kp _ _ h1,h2⟩⟩
  | false=>obtain⟨o,h1,h2⟩:=(show s.heap.IsList a zs from q);exact .inl ⟨⟨_,e,rfl,rfl⟩,⟨o,kp _ _ h1,h2⟩⟩
 exact⟨⟨_,f5,rfl⟩,k _ f5 f3 f4 (mk f1 q1) (mk f2 q2) n5 kp⟩
end
end L2.ZP
namespace L2
open PySem PySem.Spec PyProof.Rows L2.ZP
theorem Inv.turnedL{ch:List Addr}(I:Inv X pins σ H s)(k:∀b o,b∉ch->s.heap.get? b=some o->h'.get? b=some o)(hn:∀b∈ch,j6 X pins H b) :
 Inv X pins σ H {s with heap:=h',toks:=t' }:=by
 have nit:∀b u,H b=some u->b∉ch:=fun b u e z=>by rw[(hn b z).1]at e;cases e
 refine I.step (g':=s.gens) (d':=s.drawn) (ch:=ch) (fun b hb=>?_) (fun b o _ _ hc e _=>k b o hc e) (fun b o _ _ hc e _=>⟨o.slots,k b o hc e⟩) (fun _ _ _ _ n=>n) (fun b o hc e=>⟨o,k b o hc e⟩) (fun _ _ e=>e) (fun _ _ _ e=>e) (fun b ps e=>⟨#[],by rw[e];simp⟩) (fun m hm=>?_) (fun b u e=>?_) I.bare
 · obtain⟨_,h2,_,h4,h5,h6⟩:=hn b hb;exact⟨h4,h2,h5,h6⟩
 · obtain⟨o,es,ep,ho,r⟩:=hm;exact⟨o,es,ep,k _ o (fun z=>(hn _ z).2.1 rfl) ho,r⟩
 · refine(I.hok b u e).stay (fun c v hc q=>k c v ?_ q) (fun _ q=>q) fun _ _ q=>q;rcases hc with z|z
   · rw[z];exact nit b u e
   · exact nit c _ z
noncomputable def D2(b:Bool)(K:W.Frag)(H:Hp)(a:Addr)(xs:List V):Prop:=bif b then D0 K H a xs else D1 K H a xs
theorem Inv.sqB{b:Bool}{xs:List V}(I:Inv X pins σ H s)(h:D2 b X.K H a xs):∃its,cE xs its/\D3 b s.heap a its.toArray:=by
 cases b with
 | true =>
   obtain⟨its,r,t,z⟩:=I.tuple h
   exact⟨its,r,t⟩
 | false =>
   obtain⟨its,r,p,z⟩:=I.list h;exact⟨its,r,p.isList⟩
theorem Inv.sqB_inj{b:Bool}{xs ys:List V}(I:Inv X pins σ H s)(h:D2 b X.K H a xs)(h':D2 b X.K H a ys):xs=ys:=by
 cases b with
 | true=>exact I.tuple_inj h h'
 | false=>exact I.list_inj h h'
noncomputable def Eu(K:W.Frag)(b1 b2:Bool)(a1 a2:Addr):It :=
 ⟨fun i H=>∃xs ys x y,D2 b1 K H a1 xs/\D2 b2 K H a2 ys/\xs[i]?=some x/\ys[i]?=some y,
  fun i H v H'=>∃x y p,(∀xs,D2 b1 K H a1 xs->xs[i]?=some x)/\(∀ys,D2 b2 K H a2 ys->ys[i]?=some y)/\H p=none/\v = .ref p/\H'=Co H p (.tup [x,y]),
  fun i H=>∃xs ys,D2 b1 K H a1 xs/\D2 b2 K H a2 ys/\(xs.length<=i\/ys.length<=i)⟩
noncomputable def EA(b:Bool)(h:Heap)(it a:Addr)(k:Nat):Prop:=bif b then h.IsTupleIter it a k else h.IsListIter it a k
theorem EA.it1{b:Bool}{k:Nat}{xs:Array EX}(q:EA b h it a k)(r:D3 b h a xs):Ez h it a xs k:=by
 cases b with
 | true=>exact .inr ⟨q,r⟩
 | false=>exact .inl ⟨q,r⟩
theorem EA.keep{b:Bool}{k:Nat}(q:EA b h it a k)(e:∀o,h.get? it=some o->h'.get? it=some o):EA b h' it a k:=by
 cases b with
 | true=>obtain⟨o,h1,r⟩:=(show h.IsTupleIter it a k from q);exact⟨o,e _ h1,r⟩
 | false=>obtain⟨o,h1,r⟩:=(show h.IsListIter it a k from q);exact⟨o,e _ h1,r⟩
theorem EA.obj{b:Bool}{k:Nat}(q:EA b h it a k):∃o,h.get? it=some o/\∀v,o.data ≠ .cell v:=by
 cases b with
 | true=>obtain⟨o,h1,_,d⟩:=(show h.IsTupleIter it a k from q);exact⟨o,h1,fun v z=>by rw[d]at z;cases z⟩
 | false=>obtain⟨o,h1,_,d⟩:=(show h.IsListIter it a k from q);exact⟨o,h1,fun v z=>by rw[d]at z;cases z⟩
theorem Ez.ir{b:Bool}{k:Nat}{xs:Array EX}{h0:Heap}(q:Ez h it a xs k)(r:EA b h0 it a j)(s:D3 b h a xs):EA b h it a k:=by
 cases b with
 | true =>
   rcases q with⟨_,⟨o,e,c,_⟩⟩|⟨q,_⟩
   · obtain⟨o',e',c',_⟩:=(show h.IsTuple a xs from s);rw[e]at e';cases e';rw[c]at c';injection c' with z;exact absurd z (by decide)
   · exact q
 | false =>
   rcases q with⟨q,_⟩|⟨_,⟨o,e,c,_⟩⟩
   · exact q
   · obtain⟨o',e',c',_⟩:=(show h.IsList a xs from s);rw[e]at e';cases e';rw[c]at c';injection c' with z;exact absurd z (by decide)
noncomputable def ZS(b1 b2:Bool)(z ti to i1 i2 a1 a2:Addr)(i:Nat)(h:Heap):Prop:=Lu h z ti to .none/\Jh h ti (.ref i1) (.ref i2)/\(∃p q,Jh h to p q)/\EA b1 h i1 a1 i/\EA b2 h i2 a2 i
theorem D3.of{b:Bool}{xs:Array EX}(q:D3 b h a xs)(e:∀o,h.get? a=some o->h'.get? a=some o):D3 b h' a xs:=by
 cases b with
 | true=>obtain⟨o,h1,r⟩:=(show h.IsTuple a xs from q);exact⟨o,e _ h1,r⟩
 | false=>obtain⟨o,h1,r⟩:=(show h.IsList a xs from q);exact⟨o,e _ h1,r⟩
theorem pD{K:W.Frag}{elts:List Expr}{kt:Nat}{pt:Pos}(b1 b2:Bool)(z ti to i1 i2 a1 a2:Addr)(D:ZipApart z ti to i1 i2 a1 a2) :
 Turn P w K (.Tuple elts kt pt) (Eu K b1 b2 a1 a2) [z,ti,to,i1,i2] z (ZS b1 b2 z ti to i1 i2 a1 a2) where
 mem:=by simp
 obj:=fun i h ⟨h1,h2,⟨p,q,h3⟩,h4,h5⟩ b hb=>by
  simp at hb;rcases hb with rfl|rfl|rfl|rfl|rfl
  · exact⟨_,h1,fun v c=>by cases c⟩
  · exact⟨_,h2,fun v c=>by cases c⟩
  · exact⟨_,h3,fun v c=>by cases c⟩
  · exact h4.obj
  · exact h5.obj
 keep:=fun i h h' ⟨h1,h2,⟨p,q,h3⟩,h4,h5⟩ k=>⟨k z (by simp) _ h1,k ti (by simp) _ h2,⟨p,q,k to (by simp) _ h3⟩,h4.keep fun o e=>k i1 (by simp) o e,h5.keep fun o e=>k i2 (by simp) o e⟩
 item:=by
  intro X hP hw hK hc i pins s σ H E I hf st hg;subst hP hw hK;obtain⟨h1,h2,⟨p,q,h3⟩,h4,h5⟩:=st;obtain⟨xs,ys,x,y,q1,q2,ex,ey⟩:=hg;obtain⟨its,r1,t1⟩:=I.sqB q1;obtain⟨jts,r2,t2⟩:=I.sqB q2;obtain⟨u,hu,ru⟩:=r1.get ex;obtain⟨v,hv,rv⟩:=r2.get ey;have ty:s.TypeIs (.ref z) "zip" := ⟨_,h1,rfl⟩;unfold JE
  refine EU (JZ (FQ (name:=FT "__next__") ty F.slot_zip_next (GD F.slot_zip_next ty F.entry_zip_next
   (rQ D h1 h2 h3 (h4.it1 t1) (h5.it1 t2) (by simpa using hu) (by simpa using hv) fun g e1 e2 e3 e4 e5 e6 e7=>EW ?_) (F.args_zip_next_1 _))))
  have hz:s.heap.objs.size≠z:=Km (E8 h1);refine⟨.ref s.heap.objs.size,rfl,wpAny_letOwnedTupleGo_zip e1 fun g' f1 fb=>?_⟩;have hp:H s.heap.objs.size=none:=I.hok.fresh (E3 _)
  have I1:Inv X pins σ (Co H s.heap.objs.size (.tup [x,y])) {s with heap:=s.heap.push {cls:=.type "tuple", data:=.seq [u,v].toArray}} :=
   I.laid (t':=s.toks) (o:=.tup [x,y]) (fun b ob e=>EY _ e) (E3 _) ⟨(by show 2<=sizeLine;decide),[u,v],.cons ru (.cons rv .nil),pc.new _ _⟩
  have ne:∀b∈[z,ti,to,i1,i2],b≠s.heap.objs.size:=fun b hb e=>by
   simp at hb;rcases hb with rfl|rfl|rfl|rfl|rfl
   · exact hz e.symm
   · exact absurd (E8 h2) (by rw[e];exact GE _)
   · exact absurd (E8 h3) (by rw[e];exact GE _)
   · obtain⟨o,ho,_⟩:=h4.obj;exact absurd (E8 ho) (by rw[e];exact GE _)
   · obtain⟨o,ho,_⟩:=h5.obj;exact absurd (E8 ho) (by rw[e];exact GE _)
  have kg:∀b o,b∉[z,ti,to,i1,i2]->(s.heap.push {cls:=.type "tuple", data:=.seq [u,v].toArray}).get? b=some o->g'.get? b=some o:=fun b o hb e=>by
   simp at hb;obtain⟨n1,n2,n3,n4,n5⟩:=hb;refine fb.extBut _ _ n1 ?_;by_cases hbn:b=s.heap.objs.size
   · subst hbn;rw[Fa _ rfl]at e;cases e;exact e5
   · exact e7 b o n1 n3 n4 n5 (by rw[Heap.get?_push_ne _ _ _ hbn]at e;exact e)
  have fp1:∀b∈[z,ti,to,i1,i2],j6 X pins (Co H s.heap.objs.size (.tup [x,y])) b:=fun b hb=>by
   obtain⟨f0,fr⟩:=hf b hb;exact⟨by rw[ak (ne b hb)];exact f0,fr⟩
  have I2:Inv X pins σ (Co H s.heap.objs.size (.tup [x,y])) {s with heap:=g' }:=I1.turnedL (t':=s.toks) kg fp1;have k8:∀b o,b≠z->g.get? b=some o->g'.get? b=some o:=fun b o n e=>fb.extBut _ _ n e;have t1':D3 b1 g a1 its.toArray:=D3.of t1 fun o e=>e7 _ o D.l1z D.l1TO D.l1i1 D.l1i2 e;have t2':D3 b2 g a2 jts.toArray:=D3.of t2 fun o e=>e7 _ o D.l2z D.l2TO D.l2i1 D.l2i2 e;refine⟨.ref s.heap.objs.size,_,I2,rfl,⟨x,y,_,fun xs' q'=>by rw[I.sqB_inj q' q1];exact ex,fun ys' q'=>by rw[I.sqB_inj q' q2];exact ey,hp,rfl,rfl⟩,⟨f1,k8 _ _ D.TIz (e7 _ _ D.TIz D.TITO D.TIi1 D.TIi2 h2),⟨_,_,k8 _ _ D.TOz e2⟩,(Ez.ir e3 h4 t1').keep fun o e=>k8 _ o D.i1z e,(Ez.ir e4 h5 t2').keep fun o e=>k8 _ o D.i2z e⟩,fun b hb=>(fp1 b hb).1⟩
 done:=by
  intro X hP hw hK hc i pins s σ H E I hf st hg;subst hP hw hK;obtain⟨h1,h2,⟨p,q,h3⟩,h4,h5⟩:=st;obtain⟨xs,ys,q1,q2,ex⟩:=hg;obtain⟨its,r1,t1⟩:=I.sqB q1;obtain⟨jts,r2,t2⟩:=I.sqB q2;have l1:=r1.length;have l2:=r2.length;have ty:s.TypeIs (.ref z) "zip" := ⟨_,h1,rfl⟩;unfold JE
  refine EU (JZ (FQ (name:=FT "__next__") ty F.slot_zip_next (GD F.slot_zip_next ty F.entry_zip_next
   (uM (I.ok.hd hc) D h1 h2 h3 (h4.it1 t1) (h5.it1 t2) (by simp;omega) fun g e kg ⟨o,ho,hoc⟩=>?_) (F.args_zip_next_1 _))))
  refine EU (wpAny_isInstance (T := "StopIteration") (b:=true) ⟨o,ho,hoc⟩ isSubtype_stop (EW ⟨rfl,?_⟩));exact I.turnedL (t':=s.toks) (fun b o hb e=>by simp at hb;exact kg b o hb.1 hb.2.2.1 hb.2.2.2.1 hb.2.2.2.2 e) hf
 self:=fun _ _ _ _ _ st h=>wpAny_pyIter_zip st.1 h
open PySem PySem.Spec PyProof.Rows L2.ZP
section
variable{X:Cx}{e1 e2:Expr}{ta:TA}{elts:List Expr}{kt:Nat}{pt p pos:Pos}
noncomputable def BF(K:W.Frag)(b1 b2:Bool)(t:TA):TI:=fun σ H R=>t σ H fun vs H1=>∃a1 a2 xs ys,vs=[.ref a1,.ref a2]/\D2 b1 K H1 a1 xs/\D2 b2 K H1 a2 ys/\R (Eu K b1 b2 a1 a2) H1
theorem wz(b1 b2:Bool)(hg:Gl X "zip")(hm:X.mg "zip" = none)(ha:PA X [e1,e2] ta)(hs:autoParam (E4 [e1,e2] X.env=(false,eval e1 X.env)::E4 [e2] X.env) æa._auto_1)(hpl:autoParam ((GP pos (E4 [e2] X.env)).any (·.1)=false) æa._auto_1) :
 PI X (.Tuple elts kt pt) (.Call (.Name "zip" p) [e1,e2] [] pos) (BF X.K b1 b2 ta):=by
 intro pins s σ H R I h;refine Call_ (f_ I hg hm (by rfl) (Gy (Cy (ha pos pins s σ H _ I h) fun us s1 ⟨vs,H1,I1,r1,q1⟩=>?_) hs hpl) (by decide) (by decide));obtain⟨a1,a2,xs,ys,ev,q1,q2,q⟩:=q1;subst ev
 cases r1 with
 | cons r rr =>
   cases rr with
   | cons r' rr =>
     cases rr;cases r;cases r';obtain⟨its,v1,t1⟩:=I1.sqB q1;obtain⟨jts,v2,t2⟩:=I1.sqB q2;refine qF t1 t2 fun g f1 f2 f3 f4 f5 f6 kp=>wpAny_pyIter_zip f1 ?_
     have lt1:a1<s1.heap.objs.size/\a2<s1.heap.objs.size:=by
      constructor
      · cases b1 with
        | true=>obtain⟨o,ho,_⟩:=(show s1.heap.IsTuple a1 _ from t1);exact E8 ho
        | false=>obtain⟨o,ho,_⟩:=(show s1.heap.IsList a1 _ from t1);exact E8 ho
      · cases b2 with
        | true=>obtain⟨o,ho,_⟩:=(show s1.heap.IsTuple a2 _ from t2);exact E8 ho
        | false=>obtain⟨o,ho,_⟩:=(show s1.heap.IsList a2 _ from t2);exact E8 ho
     obtain⟨l1,l2⟩:=lt1;have ap:∀{n c:Nat},c<n->∀k:Nat,c≠n+k:=fun h k e=>by omega
     have D:ZipApart (s1.heap.objs.size+4) (s1.heap.objs.size+2) (s1.heap.objs.size+3) s1.heap.objs.size (s1.heap.objs.size+1) a1 a2:=by
      generalize hN:s1.heap.objs.size=N at l1 l2;exact⟨by simp,by simp,by simp,by simp,by simp,by simp,by simp,by simp,by simp,by simp,ap l1 4,ap l1 3,ap l1 0,ap l1 1,ap l2 4,ap l2 3,ap l2 0,ap l2 1⟩
     have kg:∀b o,s1.heap.get? b=some o->g.get? b=some o:=kp;have I2:Inv X pins σ H1 {s1 with heap:=g}:=I1.kept (t':=s1.toks) kg
     have ir:∀{b:Bool}{it a:Addr}{zs:Array EX},Ez g it a zs 0->D3 b s1.heap a zs->EA b g it a 0:=fun{b it a zs} q r=>by
      have r':=D3.of r fun o e=>kg _ o e
      cases b with
      | true =>
        rcases q with⟨_,⟨o,e,c,_⟩⟩|⟨q,_⟩
        · obtain⟨o',e',c',_⟩:=(show g.IsTuple a zs from r');rw[e]at e';cases e';rw[c]at c';injection c' with z;exact absurd z (by decide)
        · exact q
      | false =>
        rcases q with⟨q,_⟩|⟨_,⟨o,e,c,_⟩⟩
        · exact q
        · obtain⟨o',e',c',_⟩:=(show g.IsList a zs from r');rw[e]at e';cases e';rw[c]at c';injection c' with z;exact absurd z (by decide)
     refine⟨_,[s1.heap.objs.size+4,s1.heap.objs.size+2,s1.heap.objs.size+3,s1.heap.objs.size,s1.heap.objs.size+1],_,_,H1,rfl,I2,pD b1 b2 _ _ _ _ _ a1 a2 D,⟨f1,f2,⟨_,_,f3⟩,ir f4 t1,ir f5 t2⟩,fun b hb=>?_,q⟩
     have hb':s1.heap.objs.size<=b:=by
      simp at hb;rcases hb with rfl|rfl|rfl|rfl|rfl
      · exact IP _ 4
      · exact IP _ 2
      · exact IP _ 3
      · exact E3 _
      · exact IP _ 1
     exact I1.fpOk hb' (I1.hok.fresh hb')
end
end L2
namespace L2.VL
section
variable{X:Cx}{rl:RlT}{a b:Expr}{elts:List Expr}{kt:Nat}{pt p pos:Pos}{fs:DU}
noncomputable def lu(xs ys:List ET):List ET:=List.zipWith (fun x y=>.tuple [x,y]) xs ys
noncomputable def dA:ET->Bool
 | .tuple _=>true
 | _=>false
theorem qT{K:W.Frag}(r:Rep K F v d)(e:fq d=some xs):∃a vs,v = .ref a/\Reps K F vs xs/\∀H,bJ F H->D2 (dA d) K H a vs:=by
 cases r with
 | tup sq rs=>cases e;exact⟨_,_,rfl,rs,fun H s=>cA s sq⟩
 | lst h rs=>cases e;exact⟨_,_,rfl,rs,fun H s=>.inl (.inl (s _ _ h))⟩
 | non=>cases e
 | bl b=>cases e
 | int i=>cases e
 | str x=>cases e
theorem j7{ys:List ET}(h:(lu xs ys)[i]?=some d):∃x y,xs[i]?=some x/\ys[i]?=some y/\d = .tuple [x,y]:=by
 unfold lu at h;rw[List.getElem?_zipWith]at h
 cases ex:xs[i]? with
 | none=>rw[ex]at h;cases h
 | some x =>
   cases ey:ys[i]? with
   | none=>rw[ex,ey]at h;cases h
   | some y=>rw[ex,ey]at h;cases h;exact⟨x,y,rfl,rfl,rfl⟩
theorem uV(b1 b2:Bool)(hm:X.mg "zip" = none)(ha:D9 X rl [a,b] fs)(hg:autoParam (Gl X "zip") æa._auto_1)(hs:autoParam (E4 [a,b] X.env=(false,eval a X.env)::E4 [b] X.env) æa._auto_1)(hpl:autoParam ((GP pos (E4 [b] X.env)).any (·.1)=false) æa._auto_1) :
 Ef X rl (.Tuple elts kt pt) (.Call (.Name "zip" p) [a,b] [] pos) (fun ρ Q=>fs ρ fun ws=>∃dx dy xs ys,ws=[.d dx,.d dy]/\fq dx=some xs/\fq dy=some ys/\dA dx=b1/\dA dy=b2/\Q (lu xs ys)):=by
 obtain⟨t,p1,k⟩:=ha;refine⟨_,wz b1 b2 hg hm p1 hs hpl,fun R Qd Q q h=>k R _ _ q fun vs ws F1 H1 g1 r1 ⟨dx,dy,xs,ys,ew,e1,e2,kb1,kb2,q1⟩=>?_⟩;subst ew kb1 kb2;obtain⟨v,u,rfl,rv,ru⟩:=yT r1;obtain⟨a1,vs,rfl,rs,sq1⟩:=qT rv e1;obtain⟨a2,us,rfl,rt,sq2⟩:=qT ru e2;refine⟨a1,a2,vs,us,rfl,sq1 _ g1.sub,sq2 _ g1.sub,h _ (lu xs ys) F1 H1 g1 ⟨fun i H x e s=>?_,fun i H hl s=>?_,fun i H v H' x F2 e s s2 ra y=>?_⟩ q1⟩
 · obtain⟨x1,y1,ex,ey,_⟩:=j7 e;obtain⟨v1,ev1,_⟩:=rs.get ex;obtain⟨u1,eu1,_⟩:=rt.get ey;exact⟨vs,us,v1,u1,sq1 _ s,sq2 _ s,ev1,eu1⟩
 · refine⟨vs,us,sq1 _ s,sq2 _ s,?_⟩;unfold lu at hl;rw[List.length_zipWith]at hl;rw[rs.length,rt.length];omega
 · obtain⟨x1,y1,ex,ey,ed⟩:=j7 e;obtain⟨vx,vy,pp,hx,hy,hp,ev,eH⟩:=y;obtain⟨v1,ev1,rv1⟩:=rs.get ex;obtain⟨u1,eu1,ru1⟩:=rt.get ey;have h1:=hx vs (sq1 _ (s.trans s2));have h2:=hy us (sq2 _ (s.trans s2));rw[ev1]at h1;rw[eu1]at h2;cases h1;cases h2;subst ev eH ed;have g:=Grow.data (a:=pp) (o:=.tup [vx,vy]) s2 ra hp;exact⟨_,g,.tup (.inl (.inl ar)) (.cons ((rv1.mono s).mono g.fs) (.cons ((ru1.mono s).mono g.fs) .nil))⟩
noncomputable def Du(b1 b2:Bool)(fs:DU):En->(List ET->Prop)->Prop:=fun ρ Q=>fs ρ fun ws=>∃dx dy xs ys,ws=[.d dx,.d dy]/\fq dx=some xs/\fq dy=some ys/\dA dx=b1/\dA dy=b2/\Q (lu xs ys)
theorem ke(hm:X.mg "zip" = none)(ha:D9 X rl [a,b] fs)(hg:autoParam (Gl X "zip") æa._auto_1)(hs:autoParam (E4 [a,b] X.env=(false,eval a X.env)::E4 [b] X.env) æa._auto_1)(hpl:autoParam ((GP pos (E4 [b] X.env)).any (·.1)=false) æa._auto_1) :
 Ef X rl (.Tuple elts kt pt) (.Call (.Name "zip" p) [a,b] [] pos) (Du true true fs):=uV true true hm ha hg hs hpl
end
theorem nr{α:Sort u}{a b:α}(h:a=b):a=b:=h
abbrev Mo(α:Type):=(α->Prop)->Prop
noncomputable def ret{α:Type}(a:α):Mo α:=fun Q=>Q a
noncomputable def DK{α β:Type}(m:Mo α)(f:α->Mo β):Mo β:=fun Q=>m fun a=>f a Q
noncomputable def Dy{α:Type}(P:Prop)(m:Mo α):Mo α:=fun Q=>P/\m Q
noncomputable def stk{α:Type}:Mo α:=fun _=>False
noncomputable def anyM{α:Type}(P:α->Prop):Mo α:=fun Q=>∀a,P a->Q a
noncomputable def aC{α β:Type}(o:Option α)(f:α->Mo β):Mo β:=match o with
 | some a=>f a
 | none=>stk
section
variable{α β γ:Type}
theorem bnd_ret(a:α)(f:α->Mo β):DK (ret a) f=f a:=nr rfl
theorem bnd_bnd(m:Mo α)(f:α->Mo β)(g:β->Mo γ):DK (DK m f) g=DK m fun a=>DK (f a) g:=nr rfl
theorem bnd_grd(P:Prop)(m:Mo α)(f:α->Mo β):DK (Dy P m) f=Dy P (DK m f):=nr rfl
theorem bnd_stk(f:α->Mo β):DK stk f=stk:=nr rfl
theorem bnd_ite(c:Prop)[Decidable c](a b:Mo α)(f:α->Mo β):DK (if c then a else b) f=if c then DK a f else DK b f:=by split<;>rfl
theorem bnd_opt(o:Option α)(k:α->Mo β)(f:β->Mo γ):DK (aC o k) f=aC o fun a=>DK (k a) f:=by cases o<;>rfl
theorem opt_some(a:α)(k:α->Mo β):aC (some a) k=k a:=nr rfl
theorem opt_none(k:α->Mo β):aC none k=stk:=nr rfl
theorem aj{P:Prop}(h:P)(m:Mo α):Dy P m=m:=by funext Q;exact propext ⟨fun z=>z.2,fun z=>⟨h,z⟩⟩
theorem grd_T(m:Mo α):Dy True m=m:=aj trivial m
theorem e8(c:Prop)[Decidable c](a b:Mo α)(Q:α->Prop):(if c then a else b) Q=if c then a Q else b Q:=by split<;>rfl
theorem ag{m n:Mo α}(h:∀Q,m Q↔n Q):m=n:=funext fun Q=>propext (h Q)
end
noncomputable def asI:W->Option Int
 | .d (.int i)=>some i
 | _=>none
noncomputable def asB:W->Option Bool
 | .d (.bool b)=>some b
 | _=>none
noncomputable def asS:W->Option Str
 | .d (.str b)=>some b
 | _=>none
noncomputable def asD:W->Option ET
 | .d x=>some x
 | _=>none
noncomputable def lstD:ET->Option (List ET)
 | .list xs=>some xs
 | _=>none
noncomputable def tupD:ET->Option (List ET)
 | .tuple xs=>some xs
 | _=>none
noncomputable def DP(w:W):Option (List ET):=w.dat.bind lstD
noncomputable def DM(w:W):Option (List ET):=(asD w).bind tupD
noncomputable def DO(w:W):Option (List ET):=w.dat.bind fq
noncomputable def Cv:W->Option Int
 | .d (.int i)=>some i
 | .d (.bool b)=>some (if b then 1 else 0)
 | _=>none
noncomputable def isiT:W->Option String
 | .vv (.ty T)=>some T
 | _=>none
noncomputable def rL:List ET->Option (List Bool)
 | []=>some []
 | .bool b::r=>(rL r).map (b :: ·)
 | _=>none
noncomputable def gM:List ET->Option (List Int)
 | []=>some []
 | .int b::r=>(gM r).map (b :: ·)
 | _=>none
theorem blsD_map:∀bs:List Bool,rL (bs.map .bool)=some bs
 | []=>rfl
 | b::bs=>by show(rL (bs.map .bool)).map (b :: ·)=_;rw[blsD_map bs];rfl
theorem jV:∀{xs:List ET}{bs:List Bool},rL xs=some bs->xs=bs.map .bool
 | [],bs,h=>by cases h;rfl
 | .bool b::r,bs,h=>by
   have h:(rL r).map (b :: ·)=some bs:=h
   cases q:rL r with
   | none=>rw[q]at h;cases h
   | some cs=>rw[q]at h;cases h;rw[jV q];rfl
 | .none::_,_,h=>by cases h
 | .int _::_,_,h=>by cases h
 | .str _::_,_,h=>by cases h
 | .list _::_,_,h=>by cases h
 | .tuple _::_,_,h=>by cases h
 | .dict _::_,_,h=>by cases h
theorem bX:∀bs:List Int,gM (bs.map .int)=some bs
 | []=>rfl
 | b::bs=>by show(gM (bs.map .int)).map (b :: ·)=_;rw[bX bs];rfl
theorem fB:∀{xs:List ET}{bs:List Int},gM xs=some bs->xs=bs.map .int
 | [],bs,h=>by cases h;rfl
 | .int b::r,bs,h=>by
   have h:(gM r).map (b :: ·)=some bs:=h
   cases q:gM r with
   | none=>rw[q]at h;cases h
   | some cs=>rw[q]at h;cases h;rw[fB q];rfl
 | .none::_,_,h=>by cases h
 | .bool _::_,_,h=>by cases h
 | .str _::_,_,h=>by cases h
 | .list _::_,_,h=>by cases h
 | .tuple _::_,_,h=>by cases h
 | .dict _::_,_,h=>by cases h
theorem asI_d(i:Int):asI (.d (.int i))=some i:=rfl
theorem asB_d(i:Bool):asB (.d (.bool i))=some i:=rfl
theorem asS_d(i:Str):asS (.d (.str i))=some i:=rfl
theorem asD_d(i:ET):asD (.d i)=some i:=rfl
theorem asT_d(x:ET):DM (.d x)=tupD x:=rfl
theorem asL_d(x:ET):DP (.d x)=lstD x:=rfl
theorem asL_ml(x:List ET):DP (.ml x)=some x:=rfl
theorem asL_pk(x:List ET):DP (.pk x)=some x:=rfl
theorem asQ_d(x:ET):DO (.d x)=fq x:=rfl
theorem asQ_ml(x:List ET):DO (.ml x)=some x:=rfl
theorem asQ_pk(x:List ET):DO (.pk x)=some x:=rfl
theorem lstD_l(x:List ET):lstD (.list x)=some x:=rfl
theorem tupD_t(x:List ET):tupD (.tuple x)=some x:=rfl
theorem toI_i(i:Int):Cv (.d (.int i))=some i:=rfl
theorem toI_b(i:Bool):Cv (.d (.bool i))=some (if i then 1 else 0):=rfl
theorem isiT_t(T:String):isiT (.vv (.ty T))=some T:=rfl
theorem cC{w:W}{i:Int}:asI w=some i↔w = .d (.int i):=by
 constructor
 · intro h;unfold asI at h;split at h<;>simp_all
 · rintro rfl;rfl
theorem gC{w:W}{i:Bool}:asB w=some i↔w = .d (.bool i):=by
 constructor
 · intro h;unfold asB at h;split at h<;>simp_all
 · rintro rfl;rfl
theorem rN{w:W}{i:Str}:asS w=some i↔w = .d (.str i):=by
 constructor
 · intro h;unfold asS at h;split at h<;>simp_all
 · rintro rfl;rfl
theorem ff{w:W}{i:ET}:asD w=some i↔w = .d i:=by
 constructor
 · intro h;unfold asD at h;split at h<;>simp_all
 · rintro rfl;rfl
theorem uk{w:W}{i:String}:isiT w=some i↔w = .vv (.ty i):=by
 constructor
 · intro h;unfold isiT at h;split at h<;>simp_all
 · rintro rfl;rfl
theorem ua{w:ET}{i:List ET}:lstD w=some i↔w = .list i:=by
 constructor
 · intro h;unfold lstD at h;split at h<;>simp_all
 · rintro rfl;rfl
theorem sL{w:ET}{i:List ET}:tupD w=some i↔w = .tuple i:=by
 constructor
 · intro h;unfold tupD at h;split at h<;>simp_all
 · rintro rfl;rfl
theorem lp{w:W}{i:List ET}:DM w=some i↔w = .d (.tuple i):=by
 constructor
 · intro h;unfold DM at h
   cases q:asD w with
   | none=>rw[q]at h;cases h
   | some x=>rw[q]at h;rw[ff.mp q,sL.mp h]
 · rintro rfl;rfl
theorem hG{w:W}{i:List ET}:DP w=some i↔w.dat=some (.list i):=by
 unfold DP;constructor
 · intro h
   cases q:w.dat with
   | none=>rw[q]at h;cases h
   | some x=>rw[q]at h;rw[ua.mp h]
 · intro h;rw[h];rfl
theorem ai{β:Type}{o:Option α}{k:α->Mo β}{Q:β->Prop}:aC o k Q↔∃a,o=some a/\k a Q:=by
 cases o with
 | none=>exact⟨fun z=>z.elim,fun⟨_,z,_⟩=>by cases z⟩
 | some a=>exact⟨fun z=>⟨a,rfl,z⟩,fun⟨_,e,z⟩=>by cases e;exact z⟩
section
variable{fa fb fc:TV}{fs:DU}{f g:TB}{ρ:En}{t u:DV}
theorem m_vC(x:ET):vC x ρ=ret (.d x):=nr rfl
theorem bR(i:Nat):fK i ρ=aC ((ρ[i]?).join) fun w=>ret w.peek:=by
 refine ag fun Q=>?_;rw[ai];constructor
 · rintro⟨w,e,q⟩;exact⟨w,by rw[e];rfl,q⟩
 · rintro⟨w,e,q⟩;refine⟨w,?_,q⟩
   cases h:ρ[i]? with
   | none=>rw[h]at e;cases e
   | some o=>rw[h]at e;cases o with
     | none=>cases e
     | some x=>cases e;rfl
theorem m_vOp(h:W->W->(W->Prop)->Prop):Ck h fa fb ρ=DK (fa ρ) fun x=>DK (fb ρ) fun y=>h x y:=nr rfl
theorem m_gI(C:Int->Int->Prop)(h:Int->Int->ET)(x y:W):gI C h x y=aC (asI x) fun i=>aC (asI y) fun j=>Dy (C i j) (ret (.d (h i j))):=by
 refine ag fun Q=>?_;simp only[ai,cC,gI,Dy,ret];exact⟨fun⟨i,j,a,b,c,q⟩=>⟨i,a,j,b,c,q⟩,fun⟨i,a,j,b,c,q⟩=>⟨i,j,a,b,c,q⟩⟩
theorem m_gI0(h:Int->Int->ET)(x y:W):DE h x y=aC (asI x) fun i=>aC (asI y) fun j=>ret (.d (h i j)):=by
 refine ag fun Q=>?_;simp only[ai,cC,DE,ret];exact⟨fun⟨i,j,a,b,q⟩=>⟨i,a,j,b,q⟩,fun⟨i,a,j,b,q⟩=>⟨i,j,a,b,q⟩⟩
theorem m_vNeg:yt fa ρ=DK (fa ρ) fun x=>aC (asI x) fun i=>ret (.d (.int (-i))):=by
 refine ag fun Q=>?_;simp only[yt,DK,ai,cC,ret]
theorem m_vTest{f:TV}:mL f ρ=DK (f ρ) fun w=>aC (asB w) ret:=by
 refine ag fun Q=>?_;simp only[mL,DK,ai,gC,ret]
theorem m_gEqD(neg:Bool)(x y:W):zp neg x y=aC x.dat fun dx=>aC y.dat fun dy=>Dy (Gf dx=true) (Dy (Gf dy=true) (ret (.d (.bool (if neg then !Gn dx dy else Gn dx dy))))):=by
 refine ag fun Q=>?_;simp only[ai,zp,Dy,ret];exact⟨fun⟨i,j,a,b,c,d,q⟩=>⟨i,a,j,b,c,d,q⟩,fun⟨i,a,j,b,c,d,q⟩=>⟨i,j,a,b,c,d,q⟩⟩
theorem xO{w:W}{i:List ET}:DO w=some i↔(w.dat=some (.list i)\/w.dat=some (.tuple i)):=by
 unfold DO;constructor
 · intro h
   cases q:w.dat with
   | none=>rw[q]at h;cases h
   | some x=>rw[q]at h;exact fq.of (o:=some x) rfl h
 · rintro(h|h)<;>rw[h]<;>rfl
theorem m_gInD(neg:Bool)(x y:W):A0 neg x y=aC x.dat fun dx=>aC (DO y) fun ys=>Dy (Gf dx=true) (Dy (GM ys=true) (ret (.d (.bool (if neg then !(ys.any fun z=>Gn z dx)else ys.any fun z=>Gn z dx))))):=by
 refine ag fun Q=>?_;simp only[ai,xO,A0,Dy,ret];exact⟨fun⟨i,j,a,b,c,d,q⟩=>⟨i,a,j,b,c,d,q⟩,fun⟨i,a,j,b,c,d,q⟩=>⟨i,j,a,b,c,d,q⟩⟩
theorem m_vAnd:xW f g ρ=DK (f ρ) fun b=>if b=true then g ρ else ret false:=by
 refine ag fun Q=>?_;simp only[xW,DK,e8,ret]
theorem m_vOr:Cj f g ρ=DK (f ρ) fun b=>if b=true then ret true else g ρ:=by
 refine ag fun Q=>?_;simp only[Cj,DK,e8,ret]
theorem m_vNot:Bd f ρ=DK (f ρ) fun b=>ret (!b):=nr rfl
theorem m_vAndV:sI fa fb ρ=DK (fa ρ) fun w=>aC (asB w) fun b=>if b=true then fb ρ else ret (.d (.bool false)):=by
 refine ag fun Q=>?_;simp only[sI,DK,ai,gC,e8,ret]
theorem m_vOrV:yr fa fb ρ=DK (fa ρ) fun w=>aC (asB w) fun b=>if b=true then ret (.d (.bool true))else fb ρ:=by
 refine ag fun Q=>?_;simp only[yr,DK,ai,gC,e8,ret]
theorem m_vNotV:sE fa ρ=DK (fa ρ) fun w=>aC (asB w) fun b=>ret (.d (.bool (!b))):=by
 refine ag fun Q=>?_;simp only[sE,DK,ai,gC,ret]
theorem m_vIf{t:TB}:Cn t fa fb ρ=DK (t ρ) fun c=>if c=true then fa ρ else fb ρ:=by
 refine ag fun Q=>?_;simp only[Cn,DK,e8]
theorem m_vTup:xT fs ρ=DK (fs ρ) fun ws=>aC (iF ws) fun ds=>Dy (ds.length<=sizeLine) (ret (.d (.tuple ds))):=by
 refine ag fun Q=>?_;simp only[xT,DK,ai,Dy,ret]
theorem m_vLst:yu fs ρ=DK (fs ρ) fun ws=>aC (iF ws) fun ds=>Dy (ds.length<=sizeLine) (ret (.ml ds)):=by
 refine ag fun Q=>?_;simp only[yu,DK,ai,Dy,ret]
theorem m_gIx(x y:W):DB x y=aC x.dat fun dx=>aC (asI y) fun i=>aC (itemAt dx i) fun z=>ret (.d z):=by
 refine ag fun Q=>?_;simp only[DB,ai,cC,ret];exact⟨fun⟨i,j,z,a,b,c,q⟩=>⟨i,a,j,b,z,c,q⟩,fun⟨i,a,j,b,z,c,q⟩=>⟨i,j,z,a,b,c,q⟩⟩
theorem m_vCall(h:List W->(W->Prop)->Prop):dH h fs ρ=DK (fs ρ) h:=nr rfl
theorem m_gAbs(w:W):ya [w]=aC (asI w) fun i=>ret (.d (.int (if i<0 then -i else i))):=by
 refine ag fun Q=>?_;simp only[ya,ai,cC,ret,FJ,and_true]
theorem m_gLen(w:W):x8 [w]=aC w.dat fun d=>aC (kS d) fun n=>ret (.d (.int n)):=by
 refine ag fun Q=>?_;simp only[x8,ai,ret,FJ,and_true];exact⟨fun⟨w',d,n,e,a,b,q⟩=>by subst e;exact⟨d,a,n,b,q⟩,fun⟨d,a,n,b,q⟩=>⟨w,d,n,rfl,a,b,q⟩⟩
theorem m_gRepr(w:W):qp [w]=aC w.dat fun d=>Dy (D5 d) (ret (.d (.str d.shown))):=by
 refine ag fun Q=>?_;simp only[qp,ai,ret,Dy,FJ,and_true];exact⟨fun⟨w',d,e,a,b,q⟩=>by subst e;exact⟨d,a,b,q⟩,fun⟨d,a,b,q⟩=>⟨w,d,rfl,a,b,q⟩⟩
theorem m_gIsi(w v:W):AX [w,v]=aC w.dat fun d=>aC (isiT v) fun T=>Dy (AI T=true) (ret (.d (.bool (AU d T)))):=by
 refine ag fun Q=>?_;simp only[AX,ai,uk,ret,Dy,FJ,and_true];exact⟨fun⟨w',d,T,⟨e,e'⟩,a,b,q⟩=>by subst e;exact⟨d,a,T,e',b,q⟩,fun⟨d,a,T,e',b,q⟩=>⟨w,d,T,⟨rfl,e'⟩,a,b,q⟩⟩
theorem m_gStrI(w:W):xk [w]=aC (asI w) fun i=>Dy (i.natAbs.log2<1920) (ret (.d (.str (toString i)))):=by
 refine ag fun Q=>?_;simp only[xk,ai,cC,ret,Dy,FJ,and_true]
theorem m_gTupO(w:W):oh [w]=aC (DO w) fun xs=>ret (.d (.tuple xs)):=by
 refine ag fun Q=>?_;simp only[oh,ai,ret,FJ,and_true];constructor
 · rintro⟨w',d,xs,e,a,b,q⟩;subst e;exact⟨xs,by unfold DO;rw[a];exact b,q⟩
 · rintro⟨xs,e,q⟩;unfold DO at e
   cases h:w.dat with
   | none=>rw[h]at e;cases e
   | some d=>rw[h]at e;exact⟨w,d,xs,rfl,h,e,q⟩
theorem m_gLstO(w:W):qr [w]=aC (DO w) fun xs=>ret (.ml xs):=by
 refine ag fun Q=>?_;simp only[qr,ai,ret,FJ,and_true];constructor
 · rintro⟨w',d,xs,e,a,b,q⟩;subst e;exact⟨xs,by unfold DO;rw[a];exact b,q⟩
 · rintro⟨xs,e,q⟩;unfold DO at e
   cases h:w.dat with
   | none=>rw[h]at e;cases e
   | some d=>rw[h]at e;exact⟨w,d,xs,rfl,h,e,q⟩
theorem m_gIsB(x y:W):AZ x y=aC (asB x) fun i=>aC (asB y) fun j=>ret (.d (.bool (i==j))):=by
 refine ag fun Q=>?_;simp only[ai,gC,AZ,ret];exact⟨fun⟨i,j,a,b,q⟩=>⟨i,a,j,b,q⟩,fun⟨i,a,j,b,q⟩=>⟨i,j,a,b,q⟩⟩
theorem m_gIsN(neg:Bool)(x:W):AY neg x (.d .none)=aC x.dat fun d=>ret (.d (.bool (if neg then !je d else je d))):=by
 refine ag fun Q=>?_;simp only[ai,AY,ret,true_and]
theorem m_gI2(h:Int->Int->ET)(x y:W):DC h [x,y]=aC (asI x) fun i=>aC (asI y) fun j=>ret (.d (h i j)):=by
 refine ag fun Q=>?_;simp only[ai,cC,DC,ret,FJ,and_true];exact⟨fun⟨i,j,⟨a,b⟩,q⟩=>⟨i,a,j,b,q⟩,fun⟨i,a,j,b,q⟩=>⟨i,j,⟨a,b⟩,q⟩⟩
theorem m_gDivmod(x y:W):oj [x,y]=aC (asI x) fun i=>aC (asI y) fun j=>Dy (0<j) (Dy (j<1073741824) (ret (.d (.tuple [.int (i / j),.int (i%j)])))):=by
 refine ag fun Q=>?_;simp only[ai,cC,oj,Dy,ret,FJ,and_true];exact⟨fun⟨i,j,⟨a,b⟩,c,d,q⟩=>⟨i,a,j,b,c,d,q⟩,fun⟨i,a,j,b,c,d,q⟩=>⟨i,j,⟨a,b⟩,c,d,q⟩⟩
theorem vH{w:W}{i:Int}:Cv w=some i↔(w = .d (.int i)\/∃b:Bool,w = .d (.bool b)/\i=if b then 1 else 0):=by
 constructor
 · intro h;unfold Cv at h;split at h
   · cases h;exact .inl rfl
   · cases h;exact .inr ⟨_,rfl,rfl⟩
   · cases h
 · rintro(rfl|⟨b,rfl,rfl⟩)<;>rfl
theorem m_gInt1(w:W):xq [w]=aC (Cv w) fun i=>ret (.d (.int i)):=by
 refine ag fun Q=>?_;simp only[ai,vH,xq,ret,FJ,and_true];constructor
 · rintro(⟨i,rfl,q⟩|⟨k,rfl,q⟩)
   · exact⟨i,.inl rfl,q⟩
   · exact⟨_,.inr ⟨k,rfl,rfl⟩,q⟩
 · rintro⟨i,rfl|⟨b,rfl,rfl⟩,q⟩
   · exact .inl ⟨i,rfl,q⟩
   · exact .inr ⟨b,rfl,q⟩
theorem m_oNo:Dc ρ=ret none:=nr rfl
theorem m_oIt:Dd fa ρ=DK (fa ρ) fun w=>aC (asI w) fun i=>ret (some i):=by
 refine ag fun Q=>?_;simp only[Dd,DK,ai,cC,ret]
theorem m_vSlL{fl fh:DW}:AB fa fl fh ρ=DK (fa ρ) fun w=>DK (fl ρ) fun l=>DK (fh ρ) fun h=>aC (DP w) fun xs=>ret (.ml (cutD xs l h)):=by
 refine ag fun Q=>?_;simp only[AB,DK,ai,hG,ret]
theorem m_vSlA{fl fh:DW}:ym fa fl fh ρ=DK (fa ρ) fun w=>DK (fl ρ) fun l=>DK (fh ρ) fun h=>aC (DM w) fun xs=>ret (.d (.tuple (cutD xs l h))):=by
 refine ag fun Q=>?_;simp only[ym,DK,ai,lp,ret]
theorem m_gCatD(x y:W):qt x y=aC (DP x) fun xs=>aC (DP y) fun ys=>Dy (xs.length+ys.length<=sizeLine) (ret (.ml (xs++ys))):=by
 refine ag fun Q=>?_;simp only[qt,ai,hG,Dy,ret];exact⟨fun⟨i,j,a,b,c,q⟩=>⟨i,a,j,b,c,q⟩,fun⟨i,a,j,b,c,q⟩=>⟨i,j,a,b,c,q⟩⟩
theorem m_gCatA(x y:W):qu x y=aC (DM x) fun xs=>aC (DM y) fun ys=>Dy (xs.length+ys.length<=sizeLine) (ret (.d (.tuple (xs++ys)))):=by
 refine ag fun Q=>?_;simp only[qu,ai,lp,Dy,ret];exact⟨fun⟨i,j,a,b,c,q⟩=>⟨i,a,j,b,c,q⟩,fun⟨i,a,j,b,c,q⟩=>⟨i,j,a,b,c,q⟩⟩
theorem m_vChain(p p':Int->Int->Bool):vB p p' fa fb fc ρ=DK (fa ρ) fun x=>DK (fb ρ) fun y=>aC (asI x) fun i=>aC (asI y) fun j=>if p i j=true then DK (fc ρ) fun z=>aC (asI z) fun k=>ret (.d (.bool (p' j k)))else ret (.d (.bool false)):=by
 show(DK (fa ρ) fun x=>DK (fb ρ) fun y=>fun(Q:W->Prop)=>∃i j,x = .d (.int i)/\y = .d (.int j)/\if p i j=true then fc ρ fun z=>∃k,z = .d (.int k)/\Q (.d (.bool (p' j k)))else Q (.d (.bool false)))=_;congr 1;funext x;congr 1;funext y;refine ag fun Q=>?_;simp only[DK,ai,cC,ret,e8];exact⟨fun⟨i,j,a,b,q⟩=>⟨i,a,j,b,q⟩,fun⟨i,a,j,b,q⟩=>⟨i,j,a,b,q⟩⟩
theorem m_vLR1:AD fs ρ=DK (fs ρ) fun ws=>aC (ws.head?.bind asI) fun j=>Dy (ws.length=1) (Dy (-(2^62)<=j/\j<2^62) (Dy (j.toNat<=2^24) (ret (.ml (aU 0 j.toNat))))):=by
 show(DK (fs ρ) fun ws=>fun(Q:W->Prop)=>∃j:Int,ws=[.d (.int j)]/\(-(2^62)<=j/\j<2^62)/\j.toNat<=2^24/\Q (.ml (aU 0 j.toNat)))=_;congr 1;funext ws;refine ag fun Q=>?_;simp only[ai,Dy,ret];constructor
 · rintro⟨j,rfl,a,b,q⟩;exact⟨j,rfl,rfl,a,b,q⟩
 · rintro⟨j,e,l,a,b,q⟩
   match ws,l with
   | [w],_=>rw[show w = .d (.int j)from cC.mp e];exact⟨j,rfl,a,b,q⟩
theorem m_vTR1:Bc fs ρ=DK (fs ρ) fun ws=>aC (ws.head?.bind asI) fun j=>Dy (ws.length=1) (Dy (-(2^62)<=j/\j<2^62) (Dy (j.toNat<=2^24) (ret (.d (.tuple (aU 0 j.toNat)))))):=by
 show(DK (fs ρ) fun ws=>fun(Q:W->Prop)=>∃j:Int,ws=[.d (.int j)]/\(-(2^62)<=j/\j<2^62)/\j.toNat<=2^24/\Q (.d (.tuple (aU 0 j.toNat))))=_;congr 1;funext ws;refine ag fun Q=>?_;simp only[ai,Dy,ret];constructor
 · rintro⟨j,rfl,a,b,q⟩;exact⟨j,rfl,rfl,a,b,q⟩
 · rintro⟨j,e,l,a,b,q⟩
   match ws,l with
   | [w],_=>rw[show w = .d (.int j)from cC.mp e];exact⟨j,rfl,a,b,q⟩
noncomputable def two(ws:List W):Option (Int×Int):=match ws with
 | [a,b]=>(asI a).bind fun i=>(asI b).map fun j=>(i,j)
 | _=>none
theorem two_d(a b:Int):two [.d (.int a),.d (.int b)]=some (a,b):=rfl
theorem qR{ws:List W}{p:Int×Int}:two ws=some p↔ws=[.d (.int p.1),.d (.int p.2)]:=by
 constructor
 · intro h
   match ws with
   | []=>cases h
   | [_]=>cases h
   | _::_::_::_=>cases h
   | [a,b] =>
     have h:((asI a).bind fun i=>(asI b).map fun j=>(i,j))=some p:=h
     cases ha:asI a with
     | none=>rw[ha]at h;cases h
     | some i =>
       cases hb:asI b with
       | none=>rw[ha,hb]at h;cases h
       | some j=>rw[ha,hb]at h;cases h;rw[cC.mp ha,cC.mp hb]
 · rintro rfl;rfl
theorem m_vLR2:Be fs ρ=DK (fs ρ) fun ws=>aC (two ws) fun p=>Dy (-(2^62)<=p.1/\p.1<2^62 /\ -(2^62)<=p.2/\p.2<2^62) (Dy ((p.2-p.1).toNat<=2^24) (ret (.ml (aU p.1 (p.2-p.1).toNat)))):=by
 show(DK (fs ρ) fun ws=>fun(Q:W->Prop)=>∃i j:Int,ws=[.d (.int i),.d (.int j)]/\(-(2^62)<=i/\i<2^62 /\ -(2^62)<=j/\j<2^62)/\(j-i).toNat<=2^24/\Q (.ml (aU i (j-i).toNat)))=_;congr 1;funext ws;refine ag fun Q=>?_;simp only[ai,qR,Dy,ret];exact⟨fun⟨i,j,a,b,c,q⟩=>⟨(i,j),a,b,c,q⟩,fun⟨p,a,b,c,q⟩=>⟨p.1,p.2,a,b,c,q⟩⟩
theorem m_iL:iL fa ρ=DK (fa ρ) fun w=>aC ((asD w.fz).bind lstD) ret:=by
 show(DK (fa ρ) fun w=>fun(Q:List ET->Prop)=>∃xs,w.fz = .d (.list xs)/\Q xs)=_;congr 1;funext w;refine ag fun Q=>?_;simp only[ai,ret];constructor
 · rintro⟨xs,e,q⟩;exact⟨xs,by rw[e];rfl,q⟩
 · rintro⟨xs,e,q⟩
   cases h:asD w.fz with
   | none=>rw[h]at e;cases e
   | some x=>rw[h]at e;rw[ff.mp h,ua.mp e];exact⟨xs,rfl,q⟩
theorem m_iT:iT fa ρ=DK (fa ρ) fun w=>aC ((asD w.fz).bind tupD) ret:=by
 show(DK (fa ρ) fun w=>fun(Q:List ET->Prop)=>∃xs,w.fz = .d (.tuple xs)/\Q xs)=_;congr 1;funext w;refine ag fun Q=>?_;simp only[ai,ret];constructor
 · rintro⟨xs,e,q⟩;exact⟨xs,by rw[e];rfl,q⟩
 · rintro⟨xs,e,q⟩
   cases h:asD w.fz with
   | none=>rw[h]at e;cases e
   | some x=>rw[h]at e;rw[ff.mp h,sL.mp e];exact⟨xs,rfl,q⟩
theorem m_iR1:Dx fs ρ=DK (fs ρ) fun ws=>aC (ws.head?.bind asI) fun j=>Dy (ws.length=1) (Dy (-(2^62)<=j/\j<2^62) (ret (aU 0 j.toNat))):=by
 show(DK (fs ρ) fun ws=>fun(Q:List ET->Prop)=>∃j:Int,ws=[.d (.int j)]/\(-(2^62)<=j/\j<2^62)/\Q (aU 0 j.toNat))=_;congr 1;funext ws;refine ag fun Q=>?_;simp only[ai,Dy,ret];constructor
 · rintro⟨j,rfl,a,q⟩;exact⟨j,rfl,rfl,a,q⟩
 · rintro⟨j,e,l,a,q⟩
   match ws,l with
   | [w],_=>rw[show w = .d (.int j)from cC.mp e];exact⟨j,rfl,a,q⟩
theorem m_iR2:Dw fs ρ=DK (fs ρ) fun ws=>aC (two ws) fun p=>Dy (-(2^62)<=p.1/\p.1<2^62 /\ -(2^62)<=p.2/\p.2<2^62) (ret (aU p.1 (p.2-p.1).toNat)):=by
 show(DK (fs ρ) fun ws=>fun(Q:List ET->Prop)=>∃i j:Int,ws=[.d (.int i),.d (.int j)]/\(-(2^62)<=i/\i<2^62 /\ -(2^62)<=j/\j<2^62)/\Q (aU i (j-i).toNat))=_;congr 1;funext ws;refine ag fun Q=>?_;simp only[ai,qR,Dy,ret];exact⟨fun⟨i,j,a,b,q⟩=>⟨(i,j),a,b,q⟩,fun⟨p,a,b,q⟩=>⟨p.1,p.2,a,b,q⟩⟩
noncomputable def yf(b1 b2:Bool)(ws:List W):Option (List ET):=match ws with
 | [.d x,.d y]=>if dA x=b1/\dA y=b2 then(fq x).bind fun xs=>(fq y).map fun ys=>lu xs ys else none
 | _=>none
theorem m_iZb(b1 b2:Bool):Du b1 b2 fs ρ=DK (fs ρ) fun ws=>aC (yf b1 b2 ws) ret:=by
 show(DK (fs ρ) fun ws=>fun(Q:List ET->Prop)=>∃dx dy xs ys,ws=[.d dx,.d dy]/\fq dx=some xs/\fq dy=some ys/\dA dx=b1/\dA dy=b2/\Q (lu xs ys))=_;congr 1;funext ws;refine ag fun Q=>?_;simp only[ai,ret];constructor
 · rintro⟨dx,dy,xs,ys,rfl,a,b,c,d,q⟩;exact⟨_,by show(if dA dx=b1/\dA dy=b2 then(fq dx).bind fun xs=>(fq dy).map fun ys=>lu xs ys else none)=_;rw[if_pos ⟨c,d⟩,a,b];rfl,q⟩
 · rintro⟨zs,e,q⟩;unfold yf at e;split at e
   · rename_i dx dy;split at e
     · rename_i c
       cases ha:fq dx with
       | none=>rw[ha]at e;cases e
       | some xs =>
         cases hb:fq dy with
         | none=>rw[ha,hb]at e;cases e
         | some ys=>rw[ha,hb]at e;cases e;exact⟨dx,dy,xs,ys,rfl,ha,hb,c.1,c.2,q⟩
     · cases e
   · cases e
theorem m_vUse(Pd:List W->(ET->Prop)->Prop):xS Pd fs ρ=DK (fs ρ) fun ws=>Dy (ws.all dr=true) (DK (Pd ws) fun d=>ret (.d d)):=nr rfl
theorem m_vUseL(Pd:List W->(List ET->Prop)->Prop):yk Pd fs ρ=DK (fs ρ) fun ws=>Dy (ws.all dr=true) (DK (Pd ws) fun d=>ret (.ml d)):=nr rfl
theorem m_gAll(h:List Bool->Bool)(w:W):x_ h [w]=aC ((DP w).bind rL) fun bs=>ret (.d (.bool (h bs))):=by
 refine ag fun Q=>?_;simp only[x_,ai,ret,FJ,and_true];constructor
 · rintro⟨w',bs,rfl,e,q⟩;exact⟨bs,by rw[hG.mpr e];exact blsD_map bs,q⟩
 · rintro⟨bs,e,q⟩
   cases hl:DP w with
   | none=>rw[hl]at e;cases e
   | some xs=>rw[hl]at e;refine⟨w,bs,rfl,?_,q⟩;rw[<- jV e];exact hG.mp hl
theorem m_gRepT(x y:W):qq x y=aC (DM x) fun xs=>aC (asI y) fun k=>Dy (xs≠[]/\1<=k/\k<2^62/\xs.length*k.toNat<=sizeLine) (ret (.d (.tuple (Fg k.toNat xs).flatten))):=by
 refine ag fun Q=>?_;simp only[qq,ai,lp,cC,Dy,ret];exact⟨fun⟨i,j,a,b,c,d,e,f,q⟩=>⟨i,a,j,b,⟨c,d,e,f⟩,q⟩,fun⟨i,a,j,b,⟨c,d,e,f⟩,q⟩=>⟨i,j,a,b,c,d,e,f,q⟩⟩
theorem m_gRepL(x y:W):xn x y=aC (DP x) fun xs=>aC (asI y) fun k=>Dy (-(2^63)<=k/\k<2^63/\xs.length*k.toNat<=sizeLine) (ret (.ml (Fg k.toNat xs).flatten)):=by
 refine ag fun Q=>?_;simp only[xn,ai,hG,cC,Dy,ret];exact⟨fun⟨i,j,a,b,c,d,e,q⟩=>⟨i,a,j,b,⟨c,d,e⟩,q⟩,fun⟨i,a,j,b,⟨c,d,e⟩,q⟩=>⟨i,j,a,b,c,d,e,q⟩⟩
theorem m_vRevT:sC fa ρ=DK (fa ρ) fun w=>aC (DM w) fun xs=>ret (.d (.tuple xs.reverse)):=by
 refine ag fun Q=>?_;simp only[sC,DK,ai,lp,ret]
theorem m_vRevL:sD fa ρ=DK (fa ρ) fun w=>aC (DP w) fun xs=>ret (.ml xs.reverse):=by
 refine ag fun Q=>?_;simp only[sD,DK,ai,hG,ret]
theorem m_gEqS(neg:Bool)(x y:W):x9 neg x y=aC (asS x) fun i=>aC (asS y) fun j=>ret (.d (.bool (if neg then !decide (i=j)else decide (i=j)))):=by
 refine ag fun Q=>?_;simp only[ai,rN,x9,ret];exact⟨fun⟨i,j,a,b,q⟩=>⟨i,a,j,b,q⟩,fun⟨i,a,j,b,q⟩=>⟨i,j,a,b,q⟩⟩
theorem m_vTGet(D:List (Str×Int)):vg D fa ρ=DK (fa ρ) fun w=>aC (asS w) fun k=>ret (.d (vK D k)):=by
 refine ag fun Q=>?_;simp only[vg,DK,ai,rN,ret]
noncomputable def A5(w:W):Option (List Int):=(DM w).bind gM
theorem m_gSrtT(w:W):xl [w]=aC (A5 w) fun ns=>Dy (ns.length<64) (DK (anyM fun ns':List Int=>ns'.Perm ns/\ns'.Pairwise (· <= ·)) fun ns'=>ret (.ml (ns'.map .int))):=by
 refine ag fun Q=>?_;simp only[xl,ai,ret,Dy,DK,anyM,FJ,and_true];constructor
 · rintro⟨ns,rfl,a,q⟩;exact⟨ns,bX ns,a,fun n' ⟨h1,h2⟩=>q n' h1 h2⟩
 · rintro⟨ns,e,a,q⟩;unfold A5 at e
   cases hl:DM w with
   | none=>rw[hl]at e;cases e
   | some xs=>rw[hl]at e;exact⟨ns,by rw[lp.mp hl,<- fB e],a,fun n' h1 h2=>q n' ⟨h1,h2⟩⟩
end
inductive Fl where
 | nx (ρ:En)|rt (w:W)|bk (ρ:En)|ct (ρ:En)
noncomputable def mS(t:DV)(ρ:En):Mo Fl:=fun Q=>t ⟨fun ρ=>Q (.nx ρ),fun w=>Q (.rt w),fun ρ=>Q (.bk ρ),fun ρ=>Q (.ct ρ)⟩ ρ
noncomputable def sq(m:Mo Fl)(k:En->Mo Fl):Mo Fl:=DK m fun fl=>match fl with
 | .nx ρ=>k ρ
 | .rt w=>ret (.rt w)
 | .bk ρ=>ret (.bk ρ)
 | .ct ρ=>ret (.ct ρ)
noncomputable def xA(Q:ET->Prop):Fl->Prop
 | .nx _=>Q .none
 | .rt w=>∃d,w.fz = .d d/\Q d
 | _=>False
section
variable{fa fb fc:TV}{fs:DU}{f g:TB}{ρ:En}{t u:DV}{k:En->Mo Fl}
theorem aK{Q:ET->Prop}(h:mS t ρ (xA Q)):t (lw Q) ρ:=h
theorem end_d(Q:ET->Prop)(d:ET):xA Q (.rt (.d d))=Q d:=propext ⟨fun⟨_,e,q⟩=>by cases e;exact q,fun q=>⟨d,rfl,q⟩⟩
theorem end_ml(Q:ET->Prop)(d:List ET):xA Q (.rt (.ml d))=Q (.list d):=propext ⟨fun⟨_,e,q⟩=>by cases e;exact q,fun q=>⟨_,rfl,q⟩⟩
theorem end_nx(Q:ET->Prop)(ρ:En):xA Q (.nx ρ)=Q .none:=nr rfl
theorem sq_nx:sq (ret (.nx ρ)) k=k ρ:=nr rfl
theorem sq_rt(w:W):sq (ret (.rt w)) k=ret (.rt w):=nr rfl
theorem sq_bk:sq (ret (.bk ρ)) k=ret (.bk ρ):=nr rfl
theorem sq_ct:sq (ret (.ct ρ)) k=ret (.ct ρ):=nr rfl
theorem sq_grd(P:Prop)(m:Mo Fl):sq (Dy P m) k=Dy P (sq m k):=nr rfl
theorem sq_stk:sq stk k=stk:=nr rfl
theorem sq_ite(c:Prop)[Decidable c](a b:Mo Fl):sq (if c then a else b) k=if c then sq a k else sq b k:=by split<;>rfl
theorem vT(o:Option α)(h:α->Mo Fl):sq (aC o h) k=aC o fun a=>sq (h a) k:=by cases o<;>rfl
theorem s_next:mS sF ρ=ret (.nx ρ):=nr rfl
theorem s_seq:mS (vh t u) ρ=sq (mS t ρ) (mS u):=by
 refine ag fun Q=>?_;show t ⟨fun ρ=>u ⟨_,_,_,_⟩ ρ,_,_,_⟩ ρ↔_;exact Ip
theorem s_drop:mS (yw fa) ρ=DK (fa ρ) fun _=>ret (.nx ρ):=nr rfl
theorem s_ret:mS (yp fa) ρ=DK (fa ρ) fun w=>ret (.rt w):=nr rfl
theorem s_retN:mS yo ρ=ret (.rt (.d .none)):=nr rfl
theorem s_ifS:mS (xU f t u) ρ=DK (f ρ) fun b=>if b=true then mS t ρ else mS u ρ:=by
 refine ag fun Q=>?_;simp only[mS,xU,DK,e8]
theorem s_set(i:Nat):mS (yn i fa) ρ=DK (fa ρ) fun w=>Dy (w.isPk=false) (ret (.nx (ρ.set i (some w)))):=nr rfl
theorem s_never:mS (fun _ _=>False) ρ=stk:=nr rfl
theorem m_hName(i:Nat)(x:ET):xi i x ρ=ret (ρ.set i (some (.d x))):=nr rfl
theorem wT(xs:List ET):zn xs ρ=Dy (xs=[]) (ret ρ):=nr rfl
theorem t_{g:DY}{gs:l5}(xs:List ET):qm g gs xs ρ=aC (match xs with | []=>none|y::r=>some (y,r)) fun p=>DK (g p.1 ρ) fun ρ'=>gs p.2 ρ':=by
 refine ag fun Q=>?_;simp only[ai,qm,DK];constructor
 · rintro⟨y,r,rfl,q⟩;exact⟨(y,r),rfl,q⟩
 · rintro⟨p,e,q⟩
   cases xs with
   | nil=>cases e
   | cons y r=>cases e;exact⟨y,r,rfl,q⟩
theorem m_hCons_c{g:DY}{gs:l5}(y:ET)(r:List ET):qm g gs (y::r) ρ=DK (g y ρ) fun ρ'=>gs r ρ':=by rw[t_];rfl
theorem m_hNil_n:zn [] ρ=ret ρ:=by rw[wT,aj rfl]
theorem m_hTup(n:Nat){gs:l5}(x:ET):zm n gs x ρ=aC (tupD x) fun xs=>Dy (xs.length=n) (gs xs ρ):=by
 refine ag fun Q=>?_;simp only[ai,sL,zm,Dy]
theorem s_asg{g:DY}:mS (AF fa g) ρ=DK (fa ρ) fun w=>aC (asD w) fun x=>DK (g x ρ) fun ρ'=>ret (.nx ρ'):=by
 refine ag fun Q=>?_;simp only[mS,AF,DK,ai,ff,ret]
theorem s_par(i j:Nat):mS (AC i j fs) ρ=DK (fs ρ) fun ws=>aC (iF ws) fun ds=>aC (match ds with | [x,y]=>some (x,y)|_=>none) fun p=>ret (.nx ((ρ.set i (some (.d p.1))).set j (some (.d p.2)))):=by
 show(DK (fs ρ) fun ws=>fun(Q:Fl->Prop)=>∃x y,iF ws=some [x,y]/\Q (.nx ((ρ.set i (some (.d x))).set j (some (.d y)))))=_;congr 1;funext ws;refine ag fun Q=>?_;simp only[ai,ret];constructor
 · rintro⟨x,y,e,q⟩;exact⟨_,e,(x,y),rfl,q⟩
 · rintro⟨ds,e,p,e2,q⟩;split at e2
   · cases e2;exact⟨_,_,e,q⟩
   · cases e2
theorem s_par3(i j l:Nat):mS (yq i j l fs) ρ=DK (fs ρ) fun ws=>aC (iF ws) fun ds=>aC (match ds with | [x,y,z]=>some (x,y,z)|_=>none) fun p=>ret (.nx (((ρ.set i (some (.d p.1))).set j (some (.d p.2.1))).set l (some (.d p.2.2)))):=by
 show(DK (fs ρ) fun ws=>fun(Q:Fl->Prop)=>∃x y z,iF ws=some [x,y,z]/\Q (.nx (((ρ.set i (some (.d x))).set j (some (.d y))).set l (some (.d z)))))=_;congr 1;funext ws;refine ag fun Q=>?_;simp only[ai,ret];constructor
 · rintro⟨x,y,z,e,q⟩;exact⟨_,e,(x,y,z),rfl,q⟩
 · rintro⟨ds,e,p,e2,q⟩;split at e2
   · cases e2;exact⟨_,_,_,e,q⟩
   · cases e2
noncomputable def CW(ρ:En)(i:Nat):Option Int:=((ρ[i]?).join).bind asI
noncomputable def asM:W->Option (List ET)
 | .ml xs=>some xs
 | _=>none
noncomputable def CU(ρ:En)(i:Nat):Option (List ET):=((ρ[i]?).join).bind asM
theorem asM_ml(xs:List ET):asM (.ml xs)=some xs:=rfl
theorem A4{w:W}:asM w=some xs↔w = .ml xs:=by
 constructor
 · intro h;unfold asM at h;split at h<;>simp_all
 · rintro rfl;rfl
theorem gR:CU ρ i=some xs↔ρ[i]?=some (some (.ml xs)):=by
 unfold CU;constructor
 · intro h
   cases q:ρ[i]? with
   | none=>rw[q]at h;cases h
   | some o=>rw[q]at h;cases o with
     | none=>cases h
     | some w=>rw[A4.mp h]
 · intro h;rw[h];rfl
theorem vX{n:Int}:CW ρ i=some n↔ρ[i]?=some (some (.d (.int n))):=by
 unfold CW;constructor
 · intro h
   cases q:ρ[i]? with
   | none=>rw[q]at h;cases h
   | some o=>rw[q]at h;cases o with
     | none=>cases h
     | some w=>rw[cC.mp h]
 · intro h;rw[h];rfl
theorem s_aug(i:Nat)(C:Int->Int->Prop)(h:Int->Int->Int):mS (yx i C h fa) ρ=aC (CW ρ i) fun n=>DK (fa ρ) fun w=>aC (asI w) fun m=>Dy (C n m) (ret (.nx (ρ.set i (some (.d (.int (h n m))))))):=by
 refine ag fun Q=>?_;simp only[mS,yx,DK,ai,vX,cC,Dy,ret]
theorem s_augL(i:Nat):mS (vF i fa) ρ=aC (CU ρ i) fun xs=>DK (fa ρ) fun w=>aC (DP w) fun ys=>Dy (w.isPk=false) (Dy (xs.length+ys.length<=sizeLine) (ret (.nx (ρ.set i (some (.ml (xs++ys))))))):=by
 refine ag fun Q=>?_;simp only[mS,vF,ai,gR];refine exists_congr fun xs=>and_congr_right fun _=>?_;show(fa ρ fun w=>∃ys,w.isPk=false/\w.dat=some (.list ys)/\_/\_)↔(fa ρ fun w=>_)
 have:(fun w:W=>∃ys,w.isPk=false/\w.dat=some (.list ys)/\xs.length+ys.length<=sizeLine/\Q (.nx (ρ.set i (some (.ml (xs++ys))))))=fun w=>(aC (DP w) fun ys=>Dy (w.isPk=false) (Dy (xs.length+ys.length<=sizeLine) (ret (.nx (ρ.set i (some (.ml (xs++ys)))))))) Q:=by
  funext w;refine propext ?_;rw[ai];simp only[hG,Dy,ret];exact⟨fun⟨ys,a,b,c,d⟩=>⟨ys,b,a,c,d⟩,fun⟨ys,b,a,c,d⟩=>⟨ys,a,b,c,d⟩⟩
 rw[this]
theorem s_frz(i:Nat):mS (AE i t) ρ=aC (CU ρ i) fun xs=>mS t (ρ.set i (some (.d (.list xs)))):=by
 refine ag fun Q=>?_;simp only[mS,AE,ai,gR]
theorem s_mut(i:Nat)(h:List ET->List W->(List ET->Prop)->Prop):mS (uH i h fs) ρ=aC (CU ρ i) fun xs=>DK (fs ρ) fun ws=>DK (h xs ws) fun ys=>ret (.nx (ρ.set i (some (.ml ys)))):=by
 refine ag fun Q=>?_;simp only[mS,uH,DK,ai,gR,ret]
theorem m_gApp(xs:List ET)(w:W):xt xs [w]=aC (asD w) fun x=>Dy (xs.length<sizeLine) (ret (xs++[x])):=by
 refine ag fun Q=>?_;simp only[xt,ai,ff,Dy,ret];constructor
 · rintro⟨x,e,a,q⟩;cases w<;>first|(cases e;exact⟨_,rfl,a,q⟩)|cases e
 · rintro⟨x,rfl,a,q⟩;exact⟨x,rfl,a,q⟩
theorem m_gExt(xs:List ET)(w:W):A1 xs [w]=aC ((asD w).bind lstD) fun ys=>Dy (xs.length+ys.length<=sizeLine) (ret (xs++ys)):=by
 refine ag fun Q=>?_;simp only[A1,ai,Dy,ret];constructor
 · rintro⟨x,e,a,q⟩;cases w<;>first|(cases e;exact⟨_,rfl,a,q⟩)|cases e
 · rintro⟨x,e,a,q⟩
   cases h:asD w with
   | none=>rw[h]at e;cases e
   | some d=>rw[h]at e;rw[ff.mp h,ua.mp e];exact⟨x,rfl,a,q⟩
theorem s_retO(i:Nat):mS (vj i) ρ=aC (CU ρ i) fun xs=>ret (.rt (.ml xs)):=by
 refine ag fun Q=>?_;simp only[mS,vj,ai,gR,ret]
theorem s_appPop(i j:Nat):mS (mQ i j fa) ρ=aC (CU ρ i) fun xs=>aC (CU ρ j) fun ys=>DK (fa ρ) fun w=>aC (asI w) fun k=>Dy (0<=k/\k<(ys.length:Int)/\ys.length<2^62) (aC (ys[k.toNat]?) fun y=>Dy (xs.length<sizeLine) (ret (.nx ((ρ.set j (some (.ml (ys.eraseIdx k.toNat)))).set i (some (.ml (xs++[y]))))))):=by
 refine ag fun Q=>?_;simp only[mS,mQ,ai,gR]
 have:∀xs ys:List ET,(fun w:W=>∃k y,w = .d (.int k)/\0<=k/\k<(ys.length:Int)/\ys.length<2^62/\ys[k.toNat]?=some y/\xs.length<sizeLine/\Q (.nx ((ρ.set j (some (.ml (ys.eraseIdx k.toNat)))).set i (some (.ml (xs++[y]))))))=fun w=>(aC (asI w) fun k=>Dy (0<=k/\k<(ys.length:Int)/\ys.length<2^62) (aC (ys[k.toNat]?) fun y=>Dy (xs.length<sizeLine) (ret (.nx ((ρ.set j (some (.ml (ys.eraseIdx k.toNat)))).set i (some (.ml (xs++[y])))))))) Q:=by
  intro xs ys;funext w;refine propext ?_;simp only[ai,cC,Dy,ret];exact⟨fun⟨k,y,a,b,c,d,e,f,q⟩=>⟨k,a,⟨b,c,d⟩,y,e,f,q⟩,fun⟨k,a,⟨b,c,d⟩,y,e,f,q⟩=>⟨k,y,a,b,c,d,e,f,q⟩⟩
 constructor
 · rintro⟨xs,ys,e1,e2,q⟩;refine⟨xs,e1,ys,e2,?_⟩;rw[this]at q;exact q
 · rintro⟨xs,e1,ys,e2,q⟩;refine⟨xs,ys,e1,e2,?_⟩;rw[this];exact q
end
noncomputable def Le(a b:En):Prop:=a.length=b.length/\∀(i:Nat) w,a[i]?=some (some w)->b[i]?=some (some w)
theorem Le.refl(a:En):Le a a:=⟨rfl,fun _ _ h=>h⟩
theorem Le.trans{a b c:En}(h:Le a b)(h':Le b c):Le a c:=⟨h.1.trans h'.1,fun i w e=>h'.2 i w (h.2 i w e)⟩
theorem le_nil:Le [] []=True:=propext ⟨fun _=>trivial,fun _=>Le.refl _⟩
theorem le_cn(x:Option W)(a b:En):Le (none::a) (x::b)=Le a b:=by
 refine propext ⟨fun h=>⟨by have:=h.1;simpa using this,fun i w e=>by have:=h.2 (i+1) w (by simpa using e);simpa using this⟩,fun h=>⟨by simp[h.1],fun i w e=>?_⟩⟩
 cases i with
 | zero=>simp at e
 | succ i=>simpa using h.2 i w (by simpa using e)
theorem le_cs(x:Option W)(a b:En):Le (x::a) (x::b)=Le a b:=by
 refine propext ⟨fun h=>⟨by have:=h.1;simpa using this,fun i w e=>by have:=h.2 (i+1) w (by simpa using e);simpa using this⟩,fun h=>⟨by simp[h.1],fun i w e=>?_⟩⟩
 cases i with
 | zero=>simpa using e
 | succ i=>simpa using h.2 i w (by simpa using e)
theorem VR.le{K:W.Frag}{ρ0:En}(R:VR K rl F₀ H₀ F H σ ρ)(h:Le ρ0 ρ):VR K rl F₀ H₀ F H σ ρ0 :=
 ⟨R.g,fun i w e=>R.sl i w (h.2 i w e),fun i j x y v n e1 e2=>R.ap i j x y v n (h.2 i x e1) (h.2 j y e2),fun i xs e=>R.np i xs (h.2 i _ e),h.1.trans R.len⟩
noncomputable def fo:List Nat->En->En
 | [],ρ=>ρ
 | i::l,ρ=>fo l (ρ.set i none)
theorem wX(ρ:En)(i:Nat):Le (ρ.set i none) ρ:=by
 refine⟨by simp,fun j w e=>?_⟩;rw[F_]at e;split at e
 · split at e
   · cases e
   · cases e
 · exact e
theorem eM:∀(l:List Nat)(ρ:En),Le (fo l ρ) ρ
 | [],ρ=>Le.refl ρ
 | i::l,ρ=>(eM l (ρ.set i none)).trans (wX ρ i)
theorem fo_nil(ρ:En):fo [] ρ=ρ:=rfl
theorem fo_cons(i:Nat)(l:List Nat)(ρ:En):fo (i::l) ρ=fo l (ρ.set i none):=rfl
noncomputable def cy(fl:List Nat)(g:DY)(t:DV):List ET->DV
 | [],D,ρ=>D.nx ρ
 | x::xs,D,ρ=>g x ρ fun ρ2=>t {D with nx:=fun ρ'=>cy fl g t xs D (fo fl ρ'),ct:=fun ρ'=>cy fl g t xs D (fo fl ρ'),bk:=fun ρ'=>D.nx (fo fl ρ')} ρ2
noncomputable def vw(fl:List Nat)(fi:En->(List ET->Prop)->Prop)(g:DY)(t:DV):DV:=fun D ρ=>fi ρ fun xs=>cy fl g t xs D (fo fl ρ)
section
variable{X:Cx}{rl:RlT}{st:Stmt}{rest body:List Stmt}{t u:DV}{a b c e:Expr}{es:List Expr}{fa fb:TV}{fs:DU}{f:TB}{pos p:Pos}
theorem cS(fl:List Nat){g:DY}(hp:Ld (FA X.prog X.w) X.A X.env X.xe)(hc:X.calm=true)(hi:Ef X rl tg iter fi)(hg:Ei X rl tg g)(hb:lq X rl body t)
 (hs:autoParam (∀x,FC iter X.env x=pure x) æd._auto_1):Ec X rl (.For tg iter body [] pos) (vw fl fi g t):=by
 obtain⟨wi,p0,k0⟩:=hi;obtain⟨G,p1,k1⟩:=hg;obtain⟨T,p2,k2⟩:=hb;refine⟨_,qZ hp hc p0 p1 p2 hs,fun{F₀ H₀ F H σ ρ} R Dv D ok q=>k0 R _ _ q fun J xs F1 H1 g1 vi q1=>?_⟩;refine⟨fun i m σ H=>m=xs.length-i/\i<=xs.length/\∃F ρ,bJ F1 F/\VR X.K rl F₀ H₀ F H σ ρ/\cy fl g t (xs.drop i) Dv ρ,⟨xs.length,by simp,FE _,F1,fo fl ρ,.refl _,(R.grow g1).le (eM fl ρ),by simpa using q1⟩,?_⟩;rintro i m σ H ⟨rfl,hi,F2,ρ2,s2,R2,j2⟩;have sH:bJ F1 H:=s2.trans R2.sub;by_cases hlt:i<xs.length
 · have ei:xs[i]?=some xs[i]:=by simp[hlt]
   rw[FS hlt]at j2;refine .inr ⟨vi.go i H _ ei sH,fun σ' H'=>∃F ρ,bJ F1 F/\VR X.K rl F₀ H₀ F H' σ' ρ/\cy fl g t (xs.drop (i+1)) Dv ρ,fun σ' H' z=>⟨xs.length-(i+1),by omega,rfl,hlt,z⟩,fun v H' y=>?_⟩;obtain⟨Fy,gy,rv⟩:=vi.yld i H v H' _ F2 ei s2 R2.sub R2.reel y;refine k1 (R2.grow gy) v _ _ _ rv j2 fun F3 H3 σ3 ρ3 s3 n3 R3 q3=>?_;have s13:bJ F1 F3:=s2.trans (gy.fs.trans s3.fs)
   exact k2 R3 {Dv with nx:=fun ρ'=>cy fl g t (xs.drop (i+1)) Dv (fo fl ρ'),ct:=fun ρ'=>cy fl g t (xs.drop (i+1)) Dv (fo fl ρ'),bk:=fun ρ'=>Dv.nx (fo fl ρ')} _
    ⟨fun F4 H4 σ4 ρ4 s4 R4 q4=>⟨F4,fo fl ρ4,s13.trans s4,R4.le (eM fl ρ4),q4⟩,ok.rt,fun F4 H4 σ4 ρ4 s4 R4 q4=>ok.nx _ _ _ _ (g1.fs.trans (s13.trans s4)) (R4.le (eM fl ρ4)) q4,fun F4 H4 σ4 ρ4 s4 R4 q4=>⟨F4,fo fl ρ4,s13.trans s4,R4.le (eM fl ρ4),q4⟩⟩ q3
 · have e:i=xs.length:=by omega
   subst e;rw[G3]at j2;exact .inl ⟨vi.stop _ H (E3 _) sH,ok.nx _ _ _ _ (g1.fs.trans s2) R2 j2⟩
noncomputable def Cf(fl:List Nat)(f:TB)(t:DV)(m:Nat):DV:=fun D ρ=>f ρ fun b=>if b=true then t {D with nx:=fun ρ'=>∃k,∃h:k<m,Cf fl f t k D (fo fl ρ'),ct:=fun ρ'=>∃k,∃h:k<m,Cf fl f t k D (fo fl ρ'),bk:=fun ρ'=>D.nx (fo fl ρ')} ρ else D.nx ρ
termination_by m
noncomputable def mJ(fl:List Nat)(f:TB)(t:DV):DV:=fun D ρ=>∃m,Cf fl f t m D (fo fl ρ)
theorem qP(fl:List Nat)(f:TB)(t:DV)(m:Nat)(D:VEnds)(ρ:En):Cf fl f t m D ρ=f ρ fun b=>if b=true then t {D with nx:=fun ρ'=>∃k,∃h:k<m,Cf fl f t k D (fo fl ρ'),ct:=fun ρ'=>∃k,∃h:k<m,Cf fl f t k D (fo fl ρ'),bk:=fun ρ'=>D.nx (fo fl ρ')} ρ else D.nx ρ:=by
 conv=>lhs;unfold Cf
theorem iK(fl:List Nat)(hp:Ld (FA X.prog X.w) X.A X.env X.xe)(hc:PB X rl c f)(hb:lq X rl body t):Ec X rl (.While c body [] pos) (mJ fl f t):=by
 obtain⟨t0,p0,k0⟩:=hc;obtain⟨t1,p1,k1⟩:=hb;refine⟨_,pO hp p0 p1,fun{F₀ H₀ F H σ ρ} R Dv D ok q=>?_⟩;obtain⟨m,j0⟩:=q;refine⟨fun m σ' H'=>∃F' ρ',bJ F F'/\VR X.K rl F₀ H₀ F' H' σ' ρ'/\Cf fl f t m Dv ρ',⟨m,F,fo fl ρ,.refl _,R.le (eM fl ρ),j0⟩,?_⟩;rintro m σ2 H2 ⟨F2,ρ2,s2,R2,j⟩;rw[qP]at j;refine k0 R2 _ _ j fun b F1 H1 g1 q1=>?_
 cases b with
 | false=>exact ok.nx _ _ _ _ (s2.trans g1.fs) (R2.grow g1) q1
 | true =>
   refine⟨fun σ' H'=>∃F' ρ',bJ F F'/\VR X.K rl F₀ H₀ F' H' σ' ρ'/\∃m',m'<m/\Cf fl f t m' Dv ρ',fun σ' H' ⟨F',ρ',s',R',m',hm,j⟩=>⟨m',hm,F',ρ',s',R',j⟩,?_⟩
   exact k1 (R2.grow g1) {Dv with nx:=fun ρ'=>∃k,∃h:k<m,Cf fl f t k Dv (fo fl ρ'),ct:=fun ρ'=>∃k,∃h:k<m,Cf fl f t k Dv (fo fl ρ'),bk:=fun ρ'=>Dv.nx (fo fl ρ')} _
    ⟨fun F3 H3 σ3 ρ3 s3 R3 ⟨m',hm,q3⟩=>⟨F3,fo fl ρ3,(s2.trans g1.fs).trans s3,R3.le (eM fl ρ3),m',hm,q3⟩,ok.rt,fun F3 H3 σ3 ρ3 s3 R3 q3=>ok.nx _ _ _ _ ((s2.trans g1.fs).trans s3) (R3.le (eM fl ρ3)) q3,fun F3 H3 σ3 ρ3 s3 R3 ⟨m',hm,q3⟩=>⟨F3,fo fl ρ3,(s2.trans g1.fs).trans s3,R3.le (eM fl ρ3),m',hm,q3⟩⟩ q1
end
noncomputable def Dk(fl:List Nat)(k:En->Mo Fl):Fl->Mo Fl
 | .nx ρ=>k (fo fl ρ)
 | .ct ρ=>k (fo fl ρ)
 | .bk ρ=>ret (.nx (fo fl ρ))
 | .rt w=>ret (.rt w)
noncomputable def dM(fl:List Nat)(b:ET->En->Mo Fl):List ET->En->Mo Fl
 | [],ρ=>ret (.nx ρ)
 | x::xs,ρ=>DK (b x ρ) (Dk fl (dM fl b xs))
theorem jP(fl:List Nat)(g:DY)(t:DV):∀(xs:List ET)(ρ:En),mS (cy fl g t xs) ρ=dM fl (fun x ρ=>DK (g x ρ) (mS t)) xs ρ
 | [],ρ=>rfl
 | x::xs,ρ=>by
   refine ag fun Q=>?_;show(g x ρ fun ρ2=>t ⟨fun ρ'=>mS (cy fl g t xs) (fo fl ρ') Q,fun w=>Q (.rt w),fun ρ'=>Q (.nx (fo fl ρ')),fun ρ'=>mS (cy fl g t xs) (fo fl ρ') Q⟩ ρ2)↔_;simp only[jP fl g t xs];exact Ip
noncomputable def DL(g:DY)(t:DV):ET->En->Mo Fl:=fun x ρ=>DK (g x ρ) (mS t)
theorem bdy_ap(g:DY)(t:DV)(x:ET)(ρ:En):DL g t x ρ=DK (g x ρ) (mS t):=nr rfl
theorem s_for(fl:List Nat)(fi:En->(List ET->Prop)->Prop)(g:DY)(t:DV)(ρ:En):mS (vw fl fi g t) ρ=DK (fi ρ) fun xs=>dM fl (DL g t) xs (fo fl ρ):=by
 refine ag fun Q=>?_;show(fi ρ fun xs=>mS (cy fl g t xs) (fo fl ρ) Q)↔_;simp only[jP];exact Ip
noncomputable def Dj(fl:List Nat)(J:En->Prop)(Q:Fl->Prop):Fl->Prop
 | .nx ρ=>J (fo fl ρ)
 | .ct ρ=>J (fo fl ρ)
 | .bk ρ=>Q (.nx (fo fl ρ))
 | .rt w=>Q (.rt w)
section
variable{α σ:Type}{fl:List Nat}{b:ET->En->Mo Fl}
theorem kQ(J:Nat->En->Prop){Q:Fl->Prop}:∀{xs:List ET}{ρ:En}(n:Nat),J n ρ->(∀i x ρ,xs[i]?=some x->J (n+i) ρ->∀k:Fl->Prop,(∀r,Dj fl (J (n+i+1)) Q r->k r)->b x ρ k)->(∀ρ,J (n+xs.length) ρ->Q (.nx ρ))->dM fl b xs ρ Q
 | [],ρ,n,h0,_,fin=>fin ρ h0
 | x::xs,ρ,n,h0,step,fin=>by
   refine step 0 x ρ rfl h0 (fun r=>Dk fl (dM fl b xs) r Q) fun r hr=>?_;have rc:∀ρ',J (n+1) ρ'->dM fl b xs ρ' Q:=fun ρ' h'=>kQ J (n+1) h' (fun i y ρ e j k hk=>step (i+1) y ρ (by simpa using e) (by rw[show n+(i+1)=n+1+i by omega];exact j) k (by rw[show n+(i+1)+1=n+1+i+1 by omega];exact hk)) (fun ρ j=>fin ρ (by rw[Gq,show n+(xs.length+1)=n+1+xs.length by omega];exact j))
   cases r with
   | nx ρ'=>exact rc _ hr
   | ct ρ'=>exact rc _ hr
   | bk ρ'=>exact hr
   | rt w=>exact hr
theorem nP{xs:List α}{enc:α->ET}{Q:Fl->Prop}(J:Nat->En->Prop)(h0:J 0 ρ)
 (step:∀i (h:i<xs.length) ρ,J i ρ->∀k:Fl->Prop,(∀r,Dj fl (J (i+1)) Q r->k r)->b (enc xs[i]) ρ k)(fin:∀ρ,J xs.length ρ->Q (.nx ρ)):dM fl b (xs.map enc) ρ Q:=by
 refine kQ J 0 h0 (fun i x ρ e j k hk=>?_) (fun ρ j=>fin ρ (by simpa using j));have hi:i<xs.length:=by have:=(Ff.mp e).1;simpa using this
 rw[Gr,FX hi]at e;cases e;rw[Nat.zero_add]at j hk;exact step i hi ρ j k hk
theorem p8{lo:Int}{Q:Fl->Prop}(J:Nat->En->Prop)(h0:J 0 ρ)
 (step:∀i,i<n->∀ρ,J i ρ->∀k:Fl->Prop,(∀r,Dj fl (J (i+1)) Q r->k r)->b (.int (lo+i)) ρ k)(fin:∀ρ,J n ρ->Q (.nx ρ)):dM fl b (aU lo n) ρ Q:=by
 refine nP (xs:=Gm n) J h0 (fun i h ρ j k hk=>?_) (fun ρ j=>fin ρ (by simpa using j));rw[List.getElem_range];exact step i (by simpa using h) ρ j k hk
end
noncomputable def gN(fl:List Nat)(f:TB)(t:DV)(ρ:En):Mo Fl:=fun Q=>∃m,mS (Cf fl f t m) ρ Q
theorem s_while(fl:List Nat)(f:TB)(t:DV)(ρ:En):mS (mJ fl f t) ρ=gN fl f t (fo fl ρ):=nr rfl
theorem pg(fl:List Nat)(f:TB)(t:DV)(m:Nat)(ρ:En):mS (Cf fl f t m) ρ=DK (f ρ) fun b=>if b=true then DK (mS t ρ) (Dk fl fun ρ'=>fun Q=>∃k,∃h:k<m,mS (Cf fl f t k) ρ' Q)else ret (.nx ρ):=by
 refine ag fun Q=>?_;show Cf fl f t m _ ρ↔_;rw[qP];simp only[DK,e8];exact Ip
theorem rX{fl:List Nat}{f:TB}{t:DV}(h:f ρ=ret false):gN fl f t ρ=ret (.nx ρ):=by
 refine ag fun Q=>?_;constructor
 · rintro⟨m,q⟩;rw[pg,h,bnd_ret,if_neg (by decide)]at q;exact q
 · intro q;refine⟨0,?_⟩;rw[pg,h,bnd_ret,if_neg (by decide)];exact q
theorem rW{fl:List Nat}{f:TB}{t:DV}{ρ':En}(h:f ρ=ret true)(h2:mS t ρ=ret (.nx ρ')):gN fl f t ρ=gN fl f t (fo fl ρ'):=by
 refine ag fun Q=>?_;constructor
 · rintro⟨m,q⟩;rw[pg,h,bnd_ret,if_pos rfl,h2,bnd_ret]at q;obtain⟨k,_,q⟩:=q;exact⟨k,q⟩
 · rintro⟨m,q⟩;refine⟨m+1,?_⟩;rw[pg,h,bnd_ret,if_pos rfl,h2,bnd_ret];exact⟨m,Nat.lt_succ_self m,q⟩
theorem mh{σ:Type}{fl:List Nat}{f:TB}{t:DV}(st:σ->En)(c:σ->Bool)(nxt:σ->σ)(μ:σ->Nat)(I:σ->Prop)
 (hf:∀s,I s->f (st s)=ret (c s))(ht:∀s,I s->c s=true->I (nxt s)/\μ (nxt s)<μ s/\∃ρ',mS t (st s)=ret (.nx ρ')/\fo fl ρ'=st (nxt s))(s:σ)(hs:I s):∃s',I s'/\c s'=false/\gN fl f t (st s)=ret (.nx (st s')):=by
 induction hm:μ s using Nat.strongRecOn generalizing s with
 | ind n ih =>
   subst hm
   cases hc:c s with
   | false=>exact⟨s,hs,hc,rX (by rw[hf s hs,hc])⟩
   | true =>
     obtain⟨i1,m1,ρ',e1,e2⟩:=ht s hs hc;obtain⟨s',a,b,e⟩:=ih _ m1 (nxt s) i1 rfl;exact⟨s',a,b,by rw[rW (by rw[hf s hs,hc]) e1,e2,e]⟩
noncomputable def kr(ρ0:En)(g:DY)(ft:TB)(fe:TV):List ET->List ET->(List ET->Prop)->Prop
 | [],acc,Q=>Q acc
 | x::xs,acc,Q=>g x ρ0 fun ρ2=>Le ρ0 ρ2/\ft ρ2 fun b=>if b=true then fe ρ2 fun w=>∃d,w.fz = .d d/\acc.length<sizeLine/\kr ρ0 g ft fe xs (acc++[d]) Q else kr ρ0 g ft fe xs acc Q
noncomputable def kw(fi:En->(List ET->Prop)->Prop)(fr:List (Option Nat))(g:DY)(ft:TB)(fe:TV):TV:=fun ρ Q=>fi ρ fun xs=>kr (dP fr ρ) g ft fe xs [] fun ds=>Q (.ml ds)
section
variable{X:Cx}{rl:RlT}{elt tg iter:Expr}{ifs:List Expr}{scope:Scope}{pos:Pos}{fi:En->(List ET->Prop)->Prop}{g:DY}{ft:TB}{fe:TV}
theorem kW{wi:TI}(fr:List (Option Nat))(k0:∀{F₀ H₀ F H:Hp}{σ:St}{ρ:En},VR X.K rl F₀ H₀ F H σ ρ->∀(Qd:List ET->Prop)(R:It->Hp->Prop),fi ρ Qd ->
 (∀J xs F' H',Grow rl F H F' H'->VIt X.K rl F' J xs->Qd xs->R J H')->wi σ H R)
 (hg:∀y,Ei (blk X N' scope y) rl tg g)(ht:∀y,o8 (blk X N' scope y) rl ifs ft)(he:∀y,PV (blk X N' scope y) rl elt fe)
 (R:VR X.K rl F₀ H₀ F H σ ρ)(Qd:W->Prop)(Q:VK)(q:kw fi fr g ft fe ρ Qd)
 (k:∀v w F' H',Grow rl F H F' H'->c7 X.K rl F' H' v w->dB H v w->Qd w->Q v H'):pF wi fr (fun y=>Ft (hg y)) (fun y=>Ft (ht y)) (fun y=>Ft (he y)) σ H Q:=by
 refine k0 R _ _ q fun J xs F1 H1 g1 vi q1=>?_;intro D hD;have rD:rl.a≠some D:=fun e=>by obtain⟨o,z⟩:=g1.reel.live e;rw[hD]at z;cases z
 have FD:F1 D=none:=g1.sub.free hD;have gD:Grow rl F1 H1 F1 (Co H1 D (.lst [])):=Grow.laid g1.sub g1.reel hD;have R1:=R.grow g1;have n0:lV (dP fr ρ):=du
 refine⟨fun i m acc σc Hc=>m=xs.length-i/\i<=xs.length/\∃Fc ds,VR X.K rl F1 H1 Fc Hc σc (dP fr ρ)/\Hc D=some (.lst acc)/\Fc D=none/\Reps X.K Fc acc ds/\kr (dP fr ρ) g ft fe (xs.drop i) ds (fun ds=>Qd (.ml ds)),
  ⟨xs.length,by simp,FE _,F1,[],fg R1 gD,ar,FD,.nil,by simpa using q1⟩,?_⟩
 rintro z i m acc σc Hc ⟨rfl,hi,Fc,ds,Rc,hDc,fDc,rs,q2⟩;have sH:bJ F1 Hc:=Rc.g.fs.trans Rc.sub;by_cases hlt:i<xs.length
 · have ei:xs[i]?=some xs[i]:=by simp[hlt]
   have ed:xs.drop i=xs[i]::xs.drop (i+1):=FS hlt;rw[ed]at q2;refine .inr ⟨vi.go i Hc _ ei sH,fun v H' y=>?_⟩;obtain⟨Fy,gy,rv⟩:=vi.yld i Hc v H' _ Fc ei Rc.g.fs Rc.sub Rc.reel y;refine(EV (hg z)).2 (Rc.grow gy) v _ _ _ rv q2 fun F3 H3 σ3 ρ3 g3 n3 R3 ⟨le3,q3⟩=>?_;refine(EV (ht z)).2 R3 _ _ q3 fun b F4 H4 g4 q4=>?_;have R4:=R3.grow g4;have g34:=(gy.trans g3).trans g4;have keepD:∀{Fx Hx:Hp},Grow rl Fc Hc Fx Hx->Hx D=some (.lst acc)/\Fx D=none:=fun gx=>⟨gx.same D _ hDc rD,by rw[gx.old D _ hDc];exact fDc⟩
   cases b with
   | false=>exact⟨xs.length-(i+1),by omega,rfl,hlt,F4,ds,R4.le le3,(keepD g34).1,(keepD g34).2,rs.mono g34.fs,q4⟩
   | true =>
     refine(EV (he z)).2 R4 _ _ q4 fun v5 w5 F5 H5 g5 r5 n5 ⟨d,ed5,hl,q5⟩=>?_;obtain⟨F6,g6,s6,r6⟩:=c7.fz g5 r5 n5;rw[ed5]at r6;have g36:=g34.trans g6;refine⟨(keepD g36).1,by rw[rs.length];exact hl,xs.length-(i+1),by omega,rfl,hlt,F6,ds++[d],((R4.grow g6).le le3).other n0 hD (keepD g36).2 rD,ar,(keepD g36).2,(rs.mono g36.fs).snoc r6,q5⟩
 · have e:i=xs.length:=by omega
   subst e;rw[G3]at q2;refine .inl ⟨vi.stop _ Hc (E3 _) sH,k _ (.ml ds) Fc Hc (g1.trans Rc.g) ⟨D,acc,rfl,fDc,rD,hDc,rs⟩ (fun a ea=>by cases ea;exact g1.freeB hD) q2⟩
theorem bN(N':List Str)(fr:List (Option Nat))(hc:X.calm=true)(hi:Ef X rl tg iter fi)
 (hg:∀y,Ei (blk X N' scope y) rl tg g)(ht:∀y,o8 (blk X N' scope y) rl ifs ft)(he:∀y,PV (blk X N' scope y) rl elt fe)
 (hfr:autoParam (lS fr N' X.N scope X.env.scope=true) æa._auto_1)(hsc:autoParam (lW scope X.env.scope=true) æa._auto_1)
 (hs:autoParam (∀x,FC iter X.env x=pure x) æd._auto_1):PV X rl (.ListComp elt [⟨tg,iter,ifs,0⟩] scope pos) (kw fi fr g ft fe):=by
 obtain⟨wi,p0,k0⟩:=hi;exact⟨_,iw N' fr hc p0 hfr hsc (fun y=>(EV (hg y)).1) (fun y=>(EV (ht y)).1) (fun y=>(EV (he y)).1) hs,fun R Qd Q q k=>kW fr k0 hg ht he R Qd Q q k⟩
end
noncomputable def Dr(ρ0:En)(g:DY)(ft:TB)(fe:TV)(x:ET):Mo (Option ET):=DK (g x ρ0) fun ρ2=>Dy (Le ρ0 ρ2) (DK (ft ρ2) fun b=>if b=true then DK (fe ρ2) fun w=>aC (asD w.fz) fun d=>ret (some d)else ret none)
noncomputable def cB(b:ET->Mo (Option ET)):List ET->List ET->Mo (List ET)
 | [],acc=>ret acc
 | x::xs,acc=>DK (b x) fun o=>match o with
   | some d=>Dy (acc.length<sizeLine) (cB b xs (acc++[d]))
   | none=>cB b xs acc
theorem iH(ρ0:En)(g:DY)(ft:TB)(fe:TV):∀(xs acc:List ET),kr ρ0 g ft fe xs acc=cB (Dr ρ0 g ft fe) xs acc
 | [],acc=>rfl
 | x::xs,acc=>by
   refine ag fun Q=>?_;show(g x ρ0 fun ρ2=>Le ρ0 ρ2/\ft ρ2 fun b=>if b=true then fe ρ2 fun w=>∃d,w.fz = .d d/\acc.length<sizeLine/\kr ρ0 g ft fe xs (acc++[d]) Q else kr ρ0 g ft fe xs acc Q)↔(DK (Dr ρ0 g ft fe x) _) Q;simp only[iH ρ0 g ft fe xs]
   have:∀(ρ2:En)(b:Bool),(if b=true then fe ρ2 fun w=>∃d,w.fz = .d d/\acc.length<sizeLine/\cB (Dr ρ0 g ft fe) xs (acc++[d]) Q else cB (Dr ρ0 g ft fe) xs acc Q)=(DK (if b=true then DK (fe ρ2) fun w=>aC (asD w.fz) fun d=>ret (some d)else ret none) fun o=>match o with
   | some d=>Dy (acc.length<sizeLine) (cB (Dr ρ0 g ft fe) xs (acc++[d]))
   | none=>cB (Dr ρ0 g ft fe) xs acc) Q:=by
     intro ρ2 b
     cases b with
     | false=>rfl
     | true =>
       rw[if_pos rfl,if_pos rfl];show _=fe ρ2 fun w=>_;congr 1;funext w;refine propext ?_;show _↔(DK (aC (asD w.fz) fun d=>ret (some d)) _) Q;rw[bnd_opt,ai];simp only[ff];exact Ip
   simp only[this];exact Ip
theorem m_comp(fi:En->(List ET->Prop)->Prop)(fr:List (Option Nat))(g:DY)(ft:TB)(fe:TV)(ρ:En):kw fi fr g ft fe ρ=DK (fi ρ) fun xs=>DK (cB (Dr (dP fr ρ) g ft fe) xs []) fun ds=>ret (.ml ds):=by
 refine ag fun Q=>?_;show(fi ρ fun xs=>kr (dP fr ρ) g ft fe xs [] fun ds=>Q (.ml ds))↔_;simp only[iH];exact Ip
section
variable{α:Type}{b:ET->Mo (Option ET)}
theorem eh{enc:α->ET}(f:α->Option ET):∀(xs:List α)(acc:List ET),(∀x∈xs,b (enc x)=ret (f x))->acc.length+xs.length<=sizeLine->cB b (xs.map enc) acc=ret (acc++xs.filterMap f)
 | [],acc,_,_=>by simp[cB]
 | x::xs,acc,h,hl=>by
   show DK (b (enc x)) _=_;rw[h x E7,bnd_ret];simp at hl
   cases e:f x with
   | none =>
     show cB b (xs.map enc) acc=_
     rw[eh f xs acc (fun y hy=>h y (E9 _ hy)) (by omega),JM e]
   | some d =>
     show Dy (acc.length<sizeLine) (cB b (xs.map enc) (acc++[d]))=_;rw[aj (by omega),eh f xs (acc++[d]) (fun y hy=>h y (E9 _ hy)) (by simp;omega),List.filterMap_cons_some e];simp
theorem oN{xs:List α}{enc:α->ET}(f:α->Option ET)(h:∀x∈xs,b (enc x)=ret (f x))(hl:xs.length<=sizeLine):cB b (xs.map enc) []=ret (xs.filterMap f):=by
 have:=eh f xs [] h (by simpa using hl);simpa using this
theorem comp_map{xs:List α}{enc:α->ET}(f:α->ET)(h:∀x∈xs,b (enc x)=ret (some (f x)))(hl:xs.length<=sizeLine):cB b (xs.map enc) []=ret (xs.map f):=by
 rw[oN (fun x=>some (f x)) h hl,Kf]
theorem oK{lo:Int}(f:Nat->ET)(h:∀j,j<n->b (.int (lo+j))=ret (some (f j)))(hl:n<=sizeLine):cB b (aU lo n) []=ret ((Gm n).map f) :=
 comp_map (xs:=Gm n) f (fun j hj=>h j (Ix.mp hj)) (by simpa using hl)
theorem e9{enc:α->ET}(R:α->ET->Prop){Q:List ET->Prop}:∀(xs:List α)(acc:List ET),(∀x∈xs,∀k:Option ET->Prop,(∀d,R x d->k (some d))->b (enc x) k)->acc.length+xs.length<=sizeLine->(∀ds,GO R xs ds->Q (acc++ds))->cB b (xs.map enc) acc Q
 | [],acc,_,_,fin=>by have:=fin [] .nil;rw[GQ]at this;exact this
 | x::xs,acc,h,hl,fin=>by
   simp at hl;refine h x E7 _ fun d r=>?_;refine⟨by omega,e9 R xs (acc++[d]) (fun y hy=>h y (E9 _ hy)) (by simp;omega) fun ds ps=>?_⟩;have:=fin (d::ds) (.cons r ps);simpa using this
theorem qD{xs:List α}{enc:α->ET}(R:α->ET->Prop){Q:List ET->Prop}(h:∀x∈xs,∀k:Option ET->Prop,(∀d,R x d->k (some d))->b (enc x) k)(hl:xs.length<=sizeLine)(fin:∀ds,GO R xs ds->Q ds):cB b (xs.map enc) [] Q :=
 e9 R xs [] h (by simpa using hl) (by simpa using fin)
theorem oO{lo:Int}(P:ET->Prop){Q:List ET->Prop}(h:∀j,j<n->∀k:Option ET->Prop,(∀d,P d->k (some d))->b (.int (lo+j)) k)(hl:n<=sizeLine)(fin:∀ds:List ET,ds.length=n->(∀d∈ds,P d)->Q ds):cB b (aU lo n) [] Q:=by
 refine qD (xs:=Gm n) (fun _ d=>P d) (fun j hj=>h j (Ix.mp hj)) (by simpa using hl) fun ds ps=>?_;refine fin ds ?_ ?_
 · have:=GI ps;simpa using this.symm
 · clear fin h hl;intro d hd;generalize Gm n=l at ps
   induction ps with
   | nil=>cases hd
   | cons r _ ih=>exact(FV.mp hd).elim (fun e=>by rw[e];exact r) ih
end
section
variable(c:Prop)[Decidable c]
theorem ite_nx(a b:En):(if c then ret (Fl.nx a)else ret (Fl.nx b))=ret (Fl.nx (if c then a else b)):=by split<;>rfl
theorem ite_rt(a b:W):(if c then ret (Fl.rt a)else ret (Fl.rt b))=ret (Fl.rt (if c then a else b)):=by split<;>rfl
theorem ite_retd(a b:ET):(if c then ret (W.d a)else ret (W.d b))=ret (W.d (if c then a else b)):=by split<;>rfl
theorem ite_retb(a b:Bool):(if c then ret a else ret b)=ret (if c then a else b):=by split<;>rfl
theorem ite_rets(a b:ET):(if c then ret (some a)else ret (some b))=ret (some (if c then a else b)):=by split<;>rfl
theorem ite_cons{α:Type}(x y:α)(l m:List α):(if c then x::l else y::m)=(if c then x else y)::(if c then l else m):=by split<;>rfl
theorem ite_some{α:Type}(x y:α):(if c then some x else some y)=some (if c then x else y):=by split<;>rfl
theorem ite_d(a b:ET):(if c then W.d a else W.d b)=W.d (if c then a else b):=by split<;>rfl
theorem ite_pi(a b:Int):(if c then FG a else FG b)=FG (if c then a else b):=by split<;>rfl
theorem ite_pb(a b:Bool):(if c then J0 a else J0 b)=J0 (if c then a else b):=by split<;>rfl
theorem itb_tt(b y:Bool):(if b=true then true else y)=(b||y):=by cases b<;>rfl
theorem itb_ff(b y:Bool):(if b=true then y else false)=(b&&y):=by cases b<;>rfl
theorem itb_ft(b y:Bool):(if b=true then false else y)=(!b&&y):=by cases b<;>rfl
theorem itb_tf(b y:Bool):(if b=true then y else true)=(!b||y):=by cases b<;>rfl
end
theorem af(h:n<=1000):(n<=sizeLine)=True:=by have:=FI;exact propext ⟨fun _=>trivial,fun _=>by omega⟩
theorem tup2(x y:ET):(match [x,y]with | [x,y]=>some (x,y)|_=>none)=some (x,y):=rfl
theorem bnd_tt{α β:Type}(a:α)(f:α->Mo β):DK (fun Q=>Q a) f=f a:=nr rfl
section
variable{α β:Type}
theorem aL{P:α->Prop}{f:α->Mo β}{Q:β->Prop}(h:∀a,P a->f a Q):DK (anyM P) f Q:=h
theorem bY{P:Prop}{m:Mo α}{Q:α->Prop}(h:P)(h':m Q):Dy P m Q:=⟨h,h'⟩
theorem df{c:Prop}[Decidable c]{a b:Mo α}{Q:α->Prop}(h:c->a Q)(h':¬c->b Q):(if c then a else b) Q:=by split<;>simp_all
end
theorem aE{Q:ET->Prop}(h:Q d):ret (Fl.rt (.d d)) (xA Q):=⟨d,rfl,h⟩
section
variable{α:Type}{k:En->Mo Fl}{Q:Fl->Prop}
theorem CO{m:Mo α}{h:α->Mo Fl}(z:DK m (fun a=>sq (h a) k) Q):sq (DK m h) k Q:=z
theorem CN{o:Option α}{h:α->Mo Fl}(z:aC o (fun a=>sq (h a) k) Q):sq (aC o h) k Q:=by rw[vT];exact z
noncomputable def kc(k1 k2:En->Mo Fl):En->Mo Fl:=fun ρ=>sq (k1 ρ) k2
theorem kc_ap(k1 k2:En->Mo Fl)(ρ:En):kc k1 k2 ρ=sq (k1 ρ) k2:=nr rfl
theorem sq_sq(m:Mo Fl)(k1 k2:En->Mo Fl):sq (sq m k1) k2=sq m (kc k1 k2):=by
 refine ag fun Q=>?_;show m _↔m _;have:∀fl:Fl,(sq (match fl with | .nx ρ=>k1 ρ | .rt w=>ret (.rt w) | .bk ρ=>ret (.bk ρ) | .ct ρ=>ret (.ct ρ)) k2) Q=(match fl with | .nx ρ=>kc k1 k2 ρ | .rt w=>ret (.rt w) | .bk ρ=>ret (.bk ρ) | .ct ρ=>ret (.ct ρ):Mo Fl) Q:=by intro fl;cases fl<;>rfl
 exact Iff.of_eq (congrArg m (funext this))
theorem bi{P:α->Prop}{f:α->Mo Fl}(z:∀a,P a->sq (f a) k Q):sq (DK (anyM P) f) k Q:=z
end
theorem pk_sc(x:List Int):L2.VL.W.peek (.sc x) = .sc x:=rfl
theorem fz_sc(x:List Int):(W.sc x).fz = .sc x:=rfl
theorem arg_sc(x:List Int):dr (.sc x)=true:=rfl
theorem isPk_sc(x:List Int):(W.sc x).isPk=false:=rfl
section
variable{X:Cx}{rl:RlT}{a b c e:Expr}{es:List Expr}{fa fb fc:TV}{fs:DU}{pos p p2:Pos}{ρ:En}
noncomputable def xp:List W->(W->Prop)->Prop:=fun ws Q=>∃ns,ws=[.sc ns]/\Q (.d (.int ns.length))
noncomputable def asSc:W->Option (List Int)
 | .sc ns=>some ns
 | _=>none
theorem asSc_s(ns:List Int):asSc (.sc ns)=some ns:=rfl
theorem jX{w:W}{i:List Int}:asSc w=some i↔w = .sc i:=by
 constructor
 · intro h;unfold asSc at h;split at h<;>simp_all
 · rintro rfl;rfl
theorem m_gLenS(w:W):xp [w]=aC (asSc w) fun ns=>ret (.d (.int ns.length)):=by
 refine ag fun Q=>?_;simp only[xp,ai,jX,ret,FJ,and_true]
noncomputable def AW:W->W->(W->Prop)->Prop:=fun x y Q=>∃ns i n,x = .sc ns/\y = .d (.int i)/\atI ns i=some n/\Q (.d (.int n))
theorem atI_map{β:Type}(f:α->β)(xs:List α)(i:Int):atI (xs.map f) i=(atI xs i).map f:=by
 unfold atI;rw[E1];cases ixN xs.length i<;>simp
theorem m_gIxS(x y:W):AW x y=aC (asSc x) fun ns=>aC (asI y) fun i=>aC (atI ns i) fun n=>ret (.d (.int n)):=by
 refine ag fun Q=>?_;simp only[AW,ai,jX,cC,ret];exact⟨fun⟨i,j,z,a,b,c,q⟩=>⟨i,a,j,b,z,c,q⟩,fun⟨i,a,j,b,z,c,q⟩=>⟨i,j,z,a,b,c,q⟩⟩
theorem m8{K:W.Frag}{F:Hp}:∀ns:List Int,Reps K F (ns.map V.int) (ns.map FG)
 | []=>.nil
 | n::ns=>.cons (.int n) (m8 ns)
noncomputable def yl(fa:TV)(fl fh:DW):TV:=fun ρ Q=>fa ρ fun w=>fl ρ fun l=>fh ρ fun h=>∃ns:List Int,w = .sc ns/\Q (.ml (cutD (ns.map .int) l h))
theorem u6{lo hi:Option Expr}{fl fh:DW}(ha:PV X rl a fa)(hl:D_ X rl lo fl)(hh:D_ X rl hi fh):PV X rl (.Subscript a (.Slice lo hi none p2) pos) (yl fa fl fh):=by
 obtain⟨t,p,k⟩:=ha;obtain⟨tl,pl,kl⟩:=hl;obtain⟨th,ph,kh⟩:=hh;refine⟨_,kJ sS p pl ph,fun R Qd Q q h=>k R _ _ q fun v w F1 H1 g1 r1 n1 q1=>?_⟩;refine kl (R.grow g1) _ _ q1 fun l F2 H2 g2 q2=>kh ((R.grow g1).grow g2) _ _ q2 fun u F3 H3 g3 q3=>?_;obtain⟨ns,rfl,q3⟩:=q3;obtain⟨a,rfl,sq⟩:=(r1.grow g2).grow g3;have g:=(g1.trans g2).trans g3;exact⟨a,_,rfl,sW g3.sub sq,fun p hp=>h _ (.ml _) _ _ (g.trans (Grow.laid g3.sub g3.reel hp)) (de g3.sub g3.reel hp ((m8 ns).cut l u)) (fun a ea=>by cases ea;exact g.freeB hp) q3⟩
theorem m_vSlS{fl fh:DW}:yl fa fl fh ρ=DK (fa ρ) fun w=>DK (fl ρ) fun l=>DK (fh ρ) fun h=>aC (asSc w) fun ns=>ret (.ml (cutD (ns.map .int) l h)):=by
 refine ag fun Q=>?_;simp only[yl,DK,ai,jX,ret]
end
noncomputable def CP(K:W.Frag)(pre:List W->Prop):Sp:=fun vs H Q _=>∃F ws,bJ F H/\eC K RlT.no F H vs ws/\ws.all dr=true/\pre ws/\∀r F' H',H r=none->Grow RlT.no F H F' H'->D7 (RlT.at' r BM) F' H'->Q (.ref r) H'
structure DfnR (P:Fo) (w:Gc) (K:W.Frag) (mg:Str->Option EX) (base:Heap) (x:Str) (ps:List Str) (k:Nat) (pre:List W->Prop):Prop where
 ex:∃f fd,mg x=some (.ref f)/\W.keepIn K (.ref f)=true/\Binds K fd ps []/\FnOk P w K mg base EG k f fd ps (CP K pre)
noncomputable def Dg:Option W->Option W
 | some .reel=>none
 | o=>o
noncomputable def nR(ρ:En):En:=ρ.map Dg
noncomputable def W.isR:W->Bool
 | .reel=>true
 | _=>false
noncomputable def vq(i:Nat)(pre:List W->Prop)(fs:DU)(t:DV):DV:=fun D ρ=>fs ρ fun ws=>ws.all dr=true/\pre ws/\t ⟨fun ρ'=>D.nx (nR ρ'),fun w=>w.isR=false/\D.rt w,fun ρ'=>D.bk (nR ρ'),fun ρ'=>D.ct (nR ρ')⟩ (ρ.set i (some .reel))
theorem uu{r:Addr}(g:Grow RlT.no F₀ H₀ F H)(ra:D7 (RlT.at' r BM) F H):Grow (RlT.at' r BM) F₀ H₀ F H:=⟨fun b o e _=>g.same b o e (by simp),g.fs,g.sub,g.old,ra⟩
theorem kZ{r:Addr}{n':Nat}(g:Grow (RlT.at' r n') F₀ H₀ F H)(n:H₀ r=none):Grow RlT.no F₀ H₀ F H:=⟨fun b o e _=>g.same b o e (fun z=>by cases z;rw[n]at e;cases e),g.fs,g.sub,g.old,fun _ z=>by cases z⟩
theorem wa{K:W.Frag}{r:Addr}{w:W}(h:c7 K RlT.no F H v w)(ne:∀a,w.own=true\/(∃xs,w = .pk xs)->v = .ref a->a≠r):c7 K (RlT.at' r BM) F H v w:=by
 cases w with
 | d x=>exact h
 | ml xs=>obtain⟨a,vs,e,f,_,g⟩:=h;exact⟨a,vs,e,f,fun z=>ne a (.inl rfl) e (by cases z;rfl),g⟩
 | pk xs=>obtain⟨a,vs,e,f,_,g⟩:=h;exact⟨a,vs,e,f,fun z=>ne a (.inr ⟨_,rfl⟩) e (by cases z;rfl),g⟩
 | reel=>obtain⟨_,z,_⟩:=h;cases z
 | vv u=>exact h
 | md kvs=>obtain⟨a,vs,e,f,_,g⟩:=h;exact⟨a,vs,e,f,fun z=>ne a (.inl rfl) e (by cases z;rfl),g⟩
 | mk kvs=>obtain⟨a,vs,e,f,_,g⟩:=h;exact⟨a,vs,e,f,fun z=>ne a (.inl rfl) e (by cases z;rfl),g⟩
 | xm kvs=>obtain⟨a,vs,e,f,_,g⟩:=h;exact⟨a,vs,e,f,fun z=>ne a (.inl rfl) e (by cases z;rfl),g⟩
 | nt ds=>exact h
 | lk=>trivial
 | sc ns=>exact h
 | fd _=>exact h
 | xr _=>exact h
 | xw _ _=>exact h
 | fw _=>exact h
 | ft _=>exact h
 | xc _ _=>exact h
 | dp _ _=>exact h
theorem m_{K:W.Frag}{r:Addr}{n':Nat}{w:W}(h:c7 K (RlT.at' r n') F H v w)(n:w.isR=false):c7 K RlT.no F H v w:=by
 cases w with
 | d x=>exact h
 | ml xs=>obtain⟨a,vs,e,f,_,g⟩:=h;exact⟨a,vs,e,f,by simp,g⟩
 | pk xs=>obtain⟨a,vs,e,f,_,g⟩:=h;exact⟨a,vs,e,f,by simp,g⟩
 | reel=>cases n
 | vv u=>exact h
 | md kvs=>obtain⟨a,vs,e,f,_,g⟩:=h;exact⟨a,vs,e,f,by simp,g⟩
 | mk kvs=>obtain⟨a,vs,e,f,_,g⟩:=h;exact⟨a,vs,e,f,by simp,g⟩
 | xm kvs=>obtain⟨a,vs,e,f,_,g⟩:=h;exact⟨a,vs,e,f,by simp,g⟩
 | nt ds=>exact h
 | lk=>trivial
 | sc ns=>exact h
 | fd _=>exact h
 | xr _=>exact h
 | xw _ _=>exact h
 | fw _=>exact h
 | ft _=>exact h
 | xc _ _=>exact h
 | dp _ _=>exact h
theorem kM{w:W}(h:(nR ρ)[i]?=some (some w)):ρ[i]?=some (some w)/\w.isR=false:=by
 unfold nR at h;rw[Gr]at h
 cases e:ρ[i]? with
 | none=>rw[e]at h;cases h
 | some o =>
   rw[e]at h
   cases o with
   | none=>cases h
   | some u=>cases u<;>first|(cases h;exact⟨rfl,rfl⟩)|cases h
theorem VR.out{K:W.Frag}{r:Addr}{n':Nat}(R:VR K (RlT.at' r n') F₀ H₀ F H σ ρ)(n:H₀ r=none):VR K RlT.no F₀ H₀ F H σ (nR ρ):=by
 refine⟨kZ R.g n,fun i w e=>?_,fun i j x y v hn e1 e2=>R.ap i j x y v hn (kM e1).1 (kM e2).1,fun i xs e=>R.np i xs (kM e).1,?_⟩
 · obtain⟨e1,e2⟩:=kM e;obtain⟨v,h1,h2,h3⟩:=R.sl i w e1;exact⟨v,h1,m_ h2 e2,h3⟩
 · have:=R.len;simpa[nR]using this
theorem VR.into{K:W.Frag}{r:Addr}(R:VR K RlT.no F₀ H₀ F H σ ρ)(n:H r=none)(g:Grow RlT.no F H F' H')(ra:D7 (RlT.at' r BM) F' H')(i:Nat):VR K (RlT.at' r BM) F₀ H₀ F' H' (σ.set i (some (.ref r))) (ρ.set i (some .reel)):=by
 have R1:=R.grow g;refine⟨uu R1.g ra,fun j w e=>?_,fun j k x y v hn e1 e2 o1 o2 s1 s2=>?_,fun j xs e=>?_,by simp[R.len]⟩
 · by_cases hj:i=j
   · subst hj
     have hi:i<ρ.length:=by
      rw[F_]at e;by_cases hi:i<ρ.length
      · exact hi
      · simp[hi]at e
     rw[Fj hi]at e;cases e;exact⟨.ref r,by rw[Fj (by rw[<- R.len];exact hi)],⟨r,rfl,rfl⟩,trivial⟩
   · rw[E_ hj]at e;obtain⟨v,h1,h2,h3⟩:=R1.sl j w e;refine⟨v,by rw[E_ hj];exact h1,wa h2 fun a ow ea z=>?_,h3⟩;obtain⟨v0,h10,h20,_⟩:=R.sl j w e;rw[h1]at h10;cases h10;rcases ow with ow|⟨xs,rfl⟩
     · obtain⟨b,o,eb,hb⟩:=h20.live ow;rw[ea]at eb;cases eb;rw[z,n]at hb;cases hb
     · exact absurd e (R.np j xs)
 · have key:∀(m:Nat)(z:W),(ρ.set i (some W.reel))[m]?=some (some z)->z.own=true->i≠m/\ρ[m]?=some (some z):=fun m z e o=>by
     by_cases hm:i=m
     · subst hm;rw[F_]at e;split at e
       · split at e
         · cases e;cases o
         · cases e
       · exact absurd rfl (by assumption)
     · rw[E_ hm]at e;exact⟨hm,e⟩
   obtain⟨n1,d1⟩:=key j x e1 o1;obtain⟨n2,d2⟩:=key k y e2 o2;rw[E_ n1]at s1;rw[E_ n2]at s2;exact R1.ap j k x y v hn d1 d2 o1 o2 s1 s2
 · rw[F_]at e;split at e
   · split at e
     · cases e
     · cases e
   · exact R1.np j xs e
section
variable{X:Cx}{st:Stmt}{rest body:List Stmt}{t u:DV}{a b c e:Expr}{es:List Expr}{fa fb:TV}{fs:DU}{pos p px cpos:Pos}{ρ:En}
end
noncomputable def Cp:Fl->Mo Fl
 | .nx ρ=>ret (.nx (nR ρ))
 | .rt w=>Dy (w.isR=false) (ret (.rt w))
 | .bk ρ=>ret (.bk (nR ρ))
 | .ct ρ=>ret (.ct (nR ρ))
theorem s_newR(i:Nat)(pre:List W->Prop)(fs:DU)(t:DV)(ρ:En):mS (vq i pre fs t) ρ=DK (fs ρ) fun ws=>Dy (ws.all dr=true) (Dy (pre ws) (DK (mS t (ρ.set i (some .reel))) Cp)):=nr rfl
theorem nR_nil:nR []=[]:=rfl
theorem nR_r(l:En):nR (some .reel::l)=none::nR l:=rfl
theorem nR_n(l:En):nR (none::l)=none::nR l:=rfl
theorem nR_d(x:ET)(l:En):nR (some (.d x)::l)=some (.d x)::nR l:=rfl
theorem nR_ml(x:List ET)(l:En):nR (some (.ml x)::l)=some (.ml x)::nR l:=rfl
theorem nR_sc(x:List Int)(l:En):nR (some (.sc x)::l)=some (.sc x)::nR l:=rfl
noncomputable def gQ(K:W.Frag):Sp:=fun vs H Q _=>∃(a:Addr)(ns:List Int),vs=[.ref a]/\D1 K H a (ns.map V.int)/\ns.length<=63/\∀H',Q (.bl true) H'
noncomputable def BD:VEnds:=⟨fun _=>False,fun w=>w = .d (.bool true),fun _=>False,fun _=>False⟩
noncomputable def uI:Fl->Prop
 | .rt w=>w = .d (.bool true)
 | _=>False
theorem un_law(m:Mo Fl):DK m Cp uI=m uI:=by
 show m (fun fl=>Cp fl uI)=m uI;congr 1;funext fl
 cases fl with
 | rt w=>exact propext ⟨fun⟨_,h⟩=>h,fun h=>⟨by rw[show w = .d (.bool true)from h];rfl,h⟩⟩
 | _=>rfl
theorem ug:ret (Fl.rt (.d (.bool true))) uI:=rfl
section
variable{P:Fo}{w:Gc}{K:W.Frag}{mg:Str->Option EX}{base:Heap}{st:Stmt}{N:List Str}{k:Nat}{t:DV}{x:Str}
theorem t3(F:Fun K "law" "law" st f fd)(S:FnScope N [x] (defScope st))
 (hbody:∀(cdv:EX)(A:Gh)(outer:List Env)(s:EZ)(H:Hp)(E:XK),Room k (A.deeper (JG "law" (defScope st) s.heap.objs.size f cdv))->lq (lZ EG P w K mg base N "law" (defScope st) f cdv A outer s H E).nox RlT.no (defBody st) t)
 (hread:∀ns:List Int,ns.length<=63->mS t (dj N [.sc ns]) uI):FnOk P w K mg base EG (k+1) f fd [x] (gQ K):=by
 refine F.ok S (fun vs H Q E h=>?_) (fun cdv A outer s H vs Q E hr h=>?_)
 · obtain⟨a,ns,rfl,_⟩:=h;rfl
 · obtain⟨a,ns,rfl,hS,hl,kq⟩:=h;obtain⟨T,p,kk⟩:=hbody cdv A outer s H E hr;have rw0:eC K RlT.no H H [.ref a] [.sc ns]:=.cons ⟨a,rfl,hS⟩ .nil;have R:VR K RlT.no H H H H (start N [.ref a]) (dj N [.sc ns]):=dS (.refl H) (fun _ z=>by cases z) rw0 rfl;refine⟨T,p,kk R BD _ ⟨fun _ _ _ _ _ _ z=>Gx z,?_,fun _ _ _ _ _ _ z=>Gx z,fun _ _ _ _ _ _ z=>Gx z⟩ (hread ns hl)⟩;rintro v w1 F1 H1 g1 r1 n1 z;have z:w1 = .d (.bool true):=z;subst z;have e:=eV r1;subst e;exact kq H1
end
noncomputable def lv(i:Nat)(fa:TV):DV:=fun D ρ=>fa ρ fun w=>∃d,w.fz = .d d/\D.nx (ρ.set i (some (.d d)))
section
variable{X:Cx}{rl:RlT}{st:Stmt}{rest body:List Stmt}{t u:DV}{a b c e:Expr}{es:List Expr}{fa fb:TV}{fs:DU}{f:TB}{pos p:Pos}{ρ:En}
theorem aD(i:Nat)(hN:X.N.Nodup)(he:PV X rl e fa)(hi:autoParam (X.N[i]?=some x) æa._auto_1)(hx:autoParam (Loc X.env.scope x) æe._auto_1)
 (hs:autoParam (GH e (some (.Name x pos')) pos.line X.env=pure false) æa._auto_1)(hf:autoParam (X.fn x=true\/X.env.scope.names.lookup x=some .local) æf._auto_1) :
 Ec X rl (.Assign [.Name x pos'] e pos) (lv i fa):=by
 obtain⟨t,p,k⟩:=he;refine⟨_,fS hN hi hx p hs hf,fun R Dv D ok q=>k R _ _ q fun v w F1 H1 g1 r1 n1 ⟨d,ed,q1⟩=>?_⟩;obtain⟨F2,g2,s2,r2⟩:=c7.fz g1 r1 n1;rw[ed]at r2;exact ok.nx _ _ _ _ g2.fs (R.set g2 r2 trivial (fun xs z=>by cases z) i) q1
theorem s_setZ(i:Nat):mS (lv i fa) ρ=DK (fa ρ) fun w=>aC (asD w.fz) fun d=>ret (.nx (ρ.set i (some (.d d)))):=by
 show(DK (fa ρ) fun w=>fun(Q:Fl->Prop)=>∃d,w.fz = .d d/\Q (.nx (ρ.set i (some (.d d)))))=_;congr 1;funext w;refine ag fun Q=>?_;simp only[ai,ff,ret]
end
section
variable{X:Cx}{rl:RlT}{elt tg iter:Expr}{ifs:List Expr}{scope:Scope}{pos:Pos}{fi:En->(List ET->Prop)->Prop}{g:DY}{ft:TB}{fe:TV}
theorem js(i:Nat){b:Bool}(hN:X.N.Nodup)(N':List Str)(fr:List (Option Nat))(hc:X.calm=true)(hi:Ef X rl tg iter fi)
 (hg:∀y,Ei (blk X N' scope y) rl tg g)(ht:∀y,o8 (blk X N' scope y) rl ifs ft)(he:∀y,PV (blk X N' scope y) rl elt fe)
 (hsw:autoParam (GH (.ListComp elt [⟨tg,iter,ifs,0⟩] scope pos) (some (.Name x px)) spos.line X.env=pure b) æa._auto_1)
 (hix:autoParam (X.N[i]?=some x) æa._auto_1)(hx:autoParam (Loc X.env.scope x) æe._auto_1)(hf:autoParam (X.fn x=true\/X.env.scope.names.lookup x=some .local) æf._auto_1)
 (hfr:autoParam (lS fr N' X.N scope X.env.scope=true) æa._auto_1)(hsc:autoParam (lW scope X.env.scope=true) æa._auto_1)
 (hs:autoParam (∀x,FC iter X.env x=pure x) æd._auto_1):Ec X rl (.Assign [.Name x px] (.ListComp elt [⟨tg,iter,ifs,0⟩] scope pos) spos) (lv i (kw fi fr g ft fe)):=by
 obtain⟨wi,p0,k0⟩:=hi;refine⟨_,lI N' fr hc p0 hfr hsc (fun y=>(EV (hg y)).1) (fun y=>(EV (ht y)).1) (fun y=>(EV (he y)).1) hN hix hx hf hsw hs,fun R Dv D ok q=>kW fr k0 hg ht he R _ _ q fun v w F1 H1 g1 r1 n1 ⟨d,ed,q1⟩=>?_⟩;obtain⟨F2,g2,s2,r2⟩:=c7.fz g1 r1 n1;rw[ed]at r2;exact ok.nx _ _ _ _ g2.fs (R.set g2 r2 trivial (fun xs z=>by cases z) i) q1
end
noncomputable def bS(xs:List Int):ET:=.tuple (xs.map .int)
noncomputable def kO(xs:List Int):ET:=.list (xs.map .int)
theorem dL:∀{xs ys:List Int},xs.map FG=ys.map FG↔xs=ys:=by
 intro xs ys;constructor
 · intro h;have:=congrArg gM h;rw[bX,bX]at this;exact FO this
 · rintro rfl;rfl
theorem kz{xs ys:List Int}:bS xs=bS ys↔xs=ys:=by
 unfold bS;rw[Gj,dL]
theorem kN{xs ys:List Int}:kO xs=kO ys↔xs=ys:=by
 unfold kO;rw[K9.injEq,dL]
theorem bI{α:Type}{f:α->ET}(h:∀a b,f a=f b↔a=b):∀{xs ys:List α},xs.map f=ys.map f↔xs=ys
 | [],[]=>by simp
 | [],_::_=>by simp
 | _::_,[]=>by simp
 | x::xs,y::ys=>by simp[h,bI h (xs:=xs) (ys:=ys)]
noncomputable def yA(xs:List (List Int)):ET:=.tuple (xs.map bS)
theorem pE{xs ys:List (List Int)}:yA xs=yA ys↔xs=ys:=by
 unfold yA;rw[Gj,bI fun _ _=>kz]
theorem xM{xs:List α}{i:Int}(h0:0<=i)(h1:i<(xs.length:Int)):atI xs i=some (xs[i.toNat]'(by omega)):=by
 obtain⟨n,rfl⟩:=GS h0;exact o0 (FX (by omega))
section
variable{α σ:Type}{fl:List Nat}{b:ET->En->Mo Fl}{k:En->Mo Fl}{Q:Fl->Prop}{ρ:En}
theorem j_{f:TB}{t:DV}(st:σ->En)(c:σ->Bool)(nxt:σ->σ)(μ:σ->Nat)(I:σ->Prop)(s:σ)(h0:ρ=st s)(hs:I s)
 (hf:∀s,I s->f (st s)=ret (c s))(ht:∀s,I s->c s=true->I (nxt s)/\μ (nxt s)<μ s/\∃ρ',mS t (st s)=ret (.nx ρ')/\fo fl ρ'=st (nxt s))(fin:∀s,I s->c s=false->k (st s) Q):sq (gN fl f t ρ) k Q:=by
 subst h0;obtain⟨s',a,b,e⟩:=mh st c nxt μ I hf ht s hs;rw[e];exact fin s' a b
noncomputable def Di(fl:List Nat)(J:En->Prop)(k:En->Mo Fl)(Q:Fl->Prop):Fl->Prop
 | .nx ρ=>J (fo fl ρ)
 | .ct ρ=>J (fo fl ρ)
 | .bk ρ=>k (fo fl ρ) Q
 | .rt w=>Q (.rt w)
theorem bW{J:En->Prop}{ρ:En}(h:J (fo fl ρ)):Di fl J k Q (.nx ρ):=h
theorem gb{xs:List α}{enc:α->ET}(J:Nat->En->Prop)(hx:xs'=xs.map enc)(h0:J 0 ρ)
 (step:∀i (h:i<xs.length) ρ,J i ρ->∀K:Fl->Prop,(∀r,Di fl (J (i+1)) k Q r->K r)->b (enc xs[i]) ρ K)(fin:∀ρ,J xs.length ρ->k ρ Q):sq (dM fl b xs' ρ) k Q:=by
 subst hx;refine nP (Q:=fun r=>(match r with | .nx ρ=>k ρ | .rt w=>ret (.rt w) | .bk ρ=>ret (.bk ρ) | .ct ρ=>ret (.ct ρ):Mo Fl) Q) J h0 (fun i hi ρ j K hK=>step i hi ρ j K fun r hr=>hK r ?_) fin;cases r<;>exact hr
theorem dO{lo:Int}(J:Nat->En->Prop)(h0:J 0 ρ)
 (step:∀i,i<n->∀ρ,J i ρ->∀K:Fl->Prop,(∀r,Di fl (J (i+1)) k Q r->K r)->b (.int (lo+i)) ρ K)(fin:∀ρ,J n ρ->k ρ Q):sq (dM fl b (aU lo n) ρ) k Q:=by
 refine p8 (Q:=fun r=>(match r with | .nx ρ=>k ρ | .rt w=>ret (.rt w) | .bk ρ=>ret (.bk ρ) | .ct ρ=>ret (.ct ρ):Mo Fl) Q) J h0 (fun i hi ρ j K hK=>step i hi ρ j K fun r hr=>hK r ?_) fin;cases r<;>exact hr
theorem qx{lo:Int}(step:∀i,i<n->∀K:Fl->Prop,(∀r,Di fl (fun ρ'=>ρ'=ρ) k Q r->K r)->b (.int (lo+i)) ρ K)(fin:k ρ Q):sq (dM fl b (aU lo n) ρ) k Q :=
 dO (fun _ ρ'=>ρ'=ρ) rfl (fun i h ρ' e K hK=>by subst e;exact step i h K hK) fun ρ' e=>by subst e;exact fin
end
section
variable{α β:Type}{b:ET->Mo (Option ET)}{k:List ET->Mo β}{Q:β->Prop}
theorem lf{xs:List α}{enc:α->ET}(f:α->Option ET)(hx:xs'=xs.map enc)(h:∀x∈xs,b (enc x)=ret (f x))(hl:xs.length<=sizeLine)(fin:k (xs.filterMap f) Q):DK (cB b xs' []) k Q:=by
 subst hx;rw[oN f h hl];exact fin
theorem dQ{xs:List α}{enc:α->ET}(f:α->ET)(hx:xs'=xs.map enc)(h:∀x∈xs,b (enc x)=ret (some (f x)))(hl:xs.length<=sizeLine)(fin:k (xs.map f) Q):DK (cB b xs' []) k Q:=by
 subst hx;rw[comp_map f h hl];exact fin
theorem lc{lo:Int}(f:Nat->ET)(h:∀j,j<n->b (.int (lo+j))=ret (some (f j)))(hl:n<=sizeLine)(fin:k ((Gm n).map f) Q):DK (cB b (aU lo n) []) k Q:=by
 rw[oK f h hl];exact fin
theorem lj{lo:Int}(P:ET->Prop)(h:∀j,j<n->∀K:Option ET->Prop,(∀d,P d->K (some d))->b (.int (lo+j)) K)(hl:n<=sizeLine)(fin:∀ds:List ET,ds.length=n->(∀d∈ds,P d)->k ds Q):DK (cB b (aU lo n) []) k Q :=
 oO P h hl fin
end
section
variable{α β:Type}
theorem nN{i:Int}{k:ET->Mo β}{Q:β->Prop}(h0:0<=i)(h1:i<(xs.length:Int))(h:∀z∈xs,k z Q):aC (atI xs i) k Q:=by
 obtain⟨z,e,m⟩:=xL h0 h1;rw[e];exact h z m
theorem gW{xs:List α}{enc:α->ET}{i:Int}{k:ET->Mo β}{Q:β->Prop}(P:α->Prop)(hx:xs'=xs.map enc)(h0:0<=i)(h1:i<(xs.length:Int))(hP:∀z∈xs,P z)(h:∀z,P z->k (enc z) Q):aC (atI xs' i) k Q:=by
 subst hx;refine nN h0 (by simpa using h1) fun z mz=>?_;obtain⟨x,hx,rfl⟩:=FP.mp mz;exact h x (hP x hx)
end
theorem iE{α:Type}{enc:α->ET}{P:α->Prop}:∀{ds:List ET},(∀d∈ds,∃x,P x/\d=enc x)->∃xs:List α,ds=xs.map enc/\xs.length=ds.length/\∀x∈xs,P x
 | [],_=>⟨[],rfl,rfl,by simp⟩
 | d::ds,h=>by
   obtain⟨x,hx,e⟩:=h d E7;obtain⟨xs,e1,e2,e3⟩:=iE (ds:=ds) fun d hd=>h d (E9 _ hd);exact⟨x::xs,by rw[e,e1];rfl,by simp[e2],fun y hy=>(FV.mp hy).elim (fun z=>by rw[z];exact hx) (e3 y)⟩
section
variable{X:Cx}{rl:RlT}{a b c o e:Expr}{es:List Expr}{fa fb:TV}{fs:DU}{pos p apos cpos:Pos}{ρ:En}
noncomputable def Cm(g:List ET->List W->(W->Prop)->Prop)(fa:TV)(fs:DU):TV:=fun ρ Q=>fa ρ fun x=>∃xs,x.dat=some (.list xs)/\fs ρ fun ws=>g xs ws Q
theorem m_vML(g:List ET->List W->(W->Prop)->Prop):Cm g fa fs ρ=DK (fa ρ) fun x=>aC (DP x) fun xs=>DK (fs ρ) fun ws=>g xs ws:=by
 show(DK (fa ρ) fun x=>fun(Q:W->Prop)=>∃xs,x.dat=some (.list xs)/\fs ρ fun ws=>g xs ws Q)=_;congr 1;funext x;refine ag fun Q=>?_;rw[ai];simp only[hG];exact Ip
noncomputable def ol:List ET->List W->(W->Prop)->Prop:=fun xs ws Q=>∃(bs:List Bool)(k:Bool),xs=bs.map .bool/\ws=[.d (.bool k)]/\Q (.d (.int (bs.count k)))
theorem m_gCountB(xs:List ET)(w:W):ol xs [w]=aC (rL xs) fun bs=>aC (asB w) fun k=>ret (.d (.int (bs.count k))):=by
 refine ag fun Q=>?_;simp only[ol,ai,gC,ret,FJ,and_true];constructor
 · rintro⟨bs,k,rfl,e,q⟩;exact⟨bs,blsD_map bs,k,e,q⟩
 · rintro⟨bs,e,k,e',q⟩;exact⟨bs,k,jV e,e',q⟩
noncomputable def xo:W->W->(W->Prop)->Prop:=fun x y Q=>∃b c,x = .d (.bool b)/\y = .d (.bool c)/\Q (.d (.bool (b != c)))
theorem m_gNotB(x y:W):xo x y=aC (asB x) fun i=>aC (asB y) fun j=>ret (.d (.bool (i != j))):=by
 refine ag fun Q=>?_;simp only[ai,gC,xo,ret];exact⟨fun⟨i,j,a,b,q⟩=>⟨i,a,j,b,q⟩,fun⟨i,a,j,b,q⟩=>⟨i,j,a,b,q⟩⟩
end
end L2.VL
namespace L2
section
variable{X:Cx}{pos:Pos}
end
end L2
namespace L2.VL
section
variable{X:Cx}{rl:RlT}{es:List Expr}{pos:Pos}{ρ:En}
noncomputable def AV(n:Nat)(gs:l5):DY:=fun x ρ Q=>∃xs,x = .list xs/\xs.length=n/\gs xs ρ Q
theorem m_hLst(n:Nat){gs:l5}(x:ET):AV n gs x ρ=aC (lstD x) fun xs=>Dy (xs.length=n) (gs xs ρ):=by
 refine ag fun Q=>?_;simp only[ai,ua,AV,Dy]
end
section
variable{α:Type}{a0 a1 a2 a3 a4 a5 a6 a7 a8 a9 a10 a11 a12 a13 a14 a15 a16 a17 a18 a19 x y:α}{l:List α}
theorem gt0:(x::l)[0]?=some x:=nr rfl
theorem st0:(x::l).set 0 y=y::l:=nr rfl
theorem gt1:(a0::x::l)[1]?=some x:=nr rfl
theorem st1:(a0::x::l).set 1 y=a0::y::l:=nr rfl
theorem gt2:(a0::a1::x::l)[2]?=some x:=nr rfl
theorem st2:(a0::a1::x::l).set 2 y=a0::a1::y::l:=nr rfl
theorem gt3:(a0::a1::a2::x::l)[3]?=some x:=nr rfl
theorem st3:(a0::a1::a2::x::l).set 3 y=a0::a1::a2::y::l:=nr rfl
theorem gt4:(a0::a1::a2::a3::x::l)[4]?=some x:=nr rfl
theorem st4:(a0::a1::a2::a3::x::l).set 4 y=a0::a1::a2::a3::y::l:=nr rfl
theorem gt5:(a0::a1::a2::a3::a4::x::l)[5]?=some x:=nr rfl
theorem st5:(a0::a1::a2::a3::a4::x::l).set 5 y=a0::a1::a2::a3::a4::y::l:=nr rfl
theorem gt6:(a0::a1::a2::a3::a4::a5::x::l)[6]?=some x:=nr rfl
theorem st6:(a0::a1::a2::a3::a4::a5::x::l).set 6 y=a0::a1::a2::a3::a4::a5::y::l:=nr rfl
theorem gt7:(a0::a1::a2::a3::a4::a5::a6::x::l)[7]?=some x:=nr rfl
theorem st7:(a0::a1::a2::a3::a4::a5::a6::x::l).set 7 y=a0::a1::a2::a3::a4::a5::a6::y::l:=nr rfl
theorem gt8:(a0::a1::a2::a3::a4::a5::a6::a7::x::l)[8]?=some x:=nr rfl
theorem st8:(a0::a1::a2::a3::a4::a5::a6::a7::x::l).set 8 y=a0::a1::a2::a3::a4::a5::a6::a7::y::l:=nr rfl
theorem gt9:(a0::a1::a2::a3::a4::a5::a6::a7::a8::x::l)[9]?=some x:=nr rfl
theorem st9:(a0::a1::a2::a3::a4::a5::a6::a7::a8::x::l).set 9 y=a0::a1::a2::a3::a4::a5::a6::a7::a8::y::l:=nr rfl
theorem gt10:(a0::a1::a2::a3::a4::a5::a6::a7::a8::a9::x::l)[10]?=some x:=nr rfl
theorem st10:(a0::a1::a2::a3::a4::a5::a6::a7::a8::a9::x::l).set 10 y=a0::a1::a2::a3::a4::a5::a6::a7::a8::a9::y::l:=nr rfl
theorem gt11:(a0::a1::a2::a3::a4::a5::a6::a7::a8::a9::a10::x::l)[11]?=some x:=nr rfl
theorem st11:(a0::a1::a2::a3::a4::a5::a6::a7::a8::a9::a10::x::l).set 11 y=a0::a1::a2::a3::a4::a5::a6::a7::a8::a9::a10::y::l:=nr rfl
theorem gt12:(a0::a1::a2::a3::a4::a5::a6::a7::a8::a9::a10::a11::x::l)[12]?=some x:=nr rfl
theorem st12:(a0::a1::a2::a3::a4::a5::a6::a7::a8::a9::a10::a11::x::l).set 12 y=a0::a1::a2::a3::a4::a5::a6::a7::a8::a9::a10::a11::y::l:=nr rfl
theorem gt13:(a0::a1::a2::a3::a4::a5::a6::a7::a8::a9::a10::a11::a12::x::l)[13]?=some x:=nr rfl
theorem st13:(a0::a1::a2::a3::a4::a5::a6::a7::a8::a9::a10::a11::a12::x::l).set 13 y=a0::a1::a2::a3::a4::a5::a6::a7::a8::a9::a10::a11::a12::y::l:=nr rfl
theorem gt14:(a0::a1::a2::a3::a4::a5::a6::a7::a8::a9::a10::a11::a12::a13::x::l)[14]?=some x:=nr rfl
theorem st14:(a0::a1::a2::a3::a4::a5::a6::a7::a8::a9::a10::a11::a12::a13::x::l).set 14 y=a0::a1::a2::a3::a4::a5::a6::a7::a8::a9::a10::a11::a12::a13::y::l:=nr rfl
theorem gt15:(a0::a1::a2::a3::a4::a5::a6::a7::a8::a9::a10::a11::a12::a13::a14::x::l)[15]?=some x:=nr rfl
theorem st15:(a0::a1::a2::a3::a4::a5::a6::a7::a8::a9::a10::a11::a12::a13::a14::x::l).set 15 y=a0::a1::a2::a3::a4::a5::a6::a7::a8::a9::a10::a11::a12::a13::a14::y::l:=nr rfl
theorem gt16:(a0::a1::a2::a3::a4::a5::a6::a7::a8::a9::a10::a11::a12::a13::a14::a15::x::l)[16]?=some x:=nr rfl
theorem st16:(a0::a1::a2::a3::a4::a5::a6::a7::a8::a9::a10::a11::a12::a13::a14::a15::x::l).set 16 y=a0::a1::a2::a3::a4::a5::a6::a7::a8::a9::a10::a11::a12::a13::a14::a15::y::l:=nr rfl
theorem gt17:(a0::a1::a2::a3::a4::a5::a6::a7::a8::a9::a10::a11::a12::a13::a14::a15::a16::x::l)[17]?=some x:=nr rfl
theorem st17:(a0::a1::a2::a3::a4::a5::a6::a7::a8::a9::a10::a11::a12::a13::a14::a15::a16::x::l).set 17 y=a0::a1::a2::a3::a4::a5::a6::a7::a8::a9::a10::a11::a12::a13::a14::a15::a16::y::l:=nr rfl
theorem gt18:(a0::a1::a2::a3::a4::a5::a6::a7::a8::a9::a10::a11::a12::a13::a14::a15::a16::a17::x::l)[18]?=some x:=nr rfl
theorem st18:(a0::a1::a2::a3::a4::a5::a6::a7::a8::a9::a10::a11::a12::a13::a14::a15::a16::a17::x::l).set 18 y=a0::a1::a2::a3::a4::a5::a6::a7::a8::a9::a10::a11::a12::a13::a14::a15::a16::a17::y::l:=nr rfl
theorem gt19:(a0::a1::a2::a3::a4::a5::a6::a7::a8::a9::a10::a11::a12::a13::a14::a15::a16::a17::a18::x::l)[19]?=some x:=nr rfl
theorem st19:(a0::a1::a2::a3::a4::a5::a6::a7::a8::a9::a10::a11::a12::a13::a14::a15::a16::a17::a18::x::l).set 19 y=a0::a1::a2::a3::a4::a5::a6::a7::a8::a9::a10::a11::a12::a13::a14::a15::a16::a17::a18::y::l:=nr rfl
end
section
variable{a0 a1 a2 a3 a4 a5 a6 a7 a8 a9 a10 a11 a12 a13 a14 a15 a16 a17 a18 a19:Option W}{w:W}{l:En}
theorem vv0:fK 0 (some w::l)=ret w.peek:=(bR 0).trans rfl
theorem vv1:fK 1 (a0::some w::l)=ret w.peek:=(bR 1).trans rfl
theorem vv2:fK 2 (a0::a1::some w::l)=ret w.peek:=(bR 2).trans rfl
theorem vv3:fK 3 (a0::a1::a2::some w::l)=ret w.peek:=(bR 3).trans rfl
theorem vv4:fK 4 (a0::a1::a2::a3::some w::l)=ret w.peek:=(bR 4).trans rfl
theorem vv5:fK 5 (a0::a1::a2::a3::a4::some w::l)=ret w.peek:=(bR 5).trans rfl
theorem vv6:fK 6 (a0::a1::a2::a3::a4::a5::some w::l)=ret w.peek:=(bR 6).trans rfl
theorem vv7:fK 7 (a0::a1::a2::a3::a4::a5::a6::some w::l)=ret w.peek:=(bR 7).trans rfl
theorem vv8:fK 8 (a0::a1::a2::a3::a4::a5::a6::a7::some w::l)=ret w.peek:=(bR 8).trans rfl
theorem vv9:fK 9 (a0::a1::a2::a3::a4::a5::a6::a7::a8::some w::l)=ret w.peek:=(bR 9).trans rfl
theorem vv10:fK 10 (a0::a1::a2::a3::a4::a5::a6::a7::a8::a9::some w::l)=ret w.peek:=(bR 10).trans rfl
theorem vv11:fK 11 (a0::a1::a2::a3::a4::a5::a6::a7::a8::a9::a10::some w::l)=ret w.peek:=(bR 11).trans rfl
theorem vv12:fK 12 (a0::a1::a2::a3::a4::a5::a6::a7::a8::a9::a10::a11::some w::l)=ret w.peek:=(bR 12).trans rfl
theorem vv13:fK 13 (a0::a1::a2::a3::a4::a5::a6::a7::a8::a9::a10::a11::a12::some w::l)=ret w.peek:=(bR 13).trans rfl
theorem vv14:fK 14 (a0::a1::a2::a3::a4::a5::a6::a7::a8::a9::a10::a11::a12::a13::some w::l)=ret w.peek:=(bR 14).trans rfl
theorem vv15:fK 15 (a0::a1::a2::a3::a4::a5::a6::a7::a8::a9::a10::a11::a12::a13::a14::some w::l)=ret w.peek:=(bR 15).trans rfl
theorem vv16:fK 16 (a0::a1::a2::a3::a4::a5::a6::a7::a8::a9::a10::a11::a12::a13::a14::a15::some w::l)=ret w.peek:=(bR 16).trans rfl
theorem vv17:fK 17 (a0::a1::a2::a3::a4::a5::a6::a7::a8::a9::a10::a11::a12::a13::a14::a15::a16::some w::l)=ret w.peek:=(bR 17).trans rfl
theorem vv18:fK 18 (a0::a1::a2::a3::a4::a5::a6::a7::a8::a9::a10::a11::a12::a13::a14::a15::a16::a17::some w::l)=ret w.peek:=(bR 18).trans rfl
theorem vv19:fK 19 (a0::a1::a2::a3::a4::a5::a6::a7::a8::a9::a10::a11::a12::a13::a14::a15::a16::a17::a18::some w::l)=ret w.peek:=(bR 19).trans rfl
end
section
variable{f1 f2 f3 f4 f5 f6 f7 f8 f9:TV}{fs:DU}{ρ:En}
theorem vk1:aT f1 mM ρ=DK (f1 ρ) fun w1=>ret [w1.fz]:=nr rfl
theorem vk2:(aT f1 (aT f2 mM)) ρ=DK (f1 ρ) fun w1=>DK (f2 ρ) fun w2=>ret [w1.fz,w2.fz]:=nr rfl
theorem vk3:(aT f1 (aT f2 (aT f3 mM))) ρ=DK (f1 ρ) fun w1=>DK (f2 ρ) fun w2=>DK (f3 ρ) fun w3=>ret [w1.fz,w2.fz,w3.fz]:=nr rfl
theorem vk4:(aT f1 (aT f2 (aT f3 (aT f4 mM)))) ρ=DK (f1 ρ) fun w1=>DK (f2 ρ) fun w2=>DK (f3 ρ) fun w3=>DK (f4 ρ) fun w4=>ret [w1.fz,w2.fz,w3.fz,w4.fz]:=nr rfl
theorem vk5:(aT f1 (aT f2 (aT f3 (aT f4 (aT f5 mM))))) ρ=DK (f1 ρ) fun w1=>DK (f2 ρ) fun w2=>DK (f3 ρ) fun w3=>DK (f4 ρ) fun w4=>DK (f5 ρ) fun w5=>ret [w1.fz,w2.fz,w3.fz,w4.fz,w5.fz]:=nr rfl
theorem vk6:(aT f1 (aT f2 (aT f3 (aT f4 (aT f5 (aT f6 mM)))))) ρ=DK (f1 ρ) fun w1=>DK (f2 ρ) fun w2=>DK (f3 ρ) fun w3=>DK (f4 ρ) fun w4=>DK (f5 ρ) fun w5=>DK (f6 ρ) fun w6=>ret [w1.fz,w2.fz,w3.fz,w4.fz,w5.fz,w6.fz]:=nr rfl
theorem vk7:(aT f1 (aT f2 (aT f3 (aT f4 (aT f5 (aT f6 (aT f7 mM))))))) ρ=DK (f1 ρ) fun w1=>DK (f2 ρ) fun w2=>DK (f3 ρ) fun w3=>DK (f4 ρ) fun w4=>DK (f5 ρ) fun w5=>DK (f6 ρ) fun w6=>DK (f7 ρ) fun w7=>ret [w1.fz,w2.fz,w3.fz,w4.fz,w5.fz,w6.fz,w7.fz]:=nr rfl
theorem vk8:(aT f1 (aT f2 (aT f3 (aT f4 (aT f5 (aT f6 (aT f7 (aT f8 mM)))))))) ρ=DK (f1 ρ) fun w1=>DK (f2 ρ) fun w2=>DK (f3 ρ) fun w3=>DK (f4 ρ) fun w4=>DK (f5 ρ) fun w5=>DK (f6 ρ) fun w6=>DK (f7 ρ) fun w7=>DK (f8 ρ) fun w8=>ret [w1.fz,w2.fz,w3.fz,w4.fz,w5.fz,w6.fz,w7.fz,w8.fz]:=nr rfl
theorem vk9:(aT f1 (aT f2 (aT f3 (aT f4 (aT f5 (aT f6 (aT f7 (aT f8 (aT f9 fs))))))))) ρ=DK (f1 ρ) fun w1=>DK (f2 ρ) fun w2=>DK (f3 ρ) fun w3=>DK (f4 ρ) fun w4=>DK (f5 ρ) fun w5=>DK (f6 ρ) fun w6=>DK (f7 ρ) fun w7=>DK (f8 ρ) fun w8=>DK (aT f9 fs ρ) fun ws=>ret (w1.fz::w2.fz::w3.fz::w4.fz::w5.fz::w6.fz::w7.fz::w8.fz::ws):=nr rfl
theorem vk0:mM ρ=ret []:=nr rfl
end
noncomputable def zV:=ES @bnd_tt (ES @bnd_ret (ES @bnd_bnd (ES @bnd_grd (ES @bnd_stk (ES @bnd_ite (ES @bnd_opt (ES @opt_some (ES @opt_none (ES @grd_T (ES @sq_nx (ES @sq_rt (ES @sq_bk (ES @sq_ct (ES @sq_grd (ES @sq_stk (ES @sq_ite (ES @sq_sq (@kc_ap))))))))))))))))))
noncomputable def zY:=ES @ite_nx (ES @ite_rt (ES @ite_retd (ES @ite_retb (ES @ite_rets (ES @ite_cons (ES @ite_some (ES @ite_d (ES @ite_pi (ES @ite_pb (ES @itb_tt (ES @itb_ff (ES @itb_ft (ES @itb_tf (@ite_self.{1}))))))))))))))
noncomputable def z_:=ES @m_vC (ES @m_vOp (ES @m_gI (ES @m_gI0 (ES @m_vNeg (ES @m_vTest (ES @m_gEqD (ES @m_gInD (ES @m_vAnd (ES @m_vOr (ES @m_vNot (ES @m_vAndV (ES @m_vOrV (ES @m_vNotV (ES @m_vIf (ES @m_vTup (ES @m_vLst (ES @m_gIx (ES @m_vCall (ES @m_gAbs (ES @m_gLen (ES @m_gRepr (ES @m_gIsi (@m_gStrI)))))))))))))))))))))))
noncomputable def z9:=ES @m_gTupO (ES @m_gLstO (ES @m_gIsB (ES @m_gIsN (ES @m_gI2 (ES @m_gDivmod (ES @m_gInt1 (ES @m_oNo (ES @m_oIt (ES @m_vSlL (ES @m_vSlA (ES @m_gCatD (ES @m_gCatA (ES @m_vChain (ES @m_vLR1 (ES @m_vLR2 (ES @m_vTR1 (ES @m_iL (ES @m_iT (ES @m_iR1 (ES @m_iR2 (ES @m_iZb (ES @m_vUse (@m_vUseL)))))))))))))))))))))))
noncomputable def zZ:=ES @m_gAll (ES @m_gRepT (ES @m_gRepL (ES @m_vRevT (ES @m_vRevL (ES @m_gEqS (ES @m_vTGet (ES @m_gSrtT (ES @m_comp (ES @m_gLenS (ES @m_gIxS (ES @m_vSlS (ES @m_hLst (ES @m_vML (ES @m_gCountB (@m_gNotB)))))))))))))))
noncomputable def zO:=ES @s_next (ES @s_seq (ES @s_drop (ES @s_ret (ES @s_retN (ES @s_ifS (ES @s_set (ES @s_setZ (ES @s_never (ES @s_asg (ES @s_par (ES @s_par3 (ES @s_aug (ES @s_augL (ES @s_frz (ES @s_mut (ES @s_retO (ES @s_appPop (ES @s_for (ES @bdy_ap (ES @s_while (ES @s_newR (ES @m_hName (@m_hNil_n)))))))))))))))))))))))
noncomputable def zN:=ES @m_hCons_c (ES @m_hTup (ES @m_gApp (@m_gExt)))
noncomputable def zR:=ES @pk_sc (ES @fz_sc (ES @arg_sc (ES @isPk_sc (ES @asI_d (ES @asB_d (ES @asS_d (ES @asD_d (ES @asT_d (ES @asL_d (ES @asL_ml (ES @asL_pk (ES @asQ_d (ES @asQ_ml (ES @asQ_pk (ES @lstD_l (ES @tupD_t (ES @toI_i (ES @toI_b (ES @isiT_t (ES @asM_ml (ES @asSc_s (ES @two_d (@fz_d)))))))))))))))))))))))
noncomputable def zQ:=ES @fz_ml (ES @fz_pk (ES @fz_reel (ES @fz_vv (ES @pk_d (ES @pk_ml (ES @pk_reel (ES @pk_vv (ES @dat_d (ES @dat_ml (ES @dat_pk (ES @isPk_d (ES @isPk_ml (ES @isPk_reel (ES @dats_nil (ES @dats_d (ES @arg_d (ES @arg_reel (ES @item_l (ES @item_t (ES @len_l (ES @len_t (ES @seq_l (@seq_t)))))))))))))))))))))))
noncomputable def zP:=ES @at0 (ES @at1 (ES @blsD_map (ES @tup2 (ES @fo_nil (ES @fo_cons (ES @nR_nil (ES @nR_r (ES @nR_n (ES @nR_d (ES @nR_ml (ES @nR_sc (ES @le_nil (ES @le_cn (ES @le_cs (ES @end_d (ES @end_ml (ES @end_nx (@un_law))))))))))))))))))
noncomputable def zX:=ES @Fd.{0,0} (ES @Gv.{0,0} (ES @Gq.{0} (ES @Kp.{0} (ES @List.set_nil.{0} (ES @J7.{0} (ES @List.nil_append.{0} (ES @Ln.{0} (ES @List.all_nil.{0} (ES @List.head?_cons.{0} (ES @Bool.and_true (ES @Option.some.injEq.{0} (ES @Option.map_some.{0,0} (ES @Option.bind_some.{0,0} (ES @Option.bind_none.{0,0} (ES @Option.join_some.{0} (ES @Option.join_none.{0} (ES @HG (ES @and_self (ES @and_true (ES @true_and (ES @shaped_i (ES @eqv_ii (@shaped_b)))))))))))))))))))))))
noncomputable def zW:=ES @Bool.true_and (ES @Bool.and_self (ES @Bool.not_true (ES @Bool.not_false (ES @E1.{0,0} (ES @GX (ES @Bool.true_eq_false (ES @decide_true (ES @decide_false (ES @List.isEmpty_cons.{0} (ES @List.isEmpty_nil.{0} (@List.isEmpty_map.{0,0})))))))))))
noncomputable def zU:=ES @gt0 (ES @gt1 (ES @gt2 (ES @gt3 (ES @gt4 (ES @gt5 (ES @gt6 (ES @gt7 (ES @gt8 (ES @gt9 (ES @gt10 (ES @gt11 (ES @gt12 (ES @gt13 (ES @gt14 (ES @gt15 (ES @gt16 (ES @gt17 (ES @gt18 (ES @gt19 (ES @st0 (ES @st1 (ES @st2 (@st3)))))))))))))))))))))))
noncomputable def zT:=ES @st4 (ES @st5 (ES @st6 (ES @st7 (ES @st8 (ES @st9 (ES @st10 (ES @st11 (ES @st12 (ES @st13 (ES @st14 (ES @st15 (ES @st16 (ES @st17 (ES @st18 (ES @st19 (ES @vv0 (ES @vv1 (ES @vv2 (ES @vv3 (ES @vv4 (ES @vv5 (ES @vv6 (@vv7)))))))))))))))))))))))
noncomputable def zS:=ES @vv8 (ES @vv9 (ES @vv10 (ES @vv11 (ES @vv12 (ES @vv13 (ES @vv14 (ES @vv15 (ES @vv16 (ES @vv17 (ES @vv18 (ES @vv19 (ES @vk0 (ES @vk1 (ES @vk2 (ES @vk3 (ES @vk4 (ES @vk5 (ES @vk6 (ES @vk7 (ES @vk8 (@vk9)))))))))))))))))))))
section
variable{α β:Type}
end
section
variable{X:Cx}{rl:RlT}{e:Expr}{fa:TV}{pos dpos q1 q2 q3 q4:Pos}{ρ:En}{j1 j2 j3 j4:Nat}{a b x y:Str}
end
theorem D7.pay{a:Option Addr}{b b':Nat}{F H:Hp}(r:D7 ⟨a,b⟩ F H)(h:b'<=b):D7 ⟨a,b'⟩ F H:=fun x e=>by
 obtain⟨z,⟨o,q,ro⟩⟩:=r x e;exact⟨z,⟨o,q,ro.pay h⟩⟩
theorem Grow.pay{a:Option Addr}{b b':Nat}{F H F' H':Hp}(g:Grow ⟨a,b⟩ F H F' H')(h:b'<=b):Grow ⟨a,b'⟩ F H F' H':=⟨g.same,g.fs,g.sub,g.old,g.reel.pay h⟩
theorem Grow.tr{a:Option Addr}{b b':Nat}{F1 H1 F2 H2:Hp}(g:Grow ⟨a,b⟩ F H F1 H1)(g':Grow ⟨a,b'⟩ F1 H1 F2 H2):Grow ⟨a,b'⟩ F H F2 H2 :=
 ⟨fun c o e n=>g'.same c o (g.same c o e n) n,g.fs.trans g'.fs,g'.sub,fun c o e=>by obtain⟨o',e'⟩:=g.live e;rw[g'.old c o' e',g.old c o e],g'.reel⟩
theorem c7.on{K:W.Frag}{a:Option Addr}{b b':Nat}{w:W}(r:c7 K ⟨a,b⟩ F H v w):c7 K ⟨a,b'⟩ F H v w:=by cases w<;>exact r
theorem c7.gr{K:W.Frag}{a:Option Addr}{b b' b2:Nat}{w:W}(g:Grow ⟨a,b'⟩ F H F' H')(r:c7 K ⟨a,b⟩ F H v w):c7 K ⟨a,b2⟩ F' H' v w:=((r.on (b':=b')).grow g).on
theorem VR.gr{K:W.Frag}{a:Option Addr}{b b':Nat}{F₀ H₀ F H F' H':Hp}{σ:St}{ρ:En}(r:VR K ⟨a,b⟩ F₀ H₀ F H σ ρ)(g:Grow ⟨a,b'⟩ F H F' H'):VR K ⟨a,b'⟩ F₀ H₀ F' H' σ ρ :=
 ⟨r.g.tr g,fun i w e=>let ⟨v,e1,e2,e3⟩:=r.sl i w e;⟨v,e1,e2.gr g,e3⟩,r.ap,r.np,r.len⟩
theorem VR.pay{K:W.Frag}{a:Option Addr}{b b':Nat}{F₀ H₀ F H:Hp}{σ:St}{ρ:En}(r:VR K ⟨a,b⟩ F₀ H₀ F H σ ρ)(h:b'<=b):VR K ⟨a,b'⟩ F₀ H₀ F H σ ρ:=r.gr ((Grow.refl r.sub r.reel).pay h)
theorem EndsOk.pay{K:W.Frag}{a:Option Addr}{b b':Nat}{F₀ H₀ Fs:Hp}{Dv:VEnds}{D:Ends}(ok:EndsOk K ⟨a,b'⟩ F₀ H₀ Fs Dv D)(h:b'<=b):EndsOk K ⟨a,b⟩ F₀ H₀ Fs Dv D :=
 ⟨fun F H σ ρ s R=>ok.nx F H σ ρ s (R.pay h),fun v w F H g r n=>ok.rt v w F H (g.pay h) r.on n,fun F H σ ρ s R=>ok.bk F H σ ρ s (R.pay h),fun F H σ ρ s R=>ok.ct F H σ ρ s (R.pay h)⟩
noncomputable def CV(X:Cx)(al:Option Addr)(c:Nat)(e:Expr)(f:TV):Prop:=∃t,PE X e t/\∀{b:Nat}{F₀ H₀ F H:Hp}{σ:St}{ρ:En},VR X.K ⟨al,b+c⟩ F₀ H₀ F H σ ρ->∀(Qd:W->Prop)(Q:VK),f ρ Qd ->
 (∀v w F' H',Grow ⟨al,b⟩ F H F' H'->c7 X.K ⟨al,b⟩ F' H' v w->dB H v w->Qd w->Q v H')->t σ H Q
noncomputable def CB(X:Cx)(al:Option Addr)(c:Nat)(e:Expr)(f:TB):Prop:=∃t,PT X e t/\∀{b:Nat}{F₀ H₀ F H:Hp}{σ:St}{ρ:En},VR X.K ⟨al,b+c⟩ F₀ H₀ F H σ ρ->∀(Qd:Bool->Prop)(Q:Bool->Hp->Prop),f ρ Qd ->
 (∀k F' H',Grow ⟨al,b⟩ F H F' H'->Qd k->Q k H')->t σ H Q
noncomputable def EL(X:Cx)(al:Option Addr)(c:Nat)(e:Expr)(f:TB):Prop:=∃t,PW X e t/\∀{b:Nat}{F₀ H₀ F H:Hp}{σ:St}{ρ:En},VR X.K ⟨al,b+c⟩ F₀ H₀ F H σ ρ->∀(Qd:Bool->Prop)(Q:Bool->Hp->Prop),f ρ Qd ->
 (∀k F' H',Grow ⟨al,b⟩ F H F' H'->Qd k->Q k H')->t σ H Q
noncomputable def EH(X:Cx)(al:Option Addr)(c:Nat)(es:List Expr)(f:DU):Prop:=∃t,PA X es t/\∀{b:Nat}{F₀ H₀ F H:Hp}{σ:St}{ρ:En},VR X.K ⟨al,b+c⟩ F₀ H₀ F H σ ρ->∀(Qd:List W->Prop)(Q:List V->Hp->Prop),f ρ Qd ->
 (∀vs ws F' H',Grow ⟨al,b⟩ F H F' H'->eC X.K ⟨al,b⟩ F' H' vs ws->Qd ws->Q vs H')->t σ H Q
noncomputable def CS(X:Cx)(al:Option Addr)(c:Nat)(st:Stmt)(t:DV):Prop:=∃T,PS X st T/\∀{b:Nat}{F₀ H₀ F H:Hp}{σ:St}{ρ:En},VR X.K ⟨al,b+c⟩ F₀ H₀ F H σ ρ->∀Dv D,EndsOk X.K ⟨al,b⟩ F₀ H₀ F Dv D->t Dv ρ->T D σ H
noncomputable def EJ(X:Cx)(al:Option Addr)(c:Nat)(st:List Stmt)(t:DV):Prop:=∃T,Eb X st T/\∀{b:Nat}{F₀ H₀ F H:Hp}{σ:St}{ρ:En},VR X.K ⟨al,b+c⟩ F₀ H₀ F H σ ρ->∀Dv D,EndsOk X.K ⟨al,b⟩ F₀ H₀ F Dv D->t Dv ρ->T D σ H
noncomputable def CI(X:Cx)(al:Option Addr)(c:Nat)(tg iter:Expr)(fi:En->(List ET->Prop)->Prop):Prop:=∃wi,PI X tg iter wi/\∀{b:Nat}{F₀ H₀ F H:Hp}{σ:St}{ρ:En},VR X.K ⟨al,b+c⟩ F₀ H₀ F H σ ρ->∀(Qd:List ET->Prop)(R:It->Hp->Prop),fi ρ Qd ->
 (∀J xs F' H',Grow ⟨al,b⟩ F H F' H'->(∀b',VIt X.K ⟨al,b'⟩ F' J xs)->Qd xs->R J H')->wi σ H R
section
variable{X:Cx}{al:Option Addr}{c c1 c2 c3:Nat}{st:Stmt}{rest body:List Stmt}{t u:DV}{a b e ec:Expr}{es:List Expr}{fa fb:TV}{fs:DU}{f g:TB}{pos p:Pos}
theorem cv(h:∀n,PV X ⟨al,n⟩ e fa):CV X al 0 e fa :=
 ⟨fun σ H Q=>∃n,Ft (h n) σ H Q,fun pins s σ H Q I ⟨n,z⟩=>(EV (h n)).1 pins s σ H Q I z,fun{b F₀ H₀ F H σ ρ} R Qd Q q k=>⟨b,(EV (h b)).2 R Qd Q q k⟩⟩
theorem cb(h:∀n,PB X ⟨al,n⟩ e f):CB X al 0 e f :=
 ⟨fun σ H Q=>∃n,Ft (h n) σ H Q,fun pins s σ H Q I ⟨n,z⟩=>(EV (h n)).1 pins s σ H Q I z,fun{b F₀ H₀ F H σ ρ} R Qd Q q k=>⟨b,(EV (h b)).2 R Qd Q q k⟩⟩
theorem DG(h:∀n,D9 X ⟨al,n⟩ es fs):EH X al 0 es fs :=
 ⟨fun σ H Q=>∃n,Ft (h n) σ H Q,fun p pins s σ H Q I ⟨n,z⟩=>(EV (h n)).1 p pins s σ H Q I z,fun{b F₀ H₀ F H σ ρ} R Qd Q q k=>⟨b,(EV (h b)).2 R Qd Q q k⟩⟩
theorem cs(h:∀n,Ec X ⟨al,n⟩ st t):CS X al 0 st t :=
 ⟨fun D σ H=>∃n,Ft (h n) D σ H,fun pins s σ H D I ⟨n,z⟩=>(EV (h n)).1 pins s σ H D I z,fun{b F₀ H₀ F H σ ρ} R Dv D ok q=>⟨b,(EV (h b)).2 R Dv D ok q⟩⟩
theorem DH(h:∀n,lq X ⟨al,n⟩ body t):EJ X al 0 body t :=
 ⟨fun D σ H=>∃n,Ft (h n) D σ H,fun pins s σ H D I ⟨n,z⟩=>(EV (h n)).1 pins s σ H D I z,fun{b F₀ H₀ F H σ ρ} R Dv D ok q=>⟨b,(EV (h b)).2 R Dv D ok q⟩⟩
theorem VIt.on{K:W.Frag}{r r':RlT}{J:It}(h:VIt K r F J xs):VIt K r' F J xs:=⟨h.go,h.stop,h.yld⟩
theorem ci(h:∀n,Ef X ⟨al,n⟩ tg iter fi):CI X al 0 tg iter fi :=
 ⟨fun σ H Q=>∃n,Ft (h n) σ H Q,fun pins s σ H Q I ⟨n,z⟩=>(EV (h n)).1 pins s σ H Q I z,fun{b F₀ H₀ F H σ ρ} R Qd Q q k=>⟨b,(EV (h b)).2 R Qd Q q fun J xs F' H' g v=>k J xs F' H' g fun _=>v.on⟩⟩
theorem be:EH X al 0 [] mM:=DG fun _=>ac
theorem aq(h1:CV X al c1 e fa)(h2:EH X al c2 es fs)(hs:autoParam (E4 (e::es) X.env=(false,eval e X.env)::E4 es X.env) æa._auto_1):EH X al (c1+c2) (e::es) (aT fa fs):=by
 obtain⟨t,p1,k1⟩:=h1;obtain⟨ts,p2,k2⟩:=h2;refine⟨_,nH p1 p2 hs,fun{n _ _ _ _ _ _} R Qd Q q k=>?_⟩;refine k1 (b:=n+c2) (R.pay (by omega)) _ _ q fun v w F1 H1 g1 r1 n1 q1=>?_;obtain⟨F2,g2,s2,r2⟩:=c7.fz g1 r1 n1;refine k2 (b:=n) (R.gr g2) _ _ q1 fun vs ws F3 H3 g3 r3 q3=>?_;exact k (v::vs) (w.fz::ws) F3 H3 (g2.tr g3) (.cons (r2.gr g3) r3) q3
theorem rJ{r:R2}{g:W->W->(W->Prop)->Prop}(vo:∀n,DS X ⟨al,n⟩ r g)(ha:CV X al c1 a fa)(hb:CV X al c2 b fb){e:Expr}(hp:∀ta tb,PE X a ta->PE X b tb->PE X e (CF r ta tb)):CV X al (c1+c2) e (Ck g fa fb):=by
 obtain⟨ta,p1,k1⟩:=ha;obtain⟨tb,p2,k2⟩:=hb;refine⟨_,hp ta tb p1 p2,fun{n _ _ _ _ _ _} R Qd Q q k=>?_⟩;refine k1 (b:=n+c2) (R.pay (by omega)) _ _ q fun v w F1 H1 g1 r1 n1 q1=>?_;refine k2 (b:=n) (R.gr g1) _ _ q1 fun v2 w2 F2 H2 g2 r2 n2 q2=>?_;exact vo n Qd Q g2.sub g2.reel (r1.gr g2) r2 q2 fun v3 w3 F3 H3 g3 r3 n3 q3=>k v3 w3 F3 H3 ((g1.tr g2).tr g3) r3 ((n3.back g2).back g1) q3
theorem xJ{op:Lc}{r:R2}{g:W->W->(W->Prop)->Prop}(ho:Ek X (Hw op) r)(vo:∀n,DS X ⟨al,n⟩ r g)(ha:CV X al c1 a fa)(hb:CV X al c2 b fb):CV X al (c1+c2) (.BinOp a op b pos) (Ck g fa fb) :=
 rJ vo ha hb fun _ _ p1 p2=>wE ho p1 p2
theorem xK(ha:CV X al c1 a fa)(hb:CV X al c2 b fb):CV X al (c1+c2) (.BinOp a .Add b pos) (Ck (DE fun i j=>.int (i+j)) fa fb):=xJ rh (fun _=>c8 fun _ _ _ _=>.int _) ha hb
theorem zA(ha:CV X al c1 a fa)(hb:CV X al c2 b fb):CV X al (c1+c2) (.BinOp a .Sub b pos) (Ck (DE fun i j=>.int (i-j)) fa fb):=xJ rg (fun _=>c8 fun _ _ _ _=>.int _) ha hb
theorem A3(ha:CV X al c1 a fa)(hb:CV X al c2 b fb)(hs:autoParam (jZ b) æg._auto_1):CV X al (c1+c2) (.Subscript a b pos) (Ck DB fa fb):=rJ (fun _=>uU) ha hb fun _ _ p1 p2=>wI rn p1 p2 hs
theorem oR{r:R2}{g:W->W->(W->Prop)->Prop}(ho:Ek X (HK op) r)(vo:∀n,DS X ⟨al,n⟩ r g)(hm:HN op b=false)(ha:CV X al c1 a fa)(hb:CV X al c2 b fb):CB X al (c1+c2) (.Compare a [op] [b] pos) (mL (Ck g fa fb)):=by
 obtain⟨ta,p1,k1⟩:=ha;obtain⟨tb,p2,k2⟩:=hb;refine⟨_,nu ho p1 p2 hm,fun{n _ _ _ _ _ _} R Qd Q q k=>?_⟩;refine k1 (b:=n+c2) (R.pay (by omega)) _ _ q fun v w F1 H1 g1 r1 n1 q1=>?_;refine k2 (b:=n) (R.gr g1) _ _ q1 fun v2 w2 F2 H2 g2 r2 n2 q2=>?_;refine vo n _ _ g2.sub g2.reel (r1.gr g2) r2 q2 fun v3 w3 F3 H3 g3 r3 n3 ⟨kb,ew,q3⟩=>?_;subst ew;exact⟨kb,eV r3,k kb F3 H3 ((g1.tr g2).tr g3) q3⟩
theorem uB(ha:CB X al c a f):EL X al c (.BoolOp .And [a] pos) f:=by
 obtain⟨t,p,k⟩:=ha;exact⟨t,nj p,k⟩
theorem xH(ha:CB X al c a f):EL X al c (.BoolOp .Or [a] pos) f:=by
 obtain⟨t,p,k⟩:=ha;exact⟨t,qW p,k⟩
theorem EL.cb(h:EL X al c e f):CB X al c e f:=by
 obtain⟨t,p,k⟩:=h;exact⟨t,p.pt,k⟩
theorem xI{rest:List Expr}(ha:CB X al c1 a f)(hb:EL X al c2 (.BoolOp .And (b::rest) pos) g):EL X al (c1+c2) (.BoolOp .And (a::b::rest) pos) (xW f g):=by
 obtain⟨t,p,k⟩:=ha;obtain⟨t2,p2,k2⟩:=hb;refine⟨_,qX p p2,fun{n _ _ _ _ _ _} R Qd Q q h=>k (b:=n+c2) (R.pay (by omega)) _ _ q fun c F1 H1 g1 q1=>?_⟩
 cases c with
 | true=>exact k2 (b:=n) (R.gr g1) _ _ q1 fun c F2 H2 g2 q2=>h c F2 H2 (g1.tr g2) q2
 | false=>exact h false F1 H1 (g1.pay (by omega)) q1
theorem zy{rest:List Expr}(ha:CB X al c1 a f)(hb:EL X al c2 (.BoolOp .Or (b::rest) pos) g):EL X al (c1+c2) (.BoolOp .Or (a::b::rest) pos) (Cj f g):=by
 obtain⟨t,p,k⟩:=ha;obtain⟨t2,p2,k2⟩:=hb;refine⟨_,wp p p2,fun{n _ _ _ _ _ _} R Qd Q q h=>k (b:=n+c2) (R.pay (by omega)) _ _ q fun c F1 H1 g1 q1=>?_⟩
 cases c with
 | true=>exact h true F1 H1 (g1.pay (by omega)) q1
 | false=>exact k2 (b:=n) (R.gr g1) _ _ q1 fun c F2 H2 g2 q2=>h c F2 H2 (g1.tr g2) q2
theorem zz{x1}(h:EH X al c es fs):CV X al c (.Tuple es x1 pos) (xT fs):=by
 obtain⟨t,p,k⟩:=h;refine⟨_,rb p,fun R Qd Q q h=>k R _ _ q fun vs ws F1 H1 g1 r1 ⟨ds,e1,z,q1⟩=>?_⟩;have rs:=dv r1 e1;refine⟨by rw[rs.length];exact z,fun p hp=>?_⟩;have g2:=g1.tr (Grow.data (a:=p) (o:=.tup vs) g1.sub g1.reel hp);exact h _ (.d (.tuple ds)) _ _ g2 (.tup (.inl (.inl ar)) (rs.mono (Grow.data (o:=.tup vs) g1.sub g1.reel hp).fs)) trivial q1
theorem qE{g:List W->(W->Prop)->Prop}(vc:∀n,eQ X ⟨al,n⟩ r g)(ha:EH X al c es fs){e:Expr}(hp:∀ta,PA X es ta->PE X e (CJ r ta)):CV X al c e (dH g fs):=by
 obtain⟨ta,p1,k1⟩:=ha;refine⟨_,hp ta p1,fun{n _ _ _ _ _ _} R Qd Q q k=>k1 R _ _ q fun vs ws F1 H1 g1 r1 q1=>?_⟩;exact vc n Qd Q g1.sub g1.reel r1 q1 fun v w F2 H2 g2 r2 n2 q2=>k v w F2 H2 (g1.tr g2) r2 (n2.back g1) q2
theorem qI{T:String}{g:List W->(W->Prop)->Prop}(hc:eR X (.type T) r)(vc:∀n,eQ X ⟨al,n⟩ r g)(hm:X.mg x=none)(hv:HJ x=some (.type T))(ha:EH X al c (e::es) fs)(hg:autoParam (Gl X x) æa._auto_1)(hn:autoParam (x ≠ "__name__") æb._auto_1)(hdb:autoParam ((x==("__debug__" : Str))=false) æb._auto_1)
 (he:autoParam (E4 (e::es) X.env=(false,eval e X.env)::E4 es X.env) æa._auto_1)(hpl:autoParam ((GP pos (E4 es X.env)).any (·.1)=false) æa._auto_1):CV X al c (.Call (.Name x p) (e::es) [] pos) (dH g fs) :=
 qE vc ha fun _ p1=>i_ hc hg hm hv p1 hn hdb he hpl
theorem oV(hm:X.mg "tuple" = none)(ha:EH X al c [a] fs)(hg:autoParam (Gl X "tuple") æa._auto_1)(he:autoParam (E4 [a] X.env=(false,eval a X.env)::E4 [] X.env) æa._auto_1)(hpl:autoParam ((GP pos (E4 [] X.env)).any (·.1)=false) æa._auto_1) :
 CV X al c (.Call (.Name "tuple" p) [a] [] pos) (dH oh fs):=qI eB (fun _=>qL) hm (by rfl) ha hg (by decide) (by decide) he hpl
theorem ji:EJ X al 0 [] sF:=DH fun _=>cw
theorem cI(h:CS X al c st t):EJ X al c [st] t:=by
 obtain⟨T,p,k⟩:=h;exact⟨T,jI p,k⟩
theorem aF(h:CS X al c1 st t)(h2:EJ X al c2 rest u):EJ X al (c1+c2) (st::rest) (vh t u):=by
 obtain⟨T,p,k⟩:=h;obtain⟨T2,p2,k2⟩:=h2;refine⟨_,d7 p p2,fun{n _ _ _ _ _ _} R Dv D ok q=>k (b:=n+c2) (R.pay (by omega)) {Dv with nx:=u Dv} {D with nx:=T2 D} ?_ q⟩;have o2:=ok.pay (b:=n+c2) (by omega);exact⟨fun F H σ ρ s' R' q'=>k2 (b:=n) R' Dv D (ok.on s') q',o2.rt,o2.bk,o2.ct⟩
theorem rH(h:CV X al c e fa):CS X al c (.Return (some e) pos) (yp fa):=by
 obtain⟨t,p,k⟩:=h;exact⟨_,nv p,fun R Dv D ok q=>k R _ _ q fun v w F1 H1 g1 r1 n1 q1=>ok.rt v w F1 H1 (R.g.tr g1) r1 (n1.back R.g) q1⟩
theorem oJ{A B:List Stmt}(hc:CB X al c1 ec f)(ha:EJ X al c2 A t)(hb:EJ X al c3 B u):CS X al (c1+(c2+c3)) (.If ec A B pos) (xU f t u):=by
 obtain⟨t0,p0,k0⟩:=hc;obtain⟨t1,p1,k1⟩:=ha;obtain⟨t2,p2,k2⟩:=hb;refine⟨_,wu p0 p1 p2,fun{n _ _ _ _ _ _} R Dv D ok q=>k0 (b:=n+(c2+c3)) (R.pay (by omega)) _ _ q fun k F1 H1 g1 q1=>?_⟩
 cases k with
 | true=>exact k1 (b:=n) ((R.gr g1).pay (by omega)) Dv D (ok.on g1.fs) q1
 | false=>exact k2 (b:=n) ((R.gr g1).pay (by omega)) Dv D (ok.on g1.fs) q1
theorem VR.setC{K:W.Frag}{n':Nat}(r:VR K ⟨al,n⟩ F₀ H₀ F H σ ρ){H1 F1:Hp}(g:Grow ⟨al,n'⟩ F H F1 H1)(hn:n'<=n){w:W}(rw':c7 K ⟨al,n'⟩ F1 H1 v w)(hw:dB H v w)(hp:∀xs,w ≠ .pk xs)(i:Nat):VR K ⟨al,n'⟩ F₀ H₀ F1 H1 (σ.set i (some v)) (ρ.set i (some w)) :=
 (r.pay hn).set g rw' hw hp i
theorem gw(i:Nat)(hN:X.N.Nodup)(he:CV X al c e fa)(hi:autoParam (X.N[i]?=some x) æa._auto_1)(hx:autoParam (Loc X.env.scope x) æe._auto_1)
 (hs:autoParam (GH e (some (.Name x pos')) pos.line X.env=pure false) æa._auto_1)(hf:autoParam (X.fn x=true\/X.env.scope.names.lookup x=some .local) æf._auto_1) :
 CS X al c (.Assign [.Name x pos'] e pos) (lv i fa):=by
 obtain⟨t,p,k⟩:=he;refine⟨_,fS hN hi hx p hs hf,fun R Dv D ok q=>k R _ _ q fun v w F1 H1 g1 r1 n1 ⟨d,ed,q1⟩=>?_⟩;obtain⟨F2,g2,s2,r2⟩:=c7.fz g1 r1 n1;rw[ed]at r2;exact ok.nx _ _ _ _ g2.fs (R.setC g2 (by omega) r2 trivial (fun xs z=>by cases z) i) q1
theorem xE(i:Nat){nm:Str}{id:String}{r:V->List V->Hp->VK->Prop}{g:List ET->List W->(List ET->Prop)->Prop}{apos cpos:Pos}(slot:Slot "list" nm id)(hty:typeOf (.builtin id)=pure (.type "method_descriptor"))(hm:Em X id r)(vm:∀n,zG X.K ⟨al,n⟩ r g)(ha:EH X al c (e::es) fs)
 (hN:autoParam (X.N[i]?=some x) æa._auto_1)(hv:autoParam (DR X.env.scope x) æc._auto_1)
 (hd:autoParam ((x==("__debug__" : Str))=false) æb._auto_1)(hcd:autoParam ((x==("__classdict__" : Str))=false) æb._auto_1)
 (hbase:autoParam (Ik (.Name x px) nm X.env (eval (.Name x px) X.env)=eval (.Name x px) X.env) æa._auto_1)
 (hfew:autoParam (((GP cpos (E4 (e::es) X.env)).all (fun x=>!x.1)&&(Li cpos (Jd [] X.env)).all (fun x=>x.1.isSome)
  && decide ((e::es).length+([]:List IJ).length+(if([]:List IJ).isEmpty then 0 else 1)<30))=true) æa._auto_1)
 (hline:autoParam ((apos.endLine==cpos.line)=true) æa._auto_1)(hs:autoParam (E4 (e::es) X.env=(false,eval e X.env)::E4 es X.env) æa._auto_1)(hplain:autoParam ((GP cpos (E4 es X.env)).any (·.1)=false) æa._auto_1)
 (hsw:autoParam (GH (.Call (.Attribute (.Name x px) nm apos) (e::es) [] cpos) none pos.line X.env=pure false) æa._auto_1) :
 CS X al c (.Expr (.Call (.Attribute (.Name x px) nm apos) (e::es) [] cpos) pos) (uH i g fs):=by
 obtain⟨t,p1,k⟩:=ha;refine⟨_,nw (wJ JW slot hty hm (cH hN hv hd hcd) p1 hbase hfew hline hs hplain) hsw,fun{n F₀ H₀ F H σ ρ} R Dv D ok ⟨xs,e1,q⟩=>?_⟩;obtain⟨v,h1,h2,h3⟩:=R.sl i _ e1;obtain⟨a,vs,rfl,f,hr,hh,rs⟩:=(show iJ X.K ⟨al,n+c⟩ F H v xs from h2);refine⟨.ref a,h1,.inl ⟨rfl,vs,.inl (.inl hh)⟩,k R _ _ q fun args ws F1 H1 g1 r1 q1=>?_⟩;refine vm n _ _ g1.sub (g1.same a _ hh hr) (rs.mono g1.fs) r1 q1 fun us ys r2 q2=>?_;exact ok.nx _ _ _ _ g1.fs ((R.gr g1).own e1 h1 r2) q2
theorem xF(i:Nat){apos cpos:Pos}(ha:EH X al c [e] fs)(hN:autoParam (X.N[i]?=some x) æa._auto_1)(hv:autoParam (DR X.env.scope x) æc._auto_1)
 (hd:autoParam ((x==("__debug__" : Str))=false) æb._auto_1)(hcd:autoParam ((x==("__classdict__" : Str))=false) æb._auto_1)
 (hbase:autoParam (Ik (.Name x px) "append" X.env (eval (.Name x px) X.env)=eval (.Name x px) X.env) æa._auto_1)
 (hfew:autoParam (((GP cpos (E4 [e] X.env)).all (fun x=>!x.1)&&(Li cpos (Jd [] X.env)).all (fun x=>x.1.isSome)
  && decide (([e]).length+([]:List IJ).length+(if([]:List IJ).isEmpty then 0 else 1)<30))=true) æa._auto_1)
 (hline:autoParam ((apos.endLine==cpos.line)=true) æa._auto_1)(hs:autoParam (E4 [e] X.env=(false,eval e X.env)::E4 [] X.env) æa._auto_1)(hplain:autoParam ((GP cpos (E4 [] X.env)).any (·.1)=false) æa._auto_1)
 (hsw:autoParam (GH (.Call (.Attribute (.Name x px) "append" apos) [e] [] cpos) none pos.line X.env=pure false) æa._auto_1) :
 CS X al c (.Expr (.Call (.Attribute (.Name x px) "append" apos) [e] [] cpos) pos) (uH i xt fs) :=
 xE i JJ JK d9 (fun _=>qK) ha hN hv hd hcd hbase hfew hline hs hplain hsw
end
theorem iP{c:Nat}(h:i<n):(n-i)*c=(n-(i+1))*c+c:=by
 have:n-i=(n-(i+1))+1:=by omega
 rw[this,Nat.succ_mul]
noncomputable def vA(n:Nat)(fl:List Nat)(fi:En->(List ET->Prop)->Prop)(g:DY)(t:DV):DV:=fun D ρ=>fi ρ fun xs=>xs.length<=n/\cy fl g t xs D (fo fl ρ)
section
variable{X:Cx}{al:Option Addr}{c c1 c2 c3:Nat}{st:Stmt}{rest body:List Stmt}{t u:DV}{a b e ec:Expr}{es:List Expr}{fa fb:TV}{fs:DU}{f:TB}{pos p:Pos}
theorem jj(n:Nat)(fl:List Nat){g:DY}(hp:Ld (FA X.prog X.w) X.A X.env X.xe)(hc:X.calm=true)(hi:CI X al c1 tg iter fi)(hg:∀m,Ei X ⟨al,m⟩ tg g)(hb:EJ X al c2 body t)
 (hs:autoParam (∀x,FC iter X.env x=pure x) æd._auto_1):CS X al (c1+n*c2) (.For tg iter body [] pos) (vA n fl fi g t):=by
 obtain⟨wi,p0,k0⟩:=hi;obtain⟨T,p2,k2⟩:=hb;have p1:PG X tg (fun v σ H Q=>∃m,Ft (hg m) v σ H Q):=fun pins s σ H v u Q I rv ⟨m,z⟩=>(EV (hg m)).1 pins s σ H v u Q I rv z;refine⟨_,qZ hp hc p0 p1 p2 hs,fun{b F₀ H₀ F H σ ρ} R Dv D ok q=>k0 (b:=b+n*c2) (R.pay (by omega)) _ _ q fun J xs F1 H1 g1 vi ⟨hn,q1⟩=>?_⟩;refine⟨fun i m σ H=>m=xs.length-i/\i<=xs.length/\∃F ρ,bJ F1 F/\VR X.K ⟨al,b+(n-i)*c2⟩ F₀ H₀ F H σ ρ/\cy fl g t (xs.drop i) Dv ρ,⟨xs.length,by simp,FE _,F1,fo fl ρ,.refl _,(R.gr g1).le (eM fl ρ),by simpa using q1⟩,?_⟩;rintro i m σ H ⟨rfl,hi,F2,ρ2,s2,R2,j2⟩;have sH:bJ F1 H:=s2.trans R2.sub;by_cases hlt:i<xs.length
 · have ei:xs[i]?=some xs[i]:=by simp[hlt]
   rw[FS hlt]at j2;have el:=iP (n:=n) (i:=i) (c:=c2) (by omega);refine .inr ⟨(vi 0).go i H _ ei sH,fun σ' H'=>∃F ρ,bJ F1 F/\VR X.K ⟨al,b+(n-(i+1))*c2⟩ F₀ H₀ F H' σ' ρ/\cy fl g t (xs.drop (i+1)) Dv ρ,fun σ' H' z=>⟨xs.length-(i+1),by omega,rfl,hlt,z⟩,fun v H' y=>?_⟩;obtain⟨Fy,gy,rv⟩:=(vi 0).yld i H v H' _ F2 ei s2 R2.sub R2.reel y;refine⟨_,(EV (hg (b+(n-i)*c2))).2 (R2.gr gy) v _ _ _ rv j2 fun F3 H3 σ3 ρ3 s3 n3 R3 q3=>?_⟩;have s13:bJ F1 F3:=s2.trans (gy.fs.trans s3.fs);have o2:=ok.pay (b:=b+(n-(i+1))*c2) (by omega)
   exact k2 (b:=b+(n-(i+1))*c2) (R3.pay (by omega)) {Dv with nx:=fun ρ'=>cy fl g t (xs.drop (i+1)) Dv (fo fl ρ'),ct:=fun ρ'=>cy fl g t (xs.drop (i+1)) Dv (fo fl ρ'),bk:=fun ρ'=>Dv.nx (fo fl ρ')} _
    ⟨fun F4 H4 σ4 ρ4 s4 R4 q4=>⟨F4,fo fl ρ4,s13.trans s4,R4.le (eM fl ρ4),q4⟩,o2.rt,fun F4 H4 σ4 ρ4 s4 R4 q4=>o2.nx _ _ _ _ (g1.fs.trans (s13.trans s4)) (R4.le (eM fl ρ4)) q4,fun F4 H4 σ4 ρ4 s4 R4 q4=>⟨F4,fo fl ρ4,s13.trans s4,R4.le (eM fl ρ4),q4⟩⟩ q3
 · have e:i=xs.length:=by omega
   subst e;rw[G3]at j2;exact .inl ⟨(vi 0).stop _ H (E3 _) sH,ok.nx _ _ _ _ (g1.fs.trans s2) (R2.pay (by omega)) j2⟩
theorem oQ(hm:X.mg "range" = none)(ha:EH X al c [a] fs)(hg:autoParam (Gl X "range") æa._auto_1)(hs:autoParam (E4 [a] X.env=[(false,eval a X.env)]) æa._auto_1):CI X al c tg (.Call (.Name "range" p) [a] [] pos) (Dx fs):=by
 obtain⟨t,p1,k⟩:=ha;refine⟨_,i8 hg hm p1 hs,fun R Qd Q q h=>k R _ _ q fun vs ws F1 H1 g1 r1 ⟨j,ew,b,q1⟩=>?_⟩;subst ew;obtain⟨v,rfl,rv⟩:=pd r1;have e:=aX rv;subst e;exact⟨j,rfl,b.1,b.2,h _ _ F1 H1 g1 (fun _=>fH 0 _) q1⟩
theorem uC{k:Nat}(D:∀n,Dfn X.prog X.w X.K X.mg X.base ⟨al,n⟩ x ps k Pd)(hr:Room k X.A)(ha:EH X al c (e::es) fs)(hg:autoParam (Gl X x) æa._auto_1)
 (hdb:autoParam ((x==("__debug__" : Str))=false) æb._auto_1)(he:autoParam (E4 (e::es) X.env=(false,eval e X.env)::E4 es X.env) æa._auto_1)(hpl:autoParam ((GP pos (E4 es X.env)).any (·.1)=false) æa._auto_1) :
 CV X al c (.Call (.Name x p) (e::es) [] pos) (xS Pd fs):=by
 obtain⟨t,p1,kk⟩:=ha
 have P:∀n,∃tn:TE,PE X (.Call (.Name x p) (e::es) [] pos) tn/\∀σ H Q,(t σ H fun vs H1=>Cc X.K ⟨al,n⟩ Pd vs H1 Q fun _ _ _=>False)->tn σ H Q:=fun n=>by
  obtain⟨f,fd,hm,hk,hb,F⟩:=(D n).ex;exact⟨_,fT F hr hg hm hk hb .nil nG p1 hdb he hpl,fun σ H Q z=>by simpa[vP,GQ]using z⟩
 refine⟨fun σ H Q=>∃n,Ft (P n) σ H Q,fun pins s σ H Q I ⟨n,z⟩=>(EV (P n)).1 pins s σ H Q I z,fun{n _ _ _ _ _ _} R Qd Q q h=>⟨n,(EV (P n)).2 _ _ _ (kk (b:=n) R _ _ q fun vs ws F1 H1 g1 r1 ⟨ok,q1⟩=>?_)⟩⟩;refine⟨F1,ws,g1.sub,g1.reel,r1,ok,?_⟩;exact(D n).mono ws _ _ (fun d qd v F2 H2 g2 r2=>h v (.d d) F2 H2 (g1.tr g2) r2 trivial qd) q1
noncomputable def BN(K:W.Frag)(al:Option Addr)(c:Nat)(P:List W->(ET->Prop)->Prop):Sp:=fun vs H Q _=>∃b F ws,bJ F H/\D7 ⟨al,b+c⟩ F H/\eC K ⟨al,b+c⟩ F H vs ws/\ws.all dr=true/\P ws fun d=>∀v F' H',Grow ⟨al,b⟩ F H F' H'->Rep K F' v d->Q v H'
structure DfnC (P:Fo) (w:Gc) (K:W.Frag) (mg:Str->Option EX) (base:Heap) (al:Option Addr) (c:Nat) (x:Str) (ps:List Str) (k:Nat) (Pd:List W->(ET->Prop)->Prop):Prop where
 mono:∀ws Q Q',(∀d,Q d->Q' d)->Pd ws Q->Pd ws Q'
 ex:∃f fd,mg x=some (.ref f)/\W.keepIn K (.ref f)=true/\Binds K fd ps []/\FnOk P w K mg base EG k f fd ps (BN K al c Pd)
theorem cP{k:Nat}(D:DfnC X.prog X.w X.K X.mg X.base al c2 x ps k Pd)(hr:Room k X.A)(ha:EH X al c1 (e::es) fs)(hg:autoParam (Gl X x) æa._auto_1)
 (hdb:autoParam ((x==("__debug__" : Str))=false) æb._auto_1)(he:autoParam (E4 (e::es) X.env=(false,eval e X.env)::E4 es X.env) æa._auto_1)(hpl:autoParam ((GP pos (E4 es X.env)).any (·.1)=false) æa._auto_1) :
 CV X al (c1+c2) (.Call (.Name x p) (e::es) [] pos) (xS Pd fs):=by
 obtain⟨f,fd,hm,hk,hb,F⟩:=D.ex;obtain⟨t,p1,kk⟩:=ha;refine⟨_,fT F hr hg hm hk hb .nil nG p1 hdb he hpl,fun{n _ _ _ _ _ _} R Qd Q q h=>kk (b:=n+c2) (R.pay (by omega)) _ _ q fun vs ws F1 H1 g1 r1 ⟨ok,q1⟩=>?_⟩;refine⟨n,F1,ws,g1.sub,g1.reel,by rw[GQ];exact r1,ok,?_⟩;exact D.mono ws _ _ (fun d qd v F2 H2 g2 r2=>h v (.d d) F2 H2 (g1.tr g2) r2 trivial qd) q1
end
section
variable{P:Fo}{w:Gc}{K:W.Frag}{mg:Str->Option EX}{base:Heap}{al:Option Addr}{c c0:Nat}{x:Str}{st:Stmt}{N ps:List Str}{k:Nat}{Pd:List W->(ET->Prop)->Prop}{t:DV}
theorem DfnC.of(Fn:FnIn K mg x st ps)(S:FnScope N ps (defScope st))(mono:∀ws Q Q',(∀d,Q d->Q' d)->Pd ws Q->Pd ws Q')(len:∀ws Q,Pd ws Q->ws.length=ps.length)
 (hbody:∀{f:Addr}(cdv:EX)(A:Gh)(outer:List Env)(s:EZ)(H:Hp)(E:XK),Room k (A.deeper (JG x (defScope st) s.heap.objs.size f cdv)) ->
  EJ (lZ EG P w K mg base N x (defScope st) f cdv A outer s H E).nox al c0 (defBody st) t)
 (hle:c0<=c)(hread:∀ws Q,Pd ws Q->t (lw Q) (dj N ws)):DfnC P w K mg base al c x ps (k+1) Pd:=by
 obtain⟨f,fd,hm,F,hb⟩:=Fn.ex;refine⟨mono,f,fd,hm,F.kp,hb,?_⟩;refine F.ok S (fun vs H Q E ⟨n,F,ws,_,_,r,_,q⟩=>(GI r).trans (len ws _ q)) fun cdv A outer s H vs Q E hr h=>?_;obtain⟨n,F1,ws,sm,ra,r,ok,q⟩:=h;obtain⟨T,p,kk⟩:=hbody cdv A outer s H E hr;refine⟨T,p,kk (b:=n) ((dS sm ra r ok).pay (by omega)) (lw _) _ ⟨?_,?_,fun _ _ _ _ _ _ z=>Gx z,fun _ _ _ _ _ _ z=>Gx z⟩ (hread ws _ q)⟩
 · intro F2 H2 σ1 ρ1 _ R1 q1;exact q1 .non F2 H2 R1.g .non
 · rintro v w1 F2 H2 g1 r1 n1 ⟨d,ed,q1⟩;obtain⟨F3,g2,s2,r2⟩:=c7.fz g1 r1 n1;rw[ed]at r2;exact q1 v F3 H2 g2 r2
end
noncomputable def mO(n:Nat)(fi:En->(List ET->Prop)->Prop)(fr:List (Option Nat))(g:DY)(ft:TB)(fe:TV):TV:=fun ρ Q=>fi ρ fun xs=>xs.length<=n/\kr (dP fr ρ) g ft fe xs [] fun ds=>Q (.ml ds)
noncomputable def EI(X:Cx)(al:Option Addr)(c:Nat)(ifs:List Expr)(f:TB):Prop:=∃t,Ea X ifs t/\∀{b:Nat}{F₀ H₀ F H:Hp}{σ:St}{ρ:En},VR X.K ⟨al,b+c⟩ F₀ H₀ F H σ ρ->∀(Qd:Bool->Prop)(Q:Bool->Hp->Prop),f ρ Qd ->
 (∀k F' H',Grow ⟨al,b⟩ F H F' H'->Qd k->Q k H')->t σ H Q
theorem rG{al:Option Addr}:EI X al 0 [] (fun _ Q=>Q true):=⟨_,nq,fun R Qd Q q k=>k true _ _ (Grow.refl R.sub R.reel) q⟩
section
variable{X:Cx}{al:Option Addr}{c1 c2 c3:Nat}{elt tg iter:Expr}{ifs:List Expr}{scope:Scope}{pos:Pos}{fi:En->(List ET->Prop)->Prop}{g:DY}{ft:TB}{fe:TV}
abbrev Cz{Y:Cx}(hg:∀m,Ei Y ⟨al,m⟩ tg g):TG:=fun v σ H Q=>∃m,Ft (hg m) v σ H Q
theorem yD{Y:Cx}(hg:∀m,Ei Y ⟨al,m⟩ tg g):PG Y tg (Cz hg):=fun pins s σ H v u Q I rv ⟨m,z⟩=>(EV (hg m)).1 pins s σ H v u Q I rv z
theorem p9{wi:TI}(n:Nat)(fr:List (Option Nat))(k0:∀{b:Nat}{F₀ H₀ F H:Hp}{σ:St}{ρ:En},VR X.K ⟨al,b+c1⟩ F₀ H₀ F H σ ρ->∀(Qd:List ET->Prop)(R:It->Hp->Prop),fi ρ Qd ->
 (∀J xs F' H',Grow ⟨al,b⟩ F H F' H'->(∀b',VIt X.K ⟨al,b'⟩ F' J xs)->Qd xs->R J H')->wi σ H R)
 (hg:∀y m,Ei (blk X N' scope y) ⟨al,m⟩ tg g)(ht:∀y,EI (blk X N' scope y) al c2 ifs ft)(he:∀y,CV (blk X N' scope y) al c3 elt fe)
 {b:Nat}(R:VR X.K ⟨al,b+(c1+n*(c2+c3))⟩ F₀ H₀ F H σ ρ)(Qd:W->Prop)(Q:VK)(q:mO n fi fr g ft fe ρ Qd)
 (k:∀v w F' H',Grow ⟨al,b⟩ F H F' H'->c7 X.K ⟨al,b⟩ F' H' v w->dB H v w->Qd w->Q v H'):pF wi fr (fun y=>Cz (hg y)) (fun y=>Ft (ht y)) (fun y=>Ft (he y)) σ H Q:=by
 refine k0 (b:=b+n*(c2+c3)) (R.pay (by omega)) _ _ q fun J xs F1 H1 g1 vi ⟨hn,q1⟩=>?_;intro D hD;have rD:al≠some D:=fun e=>by obtain⟨o,z⟩:=g1.reel.live e;rw[hD]at z;cases z
 have FD:F1 D=none:=g1.sub.free hD;have gD:Grow ⟨al,b+n*(c2+c3)⟩ F1 H1 F1 (Co H1 D (.lst [])):=Grow.laid g1.sub g1.reel hD;have R1:=R.gr g1;have n0:lV (dP fr ρ):=du
 refine⟨fun i m acc σc Hc=>m=xs.length-i/\i<=xs.length/\∃Fc ds,VR X.K ⟨al,b+(n-i)*(c2+c3)⟩ F1 H1 Fc Hc σc (dP fr ρ)/\Hc D=some (.lst acc)/\Fc D=none/\Reps X.K Fc acc ds/\kr (dP fr ρ) g ft fe (xs.drop i) ds (fun ds=>Qd (.ml ds)),
  ⟨xs.length,by simp,FE _,F1,[],fg R1 gD,ar,FD,.nil,by simpa using q1⟩,?_⟩
 rintro z i m acc σc Hc ⟨rfl,hi,Fc,ds,Rc,hDc,fDc,rs,q2⟩;have sH:bJ F1 Hc:=Rc.g.fs.trans Rc.sub;by_cases hlt:i<xs.length
 · have ei:xs[i]?=some xs[i]:=by simp[hlt]
   have ed:xs.drop i=xs[i]::xs.drop (i+1):=FS hlt;rw[ed]at q2;have el:=iP (n:=n) (i:=i) (c:=c2+c3) (by omega);refine .inr ⟨(vi 0).go i Hc _ ei sH,fun v H' y=>?_⟩;obtain⟨Fy,gy,rv⟩:=(vi 0).yld i Hc v H' _ Fc ei Rc.g.fs Rc.sub Rc.reel y;refine⟨_,(EV (hg z _)).2 (Rc.gr gy) v _ _ _ rv q2 fun F3 H3 σ3 ρ3 g3 n3 R3 ⟨le3,q3⟩=>?_⟩;obtain⟨_,kt⟩:=EV (ht z);refine kt (b:=b+(n-(i+1))*(c2+c3)+c3) (R3.pay (by omega)) _ _ q3 fun k4 F4 H4 g4 q4=>?_;have R4:=R3.gr g4;have g34:=(gy.tr g3).tr g4;have keepD:∀{m:Nat}{Fx Hx:Hp},Grow ⟨al,m⟩ Fc Hc Fx Hx->Hx D=some (.lst acc)/\Fx D=none:=fun gx=>⟨gx.same D _ hDc rD,by rw[gx.old D _ hDc];exact fDc⟩
   cases k4 with
   | false=>exact⟨xs.length-(i+1),by omega,rfl,hlt,F4,ds,(R4.pay (by omega)).le le3,(keepD g34).1,(keepD g34).2,rs.mono g34.fs,q4⟩
   | true =>
     obtain⟨_,kv⟩:=EV (he z);refine kv (b:=b+(n-(i+1))*(c2+c3)) R4 _ _ q4 fun v5 w5 F5 H5 g5 r5 n5 ⟨d,ed5,hl,q5⟩=>?_;obtain⟨F6,g6,s6,r6⟩:=c7.fz g5 r5 n5;rw[ed5]at r6;have g36:=g34.tr g6;refine⟨(keepD g36).1,by rw[rs.length];exact hl,xs.length-(i+1),by omega,rfl,hlt,F6,ds++[d],((R4.gr g6).le le3).other n0 hD (keepD g36).2 rD,ar,(keepD g36).2,(rs.mono g36.fs).snoc r6,q5⟩
 · have e:i=xs.length:=by omega
   subst e;rw[G3]at q2;refine .inl ⟨(vi 0).stop _ Hc (E3 _) sH,k _ (.ml ds) Fc Hc (g1.tr (Rc.g.pay (by omega))) ⟨D,acc,rfl,fDc,rD,hDc,rs⟩ (fun a ea=>by cases ea;exact g1.freeB hD) q2⟩
theorem oW(n:Nat)(N':List Str)(fr:List (Option Nat))(hc:X.calm=true)(hi:CI X al c1 tg iter fi)
 (hg:∀y m,Ei (blk X N' scope y) ⟨al,m⟩ tg g)(ht:∀y,EI (blk X N' scope y) al c2 ifs ft)(he:∀y,CV (blk X N' scope y) al c3 elt fe)
 (hfr:autoParam (lS fr N' X.N scope X.env.scope=true) æa._auto_1)(hsc:autoParam (lW scope X.env.scope=true) æa._auto_1)
 (hs:autoParam (∀x,FC iter X.env x=pure x) æd._auto_1):CV X al (c1+n*(c2+c3)) (.ListComp elt [⟨tg,iter,ifs,0⟩] scope pos) (mO n fi fr g ft fe):=by
 obtain⟨wi,p0,k0⟩:=hi;exact⟨_,iw N' fr hc p0 hfr hsc (fun y=>yD (hg y)) (fun y=>(EV (ht y)).1) (fun y=>(EV (he y)).1) hs,fun R Qd Q q k=>p9 n fr k0 hg ht he R Qd Q q k⟩
end
noncomputable def kC:Ep:=Ir "cells"
noncomputable def kA:Ep:=Ir "at"
noncomputable def kL:Ep:=Ir "left"
theorem zg:¬kC=kA:=by decide +kernel
theorem zf:¬kC=kL:=by decide +kernel
theorem x4:¬kA=kL:=by decide +kernel
noncomputable def jr(c:Addr)(a l:Int):List (Ep×V):=[(kC,.ref c),(kA,.int a),(kL,.int l)]
theorem ju{p:Ep×V}{r:List (Ep×V)}{k:Ep}(e:¬p.1=k):iO (p::r) k=iO r k:=by
 unfold iO;rw[GA];simp[e]
theorem Bv(c:Addr)(a l:Int):iO (jr c a l) kC=some (.ref c):=dt rfl
theorem Bw(c:Addr)(a l:Int):iO (jr c a l) kA=some (.int a):=by unfold jr;rw[ju zg];exact dt rfl
theorem Bu(c:Addr)(a l:Int):iO (jr c a l) kL=some (.int l):=by unfold jr;rw[ju zf,ju x4];exact dt rfl
theorem Df{a b:Ep}(h:¬a=b):¬b=a:=fun e=>h e.symm
theorem yX(c:Addr)(a l n:Int):gL (jr c a l) kL (.int n)=jr c a n:=by
 unfold gL jr;rw[if_pos (by simp)];simp[zf,x4]
theorem yY(c:Addr)(a l n:Int):gL (jr c a l) kA (.int n)=jr c n l:=by
 unfold gL jr;rw[if_pos (by simp)];simp[zg,Df x4]
theorem zD:(0:Int)+BM<2^59990:=by
 have h:BM<2^59990:=KO (by decide) (by decide);rw[LD]
 exact_mod_cast h
theorem ReelOk.kv{r:Addr}(h:ReelOk n F H r):∃(c:Addr)(ns:List Int)(a l:Int),H r=some (.dK (jr c a l))/\F c=some (.lst (ns.map V.int))/\ns.length<=63/\0<=a/\0<=l/\a+n<2^59990:=by
 obtain⟨o,e,c,ns,a,l,rfl,q⟩:=h.ex;exact⟨c,ns,a,l,e,q⟩
theorem D7.put{al:Option Addr}{n':Nat}{K:W.Frag}{r c:Addr}{a l:Int}(R:VR K ⟨al,n⟩ F₀ H₀ F H σ ρ)(e:al=some r)(h:F c=some (.lst (ns.map V.int))/\ns.length<=63/\0<=a/\0<=l/\a+n'<2^59990):VR K ⟨al,n'⟩ F₀ H₀ F (Co H r (.dK (jr c a l))) σ ρ:=by
 have fr:F r=none:=(R.reel r e).1;have neF:∀b u,F b=some u->b≠r:=fun b u q z=>by subst z;rw[fr]at q;cases q
 have g:Grow ⟨al,n'⟩ F H F (Co H r (.dK (jr c a l))):=by
  refine⟨fun b o q n=>by rw[ak (fun z=>n (by rw[z];exact e))];exact q,.refl F,fun b o q=>by rw[ak (neF b o q)];exact R.sub b o q,fun _ _ _=>rfl,fun y z=>?_⟩;have:y=r:=FO (z.symm.trans e);subst this;exact⟨fr,⟨_,ar,c,ns,a,l,rfl,h⟩⟩
 exact R.gr g
theorem i4{K:W.Frag}{F:Hp}:∀ns:List Int,Reps K F (ns.map V.int) (ns.map FG)
 | []=>.nil
 | n::ns=>.cons (.int n) (i4 ns)
section
variable{X:Cx}{rl:RlT}{e:Expr}{fa:TV}{pos p p1 p2:Pos}{ρ:En}
noncomputable def Ch(i:Nat):TV:=fun ρ Q=>ρ[i]?=some (some .reel)/\∀n:Int,0<=n->Q (.d (.int n))
noncomputable def Ci(i:Nat):TV:=fun ρ Q=>ρ[i]?=some (some .reel)/\∀ns:List Int,ns.length<=63->Q (.d (.list (ns.map .int)))
theorem mF{j}(hr:Room 0 X.A)(hN:autoParam (X.N[i]?=some x) æa._auto_1)(hv:autoParam (DR X.env.scope x) æc._auto_1)
 (hd:autoParam ((x==("__debug__" : Str))=false) æb._auto_1)(hcd:autoParam ((x==("__classdict__" : Str))=false) æb._auto_1)(hs:autoParam (o9 (.Constant (.str "left") j p2)) æg._auto_1):PV X rl (.Subscript (.Name x p1) (.Constant (.str "left") j p2) pos) (Ch i):=by
 refine⟨_,jL (n_ hr) (cH hN hv hd hcd) d8 hs,fun{F₀ H₀ F H σ ρ} R Qd Q ⟨e1,q⟩ h=>?_⟩;obtain⟨v,s1,⟨r,er,ev⟩,_⟩:=R.sl i _ e1;subst ev;obtain⟨_,ok⟩:=R.reel r er;obtain⟨c,ns,a,l,hH,_,_,b1,b2,b3⟩:=ok.kv;refine⟨.ref r,s1,r,.int l,rfl,?_,h _ (.d _) F H (Grow.refl R.sub R.reel) (.int l) trivial (q l b2)⟩;have g:=yc.k (k:=kL) hH;rw[Bu]at g;exact g
theorem pz{j}(hr:Room 0 X.A)(hN:autoParam (X.N[i]?=some x) æa._auto_1)(hv:autoParam (DR X.env.scope x) æc._auto_1)
 (hd:autoParam ((x==("__debug__" : Str))=false) æb._auto_1)(hcd:autoParam ((x==("__classdict__" : Str))=false) æb._auto_1)(hs:autoParam (o9 (.Constant (.str "cells") j p2)) æg._auto_1):PV X rl (.Subscript (.Name x p1) (.Constant (.str "cells") j p2) pos) (Ci i):=by
 refine⟨_,jL (n_ hr) (cH hN hv hd hcd) d8 hs,fun{F₀ H₀ F H σ ρ} R Qd Q ⟨e1,q⟩ h=>?_⟩;obtain⟨v,s1,⟨r,er,ev⟩,_⟩:=R.sl i _ e1;subst ev;obtain⟨_,ok⟩:=R.reel r er;obtain⟨c,ns,a,l,hH,hc,hl,_⟩:=ok.kv;refine⟨.ref r,s1,r,.ref c,rfl,?_,h _ (.d _) F H (Grow.refl R.sub R.reel) (Rep.lst hc (i4 ns)) trivial (q ns hl)⟩;have g:=yc.k (k:=kC) hH;rw[Bv]at g;exact g
noncomputable def vp(i:Nat)(fa:TV):DV:=fun D ρ=>fa ρ fun w=>∃n,w = .d (.int n)/\0<=n/\ρ[i]?=some (some .reel)/\D.nx ρ
theorem mm{j}(hr:Room 0 X.A)(ha:PV X rl e fa)(hN:autoParam (X.N[i]?=some x) æa._auto_1)(hv:autoParam (DR X.env.scope x) æc._auto_1)
 (hd:autoParam ((x==("__debug__" : Str))=false) æb._auto_1)(hcd:autoParam ((x==("__classdict__" : Str))=false) æb._auto_1)(hsw:autoParam (GH e (some (.Subscript (.Name x p1) (.Constant (.str "left") j p2) pos')) pos.line X.env=pure false) æa._auto_1) :
 Ec X rl (.Assign [.Subscript (.Name x p1) (.Constant (.str "left") j p2) pos'] e pos) (vp i fa):=by
 obtain⟨t,p3,kk⟩:=ha;refine⟨_,nz (n_ hr) (cH hN hv hd hcd) d8 p3 hsw,fun{F₀ H₀ F H σ ρ} R Dv D ok q=>kk R _ _ q fun v w F1 H1 g1 r1 n1 ⟨n,ew,hn,e1,q1⟩=>?_⟩;subst ew;have ev:=aX r1;subst ev;have R1:=R.grow g1;obtain⟨v,s1,⟨r,er,ev⟩,_⟩:=R1.sl i _ e1;subst ev;obtain⟨_,okr⟩:=R1.reel r er;obtain⟨c,ns,a,l,hH,hc,hl,b1,b2,b3⟩:=okr.kv;refine⟨.ref r,s1,r,_,rfl,zM.k (k:=kL) hH (iS (by show 3<=1000;decide)),?_⟩;rw[yX];exact ok.nx _ _ _ _ g1.fs (D7.put (al:=rl.a) (n:=rl.b) (n':=rl.b) R1 er ⟨hc,hl,b1,hn,b3⟩) q1
noncomputable def DN:W->Option Unit
 | .reel=>some ()
 | _=>none
theorem aP:DN .reel=some ():=rfl
theorem AK:(((ρ[i]?).join).bind DN=some ())↔ρ[i]?=some (some .reel):=by
 constructor
 · intro h
   cases q:ρ[i]? with
   | none=>rw[q]at h;cases h
   | some o=>rw[q]at h;cases o with
     | none=>cases h
     | some w=>cases w<;>first|rfl|cases h
 · intro h;rw[h];rfl
theorem vW{β:Type}{k:Unit->Mo β}{Q:β->Prop}:aC (((ρ[i]?).join).bind DN) k Q↔ρ[i]?=some (some .reel)/\k () Q:=by
 rw[ai];exact⟨fun⟨u,a,q⟩=>⟨AK.mp a,q⟩,fun⟨a,q⟩=>⟨(),AK.mpr a,q⟩⟩
theorem aN(i:Nat):Ch i ρ=aC (((ρ[i]?).join).bind DN) fun _=>DK (anyM fun n:Int=>0<=n) fun n=>ret (.d (.int n)):=ag fun Q=>(Iff.intro (fun⟨a,q⟩=>vW.mpr ⟨a,fun n h=>q n h⟩) fun h=>⟨(vW.mp h).1,fun n hn=>(vW.mp h).2 n hn⟩)
theorem aO(i:Nat):Ci i ρ=aC (((ρ[i]?).join).bind DN) fun _=>DK (anyM fun ns:List Int=>ns.length<=63) fun ns=>ret (.d (.list (ns.map .int))):=ag fun Q=>(Iff.intro (fun⟨a,q⟩=>vW.mpr ⟨a,fun n h=>q n h⟩) fun h=>⟨(vW.mp h).1,fun n hn=>(vW.mp h).2 n hn⟩)
theorem ay(i:Nat):mS (vp i fa) ρ=DK (fa ρ) fun w=>aC (asI w) fun n=>Dy (0<=n) (aC (((ρ[i]?).join).bind DN) fun _=>ret (.nx ρ)):=by
 show(DK (fa ρ) fun w=>fun(Q:Fl->Prop)=>∃n,w = .d (.int n)/\0<=n/\ρ[i]?=some (some .reel)/\Q (.nx ρ))=_;congr 1;funext w;refine ag fun Q=>?_;simp only[ai (o:=asI w),cC,Dy,vW,ret]
end
theorem p5(c:Addr):fZ [] [(kC,V.ref c),(kA,.int 0),(kL,.int 0)]=jr c 0 0:=by
 unfold fZ jr;simp only[HL,KS];have p0:gL ([]:List (Ep×V)) kC (V.ref c)=[(kC,V.ref c)]:=rfl;rw[p0];unfold gL;simp[zg,zf,x4]
section
variable{X:Cx}{e1:Expr}{f1:TV}{pos dpos q1 q2 q3 q4 q5:Pos}{j1 j2 j3 j4 j5:Nat}
theorem ot(h1:PV X RlT.no e1 f1) :
 ∃ T,Eb X [.Return (some (.Dict [some (.Constant (.str "cells") j1 q1),some (.Constant (.str "at") j2 q2),some (.Constant (.str "left") j3 q3)] [e1,.Constant (.int 0) j4 q4,.Constant (.int 0) j5 q5] dpos)) pos] T /\
   ∀ {F H:Hp}{σ:St}{ρ:En},VR X.K RlT.no F H F H σ ρ->∀D:Ends,(f1 ρ fun w=>∃ns:List Int,w = .ml (ns.map .int)/\ns.length<=63) ->
     (∀r F' H',H r=none->Grow RlT.no F H F' H'->D7 (RlT.at' r BM) F' H'->D.rt (.ref r) H')->T D σ H:=by
 obtain⟨g1,pe1,ke1⟩:=h1;refine⟨_,jI (nv (tP (iu d8 pe1 (iu d8 i9 (iu d8 i9 tG))) rfl rfl (by intro z;cases z) (by show 3<=15;decide))),fun{F H σ ρ} R D q fin=>?_⟩;intro p hp;have gp:Grow RlT.no F H F (Co H p (.dK [])):=Grow.laid R.sub R.reel hp;refine ke1 (R.grow gp) _ _ q fun v1 w1 F3 H3 g3 r1 n1 qc=>?_;obtain⟨ns,rfl,hl⟩:=qc;obtain⟨F4,g4,s4,r4⟩:=c7.fz (w:=.ml (ns.map .int)) g3 r1 n1;have r4:Rep X.K F4 v1 (.list (ns.map .int)):=r4
 cases r4 with
 | @lst a vs _ hc rs =>
   have ev:=dZ rs;subst ev;have hp5:H3 p=some (.dK []):=g3.same p _ ar (by simp);refine⟨hp5,[(kC,.ref a),(kA,.int 0),(kL,.int 0)],rfl,(by show 3<=15;decide),?_⟩;rw[p5];have f5:F4 p=none:=by rw[g4.old p _ ar];exact R.sub.free hp
   have g0:Grow RlT.no F H F4 H3:=gp.trans g4;refine fin p F4 _ hp ⟨fun b o eb _=>by rw[ak (aG eb hp)];exact g0.same b o eb (by simp),g0.fs,fun b o eb=>?_,g0.old,fun _ z=>by cases z⟩ (fun r er=>?_)
   · have:b≠p:=fun z=>by subst z;rw[f5]at eb;cases eb
     rw[ak this];exact g0.sub b o eb
   · cases er;exact⟨f5,⟨_,ar,a,ns,0,0,rfl,hc,hl,by omega,by omega,zD⟩⟩
end
noncomputable def Cg(m:Nat)(i:Nat):TV:=fun ρ Q=>ρ[i]?=some (some .reel)/\∀n:Int,0<=n->n+m<2^59990->Q (.d (.int n))
section
variable{X:Cx}{al:Option Addr}{m m' c:Nat}{rest:List Stmt}{u:DV}{e:Expr}{fa:TV}{pos p p1 p2:Pos}{ρ:En}
theorem su{j}(hr:Room 0 X.A)(hN:autoParam (X.N[i]?=some x) æa._auto_1)(hv:autoParam (DR X.env.scope x) æc._auto_1)
 (hd:autoParam ((x==("__debug__" : Str))=false) æb._auto_1)(hcd:autoParam ((x==("__classdict__" : Str))=false) æb._auto_1)(hs:autoParam (o9 (.Constant (.str "at") j p2)) æg._auto_1):PV X ⟨al,m⟩ (.Subscript (.Name x p1) (.Constant (.str "at") j p2) pos) (Cg m i):=by
 refine⟨_,jL (n_ hr) (cH hN hv hd hcd) d8 hs,fun{F₀ H₀ F H σ ρ} R Qd Q ⟨e1,q⟩ h=>?_⟩;obtain⟨v,s1,⟨r,er,ev⟩,_⟩:=R.sl i _ e1;subst ev;obtain⟨_,ok⟩:=R.reel r er;obtain⟨c,ns,a,l,hH,hc,hl,b1,b2,b3⟩:=ok.kv;refine⟨.ref r,s1,r,.int a,rfl,?_,h _ (.d _) F H (Grow.refl R.sub R.reel) (.int a) trivial (q a b1 b3)⟩;have g:=yc.k (k:=kA) hH;rw[Bw]at g;exact g
noncomputable def vE(i ih:Nat)(u:DV):DV:=fun D ρ=>ρ[ih]?=some (some .reel)/\i<ρ.length/\∀n:Int,0<=n->n<2^59990->u D (ρ.set i (some (.d (.int n))))
theorem uA(i ih:Nat){h:Str}{j1 j2 j3:Nat}{q1 q2 q3 q4 q5 q6 q7 q8 q9 q10 q11:Pos}(hr:Room 0 X.A)(hN:X.N.Nodup)(hne:i≠ih)(hrest:EJ X al c rest u)(hi:autoParam (X.N[i]?=some x) æa._auto_1)(hih:autoParam (X.N[ih]?=some h) æa._auto_1)
 (hx:autoParam (Loc X.env.scope x) æe._auto_1)(hf:autoParam (X.fn x=true\/X.env.scope.names.lookup x=some .local) æf._auto_1)
 (hv:autoParam (DR X.env.scope h) æc._auto_1)(hvx:autoParam (DR X.env.scope x) æc._auto_1)
 (hd:autoParam ((h==("__debug__" : Str))=false) æb._auto_1)(hcd:autoParam ((h==("__classdict__" : Str))=false) æb._auto_1)(hd':autoParam ((x==("__debug__" : Str))=false) æb._auto_1)(hcd':autoParam ((x==("__classdict__" : Str))=false) æb._auto_1)
 (hs:autoParam (GH (.Subscript (.Name h q1) (.Constant (.str "at") j1 q2) q3) (some (.Name x q6)) q7.line X.env=pure false) æa._auto_1)
 (hsw:autoParam (GH (.BinOp (.Name x q8) .Add (.Constant (.int 1) j2 q4) q5) (some (.Subscript (.Name h q9) (.Constant (.str "at") j3 q10) q11)) pos.line X.env=pure false) æa._auto_1)
 (hsl:autoParam (o9 (.Constant (.str "at") j1 q2)) æg._auto_1) :
 EJ X al (1+c) (.Assign [.Name x q6] (.Subscript (.Name h q1) (.Constant (.str "at") j1 q2) q3) q7 :: .Assign [.Subscript (.Name h q9) (.Constant (.str "at") j3 q10) q11] (.BinOp (.Name x q8) .Add (.Constant (.int 1) j2 q4) q5) pos::rest) (vE i ih u):=by
 obtain⟨T,pT,kR⟩:=hrest;have s1:∀n,Ec X ⟨al,n⟩ (.Assign [.Name x q6] (.Subscript (.Name h q1) (.Constant (.str "at") j1 q2) q3) q7) (lv i (Cg n ih)):=fun n=>aD i hN (su hr hih hv hd hcd hsl) hi hx hs hf;have s2:∀n,PV X ⟨al,n⟩ (.BinOp (.Name x q8) .Add (.Constant (.int 1) j2 q4) q5) (Ck (DE fun i j=>.int (i+j)) (fK i) (vC (.int 1))):=fun n=>v_add (vn i hi hvx hd' hcd') ah;refine⟨_,d7 (t:=fun D σ H=>∃n,Ft (s1 n) D σ H) (fun pins s σ H D I ⟨n,z⟩=>(EV (s1 n)).1 pins s σ H D I z) (d7 (nz (tv:=fun σ H Q=>∃n,Ft (s2 n) σ H Q) (n_ hr) (cH hih hv hd hcd) d8 (fun pins s σ H Q I ⟨n,z⟩=>(EV (s2 n)).1 pins s σ H Q I z) hsw) pT),fun{b F₀ H₀ F H σ ρ} R Dv D ok ⟨e1,hlen,q⟩=>⟨b+(1+c),?_⟩⟩;refine(EV (s1 (b+(1+c)))).2 R {Dv with nx:=fun ρ'=>∃n:Int,(0<=n/\n+(b+(1+c):Nat)<2^59990)/\ρ'=ρ.set i (some (.d (.int n)))} _ ⟨fun F1 H1 σ1 ρ1 sm R1 qn=>?_,fun v w F1 H1 g r n q=>(ok.pay (by omega)).rt v w F1 H1 g r n q,fun F1 H1 σ1 ρ1 sm R1 q=>(ok.pay (b:=b+(1+c)) (by omega)).bk F1 H1 σ1 ρ1 sm R1 q,fun F1 H1 σ1 ρ1 sm R1 q=>(ok.pay (b:=b+(1+c)) (by omega)).ct F1 H1 σ1 ρ1 sm R1 q⟩ ?_
 · obtain⟨n,⟨hn,hl⟩,rfl⟩:=qn;refine⟨b+(1+c),(EV (s2 (b+(1+c)))).2 R1 (fun w=>w = .d (.int (n+1))) _ ?_ fun v w F2 H2 g2 r2 n2 qw=>?_⟩
   · exact⟨.d (.int n),by rw[Fj hlen],n,1,rfl,rfl,rfl⟩
   · subst qw;have ev:=aX r2;subst ev;have R2:=R1.grow g2;obtain⟨v2,s2',⟨r,er,ev2⟩,_⟩:=R2.sl ih .reel (by rw[E_ hne];exact e1);subst ev2;obtain⟨_,okr⟩:=R2.reel r er;obtain⟨cc,ns,a,l,hH,hc,h63,b1,b2,b3⟩:=okr.kv;refine⟨.ref r,s2',r,_,rfl,zM.k (k:=kA) hH (iS (by show 3<=1000;decide)),?_⟩;rw[yY];exact kR (b:=b) (D7.put (n':=b+c) R2 er ⟨hc,h63,by omega,b2,by omega⟩) Dv D (ok.on (sm.trans g2.fs)) (q n hn (by omega))
 · exact⟨e1,fun n h0 h1=>⟨.int n,rfl,n,⟨h0,h1⟩,rfl⟩⟩
theorem aB(i ih:Nat):mS (vE i ih u) ρ=aC (((ρ[ih]?).join).bind DN) fun _=>Dy (i<ρ.length) (DK (anyM fun n:Int=>0<=n/\n<2^59990) fun n=>mS u (ρ.set i (some (.d (.int n))))):=ag fun Q=>(Iff.intro (fun⟨a,l,q⟩=>vW.mpr ⟨a,l,fun n hn=>q n hn.1 hn.2⟩) fun h=>⟨(vW.mp h).1,(vW.mp h).2.1,fun n h0 h1=>(vW.mp h).2.2 n ⟨h0,h1⟩⟩)
theorem uz(i:Nat){f:Str}{k:Nat}{pre:List W->Prop}{fs:DU}{es:List Expr}{cpos:Pos}(D:DfnR X.prog X.w X.K X.mg X.base f ps k pre)(hr:Room k X.A)(hN:X.N.Nodup)(ha:D9 X RlT.no (e::es) fs)(hrest:∀r,EJ X (some r) c rest u)(hc:c<=BM)
 (hi:autoParam (X.N[i]?=some x) æa._auto_1)(hx:autoParam (Loc X.env.scope x) æe._auto_1)(hg:autoParam (Gl X f) æa._auto_1)(hdb:autoParam ((f==("__debug__" : Str))=false) æb._auto_1)
 (he:autoParam (E4 (e::es) X.env=(false,eval e X.env)::E4 es X.env) æa._auto_1)(hpl:autoParam ((GP cpos (E4 es X.env)).any (·.1)=false) æa._auto_1)
 (hs:autoParam (GH (.Call (.Name f p) (e::es) [] cpos) (some (.Name x px)) pos.line X.env=pure false) æa._auto_1)(hf:autoParam (X.fn x=true\/X.env.scope.names.lookup x=some .local) æf._auto_1) :
 lq X RlT.no (.Assign [.Name x px] (.Call (.Name f p) (e::es) [] cpos) pos::rest) (vq i pre fs u):=by
 obtain⟨fa,fd,hm,hk,hb,F⟩:=D.ex;obtain⟨ta,p1,k1⟩:=ha;refine⟨_,d7 (fS hN hi hx (fT F hr hg hm hk hb .nil nG p1 hdb he hpl) hs hf) (tw X rest),fun{F₀ H₀ F H σ ρ} R Dv D ok q=>k1 R _ _ q fun vs ws F1 H1 g1 r1 ⟨ao,pw,q1⟩=>?_⟩;have R1:=R.grow g1;refine⟨F1,ws,g1.sub,by rw[GQ];exact r1,ao,pw,fun r F2 H2 hr2 g2 ra=>?_⟩;intro pins s I;obtain⟨T,pT,kT⟩:=hrest r;have h0:H₀ r=none:=R1.g.freeB hr2;refine pT pins s _ H2 D I (kT (b:=0) ((R1.into hr2 g2 ra i).pay (by omega)) _ D ⟨fun F3 H3 σ3 ρ3 s3 R3 q3=>?_,fun v w F3 H3 g3 r3 n3 q3=>?_,fun F3 H3 σ3 ρ3 s3 R3 q3=>?_,fun F3 H3 σ3 ρ3 s3 R3 q3=>?_⟩ q1)
 · exact ok.nx F3 H3 σ3 _ (g1.fs.trans (g2.fs.trans s3)) (R3.out h0) q3
 · exact ok.rt v w F3 H3 (kZ g3 h0) (m_ r3 q3.1) n3 q3.2
 · exact ok.bk F3 H3 σ3 _ (g1.fs.trans (g2.fs.trans s3)) (R3.out h0) q3
 · exact ok.ct F3 H3 σ3 _ (g1.fs.trans (g2.fs.trans s3)) (R3.out h0) q3
end
theorem aA(n:Nat)(fl:List Nat)(fi:En->(List ET->Prop)->Prop)(g:DY)(t:DV)(ρ:En):mS (vA n fl fi g t) ρ=DK (fi ρ) fun xs=>Dy (xs.length<=n) (dM fl (DL g t) xs (fo fl ρ)):=by
 refine ag fun Q=>?_;show(fi ρ fun xs=>xs.length<=n/\mS (cy fl g t xs) (fo fl ρ) Q)↔_;simp only[jP];exact Ip
theorem am(n:Nat)(fi:En->(List ET->Prop)->Prop)(fr:List (Option Nat))(g:DY)(ft:TB)(fe:TV)(ρ:En):mO n fi fr g ft fe ρ=DK (fi ρ) fun xs=>Dy (xs.length<=n) (DK (cB (Dr (dP fr ρ) g ft fe) xs []) fun ds=>ret (.ml ds)):=by
 refine ag fun Q=>?_;show(fi ρ fun xs=>xs.length<=n/\kr (dP fr ρ) g ft fe xs [] fun ds=>Q (.ml ds))↔_;simp only[iH];exact Ip
noncomputable def fr(q:Rat):ET:=.tuple [.int q.num,.int q.den]
theorem k5{r:Rat}(h:fr q=fr r):q=r:=by
 simp only[fr,Gj,FJ,FG.injEq,and_true]at h;exact Rat.ext h.1 (by omega)
theorem fA(n:Int)(d:Nat)(h:d≠0):wU n d=fr (J1 n d h):=by
 unfold wU fr;rw[Rat.normalize_eq];have g:(FY n d:Int)=((n.natAbs.gcd d:Nat):Int):=by simp[FY]
 have gp:0<n.natAbs.gcd d:=Nat.gcd_pos_of_pos_right _ (by omega);have e1:n.fdiv (FY n d)=n / ((n.natAbs.gcd d:Nat):Int):=by rw[g,Hd _ (by omega)]
 have e2:(d:Int).fdiv (FY n d)=((d / n.natAbs.gcd d:Nat):Int):=by rw[g,Hd _ (by omega),Int.natCast_ediv]
 rw[e1,e2]
theorem iy{a b:Int}(hb:0<b):wU a b=fr ((a:Rat) / (b:Rat)):=by
 obtain⟨d,rfl⟩:=GS (show 0<=b by omega);rw[fA a d (by omega)];congr 1;have:(J1 a d (by omega))=mkRat a d:=by rw[Rat.normalize_eq_mkRat]
 rw[this,Rat.mkRat_eq_div];rfl
theorem xx(q r:Rat):wU (q.num*r.den+r.num*q.den) (q.den*r.den)=fr (q+r):=by
 have:=fA (q.num*r.den+r.num*q.den) (q.den*r.den) (Nat.mul_ne_zero q.den_nz r.den_nz);rw[Jg]at this;rw[this,Rat.add_def]
theorem xu(q r:Rat):wU (q.num*r.den-r.num*q.den) (q.den*r.den)=fr (q-r):=by
 have:=fA (q.num*r.den-r.num*q.den) (q.den*r.den) (Nat.mul_ne_zero q.den_nz r.den_nz);rw[Jg]at this;rw[this,Rat.sub_def]
theorem zu(q r:Rat):decide (q.num*r.den<r.num*q.den)=decide (q<r):=by
 rw[decide_eq_decide];exact(Rat.lt_iff q r).symm
noncomputable def C6(n:Nat)(q:Rat):Prop:=q.num.natAbs<2^n/\q.den<2^n
theorem C6.mono(h:C6 n q)(hm:n<=m):C6 m q:=⟨E6 h.1 (Fq (by decide) hm),E6 h.2 (Fq (by decide) hm)⟩
theorem oY{i:Int}(h:i.natAbs<2^2000):EM i:=E6 h (Fq (by decide) (by decide))
theorem C6.bn(h:C6 2000 q):EM q.num:=oY h.1
theorem C6.bd(h:C6 2000 q):EM (q.den:Int):=oY (by rw[GT];exact h.2)
theorem gm(q r:Rat):(0:Int)<(q.den:Int)*(r.den:Int):=Int.mul_pos (by have:=q.den_nz;omega) (by have:=r.den_nz;omega)
theorem gj{r:Rat}(h:C6 2000 q)(h':C6 2000 r):((q.den:Int)*(r.den:Int)).natAbs<2^8000:=by
 rw[JA,GT,GT];have:q.den*r.den<2^2000*2^2000:=Nat.mul_lt_mul'' h.2 h'.2;rw[<- Nat.pow_add]at this;exact E6 this (Fq (by decide) (by decide))
inductive Sd where
 | to (t:Rat)|from(a b:Rat)|round (a b:Rat)
noncomputable def Sd.last:Sd->Rat
 | .to t=>t | .from _ b=>b | .round _ b=>b
noncomputable def Sd.first:Sd->Rat
 | .to t=>t | .from a _=>a | .round a _=>a
noncomputable def C0:Sd->ET
 | .to t=>.tuple [.str "to", fr t]
 | .from a b=>.tuple [.str "from", fr a,fr b]
 | .round a b=>.tuple [.str "round", fr a,fr b]
noncomputable def mx(q r:Rat):Rat:=if q<r then r else q
noncomputable def Sd.Sm(s:Sd):Prop:=C6 60 s.first/\C6 60 s.last
theorem fr0:pr 0 1=fr 0:=rfl
theorem fr1:pr 1 1=fr 1:=rfl
theorem BC:C6 60 0:=⟨by decide,by decide⟩
theorem nM{n:Int}{d k:Nat}(hd:d≠0)(h1:n.natAbs<2^k)(h2:d<2^k):C6 k (J1 n d hd):=by
 rw[Rat.normalize_eq];refine⟨?_,Hh (Nat.div_le_self _ _) h2⟩;show(n / ((n.natAbs.gcd d:Nat):Int)).natAbs<2^k;have hdv:((n.natAbs.gcd d:Nat):Int)∣n:=Int.ofNat_dvd_left.mpr (Nat.gcd_dvd_left _ _);rw[Int.natAbs_ediv_of_dvd hdv,GT];exact Hh (Nat.div_le_self _ _) h1
theorem eK{a b:Nat}(h1:a<2^m)(h2:b<2^n):a*b<2^(m+n):=by
 rw[Nat.pow_add];exact Nat.mul_lt_mul'' h1 h2
theorem xP{r:Rat}(h:C6 m q)(h':C6 n r):C6 (m+n+1) (q+r):=by
 rw[Rat.add_def];have a1:=eK h.1 h'.2;have a2:=eK h'.1 h.2;rw[Nat.add_comm n m]at a2;have a3:=eK h.2 h'.2;refine nM _ ?_ (E6 a3 (Fq (by decide) (by omega)));have t:=Int.natAbs_add_le (q.num*r.den) (r.num*q.den);rw[JA,JA,GT,GT]at t;rw[Kw];omega
theorem vR{r:Rat}(h:C6 m q)(h':C6 n r):C6 (m+n+1) (q-r):=by
 rw[Rat.sub_eq_add_neg];exact xP h ⟨by rw[J3,Iz];exact h'.1,h'.2⟩
theorem C6.up(h:C6 60 q):C6 2000 q:=h.mono (by decide)
noncomputable def DA(x y:Rat)(b:Bool):Bool:=if b then !decide (y<x)else decide (x<y)
noncomputable def Ds(w:Str):Prop:=w = "half" \/ w = "shut" \/ w = "open"
noncomputable def Dh(s:Sd)(w:Str)(x:Rat):Bool :=
 let ahead:=DA x s.last (decide (w = "shut"))
 let behind:=DA s.first x (!decide (w = "open"))
 match s with
 | .to _=>ahead
 | .from _ _=>behind&&ahead
 | .round _ _=>behind||ahead
noncomputable def yZ(qs:List Rat):Rat:=qs.foldl (· * ·) 1
noncomputable def l4(ss:List Sd):ET:=.tuple (ss.map C0)
noncomputable def zK(ss:List Sd):Prop:=1<=ss.length/\ss.length<=4/\∀s∈ss,s.Sm
noncomputable def C_(qs:List Rat):ET:=.tuple (qs.map fr)
noncomputable def zJ(n:Nat)(qs:List Rat):Prop:=qs.length=n/\∀q∈qs,C6 60 q
noncomputable def Dl(qs:List Rat)(ss:List Sd)(w:Str):Bool:=(qs.zip ss).all fun p=>Dh p.2 w p.1
noncomputable def ptsQ(ps:List (List Rat)):ET:=.tuple (ps.map C_)
theorem at_last2{α:Type}(x y:α):L2.atI [x,y] (-1)=some y:=rfl
theorem at_last3{α:Type}(x y z:α):L2.atI [x,y,z] (-1)=some z:=rfl
theorem hR{α β:Type}(f:α->ET)(g:β->ET):∀(xs:List α)(ys:List β),lu (xs.map f) (ys.map g)=(xs.zip ys).map fun p=>.tuple [f p.1,g p.2]
 | [],_=>by simp[lu]
 | _::_,[]=>by simp[lu]
 | x::xs,y::ys=>by
   show Gw [f x,g y]::lu (xs.map f) (ys.map g)=_;rw[hR f g xs ys];rfl
theorem at_last1{α:Type}(x:α):L2.atI [x] (-1)=some x:=rfl
theorem ee{r:Rat}:fr q=fr r↔q=r:=⟨k5,fun h=>by rw[h]⟩
theorem b9{s t:Sd}:C0 s=C0 t↔s=t:=by
 constructor
 · intro h;have n1:¬(FT "from" = FT "round"):=by decide +kernel
   cases s<;>cases t<;>simp[C0,ee,n1,II n1]at h ⊢ <;> first|exact h|exact(n1 h.1.symm).elim|exact(n1 h.1).elim
 · rintro rfl;rfl
theorem b_{a b:List Rat}:C_ a=C_ b↔a=b:=by
 unfold C_;rw[Gj,bI fun _ _=>ee]
theorem bv{a b:List Sd}:l4 a=l4 b↔a=b:=by
 unfold l4;rw[Gj,bI fun _ _=>b9]
theorem bh{a b:List (List Rat)}:ptsQ a=ptsQ b↔a=b:=by
 unfold ptsQ;rw[Gj,bI fun _ _=>b_]
theorem cG{a b:List Rat}:a.map fr=b.map fr↔a=b:=bI fun _ _=>ee
theorem item_fr0(q:Rat):itemAt (fr q) 0=some (.int q.num):=rfl
theorem item_fr1(q:Rat):itemAt (fr q) 1=some (.int q.den):=rfl
theorem tupD_pt(a:List Rat):tupD (C_ a)=some (a.map fr):=rfl
theorem seqD_pt(a:List Rat):fq (C_ a)=some (a.map fr):=rfl
theorem lenD_pt(a:List Rat):kS (C_ a)=some a.length:=by show some (a.map fr).length=_;rw[E1]
theorem item_pt(a:List Rat)(i:Int):itemAt (C_ a) i=(atI a i).map fr:=atI_map _ _ _
theorem tupD_bx(a:List Sd):tupD (l4 a)=some (a.map C0):=rfl
theorem seqD_bx(a:List Sd):fq (l4 a)=some (a.map C0):=rfl
theorem lenD_bx(a:List Sd):kS (l4 a)=some a.length:=by show some (a.map C0).length=_;rw[E1]
theorem item_bx(a:List Sd)(i:Int):itemAt (l4 a) i=(atI a i).map C0:=atI_map _ _ _
theorem tupD_ps(a:List (List Rat)):tupD (ptsQ a)=some (a.map C_):=rfl
theorem seqD_ps(a:List (List Rat)):fq (ptsQ a)=some (a.map C_):=rfl
theorem lenD_ps(a:List (List Rat)):kS (ptsQ a)=some a.length:=by show some (a.map C_).length=_;rw[E1]
theorem item_ps(a:List (List Rat))(i:Int):itemAt (ptsQ a) i=(atI a i).map C_:=atI_map _ _ _
theorem kind_pt(a:List Rat):dA (C_ a)=dA (.tuple []):=rfl
theorem kind_bx(a:List Sd):dA (l4 a)=dA (.tuple []):=rfl
noncomputable def qd(a b:Int):Rat:=(a:Rat) / (b:Rat)
theorem nO{a b:Int}(hb:0<b):Gw [.int (a.fdiv (FY a b)),.int (b.fdiv (FY a b))]=fr (qd a b):=iy hb
theorem ub{a b:Int}(hb:b<0):Gw [.int (a.fdiv (-(FY a b:Int))),.int (b.fdiv (-(FY a b:Int)))]=fr (qd a b):=by
 have h:=nO (a:=-a) (b:=-b) (by omega)
 have e:qd (-a) (-b)=qd a b:=by
  unfold qd;rw[Rat.intCast_neg,Rat.intCast_neg]
  have : (b : Rat) ≠ 0 := by intro z;have:b=0:=by exact_mod_cast z
                             omega
  grind
 rw[<- e,<- h,Int.gcd_neg,Int.neg_gcd];congr 2
 · rw[<- Int.neg_fdiv_neg,Int.neg_neg]
 · rw[<- Int.neg_fdiv_neg (b:=-(FY a b:Int)),Int.neg_neg]
theorem tf(q:Rat):qd q.num q.den=q:=by
 unfold qd;have:=Rat.mkRat_self q;rw[Rat.mkRat_eq_div]at this;exact this
theorem qV(q r:Rat):qd (q.num*r.den+r.num*q.den) (q.den*r.den)=q+r:=k5 (by rw[<- xx];exact(iy (gm q r)).symm)
theorem wm(q r:Rat):qd (q.num*r.den-r.num*q.den) (q.den*r.den)=q-r:=k5 (by rw[<- xu];exact(iy (gm q r)).symm)
theorem qA(q:Rat):(0:Int)<(q.den:Int):=by have:=q.den_nz;omega
theorem s_{a b:Int}{k:Nat}(hb:0<b)(h1:a.natAbs<2^k)(h2:b.natAbs<2^k):C6 k (qd a b):=by
 obtain⟨d,rfl⟩:=GS (show 0<=b by omega);have hd:d≠0:=by omega
 have e:qd a d=J1 a d hd:=k5 (by rw[<- fA,iy (by omega)];rfl);rw[e];exact nM _ h1 (by simpa using h2)
theorem wR(h:C6 n q):C6 n (-q):=⟨by rw[J3,Iz];exact h.1,h.2⟩
theorem qv(h:C6 n q)(hn:n<=1000):Sm 2 2 (fr q) :=
 Sm.pair (E6 h.1 (Fq (by decide) hn)) (by rw[GT];exact E6 h.2 (Fq (by decide) hn))
theorem xv(h:C6 n q)(hn:n<=1000):D5 (fr q):=(qv h hn).shw (by decide) (by decide)
theorem yW{a b:Int}(hb:0<b)(h:0<=a):0<=qd a b:=by
 unfold qd;have h1:(0:Rat)<=(a:Rat):=by exact_mod_cast h
 have h2:(0:Rat)<(b:Rat):=by exact_mod_cast hb
 rw[Rat.div_def];exact Rat.mul_nonneg h1 (Rat.le_of_lt (Rat.inv_pos.mpr h2))
theorem wo{a b:Int}(hb:0<b)(h:a<b):qd a b<1:=by
 unfold qd;have h1:(a:Rat)<(b:Rat):=by exact_mod_cast h
 have h2:(0:Rat)<(b:Rat):=by exact_mod_cast hb
 exact(Rat.div_lt_iff h2).mpr (by rw[Rat.one_mul];exact h1)
noncomputable def EQ:=ES @item_fr0 (ES @item_fr1 (ES @tupD_pt (ES @seqD_pt (ES @lenD_pt (ES @item_pt (ES @tupD_bx (ES @seqD_bx (ES @lenD_bx (ES @item_bx (ES @tupD_ps (ES @seqD_ps (ES @lenD_ps (ES @item_ps (ES @at_last1 (ES @at_last2 (ES @at_last3 (ES @kind_pt (ES @kind_bx (ES @fr0 (@fr1))))))))))))))))))))
noncomputable def fv(b:Int):List Int->Rat
 | []=>0
 | d::ds=>((d:Rat)+fv b ds) / (b:Rat)
noncomputable def tv(b:Int)(ds:List Int):Int:=ds.foldl (fun t d=>t*b+d) 0
theorem d4{b:Int}(h:0<b):(b:Rat)≠0:=by
 intro z;have:b=0:=by exact_mod_cast z
 omega
noncomputable def ix(p:List Int)(f:Int):Int:=(p.idxOf f:Int)
noncomputable def Fx(b:Int)(N:Nat)(q:Rat):Prop:=∃(T:Int)(k:Nat),q=qd T (b^k)/\0<=T/\T<b^k/\b^k<2^N
theorem hJ{x:Int}{N:Nat}(h0:0<=x)(h:x<2^N):x.natAbs<2^N:=by
 have:((x.natAbs:Nat):Int)<((2^N:Nat):Int):=by rw[KP h0];exact_mod_cast h
 exact_mod_cast this
theorem t9{x y:Int}{N M:Nat}(x0:0<=x)(y0:0<y)(hx:x<2^N)(hy:y<2^M):x*y<2^(N+M):=by
 rw[Int.pow_add];have h1:x*y<2^N*y:=Int.mul_lt_mul_of_pos_right hx y0;have h2:(2:Int)^N*y<=2^N*2^M:=IN (by omega) (Int.pow_nonneg (by decide));omega
theorem sM(q:Rat):tupD (fr q)=some [.int q.num,.int q.den]:=rfl
theorem jh(a b:Rat):Gn (fr a) (fr b)=decide (a=b):=by
 unfold fr;simp only[Gn,Hz];by_cases h:a=b
 · subst h;simp[Gn]
 · have:¬(a.num=b.num/\a.den=b.den):=fun z=>h (Rat.ext z.1 z.2);simp only[h,decide_false,Bool.and_true,Gn];rw[Bool.and_eq_false_iff];by_cases h1:a.num=b.num
   · right
     have:a.den≠b.den:=fun z=>this ⟨h1,z⟩;simp;omega
   · left;simpa using h1
theorem fM(q:Rat):Gf (fr q)=true:=by
 simp[Gf,fr,GZ,GM,Hi,GR]
noncomputable def q9:Rat:=⟨999999999998,999999999999,by decide,by decide⟩
theorem jg{α:Type}(p:α->Bool)(f:α->ET):∀xs:List α,(xs.filterMap fun x=>if p x=true then some (f x)else none)=(xs.filter p).map f
 | []=>rfl
 | x::xs=>by
   have ih:=jg p f xs;cases h:p x<;>simp[h,ih]
theorem oX{i:Int}{k:Nat}(h:i.natAbs<2^k)(hk:k<=60000):EM i:=E6 h (Fq (by decide) hk)
end L2.VL
namespace L2
theorem lT{prog:Fo}{R:Lx->EZ->Prop}{kx vx target:Expr}{it:EX}{D:Addr}{env:Env}(I:Nat->EZ->Prop)
 (turn:∀n s,I n s->Fm (FA prog w) A (JE it) (fun r s₁=>(r=none/\R (.ok .next) s₁)\/∃v,r=some v /\
  Fm (FA prog w) A (G0 target it v) (fun _ s₂=>Fm (FA prog w) A (HF target env v) (fun _ s₃=>Fm (FA prog w) A (dI ifs env) (fun ok s₄ =>
   if ok=true then Fm (FA prog w) A (eval kx env) (fun x s₅=>Fm (FA prog w) A (eval vx env) (fun y s₆=>Fm (FA prog w) A (dictSet D x y) (fun _ s₇=>∃m,m<n/\I m s₇) (fun _ _=>False) s₆) (fun _ _=>False) s₅) (fun _ _=>False) s₄
   else ∃m,m<n/\I m s₄) (fun _ _=>False) s₃) (fun _ _=>False) s₂) (fun _ _=>False) s₁) (fun _ _=>False) s)
 (n:Nat)(h:I n s):G_ (FA prog w) A (.compLoop (.DictComp kx vx [⟨target,iter,ifs,0⟩] scope pos) 0 it (.ref D) env) R s:=by
 refine Kr rfl I (fun n s hI=>?_) n h;show Fm _ A ((Lj (.DictComp kx vx [⟨target,iter,ifs,0⟩] scope pos) 0 it (.ref D) env).onRaise (fun x=>do Lk x env;Je x)) _ _ s;refine K6 ?_;rw[compTurn_dict];refine EU (GJ (EU (FH (turn n s hI) (fun r s₁ h₁=>?_) fun _ _ h'=>h'.elim)));rcases h₁ with⟨rfl,h₁⟩|⟨v,rfl,h₁⟩
 · exact EW h₁
 · refine EU (FH h₁ (fun _ s₂ h₂=>EU (FH h₂ (fun _ s₃ h₃=>EU (FH h₃ (fun ok s₄ h₄=>?_) fun _ _ z=>z.elim)) fun _ _ z=>z.elim)) fun _ _ z=>z.elim)
   cases ok with
   | false=>exact EW ⟨rfl,h₄⟩
   | true=>exact EU (EU (FH h₄ (fun x s₅ h₅=>EU (G5 (FH h₅ (fun y s₆ h₆=>EU (GJ (G5 (FH h₆ (fun _ s₇ h₇=>EW ⟨rfl,h₇⟩) fun _ _ z=>z.elim)))) fun _ _ z=>z.elim))) fun _ _ z=>z.elim))
section
variable{X:Cx}{kx vx tg iter:Expr}{ifs:List Expr}{scope:Scope}{pos:Pos}{wi:TI}{g:CompA->TG}{tt:CompA->TT}{tk te:CompA->TE}
end
section
variable{prog:Fo}{w:Gc}{A:Gh}{E:EX->EZ->Prop}
end
section
variable{X:Cx}
end
end L2
namespace L2.VL
section
variable{K:W.Frag}{F:Hp}{us:List (Ep×V)}{kvs:List (Ep×ET)}
end
section
variable{X:Cx}{rl:RlT}{kx vx tg iter:Expr}{ifs:List Expr}{scope:Scope}{pos:Pos}{fi:En->(List ET->Prop)->Prop}{g:DY}{ft:TB}{fk fe:TV}
end
section
variable{α:Type}{b:ET->Mo (Option (Ep×ET))}
end
section
variable{X:Cx}{rl:RlT}{a c e o i:Expr}{es:List Expr}{fa fb:TV}{fs:DU}{pos p kpos:Pos}{ρ:En}
end
end L2.VL
namespace L2
end L2
namespace L2.VL
section
variable{X:Cx}{rl:RlT}{tg:Expr}{fa:TV}{ρ:En}
end
end L2.VL
namespace L2
variable{X:Cx}
end L2
namespace L2.VL
section
variable{X:Cx}{rl:RlT}{a e:Expr}{es:List Expr}{fs:DU}{pos:Pos}
end
theorem Dfn.never{K:W.Frag}{base:Heap}{st:Stmt}{k:Nat}(Fn:FnIn K mg x st ps)(no:∀ws Q,Pd ws Q->False:=by exact fun _ _ z=>z):Dfn P w K mg base rl x ps k Pd:=by
 obtain⟨f,fd,hm,F,hb⟩:=Fn.ex;exact⟨fun ws Q Q' _ z=>(no ws Q z).elim,f,fd,hm,F.kp,hb,⟨fun vs H Q E ⟨_,ws,_,_,_,_,z⟩=>(no ws _ z).elim,fun A outer s H args us vs Q E _ _ _ _ ⟨_,ws,_,_,_,_,z⟩=>(no ws _ z).elim⟩⟩
end L2.VL
namespace L2
section
variable{X:Cx}
theorem iz(r:cE (ns.map V.int) its){v:EX}(e:its[i]?=some v):∃t,v = .int (ns.getD i 0) t:=by
 have hl:=r.length;rw[E1]at hl;have hi:i<ns.length:=by have:=(Ff.mp e).1;omega
 have hb:(ns.map V.int)[i]?=some (.int ns[i]):=by simp[hi]
 obtain⟨u,hu,ru⟩:=r.get hb;rw[e]at hu;cases hu;have:ns.getD i 0=ns[i]:=by simp[LQ,hi]
 rw[this];exact ru
theorem preSum_eq(ns:List Int):preSum (fun i=>ns.getD i 0) ns.length=ns.sum:=by
 have key:∀k,k<=ns.length->preSum (fun i=>ns.getD i 0) k=(ns.take k).sum:=by
  intro k
  induction k with
  | zero=>intro _;rfl
  | succ k ih =>
    intro hk;have hk':k<ns.length:=by omega
    show preSum _ k+ns.getD k 0=_;rw[ih (by omega),FN hk',List.sum_append];simp[LQ,hk']
 rw[key _ (E3 _),Fi (E3 _)]
theorem oS(hc:X.calm=true):eR X (.builtin "sum") (fun xs H Q=>∃(p:Addr)(ns:List Int),xs=[.ref p]/\D1 X.K H p (ns.map V.int)/\Q (.int ns.sum) H):=by
 intro pins s σ H xs us Q I r ⟨p,ns,ex,hq,q⟩;subst ex;obtain⟨u,rfl,ru⟩:=vals1 r;cases ru;obtain⟨its,rv,pl,hz⟩:=I.list hq;have hl:=rv.length;rw[E1]at hl;refine call_sum_walkG (Iv pl.isList ?_);have ne:p≠s.heap.objs.size:=by obtain⟨o,ho,_⟩:=pl.isList;exact FK (E8 ho)
 refine⟨s.heap.objs.size,_,_,_,_,_,fun i=>ns.getD i 0,rfl,Walks.list (A:=X.A.in1) (I.ok.hd hc) s.heap.objs.size p ne its.toArray,⟨⟨_,Fa _ rfl,rfl,rfl⟩,pl.isList.push _⟩,?_,?_,?_⟩
 · intro b hb;have hb:b=s.heap.objs.size\/b=p:=by simpa using hb
   show b<(Heap.push _ _).objs.size;rw[GY];rcases hb with rfl|rfl
   · exact Nat.lt_succ_self _
   · obtain⟨o,ho,_⟩:=pl.isList;exact Nat.lt_succ_of_lt (E8 ho)
 · intro i v hP;exact iz rv (by simpa using hP)
 · intro h' tk t' k;have e:preSum (fun i=>ns.getD i 0) its.toArray.size=ns.sum:=by rw[Fb,<- hl];exact preSum_eq ns
   rw[e];exact⟨.int _,H,I.kept (t':=tk) fun b o eb=>k b o (by simp;exact FK (E8 eb)) (EY _ eb),⟨t',rfl⟩,q⟩
end
end L2
namespace L2.VL
section
variable{X:Cx}{rl:RlT}{a:Expr}{fs:DU}{pos p:Pos}
noncomputable def zo:List W->(W->Prop)->Prop:=fun ws Q=>∃(w:W)(ns:List Int),ws=[w]/\w.dat=some (.list (ns.map .int))/\Q (.d (.int ns.sum))
theorem uW:eQ X rl (fun xs H Q=>∃(p:Addr)(ns:List Int),xs=[.ref p]/\D1 X.K H p (ns.map V.int)/\Q (.int ns.sum) H) zo:=fun{F H vs ws} Qd Q s ra r ⟨w,ns,ew,ed,q⟩ k=>by
 subst ew;obtain⟨v,rfl,r1⟩:=pd r;obtain⟨a,us,rfl,sq,rs⟩:=r1.items s ed;have e:=dZ rs;subst e;exact⟨a,ns,rfl,sq,k _ (.d _) _ _ (Grow.refl s ra) (.int _) trivial q⟩
theorem v_sum(hm:X.mg "sum" = none)(ha:D9 X rl [a] fs)(hc:autoParam (X.calm=true) æa._auto_1)(hg:autoParam (Gl X "sum") æa._auto_1)(he:autoParam (E4 [a] X.env=(false,eval a X.env)::E4 [] X.env) æa._auto_1)(hpl:autoParam ((GP pos (E4 [] X.env)).any (·.1)=false) æa._auto_1) :
 PV X rl (.Call (.Name "sum" p) [a] [] pos) (dH zo fs):=eG (oS hc) uW hm (by rfl) ha hg (by decide) (by decide) he hpl
noncomputable def uq:ET->Option (List Int)
 | .list xs=>gM xs
 | _=>none
theorem x5:uq d=some ns↔d = .list (ns.map .int):=by
 constructor
 · intro h
   cases d with
   | list xs=>rw[fB h]
   | _=>cases h
 · rintro rfl;exact bX _
theorem m_gSum(w:W):zo [w]=aC (w.dat.bind uq) fun ns=>ret (.d (.int ns.sum)):=by
 refine ag fun Q=>?_;rw[ai];constructor
 · rintro⟨w',ns,e,ed,q⟩;cases e;exact⟨ns,by rw[ed];exact bX ns,q⟩
 · rintro⟨ns,e,q⟩
   cases ed:w.dat with
   | none=>rw[ed]at e;cases e
   | some d =>
     rw[ed]at e;exact⟨w,ns,rfl,by rw[ed,x5.mp e],q⟩
theorem intsO_l(ns:List Int):uq (.list (ns.map .int))=some ns:=bX ns
noncomputable def EN:=ES @m_gSum (@intsO_l)
end
end L2.VL
namespace L2
abbrev Dn(elt t1 i1:Expr)(f1:List Expr)(t2 i2:Expr)(f2:List Expr)(scope:Scope)(pos:Pos):Expr:=.ListComp elt [⟨t1,i1,f1,0⟩,⟨t2,i2,f2,0⟩] scope pos
theorem sK(elt t1 i1:Expr)(f1:List Expr)(t2 i2:Expr)(f2:List Expr)(scope:Scope)(pos:Pos)(it acc:EX)(env:Env) :
 Lj (Dn elt t1 i1 f1 t2 i2 f2 scope pos) 0 it acc env=(Kk i1.pos >>= fun _=>JE it >>= fun r=>match r with
  | none=>pure (.done .next)
  | some v=>G0 t1 it v >>= fun _=>HF t1 env v >>= fun _=>dI f1 env >>= fun ok=>(if ok=true then
      (eval i2 env >>= fun x=>Kk i2.pos >>= fun _=>FC i2 env x >>= fun x=>Kl [x] (Lw x) >>= fun y=>runOwn (.compStart (Dn elt t1 i1 f1 t2 i2 f2 scope pos) 1 y acc env) env >>= fun _=>again (.compLoop (Dn elt t1 i1 f1 t2 i2 f2 scope pos) 0 it acc env))
      else again (.compLoop (Dn elt t1 i1 f1 t2 i2 f2 scope pos) 0 it acc env))):=by rfl
theorem sJ(elt t1 i1:Expr)(f1:List Expr)(t2 i2:Expr)(f2:List Expr)(scope:Scope)(pos:Pos)(it acc:EX)(env:Env) :
 Lj (Dn elt t1 i1 f1 t2 i2 f2 scope pos) 1 it acc env=(Kk i2.pos >>= fun _=>JE it >>= fun r=>match r with
  | none=>pure (.done .next)
  | some v=>G0 t2 it v >>= fun _=>HF t2 env v >>= fun _=>dI f2 env >>= fun ok=>(if ok=true then
      ((eval elt env >>= fun x=>call (.builtin "list.append") [acc,x] >>= fun _=>pure ()) >>= fun _=>again (.compLoop (Dn elt t1 i1 f1 t2 i2 f2 scope pos) 1 it acc env))
      else again (.compLoop (Dn elt t1 i1 f1 t2 i2 f2 scope pos) 1 it acc env))):=by rfl
section
variable{prog:Fo}{w:Gc}{A:Gh}{R:Lx->EZ->Prop}{s:EZ}{elt t1 i1 t2 i2:Expr}{f1 f2:List Expr}{scope:Scope}{pos:Pos}{it acc:EX}{env:Env}
theorem ud(I:Nat->EZ->Prop)(hs:∀x,FC i2 env x=pure x)
 (turn:∀n s,I n s->Fm (FA prog w) A (JE it) (fun r s₁=>(r=none/\R (.ok .next) s₁)\/∃v,r=some v /\
  Fm (FA prog w) A (G0 t1 it v) (fun _ s₂=>Fm (FA prog w) A (HF t1 env v) (fun _ s₃=>Fm (FA prog w) A (dI f1 env) (fun ok s₄ =>
   if ok=true then Fm (FA prog w) A (eval i2 env) (fun x s₅=>Fm (FA prog w) A (Lw x) (fun y s₆=>G_ (FA prog w) A (.compStart (Dn elt t1 i1 f1 t2 i2 f2 scope pos) 1 y acc env) (fun r s₇=>r = .ok .next/\∃m,m<n/\I m s₇) s₆) (fun _ _=>False) s₅) (fun _ _=>False) s₄
   else ∃m,m<n/\I m s₄) (fun _ _=>False) s₃) (fun _ _=>False) s₂) (fun _ _=>False) s₁) (fun _ _=>False) s)
 (n:Nat)(h:I n s):G_ (FA prog w) A (.compLoop (Dn elt t1 i1 f1 t2 i2 f2 scope pos) 0 it acc env) R s:=by
 refine Kr rfl I (fun n s hI=>?_) n h;show Fm _ A ((Lj (Dn elt t1 i1 f1 t2 i2 f2 scope pos) 0 it acc env).onRaise (fun x=>do Lk x env;Je x)) _ _ s;refine K6 ?_;rw[sK];refine EU (GJ (EU (FH (turn n s hI) (fun r s₁ h₁=>?_) fun _ _ h'=>h'.elim)));rcases h₁ with⟨rfl,h₁⟩|⟨v,rfl,h₁⟩
 · exact EW h₁
 · refine EU (FH h₁ (fun _ s₂ h₂=>EU (FH h₂ (fun _ s₃ h₃=>EU (FH h₃ (fun ok s₄ h₄=>?_) fun _ _ z=>z.elim)) fun _ _ z=>z.elim)) fun _ _ z=>z.elim)
   cases ok with
   | false=>exact EW ⟨rfl,h₄⟩
   | true =>
     refine EU (FH h₄ (fun x s₅ h₅=>EU (GJ (EU (JX (hs x) (EU (G5 (FH h₅ (fun y s₆ h₆=>?_) fun _ _ z=>z.elim))))))) fun _ _ z=>z.elim);refine EU (wpAny_runOwn (Jo h₆ fun r s₇ ⟨hr,h₇⟩=>?_));subst hr;exact EW ⟨rfl,h₇⟩
theorem uc(I:Nat->EZ->Prop)
 (turn:∀n s,I n s->Fm (FA prog w) A (JE it) (fun r s₁=>(r=none/\R (.ok .next) s₁)\/∃v,r=some v /\
  Fm (FA prog w) A (G0 t2 it v) (fun _ s₂=>Fm (FA prog w) A (HF t2 env v) (fun _ s₃=>Fm (FA prog w) A (dI f2 env) (fun ok s₄ =>
   if ok=true then Fm (FA prog w) A (eval elt env) (fun x s₅=>Fm (FA prog w) A (call (.builtin "list.append") [acc,x]) (fun _ s₆=>∃m,m<n/\I m s₆) (fun _ _=>False) s₅) (fun _ _=>False) s₄
   else ∃m,m<n/\I m s₄) (fun _ _=>False) s₃) (fun _ _=>False) s₂) (fun _ _=>False) s₁) (fun _ _=>False) s)
 (n:Nat)(h:I n s):G_ (FA prog w) A (.compLoop (Dn elt t1 i1 f1 t2 i2 f2 scope pos) 1 it acc env) R s:=by
 refine Kr rfl I (fun n s hI=>?_) n h;show Fm _ A ((Lj (Dn elt t1 i1 f1 t2 i2 f2 scope pos) 1 it acc env).onRaise (fun x=>do Lk x env;Je x)) _ _ s;refine K6 ?_;rw[sJ];refine EU (GJ (EU (FH (turn n s hI) (fun r s₁ h₁=>?_) fun _ _ h'=>h'.elim)));rcases h₁ with⟨rfl,h₁⟩|⟨v,rfl,h₁⟩
 · exact EW h₁
 · refine EU (FH h₁ (fun _ s₂ h₂=>EU (FH h₂ (fun _ s₃ h₃=>EU (FH h₃ (fun ok s₄ h₄=>?_) fun _ _ z=>z.elim)) fun _ _ z=>z.elim)) fun _ _ z=>z.elim)
   cases ok with
   | false=>exact EW ⟨rfl,h₄⟩
   | true=>exact EU (EU (FH h₄ (fun x s₅ h₅=>EU (FH h₅ (fun _ s₆ h₆=>EW (EW ⟨rfl,h₆⟩)) fun _ _ z=>z.elim)) fun _ _ z=>z.elim))
theorem pG
 (h0:G_ (FA prog w) A (.compLoop (Dn elt t1 i1 f1 t2 i2 f2 scope pos) 1 it acc env) R s)
 (h:Fm (FA prog w) A (Lw it) (fun it' s'=>G_ (FA prog w) A (.compLoop (Dn elt t1 i1 f1 t2 i2 f2 scope pos) 1 it' acc env) R s') (notedBy (FA prog w) A env fun x s'=>R (.error x) s') s) :
 G_ (FA prog w) A (.compStart (Dn elt t1 i1 f1 t2 i2 f2 scope pos) 1 it acc env) R s:=by
 refine codeAny_of_tree ?_;show Fm _ _ ((compStart (Dn elt t1 i1 f1 t2 i2 f2 scope pos) 1 it acc env).onRaise (fun x=>do Lk x env;Kk theWindowsPlace)) _ _ s;refine wpAny_notedAt ?_;unfold compStart;show Fm _ _ (ask >>= _) _ _ s;refine EU (wpAny_askSetting (wpAny_ite ?_));split
 · first
     | exact EU (EW (EW (ES rfl h0)))
     | exact EW (ES rfl h0)
 · first
     | exact EU (Iu (EU (GJ (EU (FH h (fun it' s' h'=>EW (ES rfl h')) fun _ _ x=>x)))))
     | (refine EU (Iu ?_);show Fm _ _ (Kk i2.pos >>= _) _ _ s;exact EU (GJ (EU (FH h (fun it' s' h'=>EW (ES rfl h')) fun _ _ x=>x))))
end
noncomputable def CG(wi:TI)(g:TG)(tt:TT)(te:TE)(D:Addr)(acc:List V)(σ:St)(H:Hp)(R:List V->St->Hp->Prop):Prop:=wi σ H fun J H1=>∃Wv:Nat->Nat->List V->St->Hp->Prop,(∃m,Wv 0 m acc σ H1) /\
 ∀ i m acc σc H,Wv i m acc σc H->(J.stop i H/\R acc σc H)\/(J.go i H/\∀x H',J.yld i H x H'->g x σc H' fun σ2 H2=>tt σ2 H2 fun b H3 =>
   if b=true then te σ2 H3 fun y H4=>H4 D=some (.lst acc)/\acc.length<sizeLine/\∃m',m'<m/\Wv (i+1) m' (acc++[y]) σ2 (Co H4 D (.lst (acc++[y])))else ∃m',m'<m/\Wv (i+1) m' acc σ2 H3)
section
variable{Y:Cx}{elt t1 i1 t2 i2:Expr}{f1 f2:List Expr}{scope:Scope}{pos:Pos}{wi:TI}{g:TG}{tt:TT}{te:TE}{D:Addr}
theorem xh(hc:Y.calm=true)(hx:Y.xe=fun _ _=>False)(hi:PI Y t2 i2 wi)(hg:PG Y t2 g)(ht:Ea Y f2 tt)(he:PE Y elt te){acc:List V}{R:List V->St->Hp->Prop}{Rp:EZ->Prop}
 (I:Inv Y pins σ H s)(q:CG wi g tt te D acc σ H R)(fin:∀acc σ5 H5 s5,Inv Y pins σ5 H5 s5->R acc σ5 H5->Rp s5) :
 Fm (FA Y.prog Y.w) Y.A (eval i2 Y.env) (fun x s₅=>Fm (FA Y.prog Y.w) Y.A (Lw x) (fun y s₆=>G_ (FA Y.prog Y.w) Y.A (.compStart (Dn elt t1 i1 f1 t2 i2 f2 scope pos) 1 y (.ref D) Y.env) (fun r s₇=>r = .ok .next/\Rp s₇) s₆) (fun _ _=>False) s₅) (fun _ _=>False) s:=by
 have hi':=hi pins s σ H _ I q;rw[hx]at hi';refine Cy hi' fun v s1 h1=>Cy h1 fun itv s2 h2=>?_;obtain⟨it,fp,tn,J,H2,e,I2,T,st2,f2',Wv,⟨m0,w0⟩,turn⟩:=h2;subst e;have stat:∀{H':Hp},(∀b∈fp,H' b=none)->∀b∈fp,j6 Y pins H' b:=fun hn b hb=>⟨hn b hb,(f2' b hb).2⟩
 have loop:G_ (FA Y.prog Y.w) Y.A (.compLoop (Dn elt t1 i1 f1 t2 i2 f2 scope pos) 1 (.ref it) (.ref D) Y.env) (fun r s₇=>r = .ok .next/\Rp s₇) s2:=by
  refine uc (fun n s'=>∃i acc σ' H',Inv Y pins σ' H' s'/\tn i s'.heap/\(∀b∈fp,H' b=none)/\Wv i n acc σ' H') ?_ m0 ⟨0,acc,σ,H2,I2,st2,fun b hb=>(f2' b hb).1,w0⟩;rintro n s4 ⟨i,acc,σ4,H4,I4,st4,fr4,w4⟩;rcases turn i n acc σ4 H4 w4 with⟨stop,qn⟩|⟨go,step⟩
  · exact Cy (T.done Y rfl rfl rfl hc i pins s4 σ4 H4 (fun _ _=>False) I4 (stat fr4) st4 stop) fun r s5 ⟨hr,I5⟩=>.inl ⟨hr,rfl,fin acc σ4 H4 s5 I5 qn⟩
  · refine Cy (T.item Y rfl rfl rfl hc i pins s4 σ4 H4 (fun _ _=>False) I4 (stat fr4) st4 go) fun r s5 ⟨u,hr,h5⟩=>.inr ⟨u,hr,?_⟩;refine Cy h5 fun _ s6 ⟨x,H6,I6,r6,y6,st6,fr6⟩=>?_;have I6':=I6.pinned (stat fr6) (T.obj _ _ st6)
    have again:∀{σ7:St}{H7:Hp}{s7:EZ},Inv Y (pins++eZ fp s6.heap) σ7 H7 s7->∀{acc':List V}{m':Nat},m'<n->Wv (i+1) m' acc' σ7 H7 ->
     ∃m,m<n/\∃i acc σ' H',Inv Y pins σ' H' s7/\tn i s7.heap/\(∀b∈fp,H' b=none)/\Wv i m acc σ' H':=fun{σ7 H7 s7} I7 {acc' m'} hm w7=>by
     refine⟨m',hm,i+1,acc',σ7,H7,I7.unpinned,T.keep _ _ _ st6 fun b hb o e=>(I7.pin (b,o) (Fh _ (Fh _ (bw hb e)))).1,fun b hb=>?_,w7⟩;obtain⟨o,e,d⟩:=T.obj _ _ st6 b hb;exact(I7.pin (b,o) (Fh _ (Fh _ (bw hb e)))).2.1
    have h7:=hg _ s6 σ4 H6 x u _ I6' r6 (step x H6 y6);rw[hx]at h7;refine Cy h7 fun _ s7 ⟨σ7,H7,I7,q7⟩=>?_;have h8:=ht _ s7 σ7 H7 _ I7 q7;rw[hx]at h8;refine Cy h8 fun ok s8 ⟨H8,I8,q8⟩=>?_
    cases ok with
    | false =>
      rw[if_neg Fz]at q8 ⊢;obtain⟨m',hm,w8⟩:=q8
      exact again I8 hm w8
    | true =>
      rw[if_pos rfl]at q8 ⊢;have h9:=he _ s8 σ7 H8 _ I8 q8;rw[hx]at h9;refine Cy h9 fun y s9 ⟨yv,H9,I9,r9,eD,hl,m',hm,w9⟩=>?_;have h10:=d9 (X:=Y) _ s9 σ7 H9 (.ref D) [yv] (.ref D) [y] (fun _ H'=>H'=Co H9 D (.lst (acc++[yv]))) I9 rfl (.cons r9 .nil) ⟨D,acc,yv,rfl,rfl,eD,hl,rfl⟩;rw[hx]at h10;exact Cy h10 fun _ s10 ⟨_,H10,I10,_,e10⟩=>by subst e10;exact again I10 hm w9
 exact pG loop (T.self Y.A 0 _ _ _ st2 loop)
end
noncomputable def mW(wi:TI)(fr:List (Option Nat))(g:CompA->TG)(tt:CompA->TT)(wj:CompA->TI)(g2:CompA->TG)(tt2:CompA->TT)(te:CompA->TE):TE:=fun σ H Q=>wi σ H fun J H1=>∀D,H1 D=none->∃Wv:Nat->Nat->List V->St->Hp->Prop,(∃m,Wv 0 m [] (lY fr σ) (Co H1 D (.lst []))) /\
 ∀ (z:CompA) i m acc σc H,Wv i m acc σc H->(J.stop i H/\Q (.ref D) H)\/(J.go i H/\∀x H',J.yld i H x H'->g z x σc H' fun σ2 H2=>tt z σ2 H2 fun b H3 =>
   if b=true then CG (wj z) (g2 z) (tt2 z) (te z) D acc σ2 H3 fun acc' σ5 H5=>∃m',m'<m/\Wv (i+1) m' acc' σ5 H5 else ∃m',m'<m/\Wv (i+1) m' acc σ2 H3)
section
variable{Y:Cx}{elt t1 i1 t2 i2:Expr}{f1 f2:List Expr}{scope:Scope}{pos:Pos}{wj:TI}{g g2:TG}{tt tt2:TT}{te:TE}{D:Addr}
theorem rf(hc:Y.calm=true)(hx:Y.xe=fun _ _=>False)(hg:PG Y t1 g)(ht:Ea Y f1 tt)(hj:PI Y t2 i2 wj)(hg2:PG Y t2 g2)(ht2:Ea Y f2 tt2)(he:PE Y elt te)(hs:∀x,FC i2 Y.env x=pure x)
 {J:It}{Q:VK}(T:Turn Y.prog Y.w Y.K t1 J fp it tn)(I:Inv Y [] σ H s)(st0:tn 0 s.heap)(fp0:∀b∈fp,H b=none)(stat:∀{H':Hp},(∀b∈fp,H' b=none)->∀b∈fp,j6 Y [] H' b)
 {Wv:Nat->Nat->List V->St->Hp->Prop}{m0:Nat}(w0:Wv 0 m0 [] σ H)
 (turn:∀i m acc σc H,Wv i m acc σc H->(J.stop i H/\Q (.ref D) H)\/(J.go i H/\∀x H',J.yld i H x H'->g x σc H' fun σ2 H2=>tt σ2 H2 fun b H3 =>
  if b=true then CG wj g2 tt2 te D acc σ2 H3 fun acc' σ5 H5=>∃m',m'<m/\Wv (i+1) m' acc' σ5 H5 else ∃m',m'<m/\Wv (i+1) m' acc σ2 H3)) :
 G_ (FA Y.prog Y.w) Y.A (.compStart (Dn elt t1 i1 f1 t2 i2 f2 scope pos) 0 (.ref it) (.ref D) Y.env) (fun r s5=>r = .ok .next/\∃σ5 H4,Inv Y [] σ5 H4 s5/\Q (.ref D) H4) s:=by
 have loop:G_ (FA Y.prog Y.w) Y.A (.compLoop (Dn elt t1 i1 f1 t2 i2 f2 scope pos) 0 (.ref it) (.ref D) Y.env) (fun r s5=>r = .ok .next/\∃σ5 H4,Inv Y [] σ5 H4 s5/\Q (.ref D) H4) s:=by
  refine ud (fun n s'=>∃i acc σ' H',Inv Y [] σ' H' s'/\tn i s'.heap/\(∀b∈fp,H' b=none)/\Wv i n acc σ' H') hs ?_ m0 ⟨0,[],_,_,I,st0,fp0,w0⟩;rintro n s4 ⟨i,acc,σ4,H4,I4,st4,fr4,w4⟩;rcases turn i n acc σ4 H4 w4 with⟨stop,qn⟩|⟨go,step⟩
  · exact Cy (T.done Y rfl rfl rfl hc i [] s4 σ4 H4 (fun _ _=>False) I4 (stat fr4) st4 stop) fun r s5 ⟨hr,I5⟩=>.inl ⟨hr,rfl,σ4,H4,I5,qn⟩
  · refine Cy (T.item Y rfl rfl rfl hc i [] s4 σ4 H4 (fun _ _=>False) I4 (stat fr4) st4 go) fun r s5 ⟨u,hr,h5⟩=>.inr ⟨u,hr,?_⟩;refine Cy h5 fun _ s6 ⟨x,H6,I6,r6,y6,st6,fr6⟩=>?_;have I6':=I6.pinned (stat fr6) (T.obj _ _ st6)
    have again:∀{σ7:St}{H7:Hp}{s7:EZ},Inv Y ([]++eZ fp s6.heap) σ7 H7 s7->∀{acc':List V}{m':Nat},m'<n->Wv (i+1) m' acc' σ7 H7 ->
     ∃m,m<n/\∃i acc σ' H',Inv Y [] σ' H' s7/\tn i s7.heap/\(∀b∈fp,H' b=none)/\Wv i m acc σ' H':=fun{σ7 H7 s7} I7 {acc' m'} hm w7=>by
     refine⟨m',hm,i+1,acc',σ7,H7,I7.unpinned,T.keep _ _ _ st6 fun b hb o e=>(I7.pin (b,o) (Fh _ (Fh _ (bw hb e)))).1,fun b hb=>?_,w7⟩;obtain⟨o,e,d⟩:=T.obj _ _ st6 b hb;exact(I7.pin (b,o) (Fh _ (Fh _ (bw hb e)))).2.1
    have h7:=hg _ s6 σ4 H6 x u _ I6' r6 (step x H6 y6);rw[hx]at h7;refine Cy h7 fun _ s7 ⟨σ7,H7,I7,q7⟩=>?_;have h8:=ht _ s7 σ7 H7 _ I7 q7;rw[hx]at h8;refine Cy h8 fun ok s8 ⟨H8,I8,q8⟩=>?_
    cases ok with
    | false =>
      rw[if_neg Fz]at q8 ⊢;obtain⟨m',hm,w8⟩:=q8
      exact again I8 hm w8
    | true =>
      rw[if_pos rfl]at q8 ⊢;exact xh hc hx hj hg2 ht2 he I8 q8 fun acc' σ9 H9 s9 I9 ⟨m',hm,w9⟩=>again I9 hm w9
 exact Ke loop (T.self Y.A 0 _ _ _ st0 loop)
end
section
variable{X:Cx}{elt t1 i1 t2 i2:Expr}{f1 f2:List Expr}{scope:Scope}{pos:Pos}{wi:TI}{wj:CompA->TI}{g g2:CompA->TG}{tt tt2:CompA->TT}{te:CompA->TE}
theorem lW.get{scope scX:Scope}(hsc:lW scope scX=true):scope.kind = .function/\(∀y∈scope.names,y.2 = .cell->scope.names.lookup y.1=some .cell)/\(∀y∈scope.names,y.2 = .local->scope.names.lookup y.1=some .local) /\
 ∀y∈scope.names,y.2 = .free->scX.names.lookup y.1=some .cell\/scX.names.lookup y.1=some .free:=by
 obtain⟨sk,sn⟩:=E2.mp hsc;have hall:=GU.mp sn;refine⟨of_decide_eq_true sk,fun y hy hl=>?_,fun y hy hl=>?_,fun y hy hl=>?_⟩
 · rcases Fu.mp (E2.mp (E2.mp (hall y hy)).1).1 with z|z
   · exact absurd hl (of_decide_eq_true z)
   · exact of_decide_eq_true z
 · rcases Fu.mp (E2.mp (E2.mp (hall y hy)).1).2 with z|z
   · exact absurd hl (of_decide_eq_true z)
   · exact of_decide_eq_true z
 · rcases Fu.mp (E2.mp (hall y hy)).2 with z|z
   · exact absurd hl (of_decide_eq_true z)
   · exact(Fu.mp z).imp of_decide_eq_true of_decide_eq_true
theorem nE(N':List Str)(fr:List (Option Nat))(hc:X.calm=true)(hi:PI X t1 i1 wi)(hfr:lS fr N' X.N scope X.env.scope=true)(hsc:lW scope X.env.scope=true)
 (hg:∀y,PG (blk X N' scope y) t1 (g y))(ht:∀y,Ea (blk X N' scope y) f1 (tt y))(hj:∀y,PI (blk X N' scope y) t2 i2 (wj y))(hg2:∀y,PG (blk X N' scope y) t2 (g2 y))(ht2:∀y,Ea (blk X N' scope y) f2 (tt2 y))(he:∀y,PE (blk X N' scope y) elt (te y))
 (hs:autoParam (∀x,FC i1 X.env x=pure x) æd._auto_1)(hs2:autoParam (∀y x,FC i2 (blk X N' scope y).env x=pure x) æi._auto_1):PE X (Dn elt t1 i1 f1 t2 i2 f2 scope pos) (mW wi fr g tt wj g2 tt2 te):=by
 intro pins s σ H Q I h;obtain⟨hkind,hcell,hnames,hfree⟩:=lW.get hsc;obtain⟨frl,frg⟩:=lS.get hfr;obtain⟨cl,hclos,cl1,cl2⟩:=cn (env:=X.env) (scope:=scope) fun y hy hl=>I.ok.has y.1 (hfree y hy hl);rw[eval_ListComp];refine GN (use:=none) rfl hs hclos hkind hnames (Cy (hi pins s σ H _ I h) fun v s1 h1=>Cy h1 fun itv s2 h2=>?_);obtain⟨it,fp,tn,J,H2,e,I2,T,st2,f2,q2⟩:=h2;subst e;refine FB ?_;have hD:H2 s2.heap.objs.size=none:=I2.hok.fresh (E3 _)
 have I3:Inv X pins σ (Co H2 s2.heap.objs.size (.lst [])) {s2 with heap:=s2.heap.push {cls:=.type "list", data:=.seq ([]:List EX).toArray}} :=
  I2.laid (t':=s2.toks) (fun b u e=>EY _ e) (E3 _) ⟨by show 0<=sizeLine;exact FE _,[],0,.nil,Fa _ rfl⟩
 obtain⟨Wv,⟨m0,w0⟩,turn⟩:=q2 _ hD;have tn3:tn 0 (s2.heap.push {cls:=.type "list", data:=.seq ([]:List EX).toArray}):=T.keep _ _ _ st2 fun b _ o e=>EY _ e
 have fpD:∀b∈fp,(Co H2 s2.heap.objs.size (.lst [])) b=none:=fun b hb=>by
  obtain⟨o,e,_⟩:=T.obj _ _ st2 b hb;rw[ak (FK (E8 e))];exact(f2 b hb).1
 have fp3:∀b∈fp,b<(s2.heap.push {cls:=.type "list", data:=.seq ([]:List EX).toArray}).objs.size:=fun b hb=>by
  obtain⟨o,e,_⟩:=T.obj _ _ tn3 b hb;exact E8 e
 exact dg N' fr hc hkind hcell hfree frl frg cl1 cl2 I3 T tn3 fpD fp3 (fun b hb=>(f2 b hb).2)
  (fun s' IY tY stat=>rf (Y:=blk X N' scope ⟨cl,fp,X.pn++pins,_,_⟩) hc rfl (hg ⟨cl,fp,X.pn++pins,_,_⟩) (ht ⟨cl,fp,X.pn++pins,_,_⟩) (hj ⟨cl,fp,X.pn++pins,_,_⟩) (hg2 ⟨cl,fp,X.pn++pins,_,_⟩) (ht2 ⟨cl,fp,X.pn++pins,_,_⟩) (he ⟨cl,fp,X.pn++pins,_,_⟩) (hs2 ⟨cl,fp,X.pn++pins,_,_⟩) T IY tY fpD stat w0 (turn ⟨cl,fp,X.pn++pins,_,_⟩))
  (Rp:=Ll (FA X.prog X.w) X.A X.xe none (EP X pins σ Q) (.ref s2.heap.objs.size)) fun s5 H4 m hn k _ qn=>⟨m,hn,fun h' hs'=>⟨.ref _,H4,k h' hs',rfl,qn⟩⟩
theorem jJ{b:Bool}{ix:Nat}(N':List Str)(fr:List (Option Nat))(hc:X.calm=true)(hi:PI X t1 i1 wi)(hfr:lS fr N' X.N scope X.env.scope=true)(hsc:lW scope X.env.scope=true)
 (hg:∀y,PG (blk X N' scope y) t1 (g y))(ht:∀y,Ea (blk X N' scope y) f1 (tt y))(hj:∀y,PI (blk X N' scope y) t2 i2 (wj y))(hg2:∀y,PG (blk X N' scope y) t2 (g2 y))(ht2:∀y,Ea (blk X N' scope y) f2 (tt2 y))(he:∀y,PE (blk X N' scope y) elt (te y))
 (hN:X.N.Nodup)(hix:X.N[ix]?=some x)(hx:Loc X.env.scope x)(hf:X.fn x=true\/X.env.scope.names.lookup x=some .local)(hsw:GH (Dn elt t1 i1 f1 t2 i2 f2 scope pos) (some (.Name x px)) spos.line X.env=pure b)
 (hs:∀x,FC i1 X.env x=pure x)(hs2:∀y x,FC i2 (blk X N' scope y).env x=pure x):PS X (.Assign [.Name x px] (Dn elt t1 i1 f1 t2 i2 f2 scope pos) spos) (vQ (mW wi fr g tt wj g2 tt2 te) (iB ix)):=by
 cases b with
 | false=>exact fS hN hix hx (nE N' fr hc hi hfr hsc hg ht hj hg2 ht2 he hs hs2) hsw hf
 | true =>
 intro pins s σ H DD I h;obtain⟨hkind,hcell,hnames,hfree⟩:=lW.get hsc;obtain⟨frl,frg⟩:=lS.get hfr;obtain⟨cl,hclos,cl1,cl2⟩:=cn (env:=X.env) (scope:=scope) fun y hy hl=>I.ok.has y.1 (hfree y hy hl);rw[IC _ _ _ _ hsw];refine EU (GJ (EU ?_));show Fm _ X.A (do let _ <- Lm (Dn elt t1 i1 f1 t2 i2 f2 scope pos) scope X.env _ (newList []) false (eval i1 X.env) (some (HF (.Name x px) X.env))) _ _ s
 refine EU (FH (GN (use:=some (HF (.Name x px) X.env)) (Q:=fun _ s'=>SP X pins DD .next s') rfl hs hclos hkind hnames
  (Cy (hi pins s σ H _ I h) fun v s1 h1=>Cy h1 fun itv s2 h2=>?_)) (fun _ s' hq=>EW (EW hq)) fun _ _ e=>e)
 obtain⟨it,fp,tn,J,H2,e,I2,T,st2,f2,q2⟩:=h2;subst e;refine FB ?_;have hD:H2 s2.heap.objs.size=none:=I2.hok.fresh (E3 _)
 have I3:Inv X pins σ (Co H2 s2.heap.objs.size (.lst [])) {s2 with heap:=s2.heap.push {cls:=.type "list", data:=.seq ([]:List EX).toArray}} :=
  I2.laid (t':=s2.toks) (fun b u e=>EY _ e) (E3 _) ⟨by show 0<=sizeLine;exact FE _,[],0,.nil,Fa _ rfl⟩
 obtain⟨Wv,⟨m0,w0⟩,turn⟩:=q2 _ hD;have tn3:tn 0 (s2.heap.push {cls:=.type "list", data:=.seq ([]:List EX).toArray}):=T.keep _ _ _ st2 fun b _ o e=>EY _ e
 have fpD:∀b∈fp,(Co H2 s2.heap.objs.size (.lst [])) b=none:=fun b hb=>by
  obtain⟨o,e,_⟩:=T.obj _ _ st2 b hb;rw[ak (FK (E8 e))];exact(f2 b hb).1
 have fp3:∀b∈fp,b<(s2.heap.push {cls:=.type "list", data:=.seq ([]:List EX).toArray}).objs.size:=fun b hb=>by
  obtain⟨o,e,_⟩:=T.obj _ _ tn3 b hb;exact E8 e
 refine dg (Q:=fun v H1=>iB ix v σ H1 DD.nx) N' fr hc hkind hcell hfree frl frg cl1 cl2 I3 T tn3 fpD fp3 (fun b hb=>(f2 b hb).2)
  (fun s' IY tY stat=>rf (Y:=blk X N' scope ⟨cl,fp,X.pn++pins,_,_⟩) (Q:=fun v H1=>iB ix v σ H1 DD.nx) hc rfl (hg ⟨cl,fp,X.pn++pins,_,_⟩) (ht ⟨cl,fp,X.pn++pins,_,_⟩) (hj ⟨cl,fp,X.pn++pins,_,_⟩) (hg2 ⟨cl,fp,X.pn++pins,_,_⟩) (ht2 ⟨cl,fp,X.pn++pins,_,_⟩) (he ⟨cl,fp,X.pn++pins,_,_⟩) (hs2 ⟨cl,fp,X.pn++pins,_,_⟩) T IY tY fpD stat w0 (turn ⟨cl,fp,X.pn++pins,_,_⟩))
  (Rp:=Ll (FA X.prog X.w) X.A X.xe (some (HF (.Name x px) X.env)) (fun _ s'=>SP X pins DD .next s') (.ref s2.heap.objs.size)) fun s5 H4 m hn k fpo qn=>?_
 show Fm _ X.A (HF (.Name x px) X.env (.ref s2.heap.objs.size)) _ _ s5;have I5:Inv X pins σ H4 s5:=k s5.heap (Ht _ _);obtain⟨f0,f1,f2',f3,f4,f5⟩:=fpo;refine Is (dW I5 hN hix hx (v:=.ref s2.heap.objs.size) rfl (fun s6 I6 sb=>?_) hf);obtain⟨a,sb,ha⟩:=sb
 have hne:(s2.heap.push {cls:=.type "list", data:=.seq ([]:List EX).toArray}).objs.size≠a:=by
  rcases ha with rfl|ha
  · exact f1
  · exact fun z=>f4 x a ha z.symm
 refine⟨m,hn.at' fun o e=>sb.extBut _ o hne e,fun h' hs'=>?_⟩;exact⟨_,H4,I6.turned (t':=s6.toks) (fun b o hb e=>hs'.extBut b o hb e) f0 f1 f3 f4 f5,qn⟩
end
end L2
namespace L2.VL
noncomputable def pC(ρ0:En)(g:DY)(ft:TB)(fj:En->(List ET->Prop)->Prop)(g2:DY)(ft2:TB)(fe:TV):List ET->List ET->(List ET->Prop)->Prop
 | [],acc,Q=>Q acc
 | x::xs,acc,Q=>g x ρ0 fun ρ2=>Le ρ0 ρ2/\ft ρ2 fun b=>if b=true then fj ρ2 fun ys=>kr ρ2 g2 ft2 fe ys acc fun acc'=>pC ρ0 g ft fj g2 ft2 fe xs acc' Q else pC ρ0 g ft fj g2 ft2 fe xs acc Q
noncomputable def mP(fi:En->(List ET->Prop)->Prop)(fr:List (Option Nat))(g:DY)(ft:TB)(fj:En->(List ET->Prop)->Prop)(g2:DY)(ft2:TB)(fe:TV):TV:=fun ρ Q=>fi ρ fun xs=>pC (dP fr ρ) g ft fj g2 ft2 fe xs [] fun ds=>Q (.ml ds)
section
variable{X:Cx}{rl:RlT}{elt t1 i1 t2 i2:Expr}{f1 f2:List Expr}{scope:Scope}{pos:Pos}{fi fj:En->(List ET->Prop)->Prop}{g g2:DY}{ft ft2:TB}{fe:TV}
theorem p_{wi:TI}(fr:List (Option Nat))(k0:∀{F₀ H₀ F H:Hp}{σ:St}{ρ:En},VR X.K rl F₀ H₀ F H σ ρ->∀(Qd:List ET->Prop)(R:It->Hp->Prop),fi ρ Qd ->
 (∀J xs F' H',Grow rl F H F' H'->VIt X.K rl F' J xs->Qd xs->R J H')->wi σ H R)
 (hg:∀y,Ei (blk X N' scope y) rl t1 g)(ht:∀y,o8 (blk X N' scope y) rl f1 ft)(hj:∀y,Ef (blk X N' scope y) rl t2 i2 fj)(hg2:∀y,Ei (blk X N' scope y) rl t2 g2)(ht2:∀y,o8 (blk X N' scope y) rl f2 ft2)(he:∀y,PV (blk X N' scope y) rl elt fe)
 (R:VR X.K rl F₀ H₀ F H σ ρ)(Qd:W->Prop)(Q:VK)(q:mP fi fr g ft fj g2 ft2 fe ρ Qd)
 (k:∀v w F' H',Grow rl F H F' H'->c7 X.K rl F' H' v w->dB H v w->Qd w->Q v H') :
 mW wi fr (fun y=>Ft (hg y)) (fun y=>Ft (ht y)) (fun y=>Ft (hj y)) (fun y=>Ft (hg2 y)) (fun y=>Ft (ht2 y)) (fun y=>Ft (he y)) σ H Q:=by
 refine k0 R _ _ q fun J xs F1 H1 g1 vi q1=>?_;intro D hD;have rD:rl.a≠some D:=fun e=>by obtain⟨o,z⟩:=g1.reel.live e;rw[hD]at z;cases z
 have FD:F1 D=none:=g1.sub.free hD;have gD:Grow rl F1 H1 F1 (Co H1 D (.lst [])):=Grow.laid g1.sub g1.reel hD;have R1:=R.grow g1;have n0:lV (dP fr ρ):=du;have keepD:∀{acc:List V}{Fc Hc Fx Hx:Hp},Hc D=some (.lst acc)->Fc D=none->Grow rl Fc Hc Fx Hx->Hx D=some (.lst acc)/\Fx D=none:=fun hDc fDc gx=>⟨gx.same D _ hDc rD,by rw[gx.old D _ hDc];exact fDc⟩
 refine⟨fun i m acc σc Hc=>m=xs.length-i/\i<=xs.length/\∃Fc ds,VR X.K rl F1 H1 Fc Hc σc (dP fr ρ)/\Hc D=some (.lst acc)/\Fc D=none/\Reps X.K Fc acc ds/\pC (dP fr ρ) g ft fj g2 ft2 fe (xs.drop i) ds (fun ds=>Qd (.ml ds)),
  ⟨xs.length,by simp,FE _,F1,[],fg R1 gD,ar,FD,.nil,by simpa using q1⟩,?_⟩
 rintro z i m acc σc Hc ⟨rfl,hi,Fc,ds,Rc,hDc,fDc,rs,q2⟩;have sH:bJ F1 Hc:=Rc.g.fs.trans Rc.sub;by_cases hlt:i<xs.length
 · have ei:xs[i]?=some xs[i]:=by simp[hlt]
   have ed:xs.drop i=xs[i]::xs.drop (i+1):=FS hlt;rw[ed]at q2;refine .inr ⟨vi.go i Hc _ ei sH,fun v H' y=>?_⟩;obtain⟨Fy,gy,rv⟩:=vi.yld i Hc v H' _ Fc ei Rc.g.fs Rc.sub Rc.reel y;refine(EV (hg z)).2 (Rc.grow gy) v _ _ _ rv q2 fun F3 H3 σ3 ρ3 g3 n3 R3 ⟨le3,q3⟩=>?_;refine(EV (ht z)).2 R3 _ _ q3 fun b F4 H4 g4 q4=>?_;have R4:=R3.grow g4;have g34:=(gy.trans g3).trans g4;have nm3:lV ρ3:=n3 n0
   cases b with
   | false=>exact⟨xs.length-(i+1),by omega,rfl,hlt,F4,ds,R4.le le3,(keepD hDc fDc g34).1,(keepD hDc fDc g34).2,rs.mono g34.fs,q4⟩
   | true =>
     refine(EV (hj z)).2 R4 _ _ q4 fun J2 ys F5 H5 g5 vi2 q5=>?_;have g35:=g34.trans g5
     refine⟨fun j m acc σe He=>m=ys.length-j/\j<=ys.length/\∃Fe es,VR X.K rl F1 H1 Fe He σe ρ3/\bJ F5 Fe/\He D=some (.lst acc)/\Fe D=none/\Reps X.K Fe acc es /\
      kr ρ3 g2 ft2 fe (ys.drop j) es (fun es=>pC (dP fr ρ) g ft fj g2 ft2 fe (xs.drop (i+1)) es (fun ds=>Qd (.ml ds))),
      ⟨ys.length,by simp,FE _,F5,ds,R4.grow g5,.refl _,(keepD hDc fDc g35).1,(keepD hDc fDc g35).2,rs.mono g35.fs,by simpa using q5⟩,?_⟩
     rintro j m acc2 σe He ⟨rfl,hj',Fe,es,Re,s5,hDe,fDe,res,q6⟩;have sHe:bJ F5 He:=s5.trans Re.sub;by_cases hlt2:j<ys.length
     · have ej:ys[j]?=some ys[j]:=by simp[hlt2]
       have edj:ys.drop j=ys[j]::ys.drop (j+1):=FS hlt2;rw[edj]at q6;refine .inr ⟨vi2.go j He _ ej sHe,fun v2 H2' y2=>?_⟩;obtain⟨Fy2,gy2,rv2⟩:=vi2.yld j He v2 H2' _ Fe ej s5 Re.sub Re.reel y2;refine(EV (hg2 z)).2 (Re.grow gy2) v2 _ _ _ rv2 q6 fun F7 H7 σ7 ρ7 g7 n7 R7 ⟨le7,q7⟩=>?_;refine(EV (ht2 z)).2 R7 _ _ q7 fun b2 F8 H8 g8 q8=>?_;have R8:=R7.grow g8;have g78:=(gy2.trans g7).trans g8
       cases b2 with
       | false=>exact⟨ys.length-(j+1),by omega,rfl,hlt2,F8,es,R8.le le7,s5.trans g78.fs,(keepD hDe fDe g78).1,(keepD hDe fDe g78).2,res.mono g78.fs,q8⟩
       | true =>
         refine(EV (he z)).2 R8 _ _ q8 fun v9 w9 F9 H9 g9 r9 n9 ⟨d,ed9,hl,q9⟩=>?_;obtain⟨F10,g10,s10,r10⟩:=c7.fz g9 r9 n9;rw[ed9]at r10;have g710:=g78.trans g10;refine⟨(keepD hDe fDe g710).1,by rw[res.length];exact hl,ys.length-(j+1),by omega,rfl,hlt2,F10,es++[d],((R8.grow g10).le le7).other nm3 hD (keepD hDe fDe g710).2 rD,s5.trans g710.fs,ar,(keepD hDe fDe g710).2,(res.mono g710.fs).snoc r10,q9⟩
     · have e:j=ys.length:=by omega
       subst e;rw[G3]at q6;exact .inl ⟨vi2.stop _ He (E3 _) sHe,xs.length-(i+1),by omega,rfl,hlt,Fe,es,Re.le le3,hDe,fDe,res,q6⟩
 · have e:i=xs.length:=by omega
   subst e;rw[G3]at q2;refine .inl ⟨vi.stop _ Hc (E3 _) sH,k _ (.ml ds) Fc Hc (g1.trans Rc.g) ⟨D,acc,rfl,fDc,rD,hDc,rs⟩ (fun a ea=>by cases ea;exact g1.freeB hD) q2⟩
theorem jt(i:Nat){b:Bool}(hN:X.N.Nodup)(N':List Str)(fr:List (Option Nat))(hc:X.calm=true)(hi:Ef X rl t1 i1 fi)
 (hg:∀y,Ei (blk X N' scope y) rl t1 g)(ht:∀y,o8 (blk X N' scope y) rl f1 ft)(hj:∀y,Ef (blk X N' scope y) rl t2 i2 fj)(hg2:∀y,Ei (blk X N' scope y) rl t2 g2)(ht2:∀y,o8 (blk X N' scope y) rl f2 ft2)(he:∀y,PV (blk X N' scope y) rl elt fe)
 (hsw:autoParam (GH (.ListComp elt [⟨t1,i1,f1,0⟩,⟨t2,i2,f2,0⟩] scope pos) (some (.Name x px)) spos.line X.env=pure b) æa._auto_1)
 (hix:autoParam (X.N[i]?=some x) æa._auto_1)(hx:autoParam (Loc X.env.scope x) æe._auto_1)(hf:autoParam (X.fn x=true\/X.env.scope.names.lookup x=some .local) æf._auto_1)
 (hfr:autoParam (lS fr N' X.N scope X.env.scope=true) æa._auto_1)(hsc:autoParam (lW scope X.env.scope=true) æa._auto_1)
 (hs:autoParam (∀x,FC i1 X.env x=pure x) æd._auto_1)(hs2:autoParam (∀y x,FC i2 (blk X N' scope y).env x=pure x) æi._auto_1) :
 Ec X rl (.Assign [.Name x px] (.ListComp elt [⟨t1,i1,f1,0⟩,⟨t2,i2,f2,0⟩] scope pos) spos) (lv i (mP fi fr g ft fj g2 ft2 fe)):=by
 obtain⟨wi,p0,k0⟩:=hi
 refine⟨_,jJ N' fr hc p0 hfr hsc (fun y=>(EV (hg y)).1) (fun y=>(EV (ht y)).1) (fun y=>(EV (hj y)).1) (fun y=>(EV (hg2 y)).1) (fun y=>(EV (ht2 y)).1) (fun y=>(EV (he y)).1) hN hix hx hf hsw hs hs2,
  fun R Dv D ok q=>p_ fr k0 hg ht hj hg2 ht2 he R _ _ q fun v w F1 H1 g1 r1 n1 ⟨d,ed,q1⟩=>?_⟩
 obtain⟨F2,g2,s2,r2⟩:=c7.fz g1 r1 n1;rw[ed]at r2;exact ok.nx _ _ _ _ g2.fs (R.set g2 r2 trivial (fun xs z=>by cases z) i) q1
end
noncomputable def rq(ρ0:En)(g:DY)(ft:TB)(fj:En->(List ET->Prop)->Prop)(g2:DY)(ft2:TB)(fe:TV)(x:ET)(acc:List ET):Mo (List ET) :=
 DK (g x ρ0) fun ρ2=>Dy (Le ρ0 ρ2) (DK (ft ρ2) fun b=>if b=true then DK (fj ρ2) fun ys=>cB (Dr ρ2 g2 ft2 fe) ys acc else ret acc)
noncomputable def eA(b:ET->List ET->Mo (List ET)):List ET->List ET->Mo (List ET)
 | [],acc=>ret acc
 | x::xs,acc=>DK (b x acc) (eA b xs)
theorem la(ρ0:En)(g:DY)(ft:TB)(fj:En->(List ET->Prop)->Prop)(g2:DY)(ft2:TB)(fe:TV):∀(xs acc:List ET),pC ρ0 g ft fj g2 ft2 fe xs acc=eA (rq ρ0 g ft fj g2 ft2 fe) xs acc
 | [],acc=>rfl
 | x::xs,acc=>by
   refine ag fun Q=>?_;show(g x ρ0 fun ρ2=>Le ρ0 ρ2/\ft ρ2 fun b=>if b=true then fj ρ2 fun ys=>kr ρ2 g2 ft2 fe ys acc fun acc'=>pC ρ0 g ft fj g2 ft2 fe xs acc' Q else pC ρ0 g ft fj g2 ft2 fe xs acc Q)↔(DK (rq ρ0 g ft fj g2 ft2 fe x acc) (eA (rq ρ0 g ft fj g2 ft2 fe) xs)) Q;simp only[la ρ0 g ft fj g2 ft2 fe xs,iH]
   have:∀(ρ2:En)(b:Bool),(if b=true then fj ρ2 fun ys=>cB (Dr ρ2 g2 ft2 fe) ys acc fun acc'=>eA (rq ρ0 g ft fj g2 ft2 fe) xs acc' Q else eA (rq ρ0 g ft fj g2 ft2 fe) xs acc Q)
    = (DK (if b=true then DK (fj ρ2) fun ys=>cB (Dr ρ2 g2 ft2 fe) ys acc else ret acc) (eA (rq ρ0 g ft fj g2 ft2 fe) xs)) Q:=by
    intro ρ2 b;cases b<;>rfl
   simp only[this];exact Ip
theorem m_comp2(fi:En->(List ET->Prop)->Prop)(fr:List (Option Nat))(g:DY)(ft:TB)(fj:En->(List ET->Prop)->Prop)(g2:DY)(ft2:TB)(fe:TV)(ρ:En) :
 mP fi fr g ft fj g2 ft2 fe ρ=DK (fi ρ) fun xs=>DK (eA (rq (dP fr ρ) g ft fj g2 ft2 fe) xs []) fun ds=>ret (.ml ds):=by
 refine ag fun Q=>?_;show(fi ρ fun xs=>pC (dP fr ρ) g ft fj g2 ft2 fe xs [] fun ds=>Q (.ml ds))↔_;simp only[la];exact Ip
section
variable{α β:Type}{b:ET->Mo (Option ET)}
theorem jU{c:ET->List ET->Mo (List ET)}{xs:List α}{enc:α->ET}(F:α->List ET)(h:∀x∈xs,∀acc:List ET,acc.length+(F x).length<=sizeLine->c (enc x) acc=ret (acc++F x)) :
 ∀acc:List ET,acc.length+(xs.flatMap F).length<=sizeLine->eA c (xs.map enc) acc=ret (acc++xs.flatMap F):=by
 induction xs with
 | nil=>intro acc _;show ret acc=_;simp
 | cons x xs ih =>
   intro acc hl;rw[JN,Ga]at hl;show DK (c (enc x) acc) _=_;rw[h x E7 acc (by omega),bnd_ret,ih (fun y my=>h y (E9 _ my)) (acc++F x) (by rw[Ga];omega),JN,JI]
theorem zB{γ:Type}{c:ET->List ET->Mo (List ET)}{k:List ET->Mo γ}{Q:γ->Prop}{xs:List α}{enc:α->ET}(F:α->List ET)(hx:xs'=xs.map enc)
 (h:∀x∈xs,∀acc:List ET,acc.length+(F x).length<=sizeLine->c (enc x) acc=ret (acc++F x))(hl:(xs.flatMap F).length<=sizeLine)(fin:k (xs.flatMap F) Q):DK (eA c xs' []) k Q:=by
 subst hx;rw[jU F h [] (by simpa using hl),bnd_ret];simpa using fin
end
noncomputable def ER:=ES @m_comp2 (@bnd_ret)
end L2.VL
namespace L2.ZP
section
variable{prog:Fo}{w:Gc}{A:Gh}{E:EX->EZ->Prop}{s:EZ}{z it a:Addr}{k:Nat}{xs:Array EX}{x p:EX}{b:Bool}
abbrev e2(h:Heap)(b:Bool)(a:Addr):Heap:=(y1 h b a).push {cls:=.type "enumerate", data:=.fields #[.none,.bool false,.ref h.objs.size,KQ 0,.none,.none]}
end
end L2.ZP
namespace L2
open PySem PySem.Spec PyProof.Rows L2.ZP
section
variable{X:Cx}{e1:Expr}{ta:TA}{elts:List Expr}{kt:Nat}{pt p pos:Pos}
end
end L2
namespace L2.VL
section
variable{X:Cx}{rl:RlT}{a:Expr}{elts:List Expr}{kt:Nat}{pt p pos:Pos}{fs:DU}
end
section
variable{α β:Type}{b:ET->Mo (Option ET)}
end
open PySem PySem.Spec
inductive Sh where
 | one (c v:List Rat)
 | two (c d:List Rat) (vs:List (List Rat))
noncomputable def Sh.cuts:Sh->List (List Rat)
 | .one c _=>[c]
 | .two c d _=>[c,d]
noncomputable def Sh.vD:Sh->ET
 | .one _ v=>C_ v
 | .two _ _ vs=>ptsQ vs
noncomputable def shD(s:Sh):ET:=.tuple [ptsQ s.cuts,s.vD]
noncomputable def di(n:Nat)(c:List Rat):Prop:=∃(d:Int)(as:List Int),0<d/\d<2^20/\as.length<=n/\c=as.map (fun a=>qd a d)/\(∀a∈as,0<a/\a<d)/\as.Pairwise (· < ·)
noncomputable def Sh.OkP(m:Nat)(V:Rat->Prop):Sh->Prop
 | .one c v=>di 6 c/\v.length=c.length+1/\∀q∈v,V q
 | .two c d vs=>di m c/\di m d/\vs.length=c.length+1/\∀v∈vs,v.length=d.length+1/\∀q∈v,V q
abbrev Sh.OkM(m n:Nat)(s:Sh):Prop:=Sh.OkP m (fun q=>C6 n q) s
theorem Sh.OkP.mono{V V':Rat->Prop}{s:Sh}(h:s.OkP m V)(i:∀q,V q->V' q):s.OkP m V':=by
 cases s with
 | one c v=>exact⟨h.1,h.2.1,fun q mq=>i q (h.2.2 q mq)⟩
 | two c d vs=>exact⟨h.1,h.2.1,h.2.2.1,fun v mv=>⟨(h.2.2.2 v mv).1,fun q mq=>i q ((h.2.2.2 v mv).2 q mq)⟩⟩
noncomputable def Sh.at:Sh->List Int->Rat
 | .one _ v,p=>v.getD (p.getD 0 0).toNat 0
 | .two _ _ vs,p=>(vs.getD (p.getD 0 0).toNat []).getD (p.getD 1 0).toNat 0
noncomputable def l9(cs:List (List Rat))(p:List Int):Prop:=p.length=cs.length/\∀z∈cs.zip p,0<=z.2/\z.2<=(z.1.length:Int)
noncomputable def lim(c:List Rat):List Rat:=0::(c++[1])
theorem xX{d:Int}(h:0<d):qd 0 d=0:=by unfold qd;rw[Rat.div_def];show(0:Rat)*_=0;rw[Rat.zero_mul]
theorem BB{d:Int}(h:0<d):qd d d=1:=by
 unfold qd;have:=d4 h
 grind
theorem sZ(a b:Int){d:Int}(h:0<d):qd a d-qd b d=qd (a-b) d:=by
 unfold qd;have:=d4 h;rw[Rat.intCast_sub]
 grind
theorem jH(a b:Int){d:Int}(h:0<d):qd a d+qd b d=qd (a+b) d:=by
 unfold qd;have:=d4 h;rw[Rat.intCast_add]
 grind
theorem di.len(h:di n c):c.length<=n:=by
 obtain⟨d,as,_,_,hl,rfl,_⟩:=h;rw[E1];exact hl
theorem ue(h:di n c):∃d:Int,0<d/\d<2^20/\∀q∈lim c,∃a:Int,0<=a/\a<=d/\q=qd a d:=by
 obtain⟨d,as,d0,d1,_,rfl,ha,_⟩:=h;refine⟨d,d0,d1,fun q hq=>?_⟩;rcases FV.mp hq with rfl|hq
 · exact⟨0,K8 _,by omega,(xX d0).symm⟩
 rcases GG.mp hq with hq|hq
 · obtain⟨a,ma,rfl⟩:=FP.mp hq;exact⟨a,Ku (ha a ma).1,Ku (ha a ma).2,rfl⟩
 · rw[FM.mp hq];exact⟨d,by omega,K8 _,(BB d0).symm⟩
theorem getD_mem{xs:List α}{k:Nat}{d:α}(h:k<xs.length):xs.getD k d∈xs:=by
 rw[Jm,FX h];exact Gb h
theorem wW(h:di n c):∀q∈lim c,C6 20 q:=by
 obtain⟨d,d0,d1,hm⟩:=ue h;intro q hq;obtain⟨a,a0,a1,rfl⟩:=hm q hq;exact s_ d0 (by omega) (by omega)
theorem di.sm(h:di n c):∀q∈c,C6 20 q:=fun q hq=>wW h q (E9 _ (IR _ hq))
noncomputable def DI(rows:List (List Int)):List (List Int):=rows.foldl (fun ch r=>ch.flatMap fun b=>r.map fun t=>b++[t]) [[]]
noncomputable def pch(cs:List (List Rat)):List (List Int):=DI (cs.map fun c=>cF 0 (c.length+1))
noncomputable def cp(qs:List Rat):Rat:=qs.foldl (· + ·) 0
theorem eN:∀(qs:List Rat)(a:Rat),qs.foldl (· + ·) a=a+cp qs
 | [],a=>by unfold cp;rw[KS,KS,Rat.add_zero]
 | q::qs,a=>by
   unfold cp;rw[HL,HL,eN qs,eN qs]
   grind
theorem aM(q:Rat)(qs:List Rat):cp (q::qs)=q+cp qs:=by
 show(qs.foldl (· + ·) (0+q))=_;rw[eN,ID]
theorem wn{B:Int}(hB:0<B)(hd:(q.den:Int)∣B):qd (q.num*(B / q.den)) B=q:=by
 obtain⟨c,hc⟩:=hd;have dp:=qA q
 have c0:0<c:=by
  rcases JO 0 c with h|h|h
  · exact h
  · subst h;omega
  · have:=HZ dp h;omega
 have e:B / (q.den:Int)=c:=by rw[hc];exact JP _ (by omega)
 rw[e,hc];have es:=tf q;unfold qd at *;rw[Ji,Ji];have h1:=d4 c0;have h2:=d4 dp;generalize (q.num:Rat)=x at *;generalize ((q.den:Int):Rat)=y at *;generalize (c:Rat)=z at *;rw[<- es]
 grind
theorem qS{B:Int}(hB:0<B):∀qs:List Rat,(∀q∈qs,(q.den:Int)∣B)->qd (qs.map fun q=>q.num*(B / q.den)).sum B=cp qs
 | [],_=>by rw[Gv,List.sum_nil,xX hB];rfl
 | q::qs,h=>by
   rw[Fd,List.sum_cons,<- jH _ _ hB,wn hB (h q E7),qS hB qs fun r hr=>h r (E9 _ hr),aM]
structure LcmI (n:Nat) (qs:List Rat) (B:Int):Prop where
 p:0<B
 z:B<2^(n*qs.length+1)
 d:∀q∈qs,(q.den:Int)∣B
theorem LcmI.nil(n:Nat):LcmI n [] 1:=⟨by decide,by simp,by simp⟩
theorem LcmI.step{qs:List Rat}{B:Int}(h:LcmI n qs B)(hq:C6 n q):LcmI n (qs++[q]) (B*((q.den:Int) / (FY B q.den:Int))):=by
 have dp:=qA q;have bp:=h.p;have gp:(0:Int)<(FY B q.den:Int):=by have:=HI B (show(q.den:Int)≠0 by omega);omega
 obtain⟨b,hb⟩:=Int.gcd_dvd_left (a:=B) (b:=(q.den:Int));obtain⟨c,hc⟩:=Int.gcd_dvd_right (a:=B) (b:=(q.den:Int))
 have ec:(q.den:Int) / (FY B q.den:Int)=c:=by
  generalize (FY B q.den:Int)=g at *;rw[hc];exact JP _ (by omega)
 rw[ec]
 have c0:0<c:=by
  rcases JO 0 c with h|h|h
  · exact h
  · subst h;omega
  · have:=HZ gp h;omega
 have cle:c<=(q.den:Int):=by
  have:1*c<=(FY B q.den:Int)*c:=IE (by omega) (by omega);omega
 refine⟨Int.mul_pos bp c0,?_,fun r hr=>?_⟩
 · have l:n*(qs++[q]).length+1=(n*qs.length+1)+n:=by rw[Ga,Ko,LA];omega
   rw[l];have d2:(q.den:Int)<2^n:=by have:=hq.2;exact_mod_cast this
   exact t9 (by omega) c0 h.z (by omega)
 · rcases GG.mp hr with hr|hr
   · exact Int.dvd_trans (h.d r hr) (Int.dvd_mul_right _ _)
   · rw[FM.mp hr];refine⟨b,?_⟩;generalize (FY B q.den:Int)=g at *;rw[hb,hc]
     grind
theorem uJ(r:List Int):DI [r]=r.map fun t=>[t]:=by simp[DI]
theorem xG(r s:List Int):DI [r,s]=r.flatMap fun a=>s.map fun b=>[a,b]:=by
 show List.flatMap _ (DI [r])=_;rw[uJ,List.flatMap_map];rfl
theorem Sh.pch_ok{s:Sh}:∀p∈pch s.cuts,l9 s.cuts p:=by
 intro p hp
 cases s with
 | one c v =>
   unfold pch Sh.cuts at hp;rw[Fd,Gv,uJ]at hp;obtain⟨k,mk,rfl⟩:=FP.mp hp;have:=x6.mp mk;refine⟨rfl,fun z hz=>?_⟩;rw[show(Sh.one c v).cuts.zip [k]=[(c,k)]from rfl]at hz;rw[FM.mp hz];dsimp only
   omega
 | two c d vs =>
   unfold pch Sh.cuts at hp;rw[Fd,Fd,Gv,xG]at hp;obtain⟨k,mk,hp⟩:=J8.mp hp;obtain⟨j,mj,rfl⟩:=FP.mp hp;have h1:=x6.mp mk;have h2:=x6.mp mj;refine⟨rfl,fun z hz=>?_⟩;rw[show(Sh.two c d vs).cuts.zip [k,j]=[(c,k),(d,j)]from rfl]at hz;rcases FV.mp hz with rfl|hz
   · dsimp only;omega
   · rw[FM.mp hz];dsimp only;omega
theorem l9.one(h:l9 [c] p):∃k:Int,p=[k]/\0<=k/\k<=(c.length:Int):=by
 obtain⟨hl,hz⟩:=h
 match p,hl with
 | [k],_=>exact⟨k,rfl,hz (c,k) E7⟩
theorem l9.two{d:List Rat}(h:l9 [c,d] p):∃k j:Int,p=[k,j]/\(0<=k/\k<=(c.length:Int))/\0<=j/\j<=(d.length:Int):=by
 obtain⟨hl,hz⟩:=h
 match p,hl with
 | [k,j],_=>exact⟨k,j,rfl,hz (c,k) E7,hz (d,j) (E9 _ E7)⟩
theorem Sh.at_P{V:Rat->Prop}{s:Sh}(h:s.OkP m V)(hp:l9 s.cuts p):V (s.at p):=by
 cases s with
 | one c v =>
   obtain⟨k,rfl,k0,k1⟩:=l9.one hp;obtain⟨_,hl,hv⟩:=h
   exact hv _ (getD_mem (by show k.toNat<v.length;omega))
 | two c d vs =>
   obtain⟨k,j,rfl,⟨k0,k1⟩,j0,j1⟩:=l9.two hp;obtain⟨_,_,hl,hv⟩:=h;have:=hv _ (getD_mem (d:=[]) (show k.toNat<vs.length by omega));exact this.2 _ (getD_mem (by show j.toNat<(vs.getD k.toNat []).length;omega))
theorem Sh.at_sm{s:Sh}(h:s.OkM m n)(hp:l9 s.cuts p):C6 n (s.at p):=Sh.at_P h hp
theorem C8:C6 1 0:=⟨by decide,by decide⟩
theorem C7:C6 1 1:=⟨by decide,by decide⟩
theorem dY{a b:Sh}:shD a=shD b↔a=b:=by
 constructor
 · intro h;unfold shD at h;simp only[Gj,FJ,and_true,bh]at h;obtain⟨h1,h2⟩:=h
   cases a with
   | one c v=>cases b with
     | one c' v' =>
       simp only[Sh.cuts,FJ,and_true]at h1;have h2:C_ v=C_ v':=h2
       rw[h1,b_.mp h2]
     | two c' d' vs'=>simp[Sh.cuts]at h1
   | two c d vs=>cases b with
     | one c' v'=>simp[Sh.cuts]at h1
     | two c' d' vs' =>
       simp only[Sh.cuts,FJ,and_true]at h1;have h2:ptsQ vs=ptsQ vs':=h2;rw[h1.1,h1.2,bh.mp h2]
 · rintro rfl;rfl
theorem item_sh0(s:Sh):itemAt (shD s) 0=some (ptsQ s.cuts):=rfl
theorem item_sh1(s:Sh):itemAt (shD s) 1=some s.vD:=rfl
theorem kP(fl:List Nat)(b:ET->En->Mo Fl)(ρ:En):dM fl b [] ρ=ret (.nx ρ):=nr rfl
theorem ja(fl:List Nat)(b:ET->En->Mo Fl)(x:ET)(xs:List ET)(ρ:En):dM fl b (x::xs) ρ=DK (b x ρ) (Dk fl (dM fl b xs)):=nr rfl
theorem lpK_nx(fl:List Nat)(k:En->Mo Fl)(ρ:En):Dk fl k (.nx ρ)=k (fo fl ρ):=nr rfl
theorem lpK_rt(fl:List Nat)(k:En->Mo Fl)(w:W):Dk fl k (.rt w)=ret (.rt w):=nr rfl
theorem seqD_tI(xs:List Int):fq (bS xs)=some (xs.map .int):=rfl
theorem tupD_tI(xs:List Int):tupD (bS xs)=some (xs.map .int):=rfl
theorem item_tI(xs:List Int)(i:Int):itemAt (bS xs) i=(atI xs i).map .int:=atI_map _ _ _
theorem lenD_tI(xs:List Int):kS (bS xs)=some xs.length:=by show some (xs.map FG).length=_;rw[E1]
theorem tup_of(xs:List Int):Gw (xs.map FG)=bS xs:=rfl
theorem pt_of(xs:List Rat):Gw (xs.map fr)=C_ xs:=rfl
theorem p7(l:List α)(f:α->Int):l.map (fun z=>FG (f z))=(l.map f).map .int:=by rw[GC];rfl
theorem p6(l:List α)(f:α->List Int):l.map (fun z=>kO (f z))=(l.map f).map kO:=by rw[GC];rfl
theorem cQ{a b:List (List Int)}:a.map kO=b.map kO↔a=b:=bI fun _ _=>kN
theorem cX{xs:List α}{k:Nat}{d:α}(h:k<xs.length):xs.getD k d=xs[k]:=by rw[Jm,FX h];rfl
theorem bu{xs:List α}{i:Int}(d:α)(h0:0<=i)(h1:i<(xs.length:Int)):atI xs i=some (xs.getD i.toNat d):=by rw[xM h0 h1,cX (by omega)]
noncomputable def EO:=ES @item_sh0 (ES @item_sh1 (ES @seqD_tI (ES @tupD_tI (ES @item_tI (ES @lenD_tI (ES @tup_of (ES @pt_of (ES @lpK_nx (@lpK_rt)))))))))
theorem Sh.cut6{s:Sh}(h:s.OkM m n)(hm:autoParam (m<=6) æb._auto_1):∀c∈s.cuts,di 6 c:=by
 intro c hc
 cases s with
 | one a v =>
   rw[FM.mp hc]
   exact h.1
 | two a b vs =>
   have up:∀c,di m c->di 6 c:=fun c ⟨d,as,h1,h2,h3,h4⟩=>⟨d,as,h1,h2,by omega,h4⟩;rcases FV.mp hc with rfl|hc
   · exact up _ h.1
   · rw[FM.mp hc];exact up _ h.2.1
theorem Sh.cl(s:Sh):s.cuts.length<=2:=by cases s<;>simp[Sh.cuts]
theorem fy{s:Sh}(h:s.OkM m n)(hm:autoParam (m<=6) æb._auto_1):(pch s.cuts).length<=49:=by
 cases s with
 | one c v =>
   show(DI _).length<=49;rw[Sh.cuts,Fd,Gv,uJ,E1,cj]
   have:=h.1.len;omega
 | two c d vs =>
   show(DI _).length<=49;rw[Sh.cuts,Fd,Fd,Gv,xG,HA];have h1:=h.1.len;have h2:=h.2.1.len;simp only[E1,cj,List.map_const',Kg];exact Gk (KU (show _<=7 by omega) (show _<=7 by omega)) (by decide)
theorem rK{a b:Int}{k:Nat}(h:b≠0)(hz:b.natAbs<2^k)(hk:k<=9000):dR a b:=⟨h,E6 hz (Fq (by decide) hk)⟩
open PySem PySem.Spec
noncomputable def D8(s:Nat)(ps:List (List Rat)):Prop:=∀p∈ps,p.length=s/\∀q∈p,C6 20 q/\0<=q/\q<1
noncomputable def CZ(p es:List Rat):Bool:=(p.zip es).all fun z=>!decide (z.2<z.1)
noncomputable def Db(p es:List Rat):Bool:=(p.zip es).all fun z=>decide (z.1<z.2)
noncomputable def CL(es:List Rat):Rat:=yZ (es.map fun e=>mx e 0)
noncomputable def CY(ps:List (List Rat))(es:List Rat):Nat:=(ps.filter fun p=>CZ p es).length
noncomputable def ov(ps:List (List Rat))(es:List Rat):Rat:=qd (CY ps es) ps.length-CL es
open PySem PySem.Spec
noncomputable def Cw(e:Rat):ET:=C0 (.to e)
theorem yC{a b:Rat}:Cw a=Cw b↔a=b:=by
 unfold Cw;rw[b9];constructor
 · intro h;injection h
 · rintro rfl;rfl
theorem yB{a b:List Rat}:a.map Cw=b.map Cw↔a=b:=bI fun _ _=>yC
noncomputable def DJ(es:List Rat):ET:=.tuple (es.map Cw)
theorem zC{a b:List Rat}:DJ a=DJ b↔a=b:=by unfold DJ;rw[Gj,yB]
end L2.VL
namespace L2
theorem DAt.stab{xs:List (List Int×Addr×EX)}{h1 h2:Heap}(p:VL.DAt a xs h1)(k:∀o,h1.get? a=some o->h2.get? a=some o):VL.DAt a xs h2:=by
 obtain⟨o,es,ep,h,r⟩:=p;exact⟨o,es,ep,k o h,r⟩
theorem gY{xs:List (List Int×Addr×EX)}(p:VL.DAt a xs h):cD P w H h a (.ext (VL.DAt a xs)) :=
 ⟨p,(let ⟨o,_,_,e,_⟩:=p;⟨o,e⟩),fun _ _ q k=>DAt.stab q k⟩
noncomputable def dG(K:W.Frag)(H:Hp)(xs:List (List Int×Addr×EX)):Prop:=∀x∈xs,D0 K H x.2.1 (x.1.map V.int)
section
variable{X:Cx}{pins:List (Addr×Obj)}{σ:St}{H:Hp}{s:EZ}{a b:Addr}{xs:List (List Int×Addr×EX)}{k:List Int}{A:Gh}{E:EX->EZ->Prop}
theorem items_int{prog:Fo}{w:Gc}:∀{ks:List Int}{its:List EX},cE (ks.map V.int) its->ItemsAre (IZ prog w) ks its
 | [],_,.nil=>.nil
 | i::ks,_,.cons h r=>by
   obtain⟨t,rfl⟩:=(show ∃t,_=JD i t from h);exact .cons (by simp[IZ,LI]) (items_int r)
theorem ga(I:Inv X pins σ H s)(sq:D0 X.K H b (k.map V.int)):(Hm (IZ X.prog X.w)).is s.heap k b:=by
 obtain⟨its,rv,⟨o,h1,h2,n,h3⟩,_⟩:=I.tuple sq;exact⟨o,its.toArray,n,h1,h2,h3,by simpa using items_int rv⟩
theorem oF(I:Inv X pins σ H s)(e:H a=some (.ext (VL.DAt a xs)))(ks:dG X.K H xs):s.heap.DictOfH (Hm (IZ X.prog X.w)) a xs/\(a==G1)=false/\xs.length<=sizeLine:=by
 obtain⟨⟨o,es,ep,h1,h2,h3,h4,h5,h6,h7⟩,_⟩:=(show cD X.prog X.w H s.heap a (.ext (VL.DAt a xs))from I.hok a _ e);exact⟨⟨o,es,ep,h1,h2,h3,h4 _ _,fun x hx=>ga I (ks x hx),h5⟩,h6,h7⟩
theorem qj{P':Fo}{w':Gc}(x:List Int×Addr×EX):Lp (Hm (IZ P w)) x=Lp (Hm (IZ P' w')) x:=rfl
theorem rF(d:h.DictOfH (Hm (IZ P w)) a xs)(h6:(a==G1)=false)(h7:xs.length<=sizeLine):VL.DAt a xs h:=by
 obtain⟨o,es,ep,h1,h2,h3,h4,_,h5⟩:=d;exact⟨o,es,ep,h1,h2,h3,fun P' w'=>by rw[h4];exact Ib fun x _=>qj x,h5,h6,h7⟩
theorem dE(xs:List (List Int×Addr×EX))(k:List Int)(b:Addr)(u:EX):(Jw xs k b u).length<=xs.length+1:=by
 unfold Jw;split<;>simp
noncomputable def vO:TE:=fun _ H Q=>∀p,H p=none->Q (.ref p) (Co H p (.ext (VL.DAt p [])))
noncomputable def yE(K:W.Frag)(td ty:TE):TE:=fun σ H Q=>td σ H fun x H1=>ty σ H1 fun y H2=>∃a xs b k p v,x = .ref a/\H2 a=some (.ext (VL.DAt a xs))/\dG K H2 xs/\y = .ref b/\D0 K H2 b (k.map V.int)/\Kc xs k=some p/\RelV v p.2/\Q v H2
noncomputable def yQ(K:W.Frag)(td ty tv:TE):TS:=fun D σ H=>tv σ H fun v H1=>td σ H1 fun x H2=>ty σ H2 fun y H3 =>
 ∃a xs b k,x = .ref a/\H3 a=some (.ext (VL.DAt a xs))/\dG K H3 xs/\y = .ref b/\D0 K H3 b (k.map V.int)/\xs.length<sizeLine/\∀r,RelV v r->D.nx σ (Co H3 a (.ext (VL.DAt a (Jw xs k b r))))
end
section
variable{X:Cx}{o i e f value:Expr}{pos pos' apos cpos:Pos}{td ty tz tv:TE}
theorem pW:PE X (.Dict [] [] pos) vO:=fun pins s σ H Q I h =>
 wpAny_Dict_empty ⟨.ref s.heap.objs.size,_,I.laid (a:=s.heap.objs.size) (o:=.ext (VL.DAt s.heap.objs.size [])) (t':=s.toks) (fun _ _ q=>EY _ q) (E3 _)
  (gY ⟨_,#[],0,Fa _ rfl,⟨rfl,rfl,rfl⟩,rfl,fun _ _=>rfl,KW,beq_eq_false_iff_ne.mpr (II (FK I.big)),FE _⟩),rfl,h _ (I.hok.fresh (E3 _))⟩
theorem tL(hu:X.A.units+1<IU)(ho:PE X o td)(hi:PE X i ty)(hs:o9 i):PE X (.Subscript o i pos) (yE X.K td ty):=by
 intro pins s σ H Q I h;refine jz HX.lookup hs (Cy (ho pins s σ H _ I h) fun u s1 ⟨x,H1,I1,rx,q1⟩=>Cy (hi pins s1 σ H1 _ I1 q1) fun iv s2 ⟨y,H2,I2,ry,a,xs,b,k,p,v,ex,e,ks,ey,sq,at',rv,q2⟩=>?_);subst ex ey;obtain rfl:u=Ge a:=rx;cases(show iv=Ge b from ry);obtain⟨dd,hd,_⟩:=oF I2 e ks;refine⟨dd.typeIs,Js (Hg hu) (ga I2 sq) dd at' ?_⟩;exact⟨v,H2,I2.tok _,rv,q2⟩
theorem tD(hu:X.A.units+1<IU)(ho:PE X o td)(hi:PE X i ty)(hv:PE X value tv)(hs:GH value (some (.Subscript o i pos')) pos.line X.env=pure false) :
 PS X (.Assign [.Subscript o i pos'] value pos) (yQ X.K td ty tv):=by
 intro pins s σ H D I h;refine Kd (Cy (hv pins s σ H _ I h) fun r s1 ⟨v,H1,I1,rv,q1⟩=>Cy (ho pins s1 σ H1 _ I1 q1) fun u s2 ⟨x,H2,I2,rx,q2⟩=>Cy (hi pins s2 σ H2 _ I2 q2) fun iv s3 ⟨y,H3,I3,ry,a,xs,b,k,ex,ea,ks,ey,sq,hl,q3⟩=>?_) hs;subst ex ey;obtain rfl:u=Ge a:=rx;cases(show iv=Ge b from ry);obtain⟨dd,hd,hz⟩:=oF I3 ea ks;refine wpAny_setItem_heap (hsz:=hz) (Hg hu) (ga I3 sq) dd fun h' dd' hsb=>⟨σ,_,?_,q3 r rv⟩;have lz:=dE xs k b r;have at':=rF dd' hd (by omega);exact dq I3 (by rw[ea];exact HD) hsb (let ⟨o,_,_,e,_⟩:=at';⟨o,e⟩) (gY at')
end
end L2
namespace L2.VL
noncomputable def iI(kvs:List (List Int×ET))(k:List Int):Option ET:=(kvs.find? fun kv=>decide (kv.1=k)).map (·.2)
noncomputable def gF(kvs:List (List Int×ET))(k:List Int)(x:ET):List (List Int×ET) :=
 if(kvs.any fun kv=>decide (kv.1=k))=true then kvs.map (fun kv=>if kv.1=k then(kv.1,x)else kv)else kvs++[(k,x)]
theorem KX.keys{K:W.Frag}{F:Hp}:∀{xs:List (List Int×Addr×EX)}{kvs:List (List Int×ET)},KX K F xs kvs->dG K F xs
 | _,_,.nil,x,m=>by cases m
 | _,_,.cons h t,x,m=>by
   rcases FV.mp m with rfl|m
   · rw[h.1]at *;exact h.2.1
   · exact KX.keys t x m
theorem KX.at{K:W.Frag}{F:Hp}{xs:List (List Int×Addr×EX)}{kvs:List (List Int×ET)}(r:KX K F xs kvs)(k:List Int):(Kc xs k=none/\iI kvs k=none)\/∃p v d,Kc xs k=some p/\iI kvs k=some d/\RelV v p.2/\Rep K F v d:=by
 induction r with
 | nil=>exact .inl ⟨rfl,rfl⟩
 | @cons p q ps qs h t ih =>
   unfold Kc iI at *;rw[GA,GA,h.1];by_cases e:q.1=k
   · simp only[e,decide_true];obtain⟨_,_,v,rv,rp⟩:=h;exact .inr ⟨p.2,v,q.2,rfl,rfl,rv,rp⟩
   · simp only[e,decide_false];exact ih
theorem KX.put{K:W.Frag}{xs:List (List Int×Addr×EX)}(r:KX K F xs kvs)(k:List Int){u:EX}(sq:D0 K F b (k.map V.int))(rv:RelV v u)(rp:Rep K F v d):KX K F (Jw xs k b u) (gF kvs k d):=by
 have any:(Kc xs k).isSome=kvs.any fun kv=>decide (kv.1=k):=by
  induction r with
  | nil=>rfl
  | @cons p q ps qs h t ih =>
    unfold Kc at *;rw[GA,JV,h.1];by_cases e:q.1=k
    · simp[e]
    · simp only[e,decide_false,Bool.false_or];exact ih
 unfold Jw gF;rw[any];by_cases c:(kvs.any fun kv=>decide (kv.1=k))=true
 · rw[if_pos c,if_pos c];clear any c
   induction r with
   | nil=>exact .nil
   | @cons p q ps qs h t ih =>
     refine .cons ?_ ih;show(putAt k u p).1=(if q.1=k then(q.1,d)else q).1/\D0 K F (putAt k u p).2.1 ((putAt k u p).1.map V.int)/\∃v,RelV v (putAt k u p).2.2/\Rep K F v (if q.1=k then(q.1,d)else q).2;unfold putAt;by_cases e:q.1=k
     · rw[if_pos e,if_pos (h.1.trans e)];exact⟨h.1,h.2.1,v,rv,rp⟩
     · rw[if_neg e,if_neg (fun z=>e (h.1.symm.trans z))];exact h
 · rw[if_neg c,if_neg c];exact LN r ⟨rfl,sq,v,rv,rp⟩
section
variable{X:Cx}{rl:RlT}{e:Expr}{pos px apos cpos:Pos}{ρ:En}
theorem VR.ownX{K:W.Frag}{ρ:En}(r:VR K rl F₀ H₀ F H σ ρ){xs ys:List (List Int×ET)}{us:List (List Int×Addr×EX)}(e:ρ[i]?=some (some (.xm xs)))(es:σ[i]?=some (some (.ref a)))(rs:KX K F us ys) :
 VR K rl F₀ H₀ F (Co H a (.ext (DAt a us))) σ (ρ.set i (some (.xm ys))):=by
 obtain⟨v,h1,h2,h3⟩:=r.sl i _ e;rw[es]at h1;cases h1;obtain⟨a',vs,ev,f,hr,hh,q⟩:=(show ls K rl F H (.ref a) xs from h2);cases ev;have n0:H₀ a=none:=h3 a rfl;have hi:i<ρ.length:=(Ff.mp e).1;have neF:∀b u,F b=some u->b≠a:=fun b u q z=>by subst z;rw[f]at q;cases q
 have g:Grow rl F₀ H₀ F (Co H a (.ext (DAt a us))):=by
  refine⟨fun b o q1 n=>by rw[ak (aG q1 n0)];exact r.g.same b o q1 n,r.g.fs,fun b o q1=>by rw[ak (neF b o q1)];exact r.sub b o q1,r.g.old,fun y z=>?_⟩;obtain⟨z1,⟨u,h1,h2⟩⟩:=r.reel y z;exact⟨z1,⟨u,by rw[ak (fun q=>hr (by rw[<- q];exact z))];exact h1,h2⟩⟩
 refine⟨g,fun j w e1=>?_,fun j k ys' zs u hjk e1 e2 w1 w2 s1 s2=>?_,fun j ys' z=>?_,by simp[r.len]⟩
 · by_cases hj:i=j
   · subst hj;rw[Fj hi]at e1;cases e1;exact⟨_,es,⟨a,us,rfl,f,hr,ar,rs⟩,h3⟩
   · rw[E_ hj]at e1;obtain⟨u,g1,g2,g3⟩:=r.sl j w e1;refine⟨u,g1,?_,g3⟩
     cases w with
     | d x=>exact g2
     | reel=>exact g2
     | vv u=>exact g2
     | ml zs =>
       obtain⟨b,us',eb,f1,f2,f3,f4⟩:=(show iJ K rl F H u zs from g2);have ne:b≠a:=fun z=>r.ap i j _ _ (.ref a) hj e e1 rfl rfl es (by rw[g1,eb,z])
       exact⟨b,us',eb,f1,f2,by rw[ak ne];exact f3,f4⟩
     | pk zs=>exact absurd e1 (r.np j zs)
     | md zs =>
       obtain⟨b,us',eb,f1,f2,f3,f4⟩:=(show rP K rl F H u zs from g2);have ne:b≠a:=fun z=>r.ap i j _ _ (.ref a) hj e e1 rfl rfl es (by rw[g1,eb,z])
       exact⟨b,us',eb,f1,f2,by rw[ak ne];exact f3,f4⟩
     | mk zs =>
       obtain⟨b,us',eb,f1,f2,f3,f4⟩:=(show rO K rl F H u zs from g2);have ne:b≠a:=fun z=>r.ap i j _ _ (.ref a) hj e e1 rfl rfl es (by rw[g1,eb,z])
       exact⟨b,us',eb,f1,f2,by rw[ak ne];exact f3,f4⟩
     | xm zs =>
       obtain⟨b,us',eb,f1,f2,f3,f4⟩:=(show ls K rl F H u zs from g2);have ne:b≠a:=fun z=>r.ap i j _ _ (.ref a) hj e e1 rfl rfl es (by rw[g1,eb,z])
       exact⟨b,us',eb,f1,f2,by rw[ak ne];exact f3,f4⟩
     | nt ds=>exact g2
     | lk=>trivial
     | sc _=>exact g2
     | fd _=>exact g2
     | xr _=>exact g2
     | xw _ _=>exact g2
     | fw _=>exact g2
     | ft _=>exact g2
     | xc _ _=>exact g2
     | dp _ _=>exact g2
 · have nd:∀(j:Nat)(z:W),(ρ.set i (some (W.xm ys)))[j]?=some (some z)->z.own=true->∃z',ρ[j]?=some (some z')/\z'.own=true:=fun j zs z o=>by
     by_cases hj:i=j
     · subst hj;exact⟨_,e,rfl⟩
     · rw[E_ hj]at z;exact⟨zs,z,o⟩
   obtain⟨_,d1,o1⟩:=nd j _ e1 w1;obtain⟨_,d2,o2⟩:=nd k _ e2 w2;exact r.ap j k _ _ u hjk d1 d2 o1 o2 s1 s2
 · rw[F_]at z;split at z
   · first|cases z|(split at z<;>cases z)
   · exact r.np j ys' z
noncomputable def mN:TV:=fun _ Q=>Q (.xm [])
theorem pA:PV X rl (.Dict [] [] pos) mN:=by
 refine⟨_,pW,fun R Qd Q q h p hp=>?_⟩;refine h _ (.xm []) _ _ (Grow.laid R.sub R.reel hp) ⟨p,[],rfl,R.sub.free hp,fun e=>?_,ar,.nil⟩ (fun a ea=>by cases ea;exact hp) q;obtain⟨o,z⟩:=R.reel.live e;rw[hp]at z;cases z
noncomputable def jf:List ET->Option (List Int)
 | []=>some []
 | .int i::ds=>(jf ds).map (i :: ·)
 | _::_=>none
noncomputable def keyI:ET->Option (List Int)
 | .tuple ds=>jf ds
 | _=>none
theorem kX:∀{ds:List ET}{k:List Int},jf ds=some k->ds=k.map .int
 | [],k,h=>by cases h;rfl
 | .int i::ds,k,h=>by
   simp only[jf,HE]at h;obtain⟨k',h1,rfl⟩:=h
   rw[kX h1];rfl
 | .none::_,_,h=>by cases h
 | .bool _::_,_,h=>by cases h
 | .str _::_,_,h=>by cases h
 | .list _::_,_,h=>by cases h
 | .tuple _::_,_,h=>by cases h
 | .dict _::_,_,h=>by cases h
theorem gf:∀k:List Int,jf (k.map .int)=some k
 | []=>rfl
 | i::k=>by show(jf (k.map .int)).map (i :: ·)=_;rw[gf k];rfl
theorem uj{k:List Int}(h:keyI d=some k):d = .tuple (k.map .int):=by
 unfold keyI at h;split at h
 · rw[kX h]
 · cases h
theorem nW{K:W.Frag}{k:List Int}(h:Rep K F v d)(e:keyI d=some k):∃b,v = .ref b/\D0 K F b (k.map V.int):=by
 rw[uj e]at h
 cases h with
 | @tup a vs ds sq rs =>
   rw[dZ rs]at sq;exact⟨a,rfl,sq⟩
end
section
variable{X:Cx}{rl:RlT}{a b c o e:Expr}{es:List Expr}{fa fb:TV}{fs:DU}{pos p apos cpos:Pos}{ρ:En}
end
end L2.VL
namespace L2.TI
section
variable{prog:Fo}{w:Gc}{A:Gh}{E:EX->EZ->Prop}{s:EZ}{t:Addr}{vs:List EX}{ns:List Int}{k:Int}{tok:Tok}{j:Nat}
theorem iz:∀{vs:List EX}{ns:List Int}{i:Nat}{n:Int},K5 vs ns->ns[i]?=some n->∃u,vs[i]?=some (.int n u)
 | _,_,_,_,.nil,e=>by simp at e
 | _,_,0,_,.cons n t r,e=>by simp at e;subst e;exact⟨t,rfl⟩
 | _,_,i+1,_,.cons n t r,e=>by
   obtain⟨u,h⟩:=iz (i:=i) r (by simpa using e);exact⟨u,by simpa using h⟩
theorem scan{Q:Option Fin×Unit->EZ->Prop}(hI:K5 vs ns)(hj:ns[j]?=some k)(hno:∀m,m<j->ns[m]?≠some k)(q:Q (some (.done (.ret (.int j s.toks))),()) {s with toks:=s.toks+1}) :
 ∀ len start:Nat,start<=j->j<start+len->Fm (FA prog w) A (forIn (List.range' start len) ((none,()):Option Fin×Unit) fun(i:Nat)(_:Option Fin×Unit) =>
   match vs.toArray[i]? with
   | some y=>do
     let b <- eqBool y (JD k tok)
     if b=true then do
      let r <- retInt (i:Int)
      pure (ForInStep.done (some r,()))
     else pure (HM (none,()))
   | _=>pure (HM (none,()))) Q E s
 | 0,start,h1,h2=>by omega
 | len+1,start,h1,h2=>by
   rw[List.range'_succ,Il];have hl:start<ns.length:=by have:=(Ff.mp hj).1;omega
   obtain⟨u,hu⟩:=iz (i:=start) (n:=ns[start]) hI (FX hl);have hv:vs.toArray[start]?=some (.int ns[start] u):=by simpa using hu
   refine EU ?_;rw[hv];refine EU (wpAny_eqBool_int ?_);by_cases e:ns[start]=k
   · have es:start=j:=by
       rcases Nat.lt_or_eq_of_le h1 with z|z
       · exact absurd (by rw[FX hl,e]) (hno start z)
       · exact z
     subst es;rw[if_pos (by simpa using e)];exact EU (EU (wpAny_mkInt (EW (EW (EW q)))))
   · rw[if_neg (by simpa using e)];refine EW ?_;have ne:start≠j:=fun z=>by subst z;rw[FX hl]at hj;exact e (FO hj)
     exact scan hI hj hno q len (start+1) (by omega) (by omega)
theorem body{R:Lx->EZ->Prop}(tp:LG s.heap t vs.toArray)(hI:K5 vs ns)(hj:ns[j]?=some k)(hno:∀m,m<j->ns[m]?≠some k)
 (q:R (.ok (.ret (.int j s.toks))) {s with toks:=s.toks+1}) :
 Fm (FA prog w) A.in1 (Builtin.«tuple.index» ⟨[.ref t,.int k tok],[]⟩) (fun fin s'=>match fin with | .done f=>R (.ok f) s' | .again c'=>c'.quiet=true/\G_ (FA prog w) A c' R s') (fun e s'=>R (.error e) s') s:=by
 unfold Builtin.«tuple.index»;show Fm _ _ (do let z <- Hb (.ref t);_) _ _ s;refine EU (Ij tp ?_);refine EU (EW (EU (EW ?_)));dsimp only;rw[Std.Legacy.Range.forIn_eq_forIn_range']
 have hl:j<vs.toArray.size:=by
  have h1:=(Ff.mp hj).1;have h2:=hI.length;simp only[Fb];omega
 refine EU (scan hI hj hno ?_ _ 0 (FE _) ?_)
 · exact EW q
 · show j<0+Std.Legacy.Range.size _;simp[Std.Legacy.Range.size];simpa using hl
end
end L2.TI
namespace L2
section
variable{X:Cx}
end
section
variable{prog:Fo}{w:Gc}{A:Gh}{E:EX->EZ->Prop}{s:EZ}
end
section
variable{X:Cx}
end
end L2
namespace L2.VL
section
variable{X:Cx}{rl:RlT}{e:Expr}{fa:TV}{pos:Pos}{ρ:En}
end
section
variable{X:Cx}{rl:RlT}{a b e:Expr}{fa fb:TV}{pos:Pos}{ρ:En}
end
end L2.VL
namespace L2
section
variable{X:Cx}
end
end L2
namespace L2.VL
section
variable{X:Cx}{rl:RlT}{a e:Expr}{fs:DU}{pos p:Pos}
noncomputable def uo:ET->Option (List Int)
 | .tuple xs=>gM xs
 | _=>none
theorem qg:uo d=some ns↔d = .tuple (ns.map .int):=by
 constructor
 · intro h
   cases d with
   | tuple xs=>rw[fB h]
   | _=>cases h
 · rintro rfl;exact bX _
theorem um(ns:List Int):uo (.tuple (ns.map .int))=some ns:=bX ns
end
section
variable{X:Cx}{rl:RlT}{a b c o e:Expr}{es:List Expr}{fa fb:TV}{fs:DU}{pos p px apos cpos:Pos}{ρ:En}
end
end L2.VL
namespace L2
section
variable{X:Cx}{o e f:Expr}{apos cpos:Pos}{td ty tx:TE}
end
end L2
namespace L2.VL
section
variable{X:Cx}{rl:RlT}{a b c o e:Expr}{es:List Expr}{fa fb:TV}{fs:DU}{pos p px apos cpos:Pos}{ρ:En}
noncomputable def gG(w:W):Option (List Int):=w.dat.bind uo
theorem zF{w:W}{g:List Int}:gG w=some g↔w.dat=some (.tuple (g.map .int)):=by
 unfold gG
 cases w.dat with
 | none=>simp
 | some d=>simp[qg]
theorem xN(g:List Int):gG (.d (.tuple (g.map .int)))=some g:=um g
end
end L2.VL
namespace L2
theorem oD(p:VL.DAtO a u h):cD P w H h a (.ext (VL.DAtO a u)) :=
 ⟨p,⟨_,p.2⟩,fun _ _ q k=>⟨DAt.stab q.1 k,k _ q.2⟩⟩
theorem eO(I:Inv X pins σ H s)(e:H a=some (.ext (VL.DAtO a u))):VL.DAtO a u s.heap :=
 (show cD X.prog X.w H s.heap a (.ext (VL.DAtO a u))from I.hok a _ e).1
end L2
namespace L2.VL
section
variable{rl:RlT}
theorem VR.frzX{K:W.Frag}(r:VR K rl F₀ H₀ F H σ ρ){xs:List (List Int×ET)}{us:List (List Int×Addr×EX)}{ob:Obj}(e:ρ[i]?=some (some (.xm xs)))(es:σ[i]?=some (some (.ref a)))(hH:H a=some (.ext (DAt a us)))(rs:KX K F us xs) :
 bJ F (Co F a (.ext (DAtO a (us,ob))))/\VR K rl F₀ H₀ (Co F a (.ext (DAtO a (us,ob)))) (Co H a (.ext (DAtO a (us,ob)))) σ (ρ.set i (some (.xr xs))):=by
 obtain⟨v,h1,h2,h3⟩:=r.sl i _ e;rw[es]at h1;cases h1;obtain⟨a',vs,ev,f,hr,hh,q⟩:=(show ls K rl F H (.ref a) xs from h2);cases ev;have n0:H₀ a=none:=h3 a rfl;have hi:i<ρ.length:=(Ff.mp e).1;have neF:∀b u,F b=some u->b≠a:=fun b u q z=>by subst z;rw[f]at q;cases q
 have fsm:bJ F (Co F a (.ext (DAtO a (us,ob)))):=fun b u z=>by rw[ak (neF b u z)];exact z
 have g:Grow rl F₀ H₀ (Co F a (.ext (DAtO a (us,ob)))) (Co H a (.ext (DAtO a (us,ob)))):=by
  refine⟨fun b o q1 n=>by rw[ak (aG q1 n0)];exact r.g.same b o q1 n,r.g.fs.trans fsm,fun b o q1=>?_,fun b o q1=>by rw[ak (aG q1 n0)];exact r.g.old b o q1,fun y z=>?_⟩
  · by_cases hb:b=a
    · subst hb;rw[ar]at q1 ⊢;exact q1
    · rw[ak hb]at q1 ⊢;exact r.sub b o q1
  · obtain⟨z1,⟨u,h1,h2⟩⟩:=r.reel y z;have ny:y≠a:=fun q=>hr (by rw[<- q];exact z);exact⟨by rw[ak ny];exact z1,⟨u,by rw[ak ny];exact h1,RO.mono fsm h2⟩⟩
 refine⟨fsm,g,fun j w e1=>?_,fun j k ys' zs u hjk e1 e2 w1 w2 s1 s2=>?_,fun j ys' z=>?_,by simp[r.len]⟩
 · by_cases hj:i=j
   · subst hj;rw[Fj hi]at e1;cases e1;exact⟨_,es,⟨a,(us,ob),rfl,ar,rs.mono fsm⟩,trivial⟩
   · rw[E_ hj]at e1;obtain⟨u,g1,g2,g3⟩:=r.sl j w e1;refine⟨u,g1,?_,g3⟩;have ap:w.own=true->∀b,u = .ref b->b≠a:=fun ow b eb z=>r.ap i j _ _ (.ref a) hj e e1 rfl ow es (by rw[g1,eb,z])
     cases w with
     | d x=>exact Rep.mono fsm g2
     | ml zs=>obtain⟨b,us',eb,f1,f2,f3,f4⟩:=(show iJ K rl F H u zs from g2);exact⟨b,us',eb,by rw[ak (ap rfl b eb)];exact f1,f2,by rw[ak (ap rfl b eb)];exact f3,f4.mono fsm⟩
     | md zs=>obtain⟨b,us',eb,f1,f2,f3,f4⟩:=(show rP K rl F H u zs from g2);exact⟨b,us',eb,by rw[ak (ap rfl b eb)];exact f1,f2,by rw[ak (ap rfl b eb)];exact f3,GO.mapP f4 fun _ _ z=>⟨z.1,z.2.mono fsm⟩⟩
     | mk zs=>obtain⟨b,us',eb,f1,f2,f3,f4⟩:=(show rO K rl F H u zs from g2);exact⟨b,us',eb,by rw[ak (ap rfl b eb)];exact f1,f2,by rw[ak (ap rfl b eb)];exact f3,GO.mapP f4 fun _ _ z=>⟨z.1,z.2.mono fsm⟩⟩
     | xm zs=>obtain⟨b,us',eb,f1,f2,f3,f4⟩:=(show ls K rl F H u zs from g2);exact⟨b,us',eb,by rw[ak (ap rfl b eb)];exact f1,f2,by rw[ak (ap rfl b eb)];exact f3,KX.mono f4 fsm⟩
     | pk zs=>exact absurd e1 (r.np j zs)
     | reel=>exact g2
     | vv u=>exact g2
     | lk=>trivial
     | nt ds=>obtain⟨b,us,eb,f1,f2⟩:=g2;exact⟨b,us,eb,fsm _ _ f1,f2.mono fsm⟩
     | sc ns=>obtain⟨b,eb,f1⟩:=g2;exact⟨b,eb,sW fsm f1⟩
     | fd kvs=>obtain⟨b,us,eb,f1,f2⟩:=g2;exact⟨b,us,eb,fsm _ _ f1,GO.mapP f2 fun _ _ z=>⟨z.1,z.2.mono fsm⟩⟩
     | xr kvs=>obtain⟨b,us,eb,f1,f2⟩:=g2;exact⟨b,us,eb,fsm _ _ f1,KX.mono f2 fsm⟩
     | xw a kvs=>obtain⟨us,eb,f1,f2⟩:=g2;exact⟨us,eb,fsm _ _ f1,KX.mono f2 fsm⟩
     | fw kvs=>obtain⟨b,us,o,eb,f1,f2⟩:=g2;exact⟨b,us,o,eb,fsm _ _ f1,GO.mapP f2 fun _ _ z=>⟨z.1,z.2.mono fsm⟩⟩
     | ft kvs=>obtain⟨b,us,o,eb,f1,f2⟩:=g2;exact⟨b,us,o,eb,fsm _ _ f1,GO.mapP f2 fun _ _ z=>⟨z.1,z.2.mono fsm⟩⟩
     | xc _ _=>obtain⟨b,dx,us,C,eb,n,f1,f3,f2⟩:=g2;exact⟨b,dx,us,C,eb,n,fsm _ _ f1,fsm _ _ f3,GO.mapP f2 fun _ _ z=>⟨z.1,z.2.mono fsm⟩⟩
     | dp _ _=>obtain⟨c,b,us,u,o,eb,f1,f3,f2,z⟩:=g2;exact⟨c,b,us,u,o,eb,fsm _ _ f1,fsm _ _ f3,GO.mapP f2 fun _ _ z=>⟨z.1,z.2.mono fsm⟩,z.mono fsm⟩
 · have nd:∀(j:Nat)(y:W),(ρ.set i (some (W.xr xs)))[j]?=some (some y)->y.own=true->ρ[j]?=some (some y):=fun j y z o=>by
     by_cases hj:i=j
     · subst hj;rw[Fj hi]at z;cases z;cases o
     · rw[E_ hj]at z;exact z
   exact r.ap j k _ _ u hjk (nd j _ e1 w1) (nd k _ e2 w2) w1 w2 s1 s2
 · rw[F_]at z;split at z
   · first|cases z|(split at z<;>cases z)
   · exact r.np j ys' z
end
section
variable{X:Cx}{rl:RlT}{st:Stmt}{body:List Stmt}{t:DV}{e:Expr}{pos p px apos cpos:Pos}{ρ:En}
noncomputable def xV(i:Nat):DV:=fun D ρ=>∃kvs,ρ[i]?=some (some (.xm kvs))/\D.nx (ρ.set i (some (.xr kvs)))
noncomputable def vt(i:Nat)(t:DV):DV:=fun D ρ=>∃xs,ρ[i]?=some (some (.xm xs))/\t D (ρ.set i (some (.xr xs)))
theorem c7.keyF{rl:RlT}{K:W.Frag}{w:W}{g:List Int}(r:c7 K rl F H v w)(e:gG w=some g):∃b,v = .ref b/\D0 K F b (g.map V.int):=by
 have e:=zF.mp e
 cases w with
 | d x=>cases e;exact nW r (by show jf (g.map .int)=_;exact gf g)
 | nt ds =>
   obtain⟨a,vs,rfl,h,q⟩:=r;cases e;rw[dZ q]at h
   exact⟨a,rfl,.inl (.inl h)⟩
 | ml xs=>cases e
 | pk xs=>cases e
 | _=>cases e
theorem c7.keyI{rl:RlT}{K:W.Frag}{w:W}{g:List Int}(s:bJ F H)(r:c7 K rl F H v w)(e:gG w=some g):∃b,v = .ref b/\D0 K H b (g.map V.int):=nW (c7.dat s r (zF.mp e)) (by show jf (g.map .int)=_;exact gf g)
noncomputable def sA(i:Nat)(fk:TV):TV:=fun ρ Q=>∃kvs,ρ[i]?=some (some (.xr kvs))/\fk ρ fun wk=>∃(g:List Int)(x:ET),gG wk=some g/\iI kvs g=some x/\Q (.d x)
theorem oE{X:Cx}(I:Inv X pins σ H s)(e:H a=some (.ext (DAtO a u)))(ks:dG X.K H u.1):s.heap.DictOfH (Hm (IZ X.prog X.w)) a u.1:=by
 obtain⟨⟨o,es,ep,h1,h2,h3,h4,h5,h6,h7⟩,_⟩:=eO I e;exact⟨o,es,ep,h1,h2,h3,h4 _ _,fun x hx=>ga I (ks x hx),h5⟩
noncomputable def vL(K:W.Frag)(td ty:TE):TE:=fun σ H Q=>td σ H fun x H1=>ty σ H1 fun y H2=>∃a u b k p v,x = .ref a/\H2 a=some (.ext (DAtO a u))/\dG K H2 u.1/\y = .ref b/\D0 K H2 b (k.map V.int)/\Kc u.1 k=some p/\RelV v p.2/\Q v H2
theorem kH{o i:Expr}{td ty:TE}{pos:Pos}(hu:X.A.units+1<IU)(ho:PE X o td)(hi:PE X i ty)(hs:o9 i):PE X (.Subscript o i pos) (vL X.K td ty):=by
 intro pins s σ H Q I h;refine jz HX.lookup hs (Cy (ho pins s σ H _ I h) fun u s1 ⟨x,H1,I1,rx,q1⟩=>Cy (hi pins s1 σ H1 _ I1 q1) fun iv s2 ⟨y,H2,I2,ry,a,xs,b,k,p,v,ex,e,ks,ey,sq,at',rv,q2⟩=>?_);subst ex ey;obtain rfl:u=Ge a:=rx;cases(show iv=Ge b from ry);have dd:=oE I2 e ks;refine⟨dd.typeIs,Js (Hg hu) (ga I2 sq) dd at' ?_⟩;exact⟨v,H2,I2.tok _,rv,q2⟩
theorem mE(i:Nat){fk:TV}(hu:X.A.units+64<IU)(hk:PV X rl e fk)(hN:autoParam (X.N[i]?=some x) æa._auto_1)(hv:autoParam (DR X.env.scope x) æc._auto_1)
 (hd:autoParam ((x==("__debug__" : Str))=false) æb._auto_1)(hcd:autoParam ((x==("__classdict__" : Str))=false) æb._auto_1)(hs:autoParam (o9 e) æg._auto_1) :
 PV X rl (.Subscript (.Name x px) e pos) (sA i fk):=by
 obtain⟨t,p1,k1⟩:=hk;refine⟨_,kH (by omega) (cH hN hv hd hcd) p1 hs,fun{F₀ H₀ F H σ ρ} R Qd Q ⟨kvs,e1,q⟩ h=>?_⟩;obtain⟨v,h1,h2,h3⟩:=R.sl i _ e1;obtain⟨a,xs,rfl,hh,rs⟩:=(show ∃a us,v = .ref a/\F a=some (.ext (DAtO a us))/\KX X.K F us.1 kvs from h2);refine⟨.ref a,h1,k1 R _ _ q fun v1 w1 F1 H1 g1 r1 n1 q1=>?_⟩;obtain⟨gs,d,e2,ed,q1⟩:=q1;obtain⟨b,rfl,sq⟩:=r1.keyI g1.sub e2;have rs2:=rs.mono g1.fs;rcases rs2.at gs with⟨z1,z2⟩|⟨p,v3,d3,z1,z2,z3,z4⟩
 · rw[z2]at ed;cases ed
 · rw[z2]at ed;cases ed;exact⟨a,xs,b,gs,p,v3,rfl,g1.sub _ _ (g1.fs _ _ hh),fun x m=>cA g1.sub (rs2.keys x m),rfl,sq,z1,z3,h _ (.d _) _ _ g1 z4 trivial q1⟩
noncomputable def sy(i:Nat)(fk fx:TV):DV:=fun D ρ=>∃kvs,ρ[i]?=some (some (.xm kvs))/\fx ρ fun wx=>fk ρ fun wk=>∃(g:List Int)(x:ET),gG wk=some g/\wx = .d x/\kvs.length<sizeLine/\D.nx (ρ.set i (some (.xm (gF kvs g x))))
theorem rY(i:Nat){f:Expr}{fk fx:TV}(hu:X.A.units+64<IU)(hk:PV X rl e fk)(hx:PV X rl f fx)(hN:autoParam (X.N[i]?=some x) æa._auto_1)(hv:autoParam (DR X.env.scope x) æc._auto_1)
 (hd:autoParam ((x==("__debug__" : Str))=false) æb._auto_1)(hcd:autoParam ((x==("__classdict__" : Str))=false) æb._auto_1)(hs:autoParam (GH f (some (.Subscript (.Name x px) e pos')) pos.line X.env=pure false) æa._auto_1) :
 Ec X rl (.Assign [.Subscript (.Name x px) e pos'] f pos) (sy i fk fx):=by
 obtain⟨t,p1,k1⟩:=hk;obtain⟨t2,p2,k2⟩:=hx;refine⟨_,tD (by omega) (cH hN hv hd hcd) p1 p2 hs,fun{F₀ H₀ F H σ ρ} R Dv D ok ⟨kvs,e1,q⟩=>?_⟩;obtain⟨v,h1,h2,h3⟩:=R.sl i _ e1;obtain⟨a,xs,rfl,f0,hr,hh,rs⟩:=(show ls X.K rl F H v kvs from h2);refine k2 R _ _ q fun v2 w2 F2 H2 g2 r2 n2 q2=>⟨.ref a,h1,k1 (R.grow g2) _ _ q2 fun v1 w1 F1 H1 g1 r1 n1 q3=>?_⟩;obtain⟨gs,d,e2,rfl,hz,q3⟩:=q3;obtain⟨b,rfl,sq⟩:=r1.keyI g1.sub e2;have g:=g2.trans g1;have rs1:=rs.mono g.fs;have hl:xs.length=kvs.length:=GI rs
 have sqF:D0 X.K F1 b (gs.map V.int):=by
  have:=r1.keyF e2;obtain⟨b',eb,sq'⟩:=this;cases eb;exact sq'
 refine⟨a,xs,b,gs,rfl,g.same a _ hh hr,fun x m=>cA g1.sub (rs1.keys x m),rfl,sq,by omega,fun r rv=>?_⟩;exact ok.nx _ _ _ _ g.fs ((R.grow g).ownX e1 h1 (rs1.put gs sqF rv (Rep.mono g1.fs r2))) q3
end
end L2.VL
namespace L2
section
variable{X:Cx}{e:Expr}{tg:Expr}{te:TE}
end
end L2
namespace L2.VL
section
variable{X:Cx}{rl:RlT}{a b e o i':Expr}{es:List Expr}{fa fb:TV}{fs:DU}{pos p px apos cpos:Pos}{ρ:En}{st:Stmt}{t:DV}
end
section
variable{X:Cx}{rl:RlT}{kx vx tg iter:Expr}{ifs:List Expr}{scope:Scope}{pos:Pos}{fi:En->(List ET->Prop)->Prop}{g:DY}{ft:TB}{fk fe:TV}
end
abbrev EE:=List (Ep×ET)×ET
section
variable{P:Fo}{w:Gc}{K:W.Frag}{mg:Str->Option EX}{base:Heap}{rl:RlT}{x:Str}{st:Stmt}{N ps:List Str}{k:Nat}{Pd:List W->(EE->Prop)->Prop}{t:DV}
end
section
variable{X:Cx}{rl:RlT}{e:Expr}{es:List Expr}{fs:DU}{pos p:Pos}{ρ:En}
end
section
variable{X:Cx}{rl:RlT}{a b c o e:Expr}{es:List Expr}{fa fb:TV}{fs:DU}{pos p apos cpos:Pos}{ρ:En}
end
end L2.VL
namespace L2
noncomputable def xR(h:Heap)(a:Addr)(es:Array IA)(ep:Nat):Prop:=∃ob,h.get? a=some ob/\ob.ExactDict/\ob.data = .dict es ep
section
variable{P:Fo}{w:Gc}{A:Gh}{E:EX->EZ->Prop}{s:EZ}{d v it:Addr}{es:Array IA}{ep i:Nat}
theorem xR.ty(r:xR s.heap d es ep):s.TypeIs (.ref d) "dict" := let ⟨ob,q,x,_⟩:=r;⟨ob,q,x.1⟩
end
section
variable{X:Cx}{o:Expr}{tg:Expr}{te:TE}{apos cpos:Pos}
end
end L2
namespace L2.VL
section
variable{X:Cx}{rl:RlT}{a b e o i':Expr}{es:List Expr}{fa fb:TV}{fs:DU}{pos p px apos cpos:Pos}{ρ:En}{st:Stmt}{t:DV}
end
end L2.VL
namespace L2
section
variable{P:Fo}{w:Gc}{A:Gh}{E:EX->EZ->Prop}{s:EZ}{d v it:Addr}{es:Array IA}{ep i:Nat}
theorem nc(nd:(d==G1)=false)(r:xR s.heap d es ep)
 (z:Q (.ref s.heap.objs.size) {s with heap:=s.heap.push {cls:=.type "dict_keyiterator", data:=.fields #[.ref d,.int 0 0,.int es.size 0,.int ep 0]}}):Fm (FA P w) A (Lw (.ref d)) Q E s:=by
 obtain⟨ob,q,x,t⟩:=id r;refine wpAny_pyIter_slot r.ty F.slot_dict_iter (GD F.slot_dict_iter r.ty F.entry_dict_iter ?_ (F.args_dict_iter_1 _));unfold Builtin.«dict.__iter__»;refine EU ?_;unfold Builtin.Dict.dictSlotNone;refine EU (wpAny_notOrdered_dict r.ty ?_);show Fm _ _ (pure (Ge d)) _ _ s;refine EW ?_;show Fm _ _ (Kx d >>= _) _ _ s;unfold Kx;rw[if_neg (by rw[nd];exact Fz)];refine EU (EW (EU (JQ q t (EU (Ky q t ?_)))));refine EU (FB (EW ⟨_,rfl, "dict_keyiterator", _,⟨_,Fa _ rfl,rfl⟩,F.slot_dict_keyiterator_next.lookup,?_⟩));simpa[KQ]using z
theorem ng{x:EX}{Q:Option EX->EZ->Prop}(hit:s.heap.IsKeyIter it d i es.size ep)(r:xR s.heap d es ep)(hx:(es[i]?).map (·.key)=some x)
 (z:∀h',h'.IsKeyIter it d (i+1) es.size ep->G7 it s.heap h'->Q (some x) {s with heap:=h' }):Fm (FA P w) A (JE (.ref it)) Q E s:=by
 obtain⟨ob,o1,o2,o3⟩:=id hit;obtain⟨od,q,x0,t⟩:=id r
 have li:i<es.size:=by
  rcases Nat.lt_or_ge i es.size with y|y
  · exact y
  · rw[Kh y]at hx;cases hx
 have ex:es[i].key=x:=by rw[JB li]at hx;exact FO hx
 unfold JE;refine EU (JZ (FQ (name:=FT "__next__") hit.typeIs F.slot_dict_keyiterator_next (GD F.slot_dict_keyiterator_next hit.typeIs F.entry_dict_keyiterator_next ?_ (F.args_dict_keyiterator_next_1 _))));refine EU (EW (EU (EU ?_)))
 first|refine EU (G4 hit.typeIs (EW (EU (JC o1 o3 ?_))))|refine EU (Hu hit.typeIs (EW (EU (JC o1 o3 ?_))))
 simp only[show IV "dict_keyiterator" = false by decide,HG,if_false];show Fm _ _ (if(Ge d==Hf)=true then _ else _) _ _ s;rw[if_neg (show ¬((Ge d==Hf)=true)from Fz)];refine EU (EW (EU (JQ q t ?_)));rw[if_neg (by simp)];refine EU (EW (EU (Ky q t ?_)));rw[if_neg (by simp)];refine EW ?_;simp only[show ¬((i:Int)<0)from by omega,if_false,GX,JB li];refine EU ?_
 first|refine EU (G4 hit.typeIs (EW (EU (IF hit.typeIs ?_))))|refine EU (Hu hit.typeIs (EW (EU (IF hit.typeIs ?_))))
 show Fm _ _ (setField (.ref it) 1 (KQ ((i:Int)+1)) >>= _) _ _ s;refine EU (Jy o1 o3 (by simp) ?_);have h2:(s.heap.update it (Obj.mapFields (·.setIfInBounds 1 (KQ ((i:Int)+1))))).IsKeyIter it d (i+1) es.size ep:=⟨_,IB _ o1 (Kv (Io o3 _)),(Obj.cls_mapFields ..).trans o2,by rw[Io o3];simp[KQ]⟩;generalize he:s.heap.update it (Obj.mapFields (·.setIfInBounds 1 (KQ ((i:Int)+1))))=h' at h2 ⊢;refine EU (G5 (EU (IF (s:={s with heap:=h' }) h2.typeIs ?_)));show Fm _ _ (pure es[i].key) _ _ _;rw[ex];exact EW (EW ⟨_,rfl,EW (z _ h2 (he▸Ia ..))⟩)
theorem pL{Q:Option EX->EZ->Prop}(hh:A.handled=none)(hit:s.heap.IsKeyIter it d i es.size ep)(r:xR s.heap d es ep)(hx:es.size<=i)
 (z:∀h',LR it s.heap h'->Q none {s with heap:=h' }):Fm (FA P w) A (JE (.ref it)) Q E s:=by
 obtain⟨ob,o1,o2,o3⟩:=id hit;obtain⟨od,q,x0,t⟩:=id r;unfold JE;refine EU (JZ (FQ (name:=FT "__next__") hit.typeIs F.slot_dict_keyiterator_next (GD F.slot_dict_keyiterator_next hit.typeIs F.entry_dict_keyiterator_next ?_ (F.args_dict_keyiterator_next_1 _))));refine EU (EW (EU (EU ?_)))
 first|refine EU (G4 hit.typeIs (EW (EU (JC o1 o3 ?_))))|refine EU (Hu hit.typeIs (EW (EU (JC o1 o3 ?_))))
 simp only[show IV "dict_keyiterator" = false by decide,HG,if_false];show Fm _ _ (if(Ge d==Hf)=true then _ else _) _ _ s;rw[if_neg (show ¬((Ge d==Hf)=true)from Fz)];refine EU (EW (EU (JQ q t ?_)));rw[if_neg (by simp)];refine EU (EW (EU (Ky q t ?_)));rw[if_neg (by simp)];refine EW ?_;simp only[show ¬((i:Int)<0)from by omega,if_false,GX,Kh hx];refine EU ?_
 first|refine EU (G4 hit.typeIs (EW ?_))|refine EU (Hu hit.typeIs (EW ?_))
 show Fm _ _ (setField (.ref it) 0 .none >>= _) _ _ s;refine EU (Jy o1 o3 (by simp) ?_);show Fm _ _ (newExc (.type "StopIteration") [] >>= _) _ _ _;refine EU ?_;simp only[newExc,newTuple];refine EU (FB (EU (m:=Jz _ _) (JX (a:=Hf) (by first|rfl|(simp only[Jz];rfl)) (FB ?_ (by size_fits)))) (by size_fits));simp only[raiseNew];refine EU (wpAny_handled ?_);rw[show A.in1.handled=none from hh];refine EU (EW (wpAny_throw ?_));refine EU (wpAny_isInstance (T := "StopIteration") (b:=true) ⟨_,Fa _ rfl,rfl⟩ isSubtype_stop ?_);exact EW (z _ (((Ia ..).extBut.push _).push _))
end
open PySem PySem.Spec PyProof.Rows PySem.W
section
variable{P:Fo}{w:Gc}{A:Gh}{E:EX->EZ->Prop}{s:EZ}{d:Addr}{es:Array IA}{ep:Nat}
end
end L2
namespace L2.VL
noncomputable def kI(k:List Int):ET:=.tuple (k.map .int)
section
variable{X:Cx}{rl:RlT}{a b c o e:Expr}{es:List Expr}{fa fb fk fx:TV}{fs:DU}{pos p px apos cpos:Pos}{ρ:En}
noncomputable def ln:W->Option (List (List Int×ET))
 | .xr kvs=>some kvs
 | _=>none
theorem o6{w:W}:ln w=some kvs↔w = .xr kvs:=by cases w<;>simp[ln]
noncomputable def fD:W->Option (List (List Int×ET))
 | .xm kvs=>some kvs
 | _=>none
theorem uF{w:W}:fD w=some kvs↔w = .xm kvs:=by cases w<;>simp[fD]
noncomputable def CQ(ρ:En)(i:Nat):Option (List (List Int×ET)):=((ρ[i]?).join).bind fD
theorem iV:CQ ρ i=some kvs↔ρ[i]?=some (some (.xm kvs)):=by
 unfold CQ;rcases ρ[i]? with _|_|w<;>simp[uF]
noncomputable def kE(ρ:En)(i:Nat):Option (List (List Int×ET)):=((ρ[i]?).join).bind ln
theorem mZ:kE ρ i=some kvs↔ρ[i]?=some (some (.xr kvs)):=by
 unfold kE;rcases ρ[i]? with _|_|w<;>simp[o6]
theorem bG:mN ρ=ret (.xm []):=nr rfl
theorem cU(i:Nat):sA i fk ρ=aC (kE ρ i) fun kvs=>DK (fk ρ) fun wk=>aC (gG wk) fun g=>aC (iI kvs g) fun x=>ret (.d x):=by
 refine ag fun Q=>?_;simp only[sA,ai,mZ,DK,ret];refine exists_congr fun kvs=>and_congr_right fun _=>?_;constructor
 · intro h;refine cast ?_ h;congr 1;funext x;exact propext ⟨fun⟨a,b,c,d,e⟩=>⟨a,c,b,d,e⟩,fun⟨a,c,b,d,e⟩=>⟨a,b,c,d,e⟩⟩
 · intro h;refine cast ?_ h;congr 1;funext x;exact propext ⟨fun⟨a,c,b,d,e⟩=>⟨a,b,c,d,e⟩,fun⟨a,b,c,d,e⟩=>⟨a,c,b,d,e⟩⟩
theorem cL(i:Nat):mS (sy i fk fx) ρ=aC (CQ ρ i) fun kvs=>DK (fx ρ) fun wx=>DK (fk ρ) fun wk=>aC (gG wk) fun g=>aC (asD wx) fun x=>Dy (kvs.length<sizeLine) (ret (.nx (ρ.set i (some (.xm (gF kvs g x)))))):=by
 refine ag fun Q=>?_;simp only[mS,sy,ai,iV,DK,ret,ff,Dy];refine exists_congr fun kvs=>and_congr_right fun _=>?_;constructor
 · intro h;refine cast ?_ h;congr 1;funext x;congr 1;funext y;exact propext ⟨fun⟨a,b,c,d,e,f⟩=>⟨a,c,b,d,e,f⟩,fun⟨a,c,b,d,e,f⟩=>⟨a,b,c,d,e,f⟩⟩
 · intro h;refine cast ?_ h;congr 1;funext x;congr 1;funext y;exact propext ⟨fun⟨a,c,b,d,e,f⟩=>⟨a,b,c,d,e,f⟩,fun⟨a,b,c,d,e,f⟩=>⟨a,c,b,d,e,f⟩⟩
theorem cT(i:Nat){t:DV}:mS (vt i t) ρ=aC (CQ ρ i) fun xs=>mS t (ρ.set i (some (.xr xs))):=by
 refine ag fun Q=>?_;simp only[mS,vt,ai,iV]
theorem gH(kvs:List (List Int×ET)):(W.xr kvs).peek.fz = .xr kvs:=rfl
end
end L2.VL
namespace L2
open PySem PySem.Spec PyProof.Rows PySem.W
section
variable{P:Fo}{w:Gc}{A:Gh}{E:EX->EZ->Prop}{s:EZ}{d v it S:Addr}{es:Array IA}{ep i:Nat}
variable{R:Lx->EZ->Prop}
end
section
variable{X:Cx}{pins:List (Addr×Obj)}{σ:St}{H H':Hp}{s:EZ}{h':Heap}{t':Nat}
end
end L2
namespace L2.VL
section
variable{X:Cx}{rl:RlT}{pos p px apos cpos:Pos}{ρ:En}
end
end L2.VL
namespace L2
section
variable{X:Cx}{o i value:Expr}{pos tpos:Pos}{td ty tv:TE}
end
end L2
namespace L2.VL
section
variable{X:Cx}{rl:RlT}{e:Expr}{fk fx:TV}{pos px:Pos}{ρ:En}
noncomputable def mI(i:Nat)(fk:TV):TV:=fun ρ Q=>∃kvs,ρ[i]?=some (some (.xm kvs))/\fk ρ fun wk=>∃(g:List Int)(x:ET),gG wk=some g/\iI kvs g=some x/\Q (.d x)
theorem mD(i:Nat){fk:TV}(hu:X.A.units+64<IU)(hk:PV X rl e fk)(hN:autoParam (X.N[i]?=some x) æa._auto_1)(hv:autoParam (DR X.env.scope x) æc._auto_1)
 (hd:autoParam ((x==("__debug__" : Str))=false) æb._auto_1)(hcd:autoParam ((x==("__classdict__" : Str))=false) æb._auto_1)(hs:autoParam (o9 e) æg._auto_1) :
 PV X rl (.Subscript (.Name x px) e pos) (mI i fk):=by
 obtain⟨t,p1,k1⟩:=hk;refine⟨_,tL (by omega) (cH hN hv hd hcd) p1 hs,fun{F₀ H₀ F H σ ρ} R Qd Q ⟨kvs,e1,q⟩ h=>?_⟩;obtain⟨v,h1,h2,h3⟩:=R.sl i _ e1;obtain⟨a,xs,rfl,f0,hr,hh,rs⟩:=(show ls X.K rl F H v kvs from h2);refine⟨.ref a,h1,k1 R _ _ q fun v1 w1 F1 H1 g1 r1 n1 q1=>?_⟩;obtain⟨gs,d,e2,ed,q1⟩:=q1;obtain⟨b,rfl,sq⟩:=r1.keyI g1.sub e2;have rs2:=rs.mono g1.fs;rcases rs2.at gs with⟨z1,z2⟩|⟨p,v3,d3,z1,z2,z3,z4⟩
 · rw[z2]at ed;cases ed
 · rw[z2]at ed;cases ed;exact⟨a,xs,b,gs,p,v3,rfl,g1.same a _ hh hr,fun x m=>cA g1.sub (rs2.keys x m),rfl,sq,z1,z3,h _ (.d _) _ _ g1 z4 trivial q1⟩
theorem bU(i:Nat):mI i fk ρ=aC (CQ ρ i) fun kvs=>DK (fk ρ) fun wk=>aC (gG wk) fun g=>aC (iI kvs g) fun x=>ret (.d x):=by
 refine ag fun Q=>?_;simp only[mI,ai,iV,DK,ret];refine exists_congr fun kvs=>and_congr_right fun _=>?_;constructor
 · intro h;refine cast ?_ h;congr 1;funext x;exact propext ⟨fun⟨a,b,c,d,e⟩=>⟨a,c,b,d,e⟩,fun⟨a,c,b,d,e⟩=>⟨a,b,c,d,e⟩⟩
 · intro h;refine cast ?_ h;congr 1;funext x;exact propext ⟨fun⟨a,c,b,d,e⟩=>⟨a,b,c,d,e⟩,fun⟨a,b,c,d,e⟩=>⟨a,c,b,d,e⟩⟩
end
end L2.VL
namespace L2
noncomputable def mV(K:W.Frag)(wi:TI)(fr:List (Option Nat))(g:CompA->TG)(tt:CompA->TT)(tk te:CompA->TE):TE:=fun σ H Q=>wi σ H fun J H1=>∀D,H1 D=none->∃Wv:Nat->Nat->List (List Int×Addr×EX)->St->Hp->Prop,(∃m,Wv 0 m [] (lY fr σ) (Co H1 D (.ext (VL.DAt D [])))) /\
 ∀ (z:CompA) i m acc σc H,Wv i m acc σc H->(J.stop i H/\Q (.ref D) H)\/(J.go i H/\∀x H',J.yld i H x H'->g z x σc H' fun σ2 H2=>tt z σ2 H2 fun b H3 =>
   if b=true then tk z σ2 H3 fun ky H4=>te z σ2 H4 fun y H5=>∃(k:List Int)(kb:Addr),ky = .ref kb/\H5 D=some (.ext (VL.DAt D acc))/\dG K H5 acc/\D0 K H5 kb (k.map V.int)/\acc.length<sizeLine/\∃m',m'<m/\∀u,RelV y u->Wv (i+1) m' (Jw acc k kb u) σ2 (Co H5 D (.ext (VL.DAt D (Jw acc k kb u))))else ∃m',m'<m/\Wv (i+1) m' acc σ2 H3)
theorem gA{kx vx:Expr}{g:TG}{tt:TT}{tk te:TE}{H3:Hp}{s3:EZ}{D:Addr}{J:It}{Q:VK}
 {cl:List (Str×Addr)}(N':List Str)(fr:List (Option Nat))(hu:X.A.units+64<IU)(hc:X.calm=true)(hkind:scope.kind = .function)(hcell:∀y∈scope.names,y.2 = .cell->scope.names.lookup y.1=some .cell)
 (hfree:∀y∈scope.names,y.2 = .free->X.env.kindOf y.1=some .cell\/X.env.kindOf y.1=some .free)(frl:fr.length=N'.length)
 (frg:∀(i j:Nat),fr[i]?=some (some j)->∃x,N'[i]?=some x/\X.N[j]?=some x/\scope.names.lookup x=some .free/\(X.env.scope.names.lookup x=some .cell\/X.env.scope.names.lookup x=some .free))
 (cl1:∀x c,cl.lookup x=some c->X.env.cells.lookup x=some c)(cl2:∀x,(x,Gg)∈scope.names->(cl.lookup x).isSome=true)
 (I3:Inv X pins σ H3 s3)(T:Turn X.prog X.w X.K tg J fp it tn)(tn3:tn 0 s3.heap)(fpD:∀b∈fp,H3 b=none)(fp3:∀b∈fp,b<s3.heap.objs.size)
 (fpk:∀b∈fp,b≠X.env.locals/\b∉X.fs/\(b∈X.ex\/X.s₀.heap.objs.size<=b)/\(∀x c,X.env.cells.lookup x=some c->c≠b)/\∀p∈X.pn++pins,p.1≠b)
 (hg:PG (aS X N' scope cl fp (X.pn++pins) s3 H3) tg g)(ht:Ea (aS X N' scope cl fp (X.pn++pins) s3 H3) ifs tt)(hk:PE (aS X N' scope cl fp (X.pn++pins) s3 H3) kx tk)(he:PE (aS X N' scope cl fp (X.pn++pins) s3 H3) vx te)
 {Wv:Nat->Nat->List (List Int×Addr×EX)->St->Hp->Prop}{m0:Nat}(w0:Wv 0 m0 [] (lY fr σ) H3)
 (turn:∀i m acc σc H,Wv i m acc σc H->(J.stop i H/\Q (.ref D) H)\/(J.go i H/\∀x H',J.yld i H x H'->g x σc H' fun σ2 H2=>tt σ2 H2 fun b H3 =>
  if b=true then tk σ2 H3 fun ky H4=>te σ2 H4 fun y H5=>∃(k:List Int)(kb:Addr),ky = .ref kb/\H5 D=some (.ext (VL.DAt D acc))/\dG X.K H5 acc/\D0 X.K H5 kb (k.map V.int)/\acc.length<sizeLine/\∃m',m'<m/\∀u,RelV y u->Wv (i+1) m' (Jw acc k kb u) σ2 (Co H5 D (.ext (VL.DAt D (Jw acc k kb u))))else ∃m',m'<m/\Wv (i+1) m' acc σ2 H3))
 (fin:∀s5 H4 m,s5.heap.Ns s3.heap.objs.size m->(∀h',G7 s3.heap.objs.size s5.heap h'->Inv X pins σ H4 {s5 with heap:=h' })->j6 X pins H4 s3.heap.objs.size->Q (.ref D) H4->Rp s3.heap.objs.size (.ok .next) s5) :
 Fm (FA X.prog X.w) X.A (Iy scope X.env.globals cl [] X.env.qual none .none (some X.env)) (fun cenv s₄ =>
  G_ (FA X.prog X.w) X.A (.compStart (.DictComp kx vx [⟨tg,iter,ifs,0⟩] scope pos) 0 (.ref it) (.ref D) {cenv with scope:=LX scope X.env})
   (Rp cenv.locals) s₄) X.xe s3:=by
 refine dg N' fr hc hkind hcell hfree frl frg cl1 cl2 I3 T tn3 fpD fp3 fpk (fun s' IY tY stat=>?_) fin
 have loop:G_ (FA X.prog X.w) X.A (.compLoop (.DictComp kx vx [⟨tg,iter,ifs,0⟩] scope pos) 0 (.ref it) (.ref D) (aS X N' scope cl fp (X.pn++pins) s3 H3).env)
  (fun r s5=>r = .ok .next/\∃σ5 H4,Inv (aS X N' scope cl fp (X.pn++pins) s3 H3) [] σ5 H4 s5/\Q (.ref D) H4) s':=by
  refine lT (fun n s'=>∃i acc σ' H',Inv (aS X N' scope cl fp (X.pn++pins) s3 H3) [] σ' H' s'/\tn i s'.heap/\(∀b∈fp,H' b=none)/\Wv i n acc σ' H') ?_ m0
   ⟨0,[],_,_,IY,tY,fpD,w0⟩
  rintro n s4 ⟨i,acc,σ4,H4,I4,st4,fr4,w4⟩;rcases turn i n acc σ4 H4 w4 with⟨stop,qn⟩|⟨go,step⟩
  · exact Cy (T.done (aS X N' scope cl fp (X.pn++pins) s3 H3) rfl rfl rfl hc i [] s4 σ4 H4 (fun _ _=>False) I4 (stat fr4) st4 stop) fun r s5 ⟨hr,I5⟩=>.inl ⟨hr,rfl,σ4,H4,I5,qn⟩
  · refine Cy (T.item (aS X N' scope cl fp (X.pn++pins) s3 H3) rfl rfl rfl hc i [] s4 σ4 H4 (fun _ _=>False) I4 (stat fr4) st4 go) fun r s5 ⟨u,hr,h5⟩=>.inr ⟨u,hr,?_⟩;refine Cy h5 fun _ s6 ⟨x,H6,I6,r6,y6,st6,fr6⟩=>?_;have I6':=I6.pinned (stat fr6) (T.obj _ _ st6)
    have again:∀{σ7:St}{H7:Hp}{s7:EZ},Inv (aS X N' scope cl fp (X.pn++pins) s3 H3) ([]++eZ fp s6.heap) σ7 H7 s7->∀{acc':List (List Int×Addr×EX)}{m':Nat},m'<n->Wv (i+1) m' acc' σ7 H7 ->
     ∃m,m<n/\∃i acc σ' H',Inv (aS X N' scope cl fp (X.pn++pins) s3 H3) [] σ' H' s7/\tn i s7.heap/\(∀b∈fp,H' b=none)/\Wv i m acc σ' H':=fun{σ7 H7 s7} I7 {acc' m'} hm w7=>by
     refine⟨m',hm,i+1,acc',σ7,H7,I7.unpinned,T.keep _ _ _ st6 fun b hb o e=>(I7.pin (b,o) (Fh _ (Fh _ (bw hb e)))).1,fun b hb=>?_,w7⟩;obtain⟨o,e,d⟩:=T.obj _ _ st6 b hb;exact(I7.pin (b,o) (Fh _ (Fh _ (bw hb e)))).2.1
    refine Cy (hg _ s6 σ4 H6 x u _ I6' r6 (step x H6 y6)) fun _ s7 ⟨σ7,H7,I7,q7⟩=>?_;refine Cy (ht _ s7 σ7 H7 _ I7 q7) fun ok s8 ⟨H8,I8,q8⟩=>?_
    cases ok with
    | false =>
      rw[if_neg Fz]at q8 ⊢;obtain⟨m',hm,w8⟩:=q8
      exact again I8 hm w8
    | true =>
      rw[if_pos rfl]at q8 ⊢;refine Cy (hk _ s8 σ7 H8 _ I8 q8) fun ku s9 ⟨ky,H9,I9,rk,q9⟩=>?_;refine Cy (he _ s9 σ7 H9 _ I9 q9) fun y s10 ⟨yv,H10,I10,r10,k,kb,ek,eD,ks,sq,hl,m',hm,w10⟩=>?_;subst ek;obtain rfl:ku=Ge kb:=rk;obtain⟨dd,hd,hz⟩:=oF I10 eD ks;have ru:(Hm (IZ (aS X N' scope cl fp (X.pn++pins) s3 H3).prog (aS X N' scope cl fp (X.pn++pins) s3 H3).w)).room (aS X N' scope cl fp (X.pn++pins) s3 H3).A:=(show X.A.units<IU by omega);refine wpAny_dictSet_heap (hsz:=hz) ru (ga I10 sq) dd fun h' dd' hs=>?_;have lz:=dE acc k kb y;have at':=rF dd' hd (by omega);exact again (dq (t':=s10.toks+_) I10 (by rw[eD];exact HD) hs (let ⟨o,_,_,e,_⟩:=at';⟨o,e⟩) (gY at')) hm (w10 y r10)
 exact codeAny_compStart_dict loop (T.self X.A 0 _ _ _ tY loop)
section
variable{X:Cx}{kx vx tg iter:Expr}{ifs:List Expr}{scope:Scope}{pos:Pos}{wi:TI}{g:CompA->TG}{tt:CompA->TT}{tk te:CompA->TE}
theorem nF(N':List Str)(fr:List (Option Nat))(hu:X.A.units+64<IU)(hc:X.calm=true)(hi:PI X tg iter wi)(hfr:lS fr N' X.N scope X.env.scope=true)(hsc:lW scope X.env.scope=true)
 (hg:∀y,PG (blk X N' scope y) tg (g y))(ht:∀y,Ea (blk X N' scope y) ifs (tt y))(hk:∀y,PE (blk X N' scope y) kx (tk y))(he:∀y,PE (blk X N' scope y) vx (te y))
 (hs:autoParam (∀x,FC iter X.env x=pure x) æd._auto_1):PE X (.DictComp kx vx [⟨tg,iter,ifs,0⟩] scope pos) (mV X.K wi fr g tt tk te):=by
 intro pins s σ H Q I h;obtain⟨sk,sn⟩:=E2.mp hsc;have hkind:scope.kind = .function:=of_decide_eq_true sk;have hall:=GU.mp sn
 have hcell:∀y∈scope.names,y.2 = .cell->scope.names.lookup y.1=some .cell:=fun y hy hl=>by
  rcases Fu.mp (E2.mp (E2.mp (hall y hy)).1).1 with z|z
  · exact absurd hl (of_decide_eq_true z)
  · exact of_decide_eq_true z
 have hnames:∀y∈scope.names,y.2 = .local->scope.names.lookup y.1=some .local:=fun y hy hl=>by
  rcases Fu.mp (E2.mp (E2.mp (hall y hy)).1).2 with z|z
  · exact absurd hl (of_decide_eq_true z)
  · exact of_decide_eq_true z
 have hfree:∀y∈scope.names,y.2 = .free->X.env.kindOf y.1=some .cell\/X.env.kindOf y.1=some .free:=fun y hy hl=>by
  rcases Fu.mp (E2.mp (hall y hy)).2 with z|z
  · exact absurd hl (of_decide_eq_true z)
  · exact(Fu.mp z).imp of_decide_eq_true of_decide_eq_true
 obtain⟨frl,frg⟩:=lS.get hfr;obtain⟨cl,hclos,cl1,cl2⟩:=cn (env:=X.env) (scope:=scope) fun y hy hl=>I.ok.has y.1 (hfree y hy hl);rw[arm_eval_DictComp];refine GN (use:=none) rfl hs hclos hkind hnames (Cy (hi pins s σ H _ I h) fun v s1 h1=>Cy h1 fun itv s2 h2=>?_);obtain⟨it,fp,tn,J,H2,e,I2,T,st2,f2,q2⟩:=h2;subst e;refine FB ?_;have hD:H2 s2.heap.objs.size=none:=I2.hok.fresh (E3 _)
 have I3:Inv X pins σ (Co H2 s2.heap.objs.size (.ext (VL.DAt s2.heap.objs.size []))) {s2 with heap:=s2.heap.push {cls:=.type "dict", data:=.dict #[]}} :=
  I2.laid (t':=s2.toks) (fun b u e=>EY _ e) (E3 _) (gY ⟨_,#[],0,Fa _ rfl,⟨rfl,rfl,rfl⟩,rfl,fun _ _=>rfl,KW,beq_eq_false_iff_ne.mpr (II (FK I2.big)),FE _⟩)
 obtain⟨Wv,⟨m0,w0⟩,turn⟩:=q2 _ hD;have tn3:tn 0 (s2.heap.push {cls:=.type "dict", data:=.dict #[]}):=T.keep _ _ _ st2 fun b _ o e=>EY _ e
 have fpD:∀b∈fp,(Co H2 s2.heap.objs.size (.ext (VL.DAt s2.heap.objs.size []))) b=none:=fun b hb=>by
  obtain⟨o,e,_⟩:=T.obj _ _ st2 b hb;rw[ak (FK (E8 e))];exact(f2 b hb).1
 have fp3:∀b∈fp,b<(s2.heap.push {cls:=.type "dict", data:=.dict #[]}).objs.size:=fun b hb=>by
  obtain⟨o,e,_⟩:=T.obj _ _ tn3 b hb;exact E8 e
 exact gA N' fr hu hc hkind hcell hfree frl frg cl1 cl2 I3 T tn3 fpD fp3 (fun b hb=>(f2 b hb).2) (hg ⟨cl,fp,X.pn++pins,_,_⟩) (ht ⟨cl,fp,X.pn++pins,_,_⟩) (hk ⟨cl,fp,X.pn++pins,_,_⟩) (he ⟨cl,fp,X.pn++pins,_,_⟩) w0 (turn ⟨cl,fp,X.pn++pins,_,_⟩)
  (Rp:=Ll (FA X.prog X.w) X.A X.xe none (EP X pins σ Q) (.ref s2.heap.objs.size)) fun s5 H4 m hn k _ qn=>⟨m,hn,fun h' hs'=>⟨.ref _,H4,k h' hs',rfl,qn⟩⟩
theorem i7{b:Bool}{ix:Nat}(N':List Str)(fr:List (Option Nat))(hu:X.A.units+64<IU)(hc:X.calm=true)(hi:PI X tg iter wi)(hfr:lS fr N' X.N scope X.env.scope=true)(hsc:lW scope X.env.scope=true)
 (hg:∀y,PG (blk X N' scope y) tg (g y))(ht:∀y,Ea (blk X N' scope y) ifs (tt y))(hk:∀y,PE (blk X N' scope y) kx (tk y))(he:∀y,PE (blk X N' scope y) vx (te y))(hN:X.N.Nodup)(hix:X.N[ix]?=some x)(hx:Loc X.env.scope x)
 (hf:X.fn x=true\/X.env.scope.names.lookup x=some .local)(hsw:GH (.DictComp kx vx [⟨tg,iter,ifs,0⟩] scope pos) (some (.Name x px)) spos.line X.env=pure b)
 (hs:∀x,FC iter X.env x=pure x):PS X (.Assign [.Name x px] (.DictComp kx vx [⟨tg,iter,ifs,0⟩] scope pos) spos) (vQ (mV X.K wi fr g tt tk te) (iB ix)):=by
 cases b with
 | false=>exact fS hN hix hx (nF N' fr hu hc hi hfr hsc hg ht hk he hs) hsw hf
 | true =>
 intro pins s σ H DD I h;obtain⟨sk,sn⟩:=E2.mp hsc;have hkind:scope.kind = .function:=of_decide_eq_true sk;have hall:=GU.mp sn
 have hcell:∀y∈scope.names,y.2 = .cell->scope.names.lookup y.1=some .cell:=fun y hy hl=>by
  rcases Fu.mp (E2.mp (E2.mp (hall y hy)).1).1 with z|z
  · exact absurd hl (of_decide_eq_true z)
  · exact of_decide_eq_true z
 have hnames:∀y∈scope.names,y.2 = .local->scope.names.lookup y.1=some .local:=fun y hy hl=>by
  rcases Fu.mp (E2.mp (E2.mp (hall y hy)).1).2 with z|z
  · exact absurd hl (of_decide_eq_true z)
  · exact of_decide_eq_true z
 have hfree:∀y∈scope.names,y.2 = .free->X.env.kindOf y.1=some .cell\/X.env.kindOf y.1=some .free:=fun y hy hl=>by
  rcases Fu.mp (E2.mp (hall y hy)).2 with z|z
  · exact absurd hl (of_decide_eq_true z)
  · exact(Fu.mp z).imp of_decide_eq_true of_decide_eq_true
 obtain⟨frl,frg⟩:=lS.get hfr;obtain⟨cl,hclos,cl1,cl2⟩:=cn (env:=X.env) (scope:=scope) fun y hy hl=>I.ok.has y.1 (hfree y hy hl);rw[IC _ _ _ _ hsw];refine EU (GJ (EU ?_));show Fm _ X.A (do let _ <- Lm (.DictComp kx vx [⟨tg,iter,ifs,0⟩] scope pos) scope X.env _ newDict false (eval iter X.env) (some (HF (.Name x px) X.env))) _ _ s
 refine EU (FH (GN (use:=some (HF (.Name x px) X.env)) (Q:=fun _ s'=>SP X pins DD .next s') rfl hs hclos hkind hnames
  (Cy (hi pins s σ H _ I h) fun v s1 h1=>Cy h1 fun itv s2 h2=>?_)) (fun _ s' hq=>EW (EW hq)) fun _ _ e=>e)
 obtain⟨it,fp,tn,J,H2,e,I2,T,st2,f2,q2⟩:=h2;subst e;refine FB ?_;have hD:H2 s2.heap.objs.size=none:=I2.hok.fresh (E3 _)
 have I3:Inv X pins σ (Co H2 s2.heap.objs.size (.ext (VL.DAt s2.heap.objs.size []))) {s2 with heap:=s2.heap.push {cls:=.type "dict", data:=.dict #[]}} :=
  I2.laid (t':=s2.toks) (fun b u e=>EY _ e) (E3 _) (gY ⟨_,#[],0,Fa _ rfl,⟨rfl,rfl,rfl⟩,rfl,fun _ _=>rfl,KW,beq_eq_false_iff_ne.mpr (II (FK I2.big)),FE _⟩)
 obtain⟨Wv,⟨m0,w0⟩,turn⟩:=q2 _ hD;have tn3:tn 0 (s2.heap.push {cls:=.type "dict", data:=.dict #[]}):=T.keep _ _ _ st2 fun b _ o e=>EY _ e
 have fpD:∀b∈fp,(Co H2 s2.heap.objs.size (.ext (VL.DAt s2.heap.objs.size []))) b=none:=fun b hb=>by
  obtain⟨o,e,_⟩:=T.obj _ _ st2 b hb;rw[ak (FK (E8 e))];exact(f2 b hb).1
 have fp3:∀b∈fp,b<(s2.heap.push {cls:=.type "dict", data:=.dict #[]}).objs.size:=fun b hb=>by
  obtain⟨o,e,_⟩:=T.obj _ _ tn3 b hb;exact E8 e
 refine gA (Q:=fun v H1=>iB ix v σ H1 DD.nx) N' fr hu hc hkind hcell hfree frl frg cl1 cl2 I3 T tn3 fpD fp3 (fun b hb=>(f2 b hb).2) (hg ⟨cl,fp,X.pn++pins,_,_⟩) (ht ⟨cl,fp,X.pn++pins,_,_⟩) (hk ⟨cl,fp,X.pn++pins,_,_⟩) (he ⟨cl,fp,X.pn++pins,_,_⟩) w0 (turn ⟨cl,fp,X.pn++pins,_,_⟩)
  (Rp:=Ll (FA X.prog X.w) X.A X.xe (some (HF (.Name x px) X.env)) (fun _ s'=>SP X pins DD .next s') (.ref s2.heap.objs.size)) fun s5 H4 m hn k fpo qn=>?_
 show Fm _ X.A (HF (.Name x px) X.env (.ref s2.heap.objs.size)) _ _ s5;have I5:Inv X pins σ H4 s5:=k s5.heap (Ht _ _);obtain⟨f0,f1,f2',f3,f4,f5⟩:=fpo;refine Is (dW I5 hN hix hx (v:=.ref s2.heap.objs.size) rfl (fun s6 I6 sb=>?_) hf);obtain⟨a,sb,ha⟩:=sb
 have hne:(s2.heap.push {cls:=.type "dict", data:=.dict #[]}).objs.size≠a:=by
  rcases ha with rfl|ha
  · exact f1
  · exact fun z=>f4 x a ha z.symm
 refine⟨m,hn.at' fun o e=>sb.extBut _ o hne e,fun h' hs'=>?_⟩;exact⟨_,H4,I6.turned (t':=s6.toks) (fun b o hb e=>hs'.extBut b o hb e) f0 f1 f3 f4 f5,qn⟩
end
end L2
namespace L2.VL
theorem pN(kvs:List (List Int×ET))(k:List Int)(x:ET):(gF kvs k x).length<=kvs.length+1:=by
 unfold gF;split<;>simp
noncomputable def qQ(ρ0:En)(g:DY)(ft:TB)(fk fe:TV):List ET->List (List Int×ET)->(List (List Int×ET)->Prop)->Prop
 | [],acc,Q=>Q acc
 | x::xs,acc,Q=>g x ρ0 fun ρ2=>Le ρ0 ρ2/\ft ρ2 fun b=>if b=true then fk ρ2 fun wk=>∃k,gG wk=some k/\fe ρ2 fun w=>∃d,w.fz = .d d/\acc.length<sizeLine/\qQ ρ0 g ft fk fe xs (gF acc k d) Q else qQ ρ0 g ft fk fe xs acc Q
noncomputable def jx(fi:En->(List ET->Prop)->Prop)(fr:List (Option Nat))(g:DY)(ft:TB)(fk fe:TV):TV:=fun ρ Q=>fi ρ fun xs=>qQ (dP fr ρ) g ft fk fe xs [] fun kvs=>Q (.xm kvs)
noncomputable def lX(ρ0:En)(g:DY)(ft:TB)(fk fe:TV)(x:ET):Mo (Option (List Int×ET)):=DK (g x ρ0) fun ρ2=>Dy (Le ρ0 ρ2) (DK (ft ρ2) fun b=>if b=true then DK (fk ρ2) fun wk=>aC (gG wk) fun k=>DK (fe ρ2) fun w=>aC (asD w.fz) fun d=>ret (some (k,d))else ret none)
noncomputable def cR(b:ET->Mo (Option (List Int×ET))):List ET->List (List Int×ET)->Mo (List (List Int×ET))
 | [],acc=>ret acc
 | x::xs,acc=>DK (b x) fun o=>match o with
   | some d=>Dy (acc.length<sizeLine) (cR b xs (gF acc d.1 d.2))
   | none=>cR b xs acc
theorem k_(ρ0:En)(g:DY)(ft:TB)(fk fe:TV):∀(xs:List ET)(acc:List (List Int×ET)),qQ ρ0 g ft fk fe xs acc=cR (lX ρ0 g ft fk fe) xs acc
 | [],acc=>rfl
 | x::xs,acc=>by
   refine ag fun Q=>?_;show(g x ρ0 fun ρ2=>Le ρ0 ρ2/\ft ρ2 fun b=>if b=true then fk ρ2 fun wk=>∃k,gG wk=some k/\fe ρ2 fun w=>∃d,w.fz = .d d/\acc.length<sizeLine/\qQ ρ0 g ft fk fe xs (gF acc k d) Q else qQ ρ0 g ft fk fe xs acc Q)↔(DK (lX ρ0 g ft fk fe x) _) Q;simp only[k_ ρ0 g ft fk fe xs]
   have:∀(ρ2:En)(b:Bool),(if b=true then fk ρ2 fun wk=>∃k,gG wk=some k/\fe ρ2 fun w=>∃d,w.fz = .d d/\acc.length<sizeLine/\cR (lX ρ0 g ft fk fe) xs (gF acc k d) Q else cR (lX ρ0 g ft fk fe) xs acc Q)=(DK (if b=true then DK (fk ρ2) fun wk=>aC (gG wk) fun k=>DK (fe ρ2) fun w=>aC (asD w.fz) fun d=>ret (some (k,d))else ret none) fun o=>match o with
   | some d=>Dy (acc.length<sizeLine) (cR (lX ρ0 g ft fk fe) xs (gF acc d.1 d.2))
   | none=>cR (lX ρ0 g ft fk fe) xs acc) Q:=by
     intro ρ2 b
     cases b with
     | false=>rfl
     | true =>
       rw[if_pos rfl,if_pos rfl];show _=fk ρ2 fun wk=>_;congr 1;funext wk;refine propext ?_;show _↔(DK (aC (gG wk) fun k=>DK (fe ρ2) fun w=>aC (asD w.fz) fun d=>ret (some (k,d))) _) Q;rw[bnd_opt,ai]
       have e2:∀(k:List Int),(fe ρ2 fun w=>∃d,w.fz = .d d/\acc.length<sizeLine/\cR (lX ρ0 g ft fk fe) xs (gF acc k d) Q)=(DK (DK (fe ρ2) fun w=>aC (asD w.fz) fun d=>ret (some (k,d))) fun o=>match o with
        | some d=>Dy (acc.length<sizeLine) (cR (lX ρ0 g ft fk fe) xs (gF acc d.1 d.2))
        | none=>cR (lX ρ0 g ft fk fe) xs acc) Q:=fun k=>by
        show _=fe ρ2 fun w=>_;congr 1;funext w;refine propext ?_;show _↔(DK (aC (asD w.fz) fun d=>ret (some (k,d))) _) Q;rw[bnd_opt,ai];simp only[ff];exact Ip
       simp only[e2]
   simp only[this];exact Ip
section
variable{α:Type}{b:ET->Mo (Option (List Int×ET))}
theorem jk{enc:α->ET}(f:α->List Int×ET):∀(xs:List α)(acc:List (List Int×ET)),(∀x∈xs,b (enc x)=ret (some (f x)))->acc.length+xs.length<=sizeLine->cR b (xs.map enc) acc=ret ((xs.map f).foldl (fun a p=>gF a p.1 p.2) acc)
 | [],acc,_,_=>rfl
 | x::xs,acc,h,hl=>by
   show DK (b (enc x)) _=_;rw[h x E7,bnd_ret];show Dy (acc.length<sizeLine) (cR b (xs.map enc) (gF acc (f x).1 (f x).2))=_;simp only[Gq]at hl;have:=pN acc (f x).1 (f x).2;rw[aj (by omega),jk f xs _ (fun y hy=>h y (E9 _ hy)) (by omega)];rfl
theorem l_{β:Type}{Q:β->Prop}{k:List (List Int×ET)->Mo β}{xs:List α}{enc:α->ET}(f:α->List Int×ET)(hx:xs'=xs.map enc)(h:∀x∈xs,b (enc x)=ret (some (f x)))(hl:xs.length<=sizeLine)
 (fin:k ((xs.map f).foldl (fun a p=>gF a p.1 p.2) []) Q):DK (cR b xs' []) k Q:=by
 subst hx;rw[jk f xs [] h (by simpa using hl)];exact fin
end
section
variable{X:Cx}{rl:RlT}{kx vx tg iter:Expr}{ifs:List Expr}{scope:Scope}{pos:Pos}{fi:En->(List ET->Prop)->Prop}{g:DY}{ft:TB}{fk fe:TV}
theorem qB{wi:TI}(fr:List (Option Nat))(hu:X.A.units+64<IU)(k0:∀{F₀ H₀ F H:Hp}{σ:St}{ρ:En},VR X.K rl F₀ H₀ F H σ ρ->∀(Qd:List ET->Prop)(R:It->Hp->Prop),fi ρ Qd ->
 (∀J xs F' H',Grow rl F H F' H'->VIt X.K rl F' J xs->Qd xs->R J H')->wi σ H R)
 (hg:∀y,Ei (blk X N' scope y) rl tg g)(ht:∀y,o8 (blk X N' scope y) rl ifs ft)(hk:∀y,PV (blk X N' scope y) rl kx fk)(he:∀y,PV (blk X N' scope y) rl vx fe)
 (R:VR X.K rl F₀ H₀ F H σ ρ)(Qd:W->Prop)(Q:VK)(q:jx fi fr g ft fk fe ρ Qd)
 (k:∀v w F' H',Grow rl F H F' H'->c7 X.K rl F' H' v w->dB H v w->Qd w->Q v H'):mV X.K wi fr (fun y=>Ft (hg y)) (fun y=>Ft (ht y)) (fun y=>Ft (hk y)) (fun y=>Ft (he y)) σ H Q:=by
 refine k0 R _ _ q fun J xs F1 H1 g1 vi q1=>?_;intro D hD;have rD:rl.a≠some D:=fun e=>by obtain⟨o,z⟩:=g1.reel.live e;rw[hD]at z;cases z
 have FD:F1 D=none:=g1.sub.free hD;have gD:Grow rl F1 H1 F1 (Co H1 D (.ext (DAt D []))):=Grow.laid g1.sub g1.reel hD;have R1:=R.grow g1;have n0:lV (dP fr ρ):=du
 refine⟨fun i m acc σc Hc=>m=xs.length-i/\i<=xs.length/\∃Fc ds,VR X.K rl F1 H1 Fc Hc σc (dP fr ρ)/\Hc D=some (.ext (DAt D acc))/\Fc D=none/\KX X.K Fc acc ds/\qQ (dP fr ρ) g ft fk fe (xs.drop i) ds (fun ds=>Qd (.xm ds)),
  ⟨xs.length,by simp,FE _,F1,[],fg R1 gD,ar,FD,.nil,by simpa using q1⟩,?_⟩
 rintro z i m acc σc Hc ⟨rfl,hi,Fc,ds,Rc,hDc,fDc,rs,q2⟩;have sH:bJ F1 Hc:=Rc.g.fs.trans Rc.sub;by_cases hlt:i<xs.length
 · have ei:xs[i]?=some xs[i]:=by simp[hlt]
   have ed:xs.drop i=xs[i]::xs.drop (i+1):=FS hlt;rw[ed]at q2;refine .inr ⟨vi.go i Hc _ ei sH,fun v H' y=>?_⟩;obtain⟨Fy,gy,rv⟩:=vi.yld i Hc v H' _ Fc ei Rc.g.fs Rc.sub Rc.reel y;refine(EV (hg z)).2 (Rc.grow gy) v _ _ _ rv q2 fun F3 H3 σ3 ρ3 g3 n3 R3 ⟨le3,q3⟩=>?_;refine(EV (ht z)).2 R3 _ _ q3 fun b F4 H4 g4 q4=>?_;have R4:=R3.grow g4;have g34:=(gy.trans g3).trans g4;have keepD:∀{Fx Hx:Hp},Grow rl Fc Hc Fx Hx->Hx D=some (.ext (DAt D acc))/\Fx D=none:=fun gx=>⟨gx.same D _ hDc rD,by rw[gx.old D _ hDc];exact fDc⟩
   cases b with
   | false=>exact⟨xs.length-(i+1),by omega,rfl,hlt,F4,ds,R4.le le3,(keepD g34).1,(keepD g34).2,rs.mono g34.fs,q4⟩
   | true =>
     refine(EV (hk z)).2 R4 _ _ q4 fun vk wk Fk Hk gk rk nk ⟨kk,ekk,qk⟩=>?_;obtain⟨kb,rfl,sqk⟩:=rk.keyF ekk;have R5:=R4.grow gk;refine(EV (he z)).2 R5 _ _ qk fun v5 w5 F5 H5 g5 r5 n5 ⟨d,ed5,hl,q5⟩=>?_;obtain⟨F6,g6,s6,r6⟩:=c7.fz g5 r5 n5;rw[ed5]at r6;have g36:=(g34.trans gk).trans g6;have lds:acc.length=ds.length:=GI rs;have rs6:=rs.mono g36.fs;have sq6:=cA g6.fs sqk;refine⟨kk,kb,rfl,(keepD g36).1,fun x m=>cA g6.sub (rs6.keys x m),cA g6.sub sq6,by rw[lds];exact hl,xs.length-(i+1),by omega,fun u ru=>⟨rfl,hlt,F6,gF ds kk d,((R5.grow g6).le le3).other n0 hD (keepD g36).2 rD,ar,(keepD g36).2,rs6.put kk sq6 ru r6,q5⟩⟩
 · have e:i=xs.length:=by omega
   subst e;rw[G3]at q2;refine .inl ⟨vi.stop _ Hc (E3 _) sH,k _ (.xm ds) Fc Hc (g1.trans Rc.g) ⟨D,acc,rfl,fDc,rD,hDc,rs⟩ (fun a ea=>by cases ea;exact g1.freeB hD) q2⟩
theorem eS(i:Nat){b:Bool}(hN:X.N.Nodup)(N':List Str)(fr:List (Option Nat))(hu:X.A.units+64<IU)(hc:X.calm=true)(hi:Ef X rl tg iter fi)
 (hg:∀y,Ei (blk X N' scope y) rl tg g)(ht:∀y,o8 (blk X N' scope y) rl ifs ft)(hk:∀y,PV (blk X N' scope y) rl kx fk)(he:∀y,PV (blk X N' scope y) rl vx fe)
 (hsw:autoParam (GH (.DictComp kx vx [⟨tg,iter,ifs,0⟩] scope pos) (some (.Name x px)) spos.line X.env=pure b) æa._auto_1)
 (hix:autoParam (X.N[i]?=some x) æa._auto_1)(hx:autoParam (Loc X.env.scope x) æe._auto_1)(hf:autoParam (X.fn x=true\/X.env.scope.names.lookup x=some .local) æf._auto_1)
 (hfr:autoParam (lS fr N' X.N scope X.env.scope=true) æa._auto_1)(hsc:autoParam (lW scope X.env.scope=true) æa._auto_1)
 (hs:autoParam (∀x,FC iter X.env x=pure x) æd._auto_1):Ec X rl (.Assign [.Name x px] (.DictComp kx vx [⟨tg,iter,ifs,0⟩] scope pos) spos) (yn i (jx fi fr g ft fk fe)):=by
 obtain⟨wi,p0,k0⟩:=hi;refine⟨_,i7 N' fr hu hc p0 hfr hsc (fun y=>(EV (hg y)).1) (fun y=>(EV (ht y)).1) (fun y=>(EV (hk y)).1) (fun y=>(EV (he y)).1) hN hix hx hf hsw hs,fun R Dv D ok q=>qB fr hu k0 hg ht hk he R _ _ q fun v w F1 H1 g1 r1 n1 ⟨hp,q1⟩=>?_⟩;exact ok.nx _ _ _ _ g1.fs (R.set g1 r1 n1 (fun xs z=>by subst z;cases hp) i) q1
end
theorem cu(fi:En->(List ET->Prop)->Prop)(fr:List (Option Nat))(g:DY)(ft:TB)(fk fe:TV)(ρ:En):jx fi fr g ft fk fe ρ=DK (fi ρ) fun xs=>DK (cR (lX (dP fr ρ) g ft fk fe) xs []) fun kvs=>ret (.xm kvs):=by
 refine ag fun Q=>?_;show(fi ρ fun xs=>qQ (dP fr ρ) g ft fk fe xs [] fun ds=>Q (.xm ds))↔_;simp only[k_];exact Ip
end L2.VL
namespace L2
section
variable{P:Fo}{w:Gc}{A:Gh}{E:EX->EZ->Prop}{s:EZ}
end
noncomputable def Ey(a:Addr)(u:List (List Int×Addr×EX)×Obj):It :=
 ⟨fun i H=>i<u.1.length/\H a=some (.ext (VL.DAtO a u)),fun i H x H'=>H'=H/\∃p,u.1[i]?=some p/\x = .ref p.2.1,fun i H=>u.1.length<=i/\H a=some (.ext (VL.DAtO a u))⟩
theorem iG{P:Fo}{w:Gc}{es:Array IA}{ep:Nat}(p:VL.DAtO a u h)(hep:u.2.data = .dict es ep):xR h a es ep/\es.size=u.1.length/\(∀i:Nat,(es[i]?).map (·.key)=(u.1[i]?).map fun u=>Ge u.2.1)/\(a==G1)=false:=by
 obtain⟨⟨o,es',ep',h1,h2,h3,h4,h5,h6,h7⟩,g⟩:=p;rw[g]at h1;cases h1;rw[hep]at h3;cases h3;have e:=h4 P w;refine⟨⟨_,g,h2,hep⟩,by rw[<- Hv,e,E1],fun i=>?_,h6⟩;rw[<- Array.getElem?_toList,e,Gr,Option.map_map];rfl
theorem lB{K:W.Frag}(a it:Addr){es:Array IA}{ep:Nat}(hep:u.2.data = .dict es ep) :
 Turn P w K tg (Ey a u) [it] it (fun i h=>h.IsKeyIter it a i u.1.length ep) where
 mem:=by simp
 obj:=fun i h st b hb=>by
  have e:b=it:=by simpa using hb
  subst e;obtain⟨o,e,c,d⟩:=st;exact⟨o,e,fun v z=>by rw[d]at z;cases z⟩
 keep:=fun i h h' st k=>by
  obtain⟨o,e,r⟩:=st;exact⟨o,k it (by simp) o e,r⟩
 item:=by
  intro X hP hw hK hc i pins s σ H E I hf st hg;subst hP hw hK;obtain⟨hi,ha⟩:=hg;obtain⟨dd,hs,hk,lo⟩:=iG (P:=X.prog) (w:=X.w) (eO I ha) hep;have eu:u.1[i]?=some u.1[i]:=by simp[hi]
  obtain⟨f0,f1,f2,f3,f4,f5⟩:=hf it (by simp);have ex:(es[i]?).map (·.key)=some (Ge (u.1[i]).2.1):=by rw[hk,eu];rfl
  rw[<- hs]at st;refine ng st dd ex fun h' st' sb=>?_;have I1:Inv X pins σ H {s with heap:=h' }:=I.turned (t':=s.toks) (fun b o hb e=>(sb.2 b hb).trans e) f0 f1 f3 f4 f5;obtain⟨oi,e,c,d⟩:=id st';rw[hs]at st';exact⟨_,rfl,qo (s:={s with heap:=h' }) e c d (by decide) ⟨V.ref (u.1[i]).2.1,H,I1,rfl,⟨rfl,_,eu,rfl⟩,st',fun b hb=>(hf b hb).1⟩⟩
 done:=by
  intro X hP hw hK hc i pins s σ H E I hf st hg;subst hP hw hK;obtain⟨hi,ha⟩:=hg;obtain⟨dd,hs,hk,lo⟩:=iG (P:=X.prog) (w:=X.w) (eO I ha) hep;obtain⟨f0,f1,f2,f3,f4,f5⟩:=hf it (by simp);rw[<- hs]at st;refine pL (I.ok.hd hc) st dd (by omega) fun h' sb=>⟨rfl,?_⟩;exact I.turned (t':=s.toks) (fun b o hb e=>sb b o hb e) f0 f1 f3 f4 f5
 self:=fun A i s Q E st h=>by
  refine wpAny_pyIter_slot st.typeIs F.slot_dict_keyiterator_iter (GD F.slot_dict_keyiterator_iter st.typeIs F.entry_dict_keyiterator_iter ?_ (F.args_dict_keyiterator_iter_1 _));show Fm _ _ (ret (.ref it)) _ _ s;exact EW ⟨_,rfl, "dict_keyiterator", _,st.typeIs,F.slot_dict_keyiterator_next.lookup,h⟩
section
variable{X:Cx}{e:Expr}{tg:Expr}{te:TE}
noncomputable def ut(t:TE):TI:=fun σ H R=>t σ H fun v H1=>∃a u,v = .ref a/\H1 a=some (.ext (VL.DAtO a u))/\R (Ey a u) H1
theorem kG(he:PE X e te):PI X tg e (ut te):=by
 intro pins s σ H R I h;refine Cy (he pins s σ H _ I h) fun v s1 ⟨x,H1,I1,r1,q1⟩=>?_;obtain⟨a,u,ev,ha,q⟩:=q1;subst ev;cases r1;have pr:=eO I1 ha;obtain⟨⟨o,es,ep,h1,h2,h3,_⟩,g⟩:=id pr;rw[g]at h1;cases h1;obtain⟨dd,hs,hk,lo⟩:=iG (P:=X.prog) (w:=X.w) pr h3;refine nc lo dd ?_;refine⟨s1.heap.objs.size,[s1.heap.objs.size],_,_,H1,rfl,I1.kept (t':=s1.toks) fun b o e=>EY _ e,lB a _ h3,⟨_,Fa _ rfl,rfl,by rw[hs];rfl⟩,fun b hb=>?_,q⟩;have e:b=s1.heap.objs.size:=by simpa using hb
 subst e;exact I1.fpOk (E3 _) (I1.hok.fresh (E3 _))
end
end L2
namespace L2.VL
section
variable{X:Cx}{rl:RlT}{a e:Expr}{es:List Expr}{fa:TV}{fs:DU}{pos p:Pos}{ρ:En}
noncomputable def n6(fa:TV):En->(List ET->Prop)->Prop:=fun ρ Q=>fa ρ fun w=>∃kvs,w = .xr kvs/\Q (kvs.map fun p=>kI p.1)
theorem rj{K:W.Frag}{us:List (List Int×Addr×EX)}(r:KX K F us kvs){x:ET}(h:(kvs.map fun p=>kI p.1)[i]?=some x):∃p,us[i]?=some p/\Rep K F (.ref p.2.1) x:=by
 induction r generalizing i with
 | nil=>simp at h
 | @cons p q ps qs hh t ih =>
   cases i with
   | zero=>simp at h;subst h;exact⟨p,rfl,.tup hh.2.1 (hh.1▸kY)⟩
   | succ j=>obtain⟨p',e1,e2⟩:=ih (i:=j) (by simpa using h);exact⟨p',by simpa using e1,e2⟩
theorem kf(ha:PV X rl a fa):Ef X rl tg a (n6 fa):=by
 obtain⟨t,p1,k⟩:=ha;refine⟨_,kG p1,fun R Qd Q q h=>k R _ _ q fun v w F1 H1 g1 r1 n1 ⟨kvs,ew,q1⟩=>?_⟩;subst ew;obtain⟨x,us,rfl,hx,rk⟩:=r1;have hl:us.1.length=kvs.length:=GI rk;refine⟨x,us,rfl,g1.sub _ _ hx,h _ (kvs.map fun p=>kI p.1) F1 H1 g1 (VIt.of (fun i H y e s=>⟨?_,s _ _ hx⟩) (fun i H hl' s=>⟨by rw[E1]at hl';omega,s _ _ hx⟩) fun i H v H' y e s z=>?_) q1⟩
 · have:=(Ff.mp e).1;rw[E1]at this;omega
 · obtain⟨e1,pp,e2,e3⟩:=z;obtain⟨p',e4,e5⟩:=rj rk e;rw[e2]at e4;cases e4;subst e3;exact⟨e1,e5⟩
theorem cr:n6 fa ρ=DK (fa ρ) fun w=>aC (ln w) fun kvs=>ret (kvs.map fun p=>kI p.1):=by
 refine ag fun Q=>?_;simp only[n6,DK,ai,o6,ret]
end
end L2.VL
namespace L2
end L2
namespace L2.VL
section
variable{X:Cx}{rl:RlT}{a e:Expr}{es:List Expr}{fa:TV}{fs:DU}{pos p:Pos}{ρ:En}
end
end L2.VL
namespace L2
noncomputable def v8(i:Nat)(T:TS):TS:=fun D σ H=>T {D with nx:=fun σ' H'=>∃a us,σ'[i]?=some (some (.ref a))/\H' a=some (.ext (VL.DAt a us))/\∀o,D.nx σ' (Co H' a (.ext (VL.DAtO a (us,o))))} σ H
theorem pQ{st:Stmt}{T:TS}(i:Nat)(h:PS X st T):PS X st (v8 i T):=fun pins s σ H D I q=>Cy (h pins s σ H _ I q) fun f s' z=>by
 cases f with
 | next =>
   obtain⟨σ',H',I',a,us,e1,e2,k⟩:=z;obtain⟨p,⟨o,ho⟩,_⟩:=(show cD X.prog X.w H' s'.heap a (.ext (VL.DAt a us))from I'.hok a _ e2)
   exact⟨σ',_,dq (t':=s'.toks) I' (by rw[e2];exact HD) (Ht _ _) ⟨o,ho⟩ (oD ⟨p,ho⟩),k o⟩
 | brk=>exact z
 | cont=>exact z
 | ret u=>exact z
end L2
namespace L2.VL
section
variable{X:Cx}{rl:RlT}{st:Stmt}{t:DV}{e:Expr}{es:List Expr}{fs:DU}{pos p px apos cpos:Pos}{ρ:En}
theorem kd(i:Nat)(h:Ec X rl st t):Ec X rl st (vh t (xV i)):=by
 obtain⟨T,p,k⟩:=h;refine⟨_,pQ i p,fun{F₀ H₀ F H σ ρ} R Dv D ok q=>k R {Dv with nx:=xV i Dv} _ ⟨fun F' H' σ' ρ' s' R' z=>?_,ok.rt,ok.bk,ok.ct⟩ q⟩;obtain⟨kvs,e,q'⟩:=z;obtain⟨v,h1,h2,h3⟩:=R'.sl i _ e;obtain⟨a,us,rfl,f,hr,hh,rs⟩:=(show ls X.K rl F' H' v kvs from h2);refine⟨a,us,h1,hh,fun o=>?_⟩;obtain⟨fsm,R2⟩:=R'.frzX (ob:=o) e h1 hh rs;exact ok.nx _ _ _ _ (s'.trans fsm) R2 q'
theorem dC(i:Nat):mS (xV i) ρ=aC (CQ ρ i) fun kvs=>ret (.nx (ρ.set i (some (.xr kvs)))):=by
 refine ag fun Q=>?_;simp only[mS,xV,ai,iV,ret]
noncomputable def sO(K:W.Frag)(td ty tz:TE):TE:=fun σ H Q=>td σ H fun x H1=>∃a u,x = .ref a/\H1 a=some (.ext (DAtO a u))/\dG K H1 u.1/\ty σ H1 fun y H2=>tz σ H2 fun z H3=>∃b k v,H3 a=some (.ext (DAtO a u))/\dG K H3 u.1/\y = .ref b/\D0 K H3 b (k.map V.int)/\(Kc u.1 k=none->v=z)/\(∀p,Kc u.1 k=some p->RelV v p.2)/\Q v H3
theorem nD{o e f:Expr}{td ty tz:TE}(hu:X.A.units+1<IU)(ho:PE X o td)(he:PE X e ty)(hf:PE X f tz)(m:M2 X o "get" apos e f cpos):PE X (.Call (.Attribute o "get" apos) [e,f] [] cpos) (sO X.K td ty tz):=by
 intro pins s σ H Q I h;refine wpAny_Call_method m.base m.few m.line PySem.F.plainAttrs_dict Kz PySem.F.type_dict_get (Cy (ho pins s σ H _ I h) fun u s1 ⟨x,H1,I1,rx,a,xs,ex,ea,ks,q1⟩=>?_);subst ex;obtain rfl:u=Ge a:=rx;have dd:=oE I1 ea ks;refine⟨dd.typeIs,fun b q=>(by cases q;obtain⟨ob,_,_,h1,h2,_⟩:=dd;exact⟨ob,h1,h2.2.1⟩),?_⟩;rw[m.trees]
 refine Kb rfl (KN (Ie (Cy (he pins s1 σ H1 _ I1 q1) fun iv s2 ⟨y,H2,I2,ry,q2⟩ =>
  Ie (Cy (hf pins s2 σ H2 _ I2 q2) fun fv s3 ⟨z,H3,I3,rz,b,k,v,ea3,ks3,ey,sq,n1,n2,q3⟩=>JF ?_))))
 subst ey;cases(show iv=Ge b from ry);have dd3:=oE I3 ea3 ks3;have hd3:(a==G1)=false:=by obtain⟨⟨o,es,ep,h1,h2,h3,h4,h5,h6,h7⟩,_⟩:=eO I3 ea3;exact h6
 refine call_meetsIn Kz dd3.typeIs PySem.F.entry_dict_get (PySem.F.args_dict_get_3 _ _ _) (meetsH_dict_get_default (Hm (IZ X.prog X.w)) a b hd3 fv) ⟨Hg hu,k,xs.1,ga I3 sq,dd3,⟨v,H3,I3.tok _,?_,q3⟩⟩
 cases hk:Kc xs.1 k with
 | none=>rw[n1 hk];exact rz
 | some p=>exact n2 p hk
noncomputable def jw(i:Nat)(fk fx:TV):TV:=fun ρ Q=>∃kvs,ρ[i]?=some (some (.xr kvs))/\fk ρ fun wk=>fx ρ fun wx=>∃(g:List Int)(x:ET),gG wk=some g/\wx = .d x/\Q (.d ((iI kvs g).getD x))
theorem po(i:Nat){f:Expr}{fk fx:TV}(hu:X.A.units+64<IU)(hk:PV X rl e fk)(hx:PV X rl f fx)(hN:autoParam (X.N[i]?=some x) æa._auto_1)(hv:autoParam (DR X.env.scope x) æc._auto_1)
 (hd:autoParam ((x==("__debug__" : Str))=false) æb._auto_1)(hcd:autoParam ((x==("__classdict__" : Str))=false) æb._auto_1)(m:M2 X (.Name x px) "get" apos e f cpos:=by exact⟨rfl,rfl,rfl,rfl⟩) :
 PV X rl (.Call (.Attribute (.Name x px) "get" apos) [e,f] [] cpos) (jw i fk fx):=by
 obtain⟨t,p1,k1⟩:=hk;obtain⟨t2,p2,k2⟩:=hx;refine⟨_,nD (by omega) (cH hN hv hd hcd) p1 p2 m,fun{F₀ H₀ F H σ ρ} R Qd Q ⟨kvs,e1,q⟩ h=>?_⟩;obtain⟨v,h1,h2,h3⟩:=R.sl i _ e1;obtain⟨a,xs,rfl,hh,rs⟩:=(show ∃a us,v = .ref a/\F a=some (.ext (DAtO a us))/\KX X.K F us.1 kvs from h2);refine⟨.ref a,h1,a,xs,rfl,R.sub _ _ hh,fun x m=>cA R.sub (rs.keys x m),k1 R _ _ q fun v1 w1 F1 H1 g1 r1 n1 q1=>?_⟩;refine k2 (R.grow g1) _ _ q1 fun v2 w2 F2 H2 g2 r2 n2 q2=>?_;obtain⟨gs,d,e2,rfl,q2⟩:=q2;obtain⟨b,rfl,sq⟩:=(c7.grow g2 r1).keyI g2.sub e2;have g:=g1.trans g2;have rs2:=rs.mono g.fs;have e3:=g.sub _ _ (g.fs _ _ hh);rcases rs2.at gs with⟨z1,z2⟩|⟨p,v3,d3,z1,z2,z3,z4⟩
 · rw[z2]at q2;exact⟨b,gs,v2,e3,fun x m=>cA g2.sub (rs2.keys x m),rfl,sq,fun _=>rfl,(fun p e=>by rw[z1]at e;cases e),h _ (.d d) _ _ g r2 trivial q2⟩
 · rw[z2]at q2;exact⟨b,gs,v3,e3,fun x m=>cA g2.sub (rs2.keys x m),rfl,sq,(fun e=>by rw[z1]at e;cases e),(fun p' e=>by rw[z1]at e;cases e;exact z3),h _ (.d d3) _ _ g z4 trivial q2⟩
theorem bL(i:Nat){fk fx:TV}:jw i fk fx ρ=aC (kE ρ i) fun kvs=>DK (fk ρ) fun wk=>DK (fx ρ) fun wx=>aC (gG wk) fun g=>aC (asD wx) fun x=>ret (.d ((iI kvs g).getD x)):=by
 refine ag fun Q=>?_;simp only[jw,ai,mZ,DK,ret,ff];refine exists_congr fun kvs=>and_congr_right fun _=>?_;constructor
 · intro h;refine cast ?_ h;congr 1;funext x;congr 1;funext y;exact propext ⟨fun⟨a,b,c,d,e⟩=>⟨a,c,b,d,e⟩,fun⟨a,c,b,d,e⟩=>⟨a,b,c,d,e⟩⟩
 · intro h;refine cast ?_ h;congr 1;funext x;congr 1;funext y;exact propext ⟨fun⟨a,c,b,d,e⟩=>⟨a,b,c,d,e⟩,fun⟨a,b,c,d,e⟩=>⟨a,c,b,d,e⟩⟩
end
abbrev ED:=List (List Int×ET)
noncomputable def Bb(K:W.Frag)(rl:RlT)(P:List W->(ED->Prop)->Prop):Sp:=fun vs H Q _=>∃F ws,bJ F H/\D7 rl F H/\eC K rl F H vs ws/\ws.all dr=true/\P ws fun z=>∀v F' H',Grow rl F H F' H'->c7 K rl F' H' v (.xr z)->Q v H'
noncomputable def rS(Q:ED->Prop):VEnds:=⟨fun _=>False,fun w=>∃z:ED,w = .xr z/\Q z,fun _=>False,fun _=>False⟩
structure DfnX (P:Fo) (w:Gc) (K:W.Frag) (mg:Str->Option EX) (base:Heap) (rl:RlT) (x:Str) (ps:List Str) (k:Nat) (Pd:List W->(ED->Prop)->Prop):Prop where
 mono:∀ws Q Q',(∀d,Q d->Q' d)->Pd ws Q->Pd ws Q'
 ex:∃f fd,mg x=some (.ref f)/\W.keepIn K (.ref f)=true/\Binds K fd ps []/\FnOk P w K mg base EG k f fd ps (Bb K rl Pd)
section
variable{P:Fo}{w:Gc}{K:W.Frag}{mg:Str->Option EX}{base:Heap}{rl:RlT}{x:Str}{st:Stmt}{N ps:List Str}{k:Nat}{Pd:List W->(ED->Prop)->Prop}{t:DV}
theorem DfnX.of(Fn:FnIn K mg x st ps)(S:FnScope N ps (defScope st))(mono:∀ws Q Q',(∀d,Q d->Q' d)->Pd ws Q->Pd ws Q')(len:∀ws Q,Pd ws Q->ws.length=ps.length)
 (hbody:∀{f:Addr}(cdv:EX)(A:Gh)(outer:List Env)(s:EZ)(H:Hp)(E:XK),Room k (A.deeper (JG x (defScope st) s.heap.objs.size f cdv)) ->
  lq (lZ EG P w K mg base N x (defScope st) f cdv A outer s H E).nox rl (defBody st) t)
 (hread:∀ws Q,Pd ws Q->t (rS Q) (dj N ws)):DfnX P w K mg base rl x ps (k+1) Pd:=by
 obtain⟨f,fd,hm,F,hb⟩:=Fn.ex;refine⟨mono,f,fd,hm,F.kp,hb,?_⟩;refine F.ok S (fun vs H Q E ⟨F,ws,_,_,r,_,q⟩=>(GI r).trans (len ws _ q)) fun cdv A outer s H vs Q E hr h=>?_;obtain⟨F,ws,sm,ra,r,ok,q⟩:=h;obtain⟨T,p,kk⟩:=hbody cdv A outer s H E hr;refine⟨T,p,kk (dS sm ra r ok) (rS _) _ ⟨fun _ _ _ _ _ _ z=>Gx z,?_,fun _ _ _ _ _ _ z=>Gx z,fun _ _ _ _ _ _ z=>Gx z⟩ (hread ws _ q)⟩;rintro v w1 F1 H1 g1 r1 n1 ⟨z,rfl,q1⟩;exact q1 v F1 H1 g1 r1
noncomputable def A2(Q:ED->Prop):Fl->Prop
 | .rt w=>∃z:ED,w = .xr z/\Q z
 | _=>False
theorem pK{Q:ED->Prop}(h:mS t ρ (A2 Q)):t (rS Q) ρ:=h
theorem sX{Q:ED->Prop}{kvs:ED}(h:Q kvs):ret (Fl.rt (.xr kvs)) (A2 Q):=⟨kvs,rfl,h⟩
end
section
variable{X:Cx}{rl:RlT}{e:Expr}{es:List Expr}{fs:DU}{pos p:Pos}{ρ:En}
noncomputable def ve(Pd:List W->(ED->Prop)->Prop)(fs:DU):TV:=fun ρ Q=>fs ρ fun ws=>ws.all dr=true/\Pd ws fun z=>Q (.xr z)
theorem sw{k:Nat}{Pd:List W->(ED->Prop)->Prop}(D:DfnX X.prog X.w X.K X.mg X.base rl x ps k Pd)(hr:Room k X.A)(ha:D9 X rl (e::es) fs)(hg:autoParam (Gl X x) æa._auto_1)
 (hdb:autoParam ((x==("__debug__" : Str))=false) æb._auto_1)(he:autoParam (E4 (e::es) X.env=(false,eval e X.env)::E4 es X.env) æa._auto_1)(hpl:autoParam ((GP pos (E4 es X.env)).any (·.1)=false) æa._auto_1) :
 PV X rl (.Call (.Name x p) (e::es) [] pos) (ve Pd fs):=by
 obtain⟨f,fd,hm,hk,hb,F⟩:=D.ex;obtain⟨t,p1,kk⟩:=ha;refine⟨_,fT F hr hg hm hk hb .nil nG p1 hdb he hpl,fun R Qd Q q h=>kk R _ _ q fun vs ws F1 H1 g1 r1 ⟨ok,q1⟩=>?_⟩;refine⟨F1,ws,g1.sub,g1.reel,by rw[GQ];exact r1,ok,?_⟩;exact D.mono ws _ _ (fun z qd v F2 H2 g2 r2=>h v (.xr z) F2 H2 (g1.trans g2) r2 trivial qd) q1
theorem cV(Pd:List W->(ED->Prop)->Prop):ve Pd fs ρ=DK (fs ρ) fun ws=>Dy (ws.all dr=true) (DK (Pd ws) fun z=>ret (.xr z)):=nr rfl
end
end L2.VL
namespace L2
noncomputable def v6(i:Nat)(a:Addr)(T:TS):TS:=fun D σ H=>T {D with nx:=fun σ' H'=>σ'[i]?=some (some (.ref a))/\∃u,H' a=some (.ext (VL.DAtO a u))/\D.nx σ' (Co H' a (.ext (VL.DAt a u.1)))} σ H
theorem tF{st:Stmt}{T:TS}(i:Nat)(a:Addr)(h:PS X st T):PS X st (v6 i a T):=fun pins s σ H D I q=>Cy (h pins s σ H _ I q) fun f s' z=>by
 cases f with
 | next =>
   obtain⟨σ',H',I',e1,u,e2,k⟩:=z;have p:=eO I' e2
   exact⟨σ',_,dq (t':=s'.toks) I' (by rw[e2];exact HD) (Ht _ _) ⟨u.2,p.2⟩ (gY p.1),k⟩
 | brk=>exact z
 | cont=>exact z
 | ret u=>exact z
end L2
namespace L2.VL
noncomputable def DF(F:Hp)(a:Addr):Hp:=fun b=>if b=a then none else F b
theorem dF(h:b≠a):DF F a b=F b:=if_neg h
theorem k9:DF F a a=none:=if_pos rfl
section
variable{K:W.Frag}{F:Hp}{a:Addr}{P:Heap->Prop}
theorem wS(fa:F a=some (.ext P))(h:F b=some o)(n:∀P',o ≠ .ext P'):b≠a:=fun z=>by
 subst z;rw[fa]at h;cases h;exact n _ rfl
theorem dm(fa:F a=some (.ext P))(h:F b=some o)(n:∀P',o ≠ .ext P':=by intro _ z;cases z):DF F a b=some o:=by rw[dF (wS fa h n)];exact h
theorem kD{xs:List V}(fa:F a=some (.ext P))(h:D0 K F b xs):D0 K (DF F a) b xs:=by
 rcases h with(h|⟨o,h⟩)|h
 · exact .inl (.inl (dm fa h))
 · exact .inl (.inr ⟨o,dm fa h⟩)
 · exact .inr h
theorem pH{xs:List V}(fa:F a=some (.ext P))(h:D1 K F b xs):D1 K (DF F a) b xs:=by
 rcases h with(h|⟨o,h⟩)|h
 · exact .inl (.inl (dm fa h))
 · exact .inl (.inr ⟨o,dm fa h⟩)
 · exact .inr h
mutual
theorem Rep.less(fa:F a=some (.ext P)):∀{v:V}{d:ET},Rep K F v d->Rep K (DF F a) v d
 | _,_,.non=>.non
 | _,_,.bl b=>.bl b
 | _,_,.int i=>.int i
 | _,_,.str x=>.str x
 | _,_,.tup h r=>.tup (kD fa h) (Reps.less fa r)
 | _,_,.lst h r=>.lst (dm fa h) (Reps.less fa r)
theorem Reps.less(fa:F a=some (.ext P)):∀{vs:List V}{ds:List ET},Reps K F vs ds->Reps K (DF F a) vs ds
 | _,_,.nil=>.nil
 | _,_,.cons h r=>.cons (Rep.less fa h) (Reps.less fa r)
end
theorem KX.less{xs:List (List Int×Addr×EX)}{kvs:List (List Int×ET)}(fa:F a=some (.ext P))(h:KX K F xs kvs):KX K (DF F a) xs kvs:=GO.mapP h fun _ _ z=>⟨z.1,kD fa z.2.1,let ⟨v,r,q⟩:=z.2.2;⟨v,r,q.less fa⟩⟩
theorem RO.less{b:Nat}(fa:F a=some (.ext P))(h:RO b F o):RO b (DF F a) o:=by
 obtain⟨c,ns,x,l,e,q,r⟩:=h;exact⟨c,ns,x,l,e,dm fa q,r⟩
end
noncomputable def xZ(i:Nat)(ρ:En):Bool:=(ρ.set i none).all fun w=>match w with
 | some (.xr _)=>false
 | some (.xw _ _)=>false
 | some (.xc _ _)=>false
 | _=>true
theorem t7{w:W}(h:xZ i ρ=true)(hj:i≠j)(e:ρ[j]?=some (some w)):(∀k,w ≠ .xr k)/\(∀a k,w ≠ .xw a k)/\∀x f,w ≠ .xc x f:=by
 have hm:some w∈ρ.set i none:=IS (i:=j) (by rw[E_ hj];exact e);have:=GU.mp h _ hm;refine⟨fun k z=>?_,fun a k z=>?_,fun x f z=>?_⟩<;>(subst z;simp at this)
section
variable{rl:RlT}
theorem VR.thaw{K:W.Frag}(r:VR K rl F₀ H₀ F H σ ρ)(e:ρ[i]?=some (some (.xw a kvs)))(n0:H₀ a=none)(f0:F₀ a=none)(hr:rl.a≠some a)(nx:xZ i ρ=true) :
 ∃u,σ[i]?=some (some (.ref a))/\F a=some (.ext (DAtO a u))/\VR K rl F₀ H₀ (DF F a) (Co H a (.ext (DAt a u.1))) σ (ρ.set i (some (.xm kvs))):=by
 obtain⟨v,h1,h2,h3⟩:=r.sl i _ e;obtain⟨u,rfl,fa,rk⟩:=(show ∃u,v = .ref a/\F a=some (.ext (DAtO a u))/\KX K F u.1 kvs from h2);have hi:i<ρ.length:=(Ff.mp e).1
 have g:Grow rl F₀ H₀ (DF F a) (Co H a (.ext (DAt a u.1))):=by
  refine⟨fun b o q1 n=>by rw[ak (aG q1 n0)];exact r.g.same b o q1 n,fun b o q1=>?_,fun b o q1=>?_,fun b o q1=>by rw[dF (aG q1 n0)];exact r.g.old b o q1,fun y z=>?_⟩
  · rw[dF (aG q1 f0)];exact r.g.fs b o q1
  · by_cases hb:b=a
    · subst hb;rw[k9]at q1;cases q1
    · rw[dF hb]at q1;rw[ak hb];exact r.sub b o q1
  · obtain⟨z1,⟨o,h1,h2⟩⟩:=r.reel y z;have ny:y≠a:=fun q=>hr (by rw[<- q];exact z);exact⟨by rw[dF ny];exact z1,⟨o,by rw[ak ny];exact h1,RO.less fa h2⟩⟩
 refine⟨u,h1,fa,g,fun j w e1=>?_,fun j k x y u' hjk e1 e2 w1 w2 s1 s2=>?_,fun j ys' z=>?_,by simp[r.len]⟩
 · by_cases hj:i=j
   · subst hj;rw[Fj hi]at e1;cases e1;exact⟨_,h1,⟨a,u.1,rfl,k9,hr,ar,rk.less fa⟩,fun b q=>by cases q;exact n0⟩
   · rw[E_ hj]at e1;obtain⟨u',g1,g2,g3⟩:=r.sl j w e1;obtain⟨x1,x2,x3⟩:=t7 nx hj e1;refine⟨u',g1,?_,g3⟩;have na:∀{b:Addr},F b=none->b≠a:=fun h z=>by subst z;rw[fa]at h;cases h
     cases w with
     | d x=>exact Rep.less fa g2
     | ml zs=>obtain⟨b,us',eb,f1,f2,f3,f4⟩:=(show iJ K rl F H u' zs from g2);exact⟨b,us',eb,by rw[dF (na f1)];exact f1,f2,by rw[ak (na f1)];exact f3,f4.less fa⟩
     | md zs=>obtain⟨b,us',eb,f1,f2,f3,f4⟩:=(show rP K rl F H u' zs from g2);exact⟨b,us',eb,by rw[dF (na f1)];exact f1,f2,by rw[ak (na f1)];exact f3,GO.mapP f4 fun _ _ z=>⟨z.1,z.2.less fa⟩⟩
     | mk zs=>obtain⟨b,us',eb,f1,f2,f3,f4⟩:=(show rO K rl F H u' zs from g2);exact⟨b,us',eb,by rw[dF (na f1)];exact f1,f2,by rw[ak (na f1)];exact f3,GO.mapP f4 fun _ _ z=>⟨z.1,z.2.less fa⟩⟩
     | xm zs=>obtain⟨b,us',eb,f1,f2,f3,f4⟩:=(show ls K rl F H u' zs from g2);exact⟨b,us',eb,by rw[dF (na f1)];exact f1,f2,by rw[ak (na f1)];exact f3,KX.less fa f4⟩
     | pk zs=>exact absurd e1 (r.np j zs)
     | reel=>exact g2
     | vv u=>exact g2
     | lk=>trivial
     | nt ds=>obtain⟨b,us,eb,f1,f2⟩:=g2;exact⟨b,us,eb,dm fa f1,f2.less fa⟩
     | sc ns=>obtain⟨b,eb,f1⟩:=g2;exact⟨b,eb,pH fa f1⟩
     | fd kvs=>obtain⟨b,us,eb,f1,f2⟩:=g2;exact⟨b,us,eb,dm fa f1,GO.mapP f2 fun _ _ z=>⟨z.1,z.2.less fa⟩⟩
     | xr kvs=>exact absurd rfl (x1 _)
     | xw _ _=>exact absurd rfl (x2 _ _)
     | fw kvs=>obtain⟨b,us,o,eb,f1,f2⟩:=g2;exact⟨b,us,o,eb,dm fa f1,GO.mapP f2 fun _ _ z=>⟨z.1,z.2.less fa⟩⟩
     | ft kvs=>obtain⟨b,us,o,eb,f1,f2⟩:=g2;exact⟨b,us,o,eb,dm fa f1,GO.mapP f2 fun _ _ z=>⟨z.1,z.2.less fa⟩⟩
     | xc _ _=>exact absurd rfl (x3 _ _)
     | dp _ _=>obtain⟨c,b,us,u,o,eb,f1,f3,f2,z⟩:=g2;exact⟨c,b,us,u,o,eb,dm fa f1,dm fa f3,GO.mapP f2 fun _ _ z=>⟨z.1,z.2.less fa⟩,z.less fa⟩
 · have na:∀(j:Nat)(w:W),i≠j->ρ[j]?=some (some w)->w.own=true->σ[j]?≠some (some (.ref a)):=fun j w hj e1 ow z=>by
     obtain⟨u',g1,g2,g3⟩:=r.sl j w e1;rw[g1]at z;cases z
     cases w with
     | ml zs=>obtain⟨b,us',eb,f1,_⟩:=(show iJ K rl F H _ zs from g2);cases eb;rw[fa]at f1;cases f1
     | md zs=>obtain⟨b,us',eb,f1,_⟩:=(show rP K rl F H _ zs from g2);cases eb;rw[fa]at f1;cases f1
     | mk zs=>obtain⟨b,us',eb,f1,_⟩:=(show rO K rl F H _ zs from g2);cases eb;rw[fa]at f1;cases f1
     | xm zs=>obtain⟨b,us',eb,f1,_⟩:=(show ls K rl F H _ zs from g2);cases eb;rw[fa]at f1;cases f1
     | _=>cases ow
   by_cases hj:i=j
   · subst hj;rw[h1]at s1;cases s1;rw[E_ hjk]at e2;exact na k y hjk e2 w2 s2
   · rw[E_ hj]at e1;by_cases hk:i=k
     · subst hk;rw[h1]at s2;cases s2;exact na j x hj e1 w1 s1
     · rw[E_ hk]at e2;exact r.ap j k x y u' hjk e1 e2 w1 w2 s1 s2
 · rw[F_]at z;split at z
   · first|cases z|(split at z<;>cases z)
   · exact r.np j ys' z
theorem VR.walk{K:W.Frag}(r:VR K rl F₀ H₀ F H σ ρ)(e:ρ[i]?=some (some (.xr kvs)))(es:σ[i]?=some (some (.ref a)))(fa:F a=some (.ext (DAtO a u)))(rk:KX K F u.1 kvs):VR K rl F₀ H₀ F H σ (ρ.set i (some (.xw a kvs))):=by
 have hi:i<ρ.length:=(Ff.mp e).1
 have nd:∀(j:Nat)(y:W),(ρ.set i (some (W.xw a kvs)))[j]?=some (some y)->y.own=true->ρ[j]?=some (some y):=fun j y z o=>by
  by_cases hj:i=j
  · subst hj;rw[Fj hi]at z;cases z;cases o
  · rw[E_ hj]at z;exact z
 refine⟨r.g,fun j w e1=>?_,fun j k x y u' hjk e1 e2 w1 w2 s1 s2=>r.ap j k x y u' hjk (nd j _ e1 w1) (nd k _ e2 w2) w1 w2 s1 s2,fun j ys' z=>?_,by simp[r.len]⟩
 · by_cases hj:i=j
   · subst hj;rw[Fj hi]at e1;cases e1;exact⟨_,es,⟨u,rfl,fa,rk⟩,trivial⟩
   · rw[E_ hj]at e1;exact r.sl j w e1
 · rw[F_]at z;split at z
   · first|cases z|(split at z<;>cases z)
   · exact r.np j ys' z
end
section
variable{X:Cx}{rl:RlT}{st:Stmt}{t:DV}{e tg:Expr}{fk:TV}{pos px:Pos}{ρ:En}
noncomputable def vf(i:Nat)(a:Addr):DV:=fun D ρ=>∃kvs,ρ[i]?=some (some (.xw a kvs))/\xZ i ρ=true/\D.nx (ρ.set i (some (.xm kvs)))
noncomputable def mK(i:Nat)(t:DV):DV:=fun D ρ=>∃kvs,ρ[i]?=some (some (.xm kvs))/\∀a:Addr,vh t (vf i a) D (ρ.set i (some (.xw a kvs)))
noncomputable def yR(i:Nat)(T:TS):TS:=fun D σ H=>∃a us,σ[i]?=some (some (.ref a))/\H a=some (.ext (DAt a us))/\∀o,v6 i a T D σ (Co H a (.ext (DAtO a (us,o))))
theorem tE{T:TS}(i:Nat)(h:PS X st T):PS X st (yR i T):=fun pins s σ H D I q=>by
 obtain⟨a,us,e1,e2,k⟩:=q;obtain⟨p,⟨o,ho⟩,_⟩:=(show cD X.prog X.w H s.heap a (.ext (DAt a us))from I.hok a _ e2);have I1:Inv X pins σ (Co H a (.ext (DAtO a (us,o)))) s:=dq (t':=s.toks) I (by rw[e2];exact HD) (Ht _ _) ⟨o,ho⟩ (oD ⟨p,ho⟩);exact tF i a h pins s σ _ D I1 (k o)
theorem rZ(i:Nat)(h:Ec X rl st t):Ec X rl st (mK i t):=by
 obtain⟨T,p,k⟩:=h;refine⟨_,tE i p,fun{F₀ H₀ F H σ ρ} R Dv D ok ⟨xs,e,q⟩=>?_⟩;obtain⟨v,h1,h2,h3⟩:=R.sl i _ e;obtain⟨a,us,rfl,f,hr,hh,rs⟩:=(show ls X.K rl _ _ v xs from h2);have n0:H₀ a=none:=h3 a rfl
 have f0:F₀ a=none:=by
  cases z:F₀ a with
  | none=>rfl
  | some o=>rw[R.g.fs a o z]at f;cases f
 refine⟨a,us,h1,hh,fun o=>?_⟩;obtain⟨s1,R1⟩:=R.frzX (ob:=o) e h1 hh rs;have hi:i<ρ.length:=(Ff.mp e).1;have R2:=R1.walk (a:=a) (u:=(us,o)) (kvs:=xs) (Fj hi) h1 ar (rs.mono s1);rw[List.set_set]at R2;refine k R2 {Dv with nx:=vf i a Dv} _ ⟨fun F' H' σ' ρ' s' R' z=>?_,ok.rt,fun F' H' σ' ρ' s' R' z=>ok.bk F' H' σ' ρ' (s1.trans s') R' z,fun F' H' σ' ρ' s' R' z=>ok.ct F' H' σ' ρ' (s1.trans s') R' z⟩ (q a);obtain⟨kvs',e',nx,q'⟩:=z;obtain⟨u,g1,fa,R3⟩:=R'.thaw e' n0 f0 hr nx;refine⟨g1,u,R'.sub _ _ fa,ok.nx _ _ _ _ (fun b x z=>?_) R3 q'⟩;have nb:b≠a:=fun y=>by subst y;rw[f]at z;cases z
 rw[dF nb];exact s' b x (s1 b x z)
noncomputable def CT(ρ:En)(i:Nat)(a:Addr):Option (List (List Int×ET)):=match(ρ[i]?).join with
 | some (.xw b kvs)=>if b=a then some kvs else none
 | _=>none
theorem vV:CT ρ i a=some kvs↔ρ[i]?=some (some (.xw a kvs)):=by
 unfold CT;rcases ρ[i]? with _|_|w
 · simp
 · simp
 · cases w with
   | xw b k =>
     show(if b=a then some k else none)=_↔_;constructor
     · intro h;split at h
       · rename_i c;cases h;rw[c]
       · cases h
     · intro h;cases h
       rw[if_pos rfl]
   | _=>simp
theorem dn(i:Nat){t:DV}:mS (mK i t) ρ=aC (CQ ρ i) fun kvs=>DK (anyM fun _:Addr=>True) fun a=>sq (mS t (ρ.set i (some (.xw a kvs)))) (mS (vf i a)):=by
 refine ag fun Q=>?_;simp only[mS,mK,ai,iV];refine exists_congr fun kvs=>and_congr_right fun _=>?_;exact⟨fun h a _=>h a,fun h a=>h a trivial⟩
theorem fR(i:Nat)(a:Addr):mS (vf i a) ρ=aC (CT ρ i a) fun kvs=>Dy (xZ i ρ=true) (ret (.nx (ρ.set i (some (.xm kvs))))):=by
 refine ag fun Q=>?_;simp only[mS,vf,ai,vV,ret,Dy]
noncomputable def n8(i:Nat):En->(List ET->Prop)->Prop:=fun ρ Q=>∃a kvs,ρ[i]?=some (some (.xw a kvs))/\Q (kvs.map fun p=>kI p.1)
theorem pj(i:Nat)(hN:autoParam (X.N[i]?=some x) æa._auto_1)(hv:autoParam (DR X.env.scope x) æc._auto_1)
 (hd:autoParam ((x==("__debug__" : Str))=false) æb._auto_1)(hcd:autoParam ((x==("__classdict__" : Str))=false) æb._auto_1):Ef X rl tg (.Name x px) (n8 i):=by
 refine⟨_,kG (cH hN hv hd hcd),fun{F₀ H₀ F H σ ρ} R Qd Q ⟨a,kvs,e1,q1⟩ h=>?_⟩;obtain⟨v,h1,h2,h3⟩:=R.sl i _ e1;obtain⟨us,rfl,hx,rk⟩:=(show ∃us,v = .ref a/\F a=some (.ext (DAtO a us))/\KX X.K F us.1 kvs from h2);have hl:us.1.length=kvs.length:=GI rk;have g0:Grow rl F H F H:=Grow.refl R.sub R.reel;refine⟨.ref a,h1,a,us,rfl,R.sub _ _ hx,h _ (kvs.map fun p=>kI p.1) F H g0 (VIt.of (fun i H y e s=>⟨?_,s _ _ hx⟩) (fun i H hl' s=>⟨by rw[E1]at hl';omega,s _ _ hx⟩) fun i H v H' y e s z=>?_) q1⟩
 · have:=(Ff.mp e).1;rw[E1]at this;omega
 · obtain⟨e1,pp,e2,e3⟩:=z;obtain⟨p',e4,e5⟩:=rj rk e;rw[e2]at e4;cases e4;subst e3;exact⟨e1,e5⟩
noncomputable def jA(ρ:En)(i:Nat):Option (List (List Int×ET)):=match(ρ[i]?).join with
 | some (.xw _ kvs)=>some kvs
 | _=>none
theorem m5:jA ρ i=some kvs↔∃a,ρ[i]?=some (some (.xw a kvs)):=by
 unfold jA;rcases ρ[i]? with _|_|w
 · simp
 · simp
 · cases w<;>simp
theorem bV(i:Nat):n8 i ρ=aC (jA ρ i) fun kvs=>ret (kvs.map fun p=>kI p.1):=by
 refine ag fun Q=>?_;simp only[n8,ai,m5,ret];exact⟨fun⟨a,k,h,q⟩=>⟨k,⟨a,h⟩,q⟩,fun⟨k,⟨a,h⟩,q⟩=>⟨a,k,h,q⟩⟩
noncomputable def sB(i:Nat)(fk:TV):TV:=fun ρ Q=>∃kvs,(∃a,ρ[i]?=some (some (.xw a kvs)))/\fk ρ fun wk=>∃(g:List Int)(x:ET),gG wk=some g/\iI kvs g=some x/\Q (.d x)
theorem qO(i:Nat){fk:TV}(hu:X.A.units+64<IU)(hk:PV X rl e fk)(hN:autoParam (X.N[i]?=some x) æa._auto_1)(hv:autoParam (DR X.env.scope x) æc._auto_1)
 (hd:autoParam ((x==("__debug__" : Str))=false) æb._auto_1)(hcd:autoParam ((x==("__classdict__" : Str))=false) æb._auto_1)(hs:autoParam (o9 e) æg._auto_1) :
 PV X rl (.Subscript (.Name x px) e pos) (sB i fk):=by
 obtain⟨t,p1,k1⟩:=hk;refine⟨_,kH (by omega) (cH hN hv hd hcd) p1 hs,fun{F₀ H₀ F H σ ρ} R Qd Q ⟨kvs,⟨a,e1⟩,q⟩ h=>?_⟩;obtain⟨v,h1,h2,h3⟩:=R.sl i _ e1;obtain⟨us,rfl,hh,rs⟩:=(show ∃us,v = .ref a/\F a=some (.ext (DAtO a us))/\KX X.K F us.1 kvs from h2);refine⟨.ref a,h1,k1 R _ _ q fun v1 w1 F1 H1 g1 r1 n1 q1=>?_⟩;obtain⟨gs,d,e2,ed,q1⟩:=q1;obtain⟨b,rfl,sq⟩:=r1.keyI g1.sub e2;have rs2:=rs.mono g1.fs;rcases rs2.at gs with⟨z1,z2⟩|⟨p,v3,d3,z1,z2,z3,z4⟩
 · rw[z2]at ed;cases ed
 · rw[z2]at ed;cases ed;exact⟨a,us,b,gs,p,v3,rfl,g1.sub _ _ (g1.fs _ _ hh),fun x m=>cA g1.sub (rs2.keys x m),rfl,sq,z1,z3,h _ (.d _) _ _ g1 z4 trivial q1⟩
theorem cO(i:Nat){fk:TV}:sB i fk ρ=aC (jA ρ i) fun kvs=>DK (fk ρ) fun wk=>aC (gG wk) fun g=>aC (iI kvs g) fun x=>ret (.d x):=by
 refine ag fun Q=>?_;simp only[sB,ai,m5,DK,ret];refine exists_congr fun kvs=>and_congr_right fun _=>?_;constructor
 · intro h;refine cast ?_ h;congr 1;funext x;exact propext ⟨fun⟨a,b,c,d,e⟩=>⟨a,c,b,d,e⟩,fun⟨a,c,b,d,e⟩=>⟨a,b,c,d,e⟩⟩
 · intro h;refine cast ?_ h;congr 1;funext x;exact propext ⟨fun⟨a,c,b,d,e⟩=>⟨a,b,c,d,e⟩,fun⟨a,b,c,d,e⟩=>⟨a,c,b,d,e⟩⟩
end
theorem Reps.put{K:W.Frag}{ds:List ET}(k:Nat)(r:Reps K F vs ds)(h:Rep K F v d):Reps K F (vs.set k v) (ds.set k d):=by
 induction vs generalizing ds k with
 | nil=>cases r;exact .nil
 | cons x vs ih =>
   cases r with
   | cons r1 r2 =>
     cases k with
     | zero=>exact .cons h r2
     | succ k=>exact .cons r1 (ih k r2)
noncomputable def sG(i:Nat)(fx fv:TV):DV:=fun D ρ=>fv ρ fun w=>∃d,w.fz = .d d/\∃xs,ρ[i]?=some (some (.ml xs))/\fx ρ fun wx=>∃k:Int,wx = .d (.int k)/\0<=k/\k<(xs.length:Int)/\D.nx (ρ.set i (some (.ml (xs.set k.toNat d))))
section
variable{X:Cx}{rl:RlT}{ei e:Expr}{fx fv:TV}{pos p1 pos':Pos}{ρ:En}
theorem r8(i:Nat)(hx:PV X rl ei fx)(hv:PV X rl e fv)(hN:autoParam (X.N[i]?=some x) æa._auto_1)(hvis:autoParam (DR X.env.scope x) æc._auto_1)
 (hd:autoParam ((x==("__debug__" : Str))=false) æb._auto_1)(hcd:autoParam ((x==("__classdict__" : Str))=false) æb._auto_1)
 (ha:autoParam (∀v,HF (.Subscript (.Name x p1) ei pos') X.env v=(do
  let ov <- Kl [v] (eval (.Name x p1) X.env)
  let iv <- Kl [v,ov] (eval ei X.env)
  Kk pos'
  Kl [v,ov,iv] (setItem ov iv v)
  release [v,ov,iv] [])) æd._auto_1)
 (hs:autoParam (JR [.Subscript (.Name x p1) ei pos'] e pos.line X.env=pure false) æa._auto_1)(hw:autoParam (JS [.Subscript (.Name x p1) ei pos'] e X.env=pure none) æa._auto_1)
 (h1:autoParam ((HC [.Subscript (.Name x p1) ei pos'] X.env).map (·.2)=[HF (.Subscript (.Name x p1) ei pos') X.env]) æa._auto_1) :
 Ec X rl (.Assign [.Subscript (.Name x p1) ei pos'] e pos) (sG i fx fv):=by
 obtain⟨tv,pv,kv⟩:=hv;obtain⟨tx,px,kx⟩:=hx;refine⟨_,ww pv (wC (cH hN hvis hd hcd) px pJ ha) hs hw h1,fun{F₀ H₀ F H σ ρ} R Dv D ok q=>kv R _ _ q fun v w F1 H1 g1 r1 n1 ⟨d,ed,xs,e1,q1⟩=>?_⟩;obtain⟨F2,g2,s2,r2⟩:=c7.fz g1 r1 n1;rw[ed]at r2;have R1:=R.grow g2;obtain⟨u,h1',h2,h3⟩:=R1.sl i _ e1;obtain⟨a,vs,rfl,f,hr,hh,rs⟩:=(show iJ X.K rl F2 H1 u xs from h2);refine⟨.ref a,h1',kx R1 _ _ q1 fun y wy F3 H3 g3 r3 n3 ⟨k,ek,k0,k1,q3⟩=>?_⟩;subst ek;have ey:=aX r3;subst ey;have R3:=R1.grow g3;have vl:vs.length=xs.length:=rs.length;refine⟨a,vs,k,k.toNat,rfl,rfl,g3.same a _ hh hr,?_,ok.nx _ _ _ _ (g2.fs.trans g3.fs) (R3.own e1 h1' (Reps.put k.toNat (rs.mono g3.fs) (Rep.mono g3.fs r2))) q3⟩;obtain⟨n,rfl⟩:=GS k0;unfold ixN;simp;omega
theorem v4(i:Nat):mS (sG i fx fv) ρ=DK (fv ρ) fun w=>aC (asD w.fz) fun d=>aC (CU ρ i) fun xs=>DK (fx ρ) fun wx=>aC (asI wx) fun k=>Dy (0<=k/\k<(xs.length:Int)) (ret (.nx (ρ.set i (some (.ml (xs.set k.toNat d)))))):=by
 refine ag fun Q=>?_;simp only[mS,sG,DK,ai,gR,ff,cC,Dy,ret,and_assoc]
end
section
variable{X:Cx}{al:Option Addr}{c1 c2:Nat}{ei e:Expr}{fx fv:TV}{pos p1 pos':Pos}{ρ:En}
end
section
variable{X:Cx}{al:Option Addr}{c:Nat}{a:Expr}{lo hi:Option Expr}{fa:TV}{fl fh:DW}{pos p2:Pos}{tg:Expr}
end
end L2.VL
namespace K87
open PySem PySem.Spec PyProof.Rows L2 L2.VL
set_option bootstrap.genMatcherCode true in
local macro_rules | `(tactic| simp_arith only [$xs,*])=>`(tactic| simp (maxSteps:=2000000) (disch:=(first | assumption | omega | decide)) only [zV,zY,z_,z9,zZ,zO,zN,zR,zQ,zP,zX,zW,zU,zT,zS,yf,CW,CU,dA,dj,dP,W.cap,Dj,List.replicate,id,↓reduceIte,if_true,Nat.reduceAdd,Nat.reduceSub,Nat.reduceLeDiff,Int.cast_ofNat_Int,Int.reduceBEq,Int.reduceSub,Int.reduceAdd,Int.reduceLT,Int.reduceLE,Int.reduceMul,Int.reduceNeg,reduceCtorEq,je,$xs,*])
set_option bootstrap.genMatcherCode true in
local macro_rules | `(tactic| simp_arith only [$xs,*] at $h:ident)=>`(tactic| simp only [List.cons.injEq,W.d.injEq,PyData.int.injEq,PyData.bool.injEq,PyData.str.injEq,PyData.list.injEq,PyData.tuple.injEq,kz,kN,pE,dL,and_true,true_and,reduceCtorEq,$xs,*] at $h:ident)
section
variable{P:Fo}{w:Gc}{K:G8}{mg:Str->Option EX}{base:Heap}{rl:RlT}{al:Option Addr}
noncomputable def xY(ws:List W):Prop:=∃ns:List Int,ws=[.sc ns]/\ns.length<=63
theorem BL(xs:List α)(f:α->ET)(k:Nat):VL.cutD (xs.map f) none (some (k:Int))=(xs.take k).map f:=by
 unfold VL.cutD;rw[HT.sIx_none,HT.sIx_nat,List.drop_zero,E1,LB,<- List.map_take];congr 1;by_cases z:k<=xs.length
 · rw[KA z]
 · rw[J9 (by omega),Fi (by omega),Fi (by omega)]
theorem iY:FnScope ["_law_script"] ["_law_script"] (defScope (Cu 30)):=⟨rfl,rfl,rfl,by decide +kernel,rfl,by decide +kernel,by decide +kernel⟩
theorem d__law_feed(Fn:FnIn K mg "_law_feed" (Cu 30) ["_law_script"])(Z:Bz mg):DfnR P w K mg base "_law_feed" ["_law_script"] 2 xY:=by
 have sc:=iY;obtain⟨f,fd,hm,F,hb⟩:=Fn.ex;refine⟨f,fd,hm,F.kp,hb,?_⟩;refine F.ok (k:=1) sc (fun vs H Q E h=>?_) (fun cdv A outer s H vs Q E hr h=>?_)
 · obtain⟨F,ws,_,r,_,⟨ns,rfl,_⟩,_⟩:=h;have:=GI r;simpa using this
 · obtain⟨F,ws,sm,r,ao,⟨ns,rfl,hn⟩,fin⟩:=h;obtain⟨T,p,kk⟩:=ot (X:=(lZ EG P w K mg base ["_law_script"] "_law_feed" (defScope (Cu 30)) f cdv A outer s H E).nox) (km Z.list_ (aa (u6 (vn 0) fG (fF ah)) ac));refine⟨T,p,kk (dS sm (fun _ z=>by cases z) r ao) _ ?_ fin⟩;simp_arith only[af];exact⟨ns.take 63,by rw[show(63:Int)=((63:Nat):Int)from rfl,BL],by rw[GK];omega⟩
noncomputable def ba:List W->(ET->Prop)->Prop:=fun ws Q=>∃(m:Int),ws=[.reel,.d (.int m)]/\((0<m)/\(m<2^60))/\∀k:Int,(0<=k/\k<m)->Q (.int k)
theorem ba.mono:∀ws (Q Q':ET->Prop),(∀d,Q d->Q' d)->ba ws Q->ba ws Q':=fun _ _ _ h_=>Fp fun _=>E5 (E5 fun q_ o_ ho_=>h_ _ (q_ o_ ho_))
theorem ba.len:∀ws (Q:ET->Prop),ba ws Q->ws.length=2:=fun _ _ h_=>by obtain⟨_,e_,_⟩:=h_;subst e_;rfl
theorem ba.eq(m:Int)(hm:0<m)(hb:m<2^60):ba [.reel,.d (.int m)]=DK (anyM fun k:Int=>0<=k/\k<m) fun k=>VL.ret (.int k:ET):=by
 refine ag fun Q=>⟨?_,fun q_=>⟨m,rfl,⟨hm,hb⟩,q_⟩⟩;rintro⟨m',e_,_,q_⟩;simp_arith only[and_true]at e_;obtain rfl:=e_;exact q_
theorem iZ:FnScope ["_law_feed_here", "_law_many", "_law_found", "_law_at_here", "_law_cells", "_law_cell", "_law_number"] ["_law_feed_here", "_law_many"] (defScope (Cu 31)):=⟨rfl,rfl,rfl,by decide +kernel,rfl,by decide +kernel,by decide +kernel⟩
theorem d__law_draw(Fn:FnIn K mg "_law_draw" (Cu 31) ["_law_feed_here", "_law_many"])(Z:Bz mg)    : DfnC P w K mg base al 1 "_law_draw" ["_law_feed_here", "_law_many"] 1 ba:=by
 have sc:=iZ
 refine DfnC.of Fn sc (ba.mono) (ba.len) (fun cdv A outer s H E hr=>(aF (cs fun _=>(dw (bg tU sa (aQ _) (mF (i:=0) (hr.mono (FE _))) ah) (au (aD 2 sc.nd (v_mod (mF (i:=0) (hr.mono (FE _))) (vn 1)))
  (au (mm (i:=0) (hr.mono (FE _)) (v_div (mF (i:=0) (hr.mono (FE _))) (vn 1)))
  (ax (aH (vn 2))))) cw))
  (uA 3 0 (hr.mono (FE _)) sc.nd (by decide) (aF (cs fun _=>(aD 4 sc.nd (pz (i:=0) (hr.mono (FE _)))))
  (aF (cs fun _=>(aD 5 sc.nd (mH (bg (fY hr.units) cx (aQ _) (vn 4) (fJ ac)) (bK (vn 4) (v_mod (vn 3) (cZ Z.len_ (aa (vn 4) ac)))) (v_mul (vn 3) (vn 3)))))
  (aF (cs fun _=>(dw (Ej.pb (u4 (bg za yh (aQ _) (vn 5) (v_pow ah ah)) (sj (bg nJ mw (aQ _) (vn 3) (cZ Z.len_ (aa (vn 4) ac)))))) (au (mm (i:=0) (hr.mono (FE _)) (v_div (vn 5) (vn 1)))
  (ax (aH (v_mod (vn 5) (vn 1))))) cw))
  (aF (cs fun _=>(aD 6 sc.nd (v_mod (v_mul (v_add (v_mod (vn 5) ah) ah) (v_add ah (v_mul ah (vn 3)))) ah)))
  (cI (cs fun _=>(aH (v_mod (v_div (v_mod (v_add (v_mul (vn 6) ah) (v_mul (v_mul (vn 3) (vn 3)) ah)) ah) ah) (vn 1)))))))))))) (by decide) ?_
 rintro ws Q ⟨m,rfl,⟨hm,hb⟩,hQ⟩;have hm0:m≠0:=by omega
 have hmd:∀i:Int,dR i m:=fun i=>dR.of hm0 (by omega);have fm:∀i:Int,0<=i.fmod m/\i.fmod m<m:=fun i=>⟨GW _ hm,HH _ hm⟩;refine aK ?_;simp_arith only[aj,af,aN,aO,ay,aB,aP,aA,am,ae]
 (with_reducible (first|refine aL fun l hl=>?_|refine bi fun l hl=>?_))
 try rw[sq_ite]
 refine df (fun _=>?_) fun _=>?_
 · simp_arith only[aj,af,aN,aO,ay,aB,aP,aA,am,ae]
   (with_reducible (first|refine aL fun l2 hl2=>?_|refine bi fun l2 hl2=>?_))
   try simp_arith only[aj,af,aN,aO,ay,aB,aP,aA,am,ae]
   (with_reducible (first|refine aL fun l3 hl3=>?_|refine bi fun l3 hl3=>?_))
   have h0:=KB hl3 (show 0<=m by omega)
   try simp_arith only[aj,af,aN,aO,ay,aB,aP,aA,am,ae]
   exact bY (hmd _) (aE (hQ _ (fm _)))
 · simp_arith only[aj,af,aN,aO,ay,aB,aP,aA,am,ae];refine aL fun n hn=>?_
   have h59:n.natAbs<2^59990:=by
    have h1:=hn.2;rw[<- KP hn.1]at h1
    exact_mod_cast h1
   have bn:EM n:=E6 h59 (Fq (by decide) (by decide));have c2:b6 n n:=.bb bn bn;have c3:b6 7919 n:=.lt (by decide);have c4:∀z:Int,b6 z 69621:=fun z=>.rt (by decide);have c5:∀z:Int,b6 z 40692:=fun z=>.rt (by decide);have d5:∀z:Int,dR z 5:=fun z=>dR.of (by decide) (by decide)
   have cq:∀z y:Int,b6 (z.fmod 2147483629+1) y:=fun z y=>.lt (by
    have h1:=GW z (show(0:Int)<2147483629 by decide);have h2:=HH z (show(0:Int)<2147483629 by decide)
    omega)
   (with_reducible (first|refine aL fun ns hl=>?_|refine bi fun ns hl=>?_))
   try simp_arith only[aj,af,aN,aO,ay,aB,aP,aA,am,ae,E1]
   refine bY (shaped_ints ns) (df (fun he=>?_) fun he=>?_)
   · have hz:(0:Int)<(ns.length:Int):=by
       cases ns with
       | nil=>exact absurd he (by decide)
       | cons a l=>simp only[Gq];omega
     obtain⟨z,ez,_⟩:=xL (xs:=ns) (GW n hz) (HH n hz);have ea:atI (ns.map FG) (n.fmod (ns.length:Int))=some (.int z):=by rw[L2.VL.atI_map,ez];rfl
     refine bY (by omega) ?_;simp_arith only[aj,af,aN,aO,ay,aB,aP,aA,am,ae,ea,E1,cq,c3,c4,c5,c2,d5];refine bY (show yd 10 18 from⟨by decide,by decide,by decide⟩) (df (fun h=>?_) fun _=>aE (hQ _ (fm _)));rw[IL]at h;have z0:0<=z:=LC (by decide) (of_decide_eq_true h.1);exact bY (hmd _) (bY (KB z0 (by omega)) (aE (hQ _ (fm _))))
   · simp_arith only[aj,af,aN,aO,ay,aB,aP,aA,am,ae,E1,cq,c3,c4,c5,c2,d5];refine bY (show yd 10 18 from⟨by decide,by decide,by decide⟩) (df (fun h=>?_) fun _=>aE (hQ _ (fm _)));rw[IL]at h;have z0:0<=n*n:=LC (by decide) (of_decide_eq_true h.1);exact bY (hmd _) (bY (KB z0 (by omega)) (aE (hQ _ (fm _))))
noncomputable def aJ:List W->(ET->Prop)->Prop:=fun ws Q=>∃(i j:Int),ws=[.d (.int i),.d (.int j)]/\(True)/\Q (.int (FY i j:Nat))
theorem aJ.mono:∀ws (Q Q':ET->Prop),(∀d,Q d->Q' d)->aJ ws Q->aJ ws Q':=fun _ _ _ h_=>Fp fun _=>Fp fun _=>E5 (E5 (h_ _))
theorem aJ.len:∀ws (Q:ET->Prop),aJ ws Q->ws.length=2:=fun _ _ h_=>by obtain⟨_,_,e_,_⟩:=h_;subst e_;rfl
theorem aJ.eq(i j:Int)  : aJ [.d (.int i),.d (.int j)]=VL.ret (.int (FY i j:Nat):ET):=by
 refine ag fun Q=>⟨?_,fun q_=>⟨i,j,rfl,trivial,q_⟩⟩;rintro⟨i',j',e_,_,q_⟩;simp_arith only[and_true]at e_;obtain⟨rfl,rfl⟩:=e_;exact q_
theorem eI:FnScope ["one", "other"] ["one", "other"] (defScope (Cu 6)):=⟨rfl,rfl,rfl,by decide +kernel,rfl,by decide +kernel,by decide +kernel⟩
theorem d_common_divisor(Fn:FnIn K mg "common_divisor" (Cu 6) ["one", "other"])(Z:Bz mg)    : Dfn P w K mg base rl "common_divisor" ["one", "other"] 1 aJ:=by
 have sc:=eI
 refine Dfn.of Fn sc (aJ.mono) (aJ.len) (fun cdv A outer s H E hr=>(au (iK [] FZ (bg (fY hr.units) cx (aQ _) (vn 1) ah) (ax (qJ 0 1 rfl sc.nd (aa (vn 1) (aa (v_mod (vn 0) (vn 1)) ac)))))
  (ax (aH (pB Z.abs_ (aa (vn 0) ac)))))) ?_
 rintro ws Q ⟨i,j,rfl,_,hQ⟩;refine aK ?_;simp_arith only[af];refine j_ (σ:=Int×Int) (fun s=>[some (.d (.int s.1)),some (.d (.int s.2))]) (fun s=>!(s.2==0)) (fun s=>(s.2,s.1.fmod s.2)) (fun s=>s.2.natAbs) (fun s=>FY s.1 s.2=FY i j) (i,j) rfl rfl ?_ ?_ ?_
 · intro s _;simp_arith only[af]
 · intro s e c;have hc:s.2≠0:=by simpa using c
   refine⟨by rw[k3];exact e,gg hc,_,?_,rfl⟩;simp_arith only[aj,af]
 · intro s e c;have hc:s.2=0:=by simpa using c
   simp_arith only[af];rw[hc,Int.gcd_zero_right]at e;refine aE ?_;have:(if s.1<0 then -s.1 else s.1)=((FY i j:Nat):Int):=by rw[<- e];split<;>omega
   rw[this];exact hQ
noncomputable def bH:List W->(ET->Prop)->Prop:=fun ws Q=>∃(a b:Int),ws=[.d (.int a),.d (.int b)]/\((b≠0)/\(b.natAbs<2^8000))/\Q (fr (qd a b))
theorem bH.mono:∀ws (Q Q':ET->Prop),(∀d,Q d->Q' d)->bH ws Q->bH ws Q':=fun _ _ _ h_=>Fp fun _=>Fp fun _=>E5 (E5 (h_ _))
theorem bH.len:∀ws (Q:ET->Prop),bH ws Q->ws.length=2:=fun _ _ h_=>by obtain⟨_,_,e_,_⟩:=h_;subst e_;rfl
theorem bH.eq(a b:Int)(hb:b≠0)(hz:b.natAbs<2^8000):bH [.d (.int a),.d (.int b)]=VL.ret (fr (qd a b):ET):=by
 refine ag fun Q=>⟨?_,fun q_=>⟨a,b,rfl,⟨hb,hz⟩,q_⟩⟩;rintro⟨a',b',e_,_,q_⟩;simp_arith only[ee,b9,b_,bv,bh,cG]at e_;obtain⟨rfl,rfl⟩:=e_;exact q_
theorem jF:FnScope ["top", "bottom", "divisor"] ["top", "bottom"] (defScope (Cu 7)):=⟨rfl,rfl,rfl,by decide +kernel,rfl,by decide +kernel,by decide +kernel⟩
theorem d_fraction(Fn:FnIn K mg "fraction" (Cu 7) ["top", "bottom"])(Z:Bz mg)(d_common_divisor:∀rl,Dfn P w K mg base rl "common_divisor" ["one", "other"] 1 aJ)   : Dfn P w K mg base rl "fraction" ["top", "bottom"] 2 bH:=by
 have sc:=jF
 refine Dfn.of Fn sc (bH.mono) (bH.len) (fun cdv A outer s H E hr=>(au (dw (bg (dD hr.units) cx (aQ _) (vn 1) ah) (ax pi) cw)
  (au (aD 2 sc.nd (aR (d_common_divisor _) (hr.mono (by decide)) (aa (vn 0) (aa (vn 1) ac))))
  (au (dw (bg nJ mw (aQ _) (vn 1) ah) (ax (aD 2 sc.nd (va (vn 2)))) cw)
  (ax (aH (bZ (aa (v_div (vn 0) (vn 2)) (aa (v_div (vn 1) (vn 2)) ac))))))))) ?_
 rintro ws Q ⟨a,b,rfl,⟨hb,hz⟩,hQ⟩;refine aK ?_;have h0:(b==0)=false:=by simp;omega
 have g0:(FY a b:Int)≠0:=by have:=Int.gcd_ne_zero_right (a:=a) hb;omega
 have gz:((FY a b:Int)).natAbs<2^9000:=by
  rw[GT];have h1:FY a b<=b.natAbs:=Nat.le_of_dvd (by omega) (JL ..);exact Hh h1 (E6 hz (Fq (by decide) (by decide)))
 have c1:dR a (FY a b:Int):=⟨g0,gz⟩;have c2:dR b (FY a b:Int):=⟨g0,gz⟩;have c3:dR a (-(FY a b:Int)):=⟨by omega,by rw[Iz];exact gz⟩;have c4:dR b (-(FY a b:Int)):=⟨by omega,by rw[Iz];exact gz⟩;by_cases hn:b<0
 · have h1:decide (b<0)=true:=by simpa using hn
   simp_arith only[aj,af,aJ.eq,h0,h1];rw[ub hn];exact aE hQ
 · have h1:decide (b<0)=false:=by simpa using hn
   simp_arith only[aj,af,aJ.eq,h0,h1];rw[nO (by omega)];exact aE hQ
noncomputable def fU:List W->(ET->Prop)->Prop:=fun ws Q=>∃(q r:Rat),ws=[.d (fr q),.d (fr r)]/\((C6 2000 q)/\(C6 2000 r))/\Q (fr (q+r))
theorem fU.mono:∀ws (Q Q':ET->Prop),(∀d,Q d->Q' d)->fU ws Q->fU ws Q':=fun _ _ _ h_=>Fp fun _=>Fp fun _=>E5 (E5 (h_ _))
theorem fU.len:∀ws (Q:ET->Prop),fU ws Q->ws.length=2:=fun _ _ h_=>by obtain⟨_,_,e_,_⟩:=h_;subst e_;rfl
theorem fU.eq(q r:Rat)(h1:C6 2000 q)(h2:C6 2000 r):fU [.d (fr q),.d (fr r)]=VL.ret (fr (q+r):ET):=by
 refine ag fun Q=>⟨?_,fun q_=>⟨q,r,rfl,⟨h1,h2⟩,q_⟩⟩;rintro⟨q',r',e_,_,q_⟩;simp_arith only[ee,b9,b_,bv,bh,cG]at e_;obtain⟨rfl,rfl⟩:=e_;exact q_
theorem sT:FnScope ["one", "other"] ["one", "other"] (defScope (Cu 8)):=⟨rfl,rfl,rfl,by decide +kernel,rfl,by decide +kernel,by decide +kernel⟩
theorem d_plus(Fn:FnIn K mg "plus" (Cu 8) ["one", "other"])(Z:Bz mg)(d_fraction:∀rl,Dfn P w K mg base rl "fraction" ["top", "bottom"] 2 bH)   : Dfn P w K mg base rl "plus" ["one", "other"] 3 fU:=by
 have sc:=sT;refine Dfn.of Fn sc (fU.mono) (fU.len) (fun cdv A outer s H E hr=>(ax (aH (aR (d_fraction _) (hr.mono (by decide)) (aa (v_add (v_mul (bK (vn 0) ah) (bK (vn 1) ah)) (v_mul (bK (vn 1) ah) (bK (vn 0) ah))) (aa (v_mul (bK (vn 0) ah) (bK (vn 1) ah)) ac)))))) ?_;rintro ws Q ⟨q,r,rfl,⟨h1,h2⟩,hQ⟩;refine aK ?_;have m1:b6 q.num r.den:=.bb h1.bn h2.bd;have m2:b6 r.num q.den:=.bb h2.bn h1.bd;have m3:b6 q.den r.den:=.bb h1.bd h2.bd;have m4:b6 q.num r.num:=.bb h1.bn h2.bn;have d1:(q.den:Int)*r.den≠0:=by have:=gm q r;omega
 have d2:=gj h1 h2;simp_arith only[aj,af,bH.eq,EQ,qV];exact aE hQ
noncomputable def fX:List W->(ET->Prop)->Prop:=fun ws Q=>∃(q r:Rat),ws=[.d (fr q),.d (fr r)]/\((C6 2000 q)/\(C6 2000 r))/\Q (fr (q-r))
theorem fX.mono:∀ws (Q Q':ET->Prop),(∀d,Q d->Q' d)->fX ws Q->fX ws Q':=fun _ _ _ h_=>Fp fun _=>Fp fun _=>E5 (E5 (h_ _))
theorem fX.len:∀ws (Q:ET->Prop),fX ws Q->ws.length=2:=fun _ _ h_=>by obtain⟨_,_,e_,_⟩:=h_;subst e_;rfl
theorem fX.eq(q r:Rat)(h1:C6 2000 q)(h2:C6 2000 r):fX [.d (fr q),.d (fr r)]=VL.ret (fr (q-r):ET):=by
 refine ag fun Q=>⟨?_,fun q_=>⟨q,r,rfl,⟨h1,h2⟩,q_⟩⟩;rintro⟨q',r',e_,_,q_⟩;simp_arith only[ee,b9,b_,bv,bh,cG]at e_;obtain⟨rfl,rfl⟩:=e_;exact q_
theorem sV:FnScope ["one", "other"] ["one", "other"] (defScope (Cu 9)):=⟨rfl,rfl,rfl,by decide +kernel,rfl,by decide +kernel,by decide +kernel⟩
theorem d_less(Fn:FnIn K mg "less" (Cu 9) ["one", "other"])(Z:Bz mg)(d_fraction:∀rl,Dfn P w K mg base rl "fraction" ["top", "bottom"] 2 bH)   : Dfn P w K mg base rl "less" ["one", "other"] 3 fX:=by
 have sc:=sV;refine Dfn.of Fn sc (fX.mono) (fX.len) (fun cdv A outer s H E hr=>(ax (aH (aR (d_fraction _) (hr.mono (by decide)) (aa (v_sub (v_mul (bK (vn 0) ah) (bK (vn 1) ah)) (v_mul (bK (vn 1) ah) (bK (vn 0) ah))) (aa (v_mul (bK (vn 0) ah) (bK (vn 1) ah)) ac)))))) ?_;rintro ws Q ⟨q,r,rfl,⟨h1,h2⟩,hQ⟩;refine aK ?_;have m1:b6 q.num r.den:=.bb h1.bn h2.bd;have m2:b6 r.num q.den:=.bb h2.bn h1.bd;have m3:b6 q.den r.den:=.bb h1.bd h2.bd;have m4:b6 q.num r.num:=.bb h1.bn h2.bn;have d1:(q.den:Int)*r.den≠0:=by have:=gm q r;omega
 have d2:=gj h1 h2;simp_arith only[aj,af,bH.eq,EQ,wm];exact aE hQ
noncomputable def cJ:List W->(ET->Prop)->Prop:=fun ws Q=>∃(n:Nat)(qs:List Rat),ws=[.d (.list (qs.map fr))]/\((n*qs.length<=1900)/\(qs.length<=60)/\(n<=2000)/\(∀q∈qs,C6 n q))/\Q (fr (cp qs))
theorem cJ.mono:∀ws (Q Q':ET->Prop),(∀d,Q d->Q' d)->cJ ws Q->cJ ws Q':=fun _ _ _ h_=>Fp fun _=>Fp fun _=>E5 (E5 (h_ _))
theorem cJ.len:∀ws (Q:ET->Prop),cJ ws Q->ws.length=1:=fun _ _ h_=>by obtain⟨_,_,e_,_⟩:=h_;subst e_;rfl
theorem cJ.eq(n:Nat)(qs:List Rat)(hn:n*qs.length<=1900)(h1:qs.length<=60)(n2:n<=2000)(hq:∀q∈qs,C6 n q):cJ [.d (.list (qs.map fr))]=VL.ret (fr (cp qs):ET):=by
 refine ag fun Q=>⟨?_,fun q_=>⟨n,qs,rfl,⟨hn,h1,n2,hq⟩,q_⟩⟩;rintro⟨n',qs',e_,_,q_⟩;simp_arith only[ee,b9,b_,bv,bh,cG,dY,cQ]at e_;obtain⟨rfl,rfl⟩:=e_;exact q_
theorem m7:FnScope ["some", "bottom", "one"] ["some"] (defScope (Cu 10)):=⟨rfl,rfl,rfl,by decide +kernel,rfl,by decide +kernel,by decide +kernel⟩
theorem d_sum_of(Fn:FnIn K mg "sum_of" (Cu 10) ["some"])(Z:Bz mg)(d_fraction:∀rl,Dfn P w K mg base rl "fraction" ["top", "bottom"] 2 bH)(d_common_divisor:∀rl,Dfn P w K mg base rl "common_divisor" ["one", "other"] 1 aJ)   : Dfn P w K mg base rl "sum_of" ["some"] 3 cJ:=by
 have sc:=m7
 refine Dfn.of Fn sc (cJ.mono) (cJ.len) (fun cdv A outer s H E hr=>(au (aD 1 sc.nd ah)
  (au (cS [2] FZ rfl (c9 (vn 0)) (av 2 sc.nd) (ax (uT 1 sc.nd ul (v_div (bK (vn 2) ah) (aR (d_common_divisor _) (hr.mono (by decide)) (aa (vn 1) (aa (bK (vn 2) ah) ac)))))))
  (ax (aH (aR (d_fraction _) (hr.mono (by decide)) (aa (v_sum Z.sum_ (aa (bN ["one", "bottom"] [none,some 1] rfl (c9 (vn 0)) (fun _=>(av 0 (show Gu (["one", "bottom"]:List Str) by decide +kernel))) (fun _=>cY) (fun _=>(v_mul (bK (vn 0) ah) (v_div (vn 1) (bK (vn 0) ah))))) ac)) (aa (vn 1) ac)))))))) ?_
 rintro ws Q ⟨n,qs,rfl,⟨hn,h1,n2,hq⟩,hQ⟩;refine aK ?_;have sz:=FI;simp_arith only[aj,af,bH.eq,aJ.eq,EQ];refine gb (xs:=qs) (enc:=fr) (fun i ρ=>∃B:Int,LcmI n (qs.take i) B/\ρ=[some (.d (.list (qs.map fr))),some (.d (.int B)),none]) rfl ⟨1,LcmI.nil n,rfl⟩ ?_ ?_
 · rintro i hi ρ ⟨B,hB,rfl⟩ K hK;have sq:=hq _ (Gb hi);have s2:C6 2000 qs[i]:=sq.mono n2;have st:=hB.step sq;have dp:=qA qs[i];have gp:(0:Int)<(FY B qs[i].den:Int):=by have:=HI B (show(qs[i].den:Int)≠0 by omega);omega
   have gl:(FY B qs[i].den:Int)<=qs[i].den:=Int.le_of_dvd dp (Int.gcd_dvd_right ..);have nl:n*(qs.take i).length<=n*qs.length:=K7 n (by rw[GK];omega);have bl:B<2^2000:=Jt hB.z (eJ (by decide) (by omega));have bp:=hB.p;have db:(qs[i].den:Int)<2^2000:=by have:=s2.2;exact_mod_cast this
   have cd:dR (qs[i].den:Int) (FY B qs[i].den:Int):=rK (k:=2000) (by omega) (hJ (by omega) (by omega)) (by decide);have ef:(qs[i].den:Int).fdiv (FY B qs[i].den:Int)=(qs[i].den:Int) / (FY B qs[i].den:Int):=Hd _ (by omega);have q0:0<=(qs[i].den:Int) / (FY B qs[i].den:Int):=Int.ediv_nonneg (by omega) (by omega);have q1:(qs[i].den:Int) / (FY B qs[i].den:Int)<=qs[i].den:=Int.ediv_le_self _ (by omega);have cm:b6 B ((qs[i].den:Int) / (FY B qs[i].den:Int)):=.bb (oX (hJ (by omega) bl) (by decide)) (oX (k:=2000) (hJ q0 (by omega)) (by decide));simp_arith only[aj,af,bH.eq,aJ.eq,EQ,ef];exact hK _ (bW ⟨_,by rw[FN hi];exact st,rfl⟩)
 · rintro ρ ⟨B,hB,rfl⟩;rw[Fi (E3 _)]at hB;have bl:B<2^2000:=Jt hB.z (eJ (by decide) (by omega));have bp:=hB.p;have b0:B≠0:=by omega
   have bz:B.natAbs<2^8000:=hJ (by omega) (Jt bl (eJ (by decide) (by decide)));simp_arith only[aj,af,EQ];refine dQ (xs:=qs) (enc:=fr) (fun q=>.int (q.num*(B / q.den))) rfl ?_ (by omega) ?_
   · intro q mq;have s2:C6 2000 q:=(hq q mq).mono n2;have dp:=qA q;have db:(q.den:Int)<2^2000:=by have:=s2.2;exact_mod_cast this
     have cd:dR B (q.den:Int):=rK (k:=2000) (by omega) (hJ (by omega) (by omega)) (by decide);have ef:B.fdiv (q.den:Int)=B / (q.den:Int):=Hd _ (by omega);have q0:0<=B / (q.den:Int):=Int.ediv_nonneg (by omega) (by omega);have q1:B / (q.den:Int)<=B:=Int.ediv_le_self _ (by omega);have cm:b6 q.num (B / (q.den:Int)):=.bb s2.bn (oX (k:=2000) (hJ q0 (by omega)) (by decide));simp_arith only[aj,af,Dr,EQ,ef]
   · have e:=qS hB.p qs hB.d;rw[p7];simp_arith only[aj,af,EN,bH.eq,aJ.eq,e];exact aE hQ
noncomputable def cf:List W->(ET->Prop)->Prop:=fun ws Q=>∃(q r:Rat),ws=[.d (fr q),.d (fr r)]/\((C6 2000 q)/\(C6 2000 r))/\Q (.bool (decide (q<r)))
theorem cf.mono:∀ws (Q Q':ET->Prop),(∀d,Q d->Q' d)->cf ws Q->cf ws Q':=fun _ _ _ h_=>Fp fun _=>Fp fun _=>E5 (E5 (h_ _))
theorem cf.len:∀ws (Q:ET->Prop),cf ws Q->ws.length=2:=fun _ _ h_=>by obtain⟨_,_,e_,_⟩:=h_;subst e_;rfl
theorem cf.eq(q r:Rat)(h1:C6 2000 q)(h2:C6 2000 r):cf [.d (fr q),.d (fr r)]=VL.ret (.bool (decide (q<r)):ET):=by
 refine ag fun Q=>⟨?_,fun q_=>⟨q,r,rfl,⟨h1,h2⟩,q_⟩⟩;rintro⟨q',r',e_,_,q_⟩;simp_arith only[ee,b9,b_,bv,bh,cG]at e_;obtain⟨rfl,rfl⟩:=e_;exact q_
theorem jE:FnScope ["one", "other"] ["one", "other"] (defScope (Cu 11)):=⟨rfl,rfl,rfl,by decide +kernel,rfl,by decide +kernel,by decide +kernel⟩
theorem d_is_below(Fn:FnIn K mg "is_below" (Cu 11) ["one", "other"])(Z:Bz mg)    : Dfn P w K mg base rl "is_below" ["one", "other"] 1 cf:=by
 have sc:=jE;refine Dfn.of Fn sc (cf.mono) (cf.len) (fun cdv A outer s H E hr=>(ax (aH (sv nJ mw (aQ _) (v_mul (bK (vn 0) ah) (bK (vn 1) ah)) (v_mul (bK (vn 1) ah) (bK (vn 0) ah)))))) ?_;rintro ws Q ⟨q,r,rfl,⟨h1,h2⟩,hQ⟩;refine aK ?_;have m1:b6 q.num r.den:=.bb h1.bn h2.bd;have m2:b6 r.num q.den:=.bb h2.bn h1.bd;simp_arith only[aj,af,EQ,zu];exact aE hQ
noncomputable def cM:List W->(ET->Prop)->Prop:=fun ws Q=>∃(rows:List (List Int)),ws=[.d (.list (rows.map kO))]/\((rows.length<=2)/\(∀r∈rows,r.length<=7))/\Q (.list ((DI rows).map bS))
theorem cM.mono:∀ws (Q Q':ET->Prop),(∀d,Q d->Q' d)->cM ws Q->cM ws Q':=fun _ _ _ h_=>Fp fun _=>E5 (E5 (h_ _))
theorem cM.len:∀ws (Q:ET->Prop),cM ws Q->ws.length=1:=fun _ _ h_=>by obtain⟨_,e_,_⟩:=h_;subst e_;rfl
theorem cM.eq(rows:List (List Int))(h4:rows.length<=2)(h3:∀r∈rows,r.length<=7):cM [.d (.list (rows.map kO))]=VL.ret (.list ((DI rows).map bS):ET):=by
 refine ag fun Q=>⟨?_,fun q_=>⟨rows,rfl,⟨h4,h3⟩,q_⟩⟩;rintro⟨rows',e_,_,q_⟩;simp_arith only[ee,b9,b_,bv,bh,cG,dY,cQ]at e_;obtain rfl:=e_;exact q_
theorem lF:FnScope ["rows", "chosen", "row"] ["rows"] (defScope (Cu 17)):=⟨rfl,rfl,rfl,by decide +kernel,rfl,by decide +kernel,by decide +kernel⟩
theorem d_choices(Fn:FnIn K mg "choices" (Cu 17) ["rows"])(Z:Bz mg)    : Dfn P w K mg base rl "choices" ["rows"] 1 cM:=by
 have sc:=lF
 refine Dfn.of Fn sc (cM.mono) (cM.len) (fun cdv A outer s H E hr=>(au (aD 1 sc.nd (fJ (aa (bZ ac) ac)))
  (au (cS [2] FZ rfl (c9 (vn 0)) (av 2 sc.nd) (ax (jt 1 sc.nd ["begun", "thing", "row"] [none,none,some 2] rfl (c9 (vn 1)) (fun _=>(av 0 (show Gu (["begun", "thing", "row"]:List Str) by decide +kernel))) (fun _=>cY) (fun _=>(c9 (vn 2))) (fun _=>(av 1 (show Gu (["begun", "thing", "row"]:List Str) by decide +kernel))) (fun _=>cY) (fun _=>(eU (vn 0) (bZ (aa (vn 1) ac)))))))
  (ax (aH (vn 1)))))) ?_
 rintro ws Q ⟨rows,rfl,⟨h4,h3⟩,hQ⟩;refine aK ?_;have sz:=FI;simp_arith only[aj,af];refine gb (xs:=rows) (enc:=kO) (fun i ρ=>∃ch:List (List Int),ch=DI (rows.take i)/\ch.length<=7^i/\(∀b∈ch,b.length<=i)/\ρ=[some (.d (.list (rows.map kO))),some (.d (.list (ch.map bS))),none]) rfl ⟨[[]],rfl,by simp,by simp,rfl⟩ ?_ ?_
 · rintro i hi ρ ⟨ch,hch,hl,hbl,rfl⟩ K hK;have hr:=h3 _ (Gb hi);have p1:7^i<=7^1:=Fq (by decide) (by omega);generalize hrr:rows[i]=r at hr;simp_arith only[aj,af,ER,kO]
   have hlen:(ch.flatMap fun b=>r.map fun t=>bS (b++[t])).length<=7^i*7:=by
    rw[HA]
    have:∀(l:List (List Int)),(l.map fun b=>(r.map fun t=>bS (b++[t])).length).sum<=l.length*7:=fun l=>by
     induction l with
     | nil=>simp
     | cons b l ih=>rw[Fd,List.sum_cons,E1,Gq];omega
    exact Gk (this ch) (Nat.mul_le_mul_right 7 hl)
   refine zB (xs:=ch) (enc:=bS) (fun b=>r.map fun t=>bS (b++[t])) rfl ?_ (by omega) ?_
   · intro b mb acc ha;rw[E1]at ha;simp_arith only[aj,af,rq,kO,bS];rw[eh (enc:=FG) (fun t=>some (bS (b++[t]))) r acc ?_ ha,Kf]
     · rfl
     intro t mt;have hb1:=hbl b mb;have hb2:b.length+1<=sizeLine:=by omega
     simp_arith only[aj,af,Dr];simp[bS]
   · try simp_arith only[aj,af]
     refine hK _ (bW ⟨ch.flatMap fun b=>r.map fun t=>b++[t],?_,?_,?_,?_⟩)
     · rw[FN hi,hrr];unfold DI;rw[List.foldl_append];show _=List.flatMap _ _;rw[hch];rfl
     · rw[Kw];refine Gk (Nat.le_of_eq ?_) hlen;rw[HA,HA];simp
     · intro b mb;obtain⟨b',mb',hb'⟩:=J8.mp mb;obtain⟨x,_,rfl⟩:=FP.mp hb';have:=hbl b' mb';simp;omega
     · simp[fo,List.map_flatMap];rfl
 · rintro ρ ⟨ch,hch,hl,_,rfl⟩;rw[Fi (E3 _)]at hch;subst hch;simp_arith only[aj,af];exact aE hQ
noncomputable def bA:List W->(ET->Prop)->Prop:=fun ws Q=>∃(cs:List (List Rat)),ws=[.d (ptsQ cs)]/\((cs.length<=2)/\(∀c∈cs,c.length<=6))/\Q (.list ((pch cs).map bS))
theorem bA.mono:∀ws (Q Q':ET->Prop),(∀d,Q d->Q' d)->bA ws Q->bA ws Q':=fun _ _ _ h_=>Fp fun _=>E5 (E5 (h_ _))
theorem bA.len:∀ws (Q:ET->Prop),bA ws Q->ws.length=1:=fun _ _ h_=>by obtain⟨_,e_,_⟩:=h_;subst e_;rfl
theorem bA.eq(cs:List (List Rat))(hl:cs.length<=2)(hc:∀c∈cs,c.length<=6):bA [.d (ptsQ cs)]=VL.ret (.list ((pch cs).map bS):ET):=by
 refine ag fun Q=>⟨?_,fun q_=>⟨cs,rfl,⟨hl,hc⟩,q_⟩⟩;rintro⟨cs',e_,_,q_⟩;simp_arith only[ee,b9,b_,bv,bh,cG,dY,cQ]at e_;obtain rfl:=e_;exact q_
theorem ii:FnScope ["cuts"] ["cuts"] (defScope (Cu 19)):=⟨rfl,rfl,rfl,by decide +kernel,rfl,by decide +kernel,by decide +kernel⟩
theorem d_patches_of(Fn:FnIn K mg "patches_of" (Cu 19) ["cuts"])(Z:Bz mg)(d_choices:∀rl,Dfn P w K mg base rl "choices" ["rows"] 1 cM)   : Dfn P w K mg base rl "patches_of" ["cuts"] 2 bA:=by
 have sc:=ii;refine Dfn.of Fn sc (bA.mono) (bA.len) (fun cdv A outer s H E hr=>(ax (aH (aR (d_choices _) (hr.mono (by decide)) (aa (bN ["ends"] [none] rfl (fI (vn 0)) (fun _=>(av 0 (show Gu (["ends"]:List Str) by decide +kernel))) (fun _=>cY) (fun _=>(mG Z.list_ Z.range_ (aa (v_add (cZ Z.len_ (aa (vn 0) ac)) ah) ac)))) ac))))) ?_;rintro ws Q ⟨cs,rfl,⟨hl,hc⟩,hQ⟩;refine aK ?_;have sz:=FI;have l2:(cs.map fun c=>cF 0 (c.length+1)).length<=2:=by rw[E1];exact hl
 have l7:∀r∈cs.map (fun c=>cF 0 (c.length+1)),r.length<=7:=fun r hr=>by
  obtain⟨c,mc,rfl⟩:=FP.mp hr;have:=hc c mc;rw[cj];omega
 simp_arith only[aj,af,EQ];refine dQ (xs:=cs) (enc:=C_) (fun c=>kO (cF 0 (c.length+1))) rfl ?_ (by omega) ?_
 · intro c mc;have:=hc c mc;have g1 : -(2^62)<=((c.length:Int)+1)/\((c.length:Int)+1)<2^62:=by omega
   have e1:((c.length:Int)+1).toNat=c.length+1:=by omega
   simp_arith only[aj,af,Dr,EQ];rw[e1,dJ];rfl
 · rw[p6];simp_arith only[aj,af,cM.eq];exact aE hQ
noncomputable def ca:List W->(ET->Prop)->Prop:=fun ws Q=>∃(s:Sh)(p:List Int),ws=[.d (shD s),.d (bS p)]/\((s.OkM 6 20)/\(l9 s.cuts p))/\Q (fr (s.at p))
theorem ca.mono:∀ws (Q Q':ET->Prop),(∀d,Q d->Q' d)->ca ws Q->ca ws Q':=fun _ _ _ h_=>Fp fun _=>Fp fun _=>E5 (E5 (h_ _))
theorem ca.len:∀ws (Q:ET->Prop),ca ws Q->ws.length=2:=fun _ _ h_=>by obtain⟨_,_,e_,_⟩:=h_;subst e_;rfl
theorem ca.eq(s:Sh)(p:List Int)(hs:s.OkM 6 20)(hp:l9 s.cuts p):ca [.d (shD s),.d (bS p)]=VL.ret (fr (s.at p):ET):=by
 refine ag fun Q=>⟨?_,fun q_=>⟨s,p,rfl,⟨hs,hp⟩,q_⟩⟩;rintro⟨s',p',e_,_,q_⟩;simp_arith only[ee,b9,b_,bv,bh,cG,dY,cQ]at e_;obtain⟨rfl,rfl⟩:=e_;exact q_
theorem jB:FnScope ["sheet", "patch", "value", "stretch"] ["sheet", "patch"] (defScope (Cu 21)):=⟨rfl,rfl,rfl,by decide +kernel,rfl,by decide +kernel,by decide +kernel⟩
theorem d_value_in(Fn:FnIn K mg "value_in" (Cu 21) ["sheet", "patch"])(Z:Bz mg)    : Dfn P w K mg base rl "value_in" ["sheet", "patch"] 1 ca:=by
 have sc:=jB
 refine Dfn.of Fn sc (ca.mono) (ca.len) (fun cdv A outer s H E hr=>(au (aD 2 sc.nd (bK (vn 0) ah))
  (au (cS [3] FZ rfl (fI (vn 1)) (av 3 sc.nd) (ax (aD 2 sc.nd (bK (vn 2) (vn 3)))))
  (ax (aH (vn 2)))))) ?_
 rintro ws Q ⟨s,p,rfl,⟨hs,hp⟩,hQ⟩;refine aK ?_
 cases s with
 | one c v =>
   obtain⟨k,rfl,k0,k1⟩:=l9.one hp;have hl:v.length=c.length+1:=hs.2.1;have e:=bu (xs:=v) 0 k0 (by omega);simp_arith only[aj,af,EO,EQ,kP,ja,Sh.vD,e]
   exact aE hQ
 | two c d vs =>
   obtain⟨k,j,rfl,⟨k0,k1⟩,j0,j1⟩:=l9.two hp;obtain⟨_,_,hl,hv⟩:=hs;have e:=bu (xs:=vs) [] k0 (by omega);have hv:=(hv _ (getD_mem (d:=[]) (show k.toNat<vs.length by omega))).1;have e2:=bu (xs:=vs.getD k.toNat []) 0 j0 (by omega);simp_arith only[aj,af,EO,EQ,kP,ja,Sh.vD,e,e2];exact aE hQ
noncomputable def bC:List W->(ET->Prop)->Prop:=fun ws Q=>∃(x y:Rat)(b:Bool),ws=[.d (fr x),.d (fr y),.d (.bool b)]/\((C6 2000 x)/\(C6 2000 y))/\Q (.bool (DA x y b))
theorem bC.mono:∀ws (Q Q':ET->Prop),(∀d,Q d->Q' d)->bC ws Q->bC ws Q':=fun _ _ _ h_=>Fp fun _=>Fp fun _=>Fp fun _=>E5 (E5 (h_ _))
theorem bC.len:∀ws (Q:ET->Prop),bC ws Q->ws.length=3:=fun _ _ h_=>by obtain⟨_,_,_,e_,_⟩:=h_;subst e_;rfl
theorem bC.eq(x y:Rat)(b:Bool)(h1:C6 2000 x)(h2:C6 2000 y):bC [.d (fr x),.d (fr y),.d (.bool b)]=VL.ret (.bool (DA x y b):ET):=by
 refine ag fun Q=>⟨?_,fun q_=>⟨x,y,b,rfl,⟨h1,h2⟩,q_⟩⟩;rintro⟨x',y',b',e_,_,q_⟩;simp_arith only[ee,b9,b_,bv,bh,cG]at e_;obtain⟨rfl,rfl,rfl⟩:=e_;exact q_
theorem ik:FnScope ["one", "other", "may_meet"] ["one", "other", "may_meet"] (defScope (Cu 13)):=⟨rfl,rfl,rfl,by decide +kernel,rfl,by decide +kernel,by decide +kernel⟩
theorem d_goes_ahead(Fn:FnIn K mg "goes_ahead" (Cu 13) ["one", "other", "may_meet"])(Z:Bz mg)(d_is_below:∀rl,Dfn P w K mg base rl "is_below" ["one", "other"] 1 cf)   : Dfn P w K mg base rl "goes_ahead" ["one", "other", "may_meet"] 2 bC:=by
 have sc:=ik
 refine Dfn.of Fn sc (bC.mono) (bC.len) (fun cdv A outer s H E hr=>(au (dw (qM (vn 2)) (ax (aH (v_not (aR (d_is_below _) (hr.mono (by decide)) (aa (vn 1) (aa (vn 0) ac)))))) cw)
  (ax (aH (aR (d_is_below _) (hr.mono (by decide)) (aa (vn 0) (aa (vn 1) ac))))))) ?_
 rintro ws Q ⟨x,y,b,rfl,⟨h1,h2⟩,hQ⟩;refine aK ?_;simp_arith only[aj,af,cf.eq,EQ];cases b<;>simp only[DA,HG,↓reduceIte]at hQ ⊢ <;> exact aE hQ
noncomputable def fV:List W->(ET->Prop)->Prop:=fun ws Q=>∃(x:Rat)(s:Sd)(w:Str),ws=[.d (fr x),.d (C0 s),.d (.str w)]/\((C6 60 x)/\(s.Sm)/\(Ds w))/\Q (.bool (Dh s w x))
theorem fV.mono:∀ws (Q Q':ET->Prop),(∀d,Q d->Q' d)->fV ws Q->fV ws Q':=fun _ _ _ h_=>Fp fun _=>Fp fun _=>Fp fun _=>E5 (E5 (h_ _))
theorem fV.len:∀ws (Q:ET->Prop),fV ws Q->ws.length=3:=fun _ _ h_=>by obtain⟨_,_,_,e_,_⟩:=h_;subst e_;rfl
theorem fV.eq(x:Rat)(s:Sd)(w:Str)(sx:C6 60 x)(sm:s.Sm)(hw:Ds w):fV [.d (fr x),.d (C0 s),.d (.str w)]=VL.ret (.bool (Dh s w x):ET):=by
 refine ag fun Q=>⟨?_,fun q_=>⟨x,s,w,rfl,⟨sx,sm,hw⟩,q_⟩⟩;rintro⟨x',s',w',e_,_,q_⟩;simp_arith only[ee,b9,b_,bv,bh,cG]at e_;obtain⟨rfl,rfl,rfl⟩:=e_;exact q_
theorem sU:FnScope ["x", "side", "way", "ahead", "behind"] ["x", "side", "way"] (defScope (Cu 14)):=⟨rfl,rfl,rfl,by decide +kernel,rfl,by decide +kernel,by decide +kernel⟩
theorem d_lies(Fn:FnIn K mg "lies" (Cu 14) ["x", "side", "way"])(Z:Bz mg)(d_goes_ahead:∀rl,Dfn P w K mg base rl "goes_ahead" ["one", "other", "may_meet"] 2 bC)   : Dfn P w K mg base rl "lies" ["x", "side", "way"] 3 fV:=by
 have sc:=sU
 refine Dfn.of Fn sc (fV.mono) (fV.len) (fun cdv A outer s H E hr=>(au (aD 3 sc.nd (aR (d_goes_ahead _) (hr.mono (by decide)) (aa (vn 0) (aa (bK (vn 1) (va ah)) (aa (sv tV mB (aQ _) (vn 2) eY) ac)))))
  (au (dw (bg tV mB (aQ _) (bK (vn 1) ah) eY) (ax (aH (vn 3))) cw)
  (au (aD 4 sc.nd (aR (d_goes_ahead _) (hr.mono (by decide)) (aa (bK (vn 1) ah) (aa (vn 0) (aa (sv nI iM (aQ _) (vn 2) eY) ac)))))
  (au (dw (bg tV mB (aQ _) (bK (vn 1) ah) eY) (ax (aH (v_and (vn 4) (u_ (vn 3))))) cw)
  (ax (aH (v_or (vn 4) (u_ (vn 3)))))))))) ?_
 rintro ws Q ⟨x,s,w,rfl,⟨sx,sm,hw⟩,hQ⟩;have w1:decide (FT "from" = FT "to")=false:=by decide +kernel
 have w2:decide (FT "round" = FT "to")=false:=by decide +kernel
 have w3:decide (FT "round" = FT "from")=false:=by decide +kernel
 have w4:decide (FT "to" = FT "to")=true:=by decide +kernel
 have w5:decide (FT "from" = FT "from")=true:=by decide +kernel
 refine aK ?_;have sx':=sx.up;have a1:C6 2000 s.last:=sm.2.up;have a2:C6 2000 s.first:=sm.1.up
 cases s with
 | to t =>
   have a1:C6 2000 t:=a1;simp_arith only[aj,af,bC.eq,EQ,w1,w2,w3,w4,w5,C0]
   exact aE hQ
 | «from» a b =>
   have a1:C6 2000 b:=a1;have a2:C6 2000 a:=a2;simp_arith only[aj,af,bC.eq,EQ,w1,w2,w3,w4,w5,C0]
   exact aE hQ
 | round a b =>
   have a1:C6 2000 b:=a1;have a2:C6 2000 a:=a2;simp_arith only[aj,af,bC.eq,EQ,w1,w2,w3,w4,w5,C0];exact aE hQ
noncomputable def bT:List W->(ET->Prop)->Prop:=fun ws Q=>∃(qs:List Rat)(ss:List Sd)(w:Str),ws=[.d (C_ qs),.d (l4 ss),.d (.str w)]/\((zJ ss.length qs)/\(zK ss)/\(Ds w))/\Q (.bool (Dl qs ss w))
theorem bT.mono:∀ws (Q Q':ET->Prop),(∀d,Q d->Q' d)->bT ws Q->bT ws Q':=fun _ _ _ h_=>Fp fun _=>Fp fun _=>Fp fun _=>E5 (E5 (h_ _))
theorem bT.len:∀ws (Q:ET->Prop),bT ws Q->ws.length=3:=fun _ _ h_=>by obtain⟨_,_,_,e_,_⟩:=h_;subst e_;rfl
theorem bT.eq(qs:List Rat)(ss:List Sd)(w:Str)(hp:zJ ss.length qs)(hb:zK ss)(hw:Ds w):bT [.d (C_ qs),.d (l4 ss),.d (.str w)]=VL.ret (.bool (Dl qs ss w):ET):=by
 refine ag fun Q=>⟨?_,fun q_=>⟨qs,ss,w,rfl,⟨hp,hb,hw⟩,q_⟩⟩;rintro⟨qs',ss',w',e_,_,q_⟩;simp_arith only[ee,b9,b_,bv,bh,cG]at e_;obtain⟨rfl,rfl,rfl⟩:=e_;exact q_
theorem lE:FnScope ["point", "box", "way"] ["point", "box", "way"] (defScope (Cu 15)):=⟨rfl,rfl,rfl,by decide +kernel,rfl,by decide +kernel,by decide +kernel⟩
theorem d_lies_in(Fn:FnIn K mg "lies_in" (Cu 15) ["point", "box", "way"])(Z:Bz mg)(d_lies:∀rl,Dfn P w K mg base rl "lies" ["x", "side", "way"] 3 fV)   : Dfn P w K mg base rl "lies_in" ["point", "box", "way"] 4 bT:=by
 have sc:=lE;refine Dfn.of Fn sc (bT.mono) (bT.len) (fun cdv A outer s H E hr=>(ax (aH (v_all Z.all_ (aa (bN ["x", "side", "way"] [none,none,some 2] rfl (ke Z.zip_ (aa (vn 0) (aa (vn 1) ac))) (fun _=>(gO (n:=2) rfl (bM (av 0 (show Gu (["x", "side", "way"]:List Str) by decide +kernel)) (bM (av 1 (show Gu (["x", "side", "way"]:List Str) by decide +kernel)) eF)))) (fun _=>cY) (fun _=>(aR (d_lies _) (hr.mono (by decide)) (aa (vn 0) (aa (vn 1) (aa (vn 2) ac)))))) ac))))) ?_;rintro ws Q ⟨qs,ss,w,rfl,⟨hp,hb,hw⟩,hQ⟩;refine aK ?_;have sz:=FI;have h4:=hb.2.1;simp_arith only[af,EQ];rw[hR];refine dQ (xs:=qs.zip ss) (fun p=>.bool (Dh p.2 w p.1)) rfl ?_ (by rw[Jj];omega) ?_
 · rintro⟨x,s⟩ hm;obtain⟨mx,ms⟩:=Hq hm;have:=hp.2 x mx;have:=hb.2.2 s ms;simp_arith only[aj,af,Dr,fV.eq]
 · have e:(qs.zip ss).map (fun p=>J0 (Dh p.2 w p.1))=((qs.zip ss).map fun p=>Dh p.2 w p.1).map .bool:=by rw[GC];rfl
   rw[e];simp_arith only[aj,af];refine aE ?_;rw[List.all_map];exact hQ
noncomputable def De(p:List Int)(i:Nat):List Int:=p.take i++[p.getD i 0+1]++p.drop (i+1)
noncomputable def aw(s:Sh):Nat->List Int->Rat
 | 0,p=>s.at p
 | i+1,p=>aw s i p-(if De p i∈pch s.cuts then aw s i (De p i)else 0)
noncomputable def Dp(cs:List (List Rat))(G:List Int->Rat):List (List Int×ET):=(pch cs).map fun p=>(p,fr (G p))
theorem jv(cs:List (List Rat))(G:List Int->Rat)(g:List Int):iI (Dp cs G) g=if g∈pch cs then some (fr (G g))else none:=by
 unfold iI Dp;generalize pch cs=l
 induction l with
 | nil=>rfl
 | cons a l ih =>
   rw[Fd,GA];by_cases e:a=g
   · subst e;simp
   · have e':¬g=a:=fun z=>e z.symm;simp only[e,decide_false];rw[ih];simp[e']
theorem nn{k:List Int}{x:ET}(h:∀kv∈kvs,kv.1≠k):gF kvs k x=kvs++[(k,x)]:=by
 unfold gF;rw[if_neg];simp only[List.any_eq_true,decide_eq_true_eq,not_exists,not_and];exact h
theorem oq(G:List Int->ET):∀(l r:List (List Int)),(r++l).Nodup->(l.map fun p=>(p,G p)).foldl (fun a p=>gF a p.1 p.2) (r.map fun p=>(p,G p))=(r++l).map fun p=>(p,G p)
 | [],r,_=>by simp
 | a::l,r,h=>by
   have hn:∀kv∈r.map (fun p=>(p,G p)),kv.1≠a:=by
    intro kv mk;obtain⟨p,mp,rfl⟩:=FP.mp mk;intro e;have:=(HU.mp h).2.2 p mp a E7;exact this e
   rw[Fd,HL,nn hn];have e:(r.map fun p=>(p,G p))++[(a,G a)]=(r++[a]).map fun p=>(p,G p):=by simp
   show IW _ ((r.map fun p=>(p,G p))++[(a,G a)]) _=_;rw[e,oq G l (r++[a]) (by simpa using h)];simp
theorem jR(a:Int)(n:Nat):(cF a n).Nodup:=by
 unfold cF;refine G9.mpr ?_;exact(List.nodup_range (n:=n)).imp fun h=>by omega
theorem re(s:Sh):(pch s.cuts).Nodup:=by
 cases s with
 | one c v =>
   show(DI [cF 0 (c.length+1)]).Nodup;rw[uJ]
   exact G9.mpr ((jR 0 _).imp fun h e=>h (by injection e))
 | two c d vs =>
   show(DI [cF 0 (c.length+1),cF 0 (d.length+1)]).Nodup;rw[xG];refine KC.mpr ⟨fun a _=>G9.mpr ((jR 0 _).imp fun h e=>h (by injection e with _ e;injection e)),(jR 0 _).imp fun{a b} h x mx y my e=>?_⟩;obtain⟨j,_,rfl⟩:=FP.mp mx;obtain⟨k,_,rfl⟩:=FP.mp my
   injection e with e
   exact h e
theorem qY(s:Sh)(G:List Int->Rat):((pch s.cuts).map fun p=>(p,fr (G p))).foldl (fun a p=>gF a p.1 p.2) []=Dp s.cuts G:=oq (fun p=>fr (G p)) (pch s.cuts) [] (re s)
theorem iD{m:Nat}{s:Sh}(h:s.OkM m 20):∀(i:Nat)(p:List Int),p∈pch s.cuts->C6 (21*2^i-1) (aw s i p)
 | 0,p,mp=>(s.at_sm h (s.pch_ok p mp)).mono (by omega)
 | i+1,p,mp=>by
   have h1:=iD h i p mp
   have h2:C6 (21*2^i-1) (if De p i∈pch s.cuts then aw s i (De p i)else 0):=by
    split
    · exact iD h i _ (by assumption)
    · exact C8.mono (by have:=Nat.pow_pos (n:=i) (show 0<2 by decide);omega)
   have e:21*2^i-1+(21*2^i-1)+1=21*2^(i+1)-1:=by rw[Kw];have:=Nat.pow_pos (n:=i) (show 0<2 by decide);omega
   rw[<- e];exact vR h1 h2
theorem iC{s:Sh}(h:s.OkM m 20)(hi:i<=2)(mp:p∈pch s.cuts):C6 90 (aw s i p):=(iD h i p mp).mono (by
 have:=Fq (show 0<2 by decide) hi;omega)
noncomputable def endsP(cs:List (List Rat))(p:List Int):List Rat:=(cs.zip p).map fun z=>(z.1++[1]).getD z.2.toNat 0
noncomputable def Cb(z:List Rat×Rat):ET:=.tuple [DJ z.1,fr z.2]
noncomputable def cK(s:Sh):List (List Rat×Rat):=((pch s.cuts).filter fun p=>decide (aw s s.cuts.length p≠0)).map fun p=>(endsP s.cuts p,aw s s.cuts.length p)
noncomputable def C1(q:Rat):Rat:=if q<0 then -q else q
noncomputable def lC(l:List (List Rat×Rat)):Rat:=l.foldl (fun a z=>if z.1=Fg z.1.length 1 then a else a+C1 z.2) 0
theorem xy(a b:Rat):Gn (Cw a) (Cw b)=decide (a=b):=by
 have e:=jh a b;show Gn (.tuple [.str "to", fr a]) (.tuple [.str "to", fr b])=_;simp only[Gn,Hz]at e ⊢;simp[e]
theorem ox:∀(es fs:List Rat),Hz (es.map Cw) (fs.map Cw)=decide (es=fs)
 | [],[]=>by simp[Hz]
 | [],_::_=>by simp[Hz]
 | _::_,[]=>by simp[Hz]
 | a::es,b::fs=>by
   rw[Fd,Fd];unfold Hz;rw[xy,ox es fs];by_cases h:a=b<;>by_cases g:es=fs<;>simp[h,g]
theorem xz(es fs:List Rat):Gn (DJ es) (DJ fs)=decide (es=fs):=by
 unfold DJ;simp only[Gn];exact ox es fs
theorem fN(es:List Rat):Gf (DJ es)=true:=by
 have h1:∀es:List Rat,GM (es.map Cw)=true:=fun es=>by
  induction es with
  | nil=>rfl
  | cons e es ih=>simp[GM,GZ,Cw,C0,fr]at ih ⊢;exact⟨by decide +kernel,ih⟩
 have h2:∀es:List Rat,GR (es.map Cw)<=3:=fun es=>by
  induction es with
  | nil=>simp[GR]
  | cons e es ih =>
    rw[Fd];unfold GR;have:(Cw e).depth<=2:=by simp[Cw,C0,fr,Hi,GR]
    omega
 have:=h2 es;unfold DJ Gf;simp[GZ,h1,Hi];omega
theorem pZ(n:Nat):Gw (Fg n [Gw [ET.str (FT "to"),fr 1]]).flatten=DJ (Fg n 1):=by
 rw[List.flatten_replicate_singleton];unfold DJ;rw[List.map_replicate];rfl
theorem eg{s:Sh}(h:l9 s.cuts p):(endsP s.cuts p).length=s.cuts.length:=by unfold endsP;rw[E1,Jj,h.1,Nat.min_self]
theorem cpos(s:Sh):1<=s.cuts.length:=by cases s<;>simp[Sh.cuts]
theorem eE{s:Sh}(h:z∈cK s):∃p∈pch s.cuts,aw s s.cuts.length p≠0/\z=(endsP s.cuts p,aw s s.cuts.length p):=by
 obtain⟨p,mp,rfl⟩:=FP.mp h;obtain⟨m1,m2⟩:=I0.mp mp;exact⟨p,m1,of_decide_eq_true m2,rfl⟩
theorem rV{s:Sh}(h:z∈cK s):1<=z.1.length:=by
 obtain⟨p,mp,_,rfl⟩:=eE h;rw[eg (s.pch_ok p mp)];exact cpos s
theorem hU{s:Sh}(h:z∈cK s):z.1.length<=2:=by
 obtain⟨p,mp,_,rfl⟩:=eE h;rw[eg (s.pch_ok p mp)];exact s.cl
theorem uN{s:Sh}(hs:s.OkM m 20)(h:z∈cK s):C6 90 z.2:=by
 obtain⟨p,mp,_,rfl⟩:=eE h;exact iC hs s.cl mp
theorem wc(h:C6 n q):C6 n (C1 q):=by
 unfold C1;split
 · exact⟨by have:=h.1;rw[J3,Iz];exact this,by rw[LU];exact h.2⟩
 · exact h
theorem t6:q.num<0↔q<0:=by
 rw[<- Rat.not_le,<- Rat.num_nonneg];omega
theorem rC(q:Rat):Gw [.int (if q.num<0 then -q.num else q.num),.int (q.den:Int)]=fr (C1 q):=by
 unfold C1 fr;by_cases c:q<0
 · have c':q.num<0:=t6.mpr c;rw[if_pos c,if_pos c',J3,LU]
 · have c':¬q.num<0:=fun z=>c (t6.mp z);rw[if_neg c,if_neg c']
theorem ic(l:List (List Rat×Rat))(hi:i<l.length):lC (l.take (i+1))=if l[i].1=Fg l[i].1.length 1 then lC (l.take i)else lC (l.take i)+C1 l[i].2:=by
 unfold lC;rw[FN hi,List.foldl_append];rfl
noncomputable def Ce(W:List (List Rat×Rat)):List Rat->List (List Rat)->ET
 | b,[]=>fr (cp ((W.filter fun z=>Db b z.1).map (·.2)))
 | b,c::cs=>.tuple ((0::c).map fun x=>Ce W (b++[x]) cs)
noncomputable def DQ(n:Nat)(W:List (List Rat×Rat)):Prop:=W.length<=49/\∀z∈W,z.1.length=n/\(∀q∈z.1,C6 60 q)/\C6 38 z.2
noncomputable def EK(cs:List (List Rat)):Prop:=1<=cs.length/\cs.length<=2/\∀c∈cs,c.length<=6/\∀q∈c,C6 60 q
theorem uD(es:List Rat):DJ es=l4 (es.map Sd.to):=by unfold DJ l4;rw[GC];rfl
theorem ze{b es:List Rat}:Dl b (es.map Sd.to) "half" = Db b es:=by
 unfold Dl Db
 induction b generalizing es with
 | nil=>rfl
 | cons x b ih =>
   cases es with
   | nil=>rfl
   | cons e es =>
     rw[Fd,List.zip_cons_cons,List.zip_cons_cons,Ln,Ln,ih];congr 1
theorem dU{α:Type}(f:α->Rat):∀l:List α,(∀x∈l,f x=0)->cp (l.map f)=0
 | [],_=>rfl
 | x::l,h=>by rw[Fd,aM,h x E7,dU f l fun y my=>h y (E9 _ my),Rat.add_zero]
theorem fL{f g:α->Rat}{l:List α}(h:∀x∈l,f x=g x):cp (l.map f)=cp (l.map g):=by rw[Ib h]
theorem da:∀(a b:List Rat),cp (a++b)=cp a+cp b
 | [],b=>by show cp b=0+cp b;rw[ID]
 | x::a,b=>by rw[J7,aM,aM,da a b];grind
theorem iQ{α:Type}(f:α->List Rat):∀l:List α,cp (l.flatMap f)=cp (l.map fun x=>cp (f x))
 | []=>rfl
 | x::l=>by rw[JN,da,Fd,aM,iQ f l]
theorem nZ(n:Nat):cF 0 (n+1)=cF 0 n++[(n:Int)]:=by unfold cF;rw[List.range_succ,FU];simp
theorem ib(f:Int->Rat)(j:Int):∀m:Nat,0<=j->j<=(m:Int)->cp ((cF 0 m).map fun k=>if j<=k then f k-f (k+1)else 0)=f j-f m
 | 0,h0,h1=>by
   have:j=0:=by omega
   subst this;show(0:Rat)=f 0-f ((0:Nat):Int);show(0:Rat)=f 0-f 0
   grind
 | m+1,h0,h1=>by
   rw[nZ,FU,da,Fd,Gv,aM];have e:(((m+1:Nat):Int))=(m:Int)+1:=by omega
   rw[e];show _+(_+(0:Rat))=_;by_cases c:j<=(m:Int)
   · rw[ib f j m h0 c,if_pos c];grind
   · have:j=(m:Int)+1:=by omega
     subst this;rw[if_neg c,dU _ _ fun k mk=>if_neg (by have:=x6.mp mk;omega)]
     grind
noncomputable def Dm(p q:List Int):Bool:=(p.zip q).all fun z=>decide (z.1<=z.2)
theorem y_(c:List Rat):pch [c]=(cF 0 (c.length+1)).map fun k=>[k]:=by show DI _=_;rw[Fd,Gv,uJ]
theorem y9(c d:List Rat):pch [c,d]=(cF 0 (c.length+1)).flatMap fun k=>(cF 0 (d.length+1)).map fun j=>[k,j]:=by show DI _=_;rw[Fd,Fd,Gv,xG]
theorem zd{k:Int}:[k]∈pch [c]↔0<=k/\k<=(c.length:Int):=by
 rw[y_,FP];constructor
 · rintro⟨i,mi,e⟩
   injection e with e
   subst e;have:=x6.mp mi;omega
 · intro h;exact⟨k,x6.mpr (by omega),rfl⟩
theorem mem2{d:List Rat}{k j:Int}:[k,j]∈pch [c,d]↔(0<=k/\k<=(c.length:Int))/\0<=j/\j<=(d.length:Int):=by
 rw[y9,J8];constructor
 · rintro⟨i,mi,mj⟩;obtain⟨l,ml,e⟩:=FP.mp mj
   injection e with e e2
   injection e2 with e2
   subst e e2;have:=x6.mp mi;have:=x6.mp ml;omega
 · intro h;exact⟨k,x6.mpr (by omega),FP.mpr ⟨j,x6.mpr (by omega),rfl⟩⟩
theorem rM{s:Sh}(hp:p∈pch s.cuts):s.at p=cp ((pch s.cuts).map fun q=>if Dm p q=true then aw s s.cuts.length q else 0):=by
 cases s with
 | one c v =>
   show _=cp ((pch [c]).map _);obtain⟨a,rfl,a0,a1⟩:=l9.one (c:=c) ((Sh.one c v).pch_ok p hp)
   have e:∀f:Int->Rat,(∀k,f k=if [k]∈pch [c]then(Sh.one c v).at [k]else 0)->cp ((pch [c]).map fun q=>if Dm [a] q=true then aw (.one c v) 1 q else 0)=f a:=fun f hf=>by
    rw[y_,GC];have t:=ib f a (c.length+1) a0 (by omega);have z:f ((c.length+1:Nat):Int)=0:=by rw[hf,if_neg (by rw[zd];omega)]
    rw[z]at t;rw[show f a=f a-0 by grind,<- t];refine fL fun k mk=>?_;have mk:=x6.mp mk;show(if Dm [a] [k]=true then aw (.one c v) 1 [k]else 0)=_;have el:Dm [a] [k]=decide (a<=k):=by simp[Dm]
    have ef:aw (.one c v) 1 [k]=f k-f (k+1):=by
     rw[hf,hf,if_pos (by rw[zd];omega)];rfl
    rw[el,ef];by_cases h:a<=k
    · rw[if_pos (decide_eq_true h),if_pos h]
    · rw[if_neg (by simpa using h),if_neg h]
   refine Eq.trans ?_ (e (fun k=>if [k]∈pch [c]then(Sh.one c v).at [k]else 0) fun k=>rfl).symm;show _=if [a]∈pch [c]then _ else _
   rw[if_pos (by rw[zd];omega)]
 | two c d vs =>
   show _=cp ((pch [c,d]).map _);obtain⟨a,b,rfl,⟨a0,a1⟩,b0,b1⟩:=l9.two (c:=c) (d:=d) ((Sh.two c d vs).pch_ok p hp)
   have e:∀f:Int->Int->Rat,(∀k j,f k j=if [k,j]∈pch [c,d]then(Sh.two c d vs).at [k,j]else 0)->cp ((pch [c,d]).map fun q=>if Dm [a,b] q=true then aw (.two c d vs) 2 q else 0)=f a b:=fun f hf=>by
    rw[y9,List.map_flatMap,iQ];have t:=ib (fun k=>f k b) a (c.length+1) a0 (by omega);have z:f ((c.length+1:Nat):Int) b=0:=by rw[hf,if_neg (by rw[mem2];omega)]
    rw[z]at t;rw[show f a b=f a b-0 by grind,<- t];refine fL fun k mk=>?_;have mk:=x6.mp mk;rw[GC];have t2:=ib (fun j=>f k j-f (k+1) j) b (d.length+1) b0 (by omega);have z1:f k ((d.length+1:Nat):Int)=0:=by rw[hf,if_neg (by rw[mem2];omega)]
    have z2:f (k+1) ((d.length+1:Nat):Int)=0:=by rw[hf,if_neg (by rw[mem2];omega)]
    rw[z1,z2]at t2;have el:∀j,Dm [a,b] [k,j]=(decide (a<=k)&&decide (b<=j)):=fun j=>by simp[Dm]
    by_cases h:a<=k
    · rw[if_pos h,show f k b-f (k+1) b=f k b-f (k+1) b-(0-0) by grind,<- t2];refine fL fun j mj=>?_;have mj:=x6.mp mj;show(if Dm [a,b] [k,j]=true then aw (.two c d vs) 2 [k,j]else 0)=_;rw[el j,decide_eq_true h,Bool.true_and]
      have e1:∀l:Int,0<=l->l<=(d.length:Int)->aw (.two c d vs) 1 [k,l]=f k l-f (k+1) l:=fun l l0 l1=>by
       rw[hf,hf,if_pos (by rw[mem2];omega)];rfl
      have ef:aw (.two c d vs) 2 [k,j]=f k j-f (k+1) j-(f k (j+1)-f (k+1) (j+1)):=by
       show aw (.two c d vs) 1 [k,j]-(if [k,j+1]∈pch [c,d]then aw (.two c d vs) 1 [k,j+1]else 0)=_;rw[e1 j (by omega) (by omega)];by_cases w:[k,j+1]∈pch [c,d]
       · rw[if_pos w,e1 (j+1) (by omega) (mem2.mp w).2.2]
       · rw[if_neg w];have w1:f k (j+1)=0:=by rw[hf,if_neg w]
         have w2:f (k+1) (j+1)=0:=by rw[hf,if_neg (by rw[mem2];intro z;exact w (mem2.mpr ⟨by omega,z.2⟩))]
         rw[w1,w2];grind
      rw[ef];by_cases h2:b<=j
      · rw[if_pos (decide_eq_true h2),if_pos h2]
      · rw[if_neg (by simpa using h2),if_neg h2]
    · rw[if_neg h];refine dU _ _ fun j mj=>?_;show(if Dm [a,b] [k,j]=true then aw (.two c d vs) 2 [k,j]else 0)=0;rw[el j,decide_eq_false h];rfl
   refine Eq.trans ?_ (e (fun k j=>if [k,j]∈pch [c,d]then(Sh.two c d vs).at [k,j]else 0) fun k j=>rfl).symm;show _=if [a,b]∈pch [c,d]then _ else _
   rw[if_pos (by rw[mem2];omega)]
noncomputable def D6(c:List Rat):Prop:=c.Pairwise (· < ·)/\∀q∈c,0<q/\q<1
theorem qU{a b d:Int}(hd:0<d)(h:a<b):qd a d<qd b d:=by
 have e:qd b d=qd a d+qd (b-a) d:=by rw[jH _ _ hd];congr 1;omega
 have n:=yW hd (show 0<=b-a by omega)
 have z:qd (b-a) d≠0:=by
  unfold qd;have r:=d4 hd;have r2:=d4 (show 0<b-a by omega);intro z;have:((b-a:Int):Rat)=0:=by grind
  exact r2 this
 grind
theorem di.ris(h:di n c):D6 c:=by
 obtain⟨d,as,d0,_,_,rfl,ha,hp⟩:=h;refine⟨G9.mpr (hp.imp fun h=>qU d0 h),fun q hq=>?_⟩;obtain⟨a,ma,rfl⟩:=FP.mp hq;have:=ha a ma;have e:=qU d0 this.1;rw[xX d0]at e;exact⟨e,wo d0 this.2⟩
theorem k7{s:Sh}(hs:s.OkM m n){q:List Int}(hq:q∈pch s.cuts)(hm:autoParam (m<=6) æb._auto_1):∀e∈endsP s.cuts q,C6 20 e:=by
 intro e me;obtain⟨⟨c,k⟩,mz,rfl⟩:=FP.mp me;have pk:=s.pch_ok q hq;obtain⟨k0,k1⟩:=pk.2 _ mz;dsimp only at k0 k1 ⊢;obtain⟨mc,_⟩:=Hq mz;have:(c++[1]).getD k.toNat 0∈c++[1]:=getD_mem (by simp;omega);rcases GG.mp this with m|m
 · exact di.sm (s.cut6 hs hm c mc) _ m
 · rw[FM.mp m];exact C7.mono (by decide)
theorem lm:∀(c:List Rat),c.Pairwise (· < ·)->(∀e∈c,e<1)->∀(a:Rat),(∀e∈c,a<e)->a<1->∀k j:Nat,k<=c.length->j<=c.length->((a::c).getD k 0<(c++[1]).getD j 0↔k<=j)
 | c,hp,h1,a,ha,a1,0,j,_,hj=>by
   refine⟨fun _=>FE _,fun _=>?_⟩;have:(c++[1]).getD j 0∈c++[1]:=getD_mem (by simp;omega);show a<_;rcases GG.mp this with m|m
   · exact ha _ m
   · rw[FM.mp m];exact a1
 | [],_,_,_,_,_,k+1,_,hk,_=>by simp at hk
 | e::c,hp,h1,a,ha,a1,k+1,0,hk,hj=>by
   have hc:=Ju.mp hp;show(e::c).getD k 0<e↔_;refine⟨fun z=>?_,fun z=>by omega⟩;have:(e::c).getD k 0∈e::c:=getD_mem (show k<(e::c).length from hk);rcases FV.mp this with m|m
   · rw[m]at z;exact absurd z (by grind)
   · have:=hc.1 _ m;exact absurd z (by grind)
 | e::c,hp,h1,a,ha,a1,k+1,j+1,hk,hj=>by
   have hc:=Ju.mp hp;have ih:=lm c hc.2 (fun y my=>h1 y (E9 _ my)) e hc.1 (h1 e E7) k j (by simpa using hk) (by simpa using hj);show(e::c).getD k 0<(c++[1]).getD j 0↔_;rw[ih];omega
theorem D6.begin(h:D6 c){k j:Int}(k0:0<=k)(k1:k<=(c.length:Int))(j0:0<=j)(j1:j<=(c.length:Int)):decide ((0::c).getD k.toNat 0<(c++[1]).getD j.toNat 0)=decide (k<=j):=by
 refine decide_eq_decide.mpr ?_;rw[lm c h.1 (fun e me=>(h.2 e me).2) 0 (fun e me=>(h.2 e me).1) (by decide) k.toNat j.toNat (by omega) (by omega)];omega
theorem kB{α:Type}(f:α->Rat):∀l:List α,cp (l.reverse.map f)=cp (l.map f)
 | []=>rfl
 | x::l=>by rw[HQ,FU,da,kB f l,Fd,aM,Fd,Gv,aM];show _+(_+(0:Rat))=_;grind
theorem mX{a b:List Rat}(h:a.Perm b):cp a=cp b:=by
 induction h with
 | nil=>rfl
 | cons x _ ih=>rw[aM,aM,ih]
 | swap x y l=>rw[aM,aM,aM,aM];grind
 | trans _ _ h1 h2=>exact h1.trans h2
theorem kU:∀p:List Int,Dm p p=true
 | []=>rfl
 | x::p=>by
   have e:Dm (x::p) (x::p)=(decide (x<=x)&&Dm p p):=rfl;rw[e,kU p];simp
theorem jQ(n:Nat):(cF 0 n).Pairwise (· < ·):=by
 unfold cF;exact G9.mpr ((List.pairwise_lt_range (n:=n)).imp fun h=>by omega)
theorem wL(s:Sh):(pch s.cuts).Pairwise fun a b=>Dm b a=false:=by
 cases s with
 | one c v =>
   show(pch [c]).Pairwise _;rw[y_];refine G9.mpr ((jQ _).imp fun{a b} h=>?_);have e:Dm [b] [a]=(decide (b<=a)&&true):=rfl
   rw[e,decide_eq_false (by omega)];rfl
 | two c d vs =>
   show(pch [c,d]).Pairwise _;rw[y9];have e:∀a b a' b':Int,Dm [b,b'] [a,a']=(decide (b<=a)&&(decide (b'<=a')&&true)):=fun _ _ _ _=>rfl;refine KC.mpr ⟨fun k _=>G9.mpr ((jQ _).imp fun{a b} h=>?_),(jQ _).imp fun{a b} h x mx y my=>?_⟩
   · rw[e,decide_eq_false (show ¬b<=a by omega)];simp
   · obtain⟨j,_,rfl⟩:=FP.mp mx;obtain⟨k,_,rfl⟩:=FP.mp my;rw[e,decide_eq_false (show ¬b<=a by omega)];simp
theorem uR(s:Sh)(hi:i<(pch s.cuts).reverse.length):s.at (pch s.cuts).reverse[i]-cp (((pch s.cuts).reverse.take i).map fun q=>if Dm (pch s.cuts).reverse[i] q=true then aw s s.cuts.length q else 0)=aw s s.cuts.length (pch s.cuts).reverse[i]:=by
 have pw:(pch s.cuts).reverse.Pairwise fun a b=>Dm a b=false:=KE.mpr (wL s);have mp:(pch s.cuts).reverse[i]∈pch s.cuts:=IQ.mp (Gb hi);rw[rM mp,<- kB];generalize (pch s.cuts).reverse=l at *;have el:l=l.take i++l[i]::l.drop (i+1):=by rw[<- FS hi,IG]
 have z:cp ((l.drop (i+1)).map fun q=>if Dm l[i] q=true then aw s s.cuts.length q else 0)=0:=dU _ _ fun q mq=>by
  have pw2:=pw;rw[el]at pw2;have:=(Ju.mp (HU.mp pw2).2.1).1 q mq;rw[if_neg (by rw[this];decide)]
 have e:cp (l.map fun q=>if Dm l[i] q=true then aw s s.cuts.length q else 0)=cp ((l.take i).map fun q=>if Dm l[i] q=true then aw s s.cuts.length q else 0)+(aw s s.cuts.length l[i]+0):=by
  have:∀f:List Int->Rat,cp (l.map f)=cp ((l.take i).map f)+(f l[i]+cp ((l.drop (i+1)).map f)):=fun f=>by
   conv=>lhs;rw[el]
   rw[FU,da,Fd,aM]
  rw[this,z,if_pos (kU _)]
 rw[e];grind
noncomputable def EC(N:Nat)(q:Rat):Prop:=∃a:Int,q=qd a 41999286/\a.natAbs<=N
theorem EC.add{M N:Nat}{r:Rat}(h:EC M q)(g:EC N r):EC (M+N) (q+r):=by
 obtain⟨a,rfl,ha⟩:=h;obtain⟨b,rfl,hb⟩:=g;exact⟨a+b,jH _ _ (by decide),by omega⟩
theorem EC.sub{M N:Nat}{r:Rat}(h:EC M q)(g:EC N r):EC (M+N) (q-r):=by
 obtain⟨a,rfl,ha⟩:=h;obtain⟨b,rfl,hb⟩:=g;exact⟨a-b,sZ _ _ (by decide),by omega⟩
theorem EC.zero(N:Nat):EC N 0:=⟨0,(xX (by decide)).symm,by simp⟩
theorem EC.up{M N:Nat}(h:EC M q)(l:M<=N):EC N q:=by
 obtain⟨a,e,ha⟩:=h;exact⟨a,e,by omega⟩
theorem EC.ab{N:Nat}(h:EC N q):EC N (C1 q):=by
 unfold C1;split
 · have:=(EC.zero 0).sub h;rw[show(0:Rat)-q = -q by grind]at this;exact this.up (by omega)
 · exact h
theorem EC.sm{N k:Nat}(h:EC N q)(l:N<2^k)(k26:26<=k):C6 k q:=by
 obtain⟨a,rfl,ha⟩:=h;exact s_ (by decide) (by omega) (E6 (show(41999286:Int).natAbs<2^26 by decide) (Fq (by decide) k26))
theorem EC.of{a m:Int}(m0:0<m)(hd:m∣41999286)(ha:a.natAbs<=20):EC 839985720 (qd a m):=by
 obtain⟨k,hk⟩:=hd
 have k0:0<k:=by
  rcases JO 0 k with h|h|h
  · exact h
  · subst h;omega
  · have:=HZ m0 h;omega
 have kl:k<=41999286:=by
  have:1*k<=m*k:=IE (by omega) (by omega);omega
 refine⟨a*k,?_,?_⟩
 · rw[hk];unfold qd;have r1:=d4 m0;have r2:=d4 k0;rw[Ji,Ji]
   grind
 · rw[JA];exact KU ha (show k.natAbs<=41999286 by omega)
noncomputable def VQ(q:Rat):Prop:=C6 20 q/\EC 839985720 q
theorem lM{s:Sh}(h:s.OkP 6 VQ):s.OkM 6 20:=h.mono fun _ q=>q.1
theorem jS{s:Sh}(h:s.OkP 6 VQ):∀(i:Nat)(p:List Int),p∈pch s.cuts->EC (839985720*2^i) (aw s i p)
 | 0,p,mp=>(Sh.at_P h (s.pch_ok p mp)).2.up (by omega)
 | i+1,p,mp=>by
   have h1:=jS h i p mp
   have h2:EC (839985720*2^i) (if De p i∈pch s.cuts then aw s i (De p i)else 0):=by
    split
    · exact jS h i _ (by assumption)
    · exact EC.zero _
   exact(h1.sub h2).up (by rw[Kw];omega)
theorem gh{s:Sh}(h:s.OkP 6 VQ)(mp:p∈pch s.cuts):EC 3359942880 (aw s s.cuts.length p):=(jS h _ p mp).up (by
 have:=Fq (show 0<2 by decide) s.cl
 omega)
theorem uP{s:Sh}(h:s.OkP 6 VQ)(hz:z∈cK s):EC 3359942880 z.2:=by
 obtain⟨p,mp,_,rfl⟩:=eE hz;exact gh h mp
theorem j8{s:Sh}(h:s.OkP 6 VQ):(cK s).length<=49:=by
 have:=fy (lM h);have h:=IH (fun p=>decide (aw s s.cuts.length p≠0)) (pch s.cuts);unfold cK;rw[E1];omega
theorem sQ{s:Sh}(h:s.OkP 6 VQ):∀i:Nat,EC (3359942880*i) (lC ((cK s).take i))
 | 0=>EC.zero _
 | i+1=>by
   have ih:=sQ h i;by_cases c:i<(cK s).length
   · rw[ic _ c];split
     · exact ih.up (by omega)
     · exact(ih.add (uP h (Gb c)).ab).up (by omega)
   · rw[Fi (by omega)];rw[Fi (by omega)]at ih;exact ih.up (by omega)
theorem jy{s:Sh}(h:s.OkP 6 VQ)(i:Nat):C6 60 (lC ((cK s).take i))/\C6 2000 (lC ((cK s).take i)):=by
 have n49:=j8 h
 have key:C6 60 (lC ((cK s).take i)):=by
  by_cases c:i<=49
  · exact(sQ h i).sm (by omega) (by decide)
  · rw[Fi (by omega)];have:=sQ h 49;rw[Fi n49]at this;exact this.sm (by decide) (by decide)
 exact⟨key,key.mono (by decide)⟩
noncomputable def CM(cs:List (List Rat))(p:List Int):List Rat:=(cs.zip p).map fun z=>(0::z.1).getD z.2.toNat 0
theorem yP{s:Sh}(hs:s.OkM m n)(hm:m<=6){q:List Int}(hp:p∈pch s.cuts)(hq:q∈pch s.cuts):Db (CM s.cuts p) (endsP s.cuts q)=Dm p q:=by
 have c6:=s.cut6 hs hm
 cases s with
 | one c v =>
   obtain⟨a,rfl,a0,a1⟩:=l9.one (c:=c) ((Sh.one c v).pch_ok p hp);obtain⟨b,rfl,b0,b1⟩:=l9.one (c:=c) ((Sh.one c v).pch_ok q hq);have r:=di.ris (c6 c E7);have e1:Db (CM [c] [a]) (endsP [c] [b])=(decide ((0::c).getD a.toNat 0<(c++[1]).getD b.toNat 0)&&true):=rfl;have e2:Dm [a] [b]=(decide (a<=b)&&true):=rfl;show Db (CM [c] [a]) (endsP [c] [b])=_
   rw[e1,e2,r.begin a0 a1 b0 b1]
 | two c d vs =>
   obtain⟨a,a',rfl,⟨a0,a1⟩,a2,a3⟩:=l9.two (c:=c) (d:=d) ((Sh.two c d vs).pch_ok p hp);obtain⟨b,b',rfl,⟨b0,b1⟩,b2,b3⟩:=l9.two (c:=c) (d:=d) ((Sh.two c d vs).pch_ok q hq);have r:=di.ris (c6 c E7);have r':=di.ris (c6 d (E9 _ E7));have e1:Db (CM [c,d] [a,a']) (endsP [c,d] [b,b'])=(decide ((0::c).getD a.toNat 0<(c++[1]).getD b.toNat 0)&&(decide ((0::d).getD a'.toNat 0<(d++[1]).getD b'.toNat 0)&&true)):=rfl;have e2:Dm [a,a'] [b,b']=(decide (a<=b)&&(decide (a'<=b')&&true)):=rfl;show Db (CM [c,d] [a,a']) (endsP [c,d] [b,b'])=_;rw[e1,e2,r.begin a0 a1 b0 b1,r'.begin a2 a3 b2 b3]
theorem k6(W:List Int->Rat)(E:List Int->List Rat)(x:List Rat)(g:List Int->Bool):∀l:List (List Int),(∀q∈l,Db x (E q)=g q)->cp ((((l.filter fun q=>decide (W q≠0)).map fun q=>(E q,W q)).filter fun z=>Db x z.1).map (·.2))=cp (l.map fun q=>if g q=true then W q else 0)
 | [],_=>rfl
 | q::l,h=>by
   have ih:=k6 W E x g l fun y my=>h y (E9 _ my);have hq:=h q E7;rw[Fd,aM,<- ih];by_cases c:W q=0
   · rw[J4 (by simpa using c)];by_cases d:g q=true
     · rw[if_pos d,c,ID]
     · rw[if_neg d,ID]
   · rw[J5 (by simpa using c),Fd,List.filter_cons];by_cases d:g q=true
     · rw[if_pos d,if_pos (show Db x (E q,W q).1=true by rw[<- d];exact hq),Fd,aM]
     · rw[if_neg d,if_neg (show ¬Db x (E q,W q).1=true by intro z;exact d (hq▸z)),ID]
theorem qN{s:Sh}(hs:s.OkM 6 20){V:List (List Rat×Rat)}(hv:V.Perm (cK s))(hp:p∈pch s.cuts):cp ((V.filter fun z=>Db (CM s.cuts p) z.1).map (·.2))=s.at p:=by
 rw[mX ((hv.filter _).map _),rM hp];exact k6 (aw s s.cuts.length) (endsP s.cuts) (CM s.cuts p) (Dm p) (pch s.cuts) fun q mq=>yP hs (by decide) hp mq
theorem sg{s:Sh}(hs:s.OkM 6 20){V:List (List Rat×Rat)}(hv:V.Perm (cK s)):Ce V [] s.cuts=s.vD:=by
 cases s with
 | one c v =>
   have hl:v.length=c.length+1:=hs.2.1;show Gw ((0::c).map fun x=>Ce V [x] []) = .tuple (v.map fr);congr 1;refine IM (by simp;omega) fun k h1 h2=>?_;rw[E1]at h1 h2;rw[HB,HB];have mp:[(k:Int)]∈pch [c]:=zd.mpr (by rw[Gq]at h1;omega);have e:=qN hs hv (p:=[(k:Int)]) mp
   have es:CM (Sh.one c v).cuts [(k:Int)]=[(0::c)[k]]:=by
    show [(0::c).getD k 0]=_;rw[cX h1]
   rw[es]at e;show fr (cp ((V.filter fun z=>Db [(0::c)[k]] z.1).map (·.2)))=fr v[k];rw[e];show fr (v.getD k 0)=_
   rw[cX h2]
 | two c d vs =>
   have hl:vs.length=c.length+1:=hs.2.2.1;show Gw ((0::c).map fun x=>Gw ((0::d).map fun y=>Ce V [x,y] [])) = .tuple (vs.map C_);congr 1;refine IM (by simp;omega) fun k h1 h2=>?_;rw[E1]at h1 h2;rw[HB,HB];have hv':=(hs.2.2.2 _ (Gb h2)).1;unfold C_;congr 1;refine IM (by simp;omega) fun j h3 h4=>?_;rw[E1]at h3 h4;rw[HB,HB];have mp:[(k:Int),(j:Int)]∈pch [c,d]:=mem2.mpr (by rw[Gq]at h1 h3;omega);have e:=qN hs hv (p:=[(k:Int),(j:Int)]) mp
   have es:CM (Sh.two c d vs).cuts [(k:Int),(j:Int)]=[(0::c)[k],(0::d)[j]]:=by
    show [(0::c).getD k 0,(0::d).getD j 0]=_;rw[cX h1,cX h3]
   rw[es]at e;show fr (cp ((V.filter fun z=>Db [(0::c)[k],(0::d)[j]] z.1).map (·.2)))=fr vs[k][j];rw[e];show fr ((vs.getD k []).getD j 0)=_;rw[cX h2,cX h4]
noncomputable def Do(s:Sh)(r:List (List Int)):List (List Int×ET):=r.map fun p=>(p,fr (aw s s.cuts.length p))
theorem uh{s:Sh}{r:List (List Int)}(h:p∉r):gF (Do s r) p (fr (aw s s.cuts.length p))=Do s (r++[p]):=by
 rw[nn]
 · unfold Do;rw[FU];rfl
 · intro kv mk;obtain⟨q,mq,rfl⟩:=FP.mp mk;intro e;exact h (e▸mq)
theorem nS{s:Sh}{r:List (List Int)}{q:List Int}(h:q∈r):iI (Do s r) q=some (fr (aw s s.cuts.length q)):=by
 unfold iI Do
 induction r with
 | nil=>cases h
 | cons a r ih =>
   rw[Fd,GA];by_cases e:a=q
   · subst e;simp
   · have:q∈r:=by
       rcases FV.mp h with z|z
       · exact absurd z.symm e
       · exact z
     simp only[e,decide_false];exact ih this
theorem qe(s:Sh)(r:List (List Int)):((Do s r).map fun p=>kI p.1)=r.map bS:=by unfold Do;rw[GC];rfl
theorem ui(s:Sh)(r:List (List Int)):(Do s r).length=r.length:=by unfold Do;rw[E1]
theorem wY{s:Sh}{q:List Int}(hp:p∈pch s.cuts)(hq:q∈pch s.cuts):((cF 0 p.length).filterMap fun k=>if decide (q.getD k.toNat 0<p.getD k.toNat 0)=true then some (FG k)else none).isEmpty=Dm p q:=by
 have i1:cF 0 1=[0]:=rfl;have i2:cF 0 2=[0,1]:=rfl
 cases s with
 | one c v =>
   obtain⟨a,rfl,_⟩:=l9.one (c:=c) ((Sh.one c v).pch_ok p hp);obtain⟨b,rfl,_⟩:=l9.one (c:=c) ((Sh.one c v).pch_ok q hq);have e2:Dm [a] [b]=(decide (a<=b)&&true):=rfl;show((cF 0 1).filterMap _).isEmpty=_;rw[i1,e2];by_cases h:b<a
   · have:¬a<=b:=by omega
     simp[h,this]
   · have:a<=b:=by omega
     simp[h,this]
 | two c d vs =>
   obtain⟨a,a',rfl,_⟩:=l9.two (c:=c) (d:=d) ((Sh.two c d vs).pch_ok p hp);obtain⟨b,b',rfl,_⟩:=l9.two (c:=c) (d:=d) ((Sh.two c d vs).pch_ok q hq);have e2:Dm [a,a'] [b,b']=(decide (a<=b)&&(decide (a'<=b')&&true)):=rfl;show((cF 0 2).filterMap _).isEmpty=_;rw[i2,e2];by_cases h:b<a<;>by_cases h':b'<a'
   · have:¬a<=b:=by omega
     simp[h,h',this]
   · have:¬a<=b:=by omega
     simp[h,h',this]
   · have:¬a'<=b':=by omega
     simp[h,h',this]
   · have:a<=b:=by omega
     have:a'<=b':=by omega
     simp[*]
theorem vS{m:Mo Fl}{k1 k2:En->Mo Fl}:sq (sq m k1) k2=sq m fun ρ=>sq (k1 ρ) k2:=by
 funext Q;refine congrArg m (funext fun fl=>?_);cases fl<;>rfl
theorem rA{s:Sh}(h:s.OkP 6 VQ){p:List Int}(mp:p∈pch s.cuts){r:List (List Int)}(hr:∀q∈r,q∈pch s.cuts)(g:List Int->Bool):∀j,EC (839985720+3359942880*j) (s.at p-cp ((r.take j).map fun q=>if g q=true then aw s s.cuts.length q else 0))
 | 0=>by
   have e:s.at p-cp (([]:List (List Int)).map fun q=>if g q=true then aw s s.cuts.length q else 0)=s.at p:=by show s.at p-0=s.at p;grind
   show EC _ (s.at p-cp (([]:List (List Int)).map fun q=>if g q=true then aw s s.cuts.length q else 0));rw[e]
   exact(Sh.at_P h (s.pch_ok p mp)).2.up (by omega)
 | j+1=>by
   have ih:=rA h mp hr g j;by_cases c:j<r.length
   · rw[FN c,FU,da]
     have x:EC 3359942880 (if g r[j]=true then aw s s.cuts.length r[j]else 0):=by
      split
      · exact gh h (hr _ (Gb c))
      · exact EC.zero _
     have e:∀a b y:Rat,a-(b+cp [y])=a-b-y:=fun a b y=>by rw[show cp [y]=y by show(0:Rat)+y=y;rw[ID]];grind
     rw[Fd,Gv,e];exact(ih.sub x).up (by omega)
   · rw[Fi (by omega)];rw[Fi (by omega)]at ih;exact ih.up (by omega)
theorem uw{s:Sh}(hp:p∈pch s.cuts):((cF 0 p.length).map fun k=>fr (((s.cuts.getD k.toNat [])++[1]).getD (p.getD k.toNat 0).toNat 0))=(endsP s.cuts p).map fr:=by
 cases s with
 | one c v =>
   obtain⟨a,rfl,_⟩:=l9.one (c:=c) ((Sh.one c v).pch_ok p hp)
   rfl
 | two c d vs =>
   obtain⟨a,a',rfl,_⟩:=l9.two (c:=c) (d:=d) ((Sh.two c d vs).pch_ok p hp);rfl
noncomputable def pe(s:Sh)(l:List (List Int)):List (List Rat×Rat):=(l.filter fun p=>decide (aw s s.cuts.length p≠0)).map fun p=>(endsP s.cuts p,aw s s.cuts.length p)
theorem mf(s:Sh)(l:List (List Int))(p:List Int):pe s (l++[p])=if aw s s.cuts.length p=0 then pe s l else pe s l++[(endsP s.cuts p,aw s s.cuts.length p)]:=by
 unfold pe;rw[List.filter_append,FU];by_cases h:aw s s.cuts.length p=0
 · rw[if_pos h,J4 (by simpa using h)];simp
 · rw[if_neg h,J5 (by simpa using h)];rfl
theorem j9(s:Sh)(l:List (List Int)):(pe s l).length<=l.length:=by unfold pe;rw[E1];exact IH _ _
theorem nK:∀es:List Rat,(es.filterMap fun e=>if decide (e≠1)=true then some (Cw e)else none).isEmpty=decide (es=Fg es.length 1)
 | []=>by simp
 | e::es=>by
   have ih:=nK es;by_cases h:e=1
   · subst h;rw[JM (by simp),ih,Gq,Gp];simp
   · have e1:((e::es).filterMap fun e=>if decide (e≠1)=true then some (Cw e)else none)=Cw e::(es.filterMap fun e=>if decide (e≠1)=true then some (Cw e)else none):=by
       rw[H0];simp[h]
     rw[e1,Gq,Gp];simp[h]
theorem lD(es:List Rat):Gf (.list (es.map Cw))=true:=by
 have h:=fN es;unfold DJ at h;unfold Gf at h ⊢;simpa[GZ,Hi]using h
theorem oZ(l:List α)(k:Nat):(l.drop k++l.take k).reverse.Perm l:=(List.reverse_perm _).trans (List.perm_append_comm.trans (List.Perm.of_eq (IG k l)))
theorem bf(p:List Int):gG (.d (bS p))=some p:=xN p
theorem bc(kvs:List (List Int×ET)):(W.xm kvs).isPk=false:=rfl
theorem cW(kvs:List (List Int×ET)):(W.xr kvs).isPk=false:=rfl
theorem xC(xs:List α)(f:α->ET)(k:Nat):VL.cutD (xs.map f) none (some (k:Int))=(xs.take k).map f:=by
 unfold VL.cutD;rw[HT.sIx_none,HT.sIx_nat,List.drop_zero,E1,LB,<- List.map_take];congr 1;by_cases z:k<=xs.length
 · rw[KA z]
 · rw[J9 (by omega),Fi (by omega),Fi (by omega)]
theorem xD(xs:List α)(f:α->ET)(k:Nat):VL.cutD (xs.map f) (some (k:Int)) none=(xs.drop k).map f:=by
 unfold VL.cutD;rw[HT.sIx_none,HT.sIx_nat,E1,<- List.map_drop];by_cases z:k<=xs.length
 · rw[KA z,Fi (by simp)]
 · rw[J9 (by omega),Ki (show xs.length<=xs.length by omega),Ki (show xs.length<=k by omega)];simp
noncomputable def bB:List W->(ET->Prop)->Prop:=fun ws Q=>∃(p:List Int)(i:Int),ws=[.d (bS p),.d (.int i)]/\((0<=i)/\(i<(p.length:Int))/\(p.length<=2))/\Q (bS (De p i.toNat))
theorem bB.mono:∀ws (Q Q':ET->Prop),(∀d,Q d->Q' d)->bB ws Q->bB ws Q':=fun _ _ _ h_=>Fp fun _=>Fp fun _=>E5 (E5 (h_ _))
theorem bB.len:∀ws (Q:ET->Prop),bB ws Q->ws.length=2:=fun _ _ h_=>by obtain⟨_,_,e_,_⟩:=h_;subst e_;rfl
theorem bB.eq(p:List Int)(i:Int)(i0:0<=i)(hi:i<(p.length:Int))(hl:p.length<=2):bB [.d (bS p),.d (.int i)]=VL.ret (bS (De p i.toNat):ET):=by
 refine ag fun Q=>⟨?_,fun q_=>⟨p,i,rfl,⟨i0,hi,hl⟩,q_⟩⟩;rintro⟨p',i',e_,_,q_⟩;simp_arith only[ee,b9,b_,bv,bh,cG,dY,cQ]at e_;obtain⟨rfl,rfl⟩:=e_;exact q_
theorem ij:FnScope ["patch", "side"] ["patch", "side"] (defScope (Cu 22)):=⟨rfl,rfl,rfl,by decide +kernel,rfl,by decide +kernel,by decide +kernel⟩
theorem d_next_patch(Fn:FnIn K mg "next_patch" (Cu 22) ["patch", "side"])(Z:Bz mg)    : Dfn P w K mg base rl "next_patch" ["patch", "side"] 1 bB:=by
 have sc:=ij;refine Dfn.of Fn sc (bB.mono) (bB.len) (fun cdv A outer s H E hr=>(ax (aH (eU (eU (pq (vn 0) fG (fF (vn 1))) (bZ (aa (v_add (bK (vn 0) (vn 1)) ah) ac))) (pq (vn 0) (fF (v_add (vn 1) ah)) fG))))) ?_;rintro ws Q ⟨p,i,rfl,⟨i0,hi,hl⟩,hQ⟩;refine aK ?_;have sz:=FI;have e1:=bu (xs:=p) 0 i0 hi;obtain⟨k,rfl⟩:∃k:Nat,i=(k:Int):=⟨i.toNat,by omega⟩;rw[GX]at *;have c1:=xC p FG k;have c2:=xD p FG (k+1);rw[show((k+1:Nat):Int)=(k:Int)+1 by omega]at c2;have g1:(p.take k).length+1<=sizeLine:=by rw[GK];omega
 have g2:(p.take k).length+1+(p.drop (k+1)).length<=sizeLine:=by rw[GK,IK];omega
 have eo:Gw ((p.take k).map FG++[FG (p.getD k 0+1)]++(p.drop (k+1)).map FG)=bS (De p k):=by
  unfold De bS;simp
 have g3:((p.take k).map FG++[FG (p.getD k 0+1)]).length+(p.drop (k+1)).length<=sizeLine:=by rw[Ga,E1];exact g2
 simp_arith only[aj,af,EO,e1,c1,c2,g1,g3];rw[eo];exact aE hQ
noncomputable def cg:List W->(ED->Prop)->Prop:=fun ws Q=>∃(s:Sh),ws=[.d (shD s)]/\((s.OkP 6 VQ))/\Q (Dp s.cuts (aw s s.cuts.length))
theorem cg.mono:∀ws (Q Q':ED->Prop),(∀d,Q d->Q' d)->cg ws Q->cg ws Q':=fun _ _ _ h_=>Fp fun _=>E5 (E5 (h_ _))
theorem cg.len:∀ws (Q:ED->Prop),cg ws Q->ws.length=1:=fun _ _ h_=>by obtain⟨_,e_,_⟩:=h_;subst e_;rfl
theorem cg.eq(s:Sh)(hs:s.OkP 6 VQ):cg [.d (shD s)]=VL.ret (Dp s.cuts (aw s s.cuts.length):ED):=by
 refine ag fun Q=>⟨?_,fun q_=>⟨s,rfl,hs,q_⟩⟩;rintro⟨s',e_,_,q_⟩;simp_arith only[ee,b9,b_,bv,bh,cG,dY,cQ]at e_;obtain rfl:=e_;exact q_
theorem jG:FnScope ["sheet", "cuts", "falls", "side"] ["sheet"] (defScope (Cu 23)):=⟨rfl,rfl,rfl,by decide +kernel,rfl,by decide +kernel,by decide +kernel⟩
theorem d_falls_of(Fn:FnIn K mg "falls_of" (Cu 23) ["sheet"])(Z:Bz mg)(d_value_in:∀rl,Dfn P w K mg base rl "value_in" ["sheet", "patch"] 1 ca)(d_patches_of:∀rl,Dfn P w K mg base rl "patches_of" ["cuts"] 2 bA)(d_less:∀rl,Dfn P w K mg base rl "less" ["one", "other"] 3 fX)(d_next_patch:∀rl,Dfn P w K mg base rl "next_patch" ["patch", "side"] 1 bB)(gl_ZERO:GlD K mg "ZERO" (pr 0 1))  : DfnX P w K mg base rl "falls_of" ["sheet"] 4 cg:=by
 have sc:=jG
 refine DfnX.of Fn sc (cg.mono) (cg.len) (fun cdv A outer s H E hr=>(au (aD 1 sc.nd (bK (vn 0) ah))
  (au (kd 2 (eS 2 sc.nd ["patch", "sheet"] [none,some 0] hr.units rfl (c9 (aR (d_patches_of _) (hr.mono (by decide)) (aa (vn 1) ac))) (fun _=>(av 0 (show Gu (["patch", "sheet"]:List Str) by decide +kernel))) (fun _=>cY) (fun _=>(vn 0)) (fun _=>(aR (d_value_in _) (hr.mono (by decide)) (aa (vn 1) (aa (vn 0) ac))))))
  (au (cS [3] FZ rfl (bx Z.range_ (aa (cZ Z.len_ (aa (vn 1) ac)) ac)) (av 3 sc.nd) (ax (kd 2 (eS 2 sc.nd ["patch", "falls", "side"] [none,some 2,some 3] hr.units rfl (kf (vn 2)) (fun _=>(av 0 (show Gu (["patch", "falls", "side"]:List Str) by decide +kernel))) (fun _=>cY) (fun _=>(vn 0)) (fun _=>(aR (d_less _) (hr.mono (by decide)) (aa (mE 1 hr.units (vn 0)) (aa (po 1 hr.units (aR (d_next_patch _) (hr.mono (by decide)) (aa (vn 0) (aa (vn 2) ac))) (gP gl_ZERO)) ac))))))))
  (ax (aH (vn 2))))))) ?_
 rintro ws Q ⟨s,rfl,hs,hQ⟩;refine pK ?_;have sz:=FI;have pl:=fy (lM hs);have h20:=lM hs;have c2:=s.cl;have c6:=s.cut6 (lM hs);have cl6:∀c∈s.cuts,c.length<=6:=fun c mc=>(c6 c mc).len;simp_arith only[aj,af,EO,ca.eq,bA.eq,fX.eq,bB.eq,cu,cU,bL,cT,dC,CQ,kE,fD,ln,bc,gH,cr,cV,cW,bf];refine CO (l_ (xs:=pch s.cuts) (enc:=bS) (fun p=>(p,fr (s.at p))) rfl ?_ (by omega) ?_)
 · intro p mp;have pk:=s.pch_ok p mp;simp_arith only[aj,af,lX,ca.eq,bA.eq,fX.eq,bB.eq,cu,cU,bL,cT,dC,CQ,kE,fD,ln,bc,gH,cr,cV,cW,bf]
 rw[qY];have el:kS (ptsQ s.cuts)=some s.cuts.length:=by show some (s.cuts.map C_).length=_;rw[E1]
 have g0 : -(2^62)<=(s.cuts.length:Int)/\(s.cuts.length:Int)<2^62:=by omega
 simp_arith only[aj,af,EO,el,ca.eq,bA.eq,fX.eq,bB.eq,cu,cU,bL,cT,dC,CQ,kE,fD,ln,bc,gH,cr,cV,cW,bf];refine dO (fun i ρ=>ρ=[some (.d (shD s)),some (.d (ptsQ s.cuts)),some (.xr (Dp s.cuts (aw s i))),none]) rfl ?_ ?_
 · rintro i hi ρ rfl K hK;simp_arith only[aj,af,EO,ca.eq,bA.eq,fX.eq,bB.eq,cu,cU,bL,cT,dC,CQ,kE,fD,ln,bc,gH,cr,cV,cW,bf];have kl:(Dp s.cuts (aw s i)).length<=49:=by unfold Dp;rw[E1];exact pl
   refine CO (l_ (xs:=pch s.cuts) (enc:=bS) (fun p=>(p,fr (aw s (i+1) p))) ?_ ?_ (by omega) ?_)
   · unfold Dp;rw[GC];rfl
   · intro p mp;have pk:=s.pch_ok p mp;have v1:iI (Dp s.cuts (aw s i)) p=some (fr (aw s i p)):=by rw[jv,if_pos mp]
     have v2:(iI (Dp s.cuts (aw s i)) (De p i)).getD (pr 0 1)=fr (if De p i∈pch s.cuts then aw s i (De p i)else 0):=by
      rw[jv];split<;>rfl
     have s1:C6 2000 (aw s i p):=(iC (lM hs) (by omega) mp).mono (by decide)
     have s2:C6 2000 (if De p i∈pch s.cuts then aw s i (De p i)else 0):=by
      split
      · exact(iC (lM hs) (by omega) (by assumption)).mono (by decide)
      · exact C8.mono (by decide)
     have i2:(i:Int)<(p.length:Int):=by rw[pk.1];omega
     have p2:p.length<=2:=by rw[pk.1];exact c2
     have et:(0+(i:Int)).toNat=i:=by omega
     simp_arith only[aj,af,lX,ca.eq,bA.eq,fX.eq,bB.eq,cu,cU,bL,cT,dC,CQ,kE,fD,ln,bc,gH,cr,cV,cW,bf,v1,v2,et];rfl
   rw[qY];simp_arith only[aj,af,EO,ca.eq,bA.eq,fX.eq,bB.eq,cu,cU,bL,cT,dC,CQ,kE,fD,ln,bc,gH,cr,cV,cW,bf];refine(show sq (VL.ret (Fl.nx _)) (mS _) K from ?_);simp_arith only[aj,af,EO,ca.eq,bA.eq,fX.eq,bB.eq,cu,cU,bL,cT,dC,CQ,kE,fD,ln,bc,gH,cr,cV,cW,bf];exact hK _ (bW rfl)
 · rintro ρ rfl;simp_arith only[aj,af,EO,ca.eq,bA.eq,fX.eq,bB.eq,cu,cU,bL,cT,dC,CQ,kE,fD,ln,bc,gH,cr,cV,cW,bf];exact sX hQ
noncomputable def aY:List W->(ET->Prop)->Prop:=fun ws Q=>∃(cs:List (List Rat))(p:List Int),ws=[.d (ptsQ cs),.d (bS p)]/\((cs.length<=2)/\(∀c∈cs,di 6 c)/\(l9 cs p))/\Q (DJ (endsP cs p))
theorem aY.mono:∀ws (Q Q':ET->Prop),(∀d,Q d->Q' d)->aY ws Q->aY ws Q':=fun _ _ _ h_=>Fp fun _=>Fp fun _=>E5 (E5 (h_ _))
theorem aY.len:∀ws (Q:ET->Prop),aY ws Q->ws.length=2:=fun _ _ h_=>by obtain⟨_,_,e_,_⟩:=h_;subst e_;rfl
theorem aY.eq(cs:List (List Rat))(p:List Int)(hl:cs.length<=2)(hc:∀c∈cs,di 6 c)(hp:l9 cs p):aY [.d (ptsQ cs),.d (bS p)]=VL.ret (DJ (endsP cs p):ET):=by
 refine ag fun Q=>⟨?_,fun q_=>⟨cs,p,rfl,⟨hl,hc,hp⟩,q_⟩⟩;rintro⟨cs',p',e_,_,q_⟩;simp_arith only[ee,b9,b_,bv,bh,cG,dY,cQ]at e_;obtain⟨rfl,rfl⟩:=e_;exact q_
theorem fO:FnScope ["cuts", "patch"] ["cuts", "patch"] (defScope (Cu 24)):=⟨rfl,rfl,rfl,by decide +kernel,rfl,by decide +kernel,by decide +kernel⟩
theorem d_patch_corner(Fn:FnIn K mg "patch_corner" (Cu 24) ["cuts", "patch"])(Z:Bz mg)(gl_ONE:GlD K mg "ONE" (pr 1 1))  : Dfn P w K mg base rl "patch_corner" ["cuts", "patch"] 1 aY:=by
 have sc:=fO;refine Dfn.of Fn sc (aY.mono) (aY.len) (fun cdv A outer s H E hr=>(ax (aH (c_ Z.tuple_ (aa (bN ["ends", "stretch"] [none,none] rfl (ke Z.zip_ (aa (vn 0) (aa (vn 1) ac))) (fun _=>(gO (n:=2) rfl (bM (av 0 (show Gu (["ends", "stretch"]:List Str) by decide +kernel)) (bM (av 1 (show Gu (["ends", "stretch"]:List Str) by decide +kernel)) eF)))) (fun _=>cY) (fun _=>(bZ (aa eY (aa (bK (eU (vn 0) (bZ (aa (gP gl_ONE) ac))) (vn 1)) ac))))) ac))))) ?_;rintro ws Q ⟨cs,p,rfl,⟨hl,hc,hp⟩,hQ⟩;refine aK ?_;have sz:=FI;simp_arith only[aj,af,EO,EQ];rw[hR];refine dQ (xs:=cs.zip p) (enc:=fun z=>Gw [C_ z.1,.int z.2]) (fun z=>Cw ((z.1++[1]).getD z.2.toNat 0)) rfl ?_ (by rw[Jj];omega) ?_
 · rintro⟨c,j⟩ hm;obtain⟨mc,mj⟩:=Hq hm;obtain⟨j0,j1⟩:=hp.2 _ hm;dsimp only at j0 j1;have h4:c.length<=6:=(hc c mc).len;have e1:=bu (xs:=c++[1]) 0 j0 (by simp;omega)
   have e2:atI (c.map fr++[fr 1]) j=some (fr ((c++[1]).getD j.toNat 0)):=by
    rw[show c.map fr++[fr 1]=(c++[1]).map fr by rw[FU];rfl,atI_map,e1];rfl
   have g1:(c.map fr).length+1<=sizeLine:=by rw[E1];omega
   have g2:c.length+1<=sizeLine:=by omega
   simp_arith only[aj,af,Dr,EO,EQ,e2];rfl
 · refine aE ?_;unfold DJ endsP at hQ;rw[GC]at hQ;exact hQ
noncomputable def bj:List W->(ET->Prop)->Prop:=fun ws Q=>∃(s:Sh),ws=[.d (shD s)]/\((s.OkP 6 VQ))/\Q (.tuple ((cK s).map Cb))
theorem bj.mono:∀ws (Q Q':ET->Prop),(∀d,Q d->Q' d)->bj ws Q->bj ws Q':=fun _ _ _ h_=>Fp fun _=>E5 (E5 (h_ _))
theorem bj.len:∀ws (Q:ET->Prop),bj ws Q->ws.length=1:=fun _ _ h_=>by obtain⟨_,e_,_⟩:=h_;subst e_;rfl
theorem bj.eq(s:Sh)(hs:s.OkP 6 VQ):bj [.d (shD s)]=VL.ret (.tuple ((cK s).map Cb):ET):=by
 refine ag fun Q=>⟨?_,fun q_=>⟨s,rfl,hs,q_⟩⟩;rintro⟨s',e_,_,q_⟩;simp_arith only[ee,b9,b_,bv,bh,cG,dY,cQ]at e_;obtain rfl:=e_;exact q_
theorem ig:FnScope ["sheet", "falls"] ["sheet"] (defScope (Cu 25)):=⟨rfl,rfl,rfl,by decide +kernel,rfl,by decide +kernel,by decide +kernel⟩
theorem d_weights_of(Fn:FnIn K mg "weights_of" (Cu 25) ["sheet"])(Z:Bz mg)(d_falls_of:∀rl,DfnX P w K mg base rl "falls_of" ["sheet"] 4 cg)(d_patch_corner:∀rl,Dfn P w K mg base rl "patch_corner" ["cuts", "patch"] 1 aY)(gl_ZERO:GlD K mg "ZERO" (pr 0 1))  : Dfn P w K mg base rl "weights_of" ["sheet"] 5 bj:=by
 have sc:=ig
 refine Dfn.of Fn sc (bj.mono) (bj.len) (fun cdv A outer s H E hr=>(au (fE 1 sc.nd (sw (d_falls_of _) (hr.mono (by decide)) (aa (vn 0) ac)))
  (ax (aH (c_ Z.tuple_ (aa (bN ["patch", "sheet", "falls"] [none,some 0,some 1] rfl (kf (vn 1)) (fun _=>(av 0 (show Gu (["patch", "sheet", "falls"]:List Str) by decide +kernel))) (fun _=>ka (bg (fY hr.units) cx (aQ _) (mE 2 hr.units (vn 0)) (gP gl_ZERO))) (fun _=>(bZ (aa (aR (d_patch_corner _) (hr.mono (by decide)) (aa (bK (vn 1) ah) (aa (vn 0) ac))) (aa (mE 2 hr.units (vn 0)) ac))))) ac)))))) ?_
 rintro ws Q ⟨s,rfl,hs,hQ⟩;refine aK ?_;have sz:=FI;have pl:=fy (lM hs);have c2:=s.cl;have c6:=s.cut6 (lM hs);simp_arith only[aj,af,EO,cg.eq,aY.eq,cu,cU,bL,cT,dC,CQ,kE,fD,ln,bc,gH,cr,cV,cW,bf];refine lf (xs:=pch s.cuts) (enc:=bS) (fun p=>if decide (aw s s.cuts.length p≠0)=true then some (Cb (endsP s.cuts p,aw s s.cuts.length p))else none) ?_ ?_ (by omega) ?_
 · unfold Dp;rw[GC];rfl
 · intro p mp;have pk:=s.pch_ok p mp;have v1:iI (Dp s.cuts (aw s s.cuts.length)) p=some (fr (aw s s.cuts.length p)):=by rw[jv,if_pos mp]
   have sh:=fM (aw s s.cuts.length p);have ev:(fr (aw s s.cuts.length p)).eqv (pr 0 1)=decide (aw s s.cuts.length p=0):=jh _ 0;simp_arith only[aj,af,Dr,EO,cg.eq,aY.eq,cu,cU,bL,cT,dC,CQ,kE,fD,ln,bc,gH,cr,cV,cW,bf,v1,sh,ev];by_cases c:aw s s.cuts.length p=0<;>simp[c]<;>rfl
 · rw[jg];refine aE ?_;unfold cK at hQ;rw[GC]at hQ;exact hQ
noncomputable def ce:List W->(ET->Prop)->Prop:=fun ws Q=>∃(s:Sh),ws=[.d (shD s)]/\((s.OkP 6 VQ))/\Q (fr (lC (cK s)))
theorem ce.mono:∀ws (Q Q':ET->Prop),(∀d,Q d->Q' d)->ce ws Q->ce ws Q':=fun _ _ _ h_=>Fp fun _=>E5 (E5 (h_ _))
theorem ce.len:∀ws (Q:ET->Prop),ce ws Q->ws.length=1:=fun _ _ h_=>by obtain⟨_,e_,_⟩:=h_;subst e_;rfl
theorem ce.eq(s:Sh)(hs:s.OkP 6 VQ):ce [.d (shD s)]=VL.ret (fr (lC (cK s)):ET):=by
 refine ag fun Q=>⟨?_,fun q_=>⟨s,rfl,hs,q_⟩⟩;rintro⟨s',e_,_,q_⟩;simp_arith only[ee,b9,b_,bv,bh,cG,dY,cQ]at e_;obtain rfl:=e_;exact q_
theorem jC:FnScope ["sheet", "swing", "box", "top", "bottom"] ["sheet"] (defScope (Cu 28)):=⟨rfl,rfl,rfl,by decide +kernel,rfl,by decide +kernel,by decide +kernel⟩
theorem d_swing_of(Fn:FnIn K mg "swing_of" (Cu 28) ["sheet"])(Z:Bz mg)(d_weights_of:∀rl,Dfn P w K mg base rl "weights_of" ["sheet"] 5 bj)(d_plus:∀rl,Dfn P w K mg base rl "plus" ["one", "other"] 3 fU)(gl_ZERO:GlD K mg "ZERO" (pr 0 1))(gl_ONE:GlD K mg "ONE" (pr 1 1))  : Dfn P w K mg base rl "swing_of" ["sheet"] 6 ce:=by
 have sc:=jC
 refine Dfn.of Fn sc (ce.mono) (ce.len) (fun cdv A outer s H E hr=>(au (aD 1 sc.nd (gP gl_ZERO))
  (au (cS [2,3,4] FZ rfl (fI (aR (d_weights_of _) (hr.mono (by decide)) (aa (vn 0) ac))) (gO (n:=2) rfl (bM (av 2 sc.nd) (bM (gO (n:=2) rfl (bM (av 3 sc.nd) (bM (av 4 sc.nd) eF))) eF))) (ax (dw (bg (fY hr.units) cx (aQ _) (vn 2) (u9 (bZ (aa (bZ (aa eY (aa (gP gl_ONE) ac))) ac)) (cZ Z.len_ (aa (vn 2) ac)))) (ax (aD 1 sc.nd (aR (d_plus _) (hr.mono (by decide)) (aa (vn 1) (aa (bZ (aa (pB Z.abs_ (aa (vn 3) ac)) (aa (vn 4) ac))) ac))))) cw)))
  (ax (aH (vn 1)))))) ?_
 rintro ws Q ⟨s,rfl,hs,hQ⟩;refine aK ?_;have sz:=FI;simp_arith only[aj,af,EO,bj.eq,fU.eq,EQ];refine gb (xs:=cK s) (enc:=Cb) (fun i ρ=>ρ=[some (.d (shD s)),some (.d (fr (lC ((cK s).take i)))),none,none,none]) rfl rfl ?_ ?_
 · rintro i hi ρ rfl K hK;have mi:=Gb hi;generalize hz:(cK s)[i]=z at *;have z1:1<=z.1.length:=rV mi;have z2:z.1.length<=2:=hU mi;have gz:(z.1.length:Int)<2^62:=by omega
   have gz2:1*z.1.length<=sizeLine:=by omega
   have gz1:(1:Int)<=(z.1.length:Int):=by omega
   have sb:=fN z.1;have so:=fN (Fg z.1.length 1);have ev:=xz z.1 (Fg z.1.length 1);obtain⟨w1,w2⟩:=jy hs i;have ss:=ic (cK s) hi;rw[hz]at ss;have ea:=rC z.2;have qz:C6 90 z.2:=uN (lM hs) mi;have sr:C6 2000 (C1 z.2):=(wc qz).mono (by decide);have tb:tupD (Cb z)=some [DJ z.1,fr z.2]:=rfl;have tl:kS (DJ z.1)=some z.1.length:=by show some (z.1.map Cw).length=_;rw[E1]
   simp_arith only[aj,af,EO,bj.eq,fU.eq,EQ,tb,tl,sM,pZ,gz,gz1,gz2,sb,so,ev,ea];refine hK _ (bW ?_);rw[ss];by_cases c:z.1=Fg z.1.length 1
   · rw[if_pos c,if_neg (by rw[decide_eq_true c];decide)];rfl
   · rw[if_neg c,if_pos (by rw[decide_eq_false c];decide)];rfl
 · rintro ρ rfl;rw[Fi (E3 _)];simp_arith only[aj,af,EQ];exact aE hQ
noncomputable def aI(m:Nat):List W->(ET->Prop)->Prop:=fun ws Q=>∃(cs:List (List Rat))(V:List (List Rat×Rat))(b:List Rat),ws=[.d (ptsQ cs),.d (.tuple (V.map Cb)),.d (C_ b)]/\(b.length<=cs.length/\cs.length-b.length<m/\EK cs/\DQ cs.length V/\∀q∈b,C6 60 q)/\Q (Ce V b (cs.drop b.length))
theorem aI.mono(m:Nat):∀ws (Q Q':ET->Prop),(∀d,Q d->Q' d)->aI m ws Q->aI m ws Q':=fun _ _ _ h_=>Fp fun _=>Fp fun _=>Fp fun _=>E5 (E5 (h_ _))
theorem aI.len(m:Nat):∀ws (Q:ET->Prop),aI m ws Q->ws.length=3:=fun _ _ h_=>by obtain⟨_,_,_,e_,_⟩:=h_;subst e_;rfl
theorem yg{x y:List Rat×Rat}:Cb x=Cb y↔x=y:=by
 unfold Cb;simp only[Gj,FJ,and_true,zC,ee];constructor
 · rintro⟨h1,h2⟩;exact Prod.ext h1 h2
 · rintro rfl;exact⟨rfl,rfl⟩
theorem uO{a b:List (List Rat×Rat)}:a.map Cb=b.map Cb↔a=b:=bI fun _ _=>yg
theorem aI.eq(m:Nat)(cs:List (List Rat))(V:List (List Rat×Rat))(b:List Rat)(h:b.length<=cs.length)(hm:cs.length-b.length<m)(hc:EK cs)(hw:DQ cs.length V)(hb:∀q∈b,C6 60 q):aI m [.d (ptsQ cs),.d (.tuple (V.map Cb)),.d (C_ b)]=VL.ret (Ce V b (cs.drop b.length)):=by
 refine ag fun Q=>⟨?_,fun q_=>⟨cs,V,b,rfl,⟨h,hm,hc,hw,hb⟩,q_⟩⟩;rintro⟨cs',V',b',e_,_,q_⟩;simp only[FJ,W.d.injEq,Gj,bh,uO,b_,and_true]at e_;obtain⟨rfl,rfl,rfl⟩:=e_;exact q_
theorem gJ:FnScope ["cuts", "weights", "begun", "side"] ["cuts", "weights", "begun"] (defScope (Cu 26)):=⟨rfl,rfl,rfl,by decide +kernel,rfl,by decide +kernel,by decide +kernel⟩
theorem gq(n:Nat)(Fn:FnIn K mg "values_from" (Cu 26) ["cuts", "weights", "begun"])(Z:Bz mg)(d_sum_of:∀rl,Dfn P w K mg base rl "sum_of" ["some"] 3 cJ)(d_lies_in:∀rl,Dfn P w K mg base rl "lies_in" ["point", "box", "way"] 4 bT)(gl_ZERO:GlD K mg "ZERO" (pr 0 1))(d_values_from:∀rl,Dfn P w K mg base rl "values_from" ["cuts", "weights", "begun"] (4+n) (aI n)):Dfn P w K mg base rl "values_from" ["cuts", "weights", "begun"] (4+n+1) (aI (n+1)):=by
 have sc:=gJ
 refine Dfn.of Fn sc (aI.mono _) (aI.len _) (fun cdv A outer s H E hr=>(au (aD 3 sc.nd (cZ Z.len_ (aa (vn 2) ac)))
  (au (dw (bg (dD hr.units) cx (aQ _) (vn 3) (cZ Z.len_ (aa (vn 0) ac))) (ax (aH (aR (d_sum_of _) (hr.mono (by omega)) (aa (bN ["box", "weight", "begun"] [none,none,some 2] rfl (fI (vn 1)) (fun _=>(gO (n:=2) rfl (bM (av 0 (show Gu (["box", "weight", "begun"]:List Str) by decide +kernel)) (bM (av 1 (show Gu (["box", "weight", "begun"]:List Str) by decide +kernel)) eF)))) (fun _=>ka (qM (aR (d_lies_in _) (hr.mono (by omega)) (aa (vn 2) (aa (vn 0) (aa eY ac)))))) (fun _=>(vn 1))) ac)))) cw)
  (ax (aH (c_ Z.tuple_ (aa (bN ["begin", "cuts", "weights", "begun"] [none,some 0,some 1,some 2] rfl (fI (eU (bZ (aa (gP gl_ZERO) ac)) (bK (vn 0) (vn 3)))) (fun _=>(av 0 (show Gu (["begin", "cuts", "weights", "begun"]:List Str) by decide +kernel))) (fun _=>cY) (fun _=>(aR (d_values_from _) (hr.mono (by omega)) (aa (vn 1) (aa (vn 2) (aa (eU (vn 3) (bZ (aa (vn 0) ac))) ac)))))) ac))))))) ?_
 rintro ws Q ⟨cs,V,b,rfl,⟨hl,hm,hc,hw,hb⟩,hQ⟩;refine aK ?_;have sz:=FI;have c2:=hc.2.1;have v20:=hw.1;have el:kS (ptsQ cs)=some cs.length:=by show some (cs.map C_).length=_;rw[E1]
 have el2:kS (C_ b)=some b.length:=by show some (b.map fr).length=_;rw[E1]
 have il:((b.length:Int)==(cs.length:Int))=decide (b.length=cs.length):=by
  by_cases c:b.length=cs.length
  · rw[decide_eq_true c,c];simp
  · rw[decide_eq_false c];simp;omega
 by_cases c:b.length=cs.length
 · have d:=decide_eq_true c;simp_arith only[aj,af,EO,EQ,el,el2,il,d];refine CO (lf (xs:=V) (enc:=Cb) (fun z=>if Db b z.1=true then some (fr z.2)else none) rfl ?_ (by omega) ?_)
   · intro z mz;obtain⟨w1,w2,w3⟩:=hw.2 z mz;have tb:tupD (Cb z)=some [DJ z.1,fr z.2]:=rfl;have hp:zJ (z.1.map Sd.to).length b:=⟨by rw[E1,w1,c],hb⟩
     have hx:zK (z.1.map Sd.to):=⟨by rw[E1,w1];exact hc.1,by rw[E1,w1];omega,fun s ms=>by
      obtain⟨q,mq,rfl⟩:=FP.mp ms
      exact⟨w2 q mq,w2 q mq⟩⟩
     have wh:Ds "half" := .inl rfl;simp_arith only[aj,af,Dr,cJ.eq,bT.eq,EQ,tb,uD,ze];split<;>rfl
   have ed:cs.drop b.length=[]:=by rw[c,G3]
   rw[ed]at hQ
   have ef:V.filterMap (fun z=>if Db b z.1=true then some (fr z.2)else none)=((V.filter fun z=>Db b z.1).map (·.2)).map fr:=by
    rw[jg (fun z:List Rat×Rat=>Db b z.1) (fun z=>fr z.2),GC];rfl
   have fl:=IH (fun z=>Db b z.1) V;have ll:((V.filter fun z=>Db b z.1).map (·.2)).length<=49:=by rw[E1];omega
   have hq:∀q∈(V.filter fun z=>Db b z.1).map (·.2),C6 38 q:=fun q mq=>by
    obtain⟨z,mz,rfl⟩:=FP.mp mq;exact(hw.2 z (I0.mp mz).1).2.2
   have ps_:=cJ.eq 38 _ (by omega) (by omega) (by decide) hq;rw[ef];simp_arith only[aj,af,ps_];exact aE hQ
 · have d:=decide_eq_false c;have hlt:b.length<cs.length:=by omega
   have e1:=bu (xs:=cs) [] (show(0:Int)<=(b.length:Int) by omega) (by omega);rw[GX]at e1;have ed:cs.drop b.length=cs.getD b.length []::cs.drop (b.length+1):=by rw[cX hlt];exact FS hlt
   rw[ed]at hQ;have mc:cs.getD b.length []∈cs:=getD_mem hlt;obtain⟨l6,hcq⟩:=hc.2.2 _ mc;generalize cs.getD b.length []=cc at *;simp_arith only[aj,af,EO,EQ,el,el2,il,d,e1];refine dQ (xs:=0::cc) (enc:=fr) (fun x=>Ce V (b++[x]) (cs.drop (b.length+1))) rfl ?_ (by simp;omega) ?_
   · intro x mx;have lx:(b++[x]).length=b.length+1:=by simp
     have a1:(b++[x]).length<=cs.length:=by omega
     have a2:cs.length-(b++[x]).length<n:=by omega
     have a3:∀q∈b++[x],C6 60 q:=fun q mq=>by
      rcases GG.mp mq with h|h
      · exact hb q h
      · rw[FM.mp h];rcases FV.mp mx with rfl|mx
        · exact BC
        · exact hcq x mx
     have pv:=aI.eq n cs V (b++[x]) a1 a2 hc hw a3;rw[lx]at pv;have tp:∀y,Gw (b.map fr++[fr y])=C_ (b++[y]):=fun y=>by unfold C_;rw[FU];rfl
     have g1:(b.map fr).length+1<=sizeLine:=by rw[E1];omega
     have g2:b.length+1<=sizeLine:=by omega
     simp_arith only[aj,af,Dr,EQ,tp,pv]
   exact aE hQ
theorem gt(Fn:FnIn K mg "values_from" (Cu 26) ["cuts", "weights", "begun"])(Z:Bz mg)(d_sum_of:∀rl,Dfn P w K mg base rl "sum_of" ["some"] 3 cJ)(d_lies_in:∀rl,Dfn P w K mg base rl "lies_in" ["point", "box", "way"] 4 bT)(gl_ZERO:GlD K mg "ZERO" (pr 0 1))(n:Nat):∀rl,Dfn P w K mg base rl "values_from" ["cuts", "weights", "begun"] (4+n) (aI n):=by
 induction n with
 | zero=>exact fun rl=>Dfn.never Fn (fun _ _ ⟨_,_,_,_,⟨_,z,_⟩,_⟩=>absurd z (Nat.not_lt_zero _))
 | succ n ih=>exact fun rl=>gq n Fn Z d_sum_of d_lies_in gl_ZERO  ih
theorem d_values_from(Fn:FnIn K mg "values_from" (Cu 26) ["cuts", "weights", "begun"])(Z:Bz mg)(d_sum_of:∀rl,Dfn P w K mg base rl "sum_of" ["some"] 3 cJ)(d_lies_in:∀rl,Dfn P w K mg base rl "lies_in" ["point", "box", "way"] 4 bT)(gl_ZERO:GlD K mg "ZERO" (pr 0 1))  : Dfn P w K mg base rl "values_from" ["cuts", "weights", "begun"] 7 (aI 3):=gt Fn Z d_sum_of d_lies_in gl_ZERO  3 rl
noncomputable def bQ:List W->(ET->Prop)->Prop:=fun ws Q=>∃(cs:List (List Rat))(V:List (List Rat×Rat)),ws=[.d (ptsQ cs),.d (.tuple (V.map Cb))]/\((EK cs)/\(DQ cs.length V))/\Q (.tuple [ptsQ cs,Ce V [] cs])
theorem bQ.mono:∀ws (Q Q':ET->Prop),(∀d,Q d->Q' d)->bQ ws Q->bQ ws Q':=fun _ _ _ h_=>Fp fun _=>Fp fun _=>E5 (E5 (h_ _))
theorem bQ.len:∀ws (Q:ET->Prop),bQ ws Q->ws.length=2:=fun _ _ h_=>by obtain⟨_,_,e_,_⟩:=h_;subst e_;rfl
theorem bQ.eq(cs:List (List Rat))(V:List (List Rat×Rat))(hc:EK cs)(hw:DQ cs.length V):bQ [.d (ptsQ cs),.d (.tuple (V.map Cb))]=VL.ret (.tuple [ptsQ cs,Ce V [] cs]:ET):=by
 refine ag fun Q=>⟨?_,fun q_=>⟨cs,V,rfl,⟨hc,hw⟩,q_⟩⟩;rintro⟨cs',V',e_,_,q_⟩;simp_arith only[bh,uO]at e_;obtain⟨rfl,rfl⟩:=e_;exact q_
theorem jD:FnScope ["cuts", "weights"] ["cuts", "weights"] (defScope (Cu 27)):=⟨rfl,rfl,rfl,by decide +kernel,rfl,by decide +kernel,by decide +kernel⟩
theorem d_sheet_of(Fn:FnIn K mg "sheet_of" (Cu 27) ["cuts", "weights"])(Z:Bz mg)(d_values_from:∀rl,Dfn P w K mg base rl "values_from" ["cuts", "weights", "begun"] 7 (aI 3))   : Dfn P w K mg base rl "sheet_of" ["cuts", "weights"] 8 bQ:=by
 have sc:=jD;refine Dfn.of Fn sc (bQ.mono) (bQ.len) (fun cdv A outer s H E hr=>(ax (aH (bZ (aa (vn 0) (aa (aR (d_values_from _) (hr.mono (by decide)) (aa (vn 0) (aa (vn 1) (aa (bZ ac) ac)))) ac)))))) ?_;rintro ws Q ⟨cs,V,rfl,⟨hc,hw⟩,hQ⟩;refine aK ?_;have c2:=hc.2.1;have pv:=aI.eq 3 cs V [] (FE _) (by show cs.length-0<3;omega) hc hw (fun q mq=>absurd mq (by simp));have e0:C_ [] = .tuple []:=rfl;rw[e0]at pv;have pv:aI 3 [.d (ptsQ cs),.d (.tuple (V.map Cb)),.d (.tuple [])]=VL.ret (Ce V [] cs):=pv;simp_arith only[aj,af,EQ,pv];exact aE hQ
noncomputable def bm:List W->(ET->Prop)->Prop:=fun ws Q=>∃(a b:Int),ws=[.d (.int a),.d (.int b)]/\((0<b)/\(b.natAbs<2^8000))/\Q (fr (qd a b))
theorem bm.mono:∀ws (Q Q':ET->Prop),(∀d,Q d->Q' d)->bm ws Q->bm ws Q':=fun _ _ _ h_=>Fp fun _=>Fp fun _=>E5 (E5 (h_ _))
theorem bm.len:∀ws (Q:ET->Prop),bm ws Q->ws.length=2:=fun _ _ h_=>by obtain⟨_,_,e_,_⟩:=h_;subst e_;rfl
theorem bm.eq(a b:Int)(hb:0<b)(hz:b.natAbs<2^8000):bm [.d (.int a),.d (.int b)]=VL.ret (fr (qd a b):ET):=by
 refine ag fun Q=>⟨?_,fun q_=>⟨a,b,rfl,⟨hb,hz⟩,q_⟩⟩;rintro⟨a',b',e_,_,q_⟩;simp_arith only[ee,b9,b_,bv,bh,cG]at e_;obtain⟨rfl,rfl⟩:=e_;exact q_
theorem iX:FnScope ["_law_n", "_law_d", "_law_one", "_law_other"] ["_law_n", "_law_d"] (defScope (Cu 32)):=⟨rfl,rfl,rfl,by decide +kernel,rfl,by decide +kernel,by decide +kernel⟩
theorem d__law_frac(Fn:FnIn K mg "_law_frac" (Cu 32) ["_law_n", "_law_d"])(Z:Bz mg)    : Dfn P w K mg base rl "_law_frac" ["_law_n", "_law_d"] 1 bm:=by
 have sc:=iX
 refine Dfn.of Fn sc (bm.mono) (bm.len) (fun cdv A outer s H E hr=>(au (aD 2 sc.nd (pB Z.abs_ (aa (vn 0) ac)))
  (au (aD 3 sc.nd (vn 1))
  (au (iK [] FZ (bg tU sa (aQ _) (vn 3) ah) (ax (qJ 2 3 rfl sc.nd (aa (vn 3) (aa (v_mod (vn 2) (vn 3)) ac)))))
  (ax (aH (bZ (aa (v_div (vn 0) (vn 2)) (aa (v_div (vn 1) (vn 2)) ac))))))))) ?_
 rintro ws Q ⟨a,b,rfl,⟨hb,hz⟩,hQ⟩;refine aK ?_;have e:FY (if a<0 then -a else a) b=FY a b:=by split<;>simp[FY]
 simp_arith only[af];refine j_ (σ:=Int×Int) (fun s=>[some (.d (.int a)),some (.d (.int b)),some (.d (.int s.1)),some (.d (.int s.2))]) (fun s=>decide (0<s.2)) (fun s=>(s.2,s.1.fmod s.2)) (fun s=>s.2.natAbs) (fun s=>0<=s.1/\0<=s.2/\FY s.1 s.2=FY a b) (if a<0 then -a else a,b) rfl ⟨by dsimp only;split<;>omega,by dsimp only;omega,e⟩ ?_ ?_ ?_
 · intro s _;simp_arith only[af]
 · rintro s ⟨h1,h2,e⟩ c;have hc:0<s.2:=by simpa using c
   have hc':s.2≠0:=by omega
   refine⟨⟨h2,GW _ hc,by rw[k3];exact e⟩,gg hc',_,?_,rfl⟩;simp_arith only[aj,af]
 · rintro s ⟨h1,h2,e⟩ c;have hc:¬0<s.2:=by simpa using c
   have hc:s.2=0:=by omega
   rw[hc,Int.gcd_zero_right]at e;have ex:s.1=(FY a b:Int):=by omega
   have c1:dR a (FY a b:Int):=og hb hz _;have c2:dR b (FY a b:Int):=og hb hz _;simp_arith only[aj,af,ex];rw[nO hb];exact aE hQ
noncomputable def bF:List W->(ET->Prop)->Prop:=fun ws Q=>∃(q r:Rat),ws=[.d (fr q),.d (fr r)]/\((C6 2000 q)/\(C6 2000 r))/\Q (fr (q+r))
theorem bF.mono:∀ws (Q Q':ET->Prop),(∀d,Q d->Q' d)->bF ws Q->bF ws Q':=fun _ _ _ h_=>Fp fun _=>Fp fun _=>E5 (E5 (h_ _))
theorem bF.len:∀ws (Q:ET->Prop),bF ws Q->ws.length=2:=fun _ _ h_=>by obtain⟨_,_,e_,_⟩:=h_;subst e_;rfl
theorem bF.eq(q r:Rat)(h1:C6 2000 q)(h2:C6 2000 r):bF [.d (fr q),.d (fr r)]=VL.ret (fr (q+r):ET):=by
 refine ag fun Q=>⟨?_,fun q_=>⟨q,r,rfl,⟨h1,h2⟩,q_⟩⟩;rintro⟨q',r',e_,_,q_⟩;simp_arith only[ee,b9,b_,bv,bh,cG]at e_;obtain⟨rfl,rfl⟩:=e_;exact q_
theorem iW:FnScope ["_law_one", "_law_other"] ["_law_one", "_law_other"] (defScope (Cu 36)):=⟨rfl,rfl,rfl,by decide +kernel,rfl,by decide +kernel,by decide +kernel⟩
theorem d__law_plus(Fn:FnIn K mg "_law_plus" (Cu 36) ["_law_one", "_law_other"])(Z:Bz mg)(d__law_frac:∀rl,Dfn P w K mg base rl "_law_frac" ["_law_n", "_law_d"] 1 bm)   : Dfn P w K mg base rl "_law_plus" ["_law_one", "_law_other"] 2 bF:=by
 have sc:=iW;refine Dfn.of Fn sc (bF.mono) (bF.len) (fun cdv A outer s H E hr=>(ax (aH (aR (d__law_frac _) (hr.mono (by decide)) (aa (v_add (v_mul (bK (vn 0) ah) (bK (vn 1) ah)) (v_mul (bK (vn 1) ah) (bK (vn 0) ah))) (aa (v_mul (bK (vn 0) ah) (bK (vn 1) ah)) ac)))))) ?_;rintro ws Q ⟨q,r,rfl,⟨h1,h2⟩,hQ⟩;refine aK ?_;have m1:b6 q.num r.den:=.bb h1.bn h2.bd;have m2:b6 r.num q.den:=.bb h2.bn h1.bd;have m3:b6 q.den r.den:=.bb h1.bd h2.bd;have m4:b6 q.num r.num:=.bb h1.bn h2.bn;have d1:=gm q r;have d2:=gj h1 h2;simp_arith only[aj,af,bm.eq,EQ,qV];exact aE hQ
noncomputable def a_:List W->(ET->Prop)->Prop:=fun ws Q=>∃(cs:List (List Rat)),ws=[.d (ptsQ cs)]/\((1<=cs.length)/\(cs.length<=2)/\(∀c∈cs,c.length<=6))/\Q (.list ((pch cs).map bS))
theorem a_.mono:∀ws (Q Q':ET->Prop),(∀d,Q d->Q' d)->a_ ws Q->a_ ws Q':=fun _ _ _ h_=>Fp fun _=>E5 (E5 (h_ _))
theorem a_.len:∀ws (Q:ET->Prop),a_ ws Q->ws.length=1:=fun _ _ h_=>by obtain⟨_,e_,_⟩:=h_;subst e_;rfl
theorem a_.eq(cs:List (List Rat))(l1:1<=cs.length)(l2:cs.length<=2)(hc:∀c∈cs,c.length<=6):a_ [.d (ptsQ cs)]=VL.ret (.list ((pch cs).map bS):ET):=by
 refine ag fun Q=>⟨?_,fun q_=>⟨cs,rfl,⟨l1,l2,hc⟩,q_⟩⟩;rintro⟨cs',e_,_,q_⟩;simp_arith only[ee,b9,b_,bv,bh,cG,dY,cQ]at e_;obtain rfl:=e_;exact q_
theorem fQ:FnScope ["_law_cuts_here", "_law_found", "_law_k"] ["_law_cuts_here"] (defScope (Cu 37)):=⟨rfl,rfl,rfl,by decide +kernel,rfl,by decide +kernel,by decide +kernel⟩
theorem d__law_patches(Fn:FnIn K mg "_law_patches" (Cu 37) ["_law_cuts_here"])(Z:Bz mg)    : Dfn P w K mg base rl "_law_patches" ["_law_cuts_here"] 1 a_:=by
 have sc:=fQ
 refine Dfn.of Fn sc (a_.mono) (a_.len) (fun cdv A outer s H E hr=>(au (dw (bg (dD hr.units) cx (aQ _) (cZ Z.len_ (aa (vn 0) ac)) ah) (ax (aH (bN ["_law_k"] [none] rfl (bx Z.range_ (aa (v_add (cZ Z.len_ (aa (bK (vn 0) ah) ac)) ah) ac)) (fun _=>(av 0 (show Gu (["_law_k"]:List Str) by decide +kernel))) (fun _=>cY) (fun _=>(bZ (aa (vn 0) ac)))))) cw)
  (au (aD 1 sc.nd (fJ ac))
  (au (cS [2] FZ rfl (bx Z.range_ (aa (v_add (cZ Z.len_ (aa (bK (vn 0) ah) ac)) ah) ac)) (av 2 sc.nd) (ax (aD 1 sc.nd (vd (vn 1) (bN ["_law_j", "_law_k"] [none,some 2] rfl (bx Z.range_ (aa (v_add (cZ Z.len_ (aa (bK (vn 0) ah) ac)) ah) ac)) (fun _=>(av 0 (show Gu (["_law_j", "_law_k"]:List Str) by decide +kernel))) (fun _=>cY) (fun _=>(bZ (aa (vn 1) (aa (vn 0) ac)))))))))
  (ax (aH (vn 1))))))) ?_
 rintro ws Q ⟨cs,rfl,⟨l1,l2,hc⟩,hQ⟩;refine aK ?_;have sz:=FI
 match cs,l1,l2,hc,hQ with
 | [c],_,_,hc,hQ =>
   have c6:=hc c E7;have gc : -(2^62)<=((c.length:Int)+1)/\((c.length:Int)+1)<2^62:=by omega
   have e1:((c.length:Int)+1).toNat=c.length+1:=by omega
   simp_arith only[aj,af,EQ,e1];refine lc (fun k=>bS [(k:Int)]) ?_ (by omega) ?_
   · intro k hk;simp_arith only[aj,af,Dr];simp[bS]
   · have e:(Gm (c.length+1)).map (fun k:Nat=>bS [(k:Int)])=(pch [c]).map bS:=by
       unfold pch;rw[Fd,Gv,uJ];unfold cF;rw[GC,GC];refine Ib fun k _=>?_;show _=bS [0+(k:Int)];rw[LD]
     rw[e];simp_arith only[aj,af]
     exact aE hQ
 | [c,d],_,_,hc,hQ =>
   have c6:=hc c E7;have d6:=hc d (E9 _ E7);have gc : -(2^62)<=((c.length:Int)+1)/\((c.length:Int)+1)<2^62:=by omega
   have gd : -(2^62)<=((d.length:Int)+1)/\((d.length:Int)+1)<2^62:=by omega
   have e1:((c.length:Int)+1).toNat=c.length+1:=by omega
   have e2:((d.length:Int)+1).toNat=d.length+1:=by omega
   have cut:∀i,(((cF 0 i).flatMap fun a=>(cF 0 (d.length+1)).map fun b=>[a,b])).length=i*(d.length+1):=fun i=>by
    rw[HA];simp only[E1,cj,List.map_const',Kg]
   simp_arith only[aj,af,EQ,e1,e2];refine dO (fun i ρ=>ρ=[some (.d (ptsQ [c,d])),some (.d (.list (((cF 0 i).flatMap fun a=>(cF 0 (d.length+1)).map fun b=>[a,b]).map bS))),none]) rfl ?_ ?_
   · rintro i hi ρ rfl K hK;simp_arith only[aj,af,EQ,e2];refine lc (fun k=>bS [(0:Int)+i,(k:Int)]) ?_ (by omega) ?_
     · intro k hk;simp_arith only[aj,af,Dr];simp[bS]
     · have ci:=cut i;have hz:i*(d.length+1)<=7*7:=KU (by omega) (by omega);have ll:(((cF 0 i).flatMap fun a=>(cF 0 (d.length+1)).map fun b=>[a,b])).length+(d.length+1)<=sizeLine:=by omega
       have lr:((Gm (d.length+1)).map fun k:Nat=>bS [(0:Int)+i,(k:Int)]).length=d.length+1:=by simp
       generalize hX:((cF 0 i).flatMap fun a=>(cF 0 (d.length+1)).map fun b=>[a,b])=X at *;simp_arith only[aj,af,List.length_range];refine hK _ (bW ?_);rw[show cF 0 (i+1)=cF 0 i++[0+(i:Int)] by unfold cF;rw[List.range_succ,FU];rfl,List.flatMap_append,hX,FU]
       have e:(Gm (d.length+1)).map (fun k:Nat=>bS [(0:Int)+i,(k:Int)])=([(0:Int)+i].flatMap fun a=>(cF 0 (d.length+1)).map fun b=>[a,b]).map bS:=by
        rw[List.flatMap_singleton];unfold cF;rw[GC,GC];refine Ib fun k _=>?_;show _=bS [_,0+(k:Int)];rw[LD (k:Int)]
       rw[e];rfl
   · rintro ρ rfl
     have e:(pch [c,d])=(cF 0 (c.length+1)).flatMap fun a=>(cF 0 (d.length+1)).map fun b=>[a,b]:=by
      unfold pch;rw[Fd,Fd,Gv,xG]
     rw[e]at hQ;simp_arith only[aj,af];exact aE hQ
noncomputable def cN:List W->(ET->Prop)->Prop:=fun ws Q=>∃(s:Sh)(p:List Int),ws=[.d (shD s),.d (bS p)]/\((s.OkM 6 20)/\(l9 s.cuts p))/\Q (fr (s.at p))
theorem cN.mono:∀ws (Q Q':ET->Prop),(∀d,Q d->Q' d)->cN ws Q->cN ws Q':=fun _ _ _ h_=>Fp fun _=>Fp fun _=>E5 (E5 (h_ _))
theorem cN.len:∀ws (Q:ET->Prop),cN ws Q->ws.length=2:=fun _ _ h_=>by obtain⟨_,_,e_,_⟩:=h_;subst e_;rfl
theorem cN.eq(s:Sh)(p:List Int)(hs:s.OkM 6 20)(hp:l9 s.cuts p):cN [.d (shD s),.d (bS p)]=VL.ret (fr (s.at p):ET):=by
 refine ag fun Q=>⟨?_,fun q_=>⟨s,p,rfl,⟨hs,hp⟩,q_⟩⟩;rintro⟨s',p',e_,_,q_⟩;simp_arith only[ee,b9,b_,bv,bh,cG,dY,cQ]at e_;obtain⟨rfl,rfl⟩:=e_;exact q_
theorem lG:FnScope ["_law_sheet_here", "_law_patch", "_law_found"] ["_law_sheet_here", "_law_patch"] (defScope (Cu 38)):=⟨rfl,rfl,rfl,by decide +kernel,rfl,by decide +kernel,by decide +kernel⟩
theorem d__law_at(Fn:FnIn K mg "_law_at" (Cu 38) ["_law_sheet_here", "_law_patch"])(Z:Bz mg)    : Dfn P w K mg base rl "_law_at" ["_law_sheet_here", "_law_patch"] 1 cN:=by
 have sc:=lG
 refine Dfn.of Fn sc (cN.mono) (cN.len) (fun cdv A outer s H E hr=>(au (aD 2 sc.nd (bK (bK (vn 0) ah) (bK (vn 1) ah)))
  (ax (aH (mH (bg (dD hr.units) cx (aQ _) (cZ Z.len_ (aa (vn 1) ac)) ah) (vn 2) (bK (vn 2) (bK (vn 1) ah))))))) ?_
 rintro ws Q ⟨s,p,rfl,⟨hs,hp⟩,hQ⟩;refine aK ?_
 cases s with
 | one c v =>
   obtain⟨k,rfl,k0,k1⟩:=l9.one hp;have hl:v.length=c.length+1:=hs.2.1;have e:=bu (xs:=v) 0 k0 (by omega);simp_arith only[aj,af,EO,EQ,Sh.vD,e]
   exact aE hQ
 | two c d vs =>
   obtain⟨k,j,rfl,⟨k0,k1⟩,j0,j1⟩:=l9.two hp;obtain⟨_,_,hl,hv⟩:=hs;have e:=bu (xs:=vs) [] k0 (by omega);have hv:=(hv _ (getD_mem (d:=[]) (show k.toNat<vs.length by omega))).1;have e2:=bu (xs:=vs.getD k.toNat []) 0 j0 (by omega);simp_arith only[aj,af,EO,EQ,Sh.vD,e,e2];exact aE hQ
noncomputable def aZ:List W->(ET->Prop)->Prop:=fun ws Q=>∃(s:Sh),ws=[.d (shD s)]/\((s.OkP 6 VQ))/\Q (.tuple ((cK s).map Cb))
theorem aZ.mono:∀ws (Q Q':ET->Prop),(∀d,Q d->Q' d)->aZ ws Q->aZ ws Q':=fun _ _ _ h_=>Fp fun _=>E5 (E5 (h_ _))
theorem aZ.len:∀ws (Q:ET->Prop),aZ ws Q->ws.length=1:=fun _ _ h_=>by obtain⟨_,e_,_⟩:=h_;subst e_;rfl
theorem aZ.eq(s:Sh)(hs:s.OkP 6 VQ):aZ [.d (shD s)]=VL.ret (.tuple ((cK s).map Cb):ET):=by
 refine ag fun Q=>⟨?_,fun q_=>⟨s,rfl,hs,q_⟩⟩;rintro⟨s',e_,_,q_⟩;simp_arith only[ee,b9,b_,bv,bh,cG,dY,cQ]at e_;obtain rfl:=e_;exact q_
theorem fP:FnScope ["_law_sheet_here", "_law_some", "_law_known", "_law_patch", "_law_here", "_law_other", "_law_found", "_law_ends"] ["_law_sheet_here"] (defScope (Cu 40)):=⟨rfl,rfl,rfl,by decide +kernel,rfl,by decide +kernel,by decide +kernel⟩
theorem d__law_weights(Fn:FnIn K mg "_law_weights" (Cu 40) ["_law_sheet_here"])(Z:Bz mg)(d__law_patches:∀rl,Dfn P w K mg base rl "_law_patches" ["_law_cuts_here"] 1 a_)(d__law_at:∀rl,Dfn P w K mg base rl "_law_at" ["_law_sheet_here", "_law_patch"] 1 cN)(d__law_plus:∀rl,Dfn P w K mg base rl "_law_plus" ["_law_one", "_law_other"] 2 bF)   : Dfn P w K mg base rl "_law_weights" ["_law_sheet_here"] 3 aZ:=by
 have sc:=fP
 refine Dfn.of Fn sc (aZ.mono) (aZ.len) (fun cdv A outer s H E hr=>(au (aD 1 sc.nd (aR (d__law_patches _) (hr.mono (by decide)) (aa (bK (vn 0) ah) ac)))
  (au (fE 2 sc.nd pA)
  (au (cS [3,4,5] FZ rfl (c9 (u8 (vn 1))) (av 3 sc.nd) (au (aD 4 sc.nd (aR (d__law_at _) (hr.mono (by decide)) (aa (vn 0) (aa (vn 3) ac))))
  (au (rZ 2 (cS [5] FZ rfl (pj 2) (av 5 sc.nd) (ax (dw (bg (dD hr.units) cx (aQ _) (bN ["_law_side", "_law_other", "_law_patch"] [none,some 5,some 3] rfl (bx Z.range_ (aa (cZ Z.len_ (aa (vn 3) ac)) ac)) (fun _=>(av 0 (show Gu (["_law_side", "_law_other", "_law_patch"]:List Str) by decide +kernel))) (fun _=>ka (bg nJ mw (aQ _) (bK (vn 1) (vn 0)) (bK (vn 2) (vn 0)))) (fun _=>(vn 0))) (fJ ac)) (ax (aD 4 sc.nd (aR (d__law_plus _) (hr.mono (by decide)) (aa (vn 4) (aa (bZ (aa (v_sub ah (bK (qO 2 hr.units (vn 5)) ah)) (aa (bK (qO 2 hr.units (vn 5)) ah) ac))) ac))))) cw))))
  (ax (rY 2 hr.units (vn 3) (vn 4))))))
  (au (fE 6 sc.nd (fJ ac))
  (au (cS [3,7] FZ rfl (c9 (vn 1)) (av 3 sc.nd) (ax (dw (bg (fY hr.units) cx (aQ _) (mD 2 hr.units (vn 3)) (bZ (aa ah (aa ah ac)))) (au (js 7 sc.nd ["_law_side", "_law_sheet_here", "_law_patch"] [none,some 0,some 3] rfl (bx Z.range_ (aa (cZ Z.len_ (aa (vn 3) ac)) ac)) (fun _=>(av 0 (show Gu (["_law_side", "_law_sheet_here", "_law_patch"]:List Str) by decide +kernel))) (fun _=>cY) (fun _=>(bK (eU (bK (bK (vn 1) ah) (vn 0)) (bZ (aa (bZ (aa ah (aa ah ac))) ac))) (bK (vn 2) (vn 0)))))
  (ax (mn 6 (aa (bZ (aa (c_ Z.tuple_ (aa (bN ["_law_end"] [none] rfl (c9 (vn 7)) (fun _=>(av 0 (show Gu (["_law_end"]:List Str) by decide +kernel))) (fun _=>cY) (fun _=>(bZ (aa eY (aa (vn 0) ac))))) ac)) (aa (mD 2 hr.units (vn 3)) ac))) ac)))) cw)))
  (ax (aH (c_ Z.tuple_ (aa (vn 6) ac)))))))))) ?_
 rintro ws Q ⟨s,rfl,hs,hQ⟩;refine aK ?_;have sz:=FI;have h20:=lM hs;have pl:=fy h20;have c1:=cpos s;have c2:=s.cl;have c6:=s.cut6 h20;have cl6:∀c∈s.cuts,c.length<=6:=fun c mc=>(c6 c mc).len;simp_arith only[aj,af,EO,a_.eq,cN.eq,bF.eq,EQ,dn,fR,CT,jA,bV,cO,bU,cL,CQ,fD,bG,bc,bf];rw[<- List.map_reverse];have rl_:(pch s.cuts).reverse.length<=49:=by rw[H_];exact pl
 have rnd:(pch s.cuts).reverse.Nodup:=KE.mpr ((re s).imp fun h=>II h);refine gb (xs:=(pch s.cuts).reverse) (enc:=bS) (fun i ρ=>ρ=[some (.d (shD s)),some (.d (.list ((pch s.cuts).map bS))),some (.xm (Do s ((pch s.cuts).reverse.take i))),none,none,none,none,none]) rfl rfl ?_ ?_
 · rintro i hi ρ rfl K hK;have st:=uR s hi;have mp:(pch s.cuts).reverse[i]∈pch s.cuts:=IQ.mp (Gb hi);have tk:(pch s.cuts).reverse.take (i+1)=(pch s.cuts).reverse.take i++[(pch s.cuts).reverse[i]]:=FN hi
   have nin:(pch s.cuts).reverse[i]∉(pch s.cuts).reverse.take i:=fun z=>by
    have pw:=rnd;rw[<- IG i (pch s.cuts).reverse,FS hi]at pw;exact(HU.mp pw).2.2 _ z _ E7 rfl
   have rm:∀q∈(pch s.cuts).reverse.take i,q∈pch s.cuts:=fun q mq=>IQ.mp (List.mem_of_mem_take mq);have rtl:((pch s.cuts).reverse.take i).length<=49:=by rw[GK];omega
   have rnd2:((pch s.cuts).reverse.take i).Nodup:=(List.take_sublist i _).nodup rnd;generalize (pch s.cuts).reverse[i]=p at *;generalize (pch s.cuts).reverse.take i=r at *;rw[tk]at hK;have pk:=s.pch_ok p mp;have plen:p.length=s.cuts.length:=pk.1;simp_arith only[aj,af,EO,a_.eq,cN.eq,bF.eq,EQ,dn,fR,CT,jA,bV,cO,bU,cL,CQ,fD,bG,bc,bf]
   (with_reducible (first|refine aL fun ad had=>?_|refine bi fun ad had=>?_))
   rw[vS];refine gb (xs:=r) (enc:=bS) (fun j ρ=>ρ=[some (.d (shD s)),some (.d (.list ((pch s.cuts).map bS))),some (.xw ad (Do s r)),some (.d (bS p)),some (.d (fr (s.at p-cp ((r.take j).map fun q=>if Dm p q=true then aw s s.cuts.length q else 0)))),none,none,none]) (qe s r) ?_ ?_ ?_
   · have e0:s.at p-cp ((r.take 0).map fun q=>if Dm p q=true then aw s s.cuts.length q else 0)=s.at p:=by show s.at p-0=s.at p;grind
     rw[e0]
   · rintro j hj ρ rfl K2 hK2;have mq:=rm _ (Gb hj);have hD:=rA hs mp rm (Dm p) j;have hv:=nS (s:=s) (Gb hj);have hj':r.take (j+1)=r.take j++[r[j]]:=FN hj;have qlen:r[j].length=p.length:=by rw[plen,(s.pch_ok _ mq).1]
     rw[hj']at hK2;generalize r[j]=q at *;have gp : -(2^62)<=(p.length:Int)/\(p.length:Int)<2^62:=by omega
     have lb:=wY mp mq;have fW:=gh hs mq;have eW:Gw [.int (0-(aw s s.cuts.length q).num),.int ((aw s s.cuts.length q).den:Int)]=fr (-(aw s s.cuts.length q)):=by unfold fr;rw[J3,LU,Int.zero_sub]
     have s1:C6 2000 (-(aw s s.cuts.length q)):=wR ((fW.sm (k:=60) (by decide) (by decide)).mono (by decide));have jb:j<=49:=by omega
     have s2:C6 2000 (s.at p-cp ((r.take j).map fun q=>if Dm p q=true then aw s s.cuts.length q else 0)):=(hD.sm (k:=60) (by omega) (by decide)).mono (by decide)
     have nx:s.at p-cp ((r.take j++[q]).map fun q=>if Dm p q=true then aw s s.cuts.length q else 0)=if Dm p q=true then s.at p-cp ((r.take j).map fun q=>if Dm p q=true then aw s s.cuts.length q else 0) + -(aw s s.cuts.length q)else s.at p-cp ((r.take j).map fun q=>if Dm p q=true then aw s s.cuts.length q else 0):=by
      rw[FU,da,Fd,Gv,aM];show _-(_+(_+(0:Rat)))=_;split<;>grind
     generalize s.at p-cp ((r.take j).map fun q=>if Dm p q=true then aw s s.cuts.length q else 0)=A at *;generalize aw s s.cuts.length q=w at *;simp_arith only[aj,af,EO,a_.eq,cN.eq,bF.eq,EQ,dn,fR,CT,jA,bV,cO,bU,cL,CQ,fD,bG,bc,bf,hv];refine lf (xs:=cF 0 p.length) (enc:=FG) (fun k=>if decide (q.getD k.toNat 0<p.getD k.toNat 0)=true then some (.int k)else none) (dJ _ _) ?_ (by rw[cj];omega) ?_
     · intro k mk;obtain⟨k0,k1⟩:=x6.mp mk;have e1:=bu (xs:=q) 0 k0 (by omega);have e2:=bu (xs:=p) 0 k0 (by omega);simp_arith only[aj,af,Dr,EO,e1,e2];split<;>rfl
     have shX:Gf (.list ((cF 0 p.length).filterMap fun k=>if decide (q.getD k.toNat 0<p.getD k.toNat 0)=true then some (FG k)else none))=true:=by
      rw[jg (fun k:Int=>decide (q.getD k.toNat 0<p.getD k.toNat 0)) FG];exact shaped_ints _
     have eqX:(K9 ((cF 0 p.length).filterMap fun k=>if decide (q.getD k.toNat 0<p.getD k.toNat 0)=true then some (FG k)else none)).eqv (.list [])=Dm p q:=by rw[oy,lb]
     generalize (cF 0 p.length).filterMap (fun k=>if decide (q.getD k.toNat 0<p.getD k.toNat 0)=true then some (FG k)else none)=X at *;simp_arith only[aj,af,EO,a_.eq,cN.eq,bF.eq,EQ,dn,fR,CT,jA,bV,cO,bU,cL,CQ,fD,bG,bc,bf,hv,shX,eqX,eW,bF.eq]
     cases hb:Dm p q with
     | true =>
       rw[hb,if_pos rfl]at nx;simp_arith only[aj,af,EO,EQ,hb,bF.eq,eW];refine hK2 _ (bW ?_)
       rw[nx];rfl
     | false =>
       rw[hb,if_neg (by decide)]at nx;simp_arith only[aj,af,EO,EQ,hb];refine hK2 _ (bW ?_);rw[nx];rfl
   · rintro ρ rfl;rw[Fi (E3 _),st];simp_arith only[aj,af,EO,a_.eq,cN.eq,bF.eq,EQ,dn,fR,CT,jA,bV,cO,bU,cL,CQ,fD,bG,bc,bf];have kl:=ui s r;refine bY rfl (bY (by rw[kl];omega) ?_);refine hK _ (bW ?_);rw[uh nin];rfl
 · rintro ρ rfl;rw[Fi (E3 _)];simp_arith only[aj,af,EO,a_.eq,cN.eq,bF.eq,EQ,dn,fR,CT,jA,bV,cO,bU,cL,CQ,fD,bG,bc,bf];refine gb (xs:=pch s.cuts) (enc:=bS) (fun i ρ=>ρ=[some (.d (shD s)),some (.d (.list ((pch s.cuts).map bS))),some (.xm (Do s (pch s.cuts).reverse)),none,none,none,some (.ml ((pe s ((pch s.cuts).take i)).map Cb)),none]) rfl rfl ?_ ?_
   · rintro i hi ρ rfl K hK;have mp:=Gb hi;have tk:(pch s.cuts).take (i+1)=(pch s.cuts).take i++[(pch s.cuts)[i]]:=FN hi;have wl:=j9 s ((pch s.cuts).take i);rw[GK]at wl;have w2:(pe s ((pch s.cuts).take i)).length<sizeLine:=by omega
     generalize (pch s.cuts)[i]=p at *;generalize (pch s.cuts).take i=r at *;rw[tk,mf]at hK;have hv:=nS (s:=s) (r:=(pch s.cuts).reverse) (IQ.mpr mp);have pk:=s.pch_ok p mp;have plen:p.length=s.cuts.length:=pk.1;have ix:=uw mp;have sh:=fM (aw s s.cuts.length p);have ev:(fr (aw s s.cuts.length p)).eqv (fr 0)=decide (aw s s.cuts.length p=0):=jh _ 0;have ev2:(fr (aw s s.cuts.length p)).eqv (Gw [FG 0,FG 1])=decide (aw s s.cuts.length p=0):=jh _ 0;have gp : -(2^62)<=(p.length:Int)/\(p.length:Int)<2^62:=by omega
     generalize aw s s.cuts.length p=w at *;by_cases c:w=0
     · have d:=decide_eq_true c;rw[if_pos c]at hK;simp_arith only[aj,af,EO,a_.eq,cN.eq,bF.eq,EQ,dn,fR,CT,jA,bV,cO,bU,cL,CQ,fD,bG,bc,bf,hv,sh,ev,ev2,d];exact hK _ (bW rfl)
     · have d:=decide_eq_false c;rw[if_neg c]at hK;simp_arith only[aj,af,EO,a_.eq,cN.eq,bF.eq,EQ,dn,fR,CT,jA,bV,cO,bU,cL,CQ,fD,bG,bc,bf,hv,sh,ev,ev2,d];refine CO (dQ (xs:=cF 0 p.length) (enc:=FG) (fun k=>fr (((s.cuts.getD k.toNat [])++[1]).getD (p.getD k.toNat 0).toNat 0)) (dJ _ _) ?_ (by rw[cj];omega) ?_)
       · intro k mk;obtain⟨k0,k1⟩:=x6.mp mk;have e1:=bu (xs:=s.cuts) [] k0 (by omega);have e2:=bu (xs:=p) 0 k0 (by omega)
         have hz:(s.cuts.getD k.toNat [],p.getD k.toNat 0)∈s.cuts.zip p:=by
          have h1:k.toNat<s.cuts.length:=by omega
          have h2:k.toNat<p.length:=by omega
          rw[cX h1,cX h2,<- List.getElem_zip (h:=by rw[Jj];omega)];exact Gb _
         obtain⟨j0,j1⟩:=pk.2 _ hz;dsimp only at j0 j1;have cl:=cl6 _ (Hq hz).1;generalize s.cuts.getD k.toNat []=c at *;generalize p.getD k.toNat 0=j at *;have g1:(c.map fr).length+1<=sizeLine:=by rw[E1];omega
         have g2:c.length+1<=sizeLine:=by omega
         have em:c.map fr++[Gw [FG 1,FG 1]]=(c++[1]).map fr:=by rw[FU];rfl
         have e3:=bu (xs:=c++[1]) 0 j0 (by simp;omega);have e4:atI ((c++[1]).map fr) j=some (fr ((c++[1]).getD j.toNat 0)):=by rw[atI_map,e3];rfl
         simp_arith only[aj,af,Dr,EO,EQ,e1,e2,em,e3,e4]
       rw[ix];simp_arith only[aj,af,EO,a_.eq,cN.eq,bF.eq,EQ,dn,fR,CT,jA,bV,cO,bU,cL,CQ,fD,bG,bc,bf];have el:=eg pk;refine(dQ (xs:=endsP s.cuts p) (enc:=fr) Cw rfl ?_ (by omega) ?_)
       · intro e me;simp_arith only[aj,af,Dr];rfl
       simp_arith only[aj,af,EO,a_.eq,cN.eq,bF.eq,EQ,dn,fR,CT,jA,bV,cO,bU,cL,CQ,fD,bG,bc,bf,hv];refine hK _ (bW ?_);rw[FU];rfl
   · rintro ρ rfl;rw[Fi (E3 _)];have wl:=j9 s (pch s.cuts);have w2:(pe s (pch s.cuts)).length<=sizeLine:=by omega
     simp_arith only[aj,af,EO,a_.eq,cN.eq,bF.eq,EQ,dn,fR,CT,jA,bV,cO,bU,cL,CQ,fD,bG,bc,bf];exact aE hQ
noncomputable def bD:List W->(ET->Prop)->Prop:=fun ws Q=>ws=[.reel]/\(True)/\∀r:Rat,(VQ r)->Q (fr r)
theorem bD.mono:∀ws (Q Q':ET->Prop),(∀d,Q d->Q' d)->bD ws Q->bD ws Q':=fun _ _ _ h_=>E5 (E5 fun q_ o_ ho_=>h_ _ (q_ o_ ho_))
theorem bD.len:∀ws (Q:ET->Prop),bD ws Q->ws.length=1:=fun _ _ h_=>by obtain⟨e_,_⟩:=h_;subst e_;rfl
theorem bD.eq   : bD [.reel]=DK (anyM fun r:Rat=>VQ r) fun r=>VL.ret (fr r:ET):=by
 refine ag fun Q=>⟨?_,fun q_=>⟨rfl,trivial,q_⟩⟩;rintro⟨e_,_,q_⟩;simp_arith only[ee,b9,b_,bv,bh,cG]at e_;exact q_
theorem im:FnScope ["_law_feed_here"] ["_law_feed_here"] (defScope (Cu 34)):=⟨rfl,rfl,rfl,by decide +kernel,rfl,by decide +kernel,by decide +kernel⟩
theorem d__law_value(Fn:FnIn K mg "_law_value" (Cu 34) ["_law_feed_here"])(Z:Bz mg)(d__law_frac:∀rl,Dfn P w K mg base rl "_law_frac" ["_law_n", "_law_d"] 1 bm)(d__law_draw:∀al,DfnC P w K mg base al 1 "_law_draw" ["_law_feed_here", "_law_many"] 1 ba)   : DfnC P w K mg base al 2 "_law_value" ["_law_feed_here"] 2 bD:=by
 have sc:=im;refine DfnC.of Fn sc (bD.mono) (bD.len) (fun cdv A outer s H E hr=>(cI (rH (uC (fun n=>d__law_frac _) (hr.mono (by decide)) (aq (zA (cP (d__law_draw _) (hr.mono (by decide)) (aq (cv fun _=>(vn 0)) (aq (cv fun _=>ah) be))) (cv fun _=>ah)) (aq (A3 (cv fun _=>(fJ (aa ah (aa ah (aa ah (aa ah (aa ah (aa ah ac)))))))) (cP (d__law_draw _) (hr.mono (by decide)) (aq (cv fun _=>(vn 0)) (aq (cv fun _=>ah) be)))) be)))))) (by decide) ?_;rintro ws Q ⟨rfl,_,hQ⟩;refine aK ?_;simp_arith only[aj,af,aN,aO,ay,aB,aP,aA,am,ae,ba.eq]
 (with_reducible (first|refine aL fun a ha=>?_|refine bi fun a ha=>?_))
 try simp_arith only[aj,af,aN,aO,ay,aB,aP,aA,am,ae,ba.eq]
 (with_reducible (first|refine aL fun k hk=>?_|refine bi fun k hk=>?_))
 try simp_arith only[aj,af,aN,aO,ay,aB,aP,aA,am,ae,ba.eq]
 refine(gW (xs:=[1,1,2,3,7,999983]) (enc:=FG) (fun m=>(1<=m/\m<=999983)/\m∣41999286) rfl hk.1 (by show k<6;omega) (by decide) fun m hm=>?_);have m0:0<m:=by omega
 have mz:m.natAbs<2^8000:=E6 (show m.natAbs<2^60 by omega) (Fq (by decide) (by decide));simp_arith only[aj,af,aN,aO,ay,aB,aP,aA,am,ae,bm.eq];exact aE (hQ _ ⟨s_ m0 (by omega) (by omega),EC.of m0 hm.2 (by omega)⟩)
theorem mY{m:Mo Fl}{k:En->Mo Fl}{Q:Fl->Prop}(P:α->Prop)(g:α->Fl)(h:∀Q':Fl->Prop,(∀a,P a->Q' (g a))->m Q')(fin:∀a,P a->sq (VL.ret (g a)) k Q):sq m k Q:=h _ fun a ha=>fin a ha
noncomputable def bO:List W->(ET->Prop)->Prop:=fun ws Q=>∃(s:Int),ws=[.reel,.d (.int s)]/\((1<=s)/\(s<=2))/\∀cs:List (List Rat),(cs.length=s.toNat/\∀c∈cs,di 6 c)->Q (ptsQ cs)
theorem bO.mono:∀ws (Q Q':ET->Prop),(∀d,Q d->Q' d)->bO ws Q->bO ws Q':=fun _ _ _ h_=>Fp fun _=>E5 (E5 fun q_ o_ ho_=>h_ _ (q_ o_ ho_))
theorem bO.len:∀ws (Q:ET->Prop),bO ws Q->ws.length=2:=fun _ _ h_=>by obtain⟨_,e_,_⟩:=h_;subst e_;rfl
theorem bO.eq(s:Int)(s1:1<=s)(s2:s<=2):bO [.reel,.d (.int s)]=DK (anyM fun cs:List (List Rat)=>cs.length=s.toNat/\∀c∈cs,di 6 c) fun cs=>VL.ret (ptsQ cs:ET):=by
 refine ag fun Q=>⟨?_,fun q_=>⟨s,rfl,⟨s1,s2⟩,q_⟩⟩;rintro⟨s',e_,_,q_⟩;simp_arith only[ee,b9,b_,bv,bh,cG]at e_;obtain rfl:=e_;exact q_
theorem i3:FnScope ["_law_feed_here", "_law_s", "_law_found", "_law_most", "_law_side", "_law_d", "_law_some", "_law_at_here", "_law_k"] ["_law_feed_here", "_law_s"] (defScope (Cu 33)):=⟨rfl,rfl,rfl,by decide +kernel,rfl,by decide +kernel,by decide +kernel⟩
theorem d__law_cuts(Fn:FnIn K mg "_law_cuts" (Cu 33) ["_law_feed_here", "_law_s"])(Z:Bz mg)(d__law_draw:∀al,DfnC P w K mg base al 1 "_law_draw" ["_law_feed_here", "_law_many"] 1 ba)(d__law_frac:∀rl,Dfn P w K mg base rl "_law_frac" ["_law_n", "_law_d"] 1 bm)   : DfnC P w K mg base al 4225 "_law_cuts" ["_law_feed_here", "_law_s"] 2 bO:=by
 have sc:=i3
 refine DfnC.of Fn sc (bO.mono) (bO.len) (fun cdv A outer s H E hr=>(aF (cs fun _=>(fE 2 sc.nd (fJ ac)))
  (aF (cs fun _=>(aD 3 sc.nd ah))
  (aF (oJ (EL.cb (xI (cb fun _=>(bg (dD hr.units) cx (aQ _) (vn 1) ah)) (uB (oR tU (fun _=>sa) (aQ _) (cP (d__law_draw _) (hr.mono (by decide)) (aq (cv fun _=>(vn 0)) (aq (cv fun _=>ah) be))) (cv fun _=>ah))))) (cI (cs fun _=>(aD 3 sc.nd ah))) ji)
  (aF (jj 64 [4,5,6,7,8] FZ rfl (ci fun _=>(bx Z.range_ (aa (vn 1) ac))) (fun _=>(av 4 sc.nd)) (aF (gw 5 sc.nd (A3 (cv fun _=>(fJ (aa ah (aa ah (aa ah (aa ah ac)))))) (cP (d__law_draw _) (hr.mono (by decide)) (aq (cv fun _=>(vn 0)) (aq (cv fun _=>ah) be)))))
  (aF (cs fun _=>(fE 6 sc.nd (fJ ac)))
  (aF (cs fun _=>(aD 7 sc.nd ah))
  (aF (jj 64 [8] FZ rfl (oQ Z.range_ (aq (cP (d__law_draw _) (hr.mono (by decide)) (aq (cv fun _=>(vn 0)) (aq (cv fun _=>(vn 3)) be))) be)) (fun _=>(av 8 sc.nd)) (cI (oJ (cb fun _=>(bg nJ mw (aQ _) (v_add (vn 7) ah) (vn 5))) (aF (gw 7 sc.nd (xK (cv fun _=>(v_add (vn 7) ah)) (cP (d__law_draw _) (hr.mono (by decide)) (aq (cv fun _=>(vn 0)) (aq (cv fun _=>(vb Z.min_ (aa ah (aa (v_sub (v_sub (vn 5) (vn 7)) ah) ac)))) be)))))
  (cI (cs fun _=>(mn 6 (aa (aR (d__law_frac _) (hr.mono (by decide)) (aa (vn 7) (aa (vn 5) ac))) ac))))) ji)))
  (cI (cs fun _=>(mn 2 (aa (c_ Z.tuple_ (aa (vn 6) ac)) ac)))))))))
  (cI (cs fun _=>(aH (c_ Z.tuple_ (aa (vn 2) ac)))))))))) (by decide) ?_
 rintro ws Q ⟨s,rfl,⟨s1,s2⟩,hQ⟩;refine aK ?_;have sz:=FI;have gs : -(2^62)<=s/\s<2^62:=by omega
 rw[s_seq]
 refine mY (fun _:Unit=>True) (fun _=>.nx [some .reel,some (.d (.int s)),some (.ml []),none,none,none,none,none,none]) (fun Q' hQ'=>by
  simp_arith only[aj,af,aN,aO,ay,aB,aP,aA,am,ae,ba.eq]
  exact hQ' () trivial) fun _ _=>?_
 rw[sq_nx,s_seq]
 refine mY (fun _:Unit=>True) (fun _=>.nx [some .reel,some (.d (.int s)),some (.ml []),some (.d (.int 7)),none,none,none,none,none]) (fun Q' hQ'=>by
  simp_arith only[aj,af,aN,aO,ay,aB,aP,aA,am,ae,ba.eq]
  exact hQ' () trivial) fun _ _=>?_
 rw[sq_nx,s_seq]
 refine mY (fun m:Int=>0<m/\m<=7) (fun m=>.nx [some .reel,some (.d (.int s)),some (.ml []),some (.d (.int m)),none,none,none,none,none]) (fun Q' hQ'=>by
  simp_arith only[aj,af,aN,aO,ay,aB,aP,aA,am,ae,ba.eq];refine df (fun h2=>?_) fun h2=>hQ' 7 (by decide);refine aL fun a ha=>?_;refine hQ' _ ?_
  split<;>decide) fun mo hmo=>?_
 rw[sq_nx];simp_arith only[aj,af,aN,aO,ay,aB,aP,aA,am,ae,ba.eq];refine dO (fun i ρ=>∃cs:List (List Rat),cs.length=i/\(∀c∈cs,di 6 c)/\ρ=[some .reel,some (.d (.int s)),some (.ml (cs.map C_)),some (.d (.int mo)),none,none,none,none,none]) ⟨[],rfl,by simp[D8],rfl⟩ ?_ ?_
 · rintro i hi ρ ⟨cs,hl,hc,rfl⟩ K hK;simp_arith only[aj,af,aN,aO,ay,aB,aP,aA,am,ae,ba.eq]
   (with_reducible (first|refine aL fun k hk=>?_|refine bi fun k hk=>?_))
   refine CN (gW (xs:=[8,9,12,1000003]) (enc:=FG) (fun m=>8<=m/\m<=1000003) rfl hk.1 (by show k<4;omega) (by decide) fun d hd=>?_);have d0:0<d:=by omega
   have dz:d.natAbs<2^8000:=E6 (show d.natAbs<2^60 by omega) (Fq (by decide) (by decide));have mo0:0<mo:=hmo.1;have mo1:mo<2^60:=by omega
   simp_arith only[aj,af,aN,aO,ay,aB,aP,aA,am,ae,ba.eq]
   (with_reducible (first|refine aL fun n hn=>?_|refine bi fun n hn=>?_))
   have gn : -(2^62)<=n/\n<2^62:=by omega
   have n7:n.toNat<=6:=by have:=hn.2;omega
   have n64:n.toNat<=64:=by omega
   simp_arith only[aj,af,aN,aO,ay,aB,aP,aA,am,ae];refine dO (fun j ρ=>∃(as:List Int)(a:Int),as.length<=j/\(∀x∈as,0<x/\x<=a)/\as.Pairwise (· < ·)/\0<=a/\a<d/\ρ=[some .reel,some (.d (.int s)),some (.ml (cs.map C_)),some (.d (.int mo)),some (.d (.int (0+i))),some (.d (.int d)),some (.ml ((as.map fun a=>qd a d).map fr)),some (.d (.int a)),none]) ⟨[],0,E3 _,by simp,.nil,K8 _,d0,rfl⟩ ?_ ?_
   · rintro j hj ρ ⟨as,a,al,ha,hpw,a0,a1,rfl⟩ K2 hK2;simp_arith only[aj,af,aN,aO,ay,aB,aP,aA,am,ae,ba.eq];refine df (fun hlt=>?_) fun _=>hK2 _ (bW ⟨as,a,by omega,ha,hpw,a0,a1,rfl⟩);have hlt:=of_decide_eq_true hlt;have m0:0<min 4 (d-a-1):=by omega
     have m1:min 4 (d-a-1)<2^60:=by omega
     simp_arith only[aj,af,aN,aO,ay,aB,aP,aA,am,ae,ba.eq]
     (with_reducible (first|refine aL fun x hx=>?_|refine bi fun x hx=>?_))
     have az:as.length<sizeLine:=by omega
     have xd:a+1+x<d:=by have:=hx.2;omega
     have x0:=hx.1;generalize hy:a+1+x=y at xd;simp_arith only[aj,af,aN,aO,ay,aB,aP,aA,am,ae,bm.eq];refine hK2 _ (bW ⟨as++[y],y,by rw[Ga];simp;omega,fun z mz=>?_,?_,by omega,xd,by simp[fo,FU]⟩)
     · rcases GG.mp mz with h|h
       · have:=ha z h;omega
       · rw[FM.mp h];omega
     · rw[HU];refine⟨hpw,List.pairwise_singleton _ _,fun u mu v mv=>?_⟩;rw[FM.mp mv];have:=ha u mu;omega
   · rintro ρ ⟨as,a,al,ha,hpw,a0,a1,rfl⟩;have cz:cs.length<sizeLine:=by omega
     have az:as.length<=sizeLine:=by omega
     simp_arith only[aj,af,aN,aO,ay,aB,aP,aA,am,ae];refine hK _ (bW ⟨cs++[as.map fun a=>qd a d],by rw[Ga,hl];rfl,fun c mc=>?_,by simp[fo,FU,C_]⟩);rcases GG.mp mc with h|h
     · exact hc c h
     · rw[FM.mp h];exact⟨d,as,d0,by omega,Gk al n7,rfl,fun x mx=>by have:=ha x mx;omega,hpw⟩
 · rintro ρ ⟨cs,hl,hc,rfl⟩;simp_arith only[aj,af,aN,aO,ay,aB,aP,aA,am,ae];exact aE (hQ cs ⟨hl,hc⟩)
noncomputable def bE:List W->(ET->Prop)->Prop:=fun ws Q=>∃(s:Int),ws=[.reel,.d (.int s)]/\((1<=s)/\(s<=2))/\∀h:Sh,(h.OkP 6 VQ/\h.cuts.length=s.toNat)->Q (shD h)
theorem bE.mono:∀ws (Q Q':ET->Prop),(∀d,Q d->Q' d)->bE ws Q->bE ws Q':=fun _ _ _ h_=>Fp fun _=>E5 (E5 fun q_ o_ ho_=>h_ _ (q_ o_ ho_))
theorem bE.len:∀ws (Q:ET->Prop),bE ws Q->ws.length=2:=fun _ _ h_=>by obtain⟨_,e_,_⟩:=h_;subst e_;rfl
theorem bE.eq(s:Int)(s1:1<=s)(s2:s<=2):bE [.reel,.d (.int s)]=DK (anyM fun h:Sh=>h.OkP 6 VQ/\h.cuts.length=s.toNat) fun h=>VL.ret (shD h:ET):=by
 refine ag fun Q=>⟨?_,fun q_=>⟨s,rfl,⟨s1,s2⟩,q_⟩⟩;rintro⟨s',e_,_,q_⟩;simp_arith only[ee,b9,b_,bv,bh,cG,dY,cQ]at e_;obtain rfl:=e_;exact q_
theorem io:FnScope ["_law_feed_here", "_law_s", "_law_cuts_here", "_law_rows", "_law_k"] ["_law_feed_here", "_law_s"] (defScope (Cu 35)):=⟨rfl,rfl,rfl,by decide +kernel,rfl,by decide +kernel,by decide +kernel⟩
theorem d__law_sheet(Fn:FnIn K mg "_law_sheet" (Cu 35) ["_law_feed_here", "_law_s"])(Z:Bz mg)(d__law_cuts:∀al,DfnC P w K mg base al 4225 "_law_cuts" ["_law_feed_here", "_law_s"] 2 bO)(d__law_value:∀al,DfnC P w K mg base al 2 "_law_value" ["_law_feed_here"] 2 bD)   : DfnC P w K mg base al 12545 "_law_sheet" ["_law_feed_here", "_law_s"] 3 bE:=by
 have sc:=io
 refine DfnC.of Fn sc (bE.mono) (bE.len) (fun cdv A outer s H E hr=>(aF (gw 2 sc.nd (cP (d__law_cuts _) (hr.mono (by decide)) (aq (cv fun _=>(vn 0)) (aq (cv fun _=>(vn 1)) be))))
  (aF (oJ (cb fun _=>(bg (dD hr.units) cx (aQ _) (vn 1) ah)) (cI (rH (zz (aq (cv fun _=>(vn 2)) (aq (oV Z.tuple_ (aq (oW 64 ["_law_k", "_law_feed_here"] [none,some 0] rfl (ci fun _=>(bx Z.range_ (aa (v_add (cZ Z.len_ (aa (bK (vn 2) ah) ac)) ah) ac))) (fun _ _=>(av 0 (show Gu (["_law_k", "_law_feed_here"]:List Str) by decide +kernel))) (fun _=>rG) (fun _=>(cP (d__law_value _) (hr.mono (by decide)) (aq (cv fun _=>(vn 1)) be)))) be)) be))))) ji)
  (aF (cs fun _=>(fE 3 sc.nd (fJ ac)))
  (aF (jj 64 [4] FZ rfl (ci fun _=>(bx Z.range_ (aa (v_add (cZ Z.len_ (aa (bK (vn 2) ah) ac)) ah) ac))) (fun _=>(av 4 sc.nd)) (cI (xF 3 (aq (oV Z.tuple_ (aq (oW 64 ["_law_j", "_law_feed_here"] [none,some 0] rfl (ci fun _=>(bx Z.range_ (aa (v_add (cZ Z.len_ (aa (bK (vn 2) ah) ac)) ah) ac))) (fun _ _=>(av 0 (show Gu (["_law_j", "_law_feed_here"]:List Str) by decide +kernel))) (fun _=>rG) (fun _=>(cP (d__law_value _) (hr.mono (by decide)) (aq (cv fun _=>(vn 1)) be)))) be)) be))))
  (cI (cs fun _=>(aH (bZ (aa (vn 2) (aa (c_ Z.tuple_ (aa (vn 3) ac)) ac))))))))))) (by decide) ?_
 rintro ws Q ⟨s,rfl,⟨s1,s2⟩,hQ⟩;refine aK ?_;have sz:=FI;simp_arith only[aj,af,aN,aO,ay,aB,aP,aA,am,ae,bO.eq]
 (with_reducible (first|refine aL fun cs hcs=>?_|refine bi fun cs hcs=>?_))
 obtain⟨cl,hc⟩:=hcs;rcases(show s=1\/s=2 by omega)with rfl|rfl
 · obtain⟨c,rfl⟩:∃c,cs=[c]:=by
     match cs,cl with
     | [c],_=>exact⟨c,rfl⟩
   have ck:di 6 c:=hc c E7;have c6:=ck.len;have gc : -(2^62)<=((c.length:Int)+1)/\((c.length:Int)+1)<2^62:=by omega
   have e1:((c.length:Int)+1).toNat=c.length+1:=by omega
   have t64:((c.length:Int)+1).toNat<=64:=by omega
   simp_arith only[aj,af,aN,aO,ay,aB,aP,aA,am,ae,EQ];refine CO (lj (fun d=>∃r:Rat,VQ r/\d=fr r) ?_ (by omega) ?_)
   · intro j hj K2 hK2;simp_arith only[aj,af,Dr,bD.eq]
     (with_reducible (first|refine aL fun x hx=>?_|refine bi fun x hx=>?_))
     exact hK2 _ ⟨x,hx,rfl⟩
   intro ds dl hds;obtain⟨qs,rfl,ql,hqs⟩:=iE hds;have qz:(qs.map fr).length<=sizeLine:=by omega
   simp_arith only[aj,af,aN,aO,ay,aB,aP,aA,am,ae,EO];exact aE (hQ (.one c qs) ⟨⟨ck,by omega,hqs⟩,rfl⟩)
 · obtain⟨c,d,rfl⟩:∃c d,cs=[c,d]:=by
     match cs,cl with
     | [c,d],_=>exact⟨c,d,rfl⟩
   have ck:di 6 c:=hc c E7;have dk:di 6 d:=hc d (E9 _ E7);have c6:=ck.len;have d6:=dk.len;have gc : -(2^62)<=((c.length:Int)+1)/\((c.length:Int)+1)<2^62:=by omega
   have gd : -(2^62)<=((d.length:Int)+1)/\((d.length:Int)+1)<2^62:=by omega
   have e1:((c.length:Int)+1).toNat=c.length+1:=by omega
   have e2:((d.length:Int)+1).toNat=d.length+1:=by omega
   simp_arith only[aj,af,aN,aO,ay,aB,aP,aA,am,ae,EQ,e1,e2];refine dO (fun i ρ=>∃vs:List (List Rat),vs.length=i/\(∀v∈vs,v.length=d.length+1/\∀q∈v,VQ q)/\ρ=[some .reel,some (.d (.int 2)),some (.d (ptsQ [c,d])),some (.ml (vs.map C_)),none]) ⟨[],rfl,by simp,rfl⟩ ?_ ?_
   · rintro i hi ρ ⟨vs,hl,hv,rfl⟩ K hK;simp_arith only[aj,af,aN,aO,ay,aB,aP,aA,am,ae,EQ,e2];refine(lj (fun d=>∃r:Rat,VQ r/\d=fr r) ?_ (by omega) ?_)
     · intro j hj K2 hK2;simp_arith only[aj,af,Dr,bD.eq]
       (with_reducible (first|refine aL fun x hx=>?_|refine bi fun x hx=>?_))
       exact hK2 _ ⟨x,hx,rfl⟩
     intro ds dl hds;obtain⟨qs,rfl,ql,hqs⟩:=iE hds;have qz:(qs.map fr).length<=sizeLine:=by omega
     have vz:vs.length<sizeLine:=by omega
     simp_arith only[aj,af,aN,aO,ay,aB,aP,aA,am,ae,EO];refine hK _ (bW ⟨vs++[qs],by rw[Ga,hl];rfl,fun v mv=>?_,by simp[fo,FU]⟩);rcases GG.mp mv with h|h
     · exact hv v h
     · rw[FM.mp h];exact⟨by omega,hqs⟩
   · rintro ρ ⟨vs,hl,hv,rfl⟩;have vz:vs.length<=sizeLine:=by omega
     simp_arith only[aj,af,aN,aO,ay,aB,aP,aA,am,ae];exact aE (hQ (.two c d vs) ⟨⟨ck,dk,hl,hv⟩,rfl⟩)
noncomputable def bo:List W->(ET->Prop)->Prop:=fun ws Q=>∃(s:Sh),ws=[.reel,.d (shD s)]/\((s.OkP 6 VQ))/\∀h:Sh,(h.OkP 6 VQ)->Q (shD h)
theorem bo.mono:∀ws (Q Q':ET->Prop),(∀d,Q d->Q' d)->bo ws Q->bo ws Q':=fun _ _ _ h_=>Fp fun _=>E5 (E5 fun q_ o_ ho_=>h_ _ (q_ o_ ho_))
theorem bo.len:∀ws (Q:ET->Prop),bo ws Q->ws.length=2:=fun _ _ h_=>by obtain⟨_,e_,_⟩:=h_;subst e_;rfl
theorem bo.eq(s:Sh)(hs:s.OkP 6 VQ):bo [.reel,.d (shD s)]=DK (anyM fun h:Sh=>h.OkP 6 VQ) fun h=>VL.ret (shD h:ET):=by
 refine ag fun Q=>⟨?_,fun q_=>⟨s,rfl,hs,q_⟩⟩;rintro⟨s',e_,_,q_⟩;simp_arith only[ee,b9,b_,bv,bh,cG,dY,cQ]at e_;obtain rfl:=e_;exact q_
theorem gK:FnScope ["_law_feed_here", "_law_sheet_here", "_law_values", "_law_k"] ["_law_feed_here", "_law_sheet_here"] (defScope (Cu 39)):=⟨rfl,rfl,rfl,by decide +kernel,rfl,by decide +kernel,by decide +kernel⟩
theorem d__law_evened(Fn:FnIn K mg "_law_evened" (Cu 39) ["_law_feed_here", "_law_sheet_here"])(Z:Bz mg)(d__law_draw:∀al,DfnC P w K mg base al 1 "_law_draw" ["_law_feed_here", "_law_many"] 1 ba)   : DfnC P w K mg base al 65 "_law_evened" ["_law_feed_here", "_law_sheet_here"] 2 bo:=by
 have sc:=gK
 refine DfnC.of Fn sc (bo.mono) (bo.len) (fun cdv A outer s H E hr=>(aF (oJ (EL.cb (zy (oR (dD hr.units) (fun _=>cx) (aQ _) (cP (d__law_draw _) (hr.mono (by decide)) (aq (cv fun _=>(vn 0)) (aq (cv fun _=>ah) be))) (cv fun _=>ah)) (xH (cb fun _=>(bg (dD hr.units) cx (aQ _) (cZ Z.len_ (aa (bK (vn 1) ah) ac)) ah))))) (cI (cs fun _=>(aH (vn 1)))) ji)
  (aF (cs fun _=>(fE 2 sc.nd (km Z.list_ (aa (bK (vn 1) ah) ac))))
  (aF (jj 64 [3] FZ rfl (ci fun _=>(mC Z.range_ (aa ah (aa (cZ Z.len_ (aa (vn 2) ac)) ac)))) (fun _=>(av 3 sc.nd)) (cI (oJ (oR (dD hr.units) (fun _=>cx) (aQ _) (cP (d__law_draw _) (hr.mono (by decide)) (aq (cv fun _=>(vn 0)) (aq (cv fun _=>ah) be))) (cv fun _=>ah)) (cI (cs fun _=>(r8 2 (vn 3) (bK (vn 2) (v_sub (vn 3) ah))))) ji)))
  (cI (cs fun _=>(aH (bZ (aa (bK (vn 1) ah) (aa (c_ Z.tuple_ (aa (vn 2) ac)) ac)))))))))) (by decide) ?_
 rintro ws Q ⟨s,rfl,hs,hQ⟩;refine aK ?_;have sz:=FI;have h20:=lM hs;have el:kS (ptsQ s.cuts)=some s.cuts.length:=by show some (s.cuts.map C_).length=_;rw[E1]
 cases s with
 | two c d vs =>
   have e2:(((Sh.two c d vs).cuts.length:Nat):Int)=2:=rfl;simp_arith only[aj,af,aN,aO,ay,aB,aP,aA,am,ae,ba.eq,EQ,EO,el,e2]
   (with_reducible (first|refine aL fun a ha=>?_|refine bi fun a ha=>?_))
   simp_arith only[aj,af,aN,aO,ay,aB,aP,aA,am,ae,EQ,EO]
   exact aE (hQ _ hs)
 | one c v =>
   have e1:(((Sh.one c v).cuts.length:Nat):Int)=1:=rfl;have vl:v.length=c.length+1:=hs.2.1;have cl:=hs.1.len;have ev:itemAt (shD (Sh.one c v)) 1=some (C_ v):=rfl;have ev0:itemAt (shD (Sh.one c v)) 0=some (ptsQ [c]):=rfl;have el0:kS (ptsQ [c])=some 1:=rfl;have tv:tupD (C_ v)=some (v.map fr):=rfl;simp_arith only[aj,af,aN,aO,ay,aB,aP,aA,am,ae,ba.eq,EQ,ev0,el0,ev,tv]
   (with_reducible (first|refine aL fun a ha=>?_|refine bi fun a ha=>?_))
   try rw[sq_ite]
   refine df (fun _=>?_) fun _=>?_
   · simp_arith only[aj,af,aN,aO,ay,aB,aP,aA,am,ae,EQ,EO];exact aE (hQ _ hs)
   · have gv : -(2^62)<=(v.length:Int)/\(v.length:Int)<2^62:=by omega
     have g64:((v.length:Int)-1).toNat<=64:=by omega
     have vz:(v.map fr).length<=sizeLine:=by rw[E1];omega
     try simp_arith only[aj,af,aN,aO,ay,aB,aP,aA,am,ae,ba.eq,EQ,ev0,el0,ev,tv]
     refine dO (fun i ρ=>∃vs:List Rat,vs.length=v.length/\(∀q∈vs,VQ q)/\ρ=[some .reel,some (.d (shD (.one c v))),some (.ml (vs.map fr)),none]) ⟨v,rfl,hs.2.2,rfl⟩ ?_ ?_
     · rintro i hi ρ ⟨vs,hl,hv,rfl⟩ K hK;have e2:=bu (xs:=vs) 0 (show(0:Int)<=1+(i:Int)-1 by omega) (by omega)
       have ml:∀q,VQ q->∀x∈vs.set (1+(i:Int)).toNat q,VQ x:=fun q hq x mx=>by
        rcases List.mem_or_eq_of_mem_set mx with z|rfl
        · exact hv x z
        · exact hq
       have hg:VQ (vs.getD (1+(i:Int)-1).toNat 0):=hv _ (getD_mem (by omega));generalize vs.getD (1+(i:Int)-1).toNat 0=q at *;simp_arith only[aj,af,aN,aO,ay,aB,aP,aA,am,ae,ba.eq,EQ,e2]
       (with_reducible (first|refine aL fun b hb=>?_|refine bi fun b hb=>?_))
       cases hb0:b==0 with
       | true =>
         have e3:atI (vs.map fr) (1+(i:Int)-1)=some (fr q):=by rw[atI_map,e2];rfl
         simp_arith only[aj,af,aN,aO,ay,aB,aP,aA,am,ae,EQ,v4,hb0,e3]
         exact hK _ (bW ⟨vs.set (1+(i:Int)).toNat q,by rw[List.length_set];exact hl,ml q hg,by rw[List.map_set];rfl⟩)
       | false =>
         simp_arith only[aj,af,aN,aO,ay,aB,aP,aA,am,ae,EQ,hb0];exact hK _ (bW ⟨vs,hl,hv,rfl⟩)
     · rintro ρ ⟨vs,hl,hv,rfl⟩;have vz:vs.length<=sizeLine:=by omega
       simp_arith only[aj,af,aN,aO,ay,aB,aP,aA,am,ae,EQ,EO];exact aE (hQ (.one c vs) ⟨hs.1,by rw[hl];exact vl,hv⟩)
theorem xY.eq(h:ns.length<=63):xY [.sc ns]=True:=eq_true ⟨ns,rfl,h⟩
theorem yz(ρ:En):Cp (.nx ρ)=VL.ret (.nx (nR ρ)):=rfl
theorem yy(x:ET):Cp (.rt (.d x))=VL.ret (.rt (.d x)):=ag fun Q=>⟨fun⟨_,h⟩=>h,fun h=>⟨rfl,h⟩⟩
theorem vI{e:Rat}(h:C6 60 e):Sm 4 12 (Cw e):=(Sm.seq (xs:=[.str "to", fr e]) (dp:=2) (bk:=5) (n:=2) (fun d md=>by
 rcases FV.mp md with rfl|md
 · exact⟨by show ET.strOk _=true;decide +kernel,by simp[Hi],by show LP _<=5;decide +kernel⟩
 · rw[FM.mp md];exact(qv h (by decide)).mono (by decide) (by decide)) (by simp)).1
theorem uQ(h:∀q∈z.1,C6 60 q)(hl:z.1.length<=2)(h2:C6 60 z.2):Sm 8 54 (Cb z):=(Sm.seq (xs:=[DJ z.1,fr z.2]) (dp:=6) (bk:=26) (n:=2) (fun d md=>by
 rcases FV.mp md with rfl|md
 · exact(Sm.seq (xs:=z.1.map Cw) (dp:=4) (bk:=12) (n:=2) (fun d md=>by
     obtain⟨e,me,rfl⟩:=FP.mp md
     exact vI (h e me)) (by rw[E1];exact hl)).1
 · rw[FM.mp md];exact(qv h2 (by decide)).mono (by decide) (by decide)) (by simp)).1
theorem rT{s:Sh}(hs:s.OkP 6 VQ):D5 (.tuple ((cK s).map Cb)):=(Sm.seq (xs:=(cK s).map Cb) (dp:=8) (bk:=54) (n:=49) (fun d md=>by
 obtain⟨z,mz,rfl⟩:=FP.mp md;obtain⟨p,mp,_,rfl⟩:=eE mz
 exact uQ (fun q mq=>(k7 (lM hs) mp (by decide) q mq).mono (by decide)) (hU mz) ((gh hs mp).sm (by decide) (by decide))) (by rw[E1];exact j8 hs)).1.shw (by decide) (by decide)
theorem vY{s:Sh}(hs:s.OkM 6 20):D5 (shD s):=by
 have c6:=s.cut6 hs
 have pt:∀(n:Nat)(p:List Rat),p.length<=n->(∀q∈p,C6 20 q)->Sm 4 (3*n) (C_ p):=fun n p hl hq=>(Sm.seq (xs:=p.map fr) (dp:=2) (bk:=2) (n:=n) (fun d md=>by
  obtain⟨q,mq,rfl⟩:=FP.mp md
  exact qv (hq q mq) (by decide)) (by rw[E1];exact hl)).1
 have pts:∀(n m:Nat)(ps:List (List Rat)),ps.length<=m->(∀p∈ps,p.length<=n/\∀q∈p,C6 20 q)->Sm 6 ((3*n+1)*m) (ptsQ ps):=fun n m ps hl hq=>(Sm.seq (xs:=ps.map C_) (dp:=4) (bk:=3*n) (n:=m) (fun d md=>by
  obtain⟨q,mq,rfl⟩:=FP.mp md
  exact pt n q (hq q mq).1 (hq q mq).2) (by rw[E1];exact hl)).1
 have s1:Sm 6 200 (ptsQ s.cuts):=(pts 6 2 _ s.cl fun c mc=>⟨(c6 c mc).len,(c6 c mc).sm⟩).mono (by decide) (by decide)
 have s2:Sm 6 200 s.vD:=by
  cases s with
  | one c v=>exact(pt 7 v (by have:=hs.1.len;have:=hs.2.1;omega) hs.2.2).mono (by decide) (by decide)
  | two c d vs=>exact(pts 7 7 vs (by have:=hs.1.len;have:=hs.2.2.1;omega) fun v mv=>⟨by have:=hs.2.1.len;have:=(hs.2.2.2 v mv).1;omega,(hs.2.2.2 v mv).2⟩).mono (by decide) (by decide)
 exact(Sm.seq (xs:=[ptsQ s.cuts,s.vD]) (dp:=6) (bk:=200) (n:=2) (fun d md=>by
  rcases FV.mp md with rfl|md
  · exact s1
  · rw[FM.mp md];exact s2) (by simp)).1.shw (by decide) (by decide)
theorem vZ:FnScope ["_law_script", "_law_feed_here", "_law_turn", "_law_sheet_here", "_law_kept", "_law_due", "_law_swing", "_law_box", "_law_often", "_law_at_here", "_law_rolled"] ["_law_script"] (defScope (Cu 41)):=⟨rfl,rfl,rfl,by decide +kernel,rfl,by decide +kernel,by decide +kernel⟩
theorem qb(Z:Bz mg)(d__law_feed:DfnR P w K mg base "_law_feed" ["_law_script"] 2 xY)(d__law_evened:∀al,DfnC P w K mg base al 65 "_law_evened" ["_law_feed_here", "_law_sheet_here"] 2 bo)(d__law_weights:∀rl,Dfn P w K mg base rl "_law_weights" ["_law_sheet_here"] 3 aZ)(d__law_draw:∀al,DfnC P w K mg base al 1 "_law_draw" ["_law_feed_here", "_law_many"] 1 ba)(d__law_sheet:∀al,DfnC P w K mg base al 12545 "_law_sheet" ["_law_feed_here", "_law_s"] 3 bE)(d__law_plus:∀rl,Dfn P w K mg base rl "_law_plus" ["_law_one", "_law_other"] 2 bF)(d_swing_of:∀rl,Dfn P w K mg base rl "swing_of" ["sheet"] 6 ce)(d_sheet_of:∀rl,Dfn P w K mg base rl "sheet_of" ["cuts", "weights"] 8 bQ)(d_weights_of:∀rl,Dfn P w K mg base rl "weights_of" ["sheet"] 5 bj)(F:Fun K "law" "law" (Cu 41) f fd):FnOk P w K mg base EG 10 f fd ["_law_script"] (gQ K):=by
 have sc:=vZ
 refine t3 F sc (fun cdv A outer s H E hr=>(uz 1 d__law_feed (hr.mono (by decide)) sc.nd (aa (vn 0) ac) (fun r=>(aF (jj 64 [2,3,4,5,6,7,8,9,10] FZ rfl (ci fun _=>(bx Z.range_ (aa ah ac))) (fun _=>(av 2 sc.nd)) (aF (gw 3 sc.nd (cP (d__law_evened _) (hr.mono (by decide)) (aq (cv fun _=>(vn 1)) (aq (cP (d__law_sheet _) (hr.mono (by decide)) (aq (cv fun _=>(vn 1)) (aq (xK (cv fun _=>ah) (cP (d__law_draw _) (hr.mono (by decide)) (aq (cv fun _=>(vn 1)) (aq (cv fun _=>ah) be)))) be))) be))))
  (aF (cs fun _=>(aD 4 sc.nd (eT (hr.mono (FE _)) Z.repr_ (aa (vn 3) ac))))
  (aF (cs fun _=>(aD 5 sc.nd (aR (d__law_weights _) (hr.mono (by decide)) (aa (vn 3) ac))))
  (aF (cs fun _=>(dw (Ej.pb (yj (bg nI iM (aQ _) (eT (hr.mono (FE _)) Z.repr_ (aa (aR (d_weights_of _) (hr.mono (by decide)) (aa (vn 3) ac)) ac)) (eT (hr.mono (FE _)) Z.repr_ (aa (vn 5) ac))) (u3 (bg nI iM (aQ _) (eT (hr.mono (FE _)) Z.repr_ (aa (vn 3) ac)) (vn 4))))) (ax (aH pM)) cw))
  (aF (cs fun _=>(aD 6 sc.nd (bZ (aa ah (aa ah ac)))))
  (aF (cs fun _=>(cS [7,8] FZ rfl (fI (vn 5)) (gO (n:=2) rfl (bM (av 7 sc.nd) (bM (av 8 sc.nd) eF))) (ax (dw (bg (fY hr.units) cx (aQ _) (bN ["_law_side"] [none] rfl (fI (vn 7)) (fun _=>(av 0 (show Gu (["_law_side"]:List Str) by decide +kernel))) (fun _=>ka (bg (fY hr.units) cx (aQ _) (bK (vn 0) ah) (bZ (aa ah (aa ah ac))))) (fun _=>(vn 0))) (fJ ac)) (ax (aD 6 sc.nd (aR (d__law_plus _) (hr.mono (by decide)) (aa (vn 6) (aa (bZ (aa (pB Z.abs_ (aa (bK (vn 8) ah) ac)) (aa (bK (vn 8) ah) ac))) ac))))) cw))))
  (aF (cs fun _=>(dw (bg nI iM (aQ _) (eT (hr.mono (FE _)) Z.repr_ (aa (aR (d_swing_of _) (hr.mono (by decide)) (aa (vn 3) ac)) ac)) (eT (hr.mono (FE _)) Z.repr_ (aa (vn 6) ac))) (ax (aH pM)) cw))
  (aF (gw 9 sc.nd (cP (d__law_draw _) (hr.mono (by decide)) (aq (cv fun _=>(vn 1)) (aq (cv fun _=>(v_add (cZ Z.len_ (aa (vn 5) ac)) ah)) be))))
  (aF (cs fun _=>(aD 10 sc.nd (eU (pq (vn 5) (fF (vn 9)) fG) (pq (vn 5) fG (fF (vn 9))))))
  (cI (cs fun _=>(dw (bg nI iM (aQ _) (eT (hr.mono (FE _)) Z.repr_ (aa (aR (d_sheet_of _) (hr.mono (by decide)) (aa (bK (vn 3) ah) (aa (u7 (vn 10)) ac))) ac)) (eT (hr.mono (FE _)) Z.repr_ (aa (vn 3) ac))) (ax (aH pM)) cw)))))))))))))
  (cI (cs fun _=>(aH pM))))) (by decide +kernel))) ?_
 intro ns hn;have sz:=FI;have pf:=xY.eq hn;simp_arith only[aj,af,aN,aO,ay,aB,aP,aA,am,ae,pf,yz,yy];refine qx ?_ ?_
 · intro i hi K hK;simp_arith only[aj,af,aN,aO,ay,aB,aP,aA,am,ae,ba.eq]
   (with_reducible (first|refine aL fun s0 hs0=>?_|refine bi fun s0 hs0=>?_))
   have s1:1<=1+s0:=by omega
   have s2:1+s0<=2:=by omega
   generalize 1+s0=s at *;simp_arith only[aj,af,aN,aO,ay,aB,aP,aA,am,ae,ba.eq,bE.eq]
   (with_reducible (first|refine aL fun h0 hh=>?_|refine bi fun h0 hh=>?_))
   obtain⟨hs0_,hcl⟩:=hh;simp_arith only[aj,af,aN,aO,ay,aB,aP,aA,am,ae,ba.eq,bo.eq]
   (with_reducible (first|refine aL fun h hs=>?_|refine bi fun h hs=>?_))
   have h20:=lM hs;have sw1:=vY h20;have sw2:=rT hs;simp_arith only[aj,af,aN,aO,ay,aB,aP,aA,am,ae,EQ,aZ.eq,bj.eq];refine gb (xs:=cK h) (enc:=Cb) (fun j ρ=>ρ=[some (.sc ns),some .reel,some (.d (.int (0+(i:Int)))),some (.d (shD h)),some (.d (.str (shD h).shown)),some (.d (.tuple ((cK h).map Cb))),some (.d (fr (lC ((cK h).take j)))),none,none,none,none]) rfl rfl ?_ ?_
   · rintro j hj ρ rfl K2 hK2;have mz:=Gb hj;have ss:=ic (cK h) hj;obtain⟨_,w2⟩:=jy hs j;generalize (cK h)[j]=z at *;have sr:C6 2000 (C1 z.2):=((uP hs mz).ab.sm (k:=60) (by decide) (by decide)).mono (by decide);have ea:=rC z.2;have z2:=hU mz;have tb:tupD (Cb z)=some [DJ z.1,fr z.2]:=rfl;have tbx:tupD (DJ z.1)=some (z.1.map Cw):=rfl;rw[ss]at hK2;generalize lC ((cK h).take j)=A at *;simp_arith only[aj,af,aN,aO,ay,aB,aP,aA,am,ae,EQ,EO,tb,tbx];refine lf (xs:=z.1) (enc:=Cw) (fun e=>if decide (e≠1)=true then some (Cw e)else none) rfl ?_ (by omega) ?_
     · intro e me;have i1:itemAt (Cw e) 1=some (fr e):=rfl;have sh:=fM e;have ev:(fr e).eqv (.tuple [.int 1,.int 1])=decide (e=1):=jh e 1;simp_arith only[aj,af,Dr,i1,sh,ev];by_cases c:e=1<;>simp[c]<;>rfl
     have shX:Gf (.list (z.1.filterMap fun e=>if decide (e≠1)=true then some (Cw e)else none))=true:=by
      rw[jg (fun e:Rat=>decide (e≠1)) Cw];exact lD _
     have eqX:(K9 (z.1.filterMap fun e=>if decide (e≠1)=true then some (Cw e)else none)).eqv (.list [])=decide (z.1=Fg z.1.length 1):=by rw[oy,nK]
     generalize z.1.filterMap (fun e=>if decide (e≠1)=true then some (Cw e)else none)=X at *;by_cases c:z.1=Fg z.1.length 1
     · have d:=decide_eq_true c;rw[if_pos c]at hK2;simp_arith only[aj,af,aN,aO,ay,aB,aP,aA,am,ae,EQ,EO,shX,eqX,d];exact hK2 _ (bW rfl)
     · have d:=decide_eq_false c;rw[if_neg c]at hK2;simp_arith only[aj,af,aN,aO,ay,aB,aP,aA,am,ae,EQ,EO,shX,eqX,d,ea,bF.eq];exact hK2 _ (bW rfl)
   · rintro ρ rfl;rw[Fi (E3 _)];obtain⟨g1,_⟩:=jy hs 49;rw[Fi (j8 hs)]at g1;have sw3:=xv g1 (by decide);have n49:=j8 hs;have m0:0<((cK h).length:Int)+1:=by omega
     have m1:((cK h).length:Int)+1<2^60:=by omega
     simp_arith only[aj,af,aN,aO,ay,aB,aP,aA,am,ae,ba.eq,EQ,ce.eq]
     (with_reducible (first|refine aL fun a ha=>?_|refine bi fun a ha=>?_))
     obtain⟨k,rfl⟩:=GS ha.1;have cu1:=xD (cK h) Cb k;have cu2:=xC (cK h) Cb k;have gl:((cK h).drop k).length+((cK h).take k).length<=sizeLine:=by rw[IK,GK];omega
     have pm:=oZ (cK h) k;have hC:EK h.cuts:=⟨cpos h,h.cl,fun c mc=>⟨(h.cut6 h20 (by decide) c mc).len,fun q mq=>(di.sm (h.cut6 h20 (by decide) c mc) q mq).mono (by decide)⟩⟩
     have hV:DQ h.cuts.length ((cK h).drop k++(cK h).take k).reverse:=⟨by rw[pm.length_eq];exact n49,fun z mz=>by
      have mz:=pm.mem_iff.mp mz;obtain⟨p,mp,_,rfl⟩:=eE mz
      exact⟨eg (h.pch_ok p mp),fun q mq=>(k7 h20 mp (by decide) q mq).mono (by decide),(gh hs mp).sm (by decide) (by decide)⟩⟩
     have psh:bQ [.d (ptsQ h.cuts),.d (.tuple (((cK h).drop k++(cK h).take k).reverse.map Cb))]=VL.ret (shD h):=by
      have:=bQ.eq h.cuts _ hC hV;rw[sg h20 pm]at this;exact this
     have er:(((cK h).drop k).map Cb++((cK h).take k).map Cb).reverse=((cK h).drop k++(cK h).take k).reverse.map Cb:=by rw[List.map_reverse,FU]
     simp_arith only[aj,af,aN,aO,ay,aB,aP,aA,am,ae,EQ,EO,cu1,cu2,gl];rw[er];simp_arith only[aj,af,aN,aO,ay,aB,aP,aA,am,ae,EQ,EO,psh];exact hK _ (bW rfl)
 · simp_arith only[aj,af,aN,aO,ay,aB,aP,aA,am,ae];exact ug
structure Txt (K:G8) (mg:Str->Option EX):Prop where
 bz:Bz mg
 f__law_feed:FnIn K mg "_law_feed" (Cu 30) ["_law_script"]
 f__law_draw:FnIn K mg "_law_draw" (Cu 31) ["_law_feed_here", "_law_many"]
 f_common_divisor:FnIn K mg "common_divisor" (Cu 6) ["one", "other"]
 f_fraction:FnIn K mg "fraction" (Cu 7) ["top", "bottom"]
 f_plus:FnIn K mg "plus" (Cu 8) ["one", "other"]
 f_less:FnIn K mg "less" (Cu 9) ["one", "other"]
 f_sum_of:FnIn K mg "sum_of" (Cu 10) ["some"]
 f_is_below:FnIn K mg "is_below" (Cu 11) ["one", "other"]
 f_choices:FnIn K mg "choices" (Cu 17) ["rows"]
 f_patches_of:FnIn K mg "patches_of" (Cu 19) ["cuts"]
 f_value_in:FnIn K mg "value_in" (Cu 21) ["sheet", "patch"]
 f_goes_ahead:FnIn K mg "goes_ahead" (Cu 13) ["one", "other", "may_meet"]
 f_lies:FnIn K mg "lies" (Cu 14) ["x", "side", "way"]
 f_lies_in:FnIn K mg "lies_in" (Cu 15) ["point", "box", "way"]
 f_next_patch:FnIn K mg "next_patch" (Cu 22) ["patch", "side"]
 f_falls_of:FnIn K mg "falls_of" (Cu 23) ["sheet"]
 f_patch_corner:FnIn K mg "patch_corner" (Cu 24) ["cuts", "patch"]
 f_weights_of:FnIn K mg "weights_of" (Cu 25) ["sheet"]
 f_swing_of:FnIn K mg "swing_of" (Cu 28) ["sheet"]
 f_values_from:FnIn K mg "values_from" (Cu 26) ["cuts", "weights", "begun"]
 f_sheet_of:FnIn K mg "sheet_of" (Cu 27) ["cuts", "weights"]
 f__law_frac:FnIn K mg "_law_frac" (Cu 32) ["_law_n", "_law_d"]
 f__law_plus:FnIn K mg "_law_plus" (Cu 36) ["_law_one", "_law_other"]
 f__law_patches:FnIn K mg "_law_patches" (Cu 37) ["_law_cuts_here"]
 f__law_at:FnIn K mg "_law_at" (Cu 38) ["_law_sheet_here", "_law_patch"]
 f__law_weights:FnIn K mg "_law_weights" (Cu 40) ["_law_sheet_here"]
 f__law_value:FnIn K mg "_law_value" (Cu 34) ["_law_feed_here"]
 f__law_cuts:FnIn K mg "_law_cuts" (Cu 33) ["_law_feed_here", "_law_s"]
 f__law_sheet:FnIn K mg "_law_sheet" (Cu 35) ["_law_feed_here", "_law_s"]
 f__law_evened:FnIn K mg "_law_evened" (Cu 39) ["_law_feed_here", "_law_sheet_here"]
 g_ZERO:GlD K mg "ZERO" (pr 0 1)
 g_ONE:GlD K mg "ONE" (pr 1 1)
theorem wP(F:Fun K "law" "law" (Cu 41) f fd)(T:Txt K mg)  : FnOk P w K mg base EG 10 f fd ["_law_script"] (gQ K):=by
 have d__law_feed:DfnR P w K mg base "_law_feed" ["_law_script"] 2 xY:=K87.d__law_feed T.f__law_feed T.bz   ;have d__law_draw:∀al,DfnC P w K mg base al 1 "_law_draw" ["_law_feed_here", "_law_many"] 1 ba:=fun rl=>K87.d__law_draw T.f__law_draw T.bz   ;have d_common_divisor:∀rl,Dfn P w K mg base rl "common_divisor" ["one", "other"] 1 aJ:=fun rl=>K87.d_common_divisor T.f_common_divisor T.bz   ;have d_fraction:∀rl,Dfn P w K mg base rl "fraction" ["top", "bottom"] 2 bH:=fun rl=>K87.d_fraction T.f_fraction T.bz d_common_divisor  ;have d_plus:∀rl,Dfn P w K mg base rl "plus" ["one", "other"] 3 fU:=fun rl=>K87.d_plus T.f_plus T.bz d_fraction  ;have d_less:∀rl,Dfn P w K mg base rl "less" ["one", "other"] 3 fX:=fun rl=>K87.d_less T.f_less T.bz d_fraction  ;have d_sum_of:∀rl,Dfn P w K mg base rl "sum_of" ["some"] 3 cJ:=fun rl=>K87.d_sum_of T.f_sum_of T.bz d_fraction d_common_divisor  ;have d_is_below:∀rl,Dfn P w K mg base rl "is_below" ["one", "other"] 1 cf:=fun rl=>K87.d_is_below T.f_is_below T.bz   ;have d_choices:∀rl,Dfn P w K mg base rl "choices" ["rows"] 1 cM:=fun rl=>K87.d_choices T.f_choices T.bz   ;have d_patches_of:∀rl,Dfn P w K mg base rl "patches_of" ["cuts"] 2 bA:=fun rl=>K87.d_patches_of T.f_patches_of T.bz d_choices  ;have d_value_in:∀rl,Dfn P w K mg base rl "value_in" ["sheet", "patch"] 1 ca:=fun rl=>K87.d_value_in T.f_value_in T.bz   ;have d_goes_ahead:∀rl,Dfn P w K mg base rl "goes_ahead" ["one", "other", "may_meet"] 2 bC:=fun rl=>K87.d_goes_ahead T.f_goes_ahead T.bz d_is_below  ;have d_lies:∀rl,Dfn P w K mg base rl "lies" ["x", "side", "way"] 3 fV:=fun rl=>K87.d_lies T.f_lies T.bz d_goes_ahead  ;have d_lies_in:∀rl,Dfn P w K mg base rl "lies_in" ["point", "box", "way"] 4 bT:=fun rl=>K87.d_lies_in T.f_lies_in T.bz d_lies  ;have d_next_patch:∀rl,Dfn P w K mg base rl "next_patch" ["patch", "side"] 1 bB:=fun rl=>K87.d_next_patch T.f_next_patch T.bz   ;have d_falls_of:∀rl,DfnX P w K mg base rl "falls_of" ["sheet"] 4 cg:=fun rl=>K87.d_falls_of T.f_falls_of T.bz d_value_in d_patches_of d_less d_next_patch T.g_ZERO ;have d_patch_corner:∀rl,Dfn P w K mg base rl "patch_corner" ["cuts", "patch"] 1 aY:=fun rl=>K87.d_patch_corner T.f_patch_corner T.bz  T.g_ONE ;have d_weights_of:∀rl,Dfn P w K mg base rl "weights_of" ["sheet"] 5 bj:=fun rl=>K87.d_weights_of T.f_weights_of T.bz d_falls_of d_patch_corner T.g_ZERO ;have d_swing_of:∀rl,Dfn P w K mg base rl "swing_of" ["sheet"] 6 ce:=fun rl=>K87.d_swing_of T.f_swing_of T.bz d_weights_of d_plus T.g_ZERO T.g_ONE ;have d_values_from:∀rl,Dfn P w K mg base rl "values_from" ["cuts", "weights", "begun"] 7 (aI 3):=fun rl=>K87.d_values_from T.f_values_from T.bz d_sum_of d_lies_in T.g_ZERO ;have d_sheet_of:∀rl,Dfn P w K mg base rl "sheet_of" ["cuts", "weights"] 8 bQ:=fun rl=>K87.d_sheet_of T.f_sheet_of T.bz d_values_from  ;have d__law_frac:∀rl,Dfn P w K mg base rl "_law_frac" ["_law_n", "_law_d"] 1 bm:=fun rl=>K87.d__law_frac T.f__law_frac T.bz   ;have d__law_plus:∀rl,Dfn P w K mg base rl "_law_plus" ["_law_one", "_law_other"] 2 bF:=fun rl=>K87.d__law_plus T.f__law_plus T.bz d__law_frac  
 have d__law_patches:∀rl,Dfn P w K mg base rl "_law_patches" ["_law_cuts_here"] 1 a_:=fun rl=>K87.d__law_patches T.f__law_patches T.bz   ;have d__law_at:∀rl,Dfn P w K mg base rl "_law_at" ["_law_sheet_here", "_law_patch"] 1 cN:=fun rl=>K87.d__law_at T.f__law_at T.bz   ;have d__law_weights:∀rl,Dfn P w K mg base rl "_law_weights" ["_law_sheet_here"] 3 aZ:=fun rl=>K87.d__law_weights T.f__law_weights T.bz d__law_patches d__law_at d__law_plus  ;have d__law_value:∀al,DfnC P w K mg base al 2 "_law_value" ["_law_feed_here"] 2 bD:=fun rl=>K87.d__law_value T.f__law_value T.bz d__law_frac d__law_draw  ;have d__law_cuts:∀al,DfnC P w K mg base al 4225 "_law_cuts" ["_law_feed_here", "_law_s"] 2 bO:=fun rl=>K87.d__law_cuts T.f__law_cuts T.bz d__law_draw d__law_frac  ;have d__law_sheet:∀al,DfnC P w K mg base al 12545 "_law_sheet" ["_law_feed_here", "_law_s"] 3 bE:=fun rl=>K87.d__law_sheet T.f__law_sheet T.bz d__law_cuts d__law_value  ;have d__law_evened:∀al,DfnC P w K mg base al 65 "_law_evened" ["_law_feed_here", "_law_sheet_here"] 2 bo:=fun rl=>K87.d__law_evened T.f__law_evened T.bz d__law_draw  ;exact qb T.bz d__law_feed d__law_evened d__law_weights d__law_draw d__law_sheet d__law_plus d_swing_of d_sheet_of d_weights_of   F
end
theorem us_0(hl:us.length=0):us=[]:=List.eq_nil_of_length_eq_zero hl
theorem AH(hl:us.length=1):∃a0,us=[a0]:=by
 cases us with
 | nil=>cases hl
 | cons a0 t=>cases us_0 (LF hl);exact⟨a0,rfl⟩
theorem AG(hl:us.length=2):∃a0 a1,us=[a0,a1]:=by
 cases us with
 | nil=>cases hl
 | cons a0 t=>obtain⟨a1,rfl⟩:=AH (LF hl);exact⟨a0,a1,rfl⟩
theorem Bf(hl:us.length=3):∃a0 a1 a2,us=[a0,a1,a2]:=by
 cases us with
 | nil=>cases hl
 | cons a0 t=>obtain⟨a1,a2,rfl⟩:=AG (LF hl);exact⟨a0,a1,a2,rfl⟩
noncomputable def FF(K:G8)(x:Str)(st:Stmt):Prop:=∃(f:Addr)(oc kV dc pm cd ct:EX)(od an:Option Addr)(sl:Array (Option EX)),KF K Gd x=some (some (.ref f))/\K.lookup f=some ⟨oc,od,.func (KG x x (defArgs st) (defBody st) (defScope st) .none kV dc pm an cd ct),sl⟩/\KY K cd x=true/\KZ K (.ref f)=true
theorem ff_mk{K:G8}{st:Stmt}{oc kV dc pm cd ct:EX}{od an:Option Addr}{sl:Array (Option EX)}(a:KF K Gd x=some (some (.ref f)))(l:K.lookup f=some ⟨oc,od,.func (KG x x (defArgs st) (defBody st) (defScope st) .none kV dc pm an cd ct),sl⟩)(c:KY K cd x=true)(k:KZ K (.ref f)=true):FF K x st:=⟨f,oc,kV,dc,pm,cd,ct,od,an,sl,a,l,c,k⟩
theorem aV{K:G8}(X:K.In h)(G:h.Ns Gd mg){st:Stmt}(q:FF K x st)(hb:∀(kV doc pm:EX)(an:Option Addr)(cdv ct:EX)(us:List EX),us.length=ps.length->bindArgs (KG x x (defArgs st) (defBody st) (defScope st) .none kV doc pm an cdv ct) ⟨us,[]⟩=pure (ps.zip us):=by intro _ _ _ _ _ _ us hl;first|(cases us_0 hl;exact rfl)|(obtain⟨_,rfl⟩:=AH hl;exact rfl)|(obtain⟨_,_,rfl⟩:=AG hl;exact rfl)|(obtain⟨_,_,_,rfl⟩:=Bf hl;exact rfl)):FnIn K mg x st ps:=by
 obtain⟨f,_,_,_,_,_,_,_,_,_,a,l,c,k⟩:=q;exact⟨⟨f,_,PySem.W.mg_of X G a,om l c k,(om l c k).binds hb⟩⟩
abbrev NI(K:G8)(x:Str)(f:Addr):Prop:=KF K Gd x=some (some (.ref f))
abbrev NZ(K:G8)(x:Str):Prop:=KF K Gd x=some none
abbrev LK(K:G8)(x:Str)(st:Stmt)(f:Addr)(oc:EX)(od:Option Addr)(kV dc pm:EX)(an:Option Addr)(cd ct:EX)(sl:Array (Option EX)):Prop:=K.lookup f=some ⟨oc,od,.func (KG x x (defArgs st) (defBody st) (defScope st) .none kV dc pm an cd ct),sl⟩
theorem all_mk{l:KH}{K:G8}{fa:Addr}(X:K.In h)(G:h.Ns Gd mg)(hfa:mg "law" = some (.ref fa))
 {f31:Addr}{od31 an31:Option Addr}{sl31:Array (Option EX)}{oc31 kV31 dc31 pm31 cd31 ct31:EX}
 (f1:FF K "_law_feed" (Cu 30))(f2:FF K "_law_draw" (Cu 31))(f3:FF K "common_divisor" (Cu 6))(f4:FF K "fraction" (Cu 7))(f5:FF K "plus" (Cu 8))(f6:FF K "less" (Cu 9))(f7:FF K "sum_of" (Cu 10))(f8:FF K "is_below" (Cu 11))(f9:FF K "choices" (Cu 17))(f10:FF K "patches_of" (Cu 19))(f11:FF K "value_in" (Cu 21))(f12:FF K "goes_ahead" (Cu 13))(f13:FF K "lies" (Cu 14))(f14:FF K "lies_in" (Cu 15))(f15:FF K "next_patch" (Cu 22))(f16:FF K "falls_of" (Cu 23))(f17:FF K "patch_corner" (Cu 24))(f18:FF K "weights_of" (Cu 25))(f19:FF K "swing_of" (Cu 28))(f20:FF K "values_from" (Cu 26))(f21:FF K "sheet_of" (Cu 27))(f22:FF K "_law_frac" (Cu 32))(f23:FF K "_law_plus" (Cu 36))(f24:FF K "_law_patches" (Cu 37))(f25:FF K "_law_at" (Cu 38))(f26:FF K "_law_weights" (Cu 40))(f27:FF K "_law_value" (Cu 34))(f28:FF K "_law_cuts" (Cu 33))(f29:FF K "_law_sheet" (Cu 35))(f30:FF K "_law_evened" (Cu 39))(a31:NI K "law" f31)(l31:LK K "law" (Cu 41) f31 oc31 od31 kV31 dc31 pm31 an31 cd31 ct31 sl31)(c31:KY K cd31 "law" = true)(k31:KZ K (.ref f31)=true)
 (z_int:NZ K "int")(z_bool:NZ K "bool")(z_str:NZ K "str")(z_list:NZ K "list")(z_tuple:NZ K "tuple")(z_dict:NZ K "dict")(z_isinstance:NZ K "isinstance")(z_len:NZ K "len")(z_abs:NZ K "abs")(z_repr:NZ K "repr")(z_range:NZ K "range")(z_all:NZ K "all")(z_any:NZ K "any")(z_sum:NZ K "sum")(z_min:NZ K "min")(z_max:NZ K "max")(z_sorted:NZ K "sorted")(z_zip:NZ K "zip")(z_enumerate:NZ K "enumerate")(z_reversed:NZ K "reversed")(z_divmod:NZ K "divmod")(z_set:NZ K "set")(g_ZERO:GlK K "ZERO" (pr 0 1))(g_ONE:GlK K "ONE" (pr 1 1))  :
 ∃fd:Hy,(∀(s:EZ)(v:EX),LJ s fd ⟨[v],[]⟩ [("_law_script", v)])/\∀base:Heap,K.In base->base.Ns Gd mg->FnOk l.prog w K mg base EG 10 fa fd ["_law_script"] (gQ K):=by
 have e:=hfa.symm.trans (PySem.W.mg_of X G a31);cases e;have B:Bz mg:=⟨Fv X G z_int,Fv X G z_bool,Fv X G z_str,Fv X G z_list,Fv X G z_tuple,Fv X G z_dict,Fv X G z_isinstance,Fv X G z_len,Fv X G z_abs,Fv X G z_repr,Fv X G z_range,Fv X G z_all,Fv X G z_any,Fv X G z_sum,Fv X G z_min,Fv X G z_max,Fv X G z_sorted,Fv X G z_zip,Fv X G z_enumerate,Fv X G z_reversed,Fv X G z_divmod,Fv X G z_set⟩;have T:Txt K mg:=⟨B,(aV X G f1),(aV X G f2),(aV X G f3),(aV X G f4),(aV X G f5),(aV X G f6),(aV X G f7),(aV X G f8),(aV X G f9),(aV X G f10),(aV X G f11),(aV X G f12),(aV X G f13),(aV X G f14),(aV X G f15),(aV X G f16),(aV X G f17),(aV X G f18),(aV X G f19),(aV X G f20),(aV X G f21),(aV X G f22),(aV X G f23),(aV X G f24),(aV X G f25),(aV X G f26),(aV X G f27),(aV X G f28),(aV X G f29),(aV X G f30),g_ZERO.of X G,g_ONE.of X G⟩;have FL:=om (st:=Cu 41) l31 c31 k31;exact⟨_,fun s v=>.of_eq rfl,fun base _ _=>wP FL T ⟩
theorem walk{l:KH}{q:Fo}{YP:Gc->Heap->Prop}{d:DefRec}{K:LV->G8}(hn:l.most=some 63)(hdf:d.params.defaults=[])
 (hY:∀(w:Gc)(h:Heap),YP w h->(K w.params).In h)
 (F:∀(w:Gc)(mg:Str->Option EX)(fa:Addr)(h:Heap),(K w.params).In h->h.Ns Gd mg->mg d.name=some (.ref fa) ->
  ∃fd:Hy,(∀(s:EZ)(u:EX),LJ s fd ⟨[u],[]⟩ [("_law_script", u)])/\∀base:Heap,(K w.params).In base->base.Ns Gd mg->FnOk l.prog w (K w.params) mg base EG 10 fa fd ["_law_script"] (gQ (K w.params))) :
 PySem.W.WalkO q loose XP YP l.row.toRowW d [] (fun f vs=>PySem.call f vs) :=
 L2.walk_of (n:=63) (k:=10) (x := "_law_script") (CX:=fun _=>EG) (sp:=fun w=>gQ (K w.params)) hn (by decide) hdf ⟨rfl,by decide,by decide,rfl⟩ hY F (fun _ _ a ns hl _ hS=>⟨a,ns,rfl,hS,hl,fun _=>rfl⟩) fun _ _ _ _ _ z=>z
end K87
noncomputable def PySem.W.Fast.tw12154829663549688693:PySem.Params->G8:=K87.heapK
theorem PySem.W.Fast.te12154829663549688693:K87.heapK=PySem.W.Fast.tw12154829663549688693:=rfl
open PySem PySem.W PyProof.Rows
set_option maxRecDepth 100000 in
set_option maxHeartbeats 0 in
theorem PySem.Challenge.cw_evenpoints_k87_weights_of_sheets_holds : PySem.Challenge.rw_evenpoints_k87_weights_of_sheets.Holds := by
 refine(congrArg KH.Holds K87.rw_eq).mpr ?_
 w_on;o_law
 refine holds_open (loose:=[]) (XP:=XL K87.zview []) (YP:=Hook.says (kHook K87.heapK K87.heapA K87.heapE)) K87.zleft
  (Hook.of _) (Hook.keeps _) (fun s e=>xl_of s (E2.mp e).1)
  XL.keeps (by rfl) (by rfl) (by rfl) (fun s e=>recFacts_of (E2.mp e).2) (by rfl)
  (by first|assumption|decide +kernel) (by decide +kernel) ⟨rfl,rfl,rfl,rfl,rfl,by decide +kernel⟩ ?hw ?hc
 (case hw=>w_witness2)
 k_fill
 refine K87.walk (l:=K87.rwN) rfl rfl (fun w h Y=>PySem.W.kIn_of (as:=K87.heapA) (e:=K87.heapE) Y) ?F
 case F =>
  intro w mg fa h KX G hmg
  refine' K87.all_mk KX G hmg ?f1 ?f2 ?f3 ?f4 ?f5 ?f6 ?f7 ?f8 ?f9 ?f10 ?f11 ?f12 ?f13 ?f14 ?f15 ?f16 ?f17 ?f18 ?f19 ?f20 ?f21 ?f22 ?f23 ?f24 ?f25 ?f26 ?f27 ?f28 ?f29 ?f30 ?a31 ?l31 ?c31 ?k31 ?zint ?zbool ?zstr ?zlist ?ztuple ?zdict ?zisinstance ?zlen ?zabs ?zrepr ?zrange ?zall ?zany ?zsum ?zmin ?zmax ?zsorted ?zzip ?zenumerate ?zreversed ?zdivmod ?zset ?gZERO ?gONE 
  all_goals (try (refine' K87.ff_mk ?a ?l ?c ?k;(case a=>k_is);(case l=>k_is);(case c=>k_is);(case k=>k_is)))
  all_goals (try change _=_)
  (case a31=>k_is);(case l31=>k_is);(case c31=>k_is);(case k31=>k_is)
  (case zint=>k_is)
  (case zbool=>k_is)
  (case zstr=>k_is)
  (case zlist=>k_is)
  (case ztuple=>k_is)
  (case zdict=>k_is)
  (case zisinstance=>k_is)
  (case zlen=>k_is)
  (case zabs=>k_is)
  (case zrepr=>k_is)
  (case zrange=>k_is)
  (case zall=>k_is)
  (case zany=>k_is)
  (case zsum=>k_is)
  (case zmin=>k_is)
  (case zmax=>k_is)
  (case zsorted=>k_is)
  (case zzip=>k_is)
  (case zenumerate=>k_is)
  (case zreversed=>k_is)
  (case zdivmod=>k_is)
  (case zset=>k_is)
  (case gZERO=>refine' L2.VL.GlK.pair ?h1 ?h2;(case h1=>k_is);(case h2=>k_is))
  (case gONE=>refine' L2.VL.GlK.pair ?h1 ?h2;(case h1=>k_is);(case h2=>k_is))
