import PyProof.Rows.All
import Wide.All
import OpenK.AllK
import Wide.FinOn
import Lean
import PyProof.EqAt
import PyProof.EqKinds
import PyProof.TupleCall
import KE.KDictSum
import KE.KMinKey
import PyProof.Rows.CallKwBuiltin
import PyProof.SumWalkG
import PyProof.WalksMore
import PyProof.AutoSeq1
import PySem.Challenge.RW_evenpoints_k52_whole_neighbours_of_many
set_option compiler.extract_closed false
set_option bootstrap.genMatcherCode false
set_option Elab.async false
set_option linter.all false
set_option maxRecDepth 100000
set_option maxHeartbeats 4000000
open And renaming intro->D0, imp_right->Ed
open Array renaming length_toList->D8, getElem?_toList->EZ, getElem?_eq_getElem->E2, getElem?_eq_none->FY, getElem?_eq_some_iff->GC, toArray_toList->Iw, getD->Iy, toList_push->Jw, replicate->Kl, toList_extract->KA, mk->Lz
open Bool renaming and_eq_true_iff->Ea, false_ne_true->EC, or_eq_true_iff->EE, false_eq_true->FQ, not_true->Hd, and_eq_true->Hr, eq_iff_iff->HH, false_and->Je
open Classical renaming choose_spec->EA, choose->GE
open Exists renaming imp->Eo
open False renaming elim->E3
open ForInStep renaming yield->G6
open Iff renaming rfl->Jg
open Int renaming mul_le_mul_of_nonneg_right->Eh, fdiv_eq_ediv_of_nonneg->EI, gcd->EM, toNat_natCast->Fm, add_mul->Fq, lt_or_eq_of_le->Fv, fmod_nonneg_of_pos->Fz, le_of_lt->Ga, natAbs_natCast->Ge, eq_ofNat_of_zero_le->Go, dvd_of_emod_eq_zero->Gp, mul_nonneg->Gq, lt_or_le->Gs, lt_trichotomy->Gv, fmod_lt_of_pos->GF, sub_mul->GI, lt_of_mul_lt_mul_left->GJ, mul_comm->GW, gcd_pos_of_ne_zero_right->G3, natAbs_mul->Hj, pos_of_mul_pos_right->HB, mul_ediv_cancel_left->HC, mul_le_mul_of_nonneg_left->Ir, mul_pos->IF, fmod_eq_emod_of_nonneg->IU, emod_lt_of_pos->Jb, emod_eq_of_lt->Jx, mul_assoc->JJ, ediv_le_self->JS, fmod_add_mul_fdiv->Ka, natCast_mul->Kd, emod_nonneg->Kg, emod_add_mul_ediv->Kn, natAbs_dvd_natAbs->Ko, ediv_nonneg->Kp, mul_sub->K4, le_of_dvd->Lf, add_zero->Ly, one_mul->LM, toNat->LO
open List renaming mem_cons_of_mem->D7, length_map->Eb, mem_cons_self->Ee, size_toArray->Ej, getElem?_eq_some_iff->Ek, getElem?_set_ne->El, getElem?_set_self->Ep, map_cons->Er, mem_cons->Ev, getElem?_eq_getElem->EB, mem_append_right->EF, length_cons->EQ, range->ET, mem_map->EV, getElem?_set->EW, lookup_cons->E5, getElem?_map->E6, find?_cons->E7, replicate->E9, map_map->Fa, sum_cons->Fd, length_append->Fh, not_mem_nil->FE, append_nil->FO, getElem?_replicate->FP, map_nil->FV, mem_range->F7, drop_eq_getElem_cons->F8, nodup_cons->F_, mem_singleton->Gf, filterMap_cons->Gw, length_nil->Gy, all_eq_true->GY, nodup_nil->GZ, Nodup->G0, mem_filter->G4, mem_append->G5, map_append->G8, getElem?_append_left->Hh, getElem_mem->Ho, map_congr_left->Ht, getElem_of_mem->Hu, any_cons->HK, find?_eq_none->HP, find?_some->HQ, pairwise_cons->HR, take_of_length_le->HV, reverse_cons->HY, pairwise_map->Ib, length_range->Ie, sum_nil->Io, drop_length->Ip, isEmpty_nil->Iq, mem_append_left->Iu, mem_of_getElem?->Iv, getElem?_append_right->IR, filterMap_map->I0, mem_of_find?_eq_some->Jj, append_assoc->Jp, nodup_append->Jt, filter_cons_of_pos->JK, filter_cons_of_neg->JL, length_take->JN, ext_getElem->JO, any_eq_true->JQ, length_pos_of_mem->JX, of_mem_zip->J3, length_singleton->J7, forIn_cons->J9, take_append_drop->Kk, length_reverse->KO, lookup->KY, filter->K5, Pairwise->La, getD->LJ, Perm->LW
open List.Nodup renaming length_le_of_subset->Fu
open List.Perm renaming refl->Ij
open List.cons renaming injEq->Eu
open Nat renaming lt_of_lt_of_le->D9, le_refl->Ef, ne_of_lt->Ey, pow_le_pow_right->Ez, lt_irrefl->FB, le_trans->FG, zero_le->Gg, lt_or_ge->G9, le_of_succ_le->Hb, lt_succ_of_lt->He, lt_succ_self->Hq, ne_of_gt->Hv, pow_succ->HA, exists_eq_add_of_le->HU, not_lt_zero->IK, lt_of_le_of_lt->I_, mul_comm->Jc, mul_lt_mul''->JP, zero_add->Kb, mul_ne_zero->Kc, Coprime->KP, le_succ->KZ, add_mod->K0, mul_mod->K1, mod_lt->Lo, le_of_lt->Lr, pow_add->LL, mul_add->LN
open Nat.succ renaming inj->Kq
open Ne renaming symm->GM
open Option renaming map_eq_some_iff->Fw, isSome_iff_exists->Gc, isNone_iff_eq_none->Hn, map_map->Jl, map_eq_none_iff->JY
open Option.some renaming inj->EL
open Or renaming inr->GB, inl->GK
open PyProof.Rows renaming slot_tuple_getitem->FZ, IntsAre->GP, callWith_type1->IC, envOfC->IE, seqObj->IH, get?_update_seq->II, assignInOrder_cons->IV, AllBare->Jy, subscriptTail_builtinR->JT, subscriptTail->K_, Subscript_->Lk
open PySem renaming wpAny_bind->D1, PyData->D2, Value->D4, wpAny_pure->D5, Shared->D6, starEach->Ec, Program->Ei, wpAny->Es, mainGlobals->ED, Around->EH, model->EJ, World->EK, wpAny_newObj_type->EN, wpAny_mono->ER, sizeLine_eq->E8, mem_of_lookup->Fb, Paired->Fe, wpAny_holding->Fg, wpAny_truthy_bool->Fj, SetTable->Fo, wpAny_call_entry->FC, foldedSetIterable->FH, compareOp->FI, backTo->FN, wpAny_callSpecial?_slot->FR, cellsFrom->FW, sysModules->Gb, wpAny_typeNameOfWhole_keyiter->Gi, wpAny_standAt->Gm, swapsWith->Gx, FuncData->Gz, assignEach->GD, wpAny_setField->GH, wpAny_passesOwn->GN, wpAny_pyIter_list->GO, wpAny_comprehension_free->GQ, wpAny_loadPart_at->GS, wpAny_typeNameOf_keyiter->GT, bootBuiltins->GU, intKind->GX, wpAny_Call_Name_kw->G1, codeAny_builtin->G7, codeAny->Hf, tupleKind->Hg, wpAny_fieldsOf->Hl, wpAny_askSetting->Hs, rawInt->Hw, codeAny_mono->Hy, wpAny_execs_nil->HD, assign->HE, swappedStores->HF, letOwnedTupleGo->HG, behindInMarks->HI, NameKind->HJ, tupleKind_room_in1->HL, plainId_quiet->HN, sliceBounds->HX, wpAny_field->HZ, plainObj_wpAny_Assign_Attribute->Ia, wpAny_setState_of->Ig, newFunctionEnv->Ih, DictEntry->Ik, wpAny_isOneOf_keyiter->Im, pyNext->IB, keywordEach->ID, wpAny_isSubtype_exc->IJ, wpAny_setEntries_of->IL, wpAny_pyIter_tuple->IW, isSubtype_type->Ji, firstArgMember->Jk, wpAny_assign_Name->Jo, noteFrame->Jq, wpAny_pyIter_slot->Ju, wpAny_dictEntries->Jv, swapsWithSole->Jz, binaryOp->JA, Keyword->JB, attributeBase->JC, wpAny_attempt->JH, wpAny_isInstance->JR, importedModules->JZ, exec_Assign_Name_used->J_, wpAny_updateSeq->Ke, codeAny_of_tree->Kf, wpAny_dictEpoch->Kj, builtinLookup_eq_fast->Km, wpAny_loadName_local->Kw, cLine->Kx, codeAny_call_builtin->Kz, intBits_le_iff->KB, wpAny_tryCatch->KE, wpAny_loadPart->KF, wpAny_loadName_cell->KH, sizeLine_eq->KI, getItem->KJ, subscripted->KL, atKey->KM, wpAny_letGo->KQ, wpAny_of_eq->KR, assignInOrder->K7, backToKw->K8, evalPart_none->K9, wpAny_newList->Lc, entryOfKey->Lh, holding->Li, wpAny_call->Lj, valueAt->Ll, callerA->Lm, Within->Lq, Result->Lu, seqIndex_neg->Lv, Operator->LA, hashInt->LB, PassesOwn->LD, lastMarks->LF, BindsTo->LG, seqIndex_of->LH, pushCells->LI, CmpOp->LP, Params->LQ, Model->LS, relabel->LU, storedH->LV
open PySem.Around renaming under_plainId->GL, under->J2
open PySem.Builtin.Builtins renaming bindParams->IG
open PySem.Builtin.Dict renaming showsAll->Ki
open PySem.Builtin.Dict_items renaming ownsTuple->Ix
open PySem.Builtin.List renaming listLengthHint->IM
open PySem.Builtin.Slice renaming slicePlaces->Hi, sliceApplied->IS
open PySem.Builtin.Tuple renaming tupleExact->GR, tupleItemsOf->IT
open PySem.Calls renaming Name_function_global->IQ, spliced_cons->IZ, call_function_entry->Jh, callWith_builtin->JU, evalArgs_plain->Ky
open PySem.Code renaming quiet_builtin->Ja, isFrame->Ls
open PySem.EntryCells renaming newEntry->KU
open PySem.F renaming plain_max_loop->FX, slot_dict_getitem->Jf, store_ValueError->Js, entry_max_loop->JW, slot_dict_get->Kh
open PySem.Heap renaming get?_push_of_some->D3, lt_size->D_, get?_push_size->Eg, get?_update_other->EG, get?_update_self->ES, size_push->GG, SameBut->GV, get?_none_of_le->Kv, get?_update_ne->KW
open PySem.Heap.SameBut renaming update->F0, refl->Jr
open PySem.NameKind renaming free->EX, cell->Gn
open PySem.Obj renaming data_mapFields->E_, isFreed_of_fields->FJ, mapFields->FS, mapSeq->HW, cls_mapFields->H_, putSet->Ku
open PySem.Paired renaming length->Gk
open PySem.PassesOwn renaming never->FU
open PySem.PyData renaming int->Et, eqv->EU, canLayAll0->Gu, depthAll->HM, tuple->Il, bool->JD, eqvAll->JF, canLay0->KC, list->KN, depth->Lw
open PySem.PyData.int renaming injEq->Gh
open PySem.PyData.tuple renaming injEq->EY
open PySem.SeqAt renaming shaped->E4, canLay_of_shaped->JV
open PySem.SetTable renaming below->Ew, bits->Fp, insertAt->FK, runEnd->FT, leap->F9, grown->Hm, turns->Ii, fill->JI, fits->Ld, layClean->Lp
open PySem.SetTable.below renaming go->Ic
open PySem.SetTable.layClean renaming free->GA
open PySem.SetTable.probe renaming go->FM
open PySem.SetTable.sizeAbove renaming go->G_
open PySem.Str renaming ofString->Ft
open PySem.Value renaming ref->EO, none->Fi, isInt->Iz, int->IA, bool->Kt, type->Lg, str->LC
open PySem.W renaming mg_none_of->Em, boot_heap->FA, Frag->Gr, nsIn->Ha, fnOf->Jd, codeIn->Jm, keepIn->Jn, mg_of->JM, OpenLaw->Kr, boot_drawn->Ks, boot_toks->K6, OpenLaw->LR
open PySem.Walks renaming list->Ln
open PySem.pickOrder renaming go->Lx
open Rat renaming div_def->H0, intCast_mul->IN, intCast_add->IP, normalize->JE, lt_irrefl->JG
open Sum renaming inl->Gj, inr->KG
open ToString renaming toString->Lb
open True renaming intro->Hz
open PySem PySem.Spec PyProof.Rows
variable{loose ps:List Str}{α:Type}{m b N u p:Int}{xs xs':List D2}{us:List D4}{a it f r:Addr}{P:Ei}{w:EK}{h base h':Heap}{i j n:Nat}{x qual:Str}{A:EH}{E Q:D4->D6->Prop}{e c tg iter:Expr}{s:D6}{pos pos' px:Pos}{pins:List (Addr×Obj)}{fp:List Addr}{op:LP}{mg:Str->Option D4}{fd:Gz}{scope:Scope}{ns:List Int}{XP:(Str->Option D4)->Heap->Prop}{d:D2}{rl:Option Addr}{kvs:List (List Int×D2)}{cl:List (Str×Addr)}{R:Lu->D6->Prop}{ifs:List Expr}{Rp:Addr->Lu->D6->Prop}{q:Rat}{owner:Array (Option Nat)}
theorem æa(h:True:=by rfl):True:=trivial
theorem æb(h:True:=by decide):True:=trivial
theorem æc(h:True:=by intro _;rfl):True:=trivial
theorem æd(h:True:=by first|exact GK rfl|exact GB rfl):True:=trivial
theorem æe(h:True:=by first|exact .inl rfl|exact .inr rfl):True:=trivial
theorem æf(h:True:=by first|exact GK rfl|exact GB (GK rfl)|exact GB (GB rfl)):True:=trivial
theorem æg(h:True:=by first|exact .inl rfl|exact .inr rfl|assumption):True:=trivial
theorem æh(h:True:=by with_unfolding_all rfl):True:=trivial
theorem æi(h:True:=by exact fun _ _=>rfl):True:=trivial
noncomputable section
namespace L2
open PySem
noncomputable def inClass(s:Stmt)(j:Nat):Stmt:=match s with
 | .ClassDef _ _ _ body _ _ _ _ _ _ _=>body.getD j (.Pass ⟨0,0,0,0⟩)
 | _=>.Pass ⟨0,0,0,0⟩
noncomputable def defArgs(s:Stmt):Arguments:=match s with
 | .FunctionDef _ a _ _ _ _ _ _ _ _=>a
 | _=>{posonlyargs:=[],args:=[],vararg:=none,kwonlyargs:=[],kw_defaults:=[],kwarg:=none,defaults:=[]}
noncomputable def defBody(s:Stmt):List Stmt:=match s with
 | .FunctionDef _ _ b _ _ _ _ _ _ _=>b
 | _=>[]
noncomputable def defScope(s:Stmt):Scope:=match s with
 | .FunctionDef _ _ _ _ _ _ sc _ _ _=>sc
 | _=>{kind:=.function,names:=[],isGenerator:=false,isCoroutine:=false}
end L2
namespace L2.TT
open PySem PySem.W
noncomputable def CV(tb:String->Option Builtin)(p:Ei)(w:EK)(m:Nat)(ann:Option D4):Nat->SharedT->Thread->Option SharedT
 | 0,_,_=>none
 | n+1,s,t=>match through t with
   | true=>some s
   | false=>match stepOk m ann t with
     | false=>none
     | true=>match stepT (denote tb) p w s t with
       | some r=>CV tb p w m ann n r.1 r.2
       | none=>none
theorem qS{tb:String->Option Builtin}{p:Ei}{w:EK}{m:Nat}{ann:Option D4}:∀{n:Nat}{s s':SharedT}{t:Thread},CV tb p w m ann n s t=some s'->topRun tb p w m ann n s.abs t=some s'.abs
 | 0,_,_,_,h=>by cases h
 | n+1,s,s',t,h=>by
   unfold CV at h;unfold topRun
   cases he:through t with
   | true=>rw[he]at h;cases h;rfl
   | false =>
     rw[he]at h
     cases hk:stepOk m ann t with
     | false=>rw[hk]at h;cases h
     | true =>
       rw[hk]at h
       cases hs:stepT (denote tb) p w s t with
       | none=>rw[hs]at h;cases h
       | some r=>rw[hs]at h;rw[stepT_spec hs];exact qS h
noncomputable def bt(os:List Obj):Nat->Nat->Nat->BT
 | 0,_,_=>.nil
 | f+1,a,b=>match os[b]? with
   | some o=>.node o (bt os f (2*a) (a+b)) (bt os f (2*a) (2*a+b))
   | none=>.nil
theorem boot_abs(P:LQ):absHeap (bt (FA P).objs.toList 12 1 0) (FA P).objs.size (FA P).life=FA P:=by kernel_rfl
abbrev wC(p q:Ei)(loose:List Str)(Xt:D6->Bool){α:Type}(Yf:D6->α)(h₀:Heap)(s:D6) :=
 (staticsOk (JZ p.main.body) h₀ s.heap&&namesBound p s.heap&&gensDone s&&laidKept h₀ s.heap,openSeen q loose (JZ p.main.body) Xt true s,Yf s)
theorem left_of{p q:Ei}{Xt:D6->Bool}{Yf:D6->α}{Ya:EK->α}{N m M:Nat}{ann:Option D4}
 (e:opening p=plainProg p.main.scope.names)(hN:Nat.ble 600 N=true)(f:∀s,fenceModules? p s=some s)(le:Nat.ble M N=true)
 (size:∀w:EK,((FA w.params).isNs ED,(FA w.params).objs.size,(FA w.params).nsMap ED "__annotations__")=(true,m,ann))
 (run:∀(w:EK)(os:OsState),(CV treeTable p w m ann M ⟨bt (FA w.params).objs.toList 12 1 0,(FA w.params).objs.size,(FA w.params).life,Lz [],Ks,K6,os⟩ (topStub p)).map (fun s=>wC p q loose Xt Yf (FA w.params) s.abs)=some (true,openGood q loose,Ya w)) :
 LeftO p q loose Xt Yf Ya N:=fun w=>by
 obtain⟨⟨h,gs,d,k,os⟩,eo,e'⟩:=Fw.mp (boot_open e hN f w);obtain⟨rfl,rfl,rfl,rfl⟩:h=FA w.params/\gs=Lz []/\d=Ks/\k=K6:=by simpa using e'
 obtain⟨z1,z2,z3⟩:_/\_/\_:=by simpa only[Prod.mk.injEq]using size w
 obtain⟨s',r,l⟩:=Fw.mp (run w os);obtain⟨l1,l2,l3⟩:_/\_/\_:=by simpa only[wC,Prod.mk.injEq]using l
 have r:=qS r
 have hb:SharedT.abs ⟨bt (FA w.params).objs.toList 12 1 0,(FA w.params).objs.size,(FA w.params).life,Lz [],Ks,K6,os⟩=⟨FA w.params,Lz [],Ks,K6,os⟩:=by
  show D6.mk (absHeap _ _ _) _ _ _ _=_;rw[boot_abs]
 rw[hb]at r;have r:=topRun_mono (N-M) _ _ _ _ r;rw[show M+(N-M)=N by have:=Nat.le_of_ble_eq_true le;omega]at r
 have t:topFrom treeTable p w N ⟨FA w.params,Lz [],Ks,K6,os⟩=some s'.abs:=by
  unfold topFrom;dsimp only;rw[z1,z2,z3,r];show(match staticsOk (JZ p.main.body) (FA w.params) s'.abs.heap&&namesBound p s'.abs.heap&&gensDone s'.abs&&laidKept (FA w.params) s'.abs.heap with|true=>_|false=>_)=_;rw[l1]
 unfold openEnds;rw[eo];show(topFrom treeTable p w N _).map _=_;rw[t];exact congrArg some (Prod.ext l2 l3)
end L2.TT
namespace K52
open PySem
def top(i:Nat):Stmt:=PySem.Challenge.pw_evenpoints_k52_whole_neighbours_of_many.main.body.getD i (.Pass ⟨0,0,0,0⟩)
end K52
noncomputable def PySem.W.Fast.tw6254468111197927937:PySem.Program:=PySem.Challenge.pw_evenpoints_k52_whole_neighbours_of_many
theorem PySem.W.Fast.te6254468111197927937:PySem.Challenge.pw_evenpoints_k52_whole_neighbours_of_many=PySem.W.Fast.tw6254468111197927937:=rfl
namespace K52
open PySem PySem.W L2
def Bv:Stmt:=top 0
def Bu:Stmt:=top 1
def Bt:Stmt:=top 2
def Bs:Stmt:=top 3
def Br:Stmt:=top 4
def Bq:Stmt:=top 5
def Bp:Stmt:=top 6
def Bo:Stmt:=top 7
def Bn:Stmt:=top 8
def Bm:Stmt:=top 9
def Af:Stmt:=top 10
def Ae:Stmt:=top 11
def Ad:Stmt:=top 12
def Ac:Stmt:=top 13
def Ab:Stmt:=top 14
def Aa:Stmt:=top 15
def z_:Stmt:=top 16
def AR:Stmt:=top 17
def z9:Stmt:=top 18
def AQ:Stmt:=top 19
def z8:Stmt:=top 20
def z7:Stmt:=top 21
def z6:Stmt:=top 22
def z5:Stmt:=top 23
def AO:Stmt:=top 24
def z0:Stmt:=top 25
def zZ:Stmt:=top 26
def zY:Stmt:=top 27
def AN:Stmt:=top 28
def zX:Stmt:=top 29
def zW:Stmt:=top 30
def zV:Stmt:=top 31
def zU:Stmt:=top 32
def zT:Stmt:=top 33
def zS:Stmt:=top 34
def zR:Stmt:=top 35
def zQ:Stmt:=top 36
def zP:Stmt:=top 37
def zO:Stmt:=top 38
def Cn:Ei:={PySem.Challenge.pw_evenpoints_k52_whole_neighbours_of_many with main:={PySem.Challenge.pw_evenpoints_k52_whole_neighbours_of_many.main with body:=[Bv,Bu,Bt,Bs,Br,Bq,Bp,Bo,Bn,Bm,Af,Ae,Ad,Ac,Ab,Aa,z_,AR,z9,AQ,z8,z7,z6,z5,AO,z0,zZ,zY,AN,zX,zW,zV,zU,zT,zS,zR,zQ,zP,zO]}}
def rwN:LR:={PySem.Challenge.rw_evenpoints_k52_whole_neighbours_of_many with prog:=Cn}
noncomputable def zview:Ei:={PySem.Challenge.pw_evenpoints_k52_whole_neighbours_of_many with main:={PySem.Challenge.pw_evenpoints_k52_whole_neighbours_of_many.main with body:=[Bu,Bt,Bs,Bq,Bp,Bo,Bn,Bm,Af,Ae,Ad,Ac,Ab,Aa,z_,z9,z8,z7,z6,z5,z0,zZ,zY,zX,zW,zV,zU,zT,zS,zR,zQ,zP,zO]}}
theorem rw_eq:PySem.Challenge.rw_evenpoints_k52_whole_neighbours_of_many=rwN:=rfl
noncomputable def BF(P:LQ)(x:Str)(t:Nat)(v:D4):Ik:=⟨D2.keyHash P x,.str x t,v⟩
noncomputable def BE(n q:Str)(s:Stmt)(pm cd:D4):Obj:=⟨.type "function", none,.func (fnOf n q (defArgs s) (defBody s) (defScope s) .none .none .none pm none cd .none),#[]⟩
noncomputable def BH(n q:Str)(a b c:Nat)(l x y:Int)(r:Nat)(z:Int)(r2:Nat)(v1 v2 v3:D4)(r3:Nat)(u:Int)(c2:Nat):Obj:=⟨.type "code", none,.fields #[.str n a,.str q b,.str "/claim/cut.py" c,.int l 0,.int x 0,.int 0 0,.int 0 0,.int y 0,.ref r,.bool true,.int z 0,.ref r2,v1,v2,v3,.ref r3,.int u 0,.int l 0,.str "/claim/cut.py" c2],#[]⟩
noncomputable def BC:D4:=.str "evenpoints.errors" 187
noncomputable def BB:D4:=.str "evenpoints.fractions" 259
noncomputable def BA:D4:=.str "evenpoints.steps" 344
noncomputable def By:D4:=.str "evenpoints.gapchecker" 355
noncomputable def Bx:D4:=.str "evenpoints.gaps" 390
noncomputable def Bw:D4:=.str "law_evenpoints_k52_whole_neighbours_of_many" 422
abbrev BD(n:Str):=BE n n
abbrev BG(n:Str):=BH n n
noncomputable def heapK(P:LQ):Frag :=
 (nat_lit 2,(.mk .none none (.dict #[] 0) #[])) ::
 (nat_lit 3,(.mk (.type "dict") none (.dict #[BF P "__name__" 165 (.str "law_evenpoints_k52_whole_neighbours_of_many" 422),BF P "__doc__" 166 .none,BF P "__package__" 167 .none,BF P "__loader__" 168 (.builtin "__main__.__loader__#opaque"),BF P "__spec__" 169 .none,BF P "__annotations__" 170 (.ref 6),BF P "__builtins__" 171 (.ref 4),BF P "__file__" 173 (.str "/claim/cut.py" 172),BF P "__cached__" 174 .none,BF P "EvenError" 206 (.ref 24),BF P "Nought" 231 (.ref 44),BF P "NoPaper" 258 (.ref 63),BF P "ZERO" 263 (.ref 66),BF P "ONE" 266 (.ref 67),BF P "is_whole" 273 (.ref 74),BF P "is_place" 281 (.ref 81),BF P "common_divisor" 289 (.ref 88),BF P "fraction" 298 (.ref 95),BF P "plus" 306 (.ref 102),BF P "less" 314 (.ref 109),BF P "times" 322 (.ref 116),BF P "rounded_up" 330 (.ref 123),BF P "wrapped" 337 (.ref 130),BF P "in_size" 343 (.ref 135),BF P "step_number" 354 (.ref 142),BF P "is_pair" 362 (.ref 147),BF P "gap_above" 370 (.ref 154),BF P "gap_below" 378 (.ref 161),BF P "lets_neighbours" 389 (.ref 168),BF P "neighbours" 404 (.ref 175),BF P "next_of" 415 (.ref 182),BF P "gaps" 421 (.ref 187),BF P "_law_feed" 430 (.ref 194),BF P "_law_draw" 441 (.ref 201),BF P "_law_gcd" 449 (.ref 208),BF P "_law_frac" 458 (.ref 215),BF P "_law_step_of" 468 (.ref 222),BF P "_law_is_let" 478 (.ref 229),BF P "_law_gaps_right" 484 (.ref 234),BF P "_law_steps_right" 490 (.ref 239),BF P "_law_far_right" 496 (.ref 244),BF P "law" 502 (.ref 249)] 42) #[])) ::
 (nat_lit 6,(.mk (.type "dict") none (.dict #[] 0) #[])) ::
 (nat_lit 15,(.mk (.type "tuple") none (.seq #[(.type "ValueError")] 0) #[])) ::
 (nat_lit 22,(.mk (.type "tuple") none (.seq #[] 0) #[])) ::
 (nat_lit 23,(.mk (.type "dict") none (.dict #[BF P "__module__" 196 (.str "evenpoints.errors" 187),BF P "__firstlineno__" 200 (.int 2 199),BF P "__static_attributes__" 201 (.ref 22),BF P "__weakref__" 203 (.ref 25),BF P "__doc__" 204 .none] 3) #[])) ::
 (nat_lit 24,(.mk (.type "type") none (.cls (.mk "EvenError" [(.type "ValueError")] [(.ref 24),(.type "ValueError"),(.type "Exception"),(.type "BaseException"),(.type "object")] 23 "EvenError" true [] [(.ref 44),(.ref 63)] false none false)) #[(some (.ref 15)),none,(some (.str "EvenError" 189)),(some (.str "EvenError" 197)),(some (.builtin "ValueError.__new__")),(some (.bool true))])) ::
 (nat_lit 25,(.mk (.type "getset_descriptor") none (.fields #[(.str "__weakref__" 202),(.ref 24),(.builtin "ExceptionGroup.__weakref__"),.none]) #[])) ::
 (nat_lit 28,(.mk (.type "tuple") none (.seq #[(.ref 24)] 0) #[])) ::
 (nat_lit 40,BH "__init__" "Nought.__init__" 219 220 221 6 2 3 35 181 36 .none (.ref 37) (.ref 38) 39 224 225) ::
 (nat_lit 41,BE "__init__" "Nought.__init__" (inClass (top 2) 0) BC (.ref 40)) ::
 (nat_lit 42,(.mk (.type "tuple") none (.seq #[(.str "word" 227)] 0) #[])) ::
 (nat_lit 43,(.mk (.type "dict") none (.dict #[BF P "__module__" 214 (.str "evenpoints.errors" 187),BF P "__firstlineno__" 218 (.int 4 217),BF P "__init__" 226 (.ref 41),BF P "__static_attributes__" 228 (.ref 42),BF P "__doc__" 229 .none] 2) #[])) ::
 (nat_lit 44,(.mk (.type "type") none (.cls (.mk "Nought" [(.ref 24)] [(.ref 44),(.ref 24),(.type "ValueError"),(.type "Exception"),(.type "BaseException"),(.type "object")] 43 "Nought" true [] [] false none false)) #[(some (.ref 28)),none,(some (.str "Nought" 207)),(some (.str "Nought" 215)),(some (.builtin "ValueError.__new__")),(some (.bool true))])) ::
 (nat_lit 47,(.mk (.type "tuple") none (.seq #[(.ref 24)] 0) #[])) ::
 (nat_lit 59,BH "__init__" "NoPaper.__init__" 244 245 246 10 3 3 54 181 55 .none (.ref 56) (.ref 57) 58 250 251) ::
 (nat_lit 60,BE "__init__" "NoPaper.__init__" (inClass (top 3) 0) BC (.ref 59)) ::
 (nat_lit 61,(.mk (.type "tuple") none (.seq #[(.str "path" 253),(.str "word" 254)] 0) #[])) ::
 (nat_lit 62,(.mk (.type "dict") none (.dict #[BF P "__module__" 239 (.str "evenpoints.errors" 187),BF P "__firstlineno__" 243 (.int 8 242),BF P "__init__" 252 (.ref 60),BF P "__static_attributes__" 255 (.ref 61),BF P "__doc__" 256 .none] 2) #[])) ::
 (nat_lit 63,(.mk (.type "type") none (.cls (.mk "NoPaper" [(.ref 24)] [(.ref 63),(.ref 24),(.type "ValueError"),(.type "Exception"),(.type "BaseException"),(.type "object")] 62 "NoPaper" true [] [] false none false)) #[(some (.ref 47)),none,(some (.str "NoPaper" 232)),(some (.str "NoPaper" 240)),(some (.builtin "ValueError.__new__")),(some (.bool true))])) ::
 (nat_lit 66,(.mk (.type "tuple") none (.seq #[(.int 0 261),(.int 1 262)] 0) #[])) ::
 (nat_lit 67,(.mk (.type "tuple") none (.seq #[(.int 1 264),(.int 1 265)] 0) #[])) ::
 (nat_lit 73,BG "is_whole" 267 268 269 16 1 3 68 181 69 .none (.ref 70) (.ref 71) 72 271 272) ::
 (nat_lit 74,BD "is_whole" (top 7) BB (.ref 73)) ::
 (nat_lit 80,BG "is_place" 274 275 276 18 2 3 75 181 76 .none (.ref 77) (.ref 78) 79 279 280) ::
 (nat_lit 81,BD "is_place" (top 8) BB (.ref 80)) ::
 (nat_lit 87,BG "common_divisor" 282 283 284 20 2 3 82 181 83 .none (.ref 84) (.ref 85) 86 287 288) ::
 (nat_lit 88,BD "common_divisor" (top 9) BB (.ref 87)) ::
 (nat_lit 94,BG "fraction" 290 291 292 24 2 3 89 181 90 .none (.ref 91) (.ref 92) 93 296 297) ::
 (nat_lit 95,BD "fraction" (top 10) BB (.ref 94)) ::
 (nat_lit 101,BG "plus" 299 300 301 31 2 3 96 181 97 .none (.ref 98) (.ref 99) 100 304 305) ::
 (nat_lit 102,BD "plus" (top 11) BB (.ref 101)) ::
 (nat_lit 108,BG "less" 307 308 309 33 2 3 103 181 104 .none (.ref 105) (.ref 106) 107 312 313) ::
 (nat_lit 109,BD "less" (top 12) BB (.ref 108)) ::
 (nat_lit 115,BG "times" 315 316 317 35 2 3 110 181 111 .none (.ref 112) (.ref 113) 114 320 321) ::
 (nat_lit 116,BD "times" (top 13) BB (.ref 115)) ::
 (nat_lit 122,BG "rounded_up" 323 324 325 37 2 3 117 181 118 .none (.ref 119) (.ref 120) 121 328 329) ::
 (nat_lit 123,BD "rounded_up" (top 14) BB (.ref 122)) ::
 (nat_lit 129,BG "wrapped" 331 332 333 39 1 3 124 181 125 .none (.ref 126) (.ref 127) 128 335 336) ::
 (nat_lit 130,BD "wrapped" (top 15) BB (.ref 129)) ::
 (nat_lit 134,BG "in_size" 338 339 340 41 1 3 131 181 132 .none .none .none 133 341 342) ::
 (nat_lit 135,BD "in_size" (top 16) BB (.ref 134)) ::
 (nat_lit 141,BG "step_number" 346 347 348 47 3 3 136 181 137 .none (.ref 138) (.ref 139) 140 352 353) ::
 (nat_lit 142,BD "step_number" (top 18) BA (.ref 141)) ::
 (nat_lit 146,BG "is_pair" 357 358 359 50 2 3 143 181 144 .none .none .none 145 360 361) ::
 (nat_lit 147,BD "is_pair" (top 20) By (.ref 146)) ::
 (nat_lit 153,BG "gap_above" 363 364 365 54 2 3 148 181 149 .none (.ref 150) (.ref 151) 152 368 369) ::
 (nat_lit 154,BD "gap_above" (top 21) By (.ref 153)) ::
 (nat_lit 160,BG "gap_below" 371 372 373 56 2 3 155 181 156 .none (.ref 157) (.ref 158) 159 376 377) ::
 (nat_lit 161,BD "gap_below" (top 22) By (.ref 160)) ::
 (nat_lit 167,BG "lets_neighbours" 379 380 381 58 3 3 162 181 163 .none (.ref 164) (.ref 165) 166 387 388) ::
 (nat_lit 168,BD "lets_neighbours" (top 23) By (.ref 167)) ::
 (nat_lit 174,BG "neighbours" 392 393 394 68 2 3 169 181 170 .none (.ref 171) (.ref 172) 173 402 403) ::
 (nat_lit 175,BD "neighbours" (top 25) Bx (.ref 174)) ::
 (nat_lit 181,BG "next_of" 405 406 407 81 3 3 176 181 177 .none (.ref 178) (.ref 179) 180 413 414) ::
 (nat_lit 182,BD "next_of" (top 26) Bx (.ref 181)) ::
 (nat_lit 186,BG "gaps" 416 417 418 86 2 3 183 181 184 .none .none .none 185 419 420) ::
 (nat_lit 187,BD "gaps" (top 27) Bx (.ref 186)) ::
 (nat_lit 193,BG "_law_feed" 424 425 426 95 1 3 188 181 189 .none (.ref 190) (.ref 191) 192 428 429) ::
 (nat_lit 194,BD "_law_feed" (top 29) Bw (.ref 193)) ::
 (nat_lit 200,BG "_law_draw" 431 432 433 97 2 3 195 181 196 .none (.ref 197) (.ref 198) 199 439 440) ::
 (nat_lit 201,BD "_law_draw" (top 30) Bw (.ref 200)) ::
 (nat_lit 207,BG "_law_gcd" 442 443 444 113 2 3 202 181 203 .none (.ref 204) (.ref 205) 206 447 448) ::
 (nat_lit 208,BD "_law_gcd" (top 31) Bw (.ref 207)) ::
 (nat_lit 214,BG "_law_frac" 450 451 452 117 2 3 209 181 210 .none (.ref 211) (.ref 212) 213 456 457) ::
 (nat_lit 215,BD "_law_frac" (top 32) Bw (.ref 214)) ::
 (nat_lit 221,BG "_law_step_of" 459 460 461 120 2 3 216 181 217 .none (.ref 218) (.ref 219) 220 466 467) ::
 (nat_lit 222,BD "_law_step_of" (top 33) Bw (.ref 221)) ::
 (nat_lit 228,BG "_law_is_let" 469 470 471 124 3 3 223 181 224 .none (.ref 225) (.ref 226) 227 476 477) ::
 (nat_lit 229,BD "_law_is_let" (top 34) Bw (.ref 228)) ::
 (nat_lit 233,BG "_law_gaps_right" 479 480 481 131 3 3 230 181 231 .none .none .none 232 482 483) ::
 (nat_lit 234,BD "_law_gaps_right" (top 35) Bw (.ref 233)) ::
 (nat_lit 238,BG "_law_steps_right" 485 486 487 143 4 3 235 181 236 .none .none .none 237 488 489) ::
 (nat_lit 239,BD "_law_steps_right" (top 36) Bw (.ref 238)) ::
 (nat_lit 243,BG "_law_far_right" 491 492 493 157 2 3 240 181 241 .none .none .none 242 494 495) ::
 (nat_lit 244,BD "_law_far_right" (top 37) Bw (.ref 243)) ::
 (nat_lit 248,BG "law" 497 498 499 166 1 3 245 181 246 .none .none .none 247 500 501) ::
 (nat_lit 249,BD "law" (top 38) Bw (.ref 248))::[]
noncomputable def heapA:List Addr:=nat_lit 2::nat_lit 3::nat_lit 6::nat_lit 15::nat_lit 22::nat_lit 23::nat_lit 24::nat_lit 25::nat_lit 28::nat_lit 40::nat_lit 41::nat_lit 42::nat_lit 43::nat_lit 44::nat_lit 47::nat_lit 59::nat_lit 60::nat_lit 61::nat_lit 62::nat_lit 63::nat_lit 66::nat_lit 67::nat_lit 73::nat_lit 74::nat_lit 80::nat_lit 81::nat_lit 87::nat_lit 88::nat_lit 94::nat_lit 95::nat_lit 101::nat_lit 102::nat_lit 108::nat_lit 109::nat_lit 115::nat_lit 116::nat_lit 122::nat_lit 123::nat_lit 129::nat_lit 130::nat_lit 134::nat_lit 135::nat_lit 141::nat_lit 142::nat_lit 146::nat_lit 147::nat_lit 153::nat_lit 154::nat_lit 160::nat_lit 161::nat_lit 167::nat_lit 168::nat_lit 174::nat_lit 175::nat_lit 181::nat_lit 182::nat_lit 186::nat_lit 187::nat_lit 193::nat_lit 194::nat_lit 200::nat_lit 201::nat_lit 207::nat_lit 208::nat_lit 214::nat_lit 215::nat_lit 221::nat_lit 222::nat_lit 228::nat_lit 229::nat_lit 233::nat_lit 234::nat_lit 238::nat_lit 239::nat_lit 243::nat_lit 244::nat_lit 248::nat_lit 249::[]
theorem heapE:∀P,heapA=(heapK P).map (·.1):=fun _=>rfl
theorem yb:∀w:EK,((FA w.params).isNs ED,(FA w.params).objs.size,(FA w.params).nsMap ED "__annotations__")=(true,11,some (.ref 6)):=fun w=>by kernel_rfl
set_option maxHeartbeats 0 in
theorem zleft:LeftO Cn zview [] (fun s=>xlAt zview [] s&&recOk (RowW.records rwN.row.toRowW) s) (Hook.obs (kHook heapK heapA heapE)) (Hook.val (kHook heapK heapA heapE)) 3898 :=
 L2.TT.left_of (M:=3898) (by kernel_rfl) rfl (fun s=>by kernel_rfl) rfl yb fun w os=>by kernel_rfl
end K52
namespace L2
abbrev DH:=Sum Int Str
noncomputable def je:DH->D4->Bool
 | .inl k,v=>Iz k v
 | .inr x,v=>D4.isStrOf x v
noncomputable def Ba(w:EK):DH->Int
 | .inl k=>LB k
 | .inr x=>hashStr w x
theorem aP:∀{k:DH}{v:D4},je k v=true->(∃i t,k=Gj i/\v=IA i t)\/(∃x t,k=KG x/\v=LC x t)
 | .inl i,v,h=>by
   obtain⟨t,e⟩:=D4.isInt_shape (k:=i) (v:=v) h
   exact .inl ⟨i,t,rfl,e⟩
 | .inr x,v,h=>by
   obtain⟨t,e⟩:=D4.isStrOf_shape (x:=x) (v:=v) h;exact .inr ⟨x,t,rfl,e⟩
theorem nw(i:Int)(t:Tok):je (.inl i) (.int i t)=true:=by simp[je,Iz]
theorem nu(x:Str)(t:Tok):je (.inr x) (.str x t)=true:=by simp[je,D4.isStrOf]
theorem wH(a b:Int):decide ((Gj a:DH)=Gj b)=(a==b):=by
 by_cases e:a=b
 · subst e;simp
 · have h:¬(Gj a:DH)=Gj b:=fun q=>e (Gj.inj q);rw[decide_eq_false h];exact(beq_eq_false_iff_ne.mpr e).symm
theorem wE(a b:Str):decide ((KG a:DH)=KG b)=decide (a=b):=by
 by_cases e:a=b
 · subst e;simp
 · have h:¬(KG a:DH)=KG b:=fun q=>e (KG.inj q);rw[decide_eq_false h,decide_eq_false e]
theorem wG(a:Int)(b:Str):decide ((Gj a:DH)=KG b)=false:=decide_eq_false (fun q=>nomatch q)
theorem wF(a:Str)(b:Int):decide ((KG a:DH)=Gj b)=false:=decide_eq_false (fun q=>nomatch q)
noncomputable def bp(prog:Ei)(w:EK):PySem.KeyKind prog w DH where
 is:=je
 hash:=Ba w
 inj:=fun v a b ha hb=>by
  rcases aP ha with⟨i,t,rfl,rfl⟩|⟨x,t,rfl,rfl⟩
  · rcases aP hb with⟨j,u,rfl,e⟩|⟨y,u,rfl,e⟩
    · injection e with e1 _;rw[e1]
    · exact nomatch e
  · rcases aP hb with⟨j,u,rfl,e⟩|⟨y,u,rfl,e⟩
    · exact nomatch e
    · injection e with e1 _;rw[e1]
 byValue:=fun k v h=>by
   rcases aP h with⟨i,t,rfl,rfl⟩|⟨x,t,rfl,rfl⟩<;>rfl
 pyHash:=fun hv h=>by
  rcases aP hv with⟨i,t,rfl,rfl⟩|⟨x,t,rfl,rfl⟩
  · exact wpAny_pyHash_int h
  · exact wpAny_pyHash_str h
 eqBool:=fun hu hv h=>by
  rcases aP hu with⟨i,t,rfl,rfl⟩|⟨x,t,rfl,rfl⟩
  · rcases aP hv with⟨j,u,rfl,rfl⟩|⟨y,u,rfl,rfl⟩
    · rw[wH]at h;exact wpAny_eqBool_int h
    · rw[wG]at h;exact SeqAt.EqAt.int_str i t y u _ _ _ _ h
  · rcases aP hv with⟨j,u,rfl,rfl⟩|⟨y,u,rfl,rfl⟩
    · rw[wF]at h;exact SeqAt.EqAt.str_int x t j u _ _ _ _ h
    · rw[wE]at h;exact wpAny_eqBool_str h
 «strs»:=fun k x t v h=>by
  rcases aP h with⟨i,u,rfl,e⟩|⟨y,u,rfl,e⟩
  · exact nomatch e
  · injection e with e1 _
    subst e1;cases v<;>rfl
theorem i9(prog:Ei)(w:EK)(i:Int)(t:Tok):(bp prog w).is (.inl i) (.int i t)=true:=nw i t
theorem i8(prog:Ei)(w:EK)(x:Str)(t:Tok):(bp prog w).is (.inr x) (.str x t)=true:=nu x t
inductive V where
 | non|bl (b:Bool)|int (i:Int)|str (x:Str)|byt (b:Array UInt8)|flt (b:UInt64)|ref (a:Addr)|ty (n:String)
 deriving DecidableEq
noncomputable def RelV:V->D4->Prop
 | .non,u=>u=Fi
 | .bl b,u=>u=Kt b
 | .int i,u=>∃t,u=IA i t
 | .str x,u=>∃t,u=LC x t
 | .byt b,u=>∃t,u=D4.bytes b t
 | .flt b,u=>∃t,u=D4.float b t
 | .ref a,u=>u=EO a
 | .ty n,u=>u=Lg n
abbrev bI:List V->List D4->Prop:=Fe RelV
theorem bI.length{xs:List V}(r:bI xs us):xs.length=us.length:=Gk r
theorem bI.get:∀{xs:List V}{us:List D4}{i:Nat}{x:V},bI xs us->xs[i]?=some x->∃u,us[i]?=some u/\RelV x u
 | _,_,_,_,.nil,e=>by simp at e
 | _,_,0,_,.cons r _,e=>by simp at e;subst e;exact⟨_,rfl,r⟩
 | _,_,i+1,x,.cons _ t,e=>by
   obtain⟨u,h1,h2⟩:=bI.get (i:=i) (x:=x) t (by simpa using e);exact⟨u,by simpa using h1,h2⟩
theorem bI.set{x:V}{u:D4}(r:RelV x u):∀{xs:List V}{us:List D4}(i:Nat),bI xs us->bI (xs.set i x) (us.set i u)
 | _,_,_,.nil=>.nil
 | _,_,0,.cons _ t=>.cons r t
 | _,_,i+1,.cons q t=>.cons q (bI.set r i t)
theorem bI.append:∀{xs ys:List V}{us ws:List D4},bI xs us->bI ys ws->bI (xs++ys) (us++ws)
 | _,_,_,_,.nil,s=>s
 | _,_,_,_,.cons r t,s=>.cons r (bI.append t s)
theorem bI.take:∀{xs:List V}{us:List D4}(n:Nat),bI xs us->bI (xs.take n) (us.take n)
 | _,_,0,_=>.nil
 | _,_,_+1,.nil=>.nil
 | _,_,n+1,.cons r t=>.cons r (bI.take n t)
theorem bI.drop:∀{xs:List V}{us:List D4}(n:Nat),bI xs us->bI (xs.drop n) (us.drop n)
 | _,_,0,r=>r
 | _,_,_+1,.nil=>.nil
 | _,_,n+1,.cons _ t=>bI.drop n t
noncomputable def xE:Option V->Option D4->Prop
 | some v,some u=>RelV v u
 | none,none=>True
 | _,_=>False
noncomputable def KV{κ:Type}:List (κ×V)->List (κ×D4)->Prop:=Fe fun(p:κ×V)(q:κ×D4)=>p.1=q.1/\RelV p.2 q.2
noncomputable def kV:DH->V
 | .inl i=>.int i
 | .inr x=>.str x
inductive HO where
 | lst (xs:List V)
 | tup (xs:List V)
 | dK (kvs:List (DH×V))|dT (kvs:List (List DH×V))
 | set (S:Int->Bool) (n:Nat)
 | ins (C dx:Addr) (fs:List (Str×V))
 | own (x:Addr)
 | xd (fs:List (Str×V))
 | met (f x:Addr)
 | rng (lo hi:Int)
 | frz (o:Obj) (u:HO)
 | tbl (ps:Array D4)
 | ext (φ:Heap->Prop)
abbrev Hp:=Addr->Option HO
noncomputable def upd(H:Hp)(a:Addr)(o:HO):Hp:=fun b=>if b=a then some o else H b
theorem ak{H:Hp}{o:HO}:upd H a o a=some o:=by unfold upd;rw[if_pos rfl]
theorem upd_ne{H:Hp}{b:Addr}{o:HO}(h:b≠a):upd H a o b=H b:=by unfold upd;rw[if_neg h]
theorem cT{H:Hp}{o u:HO}:upd (upd H a o) a u=upd H a u:=by
 funext b;unfold upd;split<;>rfl
theorem ci{H:Hp}{b:Addr}{o u:HO}(h:H a=some o)(h':H b=some u)(d:o≠u):a≠b:=by
 intro e;subst e;rw[h]at h';exact d (EL h')
theorem ax{H:Hp}{b:Addr}{o:HO}(h:H a=some o)(h':H b=none):a≠b:=by
 intro e;subst e;rw[h]at h';cases h'
section
variable(P:Ei)(w:EK)
noncomputable def oJ(h:Heap)(a:Addr)(items:Array D4):Prop:=∃o,h.get? a=some o/\o.cls = .type "tuple" /\ (∃n,o.data = .seq items n)/\o.dict=none
theorem oJ.tup{h:Heap}{a:Addr}{items:Array D4}(x:oJ h a items):IsTup h a items:=let ⟨o,e1,e2,e3,_⟩:=x;⟨o,e1,e2,e3⟩
theorem oJ.new(h:Heap)(items:Array D4):oJ (h.push {cls:=.type "tuple", data:=.seq items}) h.objs.size items:=⟨_,Eg _ rfl,rfl,⟨_,rfl⟩,rfl⟩
noncomputable def br(H:Hp)(h:Heap)(a:Addr):HO->Prop
 | .lst xs=>xs.length<=sizeLine/\∃(its:List D4)(n:Nat),bI xs its/\h.get? a=some {cls:=.type "list", data:=.seq its.toArray n}
 | .tup xs=>xs.length<=sizeLine/\∃its:List D4,bI xs its/\oJ h a its.toArray
 | .dK kvs=>kvs.length<=sizeLine/\(a==Gb)=false/\∃vs,KV kvs vs/\h.DictOf (bp P w) a vs
 | .dT kvs=>kvs.length<=sizeLine/\(a==Gb)=false/\∃xs:List (List DH×Addr×D4),
     Fe (fun(p:List DH×V)(q:List DH×Addr×D4)=>p.1=q.1/\H q.2.1=some (.tup (p.1.map kV))/\RelV p.2 q.2.2) kvs xs /\
     ∃o es ep,h.get? a=some o/\o.ExactDict/\o.data = .dict es ep/\es.toList=xs.map (Lh (Hg (bp P w)))/\(xs.map (·.1)).Nodup
 | .set S n=>h.SetOf (GX P w) a S n
 | .ins C dx fs=>H dx=some (.own a)/\fs.length<=1000/\dx≠a/\h.get? a=some (W.instObj C dx) /\
     ∃mA,h.Ns1 dx mA/\(∀f,xE (fs.lookup f) (mA f))/\Lq mA (fs.map (·.1))
 | .own _=>∃o,h.get? a=some o
 | .xd fs=>∃mA,h.Ns1 a mA/\∀f,xE (fs.lookup f) (mA f)
 | .rng lo hi=>∃t u v,h.get? a=some {cls:=.type "range", data:=.fields #[.int lo t,.int hi u,.int 1 v]}
 | .frz o u=>h.get? a=some o/\br H h a u
 | .tbl ps=>h.get? a=some {cls:=.none,data:=.fields ps}
 | .met f x=>h.get? a=some (W.methodObj (.ref f) (.ref x))
 | .ext φ=>φ h/\(∃o,h.get? a=some o)/\∀h1 h2:Heap,φ h1->(∀o,h1.get? a=some o->h2.get? a=some o)->φ h2
noncomputable def DO(H:Hp)(h:Heap):Prop:=∀a o,H a=some o->br P w H h a o
end
section
variable{P:Ei}{w:EK}{H H':Hp}{h h':Heap}{a:Addr}{o:HO}
theorem br.lt(x:br P w H h a o):a<h.objs.size:=by
 cases o with
 | lst xs=>obtain⟨_,_,_,_,e⟩:=x;exact D_ e
 | tup xs=>obtain⟨_,_,_,p⟩:=x;exact p.tup.lt
 | dK kvs=>obtain⟨_,_,_,_,o,_,_,e,_⟩:=x;exact D_ e
 | dT kvs=>obtain⟨_,_,_,_,o,_,_,e,_⟩:=x;exact D_ e
 | set S n=>obtain⟨o,_,_,_,e,_⟩:=x;exact D_ e
 | ins C dx fs=>obtain⟨_,_,_,e,_⟩:=x;exact D_ e
 | own y=>obtain⟨_,e⟩:=x;exact D_ e
 | xd fs=>obtain⟨_,⟨_,_,_,e,_⟩,_⟩:=x;exact D_ e
 | rng lo hi=>obtain⟨_,_,_,e⟩:=x;exact D_ e
 | frz ob u=>obtain⟨e,_⟩:=x;exact D_ e
 | tbl ps=>exact D_ (show h.get? a=some _ from x)
 | met f y=>exact D_ (show h.get? a=some _ from x)
 | ext φ=>obtain⟨_,⟨_,e⟩,_⟩:=x;exact D_ e
theorem Fe.mapP{α β:Type}{F G:α->β->Prop}:∀{l₁:List α}{l₂:List β},Fe F l₁ l₂->(∀a b,F a b->G a b)->Fe G l₁ l₂
 | _,_,.nil,_=>.nil
 | _,_,.cons r t,f=>.cons (f _ _ r) (Fe.mapP t f)
theorem br.stay(x:br P w H h a o)(k:∀b u,(b=a\/H b=some (.own a))->h.get? b=some u->h'.get? b=some u)
 (ho:∀b,H b=some (.own a)->H' b=some (.own a))(ht:∀b xs,H b=some (.tup xs)->H' b=some (.tup xs)):br P w H' h' a o:=by
 induction o with
 | lst xs=>obtain⟨z,its,n,r,e⟩:=x;exact⟨z,its,n,r,k _ _ (.inl rfl) e⟩
 | tup xs=>obtain⟨z,its,r,ob,e,c⟩:=x;exact⟨z,its,r,ob,k _ _ (.inl rfl) e,c⟩
 | dK kvs=>obtain⟨z,y,vs,r,ob,es,ep,e,c⟩:=x;exact⟨z,y,vs,r,ob,es,ep,k _ _ (.inl rfl) e,c⟩
 | dT kvs =>
   obtain⟨z,y,xs,r,ob,es,ep,e,c⟩:=x
   exact⟨z,y,xs,Fe.mapP r fun p q z=>⟨z.1,ht _ _ z.2.1,z.2.2⟩,ob,es,ep,k _ _ (.inl rfl) e,c⟩
 | set S n=>obtain⟨ob,es,ep,t,e,c⟩:=x;exact⟨ob,es,ep,t,k _ _ (.inl rfl) e,c⟩
 | ins C dx fs =>
   obtain⟨d,z,ne,e,mA,⟨od,es,ep,e2,c⟩,r⟩:=x
   exact⟨ho _ d,z,ne,k _ _ (.inl rfl) e,mA,⟨od,es,ep,k _ _ (.inr d) e2,c⟩,r⟩
 | own y=>obtain⟨ob,e⟩:=x;exact⟨ob,k _ _ (.inl rfl) e⟩
 | xd fs=>obtain⟨mA,⟨od,es,ep,e,c⟩,r⟩:=x;exact⟨mA,⟨od,es,ep,k _ _ (.inl rfl) e,c⟩,r⟩
 | rng lo hi=>obtain⟨t,u,v,e⟩:=x;exact⟨t,u,v,k _ _ (.inl rfl) e⟩
 | frz ob u ih=>obtain⟨e,q⟩:=x;exact⟨k _ _ (.inl rfl) e,ih q⟩
 | tbl ps =>
   have e:h.get? a=some {cls:=.none,data:=.fields ps}:=x;show h'.get? a=some {cls:=.none,data:=.fields ps}
   exact k a _ (.inl rfl) e
 | met f y =>
   have e:h.get? a=some (W.methodObj (.ref f) (.ref y)):=x;show h'.get? a=some (W.methodObj (.ref f) (.ref y))
   exact k a _ (.inl rfl) e
 | ext φ=>obtain⟨p,⟨o,e⟩,st⟩:=x;exact⟨st _ _ p fun o q=>k _ _ (.inl rfl) q,⟨o,k _ _ (.inl rfl) e⟩,st⟩
theorem DO.lt(x:DO P w H h)(e:H a=some o):a<h.objs.size:=(x a o e).lt
theorem DO.fresh(x:DO P w H h)(e:h.objs.size<=a):H a=none:=by
 cases q:H a with
 | none=>rfl
 | some u=>exact absurd (D9 (x.lt q) e) (FB _)
theorem DO.kept(x:DO P w H h)(k:∀b u,h.get? b=some u->h'.get? b=some u):DO P w H h':=fun a o e =>
 (x a o e).stay (fun b u _ q=>k b u q) (fun _ q=>q) fun _ _ q=>q
theorem DO.laid(x:DO P w H h)(k:∀b u,h.get? b=some u->h'.get? b=some u)(hp:h.objs.size<=a)(new:br P w (upd H a o) h' a o):DO P w (upd H a o) h':=fun b u e=>by
 have hn:=x.fresh hp;by_cases hb:b=a
 · subst hb;rw[ak]at e;cases e;exact new
 · rw[upd_ne hb]at e;exact(x b u e).stay (fun c v _ q=>k c v q) (fun c q=>by rw[upd_ne (ax q hn)];exact q) fun c xs q=>by rw[upd_ne (ax q hn)];exact q
end
noncomputable def Rd(H:Hp)(a:Addr)(u:HO):Prop:=H a=some u\/∃o,H a=some (.frz o u)
theorem Rd.ok{H:Hp}{u:HO}(r:Rd H a u)(x:DO P w H h):br P w H h a u:=by
 rcases r with r|⟨o,r⟩
 · exact x a u r
 · obtain⟨_,q⟩:=x a _ r;exact q
noncomputable def DE:Option HO->Prop
 | some (.lst _)=>True
 | some (.dK _)=>True
 | some (.dT _)=>True
 | some (.set _ _)=>True
 | some (.ins _ _ _)=>True
 | some (.ext _)=>True
 | _=>False
section
variable{P:Ei}{w:EK}{H:Hp}{h h':Heap}{x e:Addr}{o':HO}
theorem DO.write(ok:DO P w H h)(mu:DE (H x))(he:e=x\/H e=some (.own x))(k:∀b u,b≠e->h.get? b=some u->h'.get? b=some u)(heo:∃u,h'.get? e=some u)
 (new:br P w (upd H x o') h' x o'):DO P w (upd H x o') h':=fun b u q=>by
 have nown:∀c y,H c=some (.own y)->c≠x:=fun c y r z=>by subst z;rw[r]at mu;exact mu
 have ntup:∀c xs,H c=some (.tup xs)->c≠x:=fun c xs r z=>by subst z;rw[r]at mu;exact mu
 by_cases hb:b=x
 · subst hb;rw[ak]at q;cases q;exact new
 · rw[upd_ne hb]at q;by_cases hbe:b=e
   · have q':H b=some (.own x):=by
       rcases he with z|z
       · exact absurd (hbe.trans z) hb
       · rw[hbe];exact z
     rw[q]at q';cases q';obtain⟨v,hv⟩:=heo;exact⟨v,by rw[hbe];exact hv⟩
   · refine(ok b u q).stay (fun c v hc r=>k c v ?_ r) (fun c r=>by rw[upd_ne (nown c b r)];exact r) fun c xs r=>by rw[upd_ne (ntup c xs r)];exact r
     rcases hc with rfl|hc
     · exact hbe
     · rintro rfl;rcases he with z|z
       · exact nown c b hc z
       · rw[hc]at z;cases z;exact hb rfl
end
structure Un (fs ex:List Addr) (H H':Hp) (h h':Heap):Prop where
 keep:∀b o,h.get? b=some o->H b=none->b∉fs->b∉ex->h'.get? b=some o
 slot:∀b o,h.get? b=some o->H b=none->b∈fs->b∉ex->∃sl,h'.get? b=some {o with slots:=sl}
 free:∀b o,h.get? b=some o->H b=none->b∉ex->H' b=none
 there:∀b o,h.get? b=some o->b∉ex->∃o',h'.get? b=some o'
 tups:∀b xs,H b=some (.tup xs)->H' b=some (.tup xs)
 frzs:∀b o u,H b=some (.frz o u)->H' b=some (.frz o u)
 tbls:∀b ps,H b=some (.tbl ps)->∃more,H' b=some (.tbl (ps++more))
section
variable{fs fs' ex ex':List Addr}{H H1 H2:Hp}{h h1 h2 h':Heap}{a x e:Addr}{o:HO}
theorem Un.any(u:Un fs ex H H1 h h1){b:Addr}{ob:Obj}(q:h.get? b=some ob)(n:H b=none)(hx:b∉ex):∃sl,h1.get? b=some {ob with slots:=sl}:=by
 by_cases hb:b∈fs
 · exact u.slot b ob q n hb hx
 · exact⟨ob.slots,u.keep b ob q n hb hx⟩
theorem Un.kept(k:∀b u,h.get? b=some u->h'.get? b=some u):Un fs ex H H h h' :=
 ⟨fun b ob q _ _ _=>k b ob q,fun b ob q _ _ _=>⟨ob.slots,k b ob q⟩,fun _ _ _ n _=>n,fun b ob q _=>⟨ob,k b ob q⟩,fun _ _ q=>q,fun _ _ _ q=>q,fun _ ps q=>⟨#[],by rw[q];simp⟩⟩
theorem Un.refl:Un fs ex H H h h:=Un.kept fun _ _ q=>q
theorem Un.laid(k:∀b u,h.get? b=some u->h'.get? b=some u)(hp:h.objs.size<=a)(hn:H a=none):Un fs ex H (upd H a o) h h' where
 keep:=fun b u q _ _ _=>k b u q
 slot:=fun b u q _ _ _=>⟨u.slots,k b u q⟩
 free:=fun b u q n _=>by rw[upd_ne (Ey (D9 (D_ q) hp))];exact n
 there:=fun b u q _=>⟨u,k b u q⟩
 tups:=fun b xs q=>by rw[upd_ne (ax q hn)];exact q
 frzs:=fun b u xs q=>by rw[upd_ne (ax q hn)];exact q
 tbls:=fun b ps q=>⟨#[],by rw[upd_ne (ax q hn),q];simp⟩
theorem Un.write(mu:DE (H x))(he:e=x\/H e=some (.own x))(k:∀b u,b≠e->h.get? b=some u->h'.get? b=some u)(heo:∃u,h'.get? e=some u):Un fs ex H (upd H x o) h h':=by
 have hx:∀b,H b=none->b≠x:=fun b n z=>by subst z;rw[n]at mu;exact mu
 have hb:∀b,H b=none->b≠e:=fun b n z=>by
  subst z;rcases he with r|r
  · exact hx b n r
  · rw[n]at r;cases r
 have hm:∀b u,H b=some u->¬DE (some u)->b≠x:=fun b u q nm z=>by subst z;rw[q]at mu;exact nm mu
 refine⟨fun b u q n _ _=>k b u (hb b n) q,fun b u q n _ _=>⟨u.slots,k b u (hb b n) q⟩,fun b u q n _=>by rw[upd_ne (hx b n)];exact n,fun b u q _=>?_,
  fun b xs q=>by rw[upd_ne (hm b _ q fun z=>z)];exact q,fun b u xs q=>by rw[upd_ne (hm b _ q fun z=>z)];exact q,fun b ps q=>⟨#[],by rw[upd_ne (hm b _ q fun z=>z),q];simp⟩⟩
 by_cases hbe:b=e
 · subst hbe;exact heo
 · exact⟨u,k b u hbe q⟩
end
noncomputable def BW(h:Heap)(H:Hp):List Addr:=(ET h.objs.size).filter fun a=>(H a).isSome
noncomputable def pU(h:Heap)(H:Hp):Heap:=W.hideAll h (BW h H)
theorem nU(h:Heap)(H:Hp):(pU h H).objs.size=h.objs.size:=W.hideAll_size _ _
theorem pS{H:Hp}{b:Addr}{o:Obj}(e:h.get? b=some o)(n:H b=none):(pU h H).get? b=some o :=
 W.hideAll_get _ e fun hm=>by
  have q:(H b).isSome=true:=(G4.mp hm).2;rw[n]at q;simp at q
theorem tM{H:Hp}{b:Addr}{o:Obj}(e:(pU h H).get? b=some o):h.get? b=some o/\H b=none:=by
 have e':h.get? b=some o:=W.of_hideAll (BW h H) e;refine⟨e',?_⟩
 cases q:H b with
 | none=>rfl
 | some x =>
   have hm:b∈BW h H:=G4.mpr ⟨F7.mpr (D_ e'),by simp[q]⟩;have z:(pU h H).get? b=none:=W.hideAll_none (BW h H) hm;rw[z]at e;cases e
noncomputable def uA(g h:Heap)(L:Addr):List (Addr×Obj):=(ET h.objs.size).filterMap fun a=>if a=L\/(g.get? a).isSome=true then none else(h.get? a).map fun o=>(a,o)
noncomputable def rest(g h:Heap)(L d:Addr):List (Addr×Obj):=(uA g h L).filter fun p=>decide (p.1≠d)
structure Mod (K:W.Frag) (mg:Str->Option D4) (base:Heap):Prop where
 kin:K.In base
 glob:base.Ns ED mg
 blt:∃mb,base.Ns builtinsNs mb/\∀x:Str,x ≠ "__name__" -> mb x=GU x
 nolimit:base.NoLimit
structure Cx where
 prog:Ei
 w:EK
 K:W.Frag
 mg:Str->Option D4
 base:Heap
 A:EH
 N:List Str
 s₀:D6
 H₀:Hp
 env:Env
 outer:List Env
 stack:List Env
 ex:List Addr
 fn:Str->Bool
 calm:Bool
 pn:List (Addr×Obj)
 xe:D4->D6->Prop
noncomputable def frs(l:List Env):List Addr:=l.filterMap (·.frame)
abbrev Cx.fs(X:Cx):List Addr:=frs X.outer
noncomputable def Dd(sc:Scope)(x:Str):Prop:=sc.names.lookup x=some .local\/sc.names.lookup x=some .cell\/sc.names.lookup x=some .free
noncomputable def Loc(sc:Scope)(x:Str):Prop:=sc.names.lookup x=some .local\/sc.names.lookup x=some .cell
noncomputable def Look(env:Env)(h:Heap)(m:Str->Option D4)(x:Str)(u:D4):Prop :=
 (env.kindOf x=some .local/\m x=some u)\/((env.kindOf x=some .cell\/env.kindOf x=some .free)/\∃c,env.cells.lookup x=some c/\h.IsCell c (some u))
structure Cx.Ok (X:Cx):Prop where
 mod:Mod X.K X.mg X.base
 kind:X.env.scope.kind = .function
 glob:X.env.globals=ED
 blt:X.env.builtins=builtinsNs
 above:X.s₀.heap.objs.size<=X.env.locals
 inj:∀x y c,X.env.cells.lookup x=some c->X.env.cells.lookup y=some c->x=y
 has:∀x,(X.env.kindOf x=some .cell\/X.env.kindOf x=some .free)->∃c,X.env.cells.lookup x=some c
 cab:∀x c,X.fn x=true->X.env.cells.lookup x=some c->X.s₀.heap.objs.size<=c
 hd:X.calm=true->X.A.handled=none
 frames:X.A.frames=some X.stack
 stk:X.stack=X.outer\/(X.stack=X.env::X.outer/\X.env.frame=some X.env.locals)
 exf:∀b∈X.ex,b≠X.env.locals/\∀x c,X.env.cells.lookup x=some c->c≠b
 bs:∀b o,X.base.get? b=some o->X.s₀.heap.get? b=some o/\X.H₀ b=none
 bsz:X.base.objs.size<=X.s₀.heap.objs.size
 noex:∀b o,X.base.get? b=some o->b∉X.ex
 exfs:∀b∈X.ex,b∉X.fs
 funs:X.s₀.heap.FunFrames X.base X.outer
 frf:∀b∈X.fs,X.H₀ b=none
structure Inv (X:Cx) (pins:List (Addr×Obj)) (σ:List (Option V)) (H:Hp) (s:D6):Prop where
 ok:X.Ok
 os:s.os=X.s₀.os
 bare:Jy s.gens
 base:Un X.fs X.ex X.H₀ H X.s₀.heap s.heap
 loc:∃m,s.heap.Ns X.env.locals m/\∀(i:Nat)(x:Str)(v:V),X.N[i]?=some x->σ[i]?=some (some v)->Dd X.env.scope x->∃u,RelV v u/\Look X.env s.heap m x u
 cell:∀x c,X.env.cells.lookup x=some c->∃v,s.heap.IsCell c v
 free:H X.env.locals=none
 freeC:∀x c,X.env.cells.lookup x=some c->H c=none
 pin:∀p∈X.pn++pins,s.heap.get? p.1=some p.2/\H p.1=none/\p.1≠X.env.locals/\p.1∉X.fs/\∀v,p.2.data ≠ .cell v
 hok:DO X.prog X.w H s.heap
 len:σ.length=X.N.length
section
variable{X:Cx}{pins:List (Addr×Obj)}{σ:List (Option V)}{H H':Hp}{s:D6}{h':Heap}
theorem Cx.Ok.nofr(ok:X.Ok){b:Addr}{o:Obj}(e:X.base.get? b=some o):b∉X.fs:=fun hb=>by
 have:=(ok.funs.mem hb).1;rw[e]at this;cases this
theorem Inv.bs(I:Inv X pins σ H s):∀b o,X.base.get? b=some o->s.heap.get? b=some o/\H b=none:=fun b o e =>
 ⟨I.base.keep b o (I.ok.bs b o e).1 (I.ok.bs b o e).2 (I.ok.nofr e) (I.ok.noex b o e),I.base.free b o (I.ok.bs b o e).1 (I.ok.bs b o e).2 (I.ok.noex b o e)⟩
theorem Inv.bk(I:Inv X pins σ H s):∀b o,X.base.get? b=some o->s.heap.get? b=some o:=fun b o e=>(I.bs b o e).1
theorem Inv.mod(I:Inv X pins σ H s):Mod X.K X.mg X.base:=I.ok.mod
theorem Inv.kIn(I:Inv X pins σ H s):X.K.In s.heap:=I.ok.mod.kin.keeps I.bk
theorem Inv.fr(I:Inv X pins σ H s):∃m,Fr X.base X.env.locals s.heap m :=
 let ⟨m,hn,_⟩:=I.loc
 ⟨m,hn,I.bk,FG I.ok.bsz I.ok.above⟩
theorem Inv.lt(I:Inv X pins σ H s):X.env.locals<s.heap.objs.size:=let ⟨_,hn,_⟩:=I.loc;hn.lt
theorem Inv.sz(I:Inv X pins σ H s):X.s₀.heap.objs.size<=s.heap.objs.size:=FG I.ok.above (Lr I.lt)
theorem Inv.nofs(I:Inv X pins σ H s)(h:s.heap.objs.size<=a):a∉X.fs:=fun hb=>by
 obtain⟨_,o,ho,_⟩:=I.ok.funs.mem hb;exact absurd (D9 (D_ ho) (FG I.sz h)) (FB _)
theorem Inv.cne(I:Inv X pins σ H s):∀x c,X.env.cells.lookup x=some c->c≠X.env.locals:=fun x c e z=>by
 obtain⟨v,o,ho,hd⟩:=I.cell x c e;obtain⟨m,⟨o',es,ep,ho',hd',_⟩,_⟩:=I.loc;rw[z,ho']at ho;cases ho;rw[hd']at hd;cases hd
theorem Inv.funs(I:Inv X pins σ H s):s.heap.FunFrames X.base X.outer:=by
 have all:∀(l:List Env),(∀b∈frs l,b∈X.fs)->X.s₀.heap.FunFrames X.base l->s.heap.FunFrames X.base l:=by
  intro l
  induction l with
  | nil=>intro _ _;trivial
  | cons env r ih =>
    intro hs hl;obtain⟨hk,⟨L,o,hf,hn,ho,hd⟩,hr⟩:=hl;have hL:L∈X.fs:=hs L (by unfold frs;rw[Gw,hf];exact Ee);obtain⟨sl,e⟩:=I.base.slot L o ho (I.ok.frf L hL) hL fun z=>I.ok.exfs L z hL;exact⟨hk,⟨L,_,hf,hn,e,hd⟩,ih (fun b hb=>hs b (by unfold frs;rw[Gw,hf];exact D7 _ hb)) hr⟩
 exact all X.outer (fun _ hb=>hb) I.ok.funs
theorem Inv.stack(I:Inv X pins σ H s):s.heap.FunFrames X.base X.stack:=by
 rcases I.ok.stk with e|⟨e,hf⟩
 · rw[e];exact I.funs
 · rw[e];obtain⟨m,hn,_⟩:=I.loc;refine .cons (by rw[I.ok.kind];decide) hf hn ?_ I.funs;exact Kv (FG I.ok.bsz I.ok.above)
theorem Inv.stkSub(I:Inv X pins σ H s):∀b∈frs X.stack,b∈X.env.locals::X.fs:=fun b hb=>by
 rcases I.ok.stk with e|⟨e,hf⟩
 · rw[e]at hb;exact D7 _ hb
 · rw[e]at hb;unfold frs at hb;rw[Gw,hf]at hb;exact hb
theorem Inv.stkFree(I:Inv X pins σ H s):∀b∈frs X.stack,H b=none:=fun b hb=>by
 rcases Ev.mp (I.stkSub b hb)with e|hb
 · rw[e];exact I.free
 · obtain⟨_,o,ho,_⟩:=I.ok.funs.mem hb;exact I.base.free b o ho (I.ok.frf b hb) fun z=>I.ok.exfs b z hb
theorem Inv.step{g':Array GenState}{t':Nat}{d':Drawn}{ch:List Addr}(I:Inv X pins σ H s)
 (hch:∀b∈ch,(b∈X.ex\/X.s₀.heap.objs.size<=b)/\b≠X.env.locals/\(∀x c,X.env.cells.lookup x=some c->c≠b)/\∀p∈X.pn++pins,p.1≠b)
 (keep:∀b o,b≠X.env.locals->b∉X.fs->b∉ch->s.heap.get? b=some o->H b=none->h'.get? b=some o)
 (slot:∀b o,b≠X.env.locals->b∈X.fs->b∉ch->s.heap.get? b=some o->H b=none->∃sl,h'.get? b=some {o with slots:=sl})(free:∀b o,b∉ch->s.heap.get? b=some o->H b=none->H' b=none)
 (there:∀b o,b∉ch->s.heap.get? b=some o->∃o',h'.get? b=some o')
 (tups:∀b xs,H b=some (.tup xs)->H' b=some (.tup xs))(frzs:∀b o u,H b=some (.frz o u)->H' b=some (.frz o u))(tbls:∀b ps,H b=some (.tbl ps)->∃more,H' b=some (.tbl (ps++more)))
 (ns:∀m,s.heap.Ns X.env.locals m->h'.Ns X.env.locals m)(hok:DO X.prog X.w H' h')(hg:Jy g') :
 Inv X pins σ H' {s with heap:=h',gens:=g',drawn:=d',toks:=t' }:=by
 have neL:∀b o,X.s₀.heap.get? b=some o->b≠X.env.locals:=fun b o e=>Ey (D9 (D_ e) I.ok.above)
 have neC:∀b o,X.s₀.heap.get? b=some o->b∉X.ex->b∉ch:=fun b o e hx hb=>by
  rcases(hch b hb).1 with z|z
  · exact hx z
  · exact absurd (D9 (D_ e) z) (FB _)
 have cellK:∀x c,X.env.cells.lookup x=some c->∀v,s.heap.IsCell c v->h'.IsCell c v:=fun x c e v ⟨o,ho,hd⟩=>by
  have nch:c∉ch:=fun z=>(hch c z).2.2.1 x c e rfl;by_cases hc:c∈X.fs
  · obtain⟨sl,q⟩:=slot c o (I.cne x c e) hc nch ho (I.freeC x c e);exact⟨_,q,hd⟩
  · exact⟨o,keep c o (I.cne x c e) hc nch ho (I.freeC x c e),hd⟩
 refine⟨I.ok,I.os,hg,⟨fun b o e n hb hx=>?_,fun b o e n hb hx=>?_,fun b o e n hx=>?_,fun b o e hx=>?_,fun b xs e=>tups b xs (I.base.tups b xs e),fun b o xs e=>frzs b o xs (I.base.frzs b o xs e),fun b ps e=>?_⟩,?_,fun x c e=>?_,?_,fun x c e=>?_,fun p hp=>?_,hok,I.len⟩
 · exact keep b o (neL b o e) hb (neC b o e hx) (I.base.keep b o e n hb hx) (I.base.free b o e n hx)
 · obtain⟨sl,e1⟩:=I.base.slot b o e n hb hx;obtain⟨sl',e2⟩:=slot b _ (neL b o e) hb (neC b o e hx) e1 (I.base.free b o e n hx);exact⟨sl',e2⟩
 · obtain⟨o',e1⟩:=I.base.there b o e hx;exact free b o' (neC b o e hx) e1 (I.base.free b o e n hx)
 · obtain⟨o',e1⟩:=I.base.there b o e hx;exact there b o' (neC b o e hx) e1
 · obtain⟨m1,e1⟩:=I.base.tbls b ps e;obtain⟨m2,e2⟩:=tbls b _ e1;exact⟨m1++m2,by rw[e2,Array.append_assoc]⟩
 · obtain⟨m,hn,hl⟩:=I.loc;refine⟨m,ns m hn,fun i x v e1 e2 e3=>?_⟩;obtain⟨u,r,l⟩:=hl i x v e1 e2 e3;refine⟨u,r,?_⟩;rcases l with l|⟨k,c,e,z⟩
   · exact .inl l
   · exact .inr ⟨k,c,e,cellK x c e _ z⟩
 · obtain⟨v,z⟩:=I.cell x c e;exact⟨v,cellK x c e v z⟩
 · obtain⟨m,⟨o,_,_,ho,_⟩,_⟩:=I.loc;exact free _ o (fun z=>(hch _ z).2.1 rfl) ho I.free
 · obtain⟨v,o,ho,hd⟩:=I.cell x c e;exact free c o (fun z=>(hch c z).2.2.1 x c e rfl) ho (I.freeC x c e)
 · obtain⟨e,n,ne,nf,d⟩:=I.pin p hp;have nch:p.1∉ch:=fun z=>(hch p.1 z).2.2.2 p hp rfl;exact⟨keep p.1 p.2 ne nf nch e n,free p.1 p.2 nch e n,ne,nf,d⟩
theorem Inv.un{t':Nat}(I:Inv X pins σ H s)(u:Un X.fs [] H H' s.heap h')(hok:DO X.prog X.w H' h'):Inv X pins σ H' {s with heap:=h',toks:=t' }:=by
 obtain⟨m,⟨o,es,ep,ho,r⟩,_⟩:=id I.loc;obtain⟨sl,hL⟩:=u.any ho I.free (by simp)
 exact I.step (g':=s.gens) (d':=s.drawn) (ch:=[]) (fun _ z=>nomatch z) (fun b o _ hb _ e n=>u.keep b o e n hb (by simp)) (fun b o _ hb _ e n=>u.slot b o e n hb (by simp)) (fun b o _ e n=>u.free b o e n (by simp)) (fun b o _ e=>u.there b o e (by simp)) u.tups u.frzs u.tbls (fun m' hm=>by
  obtain⟨o',es',ep',ho',r'⟩:=hm;rw[ho]at ho';cases ho'
  exact⟨_,es',ep',hL,r'⟩) hok I.bare
theorem Inv.call{g':Array GenState}{t':Nat}{d':Drawn}{ch:List Addr}(I:Inv X pins σ H s)(u:Un (frs X.stack) ch H H' s.heap h')(hok:DO X.prog X.w H' h')(hg:Jy g')
 (hch:∀b∈ch,(b∈X.ex\/X.s₀.heap.objs.size<=b)/\b≠X.env.locals/\(∀x c,X.env.cells.lookup x=some c->c≠b)/\∀p∈X.pn++pins,p.1≠b) :
 Inv X pins σ H' {s with heap:=h',gens:=g',drawn:=d',toks:=t' }:=by
 obtain⟨m,⟨o,es,ep,ho,r⟩,_⟩:=id I.loc;obtain⟨sl,hL⟩:=u.any ho I.free fun z=>(hch _ z).2.1 rfl
 exact I.step (ch:=ch) hch (fun b o hL hb hc e n=>u.keep b o e n (fun z=>(Ev.mp (I.stkSub b z)).elim hL hb) hc) (fun b o _ _ hc e n=>u.any e n hc) (fun b o hc e n=>u.free b o e n hc) (fun b o hc e=>u.there b o e hc) u.tups u.frzs u.tbls (fun m' hm=>by
  obtain⟨o',es',ep',ho',r'⟩:=hm;rw[ho]at ho';cases ho'
  exact⟨_,es',ep',hL,r'⟩) hok hg
theorem Inv.turned{t':Nat}(I:Inv X pins σ H s)(k:∀b o,b≠it->s.heap.get? b=some o->h'.get? b=some o)(hn:H it=none)(hL:it≠X.env.locals)
 (h1:it∈X.ex\/X.s₀.heap.objs.size<=it)(h2:∀x c,X.env.cells.lookup x=some c->c≠it)(h3:∀p∈X.pn++pins,p.1≠it):Inv X pins σ H {s with heap:=h',toks:=t' }:=by
 have nit:∀b u,H b=some u->b≠it:=fun b u e z=>by rw[z,hn]at e;cases e
 refine I.step (g':=s.gens) (d':=s.drawn) (ch:=[it]) (fun b hb=>?_) (fun b o _ _ hc e _=>k b o (fun z=>hc (by simp[z])) e) (fun b o _ _ hc e _=>⟨o.slots,k b o (fun z=>hc (by simp[z])) e⟩) (fun _ _ _ _ n=>n)
  (fun b o hc e=>⟨o,k b o (fun z=>hc (by simp[z])) e⟩) (fun _ _ e=>e) (fun _ _ _ e=>e) (fun b ps e=>⟨#[],by rw[e];simp⟩) (fun m hm=>?_) (fun b u e=>?_) I.bare
 · have e:b=it:=by simpa using hb
   subst e;exact⟨h1,hL,h2,h3⟩
 · obtain⟨o,es,ep,ho,r⟩:=hm;exact⟨o,es,ep,k _ o (GM hL) ho,r⟩
 · refine(I.hok b u e).stay (fun c v hc q=>k c v ?_ q) (fun _ q=>q) fun _ _ q=>q;rcases hc with z|z
   · rw[z];exact nit b u e
   · exact nit c _ z
theorem Inv.tok(I:Inv X pins σ H s)(t:Nat):Inv X pins σ H {s with toks:=t}:=I.un (h':=s.heap) (t':=t) Un.refl I.hok
theorem Inv.kept{t':Nat}(I:Inv X pins σ H s)(k:∀b u,s.heap.get? b=some u->h'.get? b=some u):Inv X pins σ H {s with heap:=h',toks:=t' }:=I.un (Un.kept k) (I.hok.kept k)
theorem Inv.laid{a:Addr}{o:HO}{t':Nat}(I:Inv X pins σ H s)(k:∀b u,s.heap.get? b=some u->h'.get? b=some u)(hp:s.heap.objs.size<=a)(new:br X.prog X.w (upd H a o) h' a o) :
 Inv X pins σ (upd H a o) {s with heap:=h',toks:=t' }:=I.un (Un.laid k hp (I.hok.fresh hp)) (I.hok.laid k hp new)
theorem Inv.write{x e:Addr}{o:HO}{t':Nat}(I:Inv X pins σ H s)(mu:DE (H x))(he:e=x\/H e=some (.own x))(k:∀b u,b≠e->s.heap.get? b=some u->h'.get? b=some u)(heo:∃u,h'.get? e=some u)
 (new:br X.prog X.w (upd H x o) h' x o):Inv X pins σ (upd H x o) {s with heap:=h',toks:=t' }:=I.un (Un.write mu he k heo) (I.hok.write mu he k heo new)
theorem Inv.weak{σ':List (Option V)}(I:Inv X pins σ H s)(hl:σ'.length=σ.length)(w:∀(i:Nat) v,σ'[i]?=some (some v)->σ[i]?=some (some v)):Inv X pins σ' H s :=
 ⟨I.ok,I.os,I.bare,I.base,let ⟨m,hn,hl'⟩:=I.loc;⟨m,hn,fun i x v e1 e2 e3=>hl' i x v e1 (w i v e2) e3⟩,I.cell,I.free,I.freeC,I.pin,I.hok,hl.trans I.len⟩
theorem Inv.pins_of{pins':List (Addr×Obj)}(I:Inv X pins σ H s)(h:∀p∈pins',s.heap.get? p.1=some p.2/\H p.1=none/\p.1≠X.env.locals/\p.1∉X.fs/\∀v,p.2.data ≠ .cell v):Inv X pins' σ H s :=
 ⟨I.ok,I.os,I.bare,I.base,I.loc,I.cell,I.free,I.freeC,fun p hp=>(G5.mp hp).elim (fun z=>I.pin p (Iu _ z)) (h p),I.hok,I.len⟩
theorem jQ{N:List Str}(hN:N.Nodup)(a:N[i]?=some x)(b:N[j]?=some x):i=j:=by
 obtain⟨h1,e1⟩:=Ek.mp a;obtain⟨h2,e2⟩:=Ek.mp b;exact(List.getElem_inj hN).mp (e1.trans e2.symm)
theorem eF{M:LS}{v:V}{u:D4}{Q:Unit->D6->Prop}(I:Inv X pins σ H s)(hN:X.N.Nodup)(hi:X.N[i]?=some x)(hx:Loc X.env.scope x)(r:RelV v u)
 (h:∀s',Inv X pins (σ.set i (some v)) H s'->(∃a,GV a s.heap s'.heap/\(a=X.env.locals\/X.env.cells.lookup x=some a))->Q () s')(hf:autoParam (X.fn x=true\/X.env.scope.names.lookup x=some .local) æg._auto_1):Es M A (storeName X.env x u) Q E s:=by
 obtain⟨m,hn,hl⟩:=id I.loc;have hcls:(X.env.scope.kind == .class||(X.env.scope.kind == .module&&X.env.locals != X.env.globals))=false:=by rw[I.ok.kind];rfl
 have hiσ:i<σ.length:=by rw[I.len];exact(Ek.mp hi).1
 have cne:=I.cne
 have tracked:∀{a:Addr}{h':Heap},(∃o,s.heap.get? a=some o/\H a=none)->GV a s.heap h'->DO X.prog X.w H h':=fun{a h'} ha hs b ob e=>by
  obtain⟨_,_,hfree⟩:=ha;refine(I.hok b ob e).stay (fun c w' hc q=>(hs.2 c ?_).trans q) (fun _ q=>q) fun _ _ q=>q;rintro rfl;rcases hc with rfl|hc
  · rw[hfree]at e;cases e
  · rw[hfree]at hc;cases hc
 rcases hx with hk|hk
 · refine wpAny_storeName_local hk hn (fun h' hn' hs=>?_) hcls;obtain⟨oL,_,_,hoL,_⟩:=id hn;refine h _ ⟨I.ok,I.os,I.bare,⟨fun b o e n hb hx=>?_,fun b o e n hb hx=>?_,I.base.free,fun b o e hx=>?_,I.base.tups,I.base.frzs,I.base.tbls⟩,⟨_,hn',fun j y v' e1 e2 e3=>?_⟩,fun y c e=>?_,I.free,I.freeC,fun p hp=>?_,tracked ⟨oL,hoL,I.free⟩ hs,by simpa using I.len⟩ ⟨_,hs,.inl rfl⟩
   · exact(hs.2 b (Ey (D9 (D_ e) I.ok.above))).trans (I.base.keep b o e n hb hx)
   · obtain⟨sl,e1⟩:=I.base.slot b o e n hb hx;exact⟨sl,(hs.2 b (Ey (D9 (D_ e) I.ok.above))).trans e1⟩
   · obtain⟨o',e1⟩:=I.base.there b o e hx;exact⟨o',(hs.2 b (Ey (D9 (D_ e) I.ok.above))).trans e1⟩
   · by_cases hj:j=i
     · subst hj;rw[hi]at e1;cases e1;rw[Ep hiσ]at e2;cases e2;exact⟨u,r,.inl ⟨hk,by simp⟩⟩
     · rw[El (GM hj)]at e2;obtain⟨u',r',q⟩:=hl j y v' e1 e2 e3;refine⟨u',r',?_⟩;rcases q with⟨k,e⟩|⟨k,c,e,z⟩
       · refine .inl ⟨k,?_⟩;have:y≠x:=fun e=>hj (jQ hN e1 (e▸hi));simp[this,e]
       · exact .inr ⟨k,c,e,z.sameBut hs (cne y c e)⟩
   · obtain⟨w',z⟩:=I.cell y c e;exact⟨w',z.sameBut hs (cne y c e)⟩
   · obtain⟨e,n,ne,nf,d⟩:=I.pin p hp;exact⟨(hs.2 p.1 ne).trans e,n,ne,nf,d⟩
 · have hfn:X.fn x=true:=by
     rcases hf with z|z
     · exact z
     · rw[z]at hk;cases hk
   obtain⟨c,hc⟩:=I.ok.has x (.inl hk);obtain⟨w',z⟩:=I.cell x c hc;refine wpAny_storeName_cell I.ok.kind hk hc z (fun h' hc' hs=>?_);obtain⟨oc,hoc,hocd⟩:=id z;refine h {s with heap:=h' } ⟨I.ok,I.os,I.bare,⟨fun b o e n hb hx=>?_,fun b o e n hb hx=>?_,I.base.free,fun b o e hx=>?_,I.base.tups,I.base.frzs,I.base.tbls⟩,⟨m,hn.sameBut hs (GM (cne x c hc)),fun j y v' e1 e2 e3=>?_⟩,fun y c' e=>?_,I.free,I.freeC,fun p hp=>?_,tracked ⟨oc,hoc,I.freeC x c hc⟩ hs,by simpa using I.len⟩ ⟨c,hs,.inr hc⟩
   · exact(hs.2 b (Ey (D9 (D_ e) (I.ok.cab x c hfn hc)))).trans (I.base.keep b o e n hb hx)
   · obtain⟨sl,e1⟩:=I.base.slot b o e n hb hx;exact⟨sl,(hs.2 b (Ey (D9 (D_ e) (I.ok.cab x c hfn hc)))).trans e1⟩
   · obtain⟨o',e1⟩:=I.base.there b o e hx;exact⟨o',(hs.2 b (Ey (D9 (D_ e) (I.ok.cab x c hfn hc)))).trans e1⟩
   · by_cases hj:j=i
     · subst hj;rw[hi]at e1;cases e1;rw[Ep hiσ]at e2;cases e2;exact⟨u,r,.inr ⟨.inl hk,c,hc,hc'⟩⟩
     · rw[El (GM hj)]at e2;obtain⟨u',r',q⟩:=hl j y v' e1 e2 e3;refine⟨u',r',?_⟩;rcases q with q|⟨k,c',e,z'⟩
       · exact .inl q
       · refine .inr ⟨k,c',e,z'.sameBut hs ?_⟩;rintro rfl;exact hj (jQ hN e1 (I.ok.inj _ _ _ e hc▸hi))
   · by_cases hcc:c'=c
     · subst hcc;exact⟨_,hc'⟩
     · obtain⟨w2,z2⟩:=I.cell y c' e;exact⟨w2,z2.sameBut hs hcc⟩
   · obtain⟨e,n,ne,nf,d⟩:=I.pin p hp;refine⟨(hs.2 p.1 ?_).trans e,n,ne,nf,d⟩;intro q;rw[q,hoc]at e;have q':oc=p.2:=EL e;exact d w' (by rw[<- q'];exact hocd)
theorem de{M:LS}{v:V}{u:D4}{Q:Unit->D6->Prop}(I:Inv X pins σ H s)(hN:X.N.Nodup)(hi:X.N[i]?=some x)(hx:Loc X.env.scope x)(r:RelV v u)
 (h:∀s',Inv X pins (σ.set i (some v)) H s'->Q () s')(hf:autoParam (X.fn x=true\/X.env.scope.names.lookup x=some .local) æg._auto_1):Es M A (storeName X.env x u) Q E s :=
 eF I hN hi hx r (fun s' I' _=>h s' I') hf
theorem Inv.call'{s':D6}{ch:List Addr}(I:Inv X pins σ H s)(ho:s'.os=s.os)(u:Un (frs X.stack) ch H H' s.heap s'.heap)(hok:DO X.prog X.w H' s'.heap)(hg:Jy s'.gens)
 (hch:∀b∈ch,(b∈X.ex\/X.s₀.heap.objs.size<=b)/\b≠X.env.locals/\(∀x c,X.env.cells.lookup x=some c->c≠b)/\∀p∈X.pn++pins,p.1≠b):Inv X pins σ H' s':=by
 obtain⟨h',g',d',t',o'⟩:=s';have e:o'=s.os:=ho;subst e;exact I.call (g':=g') (t':=t') (d':=d') u hok hg hch
end
abbrev XK:=D4->Option Addr->Hp->Prop
abbrev St:=List (Option V)
abbrev VK:=V->Hp->Prop
abbrev TE:=St->Hp->VK->Prop
abbrev TT:=St->Hp->(Bool->Hp->Prop)->Prop
abbrev TA:=St->Hp->(List V->Hp->Prop)->Prop
structure Ends where
 nx:St->Hp->Prop
 rt:VK
 bk:St->Hp->Prop:=fun _ _=>False
 ct:St->Hp->Prop:=fun _ _=>False
abbrev TS:=Ends->St->Hp->Prop
noncomputable def EP(X:Cx)(pins:List (Addr×Obj))(σ:St)(Q:VK)(u:D4)(s':D6):Prop:=∃v H',Inv X pins σ H' s'/\RelV v u/\Q v H'
noncomputable def TP(X:Cx)(pins:List (Addr×Obj))(σ:St)(Q:Bool->Hp->Prop)(b:Bool)(s':D6):Prop:=∃H',Inv X pins σ H' s'/\Q b H'
noncomputable def AP(X:Cx)(pins:List (Addr×Obj))(σ:St)(Q:List V->Hp->Prop)(us:List D4)(s':D6):Prop:=∃vs H',Inv X pins σ H' s'/\bI vs us/\Q vs H'
noncomputable def SP(X:Cx)(pins:List (Addr×Obj))(D:Ends)(f:Flow)(s':D6):Prop :=
 match f with
 | .next=>∃σ' H',Inv X pins σ' H' s'/\D.nx σ' H'
 | .brk=>∃σ' H',Inv X pins σ' H' s'/\D.bk σ' H'
 | .cont=>∃σ' H',Inv X pins σ' H' s'/\D.ct σ' H'
 | .ret u=>∃v σ' H',Inv X pins σ' H' s'/\RelV v u/\D.rt v H'
noncomputable def PE(X:Cx)(e:Expr)(t:TE):Prop :=
 ∀(pins:List (Addr×Obj))(s:D6)(σ:St)(H:Hp)(Q:VK),Inv X pins σ H s->t σ H Q->Es (EJ X.prog X.w) X.A (eval e X.env) (EP X pins σ Q) X.xe s
noncomputable def PT(X:Cx)(e:Expr)(t:TT):Prop :=
 ∀(pins:List (Addr×Obj))(s:D6)(σ:St)(H:Hp)(Q:Bool->Hp->Prop),Inv X pins σ H s->t σ H Q->Es (EJ X.prog X.w) X.A (isTrue e X.env (eval e X.env)) (TP X pins σ Q) X.xe s
noncomputable def PW(X:Cx)(e:Expr)(t:TT):Prop :=
 ∀(whole:Sem D4)(pins:List (Addr×Obj))(s:D6)(σ:St)(H:Hp)(Q:Bool->Hp->Prop),Inv X pins σ H s->t σ H Q->Es (EJ X.prog X.w) X.A (isTrue e X.env whole) (TP X pins σ Q) X.xe s
theorem PW.pt{X:Cx}{t:TT}(h:PW X e t):PT X e t:=h _
noncomputable def PA(X:Cx)(es:List Expr)(t:TA):Prop :=
 ∀(pos:Pos)(pins:List (Addr×Obj))(s:D6)(σ:St)(H:Hp)(Q:List V->Hp->Prop),Inv X pins σ H s->t σ H Q->Es (EJ X.prog X.w) X.A (spliced (FN pos (Ec es X.env))) (AP X pins σ Q) X.xe s
noncomputable def PS(X:Cx)(st:Stmt)(t:TS):Prop :=
 ∀(pins:List (Addr×Obj))(s:D6)(σ:St)(H:Hp)(D:Ends),Inv X pins σ H s->t D σ H->Es (EJ X.prog X.w) X.A (exec st X.env) (SP X pins D) X.xe s
noncomputable def Dt(X:Cx)(st:List Stmt)(t:TS):Prop :=
 ∀(pins:List (Addr×Obj))(s:D6)(σ:St)(H:Hp)(D:Ends),Inv X pins σ H s->t D σ H->Es (EJ X.prog X.w) X.A (execs st X.env) (SP X pins D) X.xe s
theorem BY{t:Sem α}{Q Q':α->D6->Prop}{M:LS}(h:Es M A t Q E s)(hQ:∀a s,Q a s->Q' a s):Es M A t Q' E s:=ER h hQ fun _ _ x=>x
section
variable{X:Cx}
noncomputable def Ar(i:Nat):TE:=fun σ H Q=>∃v,σ[i]?=some (some v)/\Q v H
noncomputable def tC(v:V):TE:=fun _ H Q=>Q v H
theorem cR(hN:X.N[i]?=some x)(hv:Dd X.env.scope x)(hd:autoParam ((x==("__debug__" : Str))=false) æb._auto_1)(hcd:autoParam ((x==("__classdict__" : Str))=false) æb._auto_1):PE X (.Name x pos) (Ar i):=by
 intro pins s σ H Q I h;obtain⟨v,e,h⟩:=h;obtain⟨m,hn,hl⟩:=I.loc;obtain⟨u,r,l⟩:=hl i x v hN e hv;have fin:EP X pins σ Q u s:=⟨v,H,I,r,h⟩;rcases l with⟨hk,hm⟩|⟨hk,c,hc,hcell⟩
 · exact wpAny_Name (Kw I.ok.kind hk hn hm fin) hd
 · rcases hk with hk|hk
   · exact wpAny_Name (KH I.ok.kind hk hc hcell fin) hd
   · exact wpAny_Name (wpAny_loadName_free I.ok.kind hk hc hcell fin hcd) hd
theorem ar{i j pos}:PE X (.Constant (.int i) j pos) (tC (.int i)):=fun _ _ _ H _ I h=>wpAny_Constant_int ⟨.int i,H,I.tok _,⟨_,rfl⟩,h⟩
theorem wm{b j pos}:PE X (.Constant (.bool b) j pos) (tC (.bl b)):=fun _ _ _ H _ I h=>Constant_bool ⟨.bl b,H,I,rfl,h⟩
theorem wg{x j pos}:PE X (.Constant (.str x) j pos) (tC (.str x)):=fun _ _ _ H _ I h=>Calls.Constant_str ⟨.str x,H,I.tok _,⟨_,rfl⟩,h⟩
noncomputable def Gl(X:Cx)(x:Str):Prop:=X.env.kindOf x=some .globalImplicit
theorem gu{σ:St}{H:Hp}{u:D4}(I:Inv X pins σ H s)(hg:Gl X x)(hm:X.mg x=some u)(h:Q u s)
 (hd:autoParam ((x==("__debug__" : Str))=false) æb._auto_1):Es (EJ X.prog X.w) X.A (eval (.Name x pos) X.env) Q E s :=
 IQ I.ok.kind hg (Calls.loadGlobal_global (by rw[I.ok.glob];exact I.mod.glob.keeps I.bk) hm h) hd
theorem ii{σ:St}{H:Hp}{u:D4}(I:Inv X pins σ H s)(hg:Gl X x)(hm:X.mg x=none)(hv:GU x=some u)(h:Q u s)
 (hn:autoParam (x ≠ "__name__") æb._auto_1)(hd:autoParam ((x==("__debug__" : Str))=false) æb._auto_1):Es (EJ X.prog X.w) X.A (eval (.Name x pos) X.env) Q E s:=by
 obtain⟨mb,h1,h2⟩:=I.mod.blt;exact IQ I.ok.kind hg (Calls.loadGlobal_builtin (by rw[I.ok.glob];exact I.mod.glob.keeps I.bk) hm (by rw[I.ok.blt];exact h1.keeps I.bk) ((h2 x hn).trans hv) h) hd
theorem tI{v:V}{u:D4}(hg:Gl X x)(hm:X.mg x=some u)(r:RelV v u)(hd:autoParam ((x==("__debug__" : Str))=false) æb._auto_1):PE X (.Name x pos) (tC v) :=
 fun _ _ _ H _ I h=>gu I hg hm ⟨v,H,I,r,h⟩ hd
theorem tK{v:V}{u:D4}(hg:Gl X x)(hm:X.mg x=none)(hv:GU x=some u)(r:RelV v u)(hn:autoParam (x ≠ "__name__") æb._auto_1)(hd:autoParam ((x==("__debug__" : Str))=false) æb._auto_1):PE X (.Name x pos) (tC v) :=
 fun _ _ _ H _ I h=>ii I hg hm hv ⟨v,H,I,r,h⟩ hn hd
variable{a b:Expr}{ta tb:TE}{pos:Pos}
noncomputable def tB(t:TE):TT:=fun σ H Q=>t σ H fun x H1=>∃c,x = .bl c/\Q c H1
theorem vZ{t:TE}(h:PE X e t)(he:autoParam (∀whole,isTrue e X.env whole=(do let v <- whole;standAt e.pos;Li [v] (truthy v))) æc._auto_1):PT X e (tB t):=by
 intro pins s σ H Q I hw;refine isTrue_plain (BY (h pins s σ H _ I hw) fun v s1 ⟨x,H1,I1,r1,q1⟩=>?_) (he _);obtain⟨d,rfl,q⟩:=q1;cases r1;exact Fj ⟨H1,I1,q⟩
variable{tA tB':TT}{rest:List Expr}
noncomputable def A7(t u:TT):TT:=fun σ H Q=>t σ H fun c H1=>if c=true then u σ H1 Q else Q false H1
noncomputable def B2(t u:TT):TT:=fun σ H Q=>t σ H fun c H1=>if c=true then Q true H1 else u σ H1 Q
noncomputable def A2(t:TT):TT:=fun σ H Q=>t σ H fun c H1=>Q (!c) H1
theorem sU(ha:PT X a tA):PW X (.BoolOp .And [a] pos) tA:=by
 intro wh pins s σ H Q I h;refine isTrue_and (BY (ha pins s σ H Q I h) fun c s1 e=>?_)
 cases c with
 | true=>exact isTrue_and_nil e
 | false=>exact e
theorem vX(ha:PT X a tA):PW X (.BoolOp .Or [a] pos) tA:=by
 intro wh pins s σ H Q I h;refine isTrue_or (BY (ha pins s σ H Q I h) fun c s1 e=>?_)
 cases c with
 | false=>exact isTrue_or_nil e
 | true=>exact e
theorem vY(ha:PT X a tA)(hb:PW X (.BoolOp .And (b::rest) pos) tB'):PW X (.BoolOp .And (a::b::rest) pos) (A7 tA tB'):=by
 intro wh pins s σ H Q I h;refine isTrue_and (BY (ha pins s σ H _ I h) fun c s1 ⟨H1,I1,q1⟩=>?_)
 cases c with
 | true=>exact hb wh pins s1 σ H1 Q I1 q1
 | false=>exact⟨H1,I1,q1⟩
theorem yV(ha:PT X a tA)(hb:PW X (.BoolOp .Or (b::rest) pos) tB'):PW X (.BoolOp .Or (a::b::rest) pos) (B2 tA tB'):=by
 intro wh pins s σ H Q I h;refine isTrue_or (BY (ha pins s σ H _ I h) fun c s1 ⟨H1,I1,q1⟩=>?_)
 cases c with
 | true=>exact⟨H1,I1,q1⟩
 | false=>exact hb wh pins s1 σ H1 Q I1 q1
theorem v4(ha:PT X a tA):PT X (.UnaryOp .Not a pos) (A2 tA):=by
 intro pins s σ H Q I h;exact isTrue_not (ha pins s σ H (fun c H1=>Q (!c) H1) I h)
noncomputable def yN(ta tb:TE):TE:=fun σ H Q=>ta σ H fun x H1=>∃c,x = .bl c/\if c=true then tb σ H1 Q else Q (.bl false) H1
noncomputable def A1(ta tb:TE):TE:=fun σ H Q=>ta σ H fun x H1=>∃c,x = .bl c/\if c=true then Q (.bl true) H1 else tb σ H1 Q
noncomputable def yF(ta:TE):TE:=fun σ H Q=>ta σ H fun x H1=>∃c,x = .bl c/\Q (.bl (!c)) H1
theorem wj{op}{t:TE}(h:PE X a t):PE X (.BoolOp op [a] pos) t:=fun pins s σ H Q I hw=>BoolOp_one (h pins s σ H Q I hw)
theorem wo(ha:PE X a ta)(hb:PE X (.BoolOp .And (b::rest) pos) tb):PE X (.BoolOp .And (a::b::rest) pos) (yN ta tb):=by
 intro pins s σ H Q I h;refine BoolOp_and (BY (ha pins s σ H _ I h) fun v s1 ⟨x,H1,I1,r1,q1⟩=>?_);obtain⟨c,rfl,q1⟩:=q1;cases r1;refine Fj ?_
 cases c with
 | true=>exact hb pins s1 σ H1 Q I1 q1
 | false=>exact⟨.bl false,H1,I1,rfl,q1⟩
theorem yZ(ha:PE X a ta)(hb:PE X (.BoolOp .Or (b::rest) pos) tb):PE X (.BoolOp .Or (a::b::rest) pos) (A1 ta tb):=by
 intro pins s σ H Q I h;refine BoolOp_or (BY (ha pins s σ H _ I h) fun v s1 ⟨x,H1,I1,r1,q1⟩=>?_);obtain⟨c,rfl,q1⟩:=q1;cases r1;refine Fj ?_
 cases c with
 | false=>exact hb pins s1 σ H1 Q I1 q1
 | true=>exact⟨.bl true,H1,I1,rfl,q1⟩
theorem wl(ha:PE X a ta):PE X (.UnaryOp .Not a pos) (yF ta):=by
 intro pins s σ H Q I h;refine UnaryOp_ (BY (ha pins s σ H _ I h) fun v s1 ⟨x,H1,I1,r1,q1⟩=>?_);obtain⟨c,rfl,q1⟩:=q1;cases r1;exact not_of (Fj ⟨.bl (!c),H1,I1,rfl,q1⟩)
noncomputable def B4(t:TT)(ta tb:TE):TE:=fun σ H Q=>t σ H fun c H1=>if c=true then ta σ H1 Q else tb σ H1 Q
theorem pA(hc:PT X c tA)(ha:PE X a ta)(hb:PE X b tb):PE X (.IfExp c a b pos) (B4 tA ta tb):=by
 intro pins s σ H Q I h;refine wpAny_IfExp (BY (hc pins s σ H _ I h) fun d s1 ⟨H1,I1,q1⟩=>?_)
 cases d with
 | true=>exact ha pins s1 σ H1 Q I1 q1
 | false=>exact hb pins s1 σ H1 Q I1 q1
end
noncomputable def Dn(K:W.Frag)(H:Hp)(a:Addr)(xs:List V):Prop :=
 Rd H a (.lst xs) \/
  ∃(o:Obj)(its:Array D4)(n:Nat),K.lookup a=some o/\o.cls = .type "list" /\ o.dict=none/\o.data = .seq its n/\its.size<=sizeLine/\bI xs its.toList
noncomputable def Dm(K:W.Frag)(H:Hp)(a:Addr)(xs:List V):Prop :=
 Rd H a (.tup xs) \/
  ∃(o:Obj)(its:Array D4)(n:Nat),K.lookup a=some o/\o.cls = .type "tuple" /\ o.data = .seq its n/\its.size<=sizeLine/\bI xs its.toList/\o.dict=none
noncomputable def Bj:D4->Option V
 | .none=>some .non
 | .bool b=>some (.bl b)
 | .int i _=>some (.int i)
 | .str x _=>some (.str x)
 | .bytes b _=>some (.byt b)
 | .float b _=>some (.flt b)
 | .ref a=>some (.ref a)
 | .type n=>some (.ty n)
 | _=>none
theorem RelV.abs{x:V}{u:D4}(r:RelV x u):Bj u=some x:=by
 cases x with
 | non=>cases r;rfl
 | bl _=>cases r;rfl
 | int _=>obtain⟨t,rfl⟩:=r;rfl
 | str _=>obtain⟨t,rfl⟩:=r;rfl
 | byt _=>obtain⟨t,rfl⟩:=r;rfl
 | flt _=>obtain⟨t,rfl⟩:=r;rfl
 | ref _=>cases r;rfl
 | ty _=>cases r;rfl
theorem RelV.inj{x y:V}{u:D4}(r:RelV x u)(q:RelV y u):x=y:=EL (r.abs.symm.trans q.abs)
theorem bI.inj:∀{xs ys:List V}{us:List D4},bI xs us->bI ys us->xs=ys
 | _,_,_,.nil,.nil=>rfl
 | _,_,_,.cons r t,.cons r' t'=>by rw[r.inj r',bI.inj t t']
section
variable{X:Cx}{pins:List (Addr×Obj)}{σ:St}{H:Hp}{s:D6}{a:Addr}{xs ys:List V}
theorem Inv.list(I:Inv X pins σ H s)(h:Dn X.K H a xs):∃its:List D4,bI xs its/\PlainL s.heap a its.toArray/\xs.length<=sizeLine:=by
 rcases h with h|⟨o,its,n,hk,hc,hd,hs,hz,r⟩
 · obtain⟨z,its,n,r,e⟩:=h.ok I.hok;exact⟨its,r,⟨_,n,e,rfl,rfl,rfl⟩,z⟩
 · refine⟨its.toList,r,⟨o,n,I.kIn a o hk,hc,hd,by simpa using hs⟩,?_⟩;have e:=r.length;simp only[D8]at e;omega
theorem Inv.tuple(I:Inv X pins σ H s)(h:Dm X.K H a xs):∃its:List D4,bI xs its/\IsTup s.heap a its.toArray/\xs.length<=sizeLine:=by
 rcases h with h|⟨o,its,n,hk,hc,hs,hz,r,hd⟩
 · obtain⟨z,its,r,p⟩:=h.ok I.hok;exact⟨its,r,p.tup,z⟩
 · refine⟨its.toList,r,⟨o,I.kIn a o hk,hc,n,by simpa using hs⟩,?_⟩;have e:=r.length;simp only[D8]at e;omega
theorem Inv.list_inj(I:Inv X pins σ H s)(h:Dn X.K H a xs)(h':Dn X.K H a ys):xs=ys:=by
 obtain⟨its,r,⟨o,n,e,_,_,d⟩,_⟩:=I.list h;obtain⟨its',r',⟨o',n',e',_,_,d'⟩,_⟩:=I.list h';rw[e]at e';cases e';rw[d]at d'
 injection d' with d1 _
 have:its=its':=by simpa using congrArg Array.toList d1
 subst this;exact r.inj r'
theorem Inv.tupleD(I:Inv X pins σ H s)(h:Dm X.K H a xs):∃ob,s.heap.get? a=some ob/\ob.cls = .type "tuple" /\ ob.dict=none:=by
 rcases h with h|⟨o,its,n,hk,hc,hs,hz,r,hd⟩
 · obtain⟨z,its,r,⟨o,e1,e2,_,e3⟩⟩:=h.ok I.hok;exact⟨o,e1,e2,e3⟩
 · exact⟨o,I.kIn a o hk,hc,hd⟩
theorem Inv.tuple_inj(I:Inv X pins σ H s)(h:Dm X.K H a xs)(h':Dm X.K H a ys):xs=ys:=by
 obtain⟨its,r,⟨o,e,_,n,d⟩,_⟩:=I.tuple h;obtain⟨its',r',⟨o',e',_,n',d'⟩,_⟩:=I.tuple h';rw[e]at e';cases e';rw[d]at d'
 injection d' with d1 _
 have:its=its':=by simpa using congrArg Array.toList d1
 subst this;exact r.inj r'
end
abbrev Cx.wish(X:Cx)(E:D4->D6->Prop):Cx:={X with xe:=E}
abbrev Cx.nox(X:Cx):Cx:=X.wish fun _ _=>False
theorem Cx.Ok.wish{X:Cx}(ok:X.Ok)(E:D4->D6->Prop):(X.wish E).Ok :=
 ⟨ok.mod,ok.kind,ok.glob,ok.blt,ok.above,ok.inj,ok.has,ok.cab,ok.hd,ok.frames,ok.stk,ok.exf,ok.bs,ok.bsz,ok.noex,ok.exfs,ok.funs,ok.frf⟩
theorem Cx.Ok.unwish{X:Cx}(ok:(X.wish E).Ok):X.Ok :=
 ⟨ok.mod,ok.kind,ok.glob,ok.blt,ok.above,ok.inj,ok.has,ok.cab,ok.hd,ok.frames,ok.stk,ok.exf,ok.bs,ok.bsz,ok.noex,ok.exfs,ok.funs,ok.frf⟩
section
variable{X:Cx}{pins:List (Addr×Obj)}{σ:St}{H:Hp}{s:D6}{E:D4->D6->Prop}
theorem Inv.wish(I:Inv X pins σ H s)(E:D4->D6->Prop):Inv (X.wish E) pins σ H s:=⟨I.ok.wish E,I.os,I.bare,I.base,I.loc,I.cell,I.free,I.freeC,I.pin,I.hok,I.len⟩
theorem Inv.unwish(I:Inv (X.wish E) pins σ H s):Inv X pins σ H s:=⟨I.ok.unwish,I.os,I.bare,I.base,I.loc,I.cell,I.free,I.freeC,I.pin,I.hok,I.len⟩
theorem SP.unwish{D:Ends}{f:Flow}{s':D6}(h:SP (X.wish E) pins D f s'):SP X pins D f s':=by
 cases f with
 | next=>obtain⟨σ',H',I,q⟩:=h;exact⟨σ',H',I.unwish,q⟩
 | brk=>obtain⟨σ',H',I,q⟩:=h;exact⟨σ',H',I.unwish,q⟩
 | cont=>obtain⟨σ',H',I,q⟩:=h;exact⟨σ',H',I.unwish,q⟩
 | ret u=>obtain⟨v,σ',H',I,r,q⟩:=h;exact⟨v,σ',H',I.unwish,r,q⟩
theorem PT.nox{t:TT}(h:PT X.nox e t):PT X e t:=fun pins s σ H Q I hw =>
 ER (h pins s σ H Q (I.wish _) hw) (fun _ _ ⟨H',I',q⟩=>⟨H',I'.unwish,q⟩) fun _ _ z=>E3 z
theorem Dt.nox{st:List Stmt}{t:TS}(h:Dt X.nox st t):Dt X st t:=fun pins s σ H D I hw =>
 ER (h pins s σ H D (I.wish _) hw) (fun _ _ q=>q.unwish) fun _ _ z=>E3 z
end
section
variable{X:Cx}{st:Stmt}{rest:List Stmt}{t u:TS}{e:Expr}{te:TE}{pos:Pos}
noncomputable def yH:TS:=fun D σ H=>D.nx σ H
noncomputable def As(t u:TS):TS:=fun D σ H=>t {D with nx:=u D} σ H
theorem eJ:Dt X [] yH:=fun _ _ σ H _ I h=>HD ⟨σ,H,I,h⟩
theorem aT(h1:PS X st t)(h2:Dt X rest u):Dt X (st::rest) (As t u):=by
 intro pins s σ H D I h;refine wpAny_execs_cons (BY (h1 pins s σ H {D with nx:=u D} I h) fun f s1 q=>?_)
 cases f with
 | next =>
   obtain⟨σ',H',I',q⟩:=q
   exact h2 pins s1 σ' H' D I' q
 | ret v=>exact q
 | brk=>exact q
 | cont=>exact q
theorem bZ(h1:PS X st t):Dt X [st] t:=by
 intro pins s σ H D I h;refine wpAny_execs_cons (BY (h1 pins s σ H D I h) fun f s1 q=>?_)
 cases f with
 | next=>exact HD q
 | ret v=>exact q
 | brk=>exact q
 | cont=>exact q
theorem Inv.quiet{σ:St}{H:Hp}(I:Inv X pins σ H s):interactive X.env=false:=by simp[interactive,I.ok.kind]
noncomputable def yJ(te:TE):TS:=fun D σ H=>te σ H fun _ H1=>D.nx σ H1
theorem tm(he:PE X e te)(hs:autoParam (Gx e none pos.line X.env=pure false) æa._auto_1):PS X (.Expr e pos) (yJ te):=by
 intro pins s σ H D I h;exact wpAny_Expr_any (BY (he pins s σ H _ I h) fun v s1 ⟨x,H1,I1,r1,q1⟩=>⟨σ,H1,I1,q1⟩) I.quiet hs
noncomputable def AZ(te:TE):TS:=fun D σ H=>te σ H D.rt
theorem jJ(he:PE X e te):PS X (.Return (some e) pos) (AZ te):=by
 intro pins s σ H D I h;exact wpAny_Return_some (BY (he pins s σ H _ I h) fun v s1 ⟨x,H1,I1,r1,q1⟩=>⟨x,σ,H1,I1,r1,q1⟩)
noncomputable def A4(c:TT)(t u:TS):TS:=fun D σ H=>c σ H fun b H1=>if b=true then t D σ H1 else u D σ H1
theorem mJ{a b:List Stmt}{tc:TT}(hc:PT X c tc)(ha:Dt X a t)(hb:Dt X b u):PS X (.If c a b pos) (A4 tc t u):=by
 intro pins s σ H D I h;refine wpAny_If (BY (hc pins s σ H _ I h) fun d s1 ⟨H1,I1,q1⟩=>?_)
 cases d with
 | true=>exact ha pins s1 σ H1 D I1 q1
 | false=>exact hb pins s1 σ H1 D I1 q1
noncomputable def vG:TS:=fun _ _ _=>False
theorem ph:PS X st vG:=fun _ _ _ _ _ _ h=>h.elim
end
abbrev TG:=V->St->Hp->(St->Hp->Prop)->Prop
abbrev Dl:=List V->St->Hp->(St->Hp->Prop)->Prop
noncomputable def PG(X:Cx)(target:Expr)(t:TG):Prop :=
 ∀ (pins:List (Addr×Obj))(s:D6)(σ:St)(H:Hp)(v:V)(u:D4)(Q:St->Hp->Prop),Inv X pins σ H s->RelV v u->t v σ H Q ->
   Es (EJ X.prog X.w) X.A (HE target X.env u) (fun _ s'=>∃σ' H',Inv X pins σ' H' s'/\Q σ' H') X.xe s
noncomputable def Dz(X:Cx)(ts:List Expr)(t:Dl):Prop :=
 ∀ (pins:List (Addr×Obj))(s:D6)(σ:St)(H:Hp)(vs:List V)(us:List D4)(Q:St->Hp->Prop),Inv X pins σ H s->bI vs us->t vs σ H Q ->
   Es (EJ X.prog X.w) X.A (K7 ((GD ts X.env).map (·.2)) us) (fun _ s'=>∃σ' H',Inv X pins σ' H' s'/\Q σ' H') X.xe s
abbrev zu:=V->V->V->Hp->(Hp->Prop)->Prop
noncomputable def AK(X:Cx)(t:zu):Prop :=
 ∀ (pins:List (Addr×Obj))(s:D6)(σ:St)(H:Hp)(o i v:V)(ov iv u:D4)(Q:Hp->Prop),Inv X pins σ H s->RelV o ov->RelV i iv->RelV v u->t o i v H Q ->
   Es (EJ X.prog X.w) X.A (setItem ov iv u) (fun _ s'=>∃H',Inv X pins σ H' s'/\Q H') X.xe s
abbrev Dj:=V->V->Hp->VK->Prop
noncomputable def Dw(X:Cx)(op:LA)(t:Dj):Prop :=
 ∀ (pins:List (Addr×Obj))(s:D6)(σ:St)(H:Hp)(x y:V)(v u:D4)(Q:VK),Inv X pins σ H s->RelV x v->RelV y u->t x y H Q ->
   Es (EJ X.prog X.w) X.A (inplaceOp op v u) (EP X pins σ Q) X.xe s
section
variable{X:Cx}{pos:Pos}
noncomputable def kZ(i:Nat):TG:=fun v σ H Q=>Q (σ.set i (some v)) H
theorem i4(hN:X.N.Nodup)(hi:X.N[i]?=some x)(hx:Loc X.env.scope x)(hf:autoParam (X.fn x=true\/X.env.scope.names.lookup x=some .local) æg._auto_1):PG X (.Name x pos) (kZ i):=by
 intro pins s σ H v u Q I r h;exact Jo (de I hN hi hx r (fun s' I'=>⟨_,H,I',h⟩) hf)
noncomputable def Bh:Dl:=fun vs σ H Q=>vs=[]/\Q σ H
noncomputable def zj(t:TG)(u:Dl):Dl:=fun vs σ H Q=>∃v r,vs=v::r/\t v σ H fun σ' H'=>u r σ' H' Q
theorem tE:Dz X [] Bh:=by
 intro pins s σ H vs us Q I r h;obtain⟨e,h⟩:=h;subst e;cases r;exact assignInOrder_nil ⟨σ,H,I,h⟩
theorem po{es:List Expr}{t:TG}{u:Dl}(h1:PG X e t)(h2:Dz X es u)
 (hs:autoParam ((GD (e::es) X.env).map (·.2)=HE e X.env::(GD es X.env).map (·.2)) æa._auto_1):Dz X (e::es) (zj t u):=by
 intro pins s σ H vs us Q I r h;obtain⟨v,vr,e1,h⟩:=h;subst e1
 cases r with
 | cons r rr =>
   rw[hs];refine IV (BY (h1 pins s σ H _ _ _ I r h) fun _ s1 ⟨σ1,H1,I1,q1⟩=>?_);exact h2 pins s1 σ1 H1 _ _ Q I1 rr q1
noncomputable def Bf(K:W.Frag)(n:Nat)(t:Dl):TG:=fun v σ H Q=>∃a xs,v = .ref a/\Dm K H a xs/\xs.length=n/\t xs σ H Q
theorem wd{es:List Expr}{k:Nat}{t:Dl}(hc:X.calm=true)(h:Dz X es t)
 (hn:autoParam ((GD es X.env).length=n) æa._auto_1)(hst:autoParam ((GD es X.env).findIdx? (·.1)=none) æa._auto_1):PG X (.Tuple es k pos) (Bf X.K n t):=by
 intro pins s σ H v u Q I r hw;obtain⟨a,xs,e1,hq,hl,hw⟩:=hw;subst e1;cases r;obtain⟨its,rv,ht,hz⟩:=I.tuple hq;refine assign_Tuple_tuple (I.ok.hd hc) ht (by simp[hn,<- hl,rv.length]) hst fun h' hx=>?_;have I1:Inv X pins σ H {s with heap:=h' }:=I.kept (t':=s.toks) fun b o e=>hx b o (Ey (D_ e)) e;exact h pins _ σ H xs _ Q I1 (by simpa using rv) hw
noncomputable def Bg(to ti:TE)(t:zu):TG:=fun v σ H Q=>to σ H fun o H1=>ti σ H1 fun i H2=>t o i v H2 fun H3=>Q σ H3
theorem jL{o i:Expr}{to ti:TE}{t:zu}(ho:PE X o to)(hi:PE X i ti)(hs:AK X t)
 (ha:autoParam (∀v,HE (.Subscript o i pos) X.env v=(do
  let ov <- Li [v] (eval o X.env)
  let iv <- Li [v,ov] (eval i X.env)
  standAt pos
  Li [v,ov,iv] (setItem ov iv v)
  release [v,ov,iv] [])) æc._auto_1):PG X (.Subscript o i pos) (Bg to ti t):=by
 intro pins s σ H v u Q I r h;rw[ha];refine D1 (Fg (BY (ho pins s σ H _ I h) fun ov s1 ⟨x,H1,I1,r1,q1⟩=>?_));refine D1 (Fg (BY (hi pins s1 σ H1 _ I1 q1) fun iv s2 ⟨y,H2,I2,r2,q2⟩=>?_));refine D1 (Gm (D1 (Fg (BY (hs pins s2 σ H2 x y v ov iv u _ I2 r1 r2 r q2) fun _ s3 ⟨H3,I3,q3⟩=>?_))));exact wpAny_release ⟨σ,H3,I3,q3⟩
noncomputable def xO(te:TE)(g:TG):TS:=fun D σ H=>te σ H fun x H1=>g x σ H1 D.nx
theorem hX{te:TE}{g:TG}(he:PE X e te)(hg:PG X tg g)(hs:autoParam (Jz [tg] e pos.line X.env=pure false) æa._auto_1)(hw:autoParam (HF [tg] e X.env=pure none) æa._auto_1)
 (h1:autoParam ((GD [tg] X.env).map (·.2)=[HE tg X.env]) æa._auto_1):PS X (.Assign [tg] e pos) (xO te g):=by
 intro pins s σ H D I h;refine wpAny_Assign_stores (BY (he pins s σ H _ I h) fun v s1 ⟨x,H1,I1,r1,q1⟩=>?_) hs hw;rw[h1];exact BY (hg pins s1 σ H1 x v _ I1 r1 q1) fun _ s2 q=>q
theorem cz{te:TE}(hN:X.N.Nodup)(hi:X.N[i]?=some x)(hx:Loc X.env.scope x)(he:PE X e te)(hs:autoParam (Gx e (some (.Name x pos')) pos.line X.env=pure false) æa._auto_1)(hf:autoParam (X.fn x=true\/X.env.scope.names.lookup x=some .local) æg._auto_1) :
 PS X (.Assign [.Name x pos'] e pos) (xO te (kZ i)):=by
 intro pins s σ H D I h;refine wpAny_Assign_Name (BY (he pins s σ H _ I h) fun v s1 ⟨y,H1,I1,r1,q1⟩=>?_) hs;exact de I1 hN hi hx r1 (fun s2 I2=>⟨_,H1,I2,q1⟩) hf
noncomputable def A0(i j:Nat)(ta:TA):TS:=fun D σ H=>ta σ H fun vs H1=>∃v w,vs=[v,w]/\D.nx ((σ.set i (some v)).set j (some w)) H1
theorem v7{y:Str}{a b:Expr}{ta:TA}{py pt:Pos}{kt k2 pt2}(hc:X.calm=true)(hN:X.N.Nodup)(hi:X.N[i]?=some x)(hj:X.N[j]?=some y)(hij:i≠j)
 (hx:X.env.scope.names.lookup x=some .local)(hy:X.env.scope.names.lookup y=some .local)(ha:PA X [a,b] ta)
 (hw:HF [.Tuple [.Name x px,.Name y py] kt pt] (.Tuple [a,b] k2 pt2) X.env=pure (some [x,y]))
 (hs:autoParam (Jz [.Tuple [.Name x px,.Name y py] kt pt] (.Tuple [a,b] k2 pt2) pos.line X.env=pure false) æa._auto_1) :
 PS X (.Assign [.Tuple [.Name x px,.Name y py] kt pt] (.Tuple [a,b] k2 pt2) pos) (A0 i j ta):=by
 intro pins s σ H D I h;rw[exec_Assign_arm];refine D1 (Gm ?_);rw[hs];refine D1 (D5 ?_);rw[if_neg (by decide)];refine D1 (Tuple_ (BY (ha _ pins s σ H _ I h) fun us s1 ⟨vs,H1,I1,r1,q1⟩=>?_));obtain⟨v,w,e1,q1⟩:=q1;subst e1
 obtain⟨u1,u2,rfl,rv,rw'⟩:∃u1 u2,us=[u1,u2]/\RelV v u1/\RelV w u2:=by
  cases r1 with
  | cons p q =>
    cases q with
    | cons p' q' =>
      cases q';exact⟨_,_,rfl,p,p'⟩
 refine EN ?_ (by show 2<=sizeLine;decide);have I2:Inv X pins σ H1 {s1 with heap:=s1.heap.push {cls:=.type "tuple", data:=.seq [u1,u2].toArray}}:=I1.kept (t':=s1.toks) fun b o e=>D3 _ e;rw[hw];refine D1 (D5 ?_);show Es (EJ X.prog X.w) X.A (do rule "assign.swapped-stores"; let items <- unpackItems (.ref s1.heap.objs.size) 2 none;K7 [fun v=>bindName X.env y v,fun v=>bindName X.env x v] items.reverse;pure Flow.next) _ _ _;refine D1 (wpAny_rule (D1 (unpackItems_tuple (items:=#[u1,u2]) (I.ok.hd hc) (IsTup.new s1.heap _) fun h' hx'=>?_)));have I3:=I2.kept (h':=h') (t':=s1.toks) fun b o e=>hx' b o (Ey (D_ e)) e;show Es _ _ (K7 [fun v=>bindName X.env y v,fun v=>bindName X.env x v] [u2,u1] >>= fun _=>pure Flow.next) _ _ _;refine D1 (IV (wpAny_bindName (de I3 hN hj (.inl hy) rw' (fun s2 I4=>?_) (.inr hy))));refine IV (wpAny_bindName (de I4 hN hi (.inl hx) rv (fun s3 I5=>assignInOrder_nil (D5 ?_)) (.inr hx)));rw[List.set_comm _ _ (GM hij)]at I5;exact⟨_,H1,I5,q1⟩
noncomputable def A6(i:Nat)(te:TE)(ti:Dj):TS:=fun D σ H=>∃x,σ[i]?=some (some x)/\te σ H fun y H1=>ti x y H1 fun z H2=>D.nx (σ.set i (some z)) H2
theorem v9{te:TE}{op:LA}{ti:Dj}(hN:X.N.Nodup)(hi:X.N[i]?=some x)(hx:Loc X.env.scope x)(he:PE X e te)(ho:Dw X op ti)(hf:autoParam (X.fn x=true\/X.env.scope.names.lookup x=some .local) æg._auto_1) :
 PS X (.AugAssign (.Name x pos') op e pos) (A6 i te ti):=by
 intro pins s σ H D I h;obtain⟨v,e1,h⟩:=h;obtain⟨m,hn,hl⟩:=I.loc;have vis:Dd X.env.scope x:=by rcases hx with k|k;exact .inl k;exact .inr (.inl k)
 obtain⟨u,r,l⟩:=hl i x v hi e1 vis;refine wpAny_AugAssign_Name ?_
 have go:Es (EJ X.prog X.w) X.A (eval e X.env) (fun w s₂=>Es (EJ X.prog X.w) X.A (inplaceOp op u w) (fun r s₃=>Es (EJ X.prog X.w) X.A (storeName X.env x r) (fun _=>SP X pins D .next) X.xe s₃) X.xe s₂) X.xe s:=by
  refine BY (he pins s σ H _ I h) fun w s1 ⟨y,H1,I1,r1,q1⟩=>?_;refine BY (ho pins s1 σ H1 v y u w _ I1 r r1 q1) fun z s2 ⟨zv,H2,I2,r2,q2⟩=>?_;exact de I2 hN hi hx r2 (fun s3 I3=>⟨_,H2,I3,q2⟩) hf
 rcases l with⟨hk,hm⟩|⟨hk,c,hc,hcell⟩
 · exact Kw I.ok.kind hk hn hm go
 · rcases hk with hk|hk
   · exact KH I.ok.kind hk hc hcell go
   · rcases hx with k|k
     · have:X.env.scope.names.lookup x=some .free:=hk;rw[k]at this;cases this
     · have:X.env.scope.names.lookup x=some .free:=hk;rw[k]at this;cases this
noncomputable def CN(f:Int->Int->Int):Dj:=fun x y H Q=>∃i j,x = .int i/\y = .int j/\Q (.int (f i j)) H
theorem wK:Dw X .Add (CN fun i j=>i+j):=by
 intro pins s σ H x y v u Q I r1 r2 h;obtain⟨i,j,e1,e2,q⟩:=h;subst e1;subst e2;obtain⟨t,rfl⟩:=r1;obtain⟨t',rfl⟩:=r2;exact iadd_int ⟨.int _,H,I.tok _,⟨_,rfl⟩,q⟩
theorem wJ:Dw X .Sub (CN fun i j=>i-j):=by
 intro pins s σ H x y v u Q I r1 r2 h;obtain⟨i,j,e1,e2,q⟩:=h;subst e1;subst e2;obtain⟨t,rfl⟩:=r1;obtain⟨t',rfl⟩:=r2;exact isub_int ⟨.int _,H,I.tok _,⟨_,rfl⟩,q⟩
end
section
variable{X:Cx}{pos:Pos}
noncomputable def vE(c:TT)(tb:TS):TS:=fun D σ H=>∃W:Nat->St->Hp->Prop,(∃m,W m σ H)/\∀m σ H,W m σ H ->
 c σ H fun b H1=>if b=true then ∃N:St->Hp->Prop,(∀σ' H',N σ' H'->∃m',m'<m/\W m' σ' H')/\tb {D with nx:=N,ct:=N,bk:=D.nx} σ H1 else D.nx σ H1
theorem jI{body:List Stmt}{tc:TT}{tb:TS}(hp:LD (EJ X.prog X.w) X.A X.env X.xe)(hc:PT X c tc)(hb:Dt X body tb):PS X (.While c body [] pos) (vE tc tb):=by
 intro pins s σ H D I h;obtain⟨W,⟨m0,w0⟩,turn⟩:=h;refine wpAny_While (codeAny_whileLoop (fun n s'=>∃σ' H',Inv X pins σ' H' s'/\W n σ' H') ?_ m0 ⟨σ,H,I,w0⟩);rintro n s1 ⟨σ1,H1,I1,w1⟩;refine GN hp (BY (hc pins s1 σ1 H1 _ I1 (turn n σ1 H1 w1)) fun b s2 ⟨H2,I2,q2⟩=>?_)
 cases b with
 | true =>
   obtain⟨N,hN,q2⟩:=q2;rw[if_pos rfl];refine GN hp (BY (hb pins s2 σ1 H2 _ I2 q2) fun f s3 q3=>?_)
   cases f with
   | next =>
     obtain⟨σ3,H3,I3,n3⟩:=q3;obtain⟨m',hm,w3⟩:=hN σ3 H3 n3
     exact⟨m',hm,σ3,H3,I3,w3⟩
   | cont =>
     obtain⟨σ3,H3,I3,n3⟩:=q3;obtain⟨m',hm,w3⟩:=hN σ3 H3 n3
     exact⟨m',hm,σ3,H3,I3,w3⟩
   | brk=>exact q3
   | ret v=>exact q3
 | false =>
   rw[if_neg EC];exact HD ⟨σ1,H2,I2,q2⟩
end
structure It where
 go:Nat->Hp->Prop
 yld:Nat->Hp->V->Hp->Prop
 stop:Nat->Hp->Prop
noncomputable def lu(X:Cx)(pins:List (Addr×Obj))(H:Hp)(b:Addr):Prop :=
 H b=none/\b≠X.env.locals/\b∉X.fs/\(b∈X.ex\/X.s₀.heap.objs.size<=b)/\(∀x c,X.env.cells.lookup x=some c->c≠b)/\∀p∈X.pn++pins,p.1≠b
theorem Inv.fpOk{X:Cx}{σ:St}{H H':Hp}{b:Addr}(I:Inv X pins σ H s)(hb:s.heap.objs.size<=b)(hn:H' b=none):lu X pins H' b:=by
 refine⟨hn,Hv (D9 I.lt hb),I.nofs hb,.inr (FG I.sz hb),fun x c e z=>?_,fun p hp z=>?_⟩
 · obtain⟨v,q⟩:=I.cell x c e;exact absurd (D9 q.lt (by rw[z];exact hb)) (FB _)
 · exact absurd (D9 (D_ (I.pin p hp).1) (by rw[z];exact hb)) (FB _)
structure Turn (P:Ei) (w:EK) (K:W.Frag) (tg:Expr) (J:It) (fp:List Addr) (it:Addr) (tn:Nat->Heap->Prop):Prop where
 mem:it∈fp
 obj:∀i h,tn i h->∀b∈fp,∃o,h.get? b=some o/\∀v,o.data ≠ .cell v
 keep:∀i h h',tn i h->(∀b∈fp,∀o,h.get? b=some o->h'.get? b=some o)->tn i h'
 item:∀(X:Cx),X.prog=P->X.w=w->X.K=K->X.calm=true->∀(i:Nat)(pins:List (Addr×Obj))(s:D6)(σ:St)(H:Hp)(E:D4->D6->Prop),Inv X pins σ H s->(∀b∈fp,lu X pins H b)->tn i s.heap->J.go i H ->
  Es (EJ P w) X.A (IB (.ref it)) (fun r s1=>∃u,r=some u /\
   Es (EJ P w) X.A (HG tg (.ref it) u) (fun _ s2=>∃x H',Inv X pins σ H' s2/\RelV x u/\J.yld i H x H'/\tn (i+1) s2.heap/\∀b∈fp,H' b=none) E s1) E s
 done:∀(X:Cx),X.prog=P->X.w=w->X.K=K->X.calm=true->∀(i:Nat)(pins:List (Addr×Obj))(s:D6)(σ:St)(H:Hp)(E:D4->D6->Prop),Inv X pins σ H s->(∀b∈fp,lu X pins H b)->tn i s.heap->J.stop i H ->
  Es (EJ P w) X.A (IB (.ref it)) (fun r s1=>r=none/\Inv X pins σ H s1) E s
 self:∀(A:EH)(i:Nat)(s:D6)(Q:D4->D6->Prop)(E:D4->D6->Prop),tn i s.heap->Q (.ref it) s->Es (EJ P w) A (pyIter (.ref it)) Q E s
abbrev TI:=St->Hp->(It->Hp->Prop)->Prop
noncomputable def Dy(X:Cx)(pins:List (Addr×Obj))(σ:St)(tg:Expr)(R:It->Hp->Prop)(itv:D4)(s2:D6):Prop :=
 ∃(it:Addr)(fp:List Addr)(tn:Nat->Heap->Prop)(J:It)(H':Hp),itv = .ref it/\Inv X pins σ H' s2/\Turn X.prog X.w X.K tg J fp it tn/\tn 0 s2.heap/\(∀b∈fp,lu X pins H' b)/\R J H'
noncomputable def PI(X:Cx)(tg iter:Expr)(wi:TI):Prop :=
 ∀ (pins:List (Addr×Obj))(s:D6)(σ:St)(H:Hp)(R:It->Hp->Prop),Inv X pins σ H s->wi σ H R ->
   Es (EJ X.prog X.w) X.A (eval iter X.env) (fun v s1=>Es (EJ X.prog X.w) X.A (pyIter v) (Dy X pins σ tg R) X.xe s1) X.xe s
theorem t_{M:LS}{u:D4}{o:Obj}{n:String}{vs:Array D4}{Q:Unit->D6->Prop}(ho:s.heap.get? it=some o)(hc:o.cls = .type n)(hd:o.data = .fields vs)
 (hn:["enumerate", "zip", "dict_itemiterator", "dict_reverseitemiterator", "odict_iterator", "itertools.zip_longest", "itertools.pairwise"].contains n=false)(hQ:Q () s):Es M A (HG tg (.ref it) u) Q E s:=by
 unfold HG
 cases tg<;>first
  | exact D5 hQ
  | (cases u<;>first
      | exact D5 hQ
      | (refine D1 (wpAny_load ho ?_)
         rw[hc,hd];show Es M A (if(["enumerate", "zip", "dict_itemiterator", "dict_reverseitemiterator", "odict_iterator", "itertools.zip_longest", "itertools.pairwise"].contains n&&vs[0]?==some (Hw _))=true then _ else _) Q E s;rw[if_neg (by intro h;rw[hn,Je]at h;cases h)]
         exact D5 hQ))
noncomputable def DN(K:W.Frag)(a:Addr):It :=
 ⟨fun i H=>∃xs x,Dn K H a xs/\xs[i]?=some x,fun i H x H'=>H'=H/\∀xs,Dn K H a xs->xs[i]?=some x,fun i H=>∃xs,Dn K H a xs/\xs.length<=i⟩
noncomputable def DL(K:W.Frag)(a:Addr):It :=
 ⟨fun i H=>∃xs x,Dm K H a xs/\xs[i]?=some x,fun i H x H'=>H'=H/\∀xs,Dm K H a xs->xs[i]?=some x,fun i H=>∃xs,Dm K H a xs/\xs.length<=i⟩
noncomputable def DM(lo:Int)(n:Nat):It:=⟨fun i _=>i<n,fun i H x H'=>H'=H/\x = .int (lo+i),fun i _=>n<=i⟩
theorem gT{K:W.Frag}(a it:Addr):Turn P w K tg (DN K a) [it] it (fun i h=>h.IsListIter it a i) where
 mem:=by simp
 obj:=fun i h st b hb=>by
  have e:b=it:=by simpa using hb
  subst e;obtain⟨o,e,c,d⟩:=st;exact⟨o,e,fun v z=>by rw[d]at z;cases z⟩
 keep:=fun i h h' st k=>st.at fun o e=>k it (by simp) o e
 item:=by
  intro X hP hw hK hc i pins s σ H E I hf st hg;subst hP hw hK;obtain⟨xs,x,hq,hx⟩:=hg;obtain⟨its,rv,p,hz⟩:=I.list hq;obtain⟨u,hu,ru⟩:=rv.get hx;obtain⟨f0,f1,f2,f3,f4,f5⟩:=hf it (by simp);refine wpAny_pyNext_list_item st p.isList (x:=u) (by simpa using hu) fun h' st' sb=>?_;have I1:Inv X pins σ H {s with heap:=h' }:=I.turned (t':=s.toks) (fun b o hb e=>(sb.2 b hb).trans e) f0 f1 f3 f4 f5;obtain⟨o,e,c,d⟩:=id st';exact⟨u,rfl,t_ (s:={s with heap:=h' }) e c d (by decide) ⟨x,H,I1,ru,⟨rfl,fun ys hy=>by rw[I.list_inj hy hq];exact hx⟩,st',fun b hb=>(hf b hb).1⟩⟩
 done:=by
  intro X hP hw hK hc i pins s σ H E I hf st hg;subst hP hw hK;obtain⟨xs,hq,hx⟩:=hg;obtain⟨its,rv,p,hz⟩:=I.list hq;obtain⟨f0,f1,f2,f3,f4,f5⟩:=hf it (by simp);have hl:=rv.length;exact wpAny_pyNext_list_end (I.ok.hd hc) st p.isList (by simp;omega) fun h' eb=>⟨rfl,I.turned (t':=s.toks) (fun b o hb e=>eb b o hb e) f0 f1 f3 f4 f5⟩
 self:=fun _ _ _ _ _ st h=>wpAny_pyIter_listiter st h
theorem fI{K:W.Frag}(a it:Addr):Turn P w K tg (DL K a) [it] it (fun i h=>h.IsTupleIter it a i) where
 mem:=by simp
 obj:=fun i h st b hb=>by
  have e:b=it:=by simpa using hb
  subst e;obtain⟨o,e,c,d⟩:=st;exact⟨o,e,fun v z=>by rw[d]at z;cases z⟩
 keep:=fun i h h' st k=>st.at fun o e=>k it (by simp) o e
 item:=by
  intro X hP hw hK hc i pins s σ H E I hf st hg;subst hP hw hK;obtain⟨xs,x,hq,hx⟩:=hg;obtain⟨its,rv,p,hz⟩:=I.tuple hq;obtain⟨u,hu,ru⟩:=rv.get hx;obtain⟨f0,f1,f2,f3,f4,f5⟩:=hf it (by simp);refine wpAny_pyNext_tuple_item st (show s.heap.IsTuple a its.toArray from p) (x:=u) (by simpa using hu) fun h' st' sb=>?_;have I1:Inv X pins σ H {s with heap:=h' }:=I.turned (t':=s.toks) (fun b o hb e=>(sb.2 b hb).trans e) f0 f1 f3 f4 f5;obtain⟨o,e,c,d⟩:=id st';exact⟨u,rfl,t_ (s:={s with heap:=h' }) e c d (by decide) ⟨x,H,I1,ru,⟨rfl,fun ys hy=>by rw[I.tuple_inj hy hq];exact hx⟩,st',fun b hb=>(hf b hb).1⟩⟩
 done:=by
  intro X hP hw hK hc i pins s σ H E I hf st hg;subst hP hw hK;obtain⟨xs,hq,hx⟩:=hg;obtain⟨its,rv,p,hz⟩:=I.tuple hq;obtain⟨f0,f1,f2,f3,f4,f5⟩:=hf it (by simp);have hl:=rv.length;exact wpAny_pyNext_tuple_end (I.ok.hd hc) st (show s.heap.IsTuple a its.toArray from p) (by simp;omega) fun h' eb=>⟨rfl,I.turned (t':=s.toks) (fun b o hb e=>eb b o hb e) f0 f1 f3 f4 f5⟩
 self:=fun _ _ _ _ _ st h=>wpAny_pyIter_tupleiter st h
theorem kA{K:W.Frag}(it:Addr)(lo:Int)(n:Nat):Turn P w K tg (DM lo n) [it] it (fun i h=>IsRangeIter h it (lo+(i:Nat)*1) ((n:Int)-(i:Nat)) 1) where
 mem:=by simp
 obj:=fun i h st b hb=>by
  have e:b=it:=by simpa using hb
  subst e
  exact⟨_,st,fun v z=>by
   have z':Data.fields _=Data.cell v:=z
   cases z'⟩
 keep:=fun i h h' st k=>k it (by simp) _ st
 item:=by
  intro X hP hw hK hc i pins s σ H E I hf st hg;subst hP hw hK;obtain⟨f0,f1,f2,f3,f4,f5⟩:=hf it (by simp);have W:=Walks.range (prog:=X.prog) (w:=X.w) (I.ok.hd hc) it lo 1 n;refine W.item i s _ _ hg st fun v h' tk hv st' kk=>?_;obtain⟨t,rfl⟩:=hv;have I1:Inv X pins σ H {s with heap:=h',toks:=tk}:=I.turned (fun b o hb e=>kk b o (by simpa using hb) e) f0 f1 f3 f4 f5;refine⟨_,rfl,t_ (s:={s with heap:=h',toks:=tk}) (n := "range_iterator") st' rfl rfl (by decide) ⟨.int (lo+i),H,I1,⟨t,?_⟩,⟨rfl,rfl⟩,st',fun b hb=>(hf b hb).1⟩⟩;rw[Int.mul_one]
 done:=by
  intro X hP hw hK hc i pins s σ H E I hf st hg;subst hP hw hK;obtain⟨f0,f1,f2,f3,f4,f5⟩:=hf it (by simp);exact wpAny_pyNext_range_end (I.ok.hd hc) st (by have:n<=i:=hg;omega) fun h' eb=>⟨rfl,I.turned (t':=s.toks) (fun b o hb e=>eb b o hb e) f0 f1 f3 f4 f5⟩
 self:=fun _ _ _ _ _ st h=>wpAny_pyIter_rangeiter st h
section
variable{X:Cx}{tg:Expr}
noncomputable def zb(K:W.Frag)(tl:TE):TI:=fun σ H R=>tl σ H fun x H1=>∃a,x = .ref a/\(∃xs,Dn K H1 a xs)/\R (DN K a) H1
noncomputable def Bd(K:W.Frag)(tl:TE):TI:=fun σ H R=>tl σ H fun x H1=>∃a,x = .ref a/\(∃xs,Dm K H1 a xs)/\R (DL K a) H1
theorem tD{l:Expr}{tl:TE}(hl:PE X l tl):PI X tg l (zb X.K tl):=by
 intro pins s σ H R I h;refine BY (hl pins s σ H _ I h) fun v s1 ⟨x,H1,I1,r1,q1⟩=>?_;obtain⟨a,e,⟨xs,hq⟩,q⟩:=q1;subst e;cases r1;obtain⟨its,rv,p,hz⟩:=I1.list hq;refine GO p.isList ?_;refine⟨s1.heap.objs.size,[s1.heap.objs.size],_,_,H1,rfl,I1.kept (t':=s1.toks) fun b o e=>D3 _ e,gT a _,⟨_,Eg _ rfl,rfl,rfl⟩,fun b hb=>?_,q⟩;have e:b=s1.heap.objs.size:=by simpa using hb
 subst e;exact I1.fpOk (Ef _) (I1.hok.fresh (Ef _))
theorem wb{l:Expr}{tl:TE}(hl:PE X l tl):PI X tg l (Bd X.K tl):=by
 intro pins s σ H R I h;refine BY (hl pins s σ H _ I h) fun v s1 ⟨x,H1,I1,r1,q1⟩=>?_;obtain⟨a,e,⟨xs,hq⟩,q⟩:=q1;subst e;cases r1;obtain⟨its,rv,p,hz⟩:=I1.tuple hq;refine IW (show s1.heap.IsTuple a its.toArray from p) ?_;refine⟨s1.heap.objs.size,[s1.heap.objs.size],_,_,H1,rfl,I1.kept (t':=s1.toks) fun b o e=>D3 _ e,fI a _,⟨_,Eg _ rfl,rfl,rfl⟩,fun b hb=>?_,q⟩;have e:b=s1.heap.objs.size:=by simpa using hb
 subst e;exact I1.fpOk (Ef _) (I1.hok.fresh (Ef _))
theorem o9{σ:St}{H:Hp}{R:It->Hp->Prop}{lo hi:Int}{t u v:Tok}{tk:Nat}(I:Inv X pins σ H s)(h1 : -(2^62)<=lo)(h2:lo<2^62)(h3 : -(2^62)<=hi)(h4:hi<2^62)
 (q:R (DM lo (hi-lo).toNat) H):Es (EJ X.prog X.w) X.A (pyIter (.ref s.heap.objs.size)) (Dy X pins σ tg R) E {s with heap:=s.heap.push {cls:=.type "range", data:=.fields #[.int lo t,.int hi u,.int 1 v]},toks:=tk}:=by
 refine wpAny_pyIter_range (IsRange.new ..) (small_one h1 h2 h3 h4) ?_;have I1:Inv X pins σ H {s with heap:=s.heap.push {cls:=.type "range", data:=.fields #[.int lo t,.int hi u,.int 1 v]},toks:=tk}:=I.kept fun b o e=>D3 _ e
 refine⟨(s.heap.push {cls:=.type "range", data:=.fields #[.int lo t,.int hi u,.int 1 v]}).objs.size,[(s.heap.push {cls:=.type "range", data:=.fields #[.int lo t,.int hi u,.int 1 v]}).objs.size],_,_,H,rfl,
  I1.kept (t':=tk) fun b o e=>D3 _ e,kA _ lo (hi-lo).toNat,?_,fun b hb=>?_,q⟩
 · have e1:lo+((0:Nat):Int)*1=lo:=by simp
   have e2:(((hi-lo).toNat:Nat):Int)-((0:Nat):Int)=Builtin.Range.rangeSize lo hi 1:=by rw[rangeSize_one];split<;>omega
   show IsRangeIter _ _ (lo+((0:Nat):Int)*1) ((((hi-lo).toNat:Nat):Int)-((0:Nat):Int)) 1;rw[e1,e2];exact Eg _ rfl
 · have e:b=(s.heap.push {cls:=.type "range", data:=.fields #[.int lo t,.int hi u,.int 1 v]}).objs.size:=by simpa using hb
   subst e;exact I1.fpOk (Ef _) (I1.hok.fresh (Ef _))
noncomputable def za(ta:TA):TI:=fun σ H R=>ta σ H fun vs H1=>∃j:Int,vs=[.int j] /\ -(2^62)<=j/\j<2^62/\R (DM 0 j.toNat) H1
theorem mM{a:Expr}{ta:TA}{p:Pos}(hg:Gl X "range")(hm:X.mg "range" = none)(ha:PA X [a] ta)(hs:autoParam (Ec [a] X.env=[(false,eval a X.env)]) æa._auto_1):PI X tg (.Call (.Name "range" p) [a] [] pos) (za ta):=by
 intro pins s σ H R I h;refine Call_ (ii I hg hm boot_range (IC (BY (ha pos pins s σ H _ I h) fun us s1 ⟨vs,H1,I1,r1,q1⟩=>?_) hs rfl));obtain⟨j,e,q1,q2,q⟩:=q1;subst e
 cases r1 with
 | cons r rr =>
   cases rr;obtain⟨t,rfl⟩:=r;exact call_range_1 (o9 I1 (by omega) (by omega) q1 q2 (by simpa using q))
noncomputable def A5(wi:TI)(g:TG)(tb:TS):TS:=fun D σ H=>wi σ H fun J H1=>∃W:Nat->Nat->St->Hp->Prop,(∃m,W 0 m σ H1)/\∀i m σ H,W i m σ H ->
 (J.stop i H/\D.nx σ H)\/(J.go i H/\∃N:St->Hp->Prop,(∀σ' H',N σ' H'->∃m',m'<m/\W (i+1) m' σ' H')/\∀x H',J.yld i H x H'->g x σ H' fun σ2 H2=>tb {D with nx:=N,ct:=N,bk:=D.nx} σ2 H2)
noncomputable def fN(fp:List Addr)(h:Heap):List (Addr×Obj):=fp.filterMap fun b=>(h.get? b).map fun o=>(b,o)
theorem bJ{b:Addr}{o:Obj}(hb:b∈fp)(e:h.get? b=some o):(b,o)∈fN fp h:=List.mem_filterMap.mpr ⟨b,hb,by rw[e];rfl⟩
theorem mT{p:Addr×Obj}(hp:p∈fN fp h):p.1∈fp/\h.get? p.1=some p.2:=by
 obtain⟨b,hb,e⟩:=List.mem_filterMap.mp hp
 cases q:h.get? b with
 | none=>rw[q]at e;cases e
 | some o =>
   rw[q]at e;have e':(b,o)=p:=EL e;subst e';exact⟨hb,q⟩
theorem Inv.pinned{σ:St}{H:Hp}(I:Inv X pins σ H s)(hf:∀b∈fp,lu X pins H b)(ho:∀b∈fp,∃o,s.heap.get? b=some o/\∀v,o.data ≠ .cell v):Inv X (pins++fN fp s.heap) σ H s :=
 I.pins_of fun p hp=>(G5.mp hp).elim (fun z=>I.pin p (EF _ z)) fun z=>by
  obtain⟨hb,e⟩:=mT z;obtain⟨f0,f1,f2,_⟩:=hf p.1 hb;obtain⟨o,e',d⟩:=ho p.1 hb;rw[e]at e';cases e';exact⟨e,f0,f1,f2,d⟩
theorem Inv.unpinned{pl:List (Addr×Obj)}{σ:St}{H:Hp}(I:Inv X (pins++pl) σ H s):Inv X pins σ H s:=I.pins_of fun p hp=>I.pin p (EF _ (Iu _ hp))
theorem v8{body:List Stmt}{wi:TI}{g:TG}{tb:TS}(hp:LD (EJ X.prog X.w) X.A X.env X.xe)(hc:X.calm=true)(hi:PI X tg iter wi)(hg:PG X tg g)(hb:Dt X body tb)
 (hs:autoParam (∀x,FH iter X.env x=pure x) æc._auto_1):PS X (.For tg iter body [] pos) (A5 wi g tb):=by
 intro pins s σ H D I h;refine wpAny_For (BY (hi pins s σ H _ I h) fun v s1 h1=>BY h1 fun itv s2 h2=>?_) hs;obtain⟨it,fp,tn,J,H2,e,I2,T,st2,f2,W,⟨m0,w0⟩,turn⟩:=h2;subst e;have stat:∀{H':Hp},(∀b∈fp,H' b=none)->∀b∈fp,lu X pins H' b:=fun hn b hb=>⟨hn b hb,(f2 b hb).2⟩;refine codeAny_forLoop_any (fun n s'=>∃i σ' H',Inv X pins σ' H' s'/\tn i s'.heap/\(∀b∈fp,H' b=none)/\W i n σ' H') ?_ m0 ⟨0,σ,H2,I2,st2,fun b hb=>(f2 b hb).1,w0⟩;rintro n s3 ⟨i,σ3,H3,I3,st3,fr3,w3⟩;rcases turn i n σ3 H3 w3 with⟨stop,qn⟩|⟨go,N,hN,step⟩
 · refine GN hp (BY (T.done X rfl rfl rfl hc i pins s3 σ3 H3 X.xe I3 (stat fr3) st3 stop) fun r s4 ⟨hr,I4⟩=>?_);subst hr;exact HD ⟨σ3,H3,I4,qn⟩
 · refine GN hp (BY (T.item X rfl rfl rfl hc i pins s3 σ3 H3 X.xe I3 (stat fr3) st3 go) fun r s4 ⟨u,hr,h4⟩=>?_);subst hr;refine GN hp (BY h4 fun _ s5 ⟨x,H5,I5,r5,y5,st5,fr5⟩=>?_);have I5':=I5.pinned (stat fr5) (T.obj _ _ st5);refine GN hp (BY (hg _ s5 σ3 H5 x u _ I5' r5 (step x H5 y5)) fun _ s6 ⟨σ6,H6,I6,q6⟩=>?_);refine GN hp (BY (hb _ s6 σ6 H6 _ I6 q6) fun f s7 q7=>?_)
   have again:∀{σ7:St}{H7:Hp},Inv X (pins++fN fp s5.heap) σ7 H7 s7->N σ7 H7->∃m,m<n/\∃i σ' H',Inv X pins σ' H' s7/\tn i s7.heap/\(∀b∈fp,H' b=none)/\W i m σ' H':=fun{σ7 H7} I7 n7=>by
    obtain⟨m',hm,w7⟩:=hN σ7 H7 n7;refine⟨m',hm,i+1,σ7,H7,I7.unpinned,T.keep _ _ _ st5 fun b hb o e=>(I7.pin (b,o) (EF _ (EF _ (bJ hb e)))).1,fun b hb=>?_,w7⟩;obtain⟨o,e,d⟩:=T.obj _ _ st5 b hb;exact(I7.pin (b,o) (EF _ (EF _ (bJ hb e)))).2.1
   cases f with
   | next=>obtain⟨σ7,H7,I7,n7⟩:=q7;exact again I7 n7
   | cont=>obtain⟨σ7,H7,I7,n7⟩:=q7;exact again I7 n7
   | brk=>obtain⟨σ7,H7,I7,q7⟩:=q7;exact⟨σ7,H7,I7.unpinned,q7⟩
   | ret v=>obtain⟨x7,σ7,H7,I7,r7,q7⟩:=q7;exact⟨x7,σ7,H7,I7.unpinned,r7,q7⟩
end
abbrev R2:=V->V->Hp->VK->Prop
noncomputable def DC(X:Cx)(f:D4->D4->Sem D4)(r:R2):Prop :=
 ∀ (pins:List (Addr×Obj))(s:D6)(σ:St)(H:Hp)(x y:V)(v u:D4)(Q:VK),Inv X pins σ H s->RelV x v->RelV y u->r x y H Q ->
   Es (EJ X.prog X.w) X.A (f v u) (EP X pins σ Q) X.xe s
noncomputable def Df(X:Cx)(f:D4->Sem D4)(r:V->Hp->VK->Prop):Prop :=
 ∀ (pins:List (Addr×Obj))(s:D6)(σ:St)(H:Hp)(x:V)(v:D4)(Q:VK),Inv X pins σ H s->RelV x v->r x H Q ->
   Es (EJ X.prog X.w) X.A (f v) (EP X pins σ Q) X.xe s
noncomputable def cr(X:Cx)(f:D4)(r:List V->Hp->VK->Prop):Prop :=
 ∀ (pins:List (Addr×Obj))(s:D6)(σ:St)(H:Hp)(xs:List V)(us:List D4)(Q:VK),Inv X pins σ H s->bI xs us->r xs H Q ->
   Es (EJ X.prog X.w) X.A (call f us) (EP X pins σ Q) X.xe s
noncomputable def B3(r:R2)(ta tb:TE):TE:=fun σ H Q=>ta σ H fun x H1=>tb σ H1 fun y H2=>r x y H2 Q
noncomputable def BZ(r:V->Hp->VK->Prop)(ta:TE):TE:=fun σ H Q=>ta σ H fun x H1=>r x H1 Q
noncomputable def rI(C:Int->Int->Prop)(g:Int->Int->V):R2:=fun x y H Q=>∃i j,x = .int i/\y = .int j/\C i j/\Q (g i j) H
noncomputable def Cj(g:Int->Int->V):R2:=fun x y H Q=>∃i j,x = .int i/\y = .int j/\Q (g i j) H
noncomputable def rU(g:Int->V):V->Hp->VK->Prop:=fun x H Q=>∃i,x = .int i/\Q (g i) H
section
variable{X:Cx}{a b c:Expr}{ta tb tc:TE}{pos:Pos}
theorem zp(ha:PE X a ta)(hb:PE X b tb){σ:St}{H:Hp}{R:V->V->Hp->Prop}(I:Inv X pins σ H s)
 (h:ta σ H fun x H1=>tb σ H1 fun y H2=>R x y H2){f:D4->D4->Sem D4}
 (hf:∀v u s2 x y H2,Inv X pins σ H2 s2->RelV x v->RelV y u->R x y H2->Es (EJ X.prog X.w) X.A (f v u) Q X.xe s2) :
 Es (EJ X.prog X.w) X.A (eval a X.env) (fun v s₁=>Es (EJ X.prog X.w) X.A (eval b X.env) (fun u s₂=>Es (EJ X.prog X.w) X.A (f v u) Q X.xe s₂) X.xe s₁) X.xe s:=by
 refine BY (ha pins s σ H _ I h) fun v s1 ⟨x,H1,I1,r1,q1⟩=>?_;refine BY (hb pins s1 σ H1 _ I1 q1) fun u s2 ⟨y,H2,I2,r2,q2⟩=>?_;exact hf v u s2 x y H2 I2 r1 r2 q2
theorem ce{op:LA}{r:R2}(ho:DC X (JA op) r)(ha:PE X a ta)(hb:PE X b tb):PE X (.BinOp a op b pos) (B3 r ta tb):=by
 intro pins s σ H Q I h;exact wpAny_BinOp (zp ha hb I h fun v u s2 x y H2 I2 rx ry q=>ho pins s2 σ H2 x y v u Q I2 rx ry q)
theorem we{op:UnaryOp}{r:V->Hp->VK->Prop}(ho:Df X (unaryOp op) r)(ha:PE X a ta):PE X (.UnaryOp op a pos) (BZ r ta):=by
 intro pins s σ H Q I h;exact UnaryOp_ (BY (ha pins s σ H _ I h) fun v s1 ⟨x,H1,I1,r1,q1⟩=>ho pins s1 σ H1 x v Q I1 r1 q1)
theorem Cr{f:D4->D4->Sem D4}{C:Int->Int->Prop}{g:Int->Int->Int}
 (rule:∀(i j:Int)(t u:Tok)(s:D6)(Q:D4->D6->Prop)(E:D4->D6->Prop),C i j->Q (.int (g i j) s.toks) {s with toks:=s.toks+1}->Es (EJ X.prog X.w) X.A (f (.int i t) (.int j u)) Q E s) :
 DC X f (rI C fun i j=>.int (g i j)):=by
 intro pins s σ H x y v u Q I rx ry h;obtain⟨i,j,rfl,rfl,hc,q⟩:=h;obtain⟨t,rfl⟩:=rx;obtain⟨t',rfl⟩:=ry;exact rule i j t t' s _ _ hc ⟨.int (g i j),H,I.tok _,⟨_,rfl⟩,q⟩
theorem Az{f:D4->D4->Sem D4}{g:Int->Int->Int}
 (rule:∀(i j:Int)(t u:Tok)(s:D6)(Q:D4->D6->Prop)(E:D4->D6->Prop),Q (.int (g i j) s.toks) {s with toks:=s.toks+1}->Es (EJ X.prog X.w) X.A (f (.int i t) (.int j u)) Q E s) :
 DC X f (Cj fun i j=>.int (g i j)):=by
 intro pins s σ H x y v u Q I rx ry h;obtain⟨i,j,rfl,rfl,q⟩:=h;obtain⟨t,rfl⟩:=rx;obtain⟨t',rfl⟩:=ry;exact rule i j t t' s _ _ ⟨.int (g i j),H,I.tok _,⟨_,rfl⟩,q⟩
theorem xS{f:D4->D4->Sem D4}{g:Int->Int->Bool}
 (rule:∀(i j:Int)(t u:Tok)(s:D6)(Q:D4->D6->Prop)(E:D4->D6->Prop),Q (.bool (g i j)) s->Es (EJ X.prog X.w) X.A (f (.int i t) (.int j u)) Q E s) :
 DC X f (Cj fun i j=>.bl (g i j)):=by
 intro pins s σ H x y v u Q I rx ry h;obtain⟨i,j,rfl,rfl,q⟩:=h;obtain⟨t,rfl⟩:=rx;obtain⟨t',rfl⟩:=ry;exact rule i j t t' s _ _ ⟨.bl (g i j),H,I,rfl,q⟩
noncomputable def xI(i j:Int):Prop:=0<=j/\j<=1000000/\i.natAbs<2^64
theorem fO:DC X (JA .Add) (Cj fun i j=>.int (i+j)):=Az fun _ _ _ _ _ _ _ q=>add_int q
theorem wq:DC X (JA .Sub) (Cj fun i j=>.int (i-j)):=Az fun _ _ _ _ _ _ _ q=>sub_int q
theorem cB:DC X (JA .Mod) (rI (fun _ j=>j≠0) fun i j=>.int (i.fmod j)):=Cr fun _ _ _ _ _ _ _ hc q=>mod_int' hc q
theorem qK:DC X (JA .Pow) (rI xI fun i j=>.int (i^j.toNat)):=Cr fun _ _ _ _ _ _ _ hc q=>pow_int_small hc.1 hc.2.1 hc.2.2 q
theorem BS{f:D4->Sem D4}{g:Int->Int}
 (rule:∀(i:Int)(t:Tok)(s:D6)(Q:D4->D6->Prop)(E:D4->D6->Prop),Q (.int (g i) s.toks) {s with toks:=s.toks+1}->Es (EJ X.prog X.w) X.A (f (.int i t)) Q E s) :
 Df X f (rU fun i=>.int (g i)):=by
 intro pins s σ H x v Q I rx h;obtain⟨i,rfl,q⟩:=h;obtain⟨t,rfl⟩:=rx;exact rule i t s _ _ ⟨.int (g i),H,I.tok _,⟨_,rfl⟩,q⟩
theorem qx:Df X (unaryOp .USub) (rU fun i=>.int (-i)):=BS fun _ _ _ _ _ q=>neg_int q
end
noncomputable def A8:V->V->Bool
 | .non,.non=>true | .non,.int _=>true | .int _,.non=>true | .non,.bl _=>true | .bl _,.non=>true | .non,.str _=>true | .str _,.non=>true
 | .int _,.int _=>true | .bl _,.bl _=>true | .str _,.str _=>true | .byt _,.byt _=>true
 | .int _,.str _=>true | .str _,.int _=>true | .bl _,.str _=>true | .str _,.bl _=>true
 | _,_=>false
noncomputable def Ck:R2:=fun x y H Q=>A8 x y=true/\Q (.bl (decide (x=y))) H
theorem uo{i j:Int}:decide (V.int i=V.int j)=(i==j):=by
 rw[HH];simp
theorem xv{i j:Bool}:decide (V.bl i=V.bl j)=(i==j):=by
 rw[HH];simp
theorem um{i j:Str}:decide (V.str i=V.str j)=(i==j):=by
 rw[HH];simp
theorem uq{i j:Array UInt8}:decide (V.byt i=V.byt j)=(i.toList==j.toList):=by
 rw[HH];cases i;cases j;simp
section
variable{X:Cx}{a b c:Expr}{ta tb tc:TE}{pos:Pos}
theorem bR{σ:St}{H:Hp}{Q:VK}{k k':Bool}(I:Inv X pins σ H s)(q:Q (.bl k) H)(e:k=k'):EP X pins σ Q (.bool k') s:=by
 subst e;exact⟨.bl k,H,I,rfl,q⟩
theorem y8:DC X (FI .Eq) Ck:=by
 intro pins s σ H x y v u Q I rx ry h;obtain⟨hs,q⟩:=h
 cases x with
 | non =>
   cases rx
   cases y with
   | non=>cases ry;exact PySem.EqNone.eq_none_none (bR I q (by simp))
   | bl j=>cases ry;exact PySem.EqNone.eq_none_bool (bR I q (by simp))
   | int j=>obtain⟨t',rfl⟩:=ry;exact PySem.EqNone.eq_none_int (bR I q (by simp))
   | str j=>obtain⟨t',rfl⟩:=ry;exact PySem.EqNone.eq_none_str (bR I q (by simp))
   | _=>exact absurd (show false=true from hs) EC
 | bl i =>
   cases rx
   cases y with
   | non=>cases ry;exact PySem.EqNone.eq_bool_none (bR I q (by simp))
   | bl j=>cases ry;exact eq_bool (bR I q xv)
   | str j=>obtain⟨t',rfl⟩:=ry;exact PySem.EqMixed.eq_bool_str (bR I q (by simp))
   | _=>exact absurd (show false=true from hs) EC
 | int i =>
   obtain⟨t,rfl⟩:=rx
   cases y with
   | non=>cases ry;exact PySem.EqNone.eq_int_none (bR I q (by simp))
   | int j=>obtain⟨t',rfl⟩:=ry;exact eq_int (bR I q uo)
   | str j=>obtain⟨t',rfl⟩:=ry;exact PySem.EqMixed.eq_int_str (bR I q (by simp))
   | _=>exact absurd (show false=true from hs) EC
 | str i =>
   obtain⟨t,rfl⟩:=rx
   cases y with
   | non=>cases ry;exact PySem.EqNone.eq_str_none (bR I q (by simp))
   | bl j=>cases ry;exact PySem.EqMixed.eq_str_bool (bR I q (by simp))
   | int j=>obtain⟨t',rfl⟩:=ry;exact PySem.EqMixed.eq_str_int (bR I q (by simp))
   | str j=>obtain⟨t',rfl⟩:=ry;exact eq_str (bR I q um)
   | _=>exact absurd (show false=true from hs) EC
 | byt i =>
   obtain⟨t,rfl⟩:=rx
   cases y with
   | byt j=>obtain⟨t',rfl⟩:=ry;exact W.eq_bytes (bR I q uq)
   | _=>exact absurd (show false=true from hs) EC
 | _=>cases y<;>exact absurd (show false=true from hs) EC
theorem fC:DC X (FI .Lt) (Cj fun i j=>.bl (decide (i<j))):=xS fun _ _ _ _ _ _ _ q=>lt_int q
theorem kO:DC X (FI .LtE) (Cj fun i j=>.bl (decide (i<=j))):=xS fun _ _ _ _ _ _ _ q=>le_int q
theorem kP:DC X (FI .Gt) (Cj fun i j=>.bl (decide (j<i))):=xS fun _ _ _ _ _ _ _ q=>gt_int q
theorem wu:DC X (FI .GtE) (Cj fun i j=>.bl (decide (j<=i))):=xS fun _ _ _ _ _ _ _ q=>ge_int q
theorem aQ(b:Expr)(h:autoParam (op ≠ .In) æb._auto_1)(h2:autoParam (op ≠ .NotIn) æb._auto_1):HI op b=false:=by
 have e1:(op==LP.In)=false:=by cases op<;>first|rfl|exact absurd rfl h
 have e2:(op==LP.NotIn)=false:=by cases op<;>first|rfl|exact absurd rfl h2
 cases b<;>simp[HI,e1,e2]
theorem mO{r:R2}(ho:DC X (FI op) r)(ha:PE X a ta)(hb:PE X b tb)(hm:HI op b=false):PE X (.Compare a [op] [b] pos) (B3 r ta tb):=by
 intro pins s σ H Q I h;exact wpAny_Compare1 (zp ha hb I h fun v u s2 x y H2 I2 rx ry q=>ho pins s2 σ H2 x y v u Q I2 rx ry q) hm
noncomputable def vF(t:TE):TT:=fun σ H Q=>t σ H fun x H'=>∃k,x = .bl k/\Q k H'
theorem dF{r:R2}(ho:DC X (FI op) r)(ha:PE X a ta)(hb:PE X b tb)(hm:HI op b=false):PT X (.Compare a [op] [b] pos) (vF (B3 r ta tb)):=by
 intro pins s σ H Q I h
 refine wpAny_isTrue_Compare1 (BY (ha pins s σ H _ I h) fun v s1 ⟨x,H1,I1,r1,q1⟩=>BY (hb pins s1 σ H1 _ I1 q1) fun u s2 ⟨y,H2,I2,r2,q2⟩ =>
  BY (ho pins s2 σ H2 x y v u _ I2 r1 r2 q2) fun c s3 ⟨z,H3,I3,r3,k,e,q3⟩=>?_) hm
 subst e;cases r3;exact Fj ⟨H3,I3,q3⟩
noncomputable def qD(r r':R2)(ta tb tc:TE):TE:=fun σ H Q=>ta σ H fun x H1=>tb σ H1 fun y H2=>r x y H2 fun z H3=>∃k,z = .bl k /\
 (if k=true then tc σ H3 fun w' H4=>r' y w' H4 Q else Q (.bl false) H3)
theorem pD{op':LP}{r r':R2}(ho:DC X (FI op) r)(ho':DC X (FI op') r')(ha:PE X a ta)(hb:PE X b tb)(hc:PE X c tc)
 (hm:autoParam (LF [op,op'] [b,c]=false) æh._auto_1):PE X (.Compare a [op,op'] [b,c] pos) (qD r r' ta tb tc):=by
 intro pins s σ H Q I h
 refine Compare_chain (BY (ha pins s σ H _ I h) fun v s1 ⟨x,H1,I1,r1,q1⟩=>chain_link (BY (hb pins s1 σ H1 _ I1 q1) fun u s2 ⟨y,H2,I2,r2,q2⟩ =>
  BY (ho pins s2 σ H2 x y v u _ I2 r1 r2 q2) fun d s3 ⟨z,H3,I3,r3,k,e,q3⟩=>?_)) hm
 subst e;cases r3;refine Fj ?_
 cases k with
 | false=>exact ite_ff ⟨.bl false,H3,I3,rfl,q3⟩
 | true=>exact ite_tt (chain_last (BY (hc pins s3 σ H3 _ I3 q3) fun w' s4 ⟨z',H4,I4,r4,q4⟩=>ho' pins s4 σ H4 y z' u w' Q I4 r2 r4 q4))
theorem pg{op':LP}{r r':R2}(ho:DC X (FI op) r)(ho':DC X (FI op') r')(ha:PE X a ta)(hb:PE X b tb)(hc:PE X c tc)
 (hm:autoParam (LF [op,op'] [b,c]=false) æh._auto_1):PT X (.Compare a [op,op'] [b,c] pos) (vF (qD r r' ta tb tc)):=by
 intro pins s σ H Q I h
 refine isTrue_chain (BY (ha pins s σ H _ I h) fun v s1 ⟨x,H1,I1,r1,q1⟩=>test_link (BY (hb pins s1 σ H1 _ I1 q1) fun u s2 ⟨y,H2,I2,r2,q2⟩ =>
  BY (ho pins s2 σ H2 x y v u _ I2 r1 r2 q2) fun d s3 ⟨z,H3,I3,r3,k,e,q3⟩=>?_)) hm
 subst e;cases r3;refine Fj ?_
 cases k with
 | false =>
   obtain⟨k',e',q'⟩:=q3;cases e'
   exact ite_ff ⟨H3,I3,q'⟩
 | true =>
   refine ite_tt (test_last (BY (hc pins s3 σ H3 _ I3 q3) fun w' s4 ⟨z',H4,I4,r4,q4⟩=>BY (ho' pins s4 σ H4 y z' u w' _ I4 r2 r4 q4) fun d' s5 ⟨z2,H5,I5,r5,k2,e2,q5⟩=>?_));subst e2;cases r5;exact Fj ⟨H5,I5,q5⟩
theorem ig:(sizeLine:Nat)<2^63:=by rw[KI];decide
theorem vals1{x:V}(r:bI [x] us):∃u,us=[u]/\RelV x u:=by
 cases r with
 | cons r1 r2=>cases r2;exact⟨_,rfl,r1⟩
theorem vals2{x y:V}(r:bI [x,y] us):∃u w',us=[u,w']/\RelV x u/\RelV y w':=by
 cases r with
 | cons r1 r2 =>
   cases r2 with
   | cons r3 r4=>cases r4;exact⟨_,_,rfl,r1,r3⟩
theorem gH:cr X (.builtin "abs") (fun xs H Q=>∃i,xs=[.int i]/\Q (.int (if i<0 then -i else i)) H):=by
 intro pins s σ H xs us Q I r h;obtain⟨i,rfl,q⟩:=h;obtain⟨u,rfl,t,rfl⟩:=vals1 r;exact call_abs_int fun u tk=>⟨.int (if i<0 then -i else i),H,I.tok _,⟨_,rfl⟩,q⟩
theorem oC(hc:X.calm=true):cr X (.builtin "max") (fun xs H Q=>∃i j,xs=[.int i,.int j]/\Q (.int (if j>i then j else i)) H):=by
 intro pins s σ H xs us Q I r h;obtain⟨i,j,rfl,q⟩:=h;obtain⟨u,w',rfl,⟨t,rfl⟩,⟨t',rfl⟩⟩:=vals2 r;refine max_two_ints (I.ok.hd hc) fun h' tk k=>⟨_,H,I.kept k,?_,q⟩;by_cases hj:j>i
 · rw[if_pos hj,if_pos hj];exact⟨_,rfl⟩
 · rw[if_neg hj,if_neg hj];exact⟨_,rfl⟩
theorem oB(hc:X.calm=true):cr X (.builtin "min") (fun xs H Q=>∃i j,xs=[.int i,.int j]/\Q (.int (if j<i then j else i)) H):=by
 intro pins s σ H xs us Q I r h;obtain⟨i,j,rfl,q⟩:=h;obtain⟨u,w',rfl,⟨t,rfl⟩,⟨t',rfl⟩⟩:=vals2 r;refine min_two_ints (I.ok.hd hc) fun h' tk k=>⟨_,H,I.kept k,?_,q⟩;by_cases hj:j<i
 · rw[if_pos hj,if_pos hj];exact⟨_,rfl⟩
 · rw[if_neg hj,if_neg hj];exact⟨_,rfl⟩
end
section
variable{prog:Ei}{w:EK}{A:EH}{E:D4->D6->Prop}{s:D6}{K:W.Frag}{x dx C f:Addr}{mA:Str->Option D4}{name:Str}{v:D4}
end
noncomputable def putF(f:Str)(v:V):List (Str×V)->List (Str×V)
 | []=>[(f,v)]
 | (g,x)::r=>if g=f then(g,v)::r else(g,x)::putF f v r
theorem xE.some_of{v:V}{o:Option D4}(r:xE (some v) o):∃u,o=some u/\RelV v u:=by
 cases o with
 | none=>exact(show False from r).elim
 | some u=>exact⟨u,rfl,r⟩
section
variable{P:Ei}{w:EK}{H H':Hp}{h h':Heap}{a C dx:Addr}{fs fs':List (Str×V)}
end
noncomputable def bX(K:W.Frag)(C:Addr)(f:Str):Prop:=W.findIn K (.ref C) f=some none
section
variable{X:Cx}{pins:List (Addr×Obj)}{σ:St}{H:Hp}{s:D6}{a C dx:Addr}{fs:List (Str×V)}{f:Str}{v:V}{A:EH}{E:D4->D6->Prop}
end
section
variable{X:Cx}{o e value:Expr}{f:Str}{pos pos' tpos:Pos}{ta tv:TE}
end
section
variable{X:Cx}{pins:List (Addr×Obj)}{σ:St}{H:Hp}{s:D6}{A:EH}{E:D4->D6->Prop}{Q:D4->D6->Prop}{c:D4}{b:Bool}
end
structure Room (k:Nat) (A:EH):Prop where
 hd:A.handled=none
 dp:A.depth+3*k+5<recursionLimit
 un:A.units+16*k+200<Kx
 gd:A.guards=some []
theorem Room.mono{k:Nat}(r:Room k A)(h:j<=k):Room j A:=⟨r.hd,by have:=r.dp;omega,by have:=r.un;omega,r.gd⟩
theorem Room.deeper{k:Nat}(r:Room (k+1) A)(env:Env):Room k (A.deeper env) :=
 ⟨r.hd,by have:=r.dp;show A.depth+1+3*k+5<_;omega,by have:=r.un;show A.units+3+16*k+200<_;omega,r.gd⟩
theorem kU{C:Addr}{kw:List (Str×D4)}:(A.under (.builtin "type.__call__" ⟨.ref C::us,kw⟩)).depth=A.depth+1:=by
 first|rfl|simp[J2,Code.weight,Code.isCreation,Code.isGuard,Code.isCaller,Code.frames,Ls,guardIds]
theorem kS{C:Addr}{kw:List (Str×D4)}:(A.under (.builtin "type.__call__" ⟨.ref C::us,kw⟩)).units=A.units+1:=by
 first|rfl|simp[J2,Code.cUnits,Code.frames,Ls]
theorem Room.make{k:Nat}(r:Room (k+1) A)(C:Addr)(us:List D4)(kw:List (Str×D4)):Room k (A.under (.builtin "type.__call__" ⟨.ref C::us,kw⟩)) :=
 ⟨r.hd,by have:=r.dp;rw[kU];omega,by have:=r.un;rw[kS];omega,by first|exact r.gd|(have:=r.gd;simp[J2,Code.guards,Code.isGuard,guardIds,pushGuards,this])⟩
theorem Room.depth{k:Nat}(r:Room k A):A.depth<recursionLimit:=by have:=r.dp;omega
theorem Room.units{k:Nat}(r:Room k A):A.units+64<Kx:=by have:=r.un;omega
noncomputable def yG:TA:=fun _ H Q=>Q [] H
noncomputable def sr(ta:TE)(tr:TA):TA:=fun σ H Q=>ta σ H fun x H1=>tr σ H1 fun xs H2=>Q (x::xs) H2
section
variable{X:Cx}{e:Expr}{es:List Expr}{te:TE}{t:TA}{pos:Pos}
theorem dg:PA X [] yG:=fun _ _ _ _ H Q I h=>Calls.spliced_nil ⟨[],H,I,.nil,h⟩
theorem bG(ha:PE X e te)(hr:PA X es t)(hs:autoParam (Ec (e::es) X.env=(false,eval e X.env)::Ec es X.env) æa._auto_1):PA X (e::es) (sr te t):=by
 intro pos pins s σ H Q I h;rw[hs];show Es _ _ (spliced ((false,eval e X.env)::FN pos (Ec es X.env))) _ _ s;refine IZ (BY (ha pins s σ H _ I h) fun u s1 ⟨x,H1,I1,r1,q1⟩=>?_);exact BY (hr pos pins s1 σ H1 _ I1 q1) fun us s2 ⟨xs,H2,I2,r2,q2⟩=>⟨x::xs,H2,I2,.cons r1 r2,q2⟩
noncomputable def AY(t:TA):TE:=fun σ H Q=>t σ H fun xs H1=>xs.length<=sizeLine/\∀p,H1 p=none->Q (.ref p) (upd H1 p (.tup xs))
noncomputable def A3(t:TA):TE:=fun σ H Q=>t σ H fun xs H1=>xs.length<=sizeLine/\∀p,H1 p=none->Q (.ref p) (upd H1 p (.lst xs))
theorem wf{x1}(h:PA X es t):PE X (.Tuple es x1 pos) (AY t):=by
 intro pins s σ H Q I hq;refine wpAny_Tuple_spliced (BY (h pos pins s σ H _ I hq) fun us s1 ⟨xs,H1,I1,r,z,q⟩=>⟨by rw[<- r.length];exact z,?_⟩);have hf:H1 s1.heap.objs.size=none:=I1.hok.fresh (Ef _);refine⟨.ref s1.heap.objs.size,upd H1 s1.heap.objs.size (.tup xs),I1.laid (t':=s1.toks) (fun b u e=>D3 _ e) (Ef _) ?_,rfl,q _ hf⟩;exact⟨z,us,r,oJ.new _ _⟩
theorem qI(h:PA X es t):PE X (.List es pos) (A3 t):=by
 intro pins s σ H Q I hq;refine wpAny_List_spliced (BY (h pos pins s σ H _ I hq) fun us s1 ⟨xs,H1,I1,r,z,q⟩=>⟨by rw[<- r.length];exact z,?_⟩);have hf:H1 s1.heap.objs.size=none:=I1.hok.fresh (Ef _);refine⟨.ref s1.heap.objs.size,upd H1 s1.heap.objs.size (.lst xs),I1.laid (t':=s1.toks) (fun b u e=>D3 _ e) (Ef _) ?_,rfl,q _ hf⟩;exact⟨z,us,0,r,Eg _ rfl⟩
end
abbrev Sp:=List V->Hp->VK->XK->Prop
abbrev DQ:=List Env->Hp->D6->XK->D4->D6->Prop
structure Env0 (P:Ei) (w:EK) (K:W.Frag) (mg:Str->Option D4) (base:Heap) (A:EH) (outer:List Env) (s:D6) (H:Hp):Prop where
 frames:A.frames=some outer
 mod:Mod K mg base
 bs:∀b o,base.get? b=some o->s.heap.get? b=some o/\H b=none
 bsz:base.objs.size<=s.heap.objs.size
 funs:s.heap.FunFrames base outer
 frf:∀b∈frs outer,H b=none
 hok:DO P w H s.heap
 bare:Jy s.gens
noncomputable def CE(outer:List Env)(P:Ei)(w:EK)(H:Hp)(s:D6)(Q:VK)(u:D4)(s':D6):Prop :=
 ∃v H',s'.os=s.os/\Jy s'.gens/\Un (frs outer) [] H H' s.heap s'.heap/\DO P w H' s'.heap/\RelV v u/\Q v H'
noncomputable def CR(CX:DQ)(outer:List Env)(P:Ei)(w:EK)(H:Hp)(s:D6)(Q:VK)(E:XK)(r:Lu)(s':D6):Prop :=
 match r with
 | .ok (.ret u)=>CE outer P w H s Q u s'
 | .ok _=>False
 | .error e=>CX outer H s E e s'
structure FnOk (P:Ei) (w:EK) (K:W.Frag) (mg:Str->Option D4) (base:Heap) (CX:DQ) (k:Nat) (f:Addr) (fd:Gz) (ps:List Str) (sp:Sp):Prop where
 len:∀vs H Q E,sp vs H Q E->vs.length=ps.length
 run:∀(A:EH)(outer:List Env)(s:D6)(H:Hp)(args:Args)(us:List D4)(vs:List V)(Q:VK)(E:XK),Room k A->Env0 P w K mg base A outer s H->LG s fd args (ps.zip us)->bI vs us->sp vs H Q E ->
  Hf (EJ P w) A (.call (.ref f) args) (CR CX outer P w H s Q E) s
theorem Env0.make{K:W.Frag}{outer:List Env}{H:Hp}(e:Env0 P w K mg base A outer s H)(C:Addr)(us:List D4)(kw:List (Str×D4)) :
 Env0 P w K mg base (A.under (.builtin "type.__call__" ⟨.ref C::us,kw⟩)) outer s H:=⟨by first|exact e.frames|(simpa[J2,Code.envs,Ls,pushEnvs]using e.frames),e.mod,e.bs,e.bsz,e.funs,e.frf,e.hok,e.bare⟩
section
variable{X:Cx}{pins:List (Addr×Obj)}{σ:St}{H:Hp}{s s':D6}
theorem Inv.env0(I:Inv X pins σ H s):Env0 X.prog X.w X.K X.mg X.base X.A X.stack s H :=
 ⟨I.ok.frames,I.ok.mod,I.bs,FG I.ok.bsz I.sz,I.stack,I.stkFree,I.hok,I.bare⟩
theorem Inv.after{Q:VK}{u:D4}(I:Inv X pins σ H s)(h:CE X.stack X.prog X.w H s Q u s'):EP X pins σ Q u s':=by
 obtain⟨v,H',os,bare,un,hok,r,q⟩:=h;obtain⟨hh,g,d,t,os'⟩:=s';obtain rfl:os'=s.os:=os;exact⟨v,H',I.call (h':=hh) (g':=g) (d':=d) (t':=t) (ch:=[]) un hok bare (fun b z=>absurd z (by simp)),r,q⟩
end
noncomputable def yL(sp:Sp)(dvs:List V)(E:XK)(t:TA):TE:=fun σ H Q=>t σ H fun vs H1=>sp (vs++dvs) H1 Q E
noncomputable def Binds(K:W.Frag)(fd:Gz)(ps:List Str)(ds:List D4):Prop :=
 ∀(s:D6)(us:List D4),K.In s.heap->(us++ds).length=ps.length->LG s fd ⟨us,[]⟩ (ps.zip (us++ds))
theorem Binds.all{K:W.Frag}(h:∀us:List D4,us.length=ps.length->bindArgs fd ⟨us,[]⟩=pure (ps.zip us)):Binds K fd ps []:=fun s us _ hl=>by
 rw[FO]at hl ⊢;exact .of_eq (h us hl)
noncomputable def fW(CX:DQ)(X:Cx)(E:XK):Prop:=∀(pins:List (Addr×Obj))(σ:St)(H:Hp)(s:D6)(e:D4)(s':D6),Inv X pins σ H s->CX X.stack H s E e s'->X.xe e s'
section
variable{X:Cx}{CX:DQ}{k:Nat}{f C:Addr}{fd:Gz}{ps:List Str}{sp:Sp}{dvs:List V}{ds:List D4}{E:XK}{x m:Str}{p pos apos:Pos}{e o:Expr}{es:List Expr}{ta:TE}{t:TA}
theorem vP{σ:St}{H:Hp}{Q:VK}{vs:List V}(F:FnOk X.prog X.w X.K X.mg X.base CX k f fd ps sp)(hr:Room k X.A)(hb:Binds X.K fd ps ds)(hd:bI dvs ds)(hx:fW CX X E)
 (I:Inv X pins σ H s)(r:bI vs us)(h:sp (vs++dvs) H Q E):Es (EJ X.prog X.w) X.A (call (.ref f) us) (EP X pins σ Q) X.xe s:=by
 have r2:bI (vs++dvs) (us++ds):=r.append hd;have hl:(us++ds).length=ps.length:=by rw[<- r2.length];exact F.len _ _ _ _ h
 refine Lj (Hy (F.run X.A X.stack s H ⟨us,[]⟩ (us++ds) (vs++dvs) Q E hr I.env0 (hb s us I.kIn hl) r2 h) fun r s' hq=>?_)
 cases r with
 | error e=>exact hx pins σ H s e s' I hq
 | ok fl =>
   cases fl with
   | ret u=>exact I.after hq
   | next=>exact E3 hq
   | brk=>exact E3 hq
   | cont=>exact E3 hq
theorem i5(F:FnOk X.prog X.w X.K X.mg X.base CX k f fd ps sp)(hr:Room k X.A)(hg:Gl X x)(hm:X.mg x=some (.ref f))(hk:W.keepIn X.K (.ref f)=true)(hb:Binds X.K fd ps ds)(hd:bI dvs ds)(hx:fW CX X E)
 (ha:PA X (e::es) t)(hdb:autoParam ((x==("__debug__" : Str))=false) æb._auto_1)(he:autoParam (Ec (e::es) X.env=(false,eval e X.env)::Ec es X.env) æa._auto_1)(hpl:autoParam ((FN pos (Ec es X.env)).any (·.1)=false) æa._auto_1) :
 PE X (.Call (.Name x p) (e::es) [] pos) (yL sp dvs E t):=by
 intro pins s σ H Q I h;refine G1 (gu I hg hm ?_ hdb);refine W.callWith_K (h₀:=X.base) I.ok.mod.kin hk (BY (ha pos pins s σ H _ I h) fun us s1 ⟨vs,H1,I1,r,q⟩=>⟨I1.kIn,?_⟩) he hpl;exact vP F hr hb hd hx I1 r q
end
noncomputable def PK(X:Cx)(kws:List JB)(t:TA):Prop :=
 ∀(pos:Pos)(pins:List (Addr×Obj))(s:D6)(σ:St)(H:Hp)(Q:List V->Hp->Prop),Inv X pins σ H s->t σ H Q->Es (EJ X.prog X.w) X.A (evalAll ((K8 pos (ID kws X.env)).map (·.2))) (AP X pins σ Q) X.xe s
section
variable{X:Cx}{CX:DQ}{k:Nat}{f C:Addr}{fd:Gz}{ps ks:List Str}{sp:Sp}{E:XK}{x m:Str}{p pos apos kpos:Pos}{e o:Expr}{es:List Expr}{kws:List JB}{te ta:TE}{t tk:TA}{nm:Option Str}
theorem wa:PK X [] yG:=fun _ _ _ _ H Q I h=>wpAny_evalAll_nil ⟨[],H,I,.nil,h⟩
theorem tw(ha:PE X e te)(hr:PK X kws t):PK X (⟨nm,e,kpos⟩::kws) (sr te t):=by
 intro pos pins s σ H Q I h;show Es _ _ (evalAll ((do let v <- eval e X.env;standAt pos;pure v)::(K8 pos (ID kws X.env)).map (·.2))) _ _ s;refine wpAny_evalAll_cons (D1 (BY (ha pins s σ H _ I h) fun u s1 ⟨x,H1,I1,r1,q1⟩=>D1 (Gm (D5 ?_))));exact BY (hr pos pins s1 σ H1 _ I1 q1) fun us s2 ⟨xs,H2,I2,r2,q2⟩=>⟨x::xs,H2,I2,.cons r1 r2,q2⟩
variable{g:List D4->List D4->List D4}{gV:List V->List V->List V}
end
structure FnScope (N P:List Str) (sc:Scope):Prop where
 kind:sc.kind = .function
 co:sc.isCoroutine=false
 gen:sc.isGenerator=false
 nd:N.Nodup
 pre:N.take P.length=P
 par:∀x∈P,sc.names.lookup x=some .local\/sc.names.lookup x=some .cell
 nofree:∀y∈sc.names,y.2 ≠ .free
theorem iF{kindOf:Str->Option HJ}{x:Str}:∀{binds:List (Str×D4)}{m:Str->Option D4},(∀v,(x,v)∉binds)->bindL kindOf binds m x=m x
 | [],_,_=>rfl
 | (n,v)::r,m,h=>by
   unfold bindL;rw[iF fun w hw=>h w (D7 _ hw)];split
   · have:x≠n:=by rintro rfl;exact h v Ee
     simp[this]
   · rfl
theorem iH{kindOf:Str->Option HJ}{x:Str}:∀{binds:List (Str×D4)}{m:Str->Option D4},(∀v,(x,v)∉binds)->bindC kindOf binds m x=m x
 | [],_,_=>rfl
 | (n,v)::r,m,h=>by
   unfold bindC;rw[iH fun w hw=>h w (D7 _ hw)];split
   · rfl
   · have:x≠n:=by rintro rfl;exact h v Ee
     simp[this]
theorem iG{kindOf:Str->Option HJ}{x:Str}{v:D4}:∀{P:List Str}{vs:List D4}{i:Nat}{m:Str->Option D4},P.Nodup->P[i]?=some x->vs[i]?=some v->kindOf x=some .local ->
 bindL kindOf (P.zip vs) m x=some v
 | [],_,_,_,_,h,_,_=>by simp at h
 | _::_,[],_,_,_,_,h,_=>by simp at h
 | p::P,w::vs,0,m,nd,h1,h2,hk=>by
   simp at h1 h2;subst h1;subst h2;show bindL kindOf ((p,w)::P.zip vs) m p=_;unfold bindL;rw[iF fun v hv=>(F_.mp nd).1 (J3 hv).1,if_pos hk]
   simp
 | p::P,w::vs,i+1,m,nd,h1,h2,hk=>by
   show bindL kindOf ((p,w)::P.zip vs) m x=_;unfold bindL;exact iG (i:=i) (F_.mp nd).2 (by simpa using h1) (by simpa using h2) hk
theorem iI{kindOf:Str->Option HJ}{x:Str}{v:D4}:∀{P:List Str}{vs:List D4}{i:Nat}{m:Str->Option D4},P.Nodup->P[i]?=some x->vs[i]?=some v->kindOf x≠some .local ->
 bindC kindOf (P.zip vs) m x=some v
 | [],_,_,_,_,h,_,_=>by simp at h
 | _::_,[],_,_,_,_,h,_=>by simp at h
 | p::P,w::vs,0,m,nd,h1,h2,hk=>by
   simp at h1 h2;subst h1;subst h2;show bindC kindOf ((p,w)::P.zip vs) m p=_;unfold bindC;rw[iH fun v hv=>(F_.mp nd).1 (J3 hv).1,if_neg hk]
   simp
 | p::P,w::vs,i+1,m,nd,h1,h2,hk=>by
   show bindC kindOf ((p,w)::P.zip vs) m x=_;unfold bindC;exact iI (i:=i) (F_.mp nd).2 (by simpa using h1) (by simpa using h2) hk
noncomputable def start(N:List Str)(vs:List V):St:=vs.map some++E9 (N.length-vs.length) none
noncomputable def ji(CX:DQ)(P:Ei)(w:EK)(K:W.Frag)(mg:Str->Option D4)(base:Heap)(N:List Str)(qual:Str)(scope:Scope)(f:Addr)(cd:D4)(A:EH)(outer:List Env)(s:D6)(H:Hp)(E:XK):Cx where
 prog:=P
 w:=w
 K:=K
 mg:=mg
 base:=base
 A:=A.deeper (IE qual scope s.heap.objs.size f cd)
 N:=N
 s₀:=s
 H₀:=H
 env:=IE qual scope s.heap.objs.size f cd
 outer:=outer
 stack:=IE qual scope s.heap.objs.size f cd::outer
 ex:=[]
 calm:=true
 fn:=fun _=>true
 pn:=[]
 xe:=fun e s'=>Es (EJ P w) (A.deeper (IE qual scope s.heap.objs.size f cd)) (leaving (IE qual scope s.heap.objs.size f cd) e) (fun _ s''=>CX outer H s E e s'') (fun e' s''=>CX outer H s E e' s'') s'
theorem kg{sc:Scope}(h:sc.names.lookup x=some .cell):∃c,(FW n sc.names []).lookup x=some c:=by
 have q:=W.cellsFrom_some sc.names n [] (.inl h);exact Gc.mp q
theorem nJ{CX:DQ}{K:W.Frag}{N:List Str}{cd:D4}{outer:List Env}{s1:D6}{H:Hp}{E:XK}{vs:List V}
 (S:FnScope N ps scope)(hd:A.handled=none)(e0:Env0 P w K mg base A outer s H)(hl:vs.length=ps.length)(r:bI vs us)
 (x:InCallC s s.heap.objs.size (bindL (IE qual scope s.heap.objs.size f cd).kindOf (ps.zip us) fun _=>none) (FW (s.heap.objs.size+1) scope.names []) (bindC (IE qual scope s.heap.objs.size f cd).kindOf (ps.zip us) fun _=>none) s1) :
 Inv (ji CX P w K mg base N qual scope f cd A outer s H E) [] (start N vs) H s1:=by
 have hpl:ps.length<=N.length:=by have:=congrArg List.length S.pre;rw[JN]at this;omega
 obtain⟨h1,tk,rfl,hk⟩:=x.done;have noA:∀b:Addr,b∉(ji CX P w K mg base N qual scope f cd A outer s H E).ex:=fun b z=>absurd (show b∈([]:List Addr)from z) (by simp)
 refine⟨⟨e0.mod,S.kind,rfl,rfl,Ef _,fun y z c h1 h2=>?_,fun y hy=>?_,fun y c _ h=>?_,fun _=>hd,EH.frames_deeper e0.frames,.inr ⟨rfl,rfl⟩,fun b z=>absurd z (noA b),e0.bs,e0.bsz,fun b _ _=>noA b,fun b z=>absurd z (noA b),e0.funs,e0.frf⟩,
  rfl,e0.bare,Un.kept hk,⟨_,x.toInCall.ns,fun i y v h1 h2 h3=>?_⟩,fun y c h=>⟨_,x.cell y c h⟩,e0.hok.fresh (Ef _),fun y c h=>?_,fun p hp=>absurd (show p∈([]:List (Addr×Obj))from hp) (by simp),e0.hok.kept hk,?_⟩
 · exact name_of_addr x.apart (Fb h1) (Fb h2)
 · have hy:scope.names.lookup y=some .cell\/scope.names.lookup y=some .free:=hy;rcases hy with hy|hy
   · exact kg hy
   · exact absurd rfl (S.nofree _ (Fb hy))
 · exact Lr (x.above y c (Fb h))
 · have hi:i<vs.length:=by
     unfold start at h2;by_cases hi:i<vs.length
     · exact hi
     · rw[IR (by simpa using hi)]at h2;rw[FP]at h2;split at h2<;>cases h2
   have ha:vs[i]?=some v:=by
    unfold start at h2;rw[Hh (by simpa using hi),E6]at h2
    cases e:vs[i]? with
    | none=>rw[e]at h2;cases h2
    | some a=>rw[e]at h2;cases h2;rfl
   obtain⟨u,hu,rv⟩:=r.get ha
   have hp:ps[i]?=some y:=by
    rw[<- S.pre,List.getElem?_take_of_lt (by omega)];exact h1
   have ndP:ps.Nodup:=by rw[<- S.pre];exact S.nd.sublist (List.take_sublist _ _)
   refine⟨u,rv,?_⟩;rcases S.par y (Iv hp)with k|k
   · exact .inl ⟨k,iG ndP hp hu k⟩
   · obtain⟨c,e⟩:=kg (n:=s.heap.objs.size+1) k;refine .inr ⟨.inl k,c,e,?_⟩;have q:=x.cell y c e;rw[iI ndP hp hu (by show scope.names.lookup y≠_;rw[k];decide)]at q;exact q
 · exact e0.hok.fresh (Lr (x.above y c (Fb h)))
 · unfold start;show _=N.length;rw[Fh,Eb,List.length_replicate];omega
theorem xl{CX:DQ}{K:W.Frag}{k:Nat}{name:Str}{params:Arguments}{body:List Stmt}{dV kV doc pm cdv ct oc:D4}{an od:Option Addr}
 {osl:Array (Option D4)}{N:List Str}{sp:Sp}(lk:K.lookup f=some ⟨oc,od,.func (W.fnOf name qual params body scope dV kV doc pm an cdv ct),osl⟩)(hcd:W.codeIn K cdv qual=true)(S:FnScope N ps scope)
 (len:∀vs H Q E,sp vs H Q E->vs.length=ps.length)
 (hbody:∀(A:EH)(outer:List Env)(s:D6)(H:Hp)(vs:List V)(Q:VK)(E:XK),Room k (A.deeper (IE qual scope s.heap.objs.size f cdv))->sp vs H Q E ->
  ∃t,Dt (ji CX P w K mg base N qual scope f cdv A outer s H E) body t/\t {nx:=fun _ H'=>Q .non H',rt:=Q} (start N vs) H) :
 FnOk P w K mg base CX (k+1) f (W.fnOf name qual params body scope dV kV doc pm an cdv ct) ps sp:=by
 refine⟨len,fun A outer s H args us vs Q E hr e0 hb r hsp=>?_⟩;have hl:=len _ _ _ _ hsp;have KX:K.In s.heap:=e0.mod.kin.keeps fun b o e=>(e0.bs b o e).1;have lim:s.heap.NoLimit:=e0.mod.nolimit.keeps fun b o e=>(e0.bs b o e).1
 have hkind:∀y∈ps.zip us,scope.names.lookup y.1=some .local\/(scope.names.lookup y.1=some .cell/\((FW (s.heap.objs.size+1) scope.names []).lookup y.1).isSome=true):=fun⟨n,v⟩ hy=>by
  rcases S.par n (J3 hy).1 with q|q
  · exact .inl q
  · exact .inr ⟨q,W.cellsFrom_some _ _ _ (.inl q)⟩
 refine codeAny_call_function hr.depth (KX _ _ lk) rfl S.co S.gen rfl (W.codeRec_of KX hcd) (hb _ _ _ _ ?_);refine wpAny_newFunctionEnv_cells S.kind hkind fun env he s1 x=>?_;subst he;refine⟨lim.keeps x.toInCall.keep,codeAny_func ?_⟩;obtain⟨t,ht,hq⟩:=hbody A outer s H vs Q E (hr.deeper _) hsp;have I:Inv (ji CX P w K mg base N qual scope f cdv A outer s H E) [] (start N vs) H s1:=nJ S hr.hd e0 hl r x;refine ER (ht [] s1 (start N vs) H _ I hq) (fun fl s' hs=>?_) fun e s' hs=>hs
 have fin:∀{σ':St}{H':Hp}{v:V}{u:D4},Inv (ji CX P w K mg base N qual scope f cdv A outer s H E) [] σ' H' s'->RelV v u->Q v H'->CE outer P w H s Q u s' :=
  fun{σ' H' v u} J rv q=>⟨v,H',J.os,J.bare,J.base,J.hok,rv,q⟩
 cases fl with
 | ret u =>
   obtain⟨v,σ',H',J,rv,q⟩:=hs
   exact fin J rv q
 | next =>
   obtain⟨σ',H',J,q⟩:=hs
   exact fin (v:=V.non) (u:=Fi) J rfl q
 | brk =>
   obtain⟨_,_,_,q⟩:=hs
   exact E3 q
 | cont =>
   obtain⟨_,_,_,q⟩:=hs;exact E3 q
section
variable{X:Cx}{x:Str}{p pos:Pos}{e:Expr}{es:List Expr}{t:TA}{id T:String}{r:List V->Hp->VK->Prop}
noncomputable def B5(r:List V->Hp->VK->Prop)(t:TA):TE:=fun σ H Q=>t σ H fun vs H1=>r vs H1 Q
theorem cf(hc:cr X (.builtin id) r)(hg:Gl X x)(hm:X.mg x=none)(hv:GU x=some (.builtin id))(ha:PA X (e::es) t)(hn:autoParam (x ≠ "__name__") æb._auto_1)(hdb:autoParam ((x==("__debug__" : Str))=false) æb._auto_1)
 (he:autoParam (Ec (e::es) X.env=(false,eval e X.env)::Ec es X.env) æa._auto_1)(hpl:autoParam ((FN pos (Ec es X.env)).any (·.1)=false) æa._auto_1):PE X (.Call (.Name x p) (e::es) [] pos) (B5 r t):=by
 intro pins s σ H Q I h;refine G1 (ii I hg hm hv ?_ hn hdb);exact PyProof.Rows.callWith_builtin1 (BY (ha pos pins s σ H _ I h) fun us s1 ⟨vs,H1,I1,r1,q1⟩=>hc pins s1 σ H1 vs us Q I1 r1 q1) he hpl
theorem eM(hc:cr X (.type T) r)(hg:Gl X x)(hm:X.mg x=none)(hv:GU x=some (.type T))(ha:PA X (e::es) t)(hn:autoParam (x ≠ "__name__") æb._auto_1)(hdb:autoParam ((x==("__debug__" : Str))=false) æb._auto_1)
 (he:autoParam (Ec (e::es) X.env=(false,eval e X.env)::Ec es X.env) æa._auto_1)(hpl:autoParam ((FN pos (Ec es X.env)).any (·.1)=false) æa._auto_1):PE X (.Call (.Name x p) (e::es) [] pos) (B5 r t):=by
 intro pins s σ H Q I h;refine G1 (ii I hg hm hv ?_ hn hdb);exact IC (BY (ha pos pins s σ H _ I h) fun us s1 ⟨vs,H1,I1,r1,q1⟩=>hc pins s1 σ H1 vs us Q I1 r1 q1) he hpl
end
end L2
variable{H H' F F' F₀ H₀:L2.Hp}{v:L2.V}{X:L2.Cx}{σ:L2.St}{vs:List L2.V}
namespace HT
open PySem PyProof.Rows
section
open PySem.SeqAt
open PySem.AutoSeq1 (wpAny_loadPart')
open PySem.MeetsSeq PySem.MeetsSeq2 PySem.MeetsSeq3
end
section
variable{prog:Ei}{w:EK}{A:EH}{E:D4->D6->Prop}{s:D6}
noncomputable def sIx(n d:Nat):Option Int->Nat
 | none=>d
 | some v=>if v<0 then(v+(n:Int)).toNat else min v.toNat n
theorem sIx_none(n d:Nat):sIx n d none=d:=rfl
theorem sIx_nat(n d k:Nat):sIx n d (some (k:Int))=min k n:=by
 show(if(k:Int)<0 then((k:Int)+(n:Int)).toNat else min (k:Int).toNat n)=min k n;rw[if_neg (by omega),Fm]
theorem slicePart_{v:D4}{o:Option Int}{Q:Option Int->D6->Prop}(p:IsPart v o)(h:Q o s):Es (EJ prog w) A (Builtin.Slice.slicePartIndex v) Q E s:=by
 cases p with
 | none=>exact slicePart_none h
 | int i t=>exact slicePart_int h
end
end HT
namespace L2
abbrev TO:=St->Hp->(Option Int->Hp->Prop)->Prop
noncomputable def PO(X:Cx)(e:Option Expr)(t:TO):Prop :=
 ∀ (pins:List (Addr×Obj))(s:D6)(σ:St)(H:Hp)(Q:Option Int->Hp->Prop),Inv X pins σ H s->t σ H Q ->
   Es (EJ X.prog X.w) X.A (evalPart e X.env) (fun u s'=>∃o H',Inv X pins σ H' s'/\IsPart u o/\Q o H') X.xe s
noncomputable def sj:TO:=fun _ H Q=>Q none H
noncomputable def yE(t:TE):TO:=fun σ H Q=>t σ H fun x H1=>∃i,x = .int i/\Q (some i) H1
theorem intsAre_of:∀{us:List D4},bI (ns.map V.int) us->GP us ns:=by
 induction ns with
 | nil=>intro us r;rw[FV]at r;cases r;exact .nil
 | cons n ns ih =>
   intro us r;rw[Er]at r
   cases r with
   | cons r1 r2 =>
     obtain⟨t,e⟩:=r1;subst e;exact .cons n t (ih r2)
section
variable{X:Cx}{e:Expr}{te:TE}{lo hi:Option Expr}{tl th:TO}{pos p2:Pos}
theorem tu:PO X none sj:=by
 intro pins s σ H Q I h;rw[K9];exact D5 ⟨none,H,I,.none,h⟩
theorem mL(h:PE X e te):PO X (some e) (yE te):=by
 intro pins s σ H Q I hw;rw[evalPart_some];refine BY (h pins s σ H _ I hw) fun u s1 ⟨x,H1,I1,r1,q1⟩=>?_;obtain⟨i,rfl,q⟩:=q1;obtain⟨t,rfl⟩:=r1;exact⟨some i,H1,I1,.int i t,q⟩
noncomputable def Do(X:Cx)(r:V->Option Int->Option Int->Hp->VK->Prop):Prop :=
 ∀ (pins:List (Addr×Obj))(s:D6)(σ:St)(H:Hp)(x:V)(v vl vu:D4)(lo hi:Option Int)(sl:Addr)(Q:VK),Inv X pins σ H s->RelV x v->s.heap.IsSliceOf sl vl vu .none->IsPart vl lo->IsPart vu hi->r x lo hi H Q ->
   ∃T id,typeLookup (.type T) "__getitem__" = pure (some (.builtin id))/\s.TypeIs v T/\Es (EJ X.prog X.w) X.A (KJ v (.ref sl)) (EP X pins σ Q) X.xe s
noncomputable def B1(r:V->Option Int->Option Int->Hp->VK->Prop)(te:TE)(tl th:TO):TE:=fun σ H Q=>te σ H fun x H1=>tl σ H1 fun l H2=>th σ H2 fun u H3=>r x l u H3 Q
theorem pq{r:V->Option Int->Option Int->Hp->VK->Prop}(hr:Do X r)(he:PE X e te)(hl:PO X lo tl)(hu:PO X hi th):PE X (.Subscript e (.Slice lo hi none p2) pos) (B1 r te tl th):=by
 intro pins s σ H Q I h;refine Lk (BY (he pins s σ H _ I h) fun v s1 ⟨x,H1,I1,r1,q1⟩=>?_);refine wpAny_Slice (BY (hl pins s1 σ H1 _ I1 q1) fun vl s2 ⟨l,H2,I2,pl,q2⟩=>BY (hu pins s2 σ H2 _ I2 q2) fun vu s3 ⟨u,H3,I3,pu,q3⟩=>?_);rw[K9];refine D5 ?_;have I4:Inv X pins σ H3 {s3 with heap:=s3.heap.push {cls:=.type "slice", data:=.fields #[vl,vu,.none]}}:=I3.kept (t':=s3.toks) fun b ob q=>D3 _ q;obtain⟨T,id,hT,ht,hg⟩:=hr pins {s3 with heap:=s3.heap.push {cls:=.type "slice", data:=.fields #[vl,vu,.none]}} σ H3 x v vl vu l u s3.heap.objs.size Q I4 r1 (Heap.IsSliceOf.new ..) pl pu q3;show Es (EJ X.prog X.w) X.A (K_ e (.Slice lo hi none p2) v (.ref s3.heap.objs.size)) (EP X pins σ Q) X.xe {s3 with heap:=s3.heap.push {cls:=.type "slice", data:=.fields #[vl,vu,.none]}};exact tail_any (ops:=[.ref s3.heap.objs.size,v]) ht hT hg (by with_unfolding_all rfl)
noncomputable def uH(xs:List V)(lo hi:Option Int):List V:=(xs.drop (HT.sIx xs.length 0 lo)).take (HT.sIx xs.length xs.length hi-HT.sIx xs.length 0 lo)
theorem jj(xs:List V)(lo hi:Option Int):(uH xs lo hi).length<=xs.length:=by
 unfold uH;rw[JN,List.length_drop];omega
end
noncomputable def ixN(n:Nat)(i:Int):Option Nat:=if 0<=i then(if i<n then some i.toNat else none)else if -(n:Int)<=i then some (i+n).toNat else none
noncomputable def atI{α:Type}(xs:List α)(i:Int):Option α:=(ixN xs.length i).bind fun j=>xs[j]?
theorem nA{i:Int}(h:ixN n i=some j):seqIndex? i n=some j/\j<n /\ -(n:Int)<=i/\i<n:=by
 unfold ixN at h;by_cases h0:0<=i
 · rw[if_pos h0]at h;by_cases h1:i<n
   · rw[if_pos h1]at h;have e:i.toNat=j:=EL h;exact⟨by rw[LH h0 h1,e],by omega,by omega,h1⟩
   · rw[if_neg h1]at h;cases h
 · rw[if_neg h0]at h;by_cases h1 : -(n:Int)<=i
   · rw[if_pos h1]at h;have e:(i+n).toNat=j:=EL h;exact⟨by rw[Lv (by omega) h1,e],by omega,h1,by omega⟩
   · rw[if_neg h1]at h;cases h
theorem jp{xs:List α}{i:Int}{v:α}(h:atI xs i=some v):∃j,seqIndex? i xs.length=some j/\xs[j]?=some v/\j<xs.length /\ -(xs.length:Int)<=i/\i<xs.length:=by
 unfold atI at h
 cases e:ixN xs.length i with
 | none=>rw[e]at h;cases h
 | some j =>
   rw[e]at h;obtain⟨h1,h2,h3,h4⟩:=nA e;exact⟨j,h1,h,h2,h3,h4⟩
theorem jn{xs:List α}{v:α}(h:xs[j]?=some v):atI xs (j:Int)=some v:=by
 have hj:j<xs.length:=(Ek.mp h).1
 have e:ixN xs.length (j:Int)=some j:=by
  unfold ixN;rw[if_pos (by omega),if_pos (by omega)];simp
 unfold atI;rw[e];exact h
noncomputable def oI(b:Expr):Prop:=∀o i,KL b false o i=operate [o,i] (KJ o i)
noncomputable def DK(X:Cx)(r:R2):Prop :=
 ∀ (value slice:Expr)(pins:List (Addr×Obj))(s:D6)(σ:St)(H:Hp)(x y:V)(v u:D4)(Q:VK),Inv X pins σ H s->RelV x v->RelV y u->r x y H Q ->
   KL slice false v u=operate [v,u] (KJ v u)->Es (EJ X.prog X.w) X.A (K_ value slice v u) (EP X pins σ Q) X.xe s
noncomputable def DF(X:Cx)(id:String)(r:V->List V->Hp->VK->Prop):Prop :=
 ∀ (pins:List (Addr×Obj))(s:D6)(σ:St)(H:Hp)(x:V)(xs:List V)(v:D4)(us:List D4)(Q:VK),Inv X pins σ H s->RelV x v->bI xs us->r x xs H Q ->
   Es (EJ X.prog X.w) X.A (call (.builtin id) (v::us)) (EP X pins σ Q) X.xe s
section
variable{X:Cx}{a b:Expr}{ta tb:TE}{pos:Pos}
theorem DK.or{r r':R2}(h:DK X r)(h':DK X r'):DK X (fun x y H Q=>r x y H Q\/r' x y H Q):=by
 intro value slice pins s σ H x y v u Q I rx ry q hs;rcases q with q|q
 · exact h value slice pins s σ H x y v u Q I rx ry q hs
 · exact h' value slice pins s σ H x y v u Q I rx ry q hs
theorem b4{r:R2}(hr:DK X r)(ha:PE X a ta)(hb:PE X b tb)(hs:oI b):PE X (.Subscript a b pos) (B3 r ta tb):=by
 intro pins s σ H Q I h;exact Lk (zp ha hb I h fun v u s2 x y H2 I2 rx ry q=>hr a b pins s2 σ H2 x y v u Q I2 rx ry q (hs _ _))
noncomputable def Av(K:W.Frag):R2:=fun x y H Q=>∃p xs i v,x = .ref p/\y = .int i/\Dn K H p xs/\atI xs i=some v/\Q v H
noncomputable def At(K:W.Frag):R2:=fun x y H Q=>∃p xs i v,x = .ref p/\y = .int i/\Dm K H p xs/\atI xs i=some v/\Q v H
noncomputable def Au:R2:=fun x y H Q=>∃z i c,x = .str z/\y = .int i/\z.length<=sizeLine/\atI z.cps.toList i=some c/\Q (.str ⟨#[c]⟩) H
theorem y_:DK X (Av X.K):=by
 intro value slice pins s σ H x y v u Q I rx ry h hs;obtain⟨p,xs,i,z,rfl,rfl,hq,he,q⟩:=h;cases rx;obtain⟨t,rfl⟩:=ry;obtain⟨its,r,pl,hz⟩:=I.list hq;obtain⟨j,h1,h2,h3,h4,h5⟩:=jp he;obtain⟨w,ew,rw'⟩:=r.get h2;have hl:=r.length;have hn:=ig;have fin:EP X pins σ Q w s:=⟨z,H,I,rw',q⟩;by_cases h0:0<=i
 · have hj:i.toNat=j:=by
     rw[LH h0 h5]at h1;exact EL h1
   exact item_listR pl.isList h0 (by omega) (by rw[hj];simpa using ew) fin hs
 · have hj:(i+(its.toArray.size:Int)).toNat=j:=by
     rw[Lv (by omega) h4]at h1;rw[Ej,<- hl];exact EL h1
   exact JT (x:=w) pl.isList.typeIs slot_list_getitem.lookup
    (wpAny_getItem_list_neg (Q:=fun r s'=>r=w/\EP X pins σ Q r s') pl.isList (by omega) (by rw[Ej]<;>omega) (by omega) (by rw[hj];simpa using ew) ⟨rfl,fin⟩) hs
theorem AA:DK X (At X.K):=by
 intro value slice pins s σ H x y v u Q I rx ry h hs;obtain⟨p,xs,i,z,rfl,rfl,hq,he,q⟩:=h;cases rx;obtain⟨t,rfl⟩:=ry;obtain⟨its,r,pl,hz⟩:=I.tuple hq;obtain⟨j,h1,h2,h3,h4,h5⟩:=jp he;obtain⟨w,ew,rw'⟩:=r.get h2;have hl:=r.length;have hn:=ig;have fin:EP X pins σ Q w s:=⟨z,H,I,rw',q⟩
 exact JT (x:=w) pl.typeIs slot_tuple_getitem.lookup
  (getItem_tuple (j:=j) (Q:=fun r s'=>r=w/\EP X pins σ Q r s') pl (by omega) (by omega) (by rw[Ej,<- hl];exact h1) (by simpa using ew) ⟨rfl,fin⟩) hs
theorem wI:DK X Au:=by
 intro value slice pins s σ H x y v u Q I rx ry h hs;obtain⟨z,i,c,rfl,rfl,hz,he,q⟩:=h;obtain⟨t,rfl⟩:=rx;obtain⟨t',rfl⟩:=ry;obtain⟨j,h1,h2,h3,h4,h5⟩:=jp he;have hl:z.cps.toList.length=z.length:=by simp[Str.length]
 rw[hl]at h1 h4 h5;have hn:=ig
 exact tail_any (typeIs_str s z t) slot_str_getitem.lookup (getItem_str (c:=c) (by
  have e1:decide (i < -(2^63:Int))=false:=decide_eq_false (by omega);have e2:decide (i ≥ 2^63)=false:=decide_eq_false (by omega)
  rw[e1,e2,Bool.or_false]) (by rw[h1];simpa using h2) ⟨.str ⟨#[c]⟩,H,I.tok _,⟨_,rfl⟩,q⟩) hs
noncomputable def Ci(K:W.Frag):R2:=fun x y H Q=>Av K x y H Q\/At K x y H Q\/Au x y H Q
theorem bg:DK X (Ci X.K):=y_.or (AA.or wI)
theorem kR(its:List D4)(n j:Nat)(u:D4):HW (·.setIfInBounds j u) {cls:=.type "list", data:=.seq its.toArray n}={cls:=.type "list", data:=.seq (its.set j u).toArray n}:=by
 simp[HW]
theorem Inv.lst{pins:List (Addr×Obj)}{σ:St}{H:Hp}{s:D6}{p:Addr}{xs:List V}(I:Inv X pins σ H s)(h:H p=some (.lst xs)) :
 ∃(its:List D4)(n:Nat),bI xs its/\s.heap.get? p=some {cls:=.type "list", data:=.seq its.toArray n}/\xs.length<=sizeLine:=by
 obtain⟨z,its,n,r,e⟩:=I.hok p _ h;exact⟨its,n,r,e,z⟩
theorem Inv.lstUpd{p:Addr}{xs ys:List V}{its its':List D4}{n':Nat}{f:Obj->Obj}(I:Inv X pins σ H s)(h:H p=some (.lst xs))
 (ho:s.heap.get? p=some {cls:=.type "list", data:=.seq its.toArray n})(hf:f {cls:=.type "list", data:=.seq its.toArray n}={cls:=.type "list", data:=.seq its'.toArray n' })(r:bI ys its')(hz:ys.length<=sizeLine)(t:Nat) :
 Inv X pins σ (upd H p (.lst ys)) {s with heap:=s.heap.update p f,toks:=t}:=by
 have e:(s.heap.update p f).get? p=some {cls:=.type "list", data:=.seq its'.toArray n' }:=by
  rw[ES f ho (by rw[hf]<;>rfl),hf]
 refine I.write (x:=p) (e:=p) (by rw[h];trivial) (.inl rfl) (fun b u hb q=>(EG _ _ (GM hb)).trans q) ⟨_,e⟩ ?_;exact⟨hz,its',n',r,e⟩
noncomputable def vS:V->V->V->Hp->(Hp->Prop)->Prop:=fun o i v H Q=>∃p xs k j,o = .ref p/\i = .int k/\H p=some (.lst xs)/\ixN xs.length k=some j/\Q (upd H p (.lst (xs.set j v)))
theorem d8:AK X vS:=by
 intro pins s σ H o i v ov iv u Q I ro ri rv h;obtain⟨p,xs,k,j,rfl,rfl,hp,hj,q⟩:=h;cases ro;obtain⟨t,rfl⟩:=ri;obtain⟨its,n,r,ho,hz⟩:=I.lst hp;obtain⟨h1,h2,h3,h4⟩:=nA hj;have hl:=r.length;have hn:=ig
 have I':Inv X pins σ (upd H p (.lst (xs.set j v))) {s with heap:=s.heap.update p (HW (·.setIfInBounds j u))} :=
  I.lstUpd hp ho (kR its n j u) (r.set rv j) (by rw[List.length_set];exact hz) s.toks
 by_cases h0:0<=k
 · have hk:k.toNat=j:=by
     rw[LH h0 h4]at h1;exact EL h1
   exact W.ki_setAt ho h0 (by omega) (by rw[Ej,<- hl];exact h4) (by rw[hk];exact⟨_,I',q⟩)
 · have hk:(k+(its.toArray.size:Int)).toNat=j:=by
     rw[Lv (by omega) h3]at h1;rw[Ej,<- hl];exact EL h1
   exact W.ki_setBack ho (by omega) (by rw[Ej,<- hl];exact h3) (by omega) (by rw[hk];exact⟨_,I',q⟩)
theorem gX(lo hi:Option Int)(n:Nat):(HX lo hi none n).1=((HT.sIx n 0 lo:Nat):Int)/\(HX lo hi none n).2.1=((HT.sIx n n hi:Nat):Int)/\(HX lo hi none n).2.2=1:=by
 refine⟨?_,?_,rfl⟩
 · cases lo with
   | none=>simp[HX,HT.sIx]
   | some i =>
     simp only[HX,HT.sIx,Option.getD_none,show(1:Int)>0 by decide,if_true];by_cases h:i<0
     · simp only[h,if_true]<;>omega
     · simp only[h,if_false]<;>omega
 · cases hi with
   | none=>simp[HX,HT.sIx]
   | some i =>
     simp only[HX,HT.sIx,Option.getD_none,show(1:Int)>0 by decide,if_true];by_cases h:i<0
     · simp only[h,if_true]<;>omega
     · simp only[h,if_false]<;>omega
theorem gf(its:List D4)(lo hi:Option Int):slicePick its.toArray lo hi none=((its.drop (HT.sIx its.length 0 lo)).take (HT.sIx its.length its.length hi-HT.sIx its.length 0 lo)).toArray:=by
 obtain⟨h1,h2,h3⟩:=gX lo hi its.toArray.size;unfold slicePick;rw[h1,h2,h3];simp only[sliceRange_one,pick_run,Ej]<;>rfl
noncomputable def A9(K:W.Frag):V->Option Int->Option Int->Hp->VK->Prop:=fun x lo hi H Q=>∃a xs,x = .ref a/\Dn K H a xs/\∀p,H p=none->Q (.ref p) (upd H p (.lst (uH xs lo hi)))
theorem sA:Do X (A9 X.K):=by
 intro pins s σ H x v vl vu lo hi sl Q I rx hs pl pu h;obtain⟨a,xs,rfl,hx,q⟩:=h;cases rx;obtain⟨its,r,ht,hz⟩:=I.list hx;have hlen:=r.length;refine⟨"list", _,slot_list_getitem.lookup,ht.isList.typeIs,?_⟩;refine wpAny_getItem_list_slice ht.isList hs pl pu .none (by simp) ?_ (by rw[Ej]<;>omega);rw[gf,<- hlen];refine⟨.ref s.heap.objs.size,_,I.laid (t':=s.toks) (o:=.lst (uH xs lo hi)) (fun b ob q=>D3 _ q) (Ef _) ?_,rfl,q _ (I.hok.fresh (Ef _))⟩;exact⟨FG (jj xs lo hi) hz,_,0,(r.drop (HT.sIx xs.length 0 lo)).take (HT.sIx xs.length xs.length hi-HT.sIx xs.length 0 lo),Eg _ rfl⟩
theorem bW:cr X (.builtin "len") (fun xs H Q=>∃p ys,xs=[.ref p]/\(Dn X.K H p ys\/Dm X.K H p ys)/\Q (.int ys.length) H):=by
 intro pins s σ H xs us Q I r h;obtain⟨p,ys,rfl,hq,q⟩:=h;obtain⟨u,rfl,rx⟩:=vals1 r;cases rx;have hn:=ig;rcases hq with hq|hq
 · obtain⟨its,r',pl,hz⟩:=I.list hq;have hlen:=r'.length;exact Calls.call_len_list pl.isList (by simp only[Ej]<;>omega) ⟨.int ys.length,H,I.tok _,⟨s.toks+1,by rw[Ej,hlen]⟩,q⟩
 · obtain⟨its,r',pl,hz⟩:=I.tuple hq;have hlen:=r'.length;exact len_tuple pl (by simp only[Ej]<;>omega) ⟨.int ys.length,H,I.tok _,⟨s.toks+1,by rw[Ej,hlen]⟩,q⟩
theorem iE:cr X (.type "list") (fun xs H Q=>∃p ys,xs=[.ref p]/\(Dn X.K H p ys\/Dm X.K H p ys)/\∀l,H l=none->Q (.ref l) (upd H l (.lst ys))):=by
 intro pins s σ H xs us Q I r h;obtain⟨p,ys,rfl,hq,q⟩:=h;obtain⟨u,rfl,rx⟩:=vals1 r;cases rx
 have fin:∀(its:List D4),bI ys its->ys.length<=sizeLine->∀(h':Heap)(c':Nat),(∀b o',s.heap.get? b=some o'->h'.get? b=some o') ->
  h'.get? s.heap.objs.size=some {cls:=.type "list", dict:=none,data:=.seq its.toArray c',slots:=#[]}->EP X pins σ Q (.ref s.heap.objs.size) {s with heap:=h' }:=fun its r' hz h' c' kp e =>
  ⟨.ref s.heap.objs.size,_,I.laid (t':=s.toks) kp (Ef _) (show br X.prog X.w _ h' _ (.lst ys)from⟨hz,its,c',r',e⟩),rfl,q _ (I.hok.fresh (Ef _))⟩
 rcases hq with hq|hq
 · obtain⟨its,r',pl,hz⟩:=I.list hq;have hlen:=r'.length;obtain⟨o,ho,hc,n,hd⟩:=pl.isList;exact call_list_seq p (.inl rfl) ho hc hd (fun h' c' kp e=>fin its r' hz h' c' kp e) (by simp only[Ej]<;>omega)
 · obtain⟨its,r',pl,hz⟩:=I.tuple hq;have hlen:=r'.length;obtain⟨o,ho,hc,n,hd⟩:=pl;exact call_list_seq p (.inr rfl) ho hc hd (fun h' c' kp e=>fin its r' hz h' c' kp e) (by simp only[Ej]<;>omega)
theorem gG:cr X (.type "tuple") (fun xs H Q=>∃p ys,xs=[.ref p]/\((Dn X.K H p ys/\∀l,H l=none->Q (.ref l) (upd H l (.tup ys)))\/(Dm X.K H p ys/\Q (.ref p) H))):=by
 intro pins s σ H xs us Q I r h;obtain⟨p,ys,rfl,h⟩:=h;obtain⟨u,rfl,rx⟩:=vals1 r;cases rx;rcases h with⟨hq,q⟩|⟨hq,q⟩
 · obtain⟨its,r',pl,hz⟩:=I.list hq;have hlen:=r'.length;refine call_tuple_list pl.isList (fun h' kp=>?_) (by simp only[Ej]<;>omega);have I1:Inv X pins σ H {s with heap:=h' }:=I.kept (t':=s.toks) kp
   have I2:Inv X pins σ (upd H h'.objs.size (.tup ys)) {s with heap:=h'.push {cls:=.type "tuple", data:=.seq its.toArray}} :=
    I1.laid (t':=s.toks) (fun b o e=>D3 _ e) (Ef _) (show br X.prog X.w _ _ _ (.tup ys)from⟨hz,its,r',oJ.new _ _⟩)
   exact⟨.ref h'.objs.size,_,I2,rfl,q _ (I1.hok.fresh (Ef _))⟩
 · obtain⟨its,r',pl,hz⟩:=I.tuple hq;exact call_tuple_same pl ⟨.ref p,H,I,rfl,q⟩
noncomputable def BU(K:W.Frag)(T:String)(x:V)(H:Hp):Prop:=match x with
 | .str _=>T = "str"
 | .int _=>T = "int"
 | .ref p=>(T = "list" /\ ∃xs,Dn K H p xs)\/(T = "tuple" /\ ∃xs,Dm K H p xs) \/
     (T = "dict" /\ ((∃kvs,H p=some (.dK kvs))\/∃kvs,H p=some (.dT kvs)))\/(T = "set" /\ ∃S n,H p=some (.set S n))
 | _=>False
theorem vw{T:String}{x:V}{v:D4}(I:Inv X pins σ H s)(r:RelV x v)(ty:BU X.K T x H) :
 s.TypeIs v T/\∀a,v = .ref a->∃ob,s.heap.get? a=some ob/\ob.dict=none:=by
 cases x with
 | str z =>
   obtain⟨t,rfl⟩:=r;cases(show T = "str" from ty)
   exact⟨typeIs_str s z t,fun _ e=>nomatch e⟩
 | int i =>
   obtain⟨t,rfl⟩:=r;cases(show T = "int" from ty)
   exact⟨typeIs_int s i t,fun _ e=>nomatch e⟩
 | ref p =>
   cases r;rcases ty with⟨rfl,xs,hq⟩|⟨rfl,xs,hq⟩|⟨rfl,hk⟩|⟨rfl,S,n,hk⟩
   · obtain⟨its,_,pl,_⟩:=I.list hq;refine⟨pl.isList.typeIs,fun a e=>?_⟩;cases e;obtain⟨o,n,e,c,hd,_⟩:=pl;exact⟨o,e,hd⟩
   · obtain⟨o,e1,e2,e3⟩:=I.tupleD hq;refine⟨⟨o,e1,e2⟩,fun a e=>?_⟩;cases e;exact⟨o,e1,e3⟩
   · have z:∃o,s.heap.get? p=some o/\o.ExactDict:=by
       rcases hk with⟨kvs,hk⟩|⟨kvs,hk⟩
       · obtain⟨_,_,_,_,o,_,_,e,ex,_⟩:=I.hok p _ hk;exact⟨o,e,ex⟩
       · obtain⟨_,_,_,_,o,_,_,e,ex,_⟩:=I.hok p _ hk;exact⟨o,e,ex⟩
     obtain⟨o,e,ex⟩:=z;refine⟨⟨o,e,ex.1⟩,fun a e2=>?_⟩;cases e2;exact⟨o,e,ex.2.1⟩
   · obtain⟨o,_,_,_,e,ex,_⟩:=I.hok p _ hk;refine⟨⟨o,e,ex.1⟩,fun a e2=>?_⟩;cases e2
     exact⟨o,e,ex.2.1⟩
 | _=>exact E3 ty
noncomputable def B6(K:W.Frag)(T:String)(r:V->List V->Hp->VK->Prop)(to:TE)(t:TA):TE:=fun σ H Q=>to σ H fun x H1=>BU K T x H1/\t σ H1 fun xs H2=>r x xs H2 Q
variable{o e:Expr}{es:List Expr}{to:TE}{t:TA}{name:Str}{apos cpos:Pos}{T id:String}{r:V->List V->Hp->VK->Prop}
theorem y7(pa:PlainAttrs T)(slot:Slot T name id)(hty:typeOf (.builtin id)=pure (.type "method_descriptor"))(hm:DF X id r)(ho:PE X o to)(ha:PA X (e::es) t)
 (hbase:autoParam (JC o name X.env (eval o X.env)=eval o X.env) æa._auto_1)
 (hfew:autoParam (((FN cpos (Ec (e::es) X.env)).all (fun x=>!x.1)&&(K8 cpos (ID [] X.env)).all (fun x=>x.1.isSome)
  && decide ((e::es).length+([]:List JB).length+(if([]:List JB).isEmpty then 0 else 1)<30))=true) æa._auto_1)
 (hline:autoParam ((apos.endLine==cpos.line)=true) æa._auto_1)(hs:autoParam (Ec (e::es) X.env=(false,eval e X.env)::Ec es X.env) æa._auto_1)(hplain:autoParam ((FN cpos (Ec es X.env)).any (·.1)=false) æa._auto_1) :
 PE X (.Call (.Attribute o name apos) (e::es) [] cpos) (B6 X.K T r to t):=by
 intro pins s σ H Q I h;refine wpAny_Call_method_late hbase hfew hline rfl (BY (ho pins s σ H _ I h) fun v s1 ⟨x,H1,I1,r1,ty,q1⟩=>?_);obtain⟨h1,h2⟩:=vw I1 r1 ty;refine⟨T,id,pa,slot,hty,h1,h2,?_⟩;have hA:=ha cpos pins s1 σ H1 _ I1 q1;rw[hs]at hA ⊢;refine JU (by show(false||(FN cpos (Ec es X.env)).any (·.1))=false;rw[hplain]<;>rfl) (Ky ?_);exact BY hA fun us s2 ⟨vs,H2,I2,r2,q2⟩=>hm pins s2 σ H2 x vs v us Q I2 r1 r2 q2
end
noncomputable def DG(X:Cx)(id:String)(r:V->List V->Hp->VK->Prop):Prop :=
 ∀ (pins:List (Addr×Obj))(s:D6)(σ:St)(H:Hp)(x:V)(xs:List V)(v:D4)(us:List D4)(Q:VK),Inv X pins σ H s->RelV x v->bI xs us->r x xs H Q ->
   Es (EJ X.prog X.w) X.A (call (.builtin id) (v::us)) (EP X pins σ Q) X.xe s
theorem bI.one:∀{x:V}{us:List D4},bI [x] us->∃u,us=[u]/\RelV x u
 | _,_,.cons r .nil=>⟨_,rfl,r⟩
theorem bI.reverse{xs:List V}(h:bI xs us):bI xs.reverse us.reverse:=by
 induction h with
 | nil=>exact .nil
 | cons r t ih=>rw[HY,HY];exact bI.append ih (.cons r .nil)
section
variable{X:Cx}{pins:List (Addr×Obj)}{σ:St}{H:Hp}{s:D6}{l b:Addr}{xs ys zs:List V}
theorem Inv.lset{its its':List D4}{f:Array D4->Array D4}{t':Nat}(I:Inv X pins σ H s)(hH:H l=some (.lst xs))
 (e:s.heap.get? l=some {cls:=.type "list", data:=.seq its.toArray n})(hf:f its.toArray=its'.toArray)(hv:bI ys its')(hz:ys.length<=sizeLine) :
 Inv X pins σ (upd H l (.lst ys)) {s with heap:=s.heap.update l (HW f),toks:=t' }:=by
 have q:=PySem.IsL.update e f;rw[hf]at q;refine I.write (x:=l) (e:=l) (by rw[hH];exact trivial) (.inl rfl) (fun b' u hb hu=>(EG s.heap (HW f) (GM hb)).trans hu) ⟨_,q⟩ ?_;exact⟨hz,its',_,hv,q⟩
theorem Inv.lstM(I:Inv X pins σ H s)(hH:H l=some (.lst xs)):xs.length<=sizeLine/\∃(its:List D4)(n:Nat),bI xs its/\xs.length=its.length/\s.heap.get? l=some {cls:=.type "list", data:=.seq its.toArray n}:=by
 obtain⟨z,its,n,r,e⟩:=I.hok l _ hH;exact⟨z,its,n,r,r.length,e⟩
end
section
variable{X:Cx}
noncomputable def mn:V->List V->Hp->VK->Prop:=fun x vs H Q=>∃l xs y,x = .ref l/\vs=[y]/\H l=some (.lst xs)/\xs.length<sizeLine/\Q .non (upd H l (.lst (xs++[y])))
theorem ib:DG X "list.append" mn:=by
 intro pins s σ H x vs v us Q I rx rv h;obtain⟨l,xs,y,rfl,rfl,hH,hz,q⟩:=h;cases rx;obtain⟨u,rfl,ru⟩:=rv.one;obtain⟨z,its,n,r,hl,e⟩:=I.lstM hH;refine call_meets F.slot_list_append ⟨_,e,rfl⟩ F.entry_list_append (F.args_list_append_2 _ _) (PySem.list_append l its.toArray n u (by rw[Ej];omega)) ⟨e,?_⟩;refine⟨.non,_,I.lset (its':=its++[u]) hH e (by simp) (r.append (.cons ru .nil)) ?_,rfl,q⟩;rw[Fh,J7];omega
end
section
variable{prog:Ei}{w:EK}{A:EH}{E:D4->D6->Prop}{s:D6}
end
section
variable{X:Cx}
end
section
variable{κ:Type}[DecidableEq κ]
noncomputable def km(kvs:List (κ×V))(k:κ):Option V:=(kvs.find? fun kv=>decide (kv.1=k)).map (·.2)
noncomputable def mF(kvs:List (κ×V))(k:κ)(v:V):List (κ×V) :=
 if(kvs.any fun kv=>decide (kv.1=k))=true then kvs.map (fun kv=>if kv.1=k then(kv.1,v)else kv)else kvs++[(k,v)]
theorem jA{p:κ×V}{r:List (κ×V)}{k:κ}(e:p.1=k):km (p::r) k=some p.2:=by simp[km,E7,e]
theorem jB{p:κ×V}{r:List (κ×V)}{k:κ}(e:¬p.1=k):km (p::r) k=km r k:=by simp[km,E7,e]
theorem jc(kvs:List (κ×V))(k:κ)(v:V):(mF kvs k v).length<=kvs.length+1:=by
 unfold mF;split
 · rw[Eb];omega
 · rw[Fh,EQ,Gy];omega
theorem KV.val{kvs:List (κ×V)}{vs:List (κ×D4)}(r:KV kvs vs)(k:κ):xE (km kvs k) (Ll vs k):=by
 unfold KV at r
 induction r with
 | nil=>exact Hz
 | @cons p q ps qs h t ih =>
   obtain⟨h1,h2⟩:=h;by_cases e:p.1=k
   · have e':q.1=k:=h1.symm.trans e;have b:Ll (q::qs) k=some q.2:=by simp[Ll,E7,e']
     rw[jA e,b];exact h2
   · have e':¬q.1=k:=fun z=>e (h1.trans z);have b:Ll (q::qs) k=Ll qs k:=by simp[Ll,E7,e']
     rw[jB e,b];exact ih
theorem KV.any{kvs:List (κ×V)}{vs:List (κ×D4)}(r:KV kvs vs)(k:κ):(kvs.any fun kv=>decide (kv.1=k))=vs.any fun kv=>decide (kv.1=k):=by
 unfold KV at r
 induction r with
 | nil=>rfl
 | cons h t ih=>rw[HK,HK,ih,h.1]
theorem KV.repl{kvs:List (κ×V)}{vs:List (κ×D4)}(r:KV kvs vs)(k:κ){y:V}{u:D4}(ry:RelV y u) :
 KV (kvs.map fun kv=>if kv.1=k then(kv.1,y)else kv) (vs.map fun kv=>if kv.1=k then(kv.1,u)else kv):=by
 unfold KV at r ⊢
 induction r with
 | nil=>exact .nil
 | @cons p q ps qs h t ih =>
   rw[Er,Er];refine .cons ?_ ih;obtain⟨h1,h2⟩:=h;by_cases e:p.1=k
   · rw[if_pos e,if_pos (h1.symm.trans e)];exact⟨h1,ry⟩
   · rw[if_neg e,if_neg (fun z=>e (h1.trans z))];exact⟨h1,h2⟩
theorem KV.put{kvs:List (κ×V)}{vs:List (κ×D4)}(r:KV kvs vs)(k:κ){y:V}{u:D4}(ry:RelV y u):KV (mF kvs k y) (stored vs k u):=by
 unfold mF stored;rw[r.any k];by_cases e:(vs.any fun kv=>decide (kv.1=k))=true
 · rw[if_pos e,if_pos e];exact r.repl k ry
 · rw[if_neg e,if_neg e];exact Fe.snoc r ⟨rfl,ry⟩
theorem KV.keys{kvs:List (κ×V)}{vs:List (κ×D4)}(r:KV kvs vs):kvs.map (·.1)=vs.map (·.1):=by
 unfold KV at r
 induction r with
 | nil=>rfl
 | cons h t ih=>rw[Er,Er,ih,h.1]
theorem KV.length{kvs:List (κ×V)}{vs:List (κ×D4)}(r:KV kvs vs):kvs.length=vs.length:=Gk r
end
theorem tZ{k:DH}{u:D4}(r:RelV (kV k) u):(bp P w).is k u=true:=by
 cases k with
 | inl i=>obtain⟨t,e⟩:=(show ∃t,u=IA i t from r);subst e;exact i9 P w i t
 | inr x=>obtain⟨t,e⟩:=(show ∃t,u=LC x t from r);subst e;exact i8 P w x t
theorem il{P:Ei}{w:EK}:∀{ks:List DH}{us:List D4},bI (ks.map kV) us->ItemsAre (bp P w) ks us
 | [],_,r=>by rw[FV]at r;cases r;exact .nil
 | k::ks,_,r=>by
   rw[Er]at r
   cases r with
   | cons h t=>exact .cons (tZ h) (il t)
abbrev KT(H:Hp):List (List DH×V)->List (List DH×Addr×D4)->Prop:=Fe fun p q=>p.1=q.1/\H q.2.1=some (.tup (p.1.map kV))/\RelV p.2 q.2.2
theorem KT.val{kvs:List (List DH×V)}{xs:List (List DH×Addr×D4)}(r:KT H kvs xs)(k:List DH):xE (km kvs k) ((KM xs k).map (·.2)):=by
 induction r with
 | nil=>exact Hz
 | @cons p q ps qs h t ih =>
   obtain⟨h1,_,h2⟩:=h;by_cases e:p.1=k
   · have e':q.1=k:=h1.symm.trans e;have b:KM (q::qs) k=some q.2:=by simp[KM,E7,e']
     rw[jA e,b];exact h2
   · have e':¬q.1=k:=fun z=>e (h1.trans z);have b:KM (q::qs) k=KM qs k:=by simp[KM,E7,e']
     rw[jB e,b];exact ih
section
variable{P:Ei}{w:EK}{H:Hp}{h:Heap}{a:Addr}
theorem vR{u:HO}(ok:DO P w H h)(e:Rd H a u):br P w H h a u:=e.ok ok
theorem qb{kvs:List (DH×V)}(ok:DO P w H h)(e:Rd H a (.dK kvs)):kvs.length<=sizeLine/\(a==Gb)=false/\∃vs,KV kvs vs/\h.DictOf (bp P w) a vs :=
 show br P w H h a (.dK kvs)from vR ok e
theorem zo{kvs:List (DH×V)}(ok:DO P w H h)(e:H a=some (.dK kvs)):kvs.length<=sizeLine/\(a==Gb)=false/\∃vs,KV kvs vs/\h.DictOf (bp P w) a vs:=qb ok (.inl e)
theorem qQ{ks:List DH}(ok:DO P w H h)(e:H a=some (.tup (ks.map kV))):(Hg (bp P w)).is h ks a:=by
 obtain⟨_,its,r,o,h1,h2,⟨n,h3⟩,_⟩:=(show br P w H h a (.tup (ks.map kV))from ok a _ e);exact⟨o,its.toArray,n,h1,h2,h3,by simpa using il r⟩
theorem xu{kvs:List (List DH×V)}(ok:DO P w H h)(e:Rd H a (.dT kvs)):kvs.length<=sizeLine/\(a==Gb)=false /\
 ∃xs,KT H kvs xs/\h.DictOfH (Hg (bp P w)) a xs:=by
 obtain⟨z,y,xs,r,o,es,ep,h1,h2,h3,h4,h5⟩:=(show br P w H h a (.dT kvs)from vR ok e);refine⟨z,y,xs,r,o,es,ep,h1,h2,h3,h4,fun x hx=>?_,h5⟩
 have all:∀{l:List (List DH×V)}{m:List (List DH×Addr×D4)},KT H l m->∀x∈m,(Hg (bp P w)).is h x.1 x.2.1:=by
  intro l m q
  induction q with
  | nil=>intro x hx;exact nomatch hx
  | @cons p q ps qs hq t ih =>
    intro x hx;rcases Ev.mp hx with e|hx
    · subst e;exact qQ ok (by rw[<- hq.1];exact hq.2.1)
    · exact ih x hx
 exact all r x hx
end
noncomputable def ya(H:Hp)(a:Addr)(y:V)(r:Option V):Prop :=
 (∃kvs k,Rd H a (.dK kvs)/\y=kV k/\r=km kvs k)\/∃kvs k b,Rd H a (.dT kvs)/\y = .ref b/\H b=some (.tup (k.map kV))/\r=km kvs k
theorem ya.k{H:Hp}{a:Addr}{kvs:List (DH×V)}{k:DH}(e:H a=some (.dK kvs)):ya H a (kV k) (km kvs k):=.inl ⟨kvs,k,.inl e,rfl,rfl⟩
section
variable{X:Cx}{pins:List (Addr×Obj)}{σ:St}{H:Hp}{s:D6}{a:Addr}{y v:V}{u r:D4}{o:Option V}{A:EH}{E:D4->D6->Prop}
theorem Inv.big(I:Inv X pins σ H s):Gb<s.heap.objs.size:=by
 have h:ED<s.heap.objs.size:=(I.mod.glob.keeps I.bk).lt;exact Nat.lt_trans (by decide) h
theorem oi(hu:A.units+1<Kx)(I:Inv X pins σ H s)(g:ya H a y (some v))(ry:RelV y u)(h:∀w' s',Inv X pins σ H s'->RelV v w'->Q w' s') :
 Es (EJ X.prog X.w) A (KJ (.ref a) u) Q E s:=by
 rcases g with⟨kvs,k,e,ey,l⟩|⟨kvs,k,b,e,ey,eb,l⟩
 · subst ey;obtain⟨z,hd,vs,rel,dd⟩:=qb I.hok e;obtain⟨w',hw,rw'⟩:=xE.some_of (v:=v) (o:=Ll vs k) (by rw[l];exact rel.val k);exact wpAny_getItem_of (tZ ry) dd.mapOf hw (h w' _ (I.tok _) rw')
 · subst ey;cases(show u=EO b from ry);obtain⟨z,hd,xs,rel,dd⟩:=xu I.hok e;obtain⟨w',hw,rw'⟩:=xE.some_of (v:=v) (o:=(KM xs k).map (·.2)) (by rw[l];exact rel.val k);obtain⟨p,hp,hp2⟩:=Fw.mp hw;refine wpAny_getItem_heap (HL hu) (qQ I.hok eb) dd hp ?_;rw[hp2];exact h w' _ (I.tok _) rw'
theorem oh{t':Nat}{ob:HO}(I:Inv X pins σ H s)(mu:DE (H a))(hs:GV a s.heap h')(he:∃q,h'.get? a=some q)(new:br X.prog X.w (upd H a ob) h' a ob) :
 Inv X pins σ (upd H a ob) {s with heap:=h',toks:=t' } :=
 I.write (x:=a) (e:=a) mu (.inl rfl) (fun b q hb z=>(hs.2 b hb).trans z) he new
theorem dk_new{kvs:List (DH×V)}{vs:List (DH×D4)}(z:kvs.length<=sizeLine)(hd:(a==Gb)=false)(rel:KV kvs vs)(dd:h'.DictOf (bp P w) a vs) :
 br P w H' h' a (.dK kvs):=⟨z,hd,vs,rel,dd⟩
end
section
variable{X:Cx}{pins:List (Addr×Obj)}{σ:St}{H:Hp}{s:D6}{a:Addr}{kvs:List (DH×V)}{k:DH}{u:D4}{A:EH}{E:D4->D6->Prop}
end
noncomputable def xF(i:Expr):Prop:=∀ov iv,KL i false ov iv=operate [ov,iv] (KJ ov iv)
theorem lV{prog:Ei}{env:Env}{value slice:Expr}{T id:String}
 (hl:typeLookup (.type T) "__getitem__" = pure (some (.builtin id)))(hs:xF slice)
 (h:Es (EJ prog w) A (eval value env) (fun o s₁=>Es (EJ prog w) A (eval slice env) (fun i s₂=>s₂.TypeIs o T/\Es (EJ prog w) A (KJ o i) Q E s₂) E s₁) E s) :
 Es (EJ prog w) A (eval (.Subscript value slice pos) env) Q E s:=by
 refine Lk (ER h (fun o s₁ h₁=>ER h₁ (fun i s₂ h₂=>?_) fun _ _ x=>x) fun _ _ x=>x);obtain⟨hT,h₂⟩:=h₂;unfold K_;refine D1 ?_;rw[getitemInPython_of_ne hT.not_modules];refine D1 (wpAny_specialOf hT hl ?_)
 have fin:Es (EJ prog w) A (KL slice false o i) (fun r s₃=>Es (EJ prog w) A (letTemporaryGo value o r >>= fun _=>pure r) Q E s₃) E s₂:=by
  rw[hs o i];exact wpAny_operating (ER h₂ (fun r s₃ h₃=>D1 (wpAny_letTemporaryGo (D5 h₃))) fun _ _ x=>x)
 first
  | exact D5 (D1 fin)
  | exact D1 (D5 (D1 fin))
  | exact D1 fin
theorem jh{y:V}{o:Option V}(I:Inv X pins σ H s)(g:ya H a y o):s.TypeIs (.ref a) "dict" := by
 rcases g with⟨kvs,k,e,_,_⟩|⟨kvs,k,b,e,_,_,_⟩
 · obtain⟨_,_,vs,_,dd⟩:=qb I.hok e;exact dd.typeIs
 · obtain⟨_,_,xs,_,dd⟩:=xu I.hok e;exact dd.typeIs
noncomputable def yK(td ty:TE):TE:=fun σ H Q=>td σ H fun x H1=>ty σ H1 fun y H2=>∃a v,x = .ref a/\ya H2 a y (some v)/\Q v H2
section
variable{X:Cx}{o i e value:Expr}{pos pos' tpos:Pos}{td ty tv:TE}
theorem tJ(hu:X.A.units+1<Kx)(ho:PE X o td)(hi:PE X i ty)(hs:xF i):PE X (.Subscript o i pos) (yK td ty):=by
 intro pins s σ H Q I h;refine lV Jf.lookup hs (BY (ho pins s σ H _ I h) fun u s1 ⟨x,H1,I1,rx,q1⟩=>BY (hi pins s1 σ H1 _ I1 q1) fun iv s2 ⟨y,H2,I2,ry,a,v,ex,g,q2⟩=>?_);subst ex;obtain rfl:u=EO a:=rx;exact⟨jh I2 g,oi hu I2 g ry fun w' s3 I3 rw'=>⟨v,H2,I3,rw',q2⟩⟩
end
theorem ka(h:Heap)(hb:Gb<h.objs.size):br P w H (h.push {cls:=.type "dict", data:=.dict #[]}) h.objs.size (.dK []) :=
 ⟨Gg _,beq_eq_false_iff_ne.mpr (GM (Ey hb)),[],.nil,Heap.DictOf.new h⟩
section
variable{X:Cx}{pos:Pos}
end
structure M2 (X:Cx) (o:Expr) (m:Str) (apos:Pos) (e f:Expr) (cpos:Pos):Prop where
 base:JC o m X.env (eval o X.env)=eval o X.env
 few:((FN cpos (Ec [e,f] X.env)).all (fun x=>!x.1)&&(K8 cpos (ID [] X.env)).all (fun x=>x.1.isSome)
  && decide (([e,f]:List Expr).length+([]:List JB).length+(if([]:List JB).isEmpty then 0 else 1)<30))=true
 line:(apos.endLine==cpos.line)=true
 trees:FN cpos (Ec [e,f] X.env)=[(false,eval e X.env),(false,eval f X.env)]
section
variable{X:Cx}{pins:List (Addr×Obj)}{σ:St}{H:Hp}{s:D6}{a:Addr}{y d:V}{u r:D4}{o:Option V}{A:EH}{E:D4->D6->Prop}
end
section
variable{X:Cx}{o e f:Expr}{apos cpos:Pos}{td ty tx:TE}
end
section
variable{X:Cx}{pins:List (Addr×Obj)}{σ:St}{H:Hp}{s:D6}{a:Addr}{kvs:List (DH×V)}{A:EH}{E:D4->D6->Prop}
end
section
variable{X:Cx}{pins:List (Addr×Obj)}{σ:St}{H:Hp}{s:D6}{a:Addr}{y:V}{u:D4}{A:EH}{E:D4->D6->Prop}
end
end L2
namespace Att
open PySem PySem.W PySem.Calls PyProof.Rows
theorem eU{P:LQ}:∀(ns:List Int)(vs:List D4),WellAll P h vs (ns.map WData.int)->GP vs ns:=by
 intro ns
 induction ns with
 | nil =>
   intro vs w;rw[FV]at w;cases w
   exact .nil
 | cons n ns ih =>
   intro vs w;rw[Er]at w
   cases w with
   | cons a b =>
     cases a;exact .cons _ _ (ih _ b)
theorem l5{l:LR}(hn:l.most=some n){P:LQ}{args:List WData}{vals:List D4}
 (hpre:l.row.toRowW.claim.pre args=true)(hwl:WellAll P h vals args) :
 ∃a vs ns,vals=[EO a]/\args=[WData.list (ns.map WData.int)]/\h.get? a=some {cls:=.type "list", data:=.seq vs.toArray}/\GP vs ns/\ns.length<=n:=by
 have hsh:WShape.hasAll [] args [.list .int]=true:=(pre_splitW hpre).1;have hc:l.pre.holds [] {args:=args}=true:=(pre_splitW hpre).2;obtain⟨d,r,rfl,h1,h2⟩:=hasAllW_cons hsh;obtain rfl:=hasAllW_nil h2;obtain⟨xs,rfl,h3⟩:=hasW_list h1;obtain⟨ns,rfl⟩:=items_int h3
 have hlen:ns.length<=n:=by
  unfold LR.pre at hc
  have h4:(WTm.not (.lt (.lit (.int (n:Int))) (.len (.arg 0)))).holds [] {args:=[.list (ns.map .int)]}=true:=by
   have h4:=(holds_andW hc).1;rw[hn]at h4;exact h4
  have h5:=condW_of h4 (w_not (w_lt w_lit (w_len_list (w_arg rfl))));rw[Eb]at h5;refine Nat.le_of_not_lt fun q=>?_;have q':(n:Int)<((ns.length:Nat):Int):=by omega
  first
   | (rw[decide_eq_true q']at h5;exact absurd h5 (by decide))
   | (simp at h5;omega)
 cases hwl with
 | cons w1 w2 =>
   cases w2
   cases w1 with
   | list ho hall=>exact⟨_,_,ns,rfl,rfl,ho,eU ns _ hall,hlen⟩
theorem mK(l:LR)(args:List WData):l.row.toRowW.claim.post args (.bool true) args=true :=
 postW_of (r:=l.row.toRowW) (X:=(true==true))
  (show WShape.has [] (.bool true) .bool=true by first|rfl|decide|simp[WShape.has,WShape.arms,WShape.armsAll])
  (show(WTm.eq .res (.lit (.bool true))).value [] {args:=args,res:=some (.bool true),after:=args}=some (.bool (true==true))from w_eq_bool (w_res rfl) w_lit) rfl
theorem attach_call{l:LR}{q:Ei}{YP:EK->Heap->Prop}{d:DefRec}
 (hn:l.most=some n)(hdf:d.params.defaults=[])
 (call:∀(w:EK)(s₀ s₁:D6)(mg mb:Str->Option D4)(fa:Addr)(o:Obj)(pm cd doc:D4)(a:Addr)(vs:List D4)(ns:List Int),
  Ground q loose [] XP w s₀ mg mb s₁.heap->YP w s₁.heap ->
  s₁.heap.get? fa=some o->o.data = .func (docDef d.name d.params d.body d.scope pm cd doc)->s₁.heap.CodeRec cd d.name->mg d.name=some (.ref fa) ->
  s₁.heap.get? a=some {cls:=.type "list", data:=.seq vs.toArray}->GP vs ns->ns.length<=n->s₁.gens = #[] ->
  Hf (EJ l.prog w) Lm (.call (.ref fa) ⟨[.ref a],[]⟩) (fun r s'=>r = .ok (.ret (.bool true))/\OldK s₁.heap s'.heap/\s'.os=s₁.os/\Jy s'.gens) s₁) :
 WalkO q loose XP YP l.row.toRowW d [] (fun f vs=>PySem.call f vs):=by
 intro w s₀ s₁ mg mb G Y fa o pm cd doc dV kV ho hd hcd hD hmg hg args vals as hpre hlay hrd hwl hlo;obtain rfl:dV = .none:=Dflts.none hD hdf;obtain rfl:kV = .none:=Dflts.noKw hD;obtain⟨a,vs,ns,rfl,rfl,hobj,hints,hlen⟩:=l5 hn hpre hwl;refine enter_call (Hy (call w s₀ s₁ mg mb fa o pm cd doc a vs ns G Y ho (fd_plain hd) hcd hmg hobj hints hlen hg) fun r s' hq=>?_);obtain⟨rfl,h2,h3,h4⟩:=hq;exact⟨.inl ⟨.bool true,.bool true,[],rfl,fun _=>rfl,.bool true,mK l _,fun _=>⟨La.nil,fun _ hm=>(nomatch hm)⟩⟩,h2,h3,h4⟩
section
variable{prog:Ei}{w:EK}{A:EH}{E:D4->D6->Prop}{s:D6}{K:Frag}
end
end Att
namespace L2
theorem gQ:∀{vs:List D4}{ns:List Int},GP vs ns->bI (ns.map V.int) vs
 | _,_,.nil=>.nil
 | _,_,.cons n t h=>.cons ⟨t,rfl⟩ (gQ h)
noncomputable def zw(H:Hp):Prop:=∀b,H b=none\/∃o xs,H b=some (.frz o (.lst xs))
theorem pO{K:W.Frag}{mb:Str->Option D4}{CX:DQ}{k:Nat}{fa:Addr}{sp:Sp}{s₁:D6}{vs:List D4}
 (KX:K.In s₁.heap)(hns:s₁.heap.Ns ED mg)(hb:s₁.heap.Ns builtinsNs mb)(hbb:∀x:Str,x ≠ "__name__" -> mb x=GU x)(hlim:s₁.heap.NoLimit)(hg:s₁.gens = #[])
 (ha:s₁.heap.get? a=some {cls:=.type "list", data:=.seq vs.toArray})(hi:GP vs ns)(hl:ns.length<=sizeLine)(hr:Room k Lm)
 (F:∀base:Heap,K.In base->base.Ns ED mg->FnOk P w K mg base CX k fa fd [x] sp)(hbind:∀(s:D6)(u:D4),LG s fd ⟨[u],[]⟩ [(x,u)])
 (hsp:∀H:Hp,zw H->Dn K H a (ns.map V.int)->sp [.ref a] H (fun v _=>v = .bl true) fun _ _ _=>False)
 (hCX:∀H e s',CX [] H s₁ (fun _ _ _=>False) e s'->False) :
 Hf (EJ P w) Lm (.call (.ref fa) ⟨[.ref a],[]⟩) (fun r s'=>r = .ok (.ret (.bool true))/\OldK s₁.heap s'.heap/\s'.os=s₁.os/\Jy s'.gens) s₁:=by
 have rv:=gQ hi;have lenV:=hi.length
 have core:∀H:Hp,zw H->Dn K H a (ns.map V.int)->DO P w H s₁.heap->(∀b,H b≠none->b=a)->(H a≠none->K.lookup a=none) ->
  Hf (EJ P w) Lm (.call (.ref fa) ⟨[.ref a],[]⟩) (fun r s'=>r = .ok (.ret (.bool true))/\OldK s₁.heap s'.heap/\s'.os=s₁.os/\Jy s'.gens) s₁:=by
  intro H hO hS hok hA hK;have base_of:∀{b:Addr}{o:Obj},s₁.heap.get? b=some o->H b=none->(pU s₁.heap H).get? b=some o:=fun e n=>pS e n
  have noA:∀{b:Addr}{o:Obj}{es:Array Ik}{ep:Nat},s₁.heap.get? b=some o->o.data = .dict es ep->H b=none:=fun{b o es ep} e d=>by
   cases q:H b with
   | none=>rfl
   | some u =>
     have e':b=a:=hA b (by rw[q];simp);subst e';rw[ha]at e;cases e;have d':Data.seq vs.toArray _=Data.dict es ep:=d;cases d'
  have nsK:∀{b:Addr}{m:Str->Option D4},s₁.heap.Ns b m->(pU s₁.heap H).Ns b m:=fun{b m} ⟨o,es,ep,e,d,r⟩=>⟨o,es,ep,base_of e (noA e d),d,r⟩
  have hKb:K.In (pU s₁.heap H):=fun b o e=>base_of (KX b o e) (by
   cases q:H b with
   | none=>rfl
   | some u =>
     have e':b=a:=hA b (by rw[q];simp);subst e'
     rw[hK (by rw[q];simp)]at e;cases e)
  have hM:Mod K mg (pU s₁.heap H):=⟨hKb,nsK hns,⟨mb,nsK hb,hbb⟩,let ⟨mc,h1,h2⟩:=hlim;⟨mc,nsK h1,h2⟩⟩;have e0:Env0 P w K mg (pU s₁.heap H) Lm [] s₁ H:=⟨rfl,hM,fun b o e=>tM e,Nat.le_of_eq (nU _ _),trivial,fun b hb=>absurd (show b∈([]:List Addr)from hb) (by simp),hok,.of_eq hg⟩;refine Hy ((F _ hKb (nsK hns)).run Lm [] s₁ H ⟨[.ref a],[]⟩ [.ref a] [.ref a] _ _ hr e0 (hbind s₁ (.ref a)) (.cons rfl .nil) (hsp H hO hS)) fun r s' h=>?_
  cases r with
  | error e=>exact(hCX H e s' h).elim
  | ok fl =>
    cases fl with
    | next=>exact E3 h
    | brk=>exact E3 h
    | cont=>exact E3 h
    | ret u =>
      obtain⟨v,H',os,bare,un,hok',r',q⟩:=h;have q':v = .bl true:=q;subst q';obtain rfl:u=Kt true:=r';refine⟨rfl,OldK.of_keep fun b o e=>?_,os,bare⟩
      cases q:H b with
      | none=>exact un.keep b o e q (by intro z;exact absurd (show b∈([]:List Addr)from z) (by simp)) (by simp)
      | some u =>
        rcases hO b with z|⟨ob,xs,z⟩
        · rw[q]at z;cases z
        · have z2:=un.frzs b ob _ z;obtain⟨e1,_⟩:=hok b _ z;obtain⟨e2,_⟩:=hok' b _ z2;rw[e]at e1;cases e1;exact e2
 cases hk:K.lookup a with
 | some o =>
   have e:=KX a o hk;rw[ha]at e;cases e
   refine core (fun _=>none) (fun _=>.inl rfl) (.inr ⟨_,vs.toArray,_,hk,rfl,rfl,rfl,by rw[Ej,lenV];exact hl,by simpa using rv⟩) (fun b u z=>by have z':(none:Option HO)=some u:=z;cases z') (fun b z=>absurd rfl z) fun z=>absurd rfl z
 | none =>
   refine core (fun b=>if b=a then some (.frz {cls:=.type "list", data:=.seq vs.toArray} (.lst (ns.map V.int)))else none) (fun b=>?_) (.inl (.inr ⟨{cls:=.type "list", data:=.seq vs.toArray},if_pos rfl⟩)) (fun b u z=>?_) (fun b z=>?_) fun _=>hk
   · by_cases hb:b=a
     · exact .inr ⟨_,_,if_pos hb⟩
     · exact .inl (if_neg hb)
   · by_cases hb:b=a
     · have z':=(if_pos hb).symm.trans z;cases z';subst hb;exact⟨ha,by rw[Eb];exact hl,vs,_,rv,ha⟩
     · have z':=(if_neg hb).symm.trans z;cases z'
   · by_cases hb:b=a
     · exact hb
     · exact absurd (if_neg hb) z
theorem walk_of{l:W.OpenLaw}{k:Nat}{q:Ei}{YP:EK->Heap->Prop}{d:DefRec}{K:LQ->W.Frag}{CX:EK->DQ}{sp:EK->Sp}
 (hn:l.most=some n)(hn2:n<=sizeLine)(hdf:d.params.defaults=[])(hr:Room k Lm)
 (hY:∀(w:EK)(h:Heap),YP w h->(K w.params).In h)
 (F:∀(w:EK)(mg:Str->Option D4)(fa:Addr)(h:Heap),(K w.params).In h->h.Ns ED mg->mg d.name=some (.ref fa) ->
  ∃ fd:Gz,(∀(s:D6)(u:D4),LG s fd ⟨[u],[]⟩ [(x,u)]) /\
    ∀base:Heap,(K w.params).In base->base.Ns ED mg->FnOk l.prog w (K w.params) mg base (CX w) k fa fd [x] (sp w))
 (hsp:∀(w:EK)(H:Hp)(a:Addr)(ns:List Int),ns.length<=n->zw H->Dn (K w.params) H a (ns.map V.int)->sp w [.ref a] H (fun v _=>v = .bl true) fun _ _ _=>False)
 (hCX:∀(w:EK)(H:Hp)(s:D6)(e:D4)(s':D6),CX w [] H s (fun _ _ _=>False) e s'->False) :
 W.WalkO q loose XP YP l.row.toRowW d [] (fun f vs=>PySem.call f vs):=by
 refine Att.attach_call hn hdf fun w s₀ s₁ mg mb fa o pm cd doc a vs ns G Y ho hd hcd hmg hobj hints hlen hg=>?_;have KX:=hY w _ Y;obtain⟨fd,hb,hF⟩:=F w mg fa _ KX G.T.g hmg;exact pO KX G.T.g G.T.b G.T.builtins G.T.nolimit hg hobj hints (FG hlen hn2) hr hF hb (fun H hO hS=>hsp w H a ns hlen hO hS) fun H e s'=>hCX w H s₁ e s'
abbrev DS:DQ:=fun _ _ _ _ _ _=>False
abbrev E0:XK:=fun _ _ _=>False
theorem wp:fW DS X E0:=fun _ _ _ _ _ _ _ h=>h.elim
structure Fun (K:W.Frag) (x qual:Str) (st:Stmt) (f:Addr) (fd:Gz):Prop where
 ex:∃(oc:D4)(od:Option Addr)(kV doc pm:D4)(an:Option Addr)(cdv ct:D4)(osl:Array (Option D4)),
  fd=W.fnOf x qual (defArgs st) (defBody st) (defScope st) .none kV doc pm an cdv ct/\K.lookup f=some ⟨oc,od,.func fd,osl⟩/\W.codeIn K cdv qual=true
 kp:W.keepIn K (.ref f)=true
section
variable{P:Ei}{w:EK}{K:W.Frag}{mg:Str->Option D4}{base:Heap}
theorem Fun.ok{st:Stmt}{N:List Str}{k:Nat}{sp:Sp}(F:Fun K x qual st f fd)(S:FnScope N ps (defScope st))(len:∀vs H Q E,sp vs H Q E->vs.length=ps.length)
 (hbody:∀(cdv:D4)(A:EH)(outer:List Env)(s:D6)(H:Hp)(vs:List V)(Q:VK)(E:XK),Room k (A.deeper (IE qual (defScope st) s.heap.objs.size f cdv))->sp vs H Q E ->
  ∃t,Dt (ji DS P w K mg base N qual (defScope st) f cdv A outer s H E).nox (defBody st) t/\t {nx:=fun _ H'=>Q .non H',rt:=Q} (start N vs) H):FnOk P w K mg base DS (k+1) f fd ps sp:=by
 obtain⟨oc,od,kV,doc,pm,an,cdv,ct,osl,rfl,lk,hcd⟩:=F.ex;refine xl lk hcd S len fun A outer s H vs Q E hr hsp=>?_;obtain⟨t,h,q⟩:=hbody cdv A outer s H vs Q E hr hsp;exact⟨t,h.nox,q⟩
theorem Fun.binds{st:Stmt}(F:Fun K x qual st f fd)
 (h:∀(kV doc pm:D4)(an:Option Addr)(cdv ct:D4)(us:List D4),us.length=ps.length->bindArgs (W.fnOf x qual (defArgs st) (defBody st) (defScope st) .none kV doc pm an cdv ct) ⟨us,[]⟩=pure (ps.zip us)):Binds K fd ps []:=by
 obtain⟨oc,od,kV,doc,pm,an,cdv,ct,osl,rfl,lk,hcd⟩:=F.ex;exact .all (h kV doc pm an cdv ct)
theorem iy{st:Stmt}{oc:D4}{od an:Option Addr}{osl:Array (Option D4)}{kV doc pm cdv ct:D4}(l:K.lookup f=some ⟨oc,od,.func (W.fnOf x qual (defArgs st) (defBody st) (defScope st) .none kV doc pm an cdv ct),osl⟩)
 (c:W.codeIn K cdv qual=true)(k:W.keepIn K (.ref f)=true):Fun K x qual st f (W.fnOf x qual (defArgs st) (defBody st) (defScope st) .none kV doc pm an cdv ct):=⟨⟨oc,od,kV,doc,pm,an,cdv,ct,osl,rfl,l,c⟩,k⟩
end
section
variable{X:Cx}
theorem pv(i:Nat)(hN:autoParam (X.N[i]?=some x) æa._auto_1)(hv:autoParam (Dd X.env.scope x) æf._auto_1)(hd:autoParam ((x==("__debug__" : Str))=false) æb._auto_1)
 (hcd:autoParam ((x==("__classdict__" : Str))=false) æb._auto_1):PE X (.Name x pos) (Ar i):=cR hN hv hd hcd
end
noncomputable def be(H H':Hp):Prop:=∀b o,H b=some o->H' b=some o
theorem be.refl(H:Hp):be H H:=fun _ _ h=>h
theorem be.trans{H1 H2:Hp}(a:be H H1)(b:be H1 H2):be H H2:=fun c o h=>b c o (a c o h)
theorem be.free(e:be H H'){l:Addr}(h:H' l=Option.none):H l=Option.none:=by
 cases q:H l with
 | none=>rfl
 | some o =>
   rw[e l o q]at h;cases h
section
variable{X:Cx}
end
section
variable{κ:Type}[DecidableEq κ]
end
end L2
namespace L2.VL
noncomputable def RO(F:Hp)(o:HO):Prop:=∃(c:Addr)(ns:List Int)(a l t:Int),o = .lst [.ref c,.int a,.int l,.int t]/\F c=some (.lst (ns.map V.int))/\ns.length<=63/\0<=a/\0<=l/\0<=t
theorem RO.mono{o:HO}(s:be F F')(h:RO F o):RO F' o:=by
 obtain⟨c,ns,a,l,t,e,q,r⟩:=h;exact⟨c,ns,a,l,t,e,s _ _ q,r⟩
mutual
inductive Rep (K:W.Frag) (F:Hp):V->D2->Prop
 | non:Rep K F .non .none
 | bl (b:Bool):Rep K F (.bl b) (.bool b)
 | int (i:Int):Rep K F (.int i) (.int i)
 | str (x:Str):Rep K F (.str x) (.str x)
 | tup {a:Addr} {vs:List V} {ds:List D2}:Dm K F a vs->Reps K F vs ds->Rep K F (.ref a) (.tuple ds)
 | lst {a:Addr} {vs:List V} {ds:List D2}:F a=some (.lst vs)->Reps K F vs ds->Rep K F (.ref a) (.list ds)
inductive Reps (K:W.Frag) (F:Hp):List V->List D2->Prop
 | nil:Reps K F [] []
 | cons {v:V} {d:D2} {vs:List V} {ds:List D2}:Rep K F v d->Reps K F vs ds->Reps K F (v::vs) (d::ds)
end
theorem cX{K:W.Frag}{xs:List V}(e:be H H')(h:Dm K H a xs):Dm K H' a xs:=by
 rcases h with(h|⟨o,h⟩)|h
 · exact .inl (.inl (e _ _ h))
 · exact .inl (.inr ⟨o,e _ _ h⟩)
 · exact .inr h
theorem l6{K:W.Frag}{xs:List V}(e:be H H')(h:Dn K H a xs):Dn K H' a xs:=by
 rcases h with(h|⟨o,h⟩)|h
 · exact .inl (.inl (e _ _ h))
 · exact .inl (.inr ⟨o,e _ _ h⟩)
 · exact .inr h
mutual
theorem Rep.mono{K:W.Frag}{F F':Hp}(s:be F F'):∀{v:V}{d:D2},Rep K F v d->Rep K F' v d
 | _,_,.non=>.non
 | _,_,.bl b=>.bl b
 | _,_,.int i=>.int i
 | _,_,.str x=>.str x
 | _,_,.tup h r=>.tup (cX s h) (Reps.mono s r)
 | _,_,.lst h r=>.lst (s _ _ h) (Reps.mono s r)
theorem Reps.mono{K:W.Frag}{F F':Hp}(s:be F F'):∀{vs:List V}{ds:List D2},Reps K F vs ds->Reps K F' vs ds
 | _,_,.nil=>.nil
 | _,_,.cons h r=>.cons (Rep.mono s h) (Reps.mono s r)
end
theorem Reps.length{K:W.Frag}{F:Hp}:∀{vs:List V}{ds:List D2},Reps K F vs ds->vs.length=ds.length
 | _,_,.nil=>rfl
 | _,_,.cons _ r=>by simp[Reps.length r]
theorem Reps.get{K:W.Frag}{F:Hp}:∀{vs:List V}{ds:List D2}{i:Nat}{d:D2},Reps K F vs ds->ds[i]?=some d->∃v,vs[i]?=some v/\Rep K F v d
 | _,_,_,_,.nil,e=>by simp at e
 | _,_,0,_,.cons h _,e=>by simp at e;subst e;exact⟨_,rfl,h⟩
 | _,_,i+1,d,.cons _ r,e=>by
   obtain⟨v,h1,h2⟩:=Reps.get (i:=i) (d:=d) r (by simpa using e);exact⟨v,by simpa using h1,h2⟩
theorem Reps.append{K:W.Frag}{F:Hp}:∀{vs us:List V}{ds es:List D2},Reps K F vs ds->Reps K F us es->Reps K F (vs++us) (ds++es)
 | _,_,_,_,.nil,s=>s
 | _,_,_,_,.cons h r,s=>.cons h (Reps.append r s)
theorem Reps.snoc{K:W.Frag}{ds:List D2}(r:Reps K F vs ds)(h:Rep K F v d):Reps K F (vs++[v]) (ds++[d]):=r.append (.cons h .nil)
theorem Reps.nil_iff{K:W.Frag}(h:Reps K F vs []):vs=[]:=by cases h;rfl
mutual
theorem Rep.reads{X:Cx}{pins:List (Addr×Obj)}{σ:St}{H F:Hp}{s:D6}(I:Inv X pins σ H s)(sub:be F H):∀{v:V}{d:D2},Rep X.K F v d->∀u,RelV v u->∃as,Reads s.heap u d as
 | _,_,.non,u,r=>by cases(show u=Fi from r);exact⟨_,.none⟩
 | _,_,.bl b,u,r=>by cases(show u=Kt b from r);exact⟨_,.bool b⟩
 | _,_,.int i,u,r=>by obtain⟨t,q⟩:=(show ∃t,u=IA i t from r);cases q;exact⟨_,.int i t⟩
 | _,_,.str x,u,r=>by obtain⟨t,q⟩:=(show ∃t,u=LC x t from r);cases q;exact⟨_,.str x t⟩
 | _,_,.tup (a:=a) h q,u,r=>by
   cases(show u=EO a from r);obtain⟨its,rv,⟨o,h1,h2,n,h3⟩,hz⟩:=I.tuple (cX sub h);obtain⟨as,ra⟩:=Reps.reads I sub q its rv
   exact⟨_,.tuple h1 h2 h3 (by simpa using ra)⟩
 | _,_,.lst (a:=a) h q,u,r=>by
   cases(show u=EO a from r);obtain⟨its,rv,p,hz⟩:=I.list (.inl (.inl (sub _ _ h)));obtain⟨o,h1,h2,n,h3⟩:=p.isList;obtain⟨as,ra⟩:=Reps.reads I sub q its rv;exact⟨_,.list h1 h2 h3 (by simpa using ra)⟩
theorem Reps.reads{X:Cx}{pins:List (Addr×Obj)}{σ:St}{H F:Hp}{s:D6}(I:Inv X pins σ H s)(sub:be F H):∀{vs:List V}{ds:List D2},Reps X.K F vs ds->∀us,bI vs us->∃as,ReadsAll s.heap us ds as
 | _,_,.nil,us,r=>by cases r;exact⟨_,.nil⟩
 | _,_,.cons h q,us,r=>by
   cases r with
   | cons r1 r2 =>
     obtain⟨as,a1⟩:=Rep.reads I sub h _ r1;obtain⟨bs,a2⟩:=Reps.reads I sub q _ r2;exact⟨_,.cons a1 a2⟩
end
structure ReelOk (F H:Hp) (r:Addr):Prop where
 ex:∃o,H r=some o/\RO F o
noncomputable def Dq(rl:Option Addr)(F H:Hp):Prop:=∀r,rl=some r->F r=none/\ReelOk F H r
theorem Dq.live(h:Dq rl F H)(e:rl=some r):∃o,H r=some o:=by
 obtain⟨_,⟨o,q,_⟩⟩:=h r e;exact⟨_,q⟩
structure Grow (rl:Option Addr) (F H F' H':Hp):Prop where
 same:∀b o,H b=some o->rl≠some b->H' b=some o
 fs:be F F'
 sub:be F' H'
 old:∀b o,H b=some o->F' b=F b
 reel:Dq rl F' H'
theorem Grow.refl{rl:Option Addr}{F H:Hp}(s:be F H)(r:Dq rl F H):Grow rl F H F H:=⟨fun _ _ e _=>e,.refl F,s,fun _ _ _=>rfl,r⟩
theorem Grow.live{rl:Option Addr}{F H F' H':Hp}(g:Grow rl F H F' H'){b:Addr}{o:HO}(e:H b=some o):∃o',H' b=some o':=by
 by_cases h:rl=some b
 · exact g.reel.live h
 · exact⟨o,g.same b o e h⟩
theorem Grow.trans{rl:Option Addr}{F H F1 H1 F2 H2:Hp}(a:Grow rl F H F1 H1)(b:Grow rl F1 H1 F2 H2):Grow rl F H F2 H2 :=
 ⟨fun c o e n=>b.same c o (a.same c o e n) n,a.fs.trans b.fs,b.sub,fun c o e=>by obtain⟨o',e'⟩:=a.live e;rw[b.old c o' e',a.old c o e],b.reel⟩
theorem Grow.freeB(g:Grow rl F H F' H'){b:Addr}(e:H' b=none):H b=none:=by
 cases q:H b with
 | none=>rfl
 | some o=>obtain⟨o',e'⟩:=g.live q;rw[e]at e';cases e'
theorem Grow.laid{o:HO}(s:be F H)(r:Dq rl F H)(n:H a=none):Grow rl F H F (upd H a o):=by
 have ne:∀b u,H b=some u->b≠a:=fun b u e=>ax e n;refine⟨fun b u e _=>by rw[upd_ne (ne b u e)];exact e,.refl F,fun b u e=>by rw[upd_ne (ne b u (s b u e))];exact s b u e,fun _ _ _=>rfl,fun q e=>?_⟩;obtain⟨z,⟨u,h1,h2⟩⟩:=r q e;exact⟨z,⟨u,by rw[upd_ne (ne _ _ h1)];exact h1,h2⟩⟩
theorem Grow.data{o:HO}(s:be F H)(r:Dq rl F H)(n:H a=none):Grow rl F H (upd F a o) (upd H a o):=by
 have ne:∀b u,H b=some u->b≠a:=fun b u e=>ax e n;have neF:∀b u,F b=some u->b≠a:=fun b u e=>ne b u (s b u e);refine⟨fun b u e _=>by rw[upd_ne (ne b u e)];exact e,fun b u e=>by rw[upd_ne (neF b u e)];exact e,fun b u e=>?_,fun b u e=>by rw[upd_ne (ne b u e)],fun q e=>?_⟩
 · by_cases hb:b=a
   · subst hb;rw[ak]at e ⊢;exact e
   · rw[upd_ne hb]at e ⊢;exact s b u e
 · obtain⟨z,⟨u,h1,h2⟩⟩:=r q e;exact⟨by rw[upd_ne (ne _ _ h1)];exact z,⟨u,by rw[upd_ne (ne _ _ h1)];exact h1,RO.mono (fun b u e=>by rw[upd_ne (neF b u e)];exact e) h2⟩⟩
theorem Grow.freeze{F1 H1:Hp}{o:HO}(g:Grow rl F H F1 H1)(n:H a=none)(e:H1 a=some o)(f:F1 a=none)(hr:rl≠some a):Grow rl F H (upd F1 a o) H1:=by
 have neF:∀b u,F1 b=some u->b≠a:=fun b u q z=>by subst z;rw[f]at q;cases q
 refine⟨g.same,fun b u q=>by rw[upd_ne (neF b u (g.fs b u q))];exact g.fs b u q,fun b u q=>?_,fun b u q=>by rw[upd_ne (ax q n)];exact g.old b u q,fun q z=>?_⟩
 · by_cases hb:b=a
   · subst hb;rw[ak]at q;rw[e];exact q
   · rw[upd_ne hb]at q;exact g.sub b u q
 · obtain⟨z1,⟨u,h1,h2⟩⟩:=g.reel q z;exact⟨by rw[upd_ne (fun y=>hr (by rw[<- y];exact z))];exact z1,⟨u,h1,RO.mono (fun b u e=>by rw[upd_ne (neF b u e)];exact e) h2⟩⟩
inductive W where
 | d (x:D2)
 | ml (xs:List D2)
 | pk (xs:List D2)
 | reel
 | vv (v:V)
 | md (kvs:List (List DH×D2))
 | mk (kvs:List (DH×D2))
 | xm (kvs:List (List Int×D2))
 | nt (ds:List D2)
 | lk
 | sc (ns:List Int)
 | fd (kvs:List (DH×D2))
 | xr (kvs:List (List Int×D2))
 | fw (kvs:List (DH×D2))
 | ft (kvs:List (List DH×D2))
 | xc (x:Str) (fs:List (Str×D2))
 | dp (kvs:List (DH×D2)) (x:D2)
noncomputable def W.dat:W->Option D2
 | .d x=>some x
 | .ml xs=>some (.list xs)
 | .pk xs=>some (.list xs)
 | .nt ds=>some (.tuple ds)
 | _=>none
noncomputable def W.peek:W->W
 | .ml xs=>.pk xs
 | .md _=>.lk
 | .mk _=>.lk
 | .xm _=>.lk
 | w=>w
noncomputable def W.own:W->Bool
 | .ml _=>true
 | .md _=>true
 | .mk _=>true
 | .xm _=>true
 | _=>false
abbrev KD(K:W.Frag)(F:Hp):List (List DH×V)->List (List DH×D2)->Prop:=Fe fun p q=>p.1=q.1/\Rep K F p.2 q.2
abbrev DJ(K:W.Frag)(F:Hp):List (DH×V)->List (DH×D2)->Prop:=Fe fun p q=>p.1=q.1/\Rep K F p.2 q.2
abbrev DI(K:W.Frag)(F:Hp):List (Str×V)->List (Str×D2)->Prop:=Fe fun p q=>p.1=q.1/\Rep K F p.2 q.2
noncomputable def zx(e C dx:Addr):Heap->Prop:=fun h=>∃oe vs,h.get? e=some oe/\oe.cls = .ref C/\oe.dict=some dx/\oe.data = .fields vs
noncomputable def rm(K:W.Frag)(rl:Option Addr)(F H:Hp)(v:V)(kvs:List (List DH×D2)):Prop:=∃a us,v = .ref a/\F a=none/\rl≠some a/\H a=some (.dT us)/\KD K F us kvs
noncomputable def DAt(a:Addr)(xs:List (List Int×Addr×D4)):Heap->Prop:=fun h=>∃o es ep,h.get? a=some o/\o.ExactDict/\o.data = .dict es ep/\(∀(P:Ei)(w:EK),es.toList=xs.map (Lh (Hg (GX P w))))/\(xs.map (·.1)).Nodup/\(a==Gb)=false/\xs.length<=sizeLine
noncomputable def KX(K:W.Frag)(F:Hp):List (List Int×Addr×D4)->List (List Int×D2)->Prop:=Fe fun p q=>p.1=q.1/\Dm K F p.2.1 (p.1.map V.int)/\∃v,RelV v p.2.2/\Rep K F v q.2
theorem KX.mono{K:W.Frag}{F F':Hp}{xs:List (List Int×Addr×D4)}{kvs:List (List Int×D2)}(h:KX K F xs kvs)(s:be F F'):KX K F' xs kvs:=Fe.mapP h fun _ _ z=>⟨z.1,cX s z.2.1,let ⟨v,r,q⟩:=z.2.2;⟨v,r,q.mono s⟩⟩
noncomputable def lp(K:W.Frag)(rl:Option Addr)(F H:Hp)(v:V)(kvs:List (List Int×D2)):Prop:=∃a xs,v = .ref a/\F a=none/\rl≠some a/\H a=some (.ext (DAt a xs))/\KX K F xs kvs
noncomputable def rj(K:W.Frag)(rl:Option Addr)(F H:Hp)(v:V)(kvs:List (DH×D2)):Prop:=∃a us,v = .ref a/\F a=none/\rl≠some a/\H a=some (.dK us)/\DJ K F us kvs
noncomputable def gN(K:W.Frag)(rl:Option Addr)(F H:Hp)(v:V)(xs:List D2):Prop:=∃a vs,v = .ref a/\F a=none/\rl≠some a/\H a=some (.lst vs)/\Reps K F vs xs
noncomputable def cO(K:W.Frag)(rl:Option Addr)(F H:Hp)(v:V):W->Prop
 | .d x=>Rep K F v x
 | .ml xs=>gN K rl F H v xs
 | .pk xs=>gN K rl F H v xs
 | .reel=>∃r,rl=some r/\v = .ref r
 | .vv u=>v=u
 | .md kvs=>rm K rl F H v kvs
 | .mk kvs=>rj K rl F H v kvs
 | .xm kvs=>lp K rl F H v kvs
 | .nt ds=>∃a vs,v = .ref a/\F a=some (.tup vs)/\Reps K F vs ds
 | .lk=>True
 | .sc ns=>∃a,v = .ref a/\Dn K F a (ns.map V.int)
 | .fd kvs=>∃a us,v = .ref a/\F a=some (.dK us)/\DJ K F us kvs
 | .xr kvs=>∃a us,v = .ref a/\F a=some (.ext (DAt a us))/\KX K F us kvs
 | .fw kvs=>∃a us o,v = .ref a/\F a=some (.frz o (.dK us))/\DJ K F us kvs
 | .ft kvs=>∃a us o,v = .ref a/\F a=some (.frz o (.dT us))/\KD K F us kvs
 | .xc x fs=>∃e dx us C,v = .ref e/\W.nsIn K ED x=some (some (.ref C))/\F e=some (.ext (zx e C dx))/\F dx=some (.xd us)/\DI K F us fs
 | .dp kvs x=>∃a b us u o,v = .ref a/\F a=some (.tup [.ref b,u])/\F b=some (.frz o (.dK us))/\DJ K F us kvs/\Rep K F u x
theorem rm.grow{K:W.Frag}{kvs:List (List DH×D2)}(g:Grow rl F H F' H')(r:rm K rl F H v kvs):rm K rl F' H' v kvs:=by
 obtain⟨a,us,rfl,h1,h2,h3,h4⟩:=r;exact⟨a,us,rfl,by rw[g.old a _ h3];exact h1,h2,g.same a _ h3 h2,Fe.mapP h4 fun _ _ z=>⟨z.1,z.2.mono g.fs⟩⟩
theorem rj.grow{K:W.Frag}{kvs:List (DH×D2)}(g:Grow rl F H F' H')(r:rj K rl F H v kvs):rj K rl F' H' v kvs:=by
 obtain⟨a,us,rfl,h1,h2,h3,h4⟩:=r;exact⟨a,us,rfl,by rw[g.old a _ h3];exact h1,h2,g.same a _ h3 h2,Fe.mapP h4 fun _ _ z=>⟨z.1,z.2.mono g.fs⟩⟩
theorem lp.grow{K:W.Frag}(g:Grow rl F H F' H')(r:lp K rl F H v kvs):lp K rl F' H' v kvs:=by
 obtain⟨a,us,rfl,h1,h2,h3,h4⟩:=r;exact⟨a,us,rfl,by rw[g.old a _ h3];exact h1,h2,g.same a _ h3 h2,h4.mono g.fs⟩
theorem gN.grow{K:W.Frag}(g:Grow rl F H F' H')(r:gN K rl F H v xs):gN K rl F' H' v xs:=by
 obtain⟨a,vs,rfl,h1,h2,h3,h4⟩:=r;exact⟨a,vs,rfl,by rw[g.old a _ h3];exact h1,h2,g.same a _ h3 h2,h4.mono g.fs⟩
theorem cO.grow{K:W.Frag}{rl:Option Addr}{F H F' H':Hp}{v:V}{w:W}(g:Grow rl F H F' H')(r:cO K rl F H v w):cO K rl F' H' v w:=by
 cases w with
 | d x=>exact Rep.mono g.fs r
 | ml xs=>exact gN.grow g r
 | pk xs=>exact gN.grow g r
 | reel=>exact r
 | vv u=>exact r
 | md kvs=>exact rm.grow g r
 | mk kvs=>exact rj.grow g r
 | xm kvs=>exact lp.grow g r
 | nt ds=>obtain⟨a,vs,e,h,q⟩:=r;exact⟨a,vs,e,g.fs _ _ h,q.mono g.fs⟩
 | lk=>trivial
 | sc ns=>obtain⟨a,e,h⟩:=r;exact⟨a,e,l6 g.fs h⟩
 | fd kvs=>obtain⟨a,us,e,h,q⟩:=r;exact⟨a,us,e,g.fs _ _ h,Fe.mapP q fun _ _ z=>⟨z.1,z.2.mono g.fs⟩⟩
 | xr kvs=>obtain⟨a,us,e,h,q⟩:=r;exact⟨a,us,e,g.fs _ _ h,KX.mono q g.fs⟩
 | fw kvs=>obtain⟨a,us,o,e,h,q⟩:=r;exact⟨a,us,o,e,g.fs _ _ h,Fe.mapP q fun _ _ z=>⟨z.1,z.2.mono g.fs⟩⟩
 | ft kvs=>obtain⟨a,us,o,e,h,q⟩:=r;exact⟨a,us,o,e,g.fs _ _ h,Fe.mapP q fun _ _ z=>⟨z.1,z.2.mono g.fs⟩⟩
 | xc _ _=>obtain⟨a,dx,us,C,e,n,h1,h2,q⟩:=r;exact⟨a,dx,us,C,e,n,g.fs _ _ h1,g.fs _ _ h2,Fe.mapP q fun _ _ z=>⟨z.1,z.2.mono g.fs⟩⟩
 | dp _ _=>obtain⟨a,b,us,u,o,e,h1,h2,q,z⟩:=r;exact⟨a,b,us,u,o,e,g.fs _ _ h1,g.fs _ _ h2,Fe.mapP q fun _ _ z=>⟨z.1,z.2.mono g.fs⟩,z.mono g.fs⟩
theorem cO.peek{K:W.Frag}{w:W}(r:cO K rl F H v w):cO K rl F H v w.peek:=by cases w<;>first|exact r|trivial
theorem gN.rep{K:W.Frag}(s:be F H)(r:gN K rl F H v xs):Rep K H v (.list xs):=by
 obtain⟨a,vs,rfl,h1,h2,h3,h4⟩:=r;exact .lst h3 (h4.mono s)
theorem cO.dat{K:W.Frag}{w:W}{x:D2}(s:be F H)(r:cO K rl F H v w)(e:w.dat=some x):Rep K H v x:=by
 cases w with
 | d y=>cases e;exact Rep.mono s r
 | ml xs=>cases e;exact gN.rep s r
 | pk xs=>cases e;exact gN.rep s r
 | reel=>cases e
 | vv u=>cases e
 | md kvs=>cases e
 | mk kvs=>cases e
 | xm kvs=>cases e
 | nt ds=>cases e;obtain⟨a,vs,rfl,h,q⟩:=r;exact .tup (.inl (.inl (s _ _ h))) (q.mono s)
 | lk=>cases e
 | sc _=>cases e
 | fd _=>cases e
 | xr _=>cases e
 | fw _=>cases e
 | ft _=>cases e
 | xc _ _=>cases e
 | dp _ _=>cases e
theorem cO.items{K:W.Frag}{w:W}(s:be F H)(r:cO K rl F H v w)(e:w.dat=some (.list xs)):∃a vs,v = .ref a/\Dn K H a vs/\Reps K F vs xs:=by
 have own:gN K rl F H v xs->∃a vs,v = .ref a/\Dn K H a vs/\Reps K F vs xs:=fun⟨a,vs,e1,_,_,e2,e3⟩=>⟨a,vs,e1,.inl (.inl e2),e3⟩
 cases w with
 | d y =>
   cases e
   cases(show Rep K F v (.list xs)from r)with
   | lst h q=>exact⟨_,_,rfl,.inl (.inl (s _ _ h)),q⟩
 | ml ys=>cases e;exact own r
 | pk ys=>cases e;exact own r
 | reel=>cases e
 | vv u=>cases e
 | md kvs=>cases e
 | mk kvs=>cases e
 | xm kvs=>cases e
 | nt ds=>cases e
 | lk=>cases e
 | sc _=>cases e
 | fd _=>cases e
 | xr _=>cases e
 | fw _=>cases e
 | ft _=>cases e
 | xc _ _=>cases e
 | dp _ _=>cases e
theorem cO.itemsT{K:W.Frag}{w:W}(s:be F H)(r:cO K rl F H v w)(e:w.dat=some (.tuple xs)):∃a vs,v = .ref a/\Dm K H a vs/\Reps K F vs xs:=by
 cases w with
 | d y =>
   cases e
   cases(show Rep K F v (.tuple xs)from r)with
   | tup h q=>exact⟨_,_,rfl,cX s h,q⟩
 | ml ys=>cases e
 | pk ys=>cases e
 | reel=>cases e
 | vv u=>cases e
 | md kvs=>cases e
 | mk kvs=>cases e
 | xm kvs=>cases e
 | nt ds=>cases e;obtain⟨a,vs,rfl,h,q⟩:=r;exact⟨a,vs,rfl,.inl (.inl (s _ _ h)),q⟩
 | lk=>cases e
 | sc _=>cases e
 | fd _=>cases e
 | xr _=>cases e
 | fw _=>cases e
 | ft _=>cases e
 | xc _ _=>cases e
 | dp _ _=>cases e
noncomputable def d6(H:Hp)(v:V):W->Prop
 | .ml _=>∀a,v = .ref a->H a=none
 | .md _=>∀a,v = .ref a->H a=none
 | .mk _=>∀a,v = .ref a->H a=none
 | .xm _=>∀a,v = .ref a->H a=none
 | _=>True
theorem cO.live{K:W.Frag}{w:W}(r:cO K rl F H v w)(h:w.own=true):∃a o,v = .ref a/\H a=some o:=by
 cases w with
 | ml xs=>obtain⟨a,vs,e,_,_,hh,_⟩:=r;exact⟨a,_,e,hh⟩
 | md xs=>obtain⟨a,vs,e,_,_,hh,_⟩:=r;exact⟨a,_,e,hh⟩
 | mk xs=>obtain⟨a,vs,e,_,_,hh,_⟩:=r;exact⟨a,_,e,hh⟩
 | xm xs=>obtain⟨a,vs,e,_,_,hh,_⟩:=r;exact⟨a,_,e,hh⟩
 | _=>cases h
theorem d6.none{w:W}(n:d6 H v w)(h:w.own=true)(e:v = .ref a):H a=none:=by
 cases w with
 | ml xs=>exact n a e
 | md xs=>exact n a e
 | mk xs=>exact n a e
 | xm xs=>exact n a e
 | _=>cases h
abbrev En:=List (Option W)
structure VR (K:W.Frag) (rl:Option Addr) (F₀ H₀ F H:Hp) (σ:St) (ρ:En):Prop where
 g:Grow rl F₀ H₀ F H
 sl:∀(i:Nat) w,ρ[i]?=some (some w)->∃v,σ[i]?=some (some v)/\cO K rl F H v w/\d6 H₀ v w
 ap:∀(i j:Nat)(x y:W) v,i≠j->ρ[i]?=some (some x)->ρ[j]?=some (some y)->x.own=true->y.own=true->σ[i]?=some (some v)->σ[j]?=some (some v)->False
 np:∀(i:Nat) xs,ρ[i]?≠some (some (W.pk xs))
 len:ρ.length=σ.length
section
variable{K:W.Frag}{rl:Option Addr}{F₀ H₀ F H F' H':Hp}{σ:St}{ρ:En}
theorem VR.sub(r:VR K rl F₀ H₀ F H σ ρ):be F H:=r.g.sub
theorem VR.reel(r:VR K rl F₀ H₀ F H σ ρ):Dq rl F H:=r.g.reel
theorem VR.grow(r:VR K rl F₀ H₀ F H σ ρ)(g:Grow rl F H F' H'):VR K rl F₀ H₀ F' H' σ ρ :=
 ⟨r.g.trans g,fun i w e=>let ⟨v,e1,e2,e3⟩:=r.sl i w e;⟨v,e1,e2.grow g,e3⟩,r.ap,r.np,r.len⟩
theorem VR.set(r:VR K rl F₀ H₀ F H σ ρ){H1 F1:Hp}(g:Grow rl F H F1 H1){w:W}(rw':cO K rl F1 H1 v w)(hn:d6 H v w)(hp:∀xs,w ≠ .pk xs)(i:Nat):VR K rl F₀ H₀ F1 H1 (σ.set i (some v)) (ρ.set i (some w)):=by
 have r1:=r.grow g;refine⟨r1.g,fun j w' e=>?_,fun j k xs ys u hjk e1 e2 w1 w2 s1 s2=>?_,fun j xs z=>?_,by simp[r.len]⟩
 · by_cases hj:i=j
   · subst hj
     have hi:i<ρ.length:=by
      rw[EW]at e;by_cases hi:i<ρ.length
      · exact hi
      · simp[hi]at e
     rw[Ep hi]at e;cases e;refine⟨v,by rw[Ep (by rw[<- r.len];exact hi)],rw',?_⟩
     cases w with
     | ml xs=>exact fun a ea=>r.g.freeB (hn a ea)
     | d x=>trivial
     | pk xs=>trivial
     | reel=>trivial
     | vv u=>trivial
     | md xs=>exact fun a ea=>r.g.freeB (hn a ea)
     | mk xs=>exact fun a ea=>r.g.freeB (hn a ea)
     | xm xs=>exact fun a ea=>r.g.freeB (hn a ea)
     | nt ds=>trivial
     | lk=>trivial
     | sc _=>trivial
     | fd _=>trivial
     | xr _=>trivial
     | fw _=>trivial
     | ft _=>trivial
     | xc _ _=>trivial
     | dp _ _=>trivial
   · rw[El hj]at e;obtain⟨u,h1,h2,h3⟩:=r1.sl j w' e;exact⟨u,by rw[El hj];exact h1,h2,h3⟩
 · have key:∀(k:Nat)(x y:W),ρ[k]?=some (some y)->some (some w)=some (some x)->x.own=true->y.own=true->σ[k]?=some (some v)->False:=fun k x y d2 e1 o1 o2 s2=>by
     cases e1;obtain⟨u',h1,h2,h3⟩:=r.sl k _ d2;rw[s2]at h1;cases h1;obtain⟨a,o,ea,hh⟩:=h2.live o2;rw[hn.none o1 ea]at hh;cases hh
   by_cases hj:i=j
   · subst hj;have hk:i≠k:=hjk
     have hi:i<ρ.length:=by
      rw[EW]at e1;by_cases hi:i<ρ.length
      · exact hi
      · simp[hi]at e1
     rw[Ep hi]at e1;rw[El hk]at e2 s2;rw[Ep (by rw[<- r.len];exact hi)]at s1;cases s1;exact key k xs ys e2 e1 w1 w2 s2
   · by_cases hk:i=k
     · subst hk
       have hi:i<ρ.length:=by
        rw[EW]at e2;by_cases hi:i<ρ.length
        · exact hi
        · simp[hi]at e2
       rw[Ep hi]at e2;rw[El hj]at e1 s1;rw[Ep (by rw[<- r.len];exact hi)]at s2;cases s2;exact key j ys xs e1 e2 w2 w1 s1
     · rw[El hj]at e1 s1;rw[El hk]at e2 s2;exact r.ap j k xs ys u hjk e1 e2 w1 w2 s1 s2
 · rw[EW]at z;split at z
   · split at z
     · exact hp xs (EL (EL z))
     · cases z
   · exact r.np j xs z
theorem VR.freeze(r:VR K rl F₀ H₀ F H σ ρ){i:Nat}{xs:List D2}(e:ρ[i]?=some (some (.ml xs))):∃F1,VR K rl F₀ H₀ F1 H σ (ρ.set i (some (.d (.list xs)))):=by
 obtain⟨v,h1,h2,h3⟩:=r.sl i _ e;obtain⟨a,vs,rfl,f,hr,hh,q⟩:=(show gN K rl F H v xs from h2);have hi:i<ρ.length:=(Ek.mp e).1;have neF:∀b u,F b=some u->b≠a:=fun b u q z=>by subst z;rw[f]at q;cases q
 have fsm:be F (upd F a (.lst vs)):=fun b u z=>by rw[upd_ne (neF b u z)];exact z
 refine⟨upd F a (.lst vs),r.g.freeze (h3 a rfl) hh f hr,fun j w e1=>?_,fun j k ys zs u hjk e1 e2 w1 w2 s1 s2=>?_,fun j ys z=>?_,by simp[r.len]⟩
 · by_cases hj:i=j
   · subst hj;rw[Ep hi]at e1;cases e1;exact⟨.ref a,h1,.lst ak (q.mono fsm),trivial⟩
   · rw[El hj]at e1;obtain⟨u,g1,g2,g3⟩:=r.sl j w e1;refine⟨u,g1,?_,g3⟩
     have own:∀ys,(∀zs,w = .ml zs->ys=zs)->gN K rl F H u ys->(∃b,u = .ref b/\b≠a)->gN K rl (upd F a (.lst vs)) H u ys:=fun ys _ ⟨b,us,eb,f1,f2,f3,f4⟩ ⟨b',eb',ne⟩=>by
      rw[eb]at eb';cases eb';exact⟨b,us,eb,by rw[upd_ne ne];exact f1,f2,f3,f4.mono fsm⟩
     cases w with
     | d x=>exact Rep.mono fsm g2
     | reel=>exact g2
     | vv u=>exact g2
     | ml ys =>
       obtain⟨b,us,eb,f1,f2,f3,f4⟩:=(show gN K rl F H u ys from g2);have ne:b≠a:=fun z=>r.ap i j _ _ (.ref a) hj e e1 rfl rfl h1 (by rw[g1,eb,z])
       exact⟨b,us,eb,by rw[upd_ne ne];exact f1,f2,f3,f4.mono fsm⟩
     | pk ys=>exact absurd e1 (r.np j ys)
     | md ys =>
       obtain⟨b,us,eb,f1,f2,f3,f4⟩:=(show rm K rl F H u ys from g2);have ne:b≠a:=fun z=>r.ap i j _ _ (.ref a) hj e e1 rfl rfl h1 (by rw[g1,eb,z])
       exact⟨b,us,eb,by rw[upd_ne ne];exact f1,f2,f3,Fe.mapP f4 fun _ _ z=>⟨z.1,z.2.mono fsm⟩⟩
     | mk ys =>
       obtain⟨b,us,eb,f1,f2,f3,f4⟩:=(show rj K rl F H u ys from g2);have ne:b≠a:=fun z=>r.ap i j _ _ (.ref a) hj e e1 rfl rfl h1 (by rw[g1,eb,z])
       exact⟨b,us,eb,by rw[upd_ne ne];exact f1,f2,f3,Fe.mapP f4 fun _ _ z=>⟨z.1,z.2.mono fsm⟩⟩
     | xm ys =>
       obtain⟨b,us,eb,f1,f2,f3,f4⟩:=(show lp K rl F H u ys from g2);have ne:b≠a:=fun z=>r.ap i j _ _ (.ref a) hj e e1 rfl rfl h1 (by rw[g1,eb,z])
       exact⟨b,us,eb,by rw[upd_ne ne];exact f1,f2,f3,KX.mono f4 fsm⟩
     | nt ds=>obtain⟨b,us,eb,f1,f2⟩:=g2;exact⟨b,us,eb,fsm _ _ f1,f2.mono fsm⟩
     | lk=>trivial
     | sc ns=>obtain⟨b,eb,f1⟩:=g2;exact⟨b,eb,l6 fsm f1⟩
     | fd kvs=>obtain⟨b,us,eb,f1,f2⟩:=g2;exact⟨b,us,eb,fsm _ _ f1,Fe.mapP f2 fun _ _ z=>⟨z.1,z.2.mono fsm⟩⟩
     | xr kvs=>obtain⟨b,us,eb,f1,f2⟩:=g2;exact⟨b,us,eb,fsm _ _ f1,KX.mono f2 fsm⟩
     | fw kvs=>obtain⟨b,us,o,eb,f1,f2⟩:=g2;exact⟨b,us,o,eb,fsm _ _ f1,Fe.mapP f2 fun _ _ z=>⟨z.1,z.2.mono fsm⟩⟩
     | ft kvs=>obtain⟨b,us,o,eb,f1,f2⟩:=g2;exact⟨b,us,o,eb,fsm _ _ f1,Fe.mapP f2 fun _ _ z=>⟨z.1,z.2.mono fsm⟩⟩
     | xc _ _=>obtain⟨b,dx,us,C,eb,n,f1,f3,f2⟩:=g2;exact⟨b,dx,us,C,eb,n,fsm _ _ f1,fsm _ _ f3,Fe.mapP f2 fun _ _ z=>⟨z.1,z.2.mono fsm⟩⟩
     | dp _ _=>obtain⟨c,b,us,u,o,eb,f1,f3,f2,z⟩:=g2;exact⟨c,b,us,u,o,eb,fsm _ _ f1,fsm _ _ f3,Fe.mapP f2 fun _ _ z=>⟨z.1,z.2.mono fsm⟩,z.mono fsm⟩
 · have nd:∀(j:Nat)(y:W),(ρ.set i (some (W.d (.list xs))))[j]?=some (some y)->y.own=true->ρ[j]?=some (some y):=fun j y z o=>by
     by_cases hj:i=j
     · subst hj;rw[Ep hi]at z;cases z;cases o
     · rw[El hj]at z;exact z
   exact r.ap j k ys zs u hjk (nd j ys e1 w1) (nd k zs e2 w2) w1 w2 s1 s2
 · rw[EW]at z;split at z
   · first|cases z|(split at z<;>cases z)
   · exact r.np j ys z
end
abbrev TV:=En->(W->Prop)->Prop
abbrev TB:=En->(Bool->Prop)->Prop
abbrev Dg:=En->(List W->Prop)->Prop
abbrev dJ(K:W.Frag)(rl:Option Addr)(F H:Hp):List V->List W->Prop:=Fe (cO K rl F H)
noncomputable def PV(X:Cx)(rl:Option Addr)(e:Expr)(f:TV):Prop:=∃t,PE X e t/\∀{F₀ H₀ F H:Hp}{σ:St}{ρ:En},VR X.K rl F₀ H₀ F H σ ρ->∀(Qd:W->Prop)(Q:VK),f ρ Qd ->
 (∀v w F' H',Grow rl F H F' H'->cO X.K rl F' H' v w->d6 H v w->Qd w->Q v H')->t σ H Q
noncomputable def PB(X:Cx)(rl:Option Addr)(e:Expr)(f:TB):Prop:=∃t,PT X e t/\∀{F₀ H₀ F H:Hp}{σ:St}{ρ:En},VR X.K rl F₀ H₀ F H σ ρ->∀(Qd:Bool->Prop)(Q:Bool->Hp->Prop),f ρ Qd ->
 (∀b F' H',Grow rl F H F' H'->Qd b->Q b H')->t σ H Q
noncomputable def Dr(X:Cx)(rl:Option Addr)(es:List Expr)(f:Dg):Prop:=∃t,PA X es t/\∀{F₀ H₀ F H:Hp}{σ:St}{ρ:En},VR X.K rl F₀ H₀ F H σ ρ->∀(Qd:List W->Prop)(Q:List V->Hp->Prop),f ρ Qd ->
 (∀vs ws F' H',Grow rl F H F' H'->dJ X.K rl F' H' vs ws->Qd ws->Q vs H')->t σ H Q
noncomputable def W.fz:W->W
 | .ml xs=>.d (.list xs)
 | .nt ds=>.d (.tuple ds)
 | w=>w
theorem cO.fz{K:W.Frag}{F1 H1:Hp}{w:W}(g:Grow rl F H F1 H1)(r:cO K rl F1 H1 v w)(n:d6 H v w):∃F2,Grow rl F H F2 H1/\be F1 F2/\cO K rl F2 H1 v w.fz:=by
 cases w with
 | d x=>exact⟨F1,g,.refl _,r⟩
 | pk xs=>exact⟨F1,g,.refl _,r⟩
 | reel=>exact⟨F1,g,.refl _,r⟩
 | vv u=>exact⟨F1,g,.refl _,r⟩
 | md u=>exact⟨F1,g,.refl _,r⟩
 | mk u=>exact⟨F1,g,.refl _,r⟩
 | xm u=>exact⟨F1,g,.refl _,r⟩
 | lk=>exact⟨F1,g,.refl _,r⟩
 | sc _=>exact⟨F1,g,.refl _,r⟩
 | fd _=>exact⟨F1,g,.refl _,r⟩
 | xr _=>exact⟨F1,g,.refl _,r⟩
 | fw _=>exact⟨F1,g,.refl _,r⟩
 | ft _=>exact⟨F1,g,.refl _,r⟩
 | xc _ _=>exact⟨F1,g,.refl _,r⟩
 | dp _ _=>exact⟨F1,g,.refl _,r⟩
 | nt ds=>obtain⟨a,vs,rfl,h,q⟩:=r;exact⟨F1,g,.refl _,.tup (.inl (.inl h)) q⟩
 | ml xs =>
   obtain⟨a,vs,rfl,f,hr,hh,q⟩:=(show gN K rl F1 H1 v xs from r);have neF:∀b u,F1 b=some u->b≠a:=fun b u q z=>by subst z;rw[f]at q;cases q
   have fsm:be F1 (upd F1 a (.lst vs)):=fun b u z=>by rw[upd_ne (neF b u z)];exact z
   exact⟨upd F1 a (.lst vs),g.freeze (n a rfl) hh f hr,fsm,.lst ak (q.mono fsm)⟩
section
variable{X:Cx}{rl:Option Addr}{a b e:Expr}{es:List Expr}{fa fb fc:TV}{fs:Dg}{pos p:Pos}
noncomputable def vC(x:D2):TV:=fun _ Q=>Q (.d x)
theorem d9{x:D2}(h:PE X e (tC v))(r:∀F,Rep X.K F v x):PV X rl e (vC x) :=
 ⟨_,h,fun R Qd Q q k=>k v (.d x) _ _ (Grow.refl R.sub R.reel) (r _) trivial q⟩
theorem ae{i:Int}{j pos}:PV X rl (.Constant (.int i) j pos) (vC (.int i)):=d9 ar fun _=>.int i
theorem b5{i:Bool}{j pos}:PV X rl (.Constant (.bool i) j pos) (vC (.bool i)):=d9 wm fun _=>.bl i
theorem mE{j pos}:PV X rl (.Constant (.str x) j pos) (vC (.str x)):=d9 wg fun _=>.str x
theorem sV{n:String}{pos:Pos}(hm:X.mg x=none)(hv:GU x=some (.type n))(hg:autoParam (Gl X x) æa._auto_1)(hn:autoParam (x ≠ "__name__") æb._auto_1)(hd:autoParam ((x==("__debug__" : Str))=false) æb._auto_1) :
 PV X rl (.Name x pos) (fun _ Q=>Q (.vv (.ty n))) :=
 ⟨_,tK (v:=.ty n) hg hm hv rfl hn hd,fun R Qd Q q k=>k (.ty n) (.vv (.ty n)) _ _ (Grow.refl R.sub R.reel) rfl trivial q⟩
theorem sW{u:D4}{pos:Pos}(hm:X.mg x=some u)(r:RelV v u)(h:∀F,Rep X.K F v d)(hg:autoParam (Gl X x) æa._auto_1)(hd:autoParam ((x==("__debug__" : Str))=false) æb._auto_1):PV X rl (.Name x pos) (vC d) :=
 d9 (tI hg hm r hd) h
noncomputable def fy(i:Nat):TV:=fun ρ Q=>∃w,ρ[i]?=some (some w)/\Q w.peek
theorem vn(i:Nat){pos:Pos}(hN:autoParam (X.N[i]?=some x) æa._auto_1)(hv:autoParam (Dd X.env.scope x) æf._auto_1)(hd:autoParam ((x==("__debug__" : Str))=false) æb._auto_1)
 (hcd:autoParam ((x==("__classdict__" : Str))=false) æb._auto_1):PV X rl (.Name x pos) (fy i) :=
 ⟨_,cR hN hv hd hcd,fun R Qd Q ⟨w,e,q⟩ k=>by
  obtain⟨v,e1,r,_⟩:=R.sl i w e;refine⟨v,e1,k v w.peek _ _ (Grow.refl R.sub R.reel) r.peek ?_ q⟩
  cases w<;>trivial⟩
noncomputable def oM:Dg:=fun _ Q=>Q []
noncomputable def aH(f:TV)(fs:Dg):Dg:=fun ρ Q=>f ρ fun w=>fs ρ fun ws=>Q (w.fz::ws)
theorem ac:Dr X rl [] oM:=⟨_,dg,fun R Qd Q q k=>k [] [] _ _ (Grow.refl R.sub R.reel) .nil q⟩
theorem aa(h1:PV X rl e fa)(h2:Dr X rl es fs)(hs:autoParam (Ec (e::es) X.env=(false,eval e X.env)::Ec es X.env) æa._auto_1):Dr X rl (e::es) (aH fa fs):=by
 obtain⟨t,p1,k1⟩:=h1;obtain⟨ts,p2,k2⟩:=h2;refine⟨_,bG p1 p2 hs,fun R Qd Q q k=>?_⟩;refine k1 R _ _ q fun v w F1 H1 g1 r1 n1 q1=>?_;obtain⟨F2,g2,s2,r2⟩:=cO.fz g1 r1 n1;refine k2 (R.grow g2) _ _ q1 fun vs ws F3 H3 g3 r3 q3=>?_;exact k (v::vs) (w.fz::ws) F3 H3 (g2.trans g3) (.cons (r2.grow g3) r3) q3
noncomputable def De(X:Cx)(rl:Option Addr)(r:R2)(g:W->W->(W->Prop)->Prop):Prop:=∀{F H:Hp}{x y:V}{wx wy:W}(Qd:W->Prop)(Q:VK),be F H->Dq rl F H->cO X.K rl F H x wx->cO X.K rl F H y wy->g wx wy Qd ->
 (∀v w F' H',Grow rl F H F' H'->cO X.K rl F' H' v w->d6 H v w->Qd w->Q v H')->r x y H Q
noncomputable def BO(g:W->W->(W->Prop)->Prop)(fa fb:TV):TV:=fun ρ Q=>fa ρ fun x=>fb ρ fun y=>g x y Q
theorem lB{r:R2}{g:W->W->(W->Prop)->Prop}(vo:De X rl r g)(ha:PV X rl a fa)(hb:PV X rl b fb){e:Expr}(hp:∀ta tb,PE X a ta->PE X b tb->PE X e (B3 r ta tb)):PV X rl e (BO g fa fb):=by
 obtain⟨ta,p1,k1⟩:=ha;obtain⟨tb,p2,k2⟩:=hb;refine⟨_,hp ta tb p1 p2,fun R Qd Q q k=>?_⟩;refine k1 R _ _ q fun v w F1 H1 g1 r1 n1 q1=>?_;refine k2 (R.grow g1) _ _ q1 fun v2 w2 F2 H2 g2 r2 n2 q2=>?_
 exact vo Qd Q g2.sub g2.reel (r1.grow g2) r2 q2 fun v3 w3 F3 H3 g3 r3 n3 q3=>k v3 w3 F3 H3 ((g1.trans g2).trans g3) r3 (by
  cases w3 with
  | ml xs=>exact fun a ea=>g1.freeB (g2.freeB (n3 a ea))
  | md xs=>exact fun a ea=>g1.freeB (g2.freeB (n3 a ea))
  | mk xs=>exact fun a ea=>g1.freeB (g2.freeB (n3 a ea))
  | xm xs=>exact fun a ea=>g1.freeB (g2.freeB (n3 a ea))
  | nt _=>trivial
  | lk=>trivial
  | sc _=>trivial
  | fd _=>trivial
  | xr _=>trivial
  | fw _=>trivial
  | ft _=>trivial
  | xc _ _=>trivial
  | dp _ _=>trivial
  | d _=>trivial
  | pk _=>trivial
  | reel=>trivial
  | vv _=>trivial) q3
theorem kL{op:LA}{r:R2}{g:W->W->(W->Prop)->Prop}(ho:DC X (JA op) r)(vo:De X rl r g)(ha:PV X rl a fa)(hb:PV X rl b fb):PV X rl (.BinOp a op b pos) (BO g fa fb) :=
 lB vo ha hb fun _ _ p1 p2=>ce ho p1 p2
noncomputable def gI(C:Int->Int->Prop)(g:Int->Int->D2):W->W->(W->Prop)->Prop:=fun x y Q=>∃i j,x = .d (.int i)/\y = .d (.int j)/\C i j/\Q (.d (g i j))
theorem aJ{K:W.Frag}{i:Int}(h:Rep K F v (.int i)):v = .int i:=by cases h;rfl
theorem f_{C:Int->Int->Prop}{g:Int->Int->V}{gd:Int->Int->D2}(h:∀K F i j,Rep K F (g i j) (gd i j)):De X rl (rI C g) (gI C gd):=fun{F H x y wx wy} Qd Q s ra r1 r2 q k=>by
 obtain⟨i,j,rfl,rfl,c,q⟩:=q;exact⟨i,j,aJ r1,aJ r2,c,k _ (.d _) _ _ (Grow.refl s ra) (h _ _ i j) trivial q⟩
noncomputable def C1(g:Int->Int->D2):W->W->(W->Prop)->Prop:=fun x y Q=>∃i j,x = .d (.int i)/\y = .d (.int j)/\Q (.d (g i j))
theorem c9{g:Int->Int->V}{gd:Int->Int->D2}(h:∀K F i j,Rep K F (g i j) (gd i j)):De X rl (Cj g) (C1 gd):=fun{F H x y wx wy} Qd Q s ra r1 r2 q k=>by
 obtain⟨i,j,rfl,rfl,q⟩:=q;exact⟨i,j,aJ r1,aJ r2,k _ (.d _) _ _ (Grow.refl s ra) (h _ _ i j) trivial q⟩
theorem v_add(ha:PV X rl a fa)(hb:PV X rl b fb):PV X rl (.BinOp a .Add b pos) (BO (C1 fun i j=>.int (i+j)) fa fb):=kL fO (c9 fun _ _ _ _=>.int _) ha hb
theorem v_sub(ha:PV X rl a fa)(hb:PV X rl b fb):PV X rl (.BinOp a .Sub b pos) (BO (C1 fun i j=>.int (i-j)) fa fb):=kL wq (c9 fun _ _ _ _=>.int _) ha hb
noncomputable def DT(i:Int):Prop:=i.natAbs<2^60000
theorem DT.bits{i:Int}(h:DT i):Builtin.Int.intBits i<=60000:=KB.mpr h
noncomputable def aZ(i j:Int):Prop:=i.natAbs<2^64\/j.natAbs<2^64\/(DT i/\DT j)
theorem aZ.lt{i j:Int}(h:i.natAbs<2^64):aZ i j:=.inl h
theorem aZ.rt{i j:Int}(h:j.natAbs<2^64):aZ i j:=.inr (.inl h)
theorem aZ.bb{i j:Int}(h:DT i)(h':DT j):aZ i j:=.inr (.inr ⟨h,h'⟩)
theorem aZ.ok{i j:Int}(h:aZ i j):IntMulOk i j:=by
 rcases h with h|h|h
 · exact .of_left (KB.mpr h)
 · exact .of_right (KB.mpr h)
 · exact IntMulOk.of_le h.1.bits h.2.bits (by decide)
theorem eO:DC X (JA .Mult) (rI aZ fun i j=>.int (i*j)):=Cr fun _ _ _ _ _ _ _ hc q=>mul_int q hc.ok
theorem v_mul(ha:PV X rl a fa)(hb:PV X rl b fb):PV X rl (.BinOp a .Mult b pos) (BO (gI aZ fun i j=>.int (i*j)) fa fb):=kL eO (f_ fun _ _ _ _=>.int _) ha hb
noncomputable def cu(_ j:Int):Prop:=j≠0/\j.natAbs<2^9000
theorem jO:DC X (JA .FloorDiv) (rI cu fun i j=>.int (i.fdiv j)):=Cr fun _ j _ _ _ _ _ hc q=>floordiv_int hc.1 q (.inl (PyProof.noPylong_of_log2 ((Nat.log2_lt (by have:=hc.1;omega)).mpr hc.2)))
theorem v_div(ha:PV X rl a fa)(hb:PV X rl b fb):PV X rl (.BinOp a .FloorDiv b pos) (BO (gI cu fun i j=>.int (i.fdiv j)) fa fb):=kL jO (f_ fun _ _ _ _=>.int _) ha hb
theorem v_mod(ha:PV X rl a fa)(hb:PV X rl b fb):PV X rl (.BinOp a .Mod b pos) (BO (gI (fun _ j=>j≠0) fun i j=>.int (i.fmod j)) fa fb):=kL cB (f_ fun _ _ _ _=>.int _) ha hb
theorem v_pow(ha:PV X rl a fa)(hb:PV X rl b fb):PV X rl (.BinOp a .Pow b pos) (BO (gI xI fun i j=>.int (i^j.toNat)) fa fb):=kL qK (f_ fun _ _ _ _=>.int _) ha hb
noncomputable def yr(fa:TV):TV:=fun ρ Q=>fa ρ fun x=>∃i,x = .d (.int i)/\Q (.d (.int (-i)))
theorem rM(ha:PV X rl a fa):PV X rl (.UnaryOp .USub a pos) (yr fa):=by
 obtain⟨ta,p1,k1⟩:=ha;refine⟨_,we qx p1,fun R Qd Q q k=>k1 R _ _ q fun v w F1 H1 g1 r1 n1 ⟨i,ew,q1⟩=>?_⟩;subst ew;exact⟨i,aJ r1,k _ (.d _) F1 H1 g1 (.int _) trivial q1⟩
theorem oZ{r:R2}{g:W->W->(W->Prop)->Prop}(ho:DC X (FI op) r)(vo:De X rl r g)(hm:HI op b=false)(ha:PV X rl a fa)(hb:PV X rl b fb):PV X rl (.Compare a [op] [b] pos) (BO g fa fb) :=
 lB vo ha hb fun _ _ p1 p2=>mO ho p1 p2 hm
noncomputable def lK(f:TV):TB:=fun ρ Q=>f ρ fun w=>∃k,w = .d (.bool k)/\Q k
theorem dO{K:W.Frag}{i:Bool}(h:Rep K F v (.bool i)):v = .bl i:=by cases h;rfl
theorem bA{r:R2}{g:W->W->(W->Prop)->Prop}(ho:DC X (FI op) r)(vo:De X rl r g)(hm:HI op b=false)(ha:PV X rl a fa)(hb:PV X rl b fb):PB X rl (.Compare a [op] [b] pos) (lK (BO g fa fb)):=by
 obtain⟨ta,p1,k1⟩:=ha;obtain⟨tb,p2,k2⟩:=hb;refine⟨_,dF ho p1 p2 hm,fun R Qd Q q k=>?_⟩;refine k1 R _ _ q fun v w F1 H1 g1 r1 n1 q1=>?_;refine k2 (R.grow g1) _ _ q1 fun v2 w2 F2 H2 g2 r2 n2 q2=>?_;refine vo _ _ g2.sub g2.reel (r1.grow g2) r2 q2 fun v3 w3 F3 H3 g3 r3 n3 ⟨kb,ew,q3⟩=>?_;subst ew;exact⟨kb,dO r3,k kb F3 H3 ((g1.trans g2).trans g3) q3⟩
theorem dM(ha:PV X rl e fa)(he:autoParam (∀whole,isTrue e X.env whole=(do let v <- whole;standAt e.pos;Li [v] (truthy v))) æc._auto_1):PB X rl e (lK fa):=by
 obtain⟨ta,p1,k1⟩:=ha;refine⟨_,vZ p1 he,fun R Qd Q q k=>k1 R _ _ q fun v w F1 H1 g1 r1 n1 ⟨kb,ew,q1⟩=>?_⟩;subst ew;exact⟨kb,dO r1,k kb F1 H1 g1 q1⟩
abbrev zk(p:Int->Int->Bool):=C1 fun i j=>.bool (p i j)
theorem lC:De X rl (Cj fun i j=>.bl (decide (i<j))) (zk fun i j=>decide (i<j)):=c9 fun _ _ _ _=>.bl _
theorem oV:De X rl (Cj fun i j=>.bl (decide (j<i))) (zk fun i j=>decide (j<i)):=c9 fun _ _ _ _=>.bl _
theorem yj:De X rl (Cj fun i j=>.bl (decide (j<=i))) (zk fun i j=>decide (j<=i)):=c9 fun _ _ _ _=>.bl _
noncomputable def yS(K:W.Frag)(neg:Bool):R2:=fun x y H Q=>∃dx dy,Rep K H x dx/\Rep K H y dy/\E4 dx=true/\E4 dy=true/\Q (.bl (if neg then !EU dx dy else EU dx dy)) H
theorem jP(hu:X.A.units+64<Kx):DC X (FI .Eq) (yS X.K false):=by
 intro pins s σ H x y v u Q I rx ry ⟨dx,dy,h1,h2,s1,s2,q⟩;obtain⟨as,a1⟩:=Rep.reads I (.refl H) h1 v rx;obtain⟨bs,a2⟩:=Rep.reads I (.refl H) h2 u ry;exact SeqAt.compareEq_shaped a1 a2 s1 s2 hu ⟨.bl _,H,I,rfl,q⟩
theorem dR(hu:X.A.units+64<Kx):DC X (FI .NotEq) (yS X.K true):=by
 intro pins s σ H x y v u Q I rx ry ⟨dx,dy,h1,h2,s1,s2,q⟩;obtain⟨as,a1⟩:=Rep.reads I (.refl H) h1 v rx;obtain⟨bs,a2⟩:=Rep.reads I (.refl H) h2 u ry;exact SeqAt.compareNe_shaped a1 a2 s1 s2 hu ⟨.bl _,H,I,rfl,q⟩
noncomputable def zi(neg:Bool):W->W->(W->Prop)->Prop:=fun x y Q=>∃dx dy,x.dat=some dx/\y.dat=some dy/\E4 dx=true/\E4 dy=true/\Q (.d (.bool (if neg then !EU dx dy else EU dx dy)))
theorem cp{neg:Bool}:De X rl (yS X.K neg) (zi neg):=fun{F H x y wx wy} Qd Q s ra r1 r2 q k=>by
 obtain⟨dx,dy,e1,e2,s1,s2,q⟩:=q;exact⟨dx,dy,r1.dat s e1,r2.dat s e2,s1,s2,k _ (.d _) _ _ (Grow.refl s ra) (.bl _) trivial q⟩
noncomputable def Ax(K:W.Frag)(neg:Bool):R2:=fun x y H Q=>∃dx ys,Rep K H x dx/\(Rep K H y (.list ys)\/Rep K H y (.tuple ys))/\E4 dx=true/\Gu ys=true/\Q (.bl (if neg then !(ys.any fun z=>EU z dx)else ys.any fun z=>EU z dx)) H
theorem nO{ys:List D2}(hu:A.units+65<Kx)(h:E4 d=true):A.units+1+min (HM ys) d.depth<Kx:=by
 have h1:=SeqAt.depth_of_shaped h;have h2:min (HM ys) d.depth<=d.depth:=Nat.min_le_right _ _;omega
theorem mQ(hu:X.A.units+65<Kx):DC X (FI .NotIn) (Ax X.K true):=by
 intro pins s σ H x y v u Q I rx ry ⟨dx,ys,h1,h2,s1,s2,q⟩;obtain⟨as,a1⟩:=Rep.reads I (.refl H) h1 v rx;rcases h2 with h2|h2
 · obtain⟨bs,a2⟩:=Rep.reads I (.refl H) h2 u ry;exact SeqAt.notIn_list_reads a2 a1 s2 (JV s1) (nO hu s1) ⟨.bl _,H,I,rfl,q⟩
 · obtain⟨bs,a2⟩:=Rep.reads I (.refl H) h2 u ry;exact SeqAt.notIn_tuple_reads a2 a1 s2 (JV s1) (nO hu s1) ⟨.bl _,H,I,rfl,q⟩
noncomputable def zh(neg:Bool):W->W->(W->Prop)->Prop:=fun x y Q=>∃dx ys,x.dat=some dx/\(y.dat=some (.list ys)\/y.dat=some (.tuple ys))/\E4 dx=true/\Gu ys=true/\Q (.d (.bool (if neg then !(ys.any fun z=>EU z dx)else ys.any fun z=>EU z dx)))
theorem uR{neg:Bool}:De X rl (Ax X.K neg) (zh neg):=fun{F H x y wx wy} Qd Q s ra r1 r2 q k=>by
 obtain⟨dx,ys,e1,e2,s1,s2,q⟩:=q;exact⟨dx,ys,r1.dat s e1,e2.imp (fun e=>r2.dat s e) (fun e=>r2.dat s e),s1,s2,k _ (.d _) _ _ (Grow.refl s ra) (.bl _) trivial q⟩
noncomputable def Ao(f g:TB):TB:=fun ρ Q=>f ρ fun b=>if b=true then g ρ Q else Q false
noncomputable def BN(f g:TB):TB:=fun ρ Q=>f ρ fun b=>if b=true then Q true else g ρ Q
noncomputable def An(f:TB):TB:=fun ρ Q=>f ρ fun b=>Q (!b)
noncomputable def DB(X:Cx)(rl:Option Addr)(e:Expr)(f:TB):Prop:=∃t,PW X e t/\∀{F₀ H₀ F H:Hp}{σ:St}{ρ:En},VR X.K rl F₀ H₀ F H σ ρ->∀(Qd:Bool->Prop)(Q:Bool->Hp->Prop),f ρ Qd ->
 (∀b F' H',Grow rl F H F' H'->Qd b->Q b H')->t σ H Q
variable{f g:TB}{rest:List Expr}
theorem DB.pb(h:DB X rl e f):PB X rl e f:=let ⟨t,p,k⟩:=h;⟨t,p.pt,k⟩
theorem qr(ha:PB X rl a f):DB X rl (.BoolOp .Or [a] pos) f:=let ⟨t,p,k⟩:=ha;⟨t,vX p,k⟩
theorem u4(ha:PB X rl a f)(hb:DB X rl (.BoolOp .Or (b::rest) pos) g):DB X rl (.BoolOp .Or (a::b::rest) pos) (BN f g):=by
 obtain⟨t,p,k⟩:=ha;obtain⟨t2,p2,k2⟩:=hb;refine⟨_,yV p p2,fun R Qd Q q h=>k R _ _ q fun c F1 H1 g1 q1=>?_⟩
 cases c with
 | true=>exact h true F1 H1 g1 q1
 | false=>exact k2 (R.grow g1) _ _ q1 fun c F2 H2 g2 q2=>h c F2 H2 (g1.trans g2) q2
theorem cQ(ha:PB X rl a f):PB X rl (.UnaryOp .Not a pos) (An f):=by
 obtain⟨t,p,k⟩:=ha;exact⟨_,v4 p,fun R Qd Q q h=>k R _ _ q fun c F1 H1 g1 q1=>h (!c) F1 H1 g1 q1⟩
noncomputable def r_(fa fb:TV):TV:=fun ρ Q=>fa ρ fun w=>∃c,w = .d (.bool c)/\if c=true then fb ρ Q else Q (.d (.bool false))
noncomputable def yq(fa fb:TV):TV:=fun ρ Q=>fa ρ fun w=>∃c,w = .d (.bool c)/\if c=true then Q (.d (.bool true))else fb ρ Q
noncomputable def rY(fa:TV):TV:=fun ρ Q=>fa ρ fun w=>∃c,w = .d (.bool c)/\Q (.d (.bool (!c)))
theorem d6.back{rl:Option Addr}{w:W}(g:Grow rl F H F' H')(n:d6 H' v w):d6 H v w:=by
 cases w with
 | ml xs=>exact fun a ea=>g.freeB (n a ea)
 | md xs=>exact fun a ea=>g.freeB (n a ea)
 | mk xs=>exact fun a ea=>g.freeB (n a ea)
 | xm xs=>exact fun a ea=>g.freeB (n a ea)
 | nt _=>trivial
 | lk=>trivial
 | sc _=>trivial
 | fd _=>trivial
 | xr _=>trivial
 | fw _=>trivial
 | ft _=>trivial
 | xc _ _=>trivial
 | dp _ _=>trivial
 | d _=>trivial
 | pk _=>trivial
 | reel=>trivial
 | vv _=>trivial
theorem lH{op}(ha:PV X rl a fa):PV X rl (.BoolOp op [a] pos) fa:=let ⟨t,p,k⟩:=ha;⟨t,wj p,k⟩
theorem v_and(ha:PV X rl a fa)(hb:PV X rl (.BoolOp .And (b::rest) pos) fb):PV X rl (.BoolOp .And (a::b::rest) pos) (r_ fa fb):=by
 obtain⟨t,p,k⟩:=ha;obtain⟨t2,p2,k2⟩:=hb;refine⟨_,wo p p2,fun R Qd Q q h=>k R _ _ q fun v w F1 H1 g1 r1 n1 ⟨c,ew,q1⟩=>?_⟩;subst ew;refine⟨c,dO r1,?_⟩
 cases c with
 | true=>exact k2 (R.grow g1) _ _ q1 fun v w F2 H2 g2 r2 n2 q2=>h v w F2 H2 (g1.trans g2) r2 (n2.back g1) q2
 | false=>exact h _ (.d _) F1 H1 g1 (.bl false) trivial q1
theorem v_or(ha:PV X rl a fa)(hb:PV X rl (.BoolOp .Or (b::rest) pos) fb):PV X rl (.BoolOp .Or (a::b::rest) pos) (yq fa fb):=by
 obtain⟨t,p,k⟩:=ha;obtain⟨t2,p2,k2⟩:=hb;refine⟨_,yZ p p2,fun R Qd Q q h=>k R _ _ q fun v w F1 H1 g1 r1 n1 ⟨c,ew,q1⟩=>?_⟩;subst ew;refine⟨c,dO r1,?_⟩
 cases c with
 | false=>exact k2 (R.grow g1) _ _ q1 fun v w F2 H2 g2 r2 n2 q2=>h v w F2 H2 (g1.trans g2) r2 (n2.back g1) q2
 | true=>exact h _ (.d _) F1 H1 g1 (.bl true) trivial q1
theorem v_not(ha:PV X rl a fa):PV X rl (.UnaryOp .Not a pos) (rY fa):=by
 obtain⟨t,p,k⟩:=ha;refine⟨_,wl p,fun R Qd Q q h=>k R _ _ q fun v w F1 H1 g1 r1 n1 ⟨c,ew,q1⟩=>?_⟩;subst ew;exact⟨c,dO r1,h _ (.d _) F1 H1 g1 (.bl _) trivial q1⟩
noncomputable def BQ(t:TB)(fa fb:TV):TV:=fun ρ Q=>t ρ fun c=>if c=true then fa ρ Q else fb ρ Q
theorem rP(hc:PB X rl c f)(ha:PV X rl a fa)(hb:PV X rl b fb):PV X rl (.IfExp c a b pos) (BQ f fa fb):=by
 obtain⟨t,p,k⟩:=hc;obtain⟨t1,p1,k1⟩:=ha;obtain⟨t2,p2,k2⟩:=hb;refine⟨_,pA p p1 p2,fun R Qd Q q h=>k R _ _ q fun c F1 H1 g1 q1=>?_⟩
 cases c with
 | true=>exact k1 (R.grow g1) _ _ q1 fun v w F2 H2 g2 r2 n2 q2=>h v w F2 H2 (g1.trans g2) r2 (n2.back g1) q2
 | false=>exact k2 (R.grow g1) _ _ q1 fun v w F2 H2 g2 r2 n2 q2=>h v w F2 H2 (g1.trans g2) r2 (n2.back g1) q2
noncomputable def eB:List W->Option (List D2)
 | []=>some []
 | .d x::r=>(eB r).map (x :: ·)
 | _::_=>none
theorem cH{K:W.Frag}{F H:Hp}:∀{vs:List V}{ws:List W}{ds:List D2},dJ K rl F H vs ws->eB ws=some ds->Reps K F vs ds
 | _,_,_,.nil,e=>by cases e;exact .nil
 | _,.d x::ws,ds,.cons r rs,e=>by
   have e:(eB ws).map (x :: ·)=some ds:=e
   cases q:eB ws with
   | none=>rw[q]at e;cases e
   | some es=>rw[q]at e;cases e;exact .cons r (cH rs q)
 | _,.ml x::ws,ds,.cons r rs,e=>by cases(show none=some ds from e)
 | _,.pk x::ws,ds,.cons r rs,e=>by cases(show none=some ds from e)
 | _,.reel::ws,ds,.cons r rs,e=>by cases(show none=some ds from e)
 | _,.vv u::ws,ds,.cons r rs,e=>by cases(show none=some ds from e)
 | _,.md u::ws,ds,.cons r rs,e=>by cases(show none=some ds from e)
 | _,.nt u::ws,ds,.cons r rs,e=>by cases(show none=some ds from e)
 | _,.lk::ws,ds,.cons r rs,e=>by cases(show none=some ds from e)
 | _,.sc _::ws,ds,.cons r rs,e=>by cases(show none=some ds from e)
 | _,.fd _::ws,ds,.cons r rs,e=>by cases(show none=some ds from e)
 | _,.xr _::ws,ds,.cons r rs,e=>by cases(show none=some ds from e)
 | _,.xc _ _::ws,ds,.cons r rs,e=>by cases(show none=some ds from e)
 | _,.mk _::ws,ds,.cons r rs,e=>by cases(show none=some ds from e)
 | _,.xm _::ws,ds,.cons r rs,e=>by cases(show none=some ds from e)
 | _,.fw _::ws,ds,.cons r rs,e=>by cases(show none=some ds from e)
 | _,.ft _::ws,ds,.cons r rs,e=>by cases(show none=some ds from e)
 | _,.dp _ _::ws,ds,.cons r rs,e=>by cases(show none=some ds from e)
noncomputable def ym(fs:Dg):TV:=fun ρ Q=>fs ρ fun ws=>∃ds,eB ws=some ds/\ds.length<=sizeLine/\Q (.d (.tuple ds))
noncomputable def yt(fs:Dg):TV:=fun ρ Q=>fs ρ fun ws=>∃ds,eB ws=some ds/\ds.length<=sizeLine/\Q (.ml ds)
theorem cw{x1}(h:Dr X rl es fs):PV X rl (.Tuple es x1 pos) (ym fs):=by
 obtain⟨t,p,k⟩:=h;refine⟨_,wf p,fun R Qd Q q h=>k R _ _ q fun vs ws F1 H1 g1 r1 ⟨ds,e1,z,q1⟩=>?_⟩;have rs:=cH r1 e1;refine⟨by rw[rs.length];exact z,fun p hp=>?_⟩;have g2:=g1.trans (Grow.data (a:=p) (o:=.tup vs) g1.sub g1.reel hp);exact h _ (.d (.tuple ds)) _ _ g2 (.tup (.inl (.inl ak)) (rs.mono (Grow.data (o:=.tup vs) g1.sub g1.reel hp).fs)) trivial q1
theorem gr{K:W.Frag}{p:Addr}{ds:List D2}(s:be F H)(ra:Dq rl F H)(hp:H p=none)(rs:Reps K F vs ds):gN K rl F (upd H p (.lst vs)) (.ref p) ds:=by
 refine⟨p,vs,rfl,s.free hp,fun e=>?_,ak,rs⟩;obtain⟨o,q⟩:=ra.live e;rw[hp]at q;cases q
theorem oW(h:Dr X rl es fs):PV X rl (.List es pos) (yt fs):=by
 obtain⟨t,p,k⟩:=h;refine⟨_,qI p,fun R Qd Q q h=>k R _ _ q fun vs ws F1 H1 g1 r1 ⟨ds,e1,z,q1⟩=>?_⟩;have rs:=cH r1 e1;refine⟨by rw[rs.length];exact z,fun p hp=>?_⟩;exact h _ (.ml ds) _ _ (g1.trans (Grow.laid (a:=p) (o:=.lst vs) g1.sub g1.reel hp)) (gr g1.sub g1.reel hp rs) (fun a ea=>by cases ea;exact g1.freeB hp) q1
noncomputable def itemAt:D2->Int->Option D2
 | .list xs,i=>atI xs i
 | .tuple xs,i=>atI xs i
 | _,_=>none
theorem Reps.atI{K:W.Frag}{F:Hp}{vs:List V}{ds:List D2}{i:Int}{d:D2}(r:Reps K F vs ds)(e:L2.atI ds i=some d):∃v,L2.atI vs i=some v/\Rep K F v d:=by
 unfold L2.atI at e ⊢;rw[r.length]
 cases q:ixN ds.length i with
 | none=>rw[q]at e;cases e
 | some j =>
   rw[q]at e;exact r.get e
noncomputable def CZ:W->W->(W->Prop)->Prop:=fun x y Q=>∃dx i z,x.dat=some dx/\y = .d (.int i)/\itemAt dx i=some z/\Q (.d z)
theorem yi:De X rl (Ci X.K) CZ:=fun{F H x y wx wy} Qd Q s ra r1 r2 q k=>by
 obtain⟨dx,i,z,e1,rfl,e3,q⟩:=q;have ey:=aJ r2;subst ey
 cases dx with
 | list xs =>
   obtain⟨a,vs,rfl,sq,rs⟩:=r1.items s e1;obtain⟨v,e4,rz⟩:=Reps.atI rs e3
   exact .inl ⟨a,vs,i,v,rfl,rfl,sq,e4,k _ (.d _) _ _ (Grow.refl s ra) rz trivial q⟩
 | tuple xs =>
   obtain⟨a,vs,rfl,sq,rs⟩:=r1.itemsT s e1;obtain⟨v,e4,rz⟩:=Reps.atI rs e3
   exact .inr (.inl ⟨a,vs,i,v,rfl,rfl,sq,e4,k _ (.d _) _ _ (Grow.refl s ra) rz trivial q⟩)
 | none=>cases e3
 | bool b=>cases e3
 | int b=>cases e3
 | str b=>cases e3
 | dict b=>cases e3
theorem bf(ha:PV X rl a fa)(hb:PV X rl b fb)(hs:autoParam (oI b) æi._auto_1):PV X rl (.Subscript a b pos) (BO CZ fa fb):=lB yi ha hb fun _ _ p1 p2=>b4 bg p1 p2 hs
noncomputable def d0(X:Cx)(rl:Option Addr)(r:List V->Hp->VK->Prop)(g:List W->(W->Prop)->Prop):Prop:=∀{F H:Hp}{vs:List V}{ws:List W}(Qd:W->Prop)(Q:VK),be F H->Dq rl F H->dJ X.K rl F H vs ws->g ws Qd ->
 (∀v w F' H',Grow rl F H F' H'->cO X.K rl F' H' v w->d6 H v w->Qd w->Q v H')->r vs H Q
noncomputable def cI(g:List W->(W->Prop)->Prop)(fs:Dg):TV:=fun ρ Q=>fs ρ fun ws=>g ws Q
theorem gb{r:List V->Hp->VK->Prop}{g:List W->(W->Prop)->Prop}{t:TA->TE}(vc:d0 X rl r g)(ha:Dr X rl es fs){e:Expr}(hp:∀ta,PA X es ta->PE X e (B5 r ta)):PV X rl e (cI g fs):=by
 obtain⟨ta,p1,k1⟩:=ha;refine⟨_,hp ta p1,fun R Qd Q q k=>k1 R _ _ q fun vs ws F1 H1 g1 r1 q1=>?_⟩;exact vc Qd Q g1.sub g1.reel r1 q1 fun v w F2 H2 g2 r2 n2 q2=>k v w F2 H2 (g1.trans g2) r2 (n2.back g1) q2
theorem b9{id:String}{r:List V->Hp->VK->Prop}{g:List W->(W->Prop)->Prop}(hc:cr X (.builtin id) r)(vc:d0 X rl r g)(hm:X.mg x=none)(hv:GU x=some (.builtin id))(ha:Dr X rl (e::es) fs)(hg:autoParam (Gl X x) æa._auto_1)(hn:autoParam (x ≠ "__name__") æb._auto_1)(hdb:autoParam ((x==("__debug__" : Str))=false) æb._auto_1)
 (he:autoParam (Ec (e::es) X.env=(false,eval e X.env)::Ec es X.env) æa._auto_1)(hpl:autoParam ((FN pos (Ec es X.env)).any (·.1)=false) æa._auto_1):PV X rl (.Call (.Name x p) (e::es) [] pos) (cI g fs) :=
 gb (t:=fun _=>tC .non) vc ha fun _ p1=>cf hc hg hm hv p1 hn hdb he hpl
theorem jD{T:String}{r:List V->Hp->VK->Prop}{g:List W->(W->Prop)->Prop}(hc:cr X (.type T) r)(vc:d0 X rl r g)(hm:X.mg x=none)(hv:GU x=some (.type T))(ha:Dr X rl (e::es) fs)(hg:autoParam (Gl X x) æa._auto_1)(hn:autoParam (x ≠ "__name__") æb._auto_1)(hdb:autoParam ((x==("__debug__" : Str))=false) æb._auto_1)
 (he:autoParam (Ec (e::es) X.env=(false,eval e X.env)::Ec es X.env) æa._auto_1)(hpl:autoParam ((FN pos (Ec es X.env)).any (·.1)=false) æa._auto_1):PV X rl (.Call (.Name x p) (e::es) [] pos) (cI g fs) :=
 gb (t:=fun _=>tC .non) vc ha fun _ p1=>eM hc hg hm hv p1 hn hdb he hpl
theorem l_{K:W.Frag}{w:W}(r:dJ K rl F H vs [w]):∃v,vs=[v]/\cO K rl F H v w:=by
 cases r with
 | cons r1 r2=>cases r2;exact⟨_,rfl,r1⟩
theorem yQ{K:W.Frag}{w w':W}(r:dJ K rl F H vs [w,w']):∃v u,vs=[v,u]/\cO K rl F H v w/\cO K rl F H u w':=by
 cases r with
 | cons r1 r2 =>
   cases r2 with
   | cons r3 r4=>cases r4;exact⟨_,_,rfl,r1,r3⟩
noncomputable def xY:List W->(W->Prop)->Prop:=fun ws Q=>∃i,ws=[.d (.int i)]/\Q (.d (.int (if i<0 then -i else i)))
theorem uZ:d0 X rl (fun xs H Q=>∃i,xs=[.int i]/\Q (.int (if i<0 then -i else i)) H) xY:=fun{F H vs ws} Qd Q s ra r ⟨i,ew,q⟩ k=>by
 subst ew;obtain⟨v,rfl,r1⟩:=l_ r;have e:=aJ r1;subst e;exact⟨i,rfl,k _ (.d _) _ _ (Grow.refl s ra) (.int _) trivial q⟩
noncomputable def tU:D2->Option Nat
 | .list xs=>some xs.length
 | .tuple xs=>some xs.length
 | _=>none
noncomputable def xU:List W->(W->Prop)->Prop:=fun ws Q=>∃w d n,ws=[w]/\w.dat=some d/\tU d=some n/\Q (.d (.int n))
theorem uV:d0 X rl (fun xs H Q=>∃p ys,xs=[.ref p]/\(Dn X.K H p ys\/Dm X.K H p ys)/\Q (.int ys.length) H) xU:=fun{F H vs ws} Qd Q s ra r ⟨w,d,n,ew,e1,e2,q⟩ k=>by
 subst ew;obtain⟨v,rfl,r1⟩:=l_ r
 cases d with
 | list xs =>
   obtain⟨a,vs,rfl,sq,rs⟩:=r1.items s e1;cases e2
   exact⟨a,vs,rfl,.inl sq,k _ (.d _) _ _ (Grow.refl s ra) (by rw[rs.length];exact .int _) trivial q⟩
 | tuple xs =>
   obtain⟨a,vs,rfl,sq,rs⟩:=r1.itemsT s e1;cases e2
   exact⟨a,vs,rfl,.inr sq,k _ (.d _) _ _ (Grow.refl s ra) (by rw[rs.length];exact .int _) trivial q⟩
 | none=>cases e2
 | bool b=>cases e2
 | int b=>cases e2
 | str b=>cases e2
 | dict b=>cases e2
end
structure VEnds where
 nx:En->Prop
 rt:W->Prop
 bk:En->Prop:=fun _=>False
 ct:En->Prop:=fun _=>False
structure EndsOk (K:W.Frag) (rl:Option Addr) (F₀ H₀ Fs:Hp) (Dv:VEnds) (D:Ends):Prop where
 nx:∀F H σ ρ,be Fs F->VR K rl F₀ H₀ F H σ ρ->Dv.nx ρ->D.nx σ H
 rt:∀v w F H,Grow rl F₀ H₀ F H->cO K rl F H v w->d6 H₀ v w->Dv.rt w->D.rt v H
 bk:∀F H σ ρ,be Fs F->VR K rl F₀ H₀ F H σ ρ->Dv.bk ρ->D.bk σ H
 ct:∀F H σ ρ,be Fs F->VR K rl F₀ H₀ F H σ ρ->Dv.ct ρ->D.ct σ H
theorem EndsOk.on{K:W.Frag}{Fs:Hp}{Dv:VEnds}{D:Ends}(ok:EndsOk K rl F₀ H₀ Fs Dv D)(s:be Fs F):EndsOk K rl F₀ H₀ F Dv D :=
 ⟨fun F1 H σ ρ s1=>ok.nx F1 H σ ρ (s.trans s1),ok.rt,fun F1 H σ ρ s1=>ok.bk F1 H σ ρ (s.trans s1),fun F1 H σ ρ s1=>ok.ct F1 H σ ρ (s.trans s1)⟩
abbrev Dh:=VEnds->En->Prop
noncomputable def Du(X:Cx)(rl:Option Addr)(st:Stmt)(t:Dh):Prop:=∃T,PS X st T/\∀{F₀ H₀ F H:Hp}{σ:St}{ρ:En},VR X.K rl F₀ H₀ F H σ ρ->∀Dv D,EndsOk X.K rl F₀ H₀ F Dv D->t Dv ρ->T D σ H
noncomputable def iK(X:Cx)(rl:Option Addr)(st:List Stmt)(t:Dh):Prop:=∃T,Dt X st T/\∀{F₀ H₀ F H:Hp}{σ:St}{ρ:En},VR X.K rl F₀ H₀ F H σ ρ->∀Dv D,EndsOk X.K rl F₀ H₀ F Dv D->t Dv ρ->T D σ H
section
variable{X:Cx}{rl:Option Addr}{st:Stmt}{rest body:List Stmt}{t u:Dh}{a b c e:Expr}{es:List Expr}{fa fb:TV}{fs:Dg}{f:TB}{pos p:Pos}
noncomputable def vh:Dh:=fun D ρ=>D.nx ρ
noncomputable def yn(t u:Dh):Dh:=fun D ρ=>t {D with nx:=u D} ρ
theorem bw:iK X rl [] vh:=⟨_,eJ,fun R Dv D ok q=>ok.nx _ _ _ _ (.refl _) R q⟩
theorem al(h:Du X rl st t):iK X rl [st] t:=let ⟨T,p,k⟩:=h;⟨T,bZ p,k⟩
theorem ai(h:Du X rl st t)(h2:iK X rl rest u):iK X rl (st::rest) (yn t u):=by
 obtain⟨T,p,k⟩:=h;obtain⟨T2,p2,k2⟩:=h2;exact⟨_,aT p p2,fun R Dv D ok q=>k R {Dv with nx:=u Dv} {D with nx:=T2 D} ⟨fun F H σ ρ s' R' q'=>k2 R' Dv D (ok.on s') q',ok.rt,ok.bk,ok.ct⟩ q⟩
noncomputable def yx(fa:TV):Dh:=fun D ρ=>fa ρ fun _=>D.nx ρ
noncomputable def Al(fa:TV):Dh:=fun D ρ=>fa ρ D.rt
theorem av(h:PV X rl e fa):Du X rl (.Return (some e) pos) (Al fa):=by
 obtain⟨t,p,k⟩:=h;exact⟨_,jJ p,fun R Dv D ok q=>k R _ _ q fun v w F1 H1 g1 r1 n1 q1=>ok.rt v w F1 H1 (R.g.trans g1) r1 (n1.back R.g) q1⟩
noncomputable def yo:Dh:=fun D _=>D.rt (.d .none)
noncomputable def yu(f:TB)(t u:Dh):Dh:=fun D ρ=>f ρ fun b=>if b=true then t D ρ else u D ρ
theorem bY{A B:List Stmt}(hc:PB X rl c f)(ha:iK X rl A t)(hb:iK X rl B u):Du X rl (.If c A B pos) (yu f t u):=by
 obtain⟨t0,p0,k0⟩:=hc;obtain⟨t1,p1,k1⟩:=ha;obtain⟨t2,p2,k2⟩:=hb;refine⟨_,mJ p0 p1 p2,fun R Dv D ok q=>k0 R _ _ q fun b F1 H1 g1 q1=>?_⟩
 cases b with
 | true=>exact k1 (R.grow g1) Dv D (ok.on g1.fs) q1
 | false=>exact k2 (R.grow g1) Dv D (ok.on g1.fs) q1
theorem oU:Du X rl st (fun _ _=>False):=⟨_,ph,fun _ _ _ _ q=>q.elim⟩
noncomputable def W.isPk:W->Bool
 | .pk _=>true
 | _=>false
noncomputable def xL(i:Nat)(fa:TV):Dh:=fun D ρ=>fa ρ fun w=>w.isPk=false/\D.nx (ρ.set i (some w))
theorem jw(i:Nat)(hN:X.N.Nodup)(he:PV X rl e fa)(hi:autoParam (X.N[i]?=some x) æa._auto_1)(hx:autoParam (Loc X.env.scope x) æd._auto_1)
 (hs:autoParam (Gx e (some (.Name x pos')) pos.line X.env=pure false) æa._auto_1)(hf:autoParam (X.fn x=true\/X.env.scope.names.lookup x=some .local) æe._auto_1) :
 Du X rl (.Assign [.Name x pos'] e pos) (xL i fa):=by
 obtain⟨t,p,k⟩:=he;refine⟨_,cz hN hi hx p hs hf,fun R Dv D ok q=>k R _ _ q fun v w F1 H1 g1 r1 n1 ⟨hp,q1⟩=>?_⟩;exact ok.nx _ _ _ _ g1.fs (R.set g1 r1 n1 (fun xs z=>by subst z;cases hp) i) q1
noncomputable def oO(ρ:En):Prop:=∀(i:Nat)(w:W),ρ[i]?=some (some w)->w.own=false
theorem oO.set{ρ:En}(h:oO ρ)(i:Nat)(x:D2):oO (ρ.set i (some (.d x))):=fun j w z=>by
 rw[EW]at z;split at z
 · split at z
   · cases z;rfl
   · cases z
 · exact h j w z
abbrev Dk:=D2->En->(En->Prop)->Prop
abbrev ln:=List D2->En->(En->Prop)->Prop
noncomputable def DA(X:Cx)(rl:Option Addr)(tg:Expr)(g:Dk):Prop:=∃G,PG X tg G/\∀{F₀ H₀ F H:Hp}{σ:St}{ρ:En},VR X.K rl F₀ H₀ F H σ ρ->∀(v:V)(x:D2)(Qd:En->Prop)(Q:St->Hp->Prop),Rep X.K F v x->g x ρ Qd ->
 (∀F' H' σ' ρ',Grow rl F H F' H'->(oO ρ->oO ρ')->VR X.K rl F₀ H₀ F' H' σ' ρ'->Qd ρ'->Q σ' H')->G v σ H Q
noncomputable def x_(X:Cx)(rl:Option Addr)(tgs:List Expr)(g:ln):Prop:=∃G,Dz X tgs G/\∀{F₀ H₀ F H:Hp}{σ:St}{ρ:En},VR X.K rl F₀ H₀ F H σ ρ->∀(vs:List V)(xs:List D2)(Qd:En->Prop)(Q:St->Hp->Prop),Reps X.K F vs xs->g xs ρ Qd ->
 (∀F' H' σ' ρ',Grow rl F H F' H'->(oO ρ->oO ρ')->VR X.K rl F₀ H₀ F' H' σ' ρ'->Qd ρ'->Q σ' H')->G vs σ H Q
noncomputable def wN(i:Nat):Dk:=fun x ρ Q=>Q (ρ.set i (some (.d x)))
theorem aA(i:Nat)(hN:X.N.Nodup)(hi:autoParam (X.N[i]?=some x) æa._auto_1)(hx:autoParam (Loc X.env.scope x) æd._auto_1)(hf:autoParam (X.fn x=true\/X.env.scope.names.lookup x=some .local) æe._auto_1):DA X rl (.Name x pos) (wN i) :=
 ⟨_,i4 hN hi hx hf,fun R v x Qd Q r q k=>k _ _ _ _ (Grow.refl R.sub R.reel) (fun n=>n.set i x) (R.set (w:=.d x) (Grow.refl R.sub R.reel) r trivial (fun _ z=>by cases z) i) q⟩
noncomputable def zd:ln:=fun xs ρ Q=>xs=[]/\Q ρ
noncomputable def pX(g:Dk)(gs:ln):ln:=fun xs ρ Q=>∃y r,xs=y::r/\g y ρ fun ρ'=>gs r ρ' Q
theorem dC:x_ X rl [] zd:=⟨_,tE,fun R vs xs Qd Q r ⟨e,q⟩ k=>by subst e;exact⟨r.nil_iff,k _ _ _ _ (Grow.refl R.sub R.reel) (fun n=>n) R q⟩⟩
theorem bh{g:Dk}{gs:ln}(h1:DA X rl e g)(h2:x_ X rl es gs)(hs:autoParam ((GD (e::es) X.env).map (·.2)=HE e X.env::(GD es X.env).map (·.2)) æa._auto_1):x_ X rl (e::es) (pX g gs):=by
 obtain⟨G,p,k⟩:=h1;obtain⟨G2,p2,k2⟩:=h2;refine⟨_,po p p2 hs,fun R vs xs Qd Q r ⟨y,ys,ex,q⟩ h=>?_⟩;subst ex
 cases r with
 | cons r1 r2 =>
   refine⟨_,_,rfl,k R _ y _ _ r1 q fun F1 H1 σ1 ρ1 s1 n1 R1 q1=>?_⟩;exact k2 R1 _ ys _ _ (r2.mono s1.fs) q1 fun F2 H2 σ2 ρ2 s2 n2 R2 q2=>h F2 H2 σ2 ρ2 (s1.trans s2) (fun n=>n2 (n1 n)) R2 q2
noncomputable def zc(n:Nat)(gs:ln):Dk:=fun x ρ Q=>∃xs,x = .tuple xs/\xs.length=n/\gs xs ρ Q
theorem fF{kk:Nat}{gs:ln}(hc:X.calm=true)(h:x_ X rl es gs)(hn:autoParam ((GD es X.env).length=n) æa._auto_1)(hst:autoParam ((GD es X.env).findIdx? (·.1)=none) æa._auto_1):DA X rl (.Tuple es kk pos) (zc n gs):=by
 obtain⟨G,p,k⟩:=h;refine⟨_,wd hc p hn hst,fun R v x Qd Q r ⟨xs,ex,hl,q⟩ h=>?_⟩;subst ex
 cases r with
 | tup sq rs=>exact⟨_,_,rfl,cX R.sub sq,by rw[rs.length];exact hl,k R _ xs _ _ rs q h⟩
noncomputable def yz(fa:TV)(g:Dk):Dh:=fun D ρ=>fa ρ fun w=>∃x,w = .d x/\g x ρ D.nx
theorem lA{g:Dk}(he:PV X rl e fa)(hg:DA X rl tg g)(hs:autoParam (Jz [tg] e pos.line X.env=pure false) æa._auto_1)(hw:autoParam (HF [tg] e X.env=pure none) æa._auto_1)
 (h1:autoParam ((GD [tg] X.env).map (·.2)=[HE tg X.env]) æa._auto_1):Du X rl (.Assign [tg] e pos) (yz fa g):=by
 obtain⟨t,p,k⟩:=he;obtain⟨G,p2,k2⟩:=hg;refine⟨_,hX p p2 hs hw h1,fun R Dv D ok q=>k R _ _ q fun v w F1 H1 g1 r1 n1 ⟨x,ew,q1⟩=>?_⟩;subst ew;exact k2 (R.grow g1) v x _ _ r1 q1 fun F2 H2 σ2 ρ2 s2 n2 R2 q2=>ok.nx _ _ _ _ (g1.fs.trans s2.fs) R2 q2
noncomputable def Am(i j:Nat)(fs:Dg):Dh:=fun D ρ=>fs ρ fun ws=>∃x y,eB ws=some [x,y]/\D.nx ((ρ.set i (some (.d x))).set j (some (.d y)))
theorem jx(i j:Nat){y:Str}{py pt:Pos}{kt k2 pt2}(hc:X.calm=true)(hN:X.N.Nodup)(ha:Dr X rl [a,b] fs)
 (hw:autoParam (HF [.Tuple [.Name x px,.Name y py] kt pt] (.Tuple [a,b] k2 pt2) X.env=pure (some [x,y])) æa._auto_1)(hi:autoParam (X.N[i]?=some x) æa._auto_1)(hj:autoParam (X.N[j]?=some y) æa._auto_1)(hij:autoParam (i≠j) æb._auto_1)
 (hx:autoParam (X.env.scope.names.lookup x=some .local) æa._auto_1)(hy:autoParam (X.env.scope.names.lookup y=some .local) æa._auto_1)
 (hs:autoParam (Jz [.Tuple [.Name x px,.Name y py] kt pt] (.Tuple [a,b] k2 pt2) pos.line X.env=pure false) æa._auto_1) :
 Du X rl (.Assign [.Tuple [.Name x px,.Name y py] kt pt] (.Tuple [a,b] k2 pt2) pos) (Am i j fs):=by
 obtain⟨t,p,k⟩:=ha;refine⟨_,v7 hc hN hi hj hij hx hy p hw hs,fun R Dv D ok q=>k R _ _ q fun vs ws F1 H1 g1 r1 ⟨x,y,e1,q1⟩=>?_⟩;have rs:=cH r1 e1
 cases rs with
 | cons rx rs =>
   cases rs with
   | cons ry rs =>
     cases rs;have R1:=(R.grow g1).set (w:=.d x) (Grow.refl g1.sub g1.reel) rx trivial (fun _ z=>by cases z) i;exact⟨_,_,rfl,ok.nx _ _ _ _ g1.fs (R1.set (w:=.d y) (Grow.refl g1.sub g1.reel) ry trivial (fun _ z=>by cases z) j) q1⟩
structure VIt (K:W.Frag) (rl:Option Addr) (F:Hp) (J:It) (xs:List D2):Prop where
 go:∀i H x,xs[i]?=some x->be F H->J.go i H
 stop:∀i H,xs.length<=i->be F H->J.stop i H
 yld:∀i H v H' x F2,xs[i]?=some x->be F F2->be F2 H->Dq rl F2 H->J.yld i H v H'->∃F3,Grow rl F2 H F3 H'/\Rep K F3 v x
theorem VIt.of{K:W.Frag}{rl:Option Addr}{J:It}(go:∀i H x,xs[i]?=some x->be F H->J.go i H)(stop:∀i H,xs.length<=i->be F H->J.stop i H)
 (yld:∀i H v H' x,xs[i]?=some x->be F H->J.yld i H v H'->H'=H/\Rep K F v x):VIt K rl F J xs :=
 ⟨go,stop,fun i H v H' x F2 e s s2 ra y=>by
  obtain⟨e1,r⟩:=yld i H v H' x e (s.trans s2) y;subst e1
  exact⟨F2,Grow.refl s2 ra,r.mono s⟩⟩
noncomputable def Dx(X:Cx)(rl:Option Addr)(tg iter:Expr)(fi:En->(List D2->Prop)->Prop):Prop:=∃wi,PI X tg iter wi/\∀{F₀ H₀ F H:Hp}{σ:St}{ρ:En},VR X.K rl F₀ H₀ F H σ ρ->∀(Qd:List D2->Prop)(R:It->Hp->Prop),fi ρ Qd ->
 (∀J xs F' H',Grow rl F H F' H'->VIt X.K rl F' J xs->Qd xs->R J H')->wi σ H R
end
section
variable{X:Cx}{rl:Option Addr}{st:Stmt}{rest body:List Stmt}{t u:Dh}{a b c e:Expr}{es:List Expr}{fa fb:TV}{fs:Dg}{f:TB}{pos p:Pos}{tg:Expr}
noncomputable def yw(i:Nat)(t:Dh):Dh:=fun D ρ=>∃xs,ρ[i]?=some (some (.ml xs))/\t D (ρ.set i (some (.d (.list xs))))
theorem p6{K:W.Frag}{ρ:En}(r:VR K rl F₀ H₀ F H σ ρ)(e:ρ[i]?=some (some (.ml xs))):∃F1,be F F1/\VR K rl F₀ H₀ F1 H σ (ρ.set i (some (.d (.list xs)))):=by
 obtain⟨v,h1,h2,h3⟩:=r.sl i _ e;obtain⟨a,vs,ev,f,hr,hh,q⟩:=(show gN K rl F H v xs from h2);obtain⟨F1,R1⟩:=r.freeze e;obtain⟨v',k1,k2,k3⟩:=R1.sl i _ (Ep (Ek.mp e).1);have neF:∀b u,F b=some u->b≠a:=fun b u q z=>by subst z;rw[f]at q;cases q
 have fsm:be F (upd F a (.lst vs)):=fun b u z=>by rw[upd_ne (neF b u z)];exact z
 have hi:i<ρ.length:=(Ek.mp e).1;refine⟨upd F a (.lst vs),fsm,r.g.freeze (h3 a ev) hh f hr,fun j w e1=>?_,R1.ap,R1.np,R1.len⟩;by_cases hj:i=j
 · subst hj;rw[Ep hi]at e1;cases e1;exact⟨v,h1,by rw[ev];exact .lst ak (q.mono fsm),trivial⟩
 · rw[El hj]at e1;obtain⟨u,g1,g2,g3⟩:=r.sl j w e1;refine⟨u,g1,?_,g3⟩
   cases w with
   | d x=>exact Rep.mono fsm g2
   | reel=>exact g2
   | vv u=>exact g2
   | ml ys =>
     obtain⟨b,us,eb,f1,f2,f3,f4⟩:=(show gN K rl F H u ys from g2);have ne:b≠a:=fun z=>r.ap i j _ _ v hj e e1 rfl rfl h1 (by rw[g1,eb,z,ev])
     exact⟨b,us,eb,by rw[upd_ne ne];exact f1,f2,f3,f4.mono fsm⟩
   | pk ys=>exact absurd e1 (r.np j ys)
   | md ys =>
     obtain⟨b,us,eb,f1,f2,f3,f4⟩:=(show rm K rl F H u ys from g2);have ne:b≠a:=fun z=>r.ap i j _ _ v hj e e1 rfl rfl h1 (by rw[g1,eb,z,ev])
     exact⟨b,us,eb,by rw[upd_ne ne];exact f1,f2,f3,Fe.mapP f4 fun _ _ z=>⟨z.1,z.2.mono fsm⟩⟩
   | mk ys =>
     obtain⟨b,us,eb,f1,f2,f3,f4⟩:=(show rj K rl F H u ys from g2);have ne:b≠a:=fun z=>r.ap i j _ _ v hj e e1 rfl rfl h1 (by rw[g1,eb,z,ev])
     exact⟨b,us,eb,by rw[upd_ne ne];exact f1,f2,f3,Fe.mapP f4 fun _ _ z=>⟨z.1,z.2.mono fsm⟩⟩
   | xm ys =>
     obtain⟨b,us,eb,f1,f2,f3,f4⟩:=(show lp K rl F H u ys from g2);have ne:b≠a:=fun z=>r.ap i j _ _ v hj e e1 rfl rfl h1 (by rw[g1,eb,z,ev])
     exact⟨b,us,eb,by rw[upd_ne ne];exact f1,f2,f3,KX.mono f4 fsm⟩
   | nt ds=>obtain⟨b,us,eb,f1,f2⟩:=g2;exact⟨b,us,eb,fsm _ _ f1,f2.mono fsm⟩
   | lk=>trivial
   | sc ns=>obtain⟨b,eb,f1⟩:=g2;exact⟨b,eb,l6 fsm f1⟩
   | fd kvs=>obtain⟨b,us,eb,f1,f2⟩:=g2;exact⟨b,us,eb,fsm _ _ f1,Fe.mapP f2 fun _ _ z=>⟨z.1,z.2.mono fsm⟩⟩
   | xr kvs=>obtain⟨b,us,eb,f1,f2⟩:=g2;exact⟨b,us,eb,fsm _ _ f1,KX.mono f2 fsm⟩
   | fw kvs=>obtain⟨b,us,o,eb,f1,f2⟩:=g2;exact⟨b,us,o,eb,fsm _ _ f1,Fe.mapP f2 fun _ _ z=>⟨z.1,z.2.mono fsm⟩⟩
   | ft kvs=>obtain⟨b,us,o,eb,f1,f2⟩:=g2;exact⟨b,us,o,eb,fsm _ _ f1,Fe.mapP f2 fun _ _ z=>⟨z.1,z.2.mono fsm⟩⟩
   | xc _ _=>obtain⟨b,dx,us,C,eb,n,f1,f3,f2⟩:=g2;exact⟨b,dx,us,C,eb,n,fsm _ _ f1,fsm _ _ f3,Fe.mapP f2 fun _ _ z=>⟨z.1,z.2.mono fsm⟩⟩
   | dp _ _=>obtain⟨c,b,us,u,o,eb,f1,f3,f2,z⟩:=g2;exact⟨c,b,us,u,o,eb,fsm _ _ f1,fsm _ _ f3,Fe.mapP f2 fun _ _ z=>⟨z.1,z.2.mono fsm⟩,z.mono fsm⟩
theorem uP(i:Nat)(h:Du X rl st t):Du X rl st (yw i t):=by
 obtain⟨T,p,k⟩:=h;refine⟨T,p,fun R Dv D ok ⟨xs,e,q⟩=>?_⟩;obtain⟨F1,s1,R1⟩:=p6 R e;exact k R1 Dv D (ok.on s1) q
noncomputable def iL(fa:TV):En->(List D2->Prop)->Prop:=fun ρ Q=>fa ρ fun w=>∃xs,w.fz = .d (.list xs)/\Q xs
noncomputable def iT(fa:TV):En->(List D2->Prop)->Prop:=fun ρ Q=>fa ρ fun w=>∃xs,w.fz = .d (.tuple xs)/\Q xs
theorem iO{l:Expr}(hl:PV X rl l fa):Dx X rl tg l (iL fa):=by
 obtain⟨t,p,k⟩:=hl;refine⟨_,tD p,fun R Qd Q q h=>k R _ _ q fun v w F1 H1 g1 r1 n1 ⟨xs,ew,q1⟩=>?_⟩;obtain⟨F2,g2,s2,r2⟩:=cO.fz g1 r1 n1;rw[ew]at r2
 cases(show Rep X.K F2 v (.list xs)from r2)with
 | @lst a vs _ sq rs =>
   have sqH:∀H,be F2 H->Dn X.K H a vs:=fun H s=>.inl (.inl (s _ _ sq));refine⟨a,rfl,⟨vs,sqH H1 g2.sub⟩,h _ xs F2 H1 g2 (.of (fun i H x e s=>?_) (fun i H hl s=>⟨vs,sqH H s,by rw[rs.length];exact hl⟩) (fun i H v H' x e s y=>?_)) q1⟩
   · obtain⟨v,ev,_⟩:=rs.get e;exact⟨vs,v,sqH H s,ev⟩
   · obtain⟨e',hy⟩:=y;obtain⟨v',ev,rv⟩:=rs.get e;have:=hy vs (sqH H s);rw[ev]at this;cases this;exact⟨e',rv⟩
theorem dL{l:Expr}(hl:PV X rl l fa):Dx X rl tg l (iT fa):=by
 obtain⟨t,p,k⟩:=hl;refine⟨_,wb p,fun R Qd Q q h=>k R _ _ q fun v w F1 H1 g1 r1 n1 ⟨xs,ew,q1⟩=>?_⟩;obtain⟨F2,g2,s2,r2⟩:=cO.fz g1 r1 n1;rw[ew]at r2
 cases(show Rep X.K F2 v (.tuple xs)from r2)with
 | @tup a vs _ sq rs =>
   have sqH:∀H,be F2 H->Dm X.K H a vs:=fun H s=>cX s sq;refine⟨a,rfl,⟨vs,sqH H1 g2.sub⟩,h _ xs F2 H1 g2 (.of (fun i H x e s=>?_) (fun i H hl s=>⟨vs,sqH H s,by rw[rs.length];exact hl⟩) (fun i H v H' x e s y=>?_)) q1⟩
   · obtain⟨v,ev,_⟩:=rs.get e;exact⟨vs,v,sqH H s,ev⟩
   · obtain⟨e',hy⟩:=y;obtain⟨v',ev,rv⟩:=rs.get e;have:=hy vs (sqH H s);rw[ev]at this;cases this;exact⟨e',rv⟩
noncomputable def aV(lo:Int)(n:Nat):List D2:=(ET n).map fun(i:Nat)=>.int (lo+i)
theorem fM{lo:Int}{x:D2}(h:(aV lo n)[i]?=some x):i<n/\x = .int (lo+i):=by
 unfold aV at h;rw[E6]at h;by_cases hi:i<n
 · rw[EB (by simpa using hi)]at h;simp at h;exact⟨hi,h.symm⟩
 · rw[List.getElem?_eq_none (by simpa using hi)]at h;cases h
theorem gj{lo:Int}:(aV lo n).length=n:=by simp[aV]
theorem lD{K:W.Frag}(lo:Int)(n:Nat):VIt K rl F (DM lo n) (aV lo n) :=
 .of (fun i H x e s=>(fM e).1) (fun i H hl s=>by rw[gj]at hl;exact hl) (fun i H v H' x e s y=>by
  obtain⟨e1,e2⟩:=y;subst e2;rw[(fM e).2]
  exact⟨e1,.int _⟩)
noncomputable def CT(fs:Dg):En->(List D2->Prop)->Prop:=fun ρ Q=>fs ρ fun ws=>∃j:Int,ws=[.d (.int j)]/\(-(2^62)<=j/\j<2^62)/\Q (aV 0 j.toNat)
noncomputable def CS(fs:Dg):En->(List D2->Prop)->Prop:=fun ρ Q=>fs ρ fun ws=>∃i j:Int,ws=[.d (.int i),.d (.int j)]/\(-(2^62)<=i/\i<2^62 /\ -(2^62)<=j/\j<2^62)/\Q (aV i (j-i).toNat)
theorem c_(hm:X.mg "range" = none)(ha:Dr X rl [a] fs)(hg:autoParam (Gl X "range") æa._auto_1)(hs:autoParam (Ec [a] X.env=[(false,eval a X.env)]) æa._auto_1):Dx X rl tg (.Call (.Name "range" p) [a] [] pos) (CT fs):=by
 obtain⟨t,p1,k⟩:=ha;refine⟨_,mM hg hm p1 hs,fun R Qd Q q h=>k R _ _ q fun vs ws F1 H1 g1 r1 ⟨j,ew,b,q1⟩=>?_⟩;subst ew;obtain⟨v,rfl,rv⟩:=l_ r1;have e:=aJ rv;subst e;exact⟨j,rfl,b.1,b.2,h _ _ F1 H1 g1 (lD 0 _) q1⟩
theorem VR.own{K:W.Frag}{F₀ H₀ F H:Hp}{σ:St}{ρ:En}(r:VR K rl F₀ H₀ F H σ ρ){i:Nat}{xs ys:List D2}{a:Addr}{us:List V}(e:ρ[i]?=some (some (.ml xs)))(es:σ[i]?=some (some (.ref a)))(rs:Reps K F us ys) :
 VR K rl F₀ H₀ F (upd H a (.lst us)) σ (ρ.set i (some (.ml ys))):=by
 obtain⟨v,h1,h2,h3⟩:=r.sl i _ e;rw[es]at h1;cases h1;obtain⟨a',vs,ev,f,hr,hh,q⟩:=(show gN K rl F H (.ref a) xs from h2);cases ev;have n0:H₀ a=none:=h3 a rfl;have hi:i<ρ.length:=(Ek.mp e).1;have neF:∀b u,F b=some u->b≠a:=fun b u q z=>by subst z;rw[f]at q;cases q
 have g:Grow rl F₀ H₀ F (upd H a (.lst us)):=by
  refine⟨fun b o q1 n=>by rw[upd_ne (ax q1 n0)];exact r.g.same b o q1 n,r.g.fs,fun b o q1=>by rw[upd_ne (neF b o q1)];exact r.sub b o q1,r.g.old,fun y z=>?_⟩;obtain⟨z1,⟨u,h1,h2⟩⟩:=r.reel y z;exact⟨z1,⟨u,by rw[upd_ne (fun q=>hr (by rw[<- q];exact z))];exact h1,h2⟩⟩
 refine⟨g,fun j w e1=>?_,fun j k ys' zs u hjk e1 e2 w1 w2 s1 s2=>?_,fun j ys' z=>?_,by simp[r.len]⟩
 · by_cases hj:i=j
   · subst hj;rw[Ep hi]at e1;cases e1;exact⟨_,es,⟨a,us,rfl,f,hr,ak,rs⟩,h3⟩
   · rw[El hj]at e1;obtain⟨u,g1,g2,g3⟩:=r.sl j w e1;refine⟨u,g1,?_,g3⟩
     cases w with
     | d x=>exact g2
     | reel=>exact g2
     | vv u=>exact g2
     | ml zs =>
       obtain⟨b,us',eb,f1,f2,f3,f4⟩:=(show gN K rl F H u zs from g2);have ne:b≠a:=fun z=>r.ap i j _ _ (.ref a) hj e e1 rfl rfl es (by rw[g1,eb,z])
       exact⟨b,us',eb,f1,f2,by rw[upd_ne ne];exact f3,f4⟩
     | pk zs=>exact absurd e1 (r.np j zs)
     | md zs =>
       obtain⟨b,us',eb,f1,f2,f3,f4⟩:=(show rm K rl F H u zs from g2);have ne:b≠a:=fun z=>r.ap i j _ _ (.ref a) hj e e1 rfl rfl es (by rw[g1,eb,z])
       exact⟨b,us',eb,f1,f2,by rw[upd_ne ne];exact f3,f4⟩
     | mk zs =>
       obtain⟨b,us',eb,f1,f2,f3,f4⟩:=(show rj K rl F H u zs from g2);have ne:b≠a:=fun z=>r.ap i j _ _ (.ref a) hj e e1 rfl rfl es (by rw[g1,eb,z])
       exact⟨b,us',eb,f1,f2,by rw[upd_ne ne];exact f3,f4⟩
     | xm zs =>
       obtain⟨b,us',eb,f1,f2,f3,f4⟩:=(show lp K rl F H u zs from g2);have ne:b≠a:=fun z=>r.ap i j _ _ (.ref a) hj e e1 rfl rfl es (by rw[g1,eb,z])
       exact⟨b,us',eb,f1,f2,by rw[upd_ne ne];exact f3,f4⟩
     | nt ds=>exact g2
     | lk=>trivial
     | sc _=>exact g2
     | fd _=>exact g2
     | xr _=>exact g2
     | fw _=>exact g2
     | ft _=>exact g2
     | xc _ _=>exact g2
     | dp _ _=>exact g2
 · have nd:∀(j:Nat)(z:W),(ρ.set i (some (W.ml ys)))[j]?=some (some z)->z.own=true->∃z',ρ[j]?=some (some z')/\z'.own=true:=fun j zs z o=>by
     by_cases hj:i=j
     · subst hj;exact⟨_,e,rfl⟩
     · rw[El hj]at z;exact⟨zs,z,o⟩
   obtain⟨_,d1,o1⟩:=nd j _ e1 w1;obtain⟨_,d2,o2⟩:=nd k _ e2 w2;exact r.ap j k _ _ u hjk d1 d2 o1 o2 s1 s2
 · rw[EW]at z;split at z
   · first|cases z|(split at z<;>cases z)
   · exact r.np j ys' z
noncomputable def AJ(K:W.Frag)(rl:Option Addr)(r:V->List V->Hp->VK->Prop)(g:List D2->List W->(List D2->Prop)->Prop):Prop :=
 ∀ {F H:Hp}{a:Addr}{vs args:List V}{xs:List D2}{ws:List W}(Qn:List D2->Prop)(Q:VK),be F H->H a=some (.lst vs)->Reps K F vs xs->dJ K rl F H args ws->g xs ws Qn ->
   (∀us ys,Reps K F us ys->Qn ys->Q .non (upd H a (.lst us)))->r (.ref a) args H Q
noncomputable def xM(i:Nat)(g:List D2->List W->(List D2->Prop)->Prop)(fs:Dg):Dh:=fun D ρ=>∃xs,ρ[i]?=some (some (.ml xs))/\fs ρ fun ws=>g xs ws fun ys=>D.nx (ρ.set i (some (.ml ys)))
theorem uO(i:Nat){nm:Str}{id:String}{r:V->List V->Hp->VK->Prop}{g:List D2->List W->(List D2->Prop)->Prop}{apos cpos:Pos}(slot:Slot "list" nm id)(hty:typeOf (.builtin id)=pure (.type "method_descriptor"))(hm:DF X id r)(vm:AJ X.K rl r g)(ha:Dr X rl (e::es) fs)
 (hN:autoParam (X.N[i]?=some x) æa._auto_1)(hv:autoParam (Dd X.env.scope x) æf._auto_1)
 (hd:autoParam ((x==("__debug__" : Str))=false) æb._auto_1)(hcd:autoParam ((x==("__classdict__" : Str))=false) æb._auto_1)
 (hbase:autoParam (JC (.Name x px) nm X.env (eval (.Name x px) X.env)=eval (.Name x px) X.env) æa._auto_1)
 (hfew:autoParam (((FN cpos (Ec (e::es) X.env)).all (fun x=>!x.1)&&(K8 cpos (ID [] X.env)).all (fun x=>x.1.isSome)
  && decide ((e::es).length+([]:List JB).length+(if([]:List JB).isEmpty then 0 else 1)<30))=true) æa._auto_1)
 (hline:autoParam ((apos.endLine==cpos.line)=true) æa._auto_1)(hs:autoParam (Ec (e::es) X.env=(false,eval e X.env)::Ec es X.env) æa._auto_1)(hplain:autoParam ((FN cpos (Ec es X.env)).any (·.1)=false) æa._auto_1)
 (hsw:autoParam (Gx (.Call (.Attribute (.Name x px) nm apos) (e::es) [] cpos) none pos.line X.env=pure false) æa._auto_1) :
 Du X rl (.Expr (.Call (.Attribute (.Name x px) nm apos) (e::es) [] cpos) pos) (xM i g fs):=by
 obtain⟨t,p1,k⟩:=ha;refine⟨_,tm (y7 PySem.F.plainAttrs_list slot hty hm (cR hN hv hd hcd) p1 hbase hfew hline hs hplain) hsw,fun{F₀ H₀ F H σ ρ} R Dv D ok ⟨xs,e1,q⟩=>?_⟩;obtain⟨v,h1,h2,h3⟩:=R.sl i _ e1;obtain⟨a,vs,rfl,f,hr,hh,rs⟩:=(show gN X.K rl F H v xs from h2);refine⟨.ref a,h1,.inl ⟨rfl,vs,.inl (.inl hh)⟩,k R _ _ q fun args ws F1 H1 g1 r1 q1=>?_⟩;refine vm _ _ g1.sub (g1.same a _ hh hr) (rs.mono g1.fs) r1 q1 fun us ys r2 q2=>?_;exact ok.nx _ _ _ _ g1.fs ((R.grow g1).own e1 h1 r2) q2
noncomputable def xW:List D2->List W->(List D2->Prop)->Prop:=fun xs ws Q=>∃x,eB ws=some [x]/\xs.length<sizeLine/\Q (xs++[x])
theorem uS{K:W.Frag}:AJ K rl mn xW:=fun{F H a vs args xs ws} Qn Q s ha rs ra ⟨x,e,z,q⟩ k=>by
 have r2:=cH ra e
 cases r2 with
 | cons rx r3 =>
   cases r3;exact⟨a,vs,_,rfl,rfl,ha,by rw[rs.length];exact z,k _ _ (rs.snoc rx) q⟩
noncomputable def AF:List D2->List W->(List D2->Prop)->Prop:=fun xs ws Q=>∃ys,eB ws=some [.list ys]/\xs.length+ys.length<=sizeLine/\Q (xs++ys)
theorem uQ(i:Nat){apos cpos:Pos}(ha:Dr X rl [e] fs)(hN:autoParam (X.N[i]?=some x) æa._auto_1)(hv:autoParam (Dd X.env.scope x) æf._auto_1)
 (hd:autoParam ((x==("__debug__" : Str))=false) æb._auto_1)(hcd:autoParam ((x==("__classdict__" : Str))=false) æb._auto_1)
 (hbase:autoParam (JC (.Name x px) "append" X.env (eval (.Name x px) X.env)=eval (.Name x px) X.env) æa._auto_1)
 (hfew:autoParam (((FN cpos (Ec [e] X.env)).all (fun x=>!x.1)&&(K8 cpos (ID [] X.env)).all (fun x=>x.1.isSome)
  && decide (([e]).length+([]:List JB).length+(if([]:List JB).isEmpty then 0 else 1)<30))=true) æa._auto_1)
 (hline:autoParam ((apos.endLine==cpos.line)=true) æa._auto_1)(hs:autoParam (Ec [e] X.env=(false,eval e X.env)::Ec [] X.env) æa._auto_1)(hplain:autoParam ((FN cpos (Ec [] X.env)).any (·.1)=false) æa._auto_1)
 (hsw:autoParam (Gx (.Call (.Attribute (.Name x px) "append" apos) [e] [] cpos) none pos.line X.env=pure false) æa._auto_1) :
 Du X rl (.Expr (.Call (.Attribute (.Name x px) "append" apos) [e] [] cpos) pos) (xM i xW fs) :=
 uO i PySem.F.slot_list_append PySem.F.type_list_append ib uS ha hN hv hd hcd hbase hfew hline hs hplain hsw
noncomputable def cN:W->Bool
 | .ml _=>false
 | .md _=>false
 | .mk _=>false
 | .xm _=>false
 | .pk _=>false
 | _=>true
noncomputable def BK(K:W.Frag)(rl:Option Addr)(P:List W->(D2->Prop)->Prop):Sp:=fun vs H Q _=>∃F ws,be F H/\Dq rl F H/\dJ K rl F H vs ws/\ws.all cN=true/\P ws fun d=>∀v F' H',Grow rl F H F' H'->Rep K F' v d->Q v H'
noncomputable def cy(N:List Str)(ws:List W):En:=ws.map some++E9 (N.length-ws.length) none
theorem hV{K:W.Frag}{F H:Hp}:∀{vs:List V}{ws:List W}{i:Nat}{w:W},dJ K rl F H vs ws->ws[i]?=some w->∃v,vs[i]?=some v/\cO K rl F H v w
 | _,_,_,_,.nil,e=>by simp at e
 | _,_,0,_,.cons h _,e=>by simp at e;subst e;exact⟨_,rfl,h⟩
 | _,_,i+1,w,.cons _ r,e=>by
   obtain⟨v,h1,h2⟩:=hV (i:=i) (w:=w) r (by simpa using e);exact⟨v,by simpa using h1,h2⟩
theorem gW{N:List Str}{ws:List W}{w:W}(h:(cy N ws)[i]?=some (some w)):ws[i]?=some w:=by
 unfold cy at h;by_cases hi:i<ws.length
 · rw[Hh (by simpa using hi),E6]at h
   cases q:ws[i]? with
   | none=>rw[q]at h;cases h
   | some x=>rw[q]at h;cases h;rfl
 · rw[IR (by simpa using hi),FP]at h;split at h<;>cases h
theorem fZ{K:W.Frag}{N:List Str}{ws:List W}(s:be F H)(ra:Dq rl F H)(r:dJ K rl F H vs ws)(ok:ws.all cN=true):VR K rl F H F H (start N vs) (cy N ws):=by
 have hl:vs.length=ws.length:=Gk r;have no:∀(i:Nat) w,(cy N ws)[i]?=some (some w)->cN w=true:=fun i w e=>(GY.mp ok) w (Iv (gW e));refine⟨Grow.refl s ra,fun i w e=>?_,fun i j xs ys v _ e1 _ o _ _ _=>(by have:=no i _ e1;cases xs<;>first|exact Bool.noConfusion o|exact Bool.noConfusion this),fun i xs e=>(by have:=no i _ e;cases this),?_⟩
 · obtain⟨v,h1,h2⟩:=hV r (gW e);refine⟨v,?_,h2,?_⟩
   · unfold start;rw[Hh (by simpa using(Ek.mp h1).1),E6,h1];rfl
   · have:=no i w e
     cases w with
     | ml xs=>cases this
     | md xs=>cases this
     | mk xs=>cases this
     | xm xs=>cases this
     | nt _=>trivial
     | lk=>trivial
     | sc _=>trivial
     | fd _=>trivial
     | xr _=>trivial
     | fw _=>trivial
     | ft _=>trivial
     | xc _ _=>trivial
     | dp _ _=>trivial
     | d _=>trivial
     | pk _=>trivial
     | reel=>trivial
     | vv _=>trivial
 · unfold cy start;simp[hl]
noncomputable def ko(Q:D2->Prop):VEnds:=⟨fun _=>Q .none,fun w=>∃d,w.fz = .d d/\Q d,fun _=>False,fun _=>False⟩
theorem BL{K:W.Frag}{st:Stmt}{fa:Addr}{N:List Str}{k:Nat}{Pd:List W->(D2->Prop)->Prop}{t:Dh}
 (Fn:Fun K x qual st fa fd)(S:FnScope N ps (defScope st))(len:∀ws Q,Pd ws Q->ws.length=ps.length)
 (hbody:∀(cdv:D4)(A:EH)(outer:List Env)(s:D6)(H:Hp)(E:XK),Room k (A.deeper (IE qual (defScope st) s.heap.objs.size fa cdv)) ->
  iK (ji DS P w K mg base N qual (defScope st) fa cdv A outer s H E).nox rl (defBody st) t)
 (hread:∀ws Q,Pd ws Q->t (ko Q) (cy N ws)):FnOk P w K mg base DS (k+1) fa fd ps (BK K rl Pd):=by
 refine Fn.ok S (fun vs H Q E ⟨F,ws,_,_,r,_,q⟩=>(Gk r).trans (len ws _ q)) fun cdv A outer s H vs Q E hr h=>?_;obtain⟨F,ws,sm,ra,r,ok,q⟩:=h;obtain⟨T,p,kk⟩:=hbody cdv A outer s H E hr;refine⟨T,p,kk (fZ sm ra r ok) (ko _) _ ⟨?_,?_,fun _ _ _ _ _ _ z=>E3 z,fun _ _ _ _ _ _ z=>E3 z⟩ (hread ws _ q)⟩
 · intro F1 H1 σ1 ρ1 _ R1 q1;exact q1 .non F1 H1 R1.g .non
 · rintro v w1 F1 H1 g1 r1 n1 ⟨d,ed,q1⟩;obtain⟨F2,g2,s2,r2⟩:=cO.fz g1 r1 n1;rw[ed]at r2;exact q1 v F2 H1 g2 r2
structure Dfn (P:Ei) (w:EK) (K:W.Frag) (mg:Str->Option D4) (base:Heap) (rl:Option Addr) (x:Str) (ps:List Str) (k:Nat) (Pd:List W->(D2->Prop)->Prop):Prop where
 mono:∀ws Q Q',(∀d,Q d->Q' d)->Pd ws Q->Pd ws Q'
 ex:∃f fd,mg x=some (.ref f)/\W.keepIn K (.ref f)=true/\Binds K fd ps []/\FnOk P w K mg base DS k f fd ps (BK K rl Pd)
noncomputable def Ah(Pd:List W->(D2->Prop)->Prop)(fs:Dg):TV:=fun ρ Q=>fs ρ fun ws=>ws.all cN=true/\Pd ws fun d=>Q (.d d)
theorem am{k:Nat}{Pd:List W->(D2->Prop)->Prop}(D:Dfn X.prog X.w X.K X.mg X.base rl x ps k Pd)(hr:Room k X.A)(ha:Dr X rl (e::es) fs)(hg:autoParam (Gl X x) æa._auto_1)
 (hdb:autoParam ((x==("__debug__" : Str))=false) æb._auto_1)(he:autoParam (Ec (e::es) X.env=(false,eval e X.env)::Ec es X.env) æa._auto_1)(hpl:autoParam ((FN pos (Ec es X.env)).any (·.1)=false) æa._auto_1) :
 PV X rl (.Call (.Name x p) (e::es) [] pos) (Ah Pd fs):=by
 obtain⟨f,fd,hm,hk,hb,F⟩:=D.ex;obtain⟨t,p1,kk⟩:=ha;refine⟨_,i5 F hr hg hm hk hb .nil wp p1 hdb he hpl,fun R Qd Q q h=>kk R _ _ q fun vs ws F1 H1 g1 r1 ⟨ok,q1⟩=>?_⟩;refine⟨F1,ws,g1.sub,g1.reel,by rw[FO];exact r1,ok,?_⟩;exact D.mono ws _ _ (fun d qd v F2 H2 g2 r2=>h v (.d d) F2 H2 (g1.trans g2) r2 trivial qd) q1
end
end L2.VL
variable{ρ:L2.VL.En}
namespace L2
theorem dI{env:Env}:∀(names:List (Str×HJ))(acc:List (Str×Addr)),(∀x∈names,x.2 = .free->∃c,env.cells.lookup x.1=some c)->(∀x c,acc.lookup x=some c->env.cells.lookup x=some c) ->
 ∃ cl,(forIn names acc (fun(x:Str×HJ)(cs:List (Str×Addr))=>if(x.2==EX)=true then do let c <- cellOf env x.1;pure (G6 ((x.1,c)::cs))else pure (G6 cs)):Sem (List (Str×Addr)))=pure cl /\
   (∀x c,cl.lookup x=some c->env.cells.lookup x=some c)/\(∀x,(acc.lookup x).isSome=true->(cl.lookup x).isSome=true)/\∀x,(x,EX)∈names->(cl.lookup x).isSome=true
 | [],acc,_,h2=>⟨acc,rfl,h2,fun _ z=>z,fun _ z=>nomatch z⟩
 | (n,k)::r,acc,h1,h2=>by
   by_cases hk:k = .free
   · subst hk;obtain⟨c,hc⟩:=h1 (n,.free) Ee rfl
     have h2':∀x c',((n,c)::acc).lookup x=some c'->env.cells.lookup x=some c':=fun x c' z=>by
      rw[E5]at z
      cases e:x==n with
      | true =>
        rw[e]at z;have e':x=n:=by simpa using e
        cases z;rw[e']
        exact hc
      | false =>
        rw[e]at z;exact h2 x c' z
     obtain⟨cl,e,g1,g2,g3⟩:=dI r ((n,c)::acc) (fun x hx=>h1 x (D7 _ hx)) h2';refine⟨cl,?_,g1,fun x z=>g2 x ?_,fun x z=>?_⟩
     · rw[J9];simp only[beq_self_eq_true,if_true];have e0:cellOf env n=pure c:=by unfold cellOf;rw[hc]
       rw[e0,pure_bind,pure_bind];exact e
     · rw[E5];split
       · rfl
       · exact z
     · rcases Ev.mp z with z|z
       · cases z;refine g2 _ ?_;rw[E5];simp
       · exact g3 x z
   · obtain⟨cl,e,g1,g2,g3⟩:=dI r acc (fun x hx=>h1 x (D7 _ hx)) h2;refine⟨cl,?_,g1,g2,fun x z=>?_⟩
     · rw[J9];have hb:(k==EX)=false:=by simpa using hk
       simp only[hb,FQ,if_false];rw[pure_bind];exact e
     · rcases Ev.mp z with z|z
       · cases z;exact absurd rfl hk
       · exact g3 x z
theorem cj{env:Env}(h:∀x∈scope.names,x.2 = .free->∃c,env.cells.lookup x.1=some c) :
 ∃cl,closureFor scope env=pure cl/\(∀x c,cl.lookup x=some c->env.cells.lookup x=some c)/\∀x,(x,EX)∈scope.names->(cl.lookup x).isSome=true:=by
 obtain⟨cl,e,g1,_,g3⟩:=dI scope.names [] h (fun _ _ z=>by cases z);refine⟨cl,?_,g1,g3⟩;unfold closureFor
 first
  | exact e
  | (simp only[bind_pure];exact e)
theorem hU{env:Env}(h:(LU scope env).names.lookup x=some .cell\/(LU scope env).names.lookup x=some .free):(x,EX)∈scope.names\/(x,Gn)∈scope.names:=by
 have key:∀names:List (Str×HJ),∀k,(k = .cell\/k = .free) ->
  (names.map fun(n,k)=>if(k==EX&&env.scope.kind == .function&&env.kindOf n==some .cell)then(n,Gn)else(n,k)).lookup x=some k->(x,EX)∈names\/(x,Gn)∈names:=by
  intro names
  induction names with
  | nil=>intro k _ z;cases z
  | cons y r ih =>
    intro k hk z;obtain⟨n,kn⟩:=y;have step:((x,EX)∈r\/(x,Gn)∈r)->((x,EX)∈(n,kn)::r\/(x,Gn)∈(n,kn)::r):=fun z=>z.imp (D7 _) (D7 _);rw[Er]at z;dsimp only at z;by_cases hc:(kn==EX&&env.scope.kind == .function&&env.kindOf n==some .cell)=true
    · rw[if_pos hc,E5]at z
      have hf:kn = .free:=by
       have:=(Ea.mp (Ea.mp hc).1).1;simpa using this
      cases e:x==n with
      | true =>
        have e':x=n:=by simpa using e
        rw[e',<- hf]
        exact .inl Ee
      | false =>
        rw[e]at z;exact step (ih k hk z)
    · rw[if_neg hc,E5]at z
      cases e:x==n with
      | true =>
        rw[e]at z;have e':x=n:=by simpa using e
        cases z;rcases hk with hk|hk
        · rw[e',hk];exact .inr Ee
        · rw[e',hk];exact .inl Ee
      | false =>
        rw[e]at z;exact step (ih k hk z)
 rcases h with h|h
 · exact key scope.names .cell (.inl rfl) h
 · exact key scope.names .free (.inr rfl) h
theorem aU:∀(names:List (Str×HJ))(n:Nat)(acc:List (Str×Addr)),FW n names acc=FW n names []++acc
 | [],_,_=>rfl
 | (x,k)::r,n,acc=>by
   unfold FW;split
   · rw[aU r (n+1) ((x,n)::acc),aU r (n+1) [(x,n)],Jp];rfl
   · exact aU r n acc
theorem ck{x:Str}{c:Addr}:∀{names:List (Str×HJ)}{n:Nat},(x,c)∈FW n names []->(x,Gn)∈names
 | (y,k)::r,n,h=>by
   unfold FW at h;split at h
   · rename_i hk;rw[aU]at h;rcases G5.mp h with h|h
     · exact D7 _ (ck h)
     · simp at h;have:k = .cell:=by simpa using hk
       rw[h.1,this];exact Ee
   · exact D7 _ (ck h)
theorem dG{a b:List (Str×Addr)}:(a++b).lookup x=(a.lookup x).or (b.lookup x):=by
 induction a with
 | nil=>simp
 | cons y a ih =>
   obtain⟨n,c⟩:=y;rw[List.cons_append,E5,E5];cases x==n<;>simp[ih]
theorem i7{M:LS}{globals:Addr}{o:Env}{Q:Env->D6->Prop}
 (hQ:Q {scope,locals:=s.heap.objs.size,globals,cells:=FW (s.heap.objs.size+1) scope.names cl,qual,func:=none,code:=o.code,frame:=o.frame,builtins:=o.builtins} {s with heap:=LI (s.heap.push {cls:=.type "dict", data:=.dict #[]}) scope.names}) :
 Es M A (Ih scope globals cl [] qual none .none (some o)) Q E s:=by
 simp only[Ih,Option.isSome_some,if_true];refine D1 (wpAny_alloc ?_);refine D1 (wpAny_layCells _ (fun name kind cells=>by cases hkc:kind==Gn<;>simp[hkc]) _ _ _ _ ?_);rw[show({s with heap:=s.heap.push {cls:=.type "dict", data:=.dict #[]}}:D6).heap.objs.size=s.heap.objs.size+1 from GG ..];exact D1 (D5 (D5 hQ))
noncomputable def aM(X:Cx)(N':List Str)(scope:Scope)(cl:List (Str×Addr))(fp:List Addr)(pn:List (Addr×Obj))(s:D6)(H:Hp):Cx :=
 {X with N:=N',s₀:=s,H₀:=H,env:={compEnvC scope cl s.heap.objs.size X.env with cells:=FW (s.heap.objs.size+1) scope.names cl},outer:=X.stack,ex:=fp,fn:=fun x=>scope.names.lookup x==some .cell,pn:=pn,xe:=fun _ _=>False}
abbrev iQ(ifs:List Expr)(env:Env):Sem Bool:=forIn ifs true fun c r=>if r=true then do let ok <- isTrue c env (eval c env);pure (G6 ok)else pure (G6 r)
noncomputable def Ds(X:Cx)(ifs:List Expr)(t:TT):Prop :=
 ∀(pins:List (Addr×Obj))(s:D6)(σ:St)(H:Hp)(Q:Bool->Hp->Prop),Inv X pins σ H s->t σ H Q->Es (EJ X.prog X.w) X.A (iQ ifs X.env) (TP X pins σ Q) X.xe s
theorem sY:Ds X [] (fun _ H Q=>Q true H):=fun _ _ _ H _ I h=>wpAny_tests_nil ⟨H,I,h⟩
theorem sX{t:TT}(h:PT X c t):Ds X [c] t:=fun pins s σ H Q I hw=>wpAny_tests_one (h pins s σ H Q I hw)
theorem om{prog:Ei}{elt target:Expr}{it acc:D4}{env:Env}(I:Nat->D6->Prop)
 (turn:∀n s,I n s->Es (EJ prog w) A (IB it) (fun r s₁=>(r=none/\R (.ok .next) s₁)\/∃v,r=some v /\
  Es (EJ prog w) A (HG target it v) (fun _ s₂=>Es (EJ prog w) A (HE target env v) (fun _ s₃=>Es (EJ prog w) A (iQ ifs env) (fun ok s₄ =>
   if ok=true then Es (EJ prog w) A (eval elt env) (fun x s₅=>Es (EJ prog w) A (call (.builtin "list.append") [acc,x]) (fun _ s₆=>∃m,m<n/\I m s₆) (fun _ _=>False) s₅) (fun _ _=>False) s₄
   else ∃m,m<n/\I m s₄) (fun _ _=>False) s₃) (fun _ _=>False) s₂) (fun _ _=>False) s₁) (fun _ _=>False) s)
 (n:Nat)(h:I n s):Hf (EJ prog w) A (.compLoop (.ListComp elt [⟨target,iter,ifs,0⟩] scope pos) 0 it acc env) R s:=by
 refine codeAny_loop rfl I (fun n s hI=>?_) n h;show Es _ A ((compTurn (.ListComp elt [⟨target,iter,ifs,0⟩] scope pos) 0 it acc env).onRaise (fun x=>do Jq x env;theTreesLotGoes x)) _ _ s;refine wpAny_noted ?_;rw[compTurn_list];refine D1 (Gm (D1 (ER (turn n s hI) (fun r s₁ h₁=>?_) fun _ _ h'=>h'.elim)));rcases h₁ with⟨rfl,h₁⟩|⟨v,rfl,h₁⟩
 · exact D5 h₁
 · refine D1 (ER h₁ (fun _ s₂ h₂=>D1 (ER h₂ (fun _ s₃ h₃=>D1 (ER h₃ (fun ok s₄ h₄=>?_) fun _ _ z=>z.elim)) fun _ _ z=>z.elim)) fun _ _ z=>z.elim)
   cases ok with
   | false=>exact D5 ⟨rfl,h₄⟩
   | true=>exact D1 (D1 (ER h₄ (fun x s₅ h₅=>D1 (ER h₅ (fun _ s₆ h₆=>D5 (D5 ⟨rfl,h₆⟩)) fun _ _ z=>z.elim)) fun _ _ z=>z.elim))
noncomputable def n9(fr:List (Option Nat))(σ:St):St:=fr.map fun o=>o.bind fun j=>(σ[j]?).join
noncomputable def p8(fr:List (Option Nat))(N' N:List Str)(sc scX:Scope):Bool :=
 decide (fr.length=N'.length)&&(ET fr.length).all fun i=>match fr[i]? with
  | some (some j)=>match N'[i]? with
    | some x=>decide (N[j]?=some x)&&decide (sc.names.lookup x=some .free)&&(decide (scX.names.lookup x=some .cell)||decide (scX.names.lookup x=some .free))
    | none=>false
  | _=>true
noncomputable def sN(sc scX:Scope):Bool :=
 decide (sc.kind = .function)&&sc.names.all fun y=>(decide (y.2 ≠ .cell)||decide (sc.names.lookup y.1=some .cell))&&(decide (y.2 ≠ .local)||decide (sc.names.lookup y.1=some .local)) &&
  (decide (y.2 ≠ .free)||(decide (scX.names.lookup y.1=some .cell)||decide (scX.names.lookup y.1=some .free)))
theorem p8.get{fr:List (Option Nat)}{N' N:List Str}{sc scX:Scope}(h:p8 fr N' N sc scX=true):fr.length=N'.length/\∀(i j:Nat),fr[i]?=some (some j)->∃x,N'[i]?=some x/\N[j]?=some x/\sc.names.lookup x=some .free/\(scX.names.lookup x=some .cell\/scX.names.lookup x=some .free):=by
 unfold p8 at h;obtain⟨h1,h2⟩:=Ea.mp h;refine⟨of_decide_eq_true h1,fun i j e=>?_⟩;have hi:i<fr.length:=(Ek.mp e).1;have q:=GY.mp h2 i (F7.mpr hi);rw[e]at q;dsimp only at q
 cases en:N'[i]? with
 | none=>rw[en]at q;cases q
 | some x =>
   rw[en]at q;dsimp only at q;obtain⟨q1,q2⟩:=Ea.mp q;obtain⟨q3,q4⟩:=Ea.mp q1;exact⟨x,rfl,of_decide_eq_true q3,of_decide_eq_true q4,(EE.mp q2).imp of_decide_eq_true of_decide_eq_true⟩
theorem kW{k:HJ}:∀{names:List (Str×HJ)},names.lookup x=some k->(x,k)∈names:=fun h=>Fb h
structure CompA where
 cl:List (Str×Addr)
 fp:List Addr
 pn:List (Addr×Obj)
 s:D6
 H:Hp
abbrev C7(X:Cx)(N':List Str)(scope:Scope)(y:CompA):Cx:=aM X N' scope y.cl y.fp y.pn y.s y.H
noncomputable def su(wi:TI)(fr:List (Option Nat))(g:CompA->TG)(tt:CompA->TT)(te:CompA->TE):TE:=fun σ H Q=>wi σ H fun J H1=>∀D,H1 D=none->∃Wv:Nat->Nat->List V->St->Hp->Prop,(∃m,Wv 0 m [] (n9 fr σ) (upd H1 D (.lst []))) /\
 ∀ (z:CompA) i m acc σc H,Wv i m acc σc H->(J.stop i H/\Q (.ref D) H)\/(J.go i H/\∀x H',J.yld i H x H'->g z x σc H' fun σ2 H2=>tt z σ2 H2 fun b H3 =>
   if b=true then te z σ2 H3 fun y H4=>H4 D=some (.lst acc)/\acc.length<sizeLine/\∃m',m'<m/\Wv (i+1) m' (acc++[y]) σ2 (upd H4 D (.lst (acc++[y])))else ∃m',m'<m/\Wv (i+1) m' acc σ2 H3)
theorem dP{env:Env}:∀{names:List (Str×HJ)}{x:Str},names.lookup x=some .free ->
 (names.map fun(n,k)=>if(k==EX&&env.scope.kind == .function&&env.kindOf n==some .cell)then(n,Gn)else(n,k)).lookup x=some .cell \/
 (names.map fun(n,k)=>if(k==EX&&env.scope.kind == .function&&env.kindOf n==some .cell)then(n,Gn)else(n,k)).lookup x=some .free
 | [],_,h=>by simp at h
 | (n,k)::r,x,h=>by
   have ih:=@dP env r x;rw[Er];dsimp only
   cases hx:x==n with
   | true =>
     simp only[E5,hx]at h;cases h;by_cases hc:((EX==EX)&&env.scope.kind == .function&&env.kindOf n==some .cell)=true
     · rw[if_pos hc];simp[E5,hx]
     · rw[if_neg hc];simp[E5,hx]
   | false =>
     simp only[E5,hx]at h;by_cases hc:(k==EX&&env.scope.kind == .function&&env.kindOf n==some .cell)=true
     · rw[if_pos hc];simp only[E5,hx];exact ih h
     · rw[if_neg hc];simp only[E5,hx];exact ih h
theorem e8{ex:Expr}{H3:Hp}{s3:D6}{D:Addr}{tn:Nat->Heap->Prop}{J:It}{Q:VK}
 (N':List Str)(fr:List (Option Nat))(hc:X.calm=true)(hkind:scope.kind = .function)(hcell:∀y∈scope.names,y.2 = .cell->scope.names.lookup y.1=some .cell)
 (hfree:∀y∈scope.names,y.2 = .free->X.env.kindOf y.1=some .cell\/X.env.kindOf y.1=some .free)(frl:fr.length=N'.length)
 (frg:∀(i j:Nat),fr[i]?=some (some j)->∃x,N'[i]?=some x/\X.N[j]?=some x/\scope.names.lookup x=some .free/\(X.env.scope.names.lookup x=some .cell\/X.env.scope.names.lookup x=some .free))
 (cl1:∀x c,cl.lookup x=some c->X.env.cells.lookup x=some c)(cl2:∀x,(x,EX)∈scope.names->(cl.lookup x).isSome=true)
 (I3:Inv X pins σ H3 s3)(T:Turn X.prog X.w X.K tg J fp it tn)(tn3:tn 0 s3.heap)(fpD:∀b∈fp,H3 b=none)(fp3:∀b∈fp,b<s3.heap.objs.size)
 (fpk:∀b∈fp,b≠X.env.locals/\b∉X.fs/\(b∈X.ex\/X.s₀.heap.objs.size<=b)/\(∀x c,X.env.cells.lookup x=some c->c≠b)/\∀p∈X.pn++pins,p.1≠b)
 (loop:∀s',Inv (aM X N' scope cl fp (X.pn++pins) s3 H3) [] (n9 fr σ) H3 s'->tn 0 s'.heap->(∀{H':Hp},(∀b∈fp,H' b=none)->∀b∈fp,lu (aM X N' scope cl fp (X.pn++pins) s3 H3) [] H' b) ->
  Hf (EJ X.prog X.w) X.A (.compStart ex 0 (.ref it) (.ref D) (aM X N' scope cl fp (X.pn++pins) s3 H3).env) (fun r s5=>r = .ok .next/\∃σ5 H4,Inv (aM X N' scope cl fp (X.pn++pins) s3 H3) [] σ5 H4 s5/\Q (.ref D) H4) s')
 (fin:∀s5 H4 m,s5.heap.Ns s3.heap.objs.size m->(∀h',GV s3.heap.objs.size s5.heap h'->Inv X pins σ H4 {s5 with heap:=h' })->lu X pins H4 s3.heap.objs.size->Q (.ref D) H4->Rp s3.heap.objs.size (.ok .next) s5) :
 Es (EJ X.prog X.w) X.A (Ih scope X.env.globals cl [] X.env.qual none .none (some X.env)) (fun cenv s₄ =>
  Hf (EJ X.prog X.w) X.A (.compStart ex 0 (.ref it) (.ref D) {cenv with scope:=LU scope X.env})
   (Rp cenv.locals) s₄) X.xe s3:=by
 refine i7 ?_;have ok:=cellsFrom_ok scope.names (s3.heap.push {cls:=.type "dict", data:=.dict #[]}) (s3.heap.objs.size+1) [] ⟨fun _ _ hm=>(nomatch hm),La.nil⟩ (by rw[GG];exact Ef _);rw[GG]at ok;have kp:∀b o,s3.heap.get? b=some o->(LI (s3.heap.push {cls:=.type "dict", data:=.dict #[]}) scope.names).get? b=some o:=fun b o e=>pushCells_keeps _ _ b o (D3 _ e);have hns₁:(LI (s3.heap.push {cls:=.type "dict", data:=.dict #[]}) scope.names).Ns s3.heap.objs.size (fun _=>none):=(Heap.Ns.new s3.heap (.type "dict")).keeps (pushCells_keeps _ _);generalize LI (s3.heap.push {cls:=.type "dict", data:=.dict #[]}) scope.names=h₁ at ok kp hns₁ ⊢
 have cs:∀x c,(FW (s3.heap.objs.size+1) scope.names cl).lookup x=some c->(FW (s3.heap.objs.size+1) scope.names []).lookup x=some c\/cl.lookup x=some c:=fun x c e=>by
  rw[aU,dG]at e
  cases q:(FW (s3.heap.objs.size+1) scope.names []).lookup x with
  | none=>rw[q]at e;exact .inr (by simpa using e)
  | some c'=>rw[q]at e;exact .inl (by simpa using e)
 have own:∀x c,(FW (s3.heap.objs.size+1) scope.names []).lookup x=some c->h₁.IsCell c none/\s3.heap.objs.size+1<=c:=fun x c e=>ok.empty x c (Fb e)
 have clt:∀x c,cl.lookup x=some c->c<s3.heap.objs.size:=fun x c e=>by
  obtain⟨v,o,ho,_⟩:=I3.cell x c (cl1 x c e);exact D_ ho
 have frn:∀x,scope.names.lookup x=some .free->(FW (s3.heap.objs.size+1) scope.names []).lookup x=none:=fun x e=>by
  cases q:(FW (s3.heap.objs.size+1) scope.names []).lookup x with
  | none=>rfl
  | some c =>
    have:=hcell (x,.cell) (ck (Fb q)) rfl;rw[e]at this;cases this
 have notC:∀b o,s3.heap.get? b=some o->b≠s3.heap.objs.size:=fun b o e=>Ey (D_ e);have fpstk:∀b∈fp,b∉frs X.stack:=fun b hb z=>(Ev.mp (I3.stkSub b z)).elim (fpk b hb).1 (fpk b hb).2.1;have cellK:∀c v,s3.heap.IsCell c v->h₁.IsCell c v:=fun c v ⟨o,ho,hd⟩=>⟨o,kp c o ho,hd⟩
 have IY:Inv (aM X N' scope cl fp (X.pn++pins) s3 H3) [] (n9 fr σ) H3 {s3 with heap:=h₁}:=by
  refine⟨⟨I3.ok.mod,hkind,I3.ok.glob,I3.ok.blt,Ef _,fun x y c e1 e2=>?_,fun x hx=>?_,fun x c _ e=>?_,I3.ok.hd,I3.ok.frames,.inl rfl,
   fun b hb=>⟨Ey (fp3 b hb),fun x c e=>?_⟩,I3.bs,FG I3.ok.bsz I3.sz,fun b o e hb=>?_,fun b hb=>fpstk b hb,I3.stack,I3.stkFree⟩,
   rfl,I3.bare,Un.kept kp,⟨_,hns₁,fun i x v e1 e2 e3=>?_⟩,fun x c e=>?_,I3.hok.fresh (Ef _),fun x c e=>?_,fun p hp=>?_,I3.hok.kept kp,?_⟩
  · rcases cs x c e1 with q1|q1<;>rcases cs y c e2 with q2|q2
    · exact name_of_addr ok.apart (Fb q1) (Fb q2)
    · exact absurd (D9 (clt y c q2) (Hb (own x c q1).2)) (FB _)
    · exact absurd (D9 (clt x c q1) (Hb (own y c q2).2)) (FB _)
    · exact I3.ok.inj x y c (cl1 x c q1) (cl1 y c q2)
  · refine Gc.mp ?_;show((FW (s3.heap.objs.size+1) scope.names cl).lookup x).isSome=true;rcases hU hx with q|q
    · exact W.cellsFrom_some _ _ _ (.inr (cl2 x q))
    · exact W.cellsFrom_some _ _ _ (.inl (hcell _ q rfl))
  · rename_i hfn;rcases cs x c e with q|q
    · have:=(own x c q).2;show s3.heap.objs.size<=c;omega
    · have hfn:(scope.names.lookup x==some Gn)=true:=hfn;have hl:scope.names.lookup x=some .cell:=by simpa using hfn
      obtain⟨c',ec'⟩:=Gc.mp (W.cellsFrom_some scope.names (s3.heap.objs.size+1) [] (.inl hl));have e':(FW (s3.heap.objs.size+1) scope.names cl).lookup x=some c:=e;rw[aU,dG,ec']at e';simp at e';subst e';exact Hb (own x c' ec').2
  · rcases cs x c e with q|q
    · exact fun z=>absurd (D9 (fp3 b hb) (Hb (by rw[<- z];exact(own x c q).2))) (FB _)
    · exact(fpk b hb).2.2.2.1 x c (cl1 x c q)
  · rcases(fpk b hb).2.2.1 with z|z
    · exact I3.ok.noex b o e z
    · exact absurd (D9 (D_ e) (FG I3.ok.bsz z)) (FB _)
  · have e2':(fr[i]?).map (fun o=>o.bind fun j=>(σ[j]?).join)=some (some v):=by unfold n9 at e2;rw[E6]at e2;exact e2
    cases ef:fr[i]? with
    | none=>rw[ef]at e2';cases e2'
    | some o =>
      cases o with
      | none=>rw[ef]at e2';cases e2'
      | some j =>
        rw[ef]at e2';have e3':(σ[j]?).join=some v:=EL e2'
        have e4:σ[j]?=some (some v):=by
         cases q:σ[j]? with
         | none=>rw[q]at e3';cases e3'
         | some z=>rw[q]at e3';cases e3';rfl
        obtain⟨x',n1,n2,n3,n4⟩:=frg i j ef;have ex:x'=x:=EL (n1.symm.trans e1);subst ex;obtain⟨m,hn,hl⟩:=I3.loc;obtain⟨u,ru,lk⟩:=hl j x' v n2 e4 (n4.elim (fun z=>.inr (.inl z)) fun z=>.inr (.inr z));refine⟨u,ru,?_⟩;rcases lk with⟨kl,_⟩|⟨_,c,ec,hcl⟩
        · exact absurd (show X.env.scope.names.lookup x'=some .local from kl) (by rcases n4 with z|z<;>rw[z]<;>decide)
        · obtain⟨c',ec'⟩:=Gc.mp (cl2 x' (kW n3));have:=cl1 x' c' ec';rw[ec]at this;cases this;refine .inr ⟨dP n3,c,?_,cellK _ _ hcl⟩;show(FW (s3.heap.objs.size+1) scope.names cl).lookup x'=some c;rw[aU,dG,frn x' n3];simpa using ec'
  · rcases cs x c e with q|q
    · exact⟨_,(own x c q).1⟩
    · obtain⟨v,z⟩:=I3.cell x c (cl1 x c q);exact⟨v,cellK _ _ z⟩
  · rcases cs x c e with q|q
    · exact I3.hok.fresh (by have:=(own x c q).2;omega)
    · exact I3.freeC x c (cl1 x c q)
  · rw[FO]at hp;obtain⟨e,n,ne,nf,d⟩:=I3.pin p hp;exact⟨kp _ _ e,n,notC _ _ e,fun z=>(Ev.mp (I3.stkSub p.1 z)).elim ne nf,d⟩
  · unfold n9;rw[Eb];exact frl
 have stat:∀{H':Hp},(∀b∈fp,H' b=none)->∀b∈fp,lu (aM X N' scope cl fp (X.pn++pins) s3 H3) [] H' b:=fun hn b hb =>
  ⟨hn b hb,Ey (fp3 b hb),fpstk b hb,.inl hb,fun x c e=>(by
   rcases cs x c e with q|q
   · exact fun z=>absurd (D9 (fp3 b hb) (Hb (by rw[<- z];exact(own x c q).2))) (FB _)
   · exact(fpk b hb).2.2.2.1 x c (cl1 x c q)),fun p hp=>by rw[FO]at hp;exact(fpk b hb).2.2.2.2 p hp⟩
 refine Hy (loop _ IY (T.keep _ _ _ tn3 fun b _ o e=>kp b o e) stat) fun r s5 ⟨hr,σ5,H4,I5,qn⟩=>?_;subst hr;obtain⟨m,hn,_⟩:=I5.loc;refine fin s5 H4 m hn (fun h' hs'=>?_) (I3.fpOk (Ef _) I5.free) qn;have k':∀b o,b≠s3.heap.objs.size->s5.heap.get? b=some o->h'.get? b=some o:=fun b o nb e=>hs'.extBut b o nb e;have u5:Un (frs X.stack) fp H3 H4 s3.heap s5.heap:=I5.base
 have un:Un (frs X.stack) fp H3 H4 s3.heap h' :=
  ⟨fun b o e n hb hx=>k' b o (notC b o e) (u5.keep b o e n hb hx),fun b o e n hb hx=>by obtain⟨sl,q⟩:=u5.slot b o e n hb hx;exact⟨sl,k' b _ (notC b o e) q⟩,u5.free,
   fun b o e hx=>by obtain⟨o',q⟩:=u5.there b o e hx;exact⟨o',k' b _ (notC b o e) q⟩,u5.tups,u5.frzs,u5.tbls⟩
 have nC:H4 s3.heap.objs.size=none:=I5.free
 have hok':DO X.prog X.w H4 h':=fun b u e=>(I5.hok b u e).stay (fun c v hcv q=>k' c v (by
  rintro rfl;rcases hcv with z|z
  · rw[<- z]at e;rw[nC]at e;cases e
  · rw[nC]at z;cases z) q) (fun _ q=>q) fun _ _ q=>q
 obtain⟨hh,g5,d5,t5,os5⟩:=s5;have os':os5=s3.os:=I5.os;subst os';have I':=Inv.call (s:=s3) (h':=h') (g':=g5) (d':=d5) (t':=t5) (ch:=fp) I3 un hok' I5.bare (fun b hb=>⟨(fpk b hb).2.2.1,(fpk b hb).1,(fpk b hb).2.2.2.1,(fpk b hb).2.2.2.2⟩);exact I'
theorem fU{elt:Expr}{g:TG}{tt:TT}{te:TE}{H3:Hp}{s3:D6}{D:Addr}{tn:Nat->Heap->Prop}{J:It}{Q:VK}
 (N':List Str)(fr:List (Option Nat))(hc:X.calm=true)(hkind:scope.kind = .function)(hcell:∀y∈scope.names,y.2 = .cell->scope.names.lookup y.1=some .cell)
 (hfree:∀y∈scope.names,y.2 = .free->X.env.kindOf y.1=some .cell\/X.env.kindOf y.1=some .free)(frl:fr.length=N'.length)
 (frg:∀(i j:Nat),fr[i]?=some (some j)->∃x,N'[i]?=some x/\X.N[j]?=some x/\scope.names.lookup x=some .free/\(X.env.scope.names.lookup x=some .cell\/X.env.scope.names.lookup x=some .free))
 (cl1:∀x c,cl.lookup x=some c->X.env.cells.lookup x=some c)(cl2:∀x,(x,EX)∈scope.names->(cl.lookup x).isSome=true)
 (I3:Inv X pins σ H3 s3)(T:Turn X.prog X.w X.K tg J fp it tn)(tn3:tn 0 s3.heap)(fpD:∀b∈fp,H3 b=none)(fp3:∀b∈fp,b<s3.heap.objs.size)
 (fpk:∀b∈fp,b≠X.env.locals/\b∉X.fs/\(b∈X.ex\/X.s₀.heap.objs.size<=b)/\(∀x c,X.env.cells.lookup x=some c->c≠b)/\∀p∈X.pn++pins,p.1≠b)
 (hg:PG (aM X N' scope cl fp (X.pn++pins) s3 H3) tg g)(ht:Ds (aM X N' scope cl fp (X.pn++pins) s3 H3) ifs tt)(he:PE (aM X N' scope cl fp (X.pn++pins) s3 H3) elt te)
 {Wv:Nat->Nat->List V->St->Hp->Prop}{m0:Nat}(w0:Wv 0 m0 [] (n9 fr σ) H3)
 (turn:∀i m acc σc H,Wv i m acc σc H->(J.stop i H/\Q (.ref D) H)\/(J.go i H/\∀x H',J.yld i H x H'->g x σc H' fun σ2 H2=>tt σ2 H2 fun b H3 =>
  if b=true then te σ2 H3 fun y H4=>H4 D=some (.lst acc)/\acc.length<sizeLine/\∃m',m'<m/\Wv (i+1) m' (acc++[y]) σ2 (upd H4 D (.lst (acc++[y])))else ∃m',m'<m/\Wv (i+1) m' acc σ2 H3))
 (fin:∀s5 H4 m,s5.heap.Ns s3.heap.objs.size m->(∀h',GV s3.heap.objs.size s5.heap h'->Inv X pins σ H4 {s5 with heap:=h' })->lu X pins H4 s3.heap.objs.size->Q (.ref D) H4->Rp s3.heap.objs.size (.ok .next) s5) :
 Es (EJ X.prog X.w) X.A (Ih scope X.env.globals cl [] X.env.qual none .none (some X.env)) (fun cenv s₄ =>
  Hf (EJ X.prog X.w) X.A (.compStart (.ListComp elt [⟨tg,iter,ifs,0⟩] scope pos) 0 (.ref it) (.ref D) {cenv with scope:=LU scope X.env})
   (Rp cenv.locals) s₄) X.xe s3:=by
 refine e8 N' fr hc hkind hcell hfree frl frg cl1 cl2 I3 T tn3 fpD fp3 fpk (fun s' IY tY stat=>?_) fin
 have loop:Hf (EJ X.prog X.w) X.A (.compLoop (.ListComp elt [⟨tg,iter,ifs,0⟩] scope pos) 0 (.ref it) (.ref D) (aM X N' scope cl fp (X.pn++pins) s3 H3).env)
  (fun r s5=>r = .ok .next/\∃σ5 H4,Inv (aM X N' scope cl fp (X.pn++pins) s3 H3) [] σ5 H4 s5/\Q (.ref D) H4) s':=by
  refine om (fun n s'=>∃i acc σ' H',Inv (aM X N' scope cl fp (X.pn++pins) s3 H3) [] σ' H' s'/\tn i s'.heap/\(∀b∈fp,H' b=none)/\Wv i n acc σ' H') ?_ m0
   ⟨0,[],_,_,IY,tY,fpD,w0⟩
  rintro n s4 ⟨i,acc,σ4,H4,I4,st4,fr4,w4⟩;rcases turn i n acc σ4 H4 w4 with⟨stop,qn⟩|⟨go,step⟩
  · exact BY (T.done (aM X N' scope cl fp (X.pn++pins) s3 H3) rfl rfl rfl hc i [] s4 σ4 H4 (fun _ _=>False) I4 (stat fr4) st4 stop) fun r s5 ⟨hr,I5⟩=>.inl ⟨hr,rfl,σ4,H4,I5,qn⟩
  · refine BY (T.item (aM X N' scope cl fp (X.pn++pins) s3 H3) rfl rfl rfl hc i [] s4 σ4 H4 (fun _ _=>False) I4 (stat fr4) st4 go) fun r s5 ⟨u,hr,h5⟩=>.inr ⟨u,hr,?_⟩;refine BY h5 fun _ s6 ⟨x,H6,I6,r6,y6,st6,fr6⟩=>?_;have I6':=I6.pinned (stat fr6) (T.obj _ _ st6)
    have again:∀{σ7:St}{H7:Hp}{s7:D6},Inv (aM X N' scope cl fp (X.pn++pins) s3 H3) ([]++fN fp s6.heap) σ7 H7 s7->∀{acc':List V}{m':Nat},m'<n->Wv (i+1) m' acc' σ7 H7 ->
     ∃m,m<n/\∃i acc σ' H',Inv (aM X N' scope cl fp (X.pn++pins) s3 H3) [] σ' H' s7/\tn i s7.heap/\(∀b∈fp,H' b=none)/\Wv i m acc σ' H':=fun{σ7 H7 s7} I7 {acc' m'} hm w7=>by
     refine⟨m',hm,i+1,acc',σ7,H7,I7.unpinned,T.keep _ _ _ st6 fun b hb o e=>(I7.pin (b,o) (EF _ (EF _ (bJ hb e)))).1,fun b hb=>?_,w7⟩;obtain⟨o,e,d⟩:=T.obj _ _ st6 b hb;exact(I7.pin (b,o) (EF _ (EF _ (bJ hb e)))).2.1
    refine BY (hg _ s6 σ4 H6 x u _ I6' r6 (step x H6 y6)) fun _ s7 ⟨σ7,H7,I7,q7⟩=>?_;refine BY (ht _ s7 σ7 H7 _ I7 q7) fun ok s8 ⟨H8,I8,q8⟩=>?_
    cases ok with
    | false =>
      rw[if_neg EC]at q8 ⊢;obtain⟨m',hm,w8⟩:=q8
      exact again I8 hm w8
    | true =>
      rw[if_pos rfl]at q8 ⊢;refine BY (he _ s8 σ7 H8 _ I8 q8) fun y s9 ⟨yv,H9,I9,r9,eD,hl,m',hm,w9⟩=>?_
      exact BY (ib (X:=aM X N' scope cl fp (X.pn++pins) s3 H3) _ s9 σ7 H9 (.ref D) [yv] (.ref D) [y] (fun _ H'=>H'=upd H9 D (.lst (acc++[yv]))) I9 rfl (.cons r9 .nil) ⟨D,acc,yv,rfl,rfl,eD,hl,rfl⟩)
       fun _ s10 ⟨_,H10,I10,_,e10⟩=>by subst e10;exact again I10 hm w9
 exact codeAny_compStart_list loop (T.self X.A 0 _ _ _ tY loop)
section
variable{X:Cx}{elt tg iter:Expr}{ifs:List Expr}{scope:Scope}{pos:Pos}{wi:TI}{g:CompA->TG}{tt:CompA->TT}{te:CompA->TE}
theorem jM(N':List Str)(fr:List (Option Nat))(hc:X.calm=true)(hi:PI X tg iter wi)(hfr:p8 fr N' X.N scope X.env.scope=true)(hsc:sN scope X.env.scope=true)
 (hg:∀y,PG (C7 X N' scope y) tg (g y))(ht:∀y,Ds (C7 X N' scope y) ifs (tt y))(he:∀y,PE (C7 X N' scope y) elt (te y))
 (hs:autoParam (∀x,FH iter X.env x=pure x) æc._auto_1):PE X (.ListComp elt [⟨tg,iter,ifs,0⟩] scope pos) (su wi fr g tt te):=by
 intro pins s σ H Q I h;obtain⟨sk,sn⟩:=Ea.mp hsc;have hkind:scope.kind = .function:=of_decide_eq_true sk;have hall:=GY.mp sn
 have hcell:∀y∈scope.names,y.2 = .cell->scope.names.lookup y.1=some .cell:=fun y hy hl=>by
  rcases EE.mp (Ea.mp (Ea.mp (hall y hy)).1).1 with z|z
  · exact absurd hl (of_decide_eq_true z)
  · exact of_decide_eq_true z
 have hnames:∀y∈scope.names,y.2 = .local->scope.names.lookup y.1=some .local:=fun y hy hl=>by
  rcases EE.mp (Ea.mp (Ea.mp (hall y hy)).1).2 with z|z
  · exact absurd hl (of_decide_eq_true z)
  · exact of_decide_eq_true z
 have hfree:∀y∈scope.names,y.2 = .free->X.env.kindOf y.1=some .cell\/X.env.kindOf y.1=some .free:=fun y hy hl=>by
  rcases EE.mp (Ea.mp (hall y hy)).2 with z|z
  · exact absurd hl (of_decide_eq_true z)
  · exact(EE.mp z).imp of_decide_eq_true of_decide_eq_true
 obtain⟨frl,frg⟩:=p8.get hfr;obtain⟨cl,hclos,cl1,cl2⟩:=cj (env:=X.env) (scope:=scope) fun y hy hl=>I.ok.has y.1 (hfree y hy hl);rw[eval_ListComp];refine GQ (use:=none) rfl hs hclos hkind hnames (BY (hi pins s σ H _ I h) fun v s1 h1=>BY h1 fun itv s2 h2=>?_);obtain⟨it,fp,tn,J,H2,e,I2,T,st2,f2,q2⟩:=h2;subst e;refine EN ?_;have hD:H2 s2.heap.objs.size=none:=I2.hok.fresh (Ef _)
 have I3:Inv X pins σ (upd H2 s2.heap.objs.size (.lst [])) {s2 with heap:=s2.heap.push {cls:=.type "list", data:=.seq ([]:List D4).toArray}} :=
  I2.laid (t':=s2.toks) (fun b u e=>D3 _ e) (Ef _) ⟨by show 0<=sizeLine;exact Gg _,[],0,.nil,Eg _ rfl⟩
 obtain⟨Wv,⟨m0,w0⟩,turn⟩:=q2 _ hD;have tn3:tn 0 (s2.heap.push {cls:=.type "list", data:=.seq ([]:List D4).toArray}):=T.keep _ _ _ st2 fun b _ o e=>D3 _ e
 have fpD:∀b∈fp,(upd H2 s2.heap.objs.size (.lst [])) b=none:=fun b hb=>by
  obtain⟨o,e,_⟩:=T.obj _ _ st2 b hb;rw[upd_ne (Ey (D_ e))];exact(f2 b hb).1
 have fp3:∀b∈fp,b<(s2.heap.push {cls:=.type "list", data:=.seq ([]:List D4).toArray}).objs.size:=fun b hb=>by
  obtain⟨o,e,_⟩:=T.obj _ _ tn3 b hb;exact D_ e
 exact fU N' fr hc hkind hcell hfree frl frg cl1 cl2 I3 T tn3 fpD fp3 (fun b hb=>(f2 b hb).2) (hg ⟨cl,fp,X.pn++pins,_,_⟩) (ht ⟨cl,fp,X.pn++pins,_,_⟩) (he ⟨cl,fp,X.pn++pins,_,_⟩) w0 (turn ⟨cl,fp,X.pn++pins,_,_⟩)
  (Rp:=compPost (EJ X.prog X.w) X.A X.xe none (EP X pins σ Q) (.ref s2.heap.objs.size)) fun s5 H4 m hn k _ qn=>⟨m,hn,fun h' hs'=>⟨.ref _,H4,k h' hs',rfl,qn⟩⟩
theorem kM{b:Bool}{spos:Pos}{ix:Nat}(N':List Str)(fr:List (Option Nat))(hc:X.calm=true)(hi:PI X tg iter wi)(hfr:p8 fr N' X.N scope X.env.scope=true)(hsc:sN scope X.env.scope=true)
 (hg:∀y,PG (C7 X N' scope y) tg (g y))(ht:∀y,Ds (C7 X N' scope y) ifs (tt y))(he:∀y,PE (C7 X N' scope y) elt (te y))(hN:X.N.Nodup)(hix:X.N[ix]?=some x)(hx:Loc X.env.scope x)
 (hf:X.fn x=true\/X.env.scope.names.lookup x=some .local)(hsw:Gx (.ListComp elt [⟨tg,iter,ifs,0⟩] scope pos) (some (.Name x px)) spos.line X.env=pure b)
 (hs:∀x,FH iter X.env x=pure x):PS X (.Assign [.Name x px] (.ListComp elt [⟨tg,iter,ifs,0⟩] scope pos) spos) (xO (su wi fr g tt te) (kZ ix)):=by
 cases b with
 | false=>exact cz hN hix hx (jM N' fr hc hi hfr hsc hg ht he hs) hsw hf
 | true =>
 intro pins s σ H DD I h;obtain⟨sk,sn⟩:=Ea.mp hsc;have hkind:scope.kind = .function:=of_decide_eq_true sk;have hall:=GY.mp sn
 have hcell:∀y∈scope.names,y.2 = .cell->scope.names.lookup y.1=some .cell:=fun y hy hl=>by
  rcases EE.mp (Ea.mp (Ea.mp (hall y hy)).1).1 with z|z
  · exact absurd hl (of_decide_eq_true z)
  · exact of_decide_eq_true z
 have hnames:∀y∈scope.names,y.2 = .local->scope.names.lookup y.1=some .local:=fun y hy hl=>by
  rcases EE.mp (Ea.mp (Ea.mp (hall y hy)).1).2 with z|z
  · exact absurd hl (of_decide_eq_true z)
  · exact of_decide_eq_true z
 have hfree:∀y∈scope.names,y.2 = .free->X.env.kindOf y.1=some .cell\/X.env.kindOf y.1=some .free:=fun y hy hl=>by
  rcases EE.mp (Ea.mp (hall y hy)).2 with z|z
  · exact absurd hl (of_decide_eq_true z)
  · exact(EE.mp z).imp of_decide_eq_true of_decide_eq_true
 obtain⟨frl,frg⟩:=p8.get hfr;obtain⟨cl,hclos,cl1,cl2⟩:=cj (env:=X.env) (scope:=scope) fun y hy hl=>I.ok.has y.1 (hfree y hy hl);rw[J_ _ _ _ _ hsw];refine D1 (Gm (D1 ?_));show Es _ X.A (do let _ <- comprehension (.ListComp elt [⟨tg,iter,ifs,0⟩] scope pos) scope X.env _ (newList []) false (eval iter X.env) (some (HE (.Name x px) X.env))) _ _ s
 refine D1 (ER (GQ (use:=some (HE (.Name x px) X.env)) (Q:=fun _ s'=>SP X pins DD .next s') rfl hs hclos hkind hnames
  (BY (hi pins s σ H _ I h) fun v s1 h1=>BY h1 fun itv s2 h2=>?_)) (fun _ s' hq=>D5 (D5 hq)) fun _ _ e=>e)
 obtain⟨it,fp,tn,J,H2,e,I2,T,st2,f2,q2⟩:=h2;subst e;refine EN ?_;have hD:H2 s2.heap.objs.size=none:=I2.hok.fresh (Ef _)
 have I3:Inv X pins σ (upd H2 s2.heap.objs.size (.lst [])) {s2 with heap:=s2.heap.push {cls:=.type "list", data:=.seq ([]:List D4).toArray}} :=
  I2.laid (t':=s2.toks) (fun b u e=>D3 _ e) (Ef _) ⟨by show 0<=sizeLine;exact Gg _,[],0,.nil,Eg _ rfl⟩
 obtain⟨Wv,⟨m0,w0⟩,turn⟩:=q2 _ hD;have tn3:tn 0 (s2.heap.push {cls:=.type "list", data:=.seq ([]:List D4).toArray}):=T.keep _ _ _ st2 fun b _ o e=>D3 _ e
 have fpD:∀b∈fp,(upd H2 s2.heap.objs.size (.lst [])) b=none:=fun b hb=>by
  obtain⟨o,e,_⟩:=T.obj _ _ st2 b hb;rw[upd_ne (Ey (D_ e))];exact(f2 b hb).1
 have fp3:∀b∈fp,b<(s2.heap.push {cls:=.type "list", data:=.seq ([]:List D4).toArray}).objs.size:=fun b hb=>by
  obtain⟨o,e,_⟩:=T.obj _ _ tn3 b hb;exact D_ e
 refine fU (Q:=fun v H1=>kZ ix v σ H1 DD.nx) N' fr hc hkind hcell hfree frl frg cl1 cl2 I3 T tn3 fpD fp3 (fun b hb=>(f2 b hb).2) (hg ⟨cl,fp,X.pn++pins,_,_⟩) (ht ⟨cl,fp,X.pn++pins,_,_⟩) (he ⟨cl,fp,X.pn++pins,_,_⟩) w0 (turn ⟨cl,fp,X.pn++pins,_,_⟩)
  (Rp:=compPost (EJ X.prog X.w) X.A X.xe (some (HE (.Name x px) X.env)) (fun _ s'=>SP X pins DD .next s') (.ref s2.heap.objs.size)) fun s5 H4 m hn k fpo qn=>?_
 show Es _ X.A (HE (.Name x px) X.env (.ref s2.heap.objs.size)) _ _ s5;have I5:Inv X pins σ H4 s5:=k s5.heap (Jr _ _);obtain⟨f0,f1,f2',f3,f4,f5⟩:=fpo;refine Jo (eF I5 hN hix hx (v:=.ref s2.heap.objs.size) rfl (fun s6 I6 sb=>?_) hf);obtain⟨a,sb,ha⟩:=sb
 have hne:(s2.heap.push {cls:=.type "list", data:=.seq ([]:List D4).toArray}).objs.size≠a:=by
  rcases ha with rfl|ha
  · exact f1
  · exact fun z=>f4 x a ha z.symm
 refine⟨m,hn.at' fun o e=>sb.extBut _ o hne e,fun h' hs'=>?_⟩;exact⟨_,H4,I6.turned (t':=s6.toks) (fun b o hb e=>hs'.extBut b o hb e) f0 f1 f3 f4 f5,qn⟩
end
end L2
namespace L2.VL
noncomputable def W.cap:W->Option W
 | .d x=>some (.d x)
 | .reel=>some .reel
 | .vv u=>some (.vv u)
 | .sc ns=>some (.sc ns)
 | .fd kvs=>some (.fd kvs)
 | .xr kvs=>some (.xr kvs)
 | .fw kvs=>some (.fw kvs)
 | .ft kvs=>some (.ft kvs)
 | .xc x fs=>some (.xc x fs)
 | .dp kvs x=>some (.dp kvs x)
 | _=>none
noncomputable def gO(fr:List (Option Nat))(ρ:En):En:=fr.map fun o=>o.bind fun j=>((ρ[j]?).join).bind W.cap
noncomputable def uC(X:Cx)(rl:Option Addr)(ifs:List Expr)(f:TB):Prop:=∃t,Ds X ifs t/\∀{F₀ H₀ F H:Hp}{σ:St}{ρ:En},VR X.K rl F₀ H₀ F H σ ρ->∀(Qd:Bool->Prop)(Q:Bool->Hp->Prop),f ρ Qd ->
 (∀b F' H',Grow rl F H F' H'->Qd b->Q b H')->t σ H Q
theorem cP:uC X rl [] (fun _ Q=>Q true):=⟨_,sY,fun R Qd Q q k=>k true _ _ (Grow.refl R.sub R.reel) q⟩
theorem uM{f:TB}(h:PB X rl c f):uC X rl [c] f:=let ⟨t,p,k⟩:=h;⟨t,sX p,k⟩
theorem eA{fr:List (Option Nat)}{w:W}(h:(gO fr ρ)[i]?=some (some w)):∃j w',fr[i]?=some (some j)/\ρ[j]?=some (some w')/\w'.cap=some w:=by
 unfold gO at h;rw[E6]at h
 cases ef:fr[i]? with
 | none=>rw[ef]at h;cases h
 | some o =>
   cases o with
   | none=>rw[ef]at h;cases h
   | some j =>
     rw[ef]at h;have h':((ρ[j]?).join).bind W.cap=some w:=EL h
     cases q:ρ[j]? with
     | none=>rw[q]at h';cases h'
     | some o =>
       cases o with
       | none=>rw[q]at h';cases h'
       | some w'=>rw[q]at h';exact⟨j,w',rfl,q,h'⟩
theorem kh{w' w:W}(h:w'.cap=some w):w=w'/\w.own=false/\∀xs,w ≠ .pk xs:=by
 cases w'<;>cases h<;>exact⟨rfl,rfl,(fun _ z=>by cases z)⟩
theorem jz{K:W.Frag}{fr:List (Option Nat)}(R:VR K rl F₀ H₀ F H σ ρ)(g:Grow rl F H F H'):VR K rl F H F H' (n9 fr σ) (gO fr ρ):=by
 refine⟨g,fun i w e=>?_,fun i j xs ys v _ e1 _ o1 _ _ _=>?_,fun i xs e=>?_,by simp[n9,gO]⟩
 · obtain⟨j,w',e1,e2,e3⟩:=eA e;obtain⟨rfl,n1,n2⟩:=kh e3;obtain⟨v,s1,r1,_⟩:=R.sl j w e2;refine⟨v,?_,r1.grow g,?_⟩
   · unfold n9;rw[E6,e1];show some ((σ[j]?).join)=_;rw[s1];rfl
   · cases w with
     | ml xs=>cases n1
     | md xs=>cases n1
     | mk xs=>cases n1
     | xm xs=>cases n1
     | nt _=>trivial
     | lk=>trivial
     | sc _=>trivial
     | fd _=>trivial
     | xr _=>trivial
     | fw _=>trivial
     | ft _=>trivial
     | xc _ _=>trivial
     | dp _ _=>trivial
     | d _=>trivial
     | pk _=>trivial
     | reel=>trivial
     | vv _=>trivial
 · obtain⟨_,_,_,_,e3⟩:=eA e1;rw[(kh e3).2.1]at o1;cases o1
 · obtain⟨_,_,_,_,e3⟩:=eA e;exact absurd rfl ((kh e3).2.2 xs)
theorem fP{fr:List (Option Nat)}:oO (gO fr ρ):=fun i xs e=>by
 obtain⟨_,_,_,_,e3⟩:=eA e;exact(kh e3).2.1
theorem VR.other{K:W.Frag}(R:VR K rl F₀ H₀ F H σ ρ)(n:oO ρ){D:Addr}{o:HO}(h0:H₀ D=none)(f:F D=none)(hr:rl≠some D):VR K rl F₀ H₀ F (upd H D o) σ ρ:=by
 have neF:∀b u,F b=some u->b≠D:=fun b u q z=>by subst z;rw[f]at q;cases q
 have g:Grow rl F₀ H₀ F (upd H D o):=by
  refine⟨fun b o q1 n=>by rw[upd_ne (ax q1 h0)];exact R.g.same b o q1 n,R.g.fs,fun b o q1=>by rw[upd_ne (neF b o q1)];exact R.sub b o q1,R.g.old,fun y z=>?_⟩;obtain⟨z1,⟨u,h1,h2⟩⟩:=R.reel y z;exact⟨z1,⟨u,by rw[upd_ne (fun q=>hr (by rw[<- q];exact z))];exact h1,h2⟩⟩
 refine⟨g,fun i w e=>?_,R.ap,R.np,R.len⟩;obtain⟨v,h1,h2,h3⟩:=R.sl i w e;refine⟨v,h1,?_,h3⟩
 cases w with
 | d x=>exact h2
 | reel=>exact h2
 | vv u=>exact h2
 | ml xs=>cases n i _ e
 | md xs=>cases n i _ e
 | mk xs=>cases n i _ e
 | xm xs=>cases n i _ e
 | nt ds=>exact h2
 | lk=>trivial
 | sc _=>exact h2
 | fd _=>exact h2
 | xr _=>exact h2
 | fw _=>exact h2
 | ft _=>exact h2
 | xc _ _=>exact h2
 | dp _ _=>exact h2
 | pk xs=>exact absurd e (R.np i xs)
section
variable{X:Cx}{rl:Option Addr}{elt tg iter:Expr}{ifs:List Expr}{scope:Scope}{pos:Pos}{fi:En->(List D2->Prop)->Prop}{g:Dk}{ft:TB}{fe:TV}
end
mutual
def AL:D2->Prop
 | .none=>True
 | .bool _=>True
 | .int i=>i.natAbs<2^1900
 | .str x=>D2.strOk x=true
 | .list xs=>jt xs
 | .tuple xs=>jt xs
 | .dict _=>False
def jt:List D2->Prop
 | []=>True
 | x::xs=>AL x/\jt xs
end
noncomputable def Dp(d:D2):Prop:=AL d/\d.depth<=60/\d.bulk<=8000
section
variable{X:Cx}{rl:Option Addr}{a b e:Expr}{es:List Expr}{fa fb fc:TV}{fs:Dg}{pos p:Pos}
noncomputable def wV:List W->(W->Prop)->Prop:=fun ws Q=>∃w d,ws=[w]/\w.dat=some d/\Dp d/\Q (.d (.str d.shown))
noncomputable def BV:D2->String
 | .none => "NoneType"
 | .bool _ => "bool"
 | .int _ => "int"
 | .str _ => "str"
 | .list _ => "list"
 | .tuple _ => "tuple"
 | .dict _ => "dict"
noncomputable def jX(d:D2)(T:String):Bool:=BV d==T||(BV d == "bool" && T == "int")
noncomputable def qB(T:String):Bool:=["int", "bool", "str", "list", "tuple"].contains T
theorem kit_ok{K:W.Frag}{T:String}(hd:∀kvs,d ≠ .dict kvs)(h:qB T=true):W.kitOne K (.type (BV d)) (.type T)=some (jX d T):=by
 have h:T = "int" \/ T = "bool" \/ T = "str" \/ T = "list" \/ T = "tuple" := by simpa[qB]using h
 cases d with
 | dict kvs=>exact absurd rfl (hd kvs)
 | none=>rcases h with rfl|rfl|rfl|rfl|rfl<;>rfl
 | bool b=>rcases h with rfl|rfl|rfl|rfl|rfl<;>rfl
 | int b=>rcases h with rfl|rfl|rfl|rfl|rfl<;>rfl
 | str b=>rcases h with rfl|rfl|rfl|rfl|rfl<;>rfl
 | list b=>rcases h with rfl|rfl|rfl|rfl|rfl<;>rfl
 | tuple b=>rcases h with rfl|rfl|rfl|rfl|rfl<;>rfl
noncomputable def Aw(K:W.Frag):List V->Hp->VK->Prop:=fun xs H Q=>∃x d T,xs=[x,.ty T]/\Rep K H x d/\qB T=true/\Q (.bl (jX d T)) H
theorem qj:cr X (.builtin "isinstance") (Aw X.K):=by
 intro pins s σ H xs us Q I r ⟨x,d,T,ex,rx,ok,q⟩;subst ex;obtain⟨u,u2,rfl,ru,ru2⟩:=vals2 r;cases(show u2=Lg T from ru2);have fin:∀tk,EP X pins σ Q (.bool (jX d T)) {s with toks:=tk}:=fun tk=>⟨.bl _,H,I.tok tk,rfl,q⟩;obtain⟨as,rd⟩:=Rep.reads I (.refl H) rx u ru
 cases rd with
 | none=>exact W.kia_one W.kitx_none I.kIn Hz (kit_ok (d:=D2.none) (fun _ z=>by cases z) ok) (fun z=>nomatch z) fin
 | bool b=>exact W.kia_one W.kitx_bool I.kIn Hz (kit_ok (d:=JD b) (fun _ z=>by cases z) ok) (fun z=>nomatch z) fin
 | int i t=>exact W.kia_one W.kitx_int I.kIn Hz (kit_ok (d:=Et i) (fun _ z=>by cases z) ok) (fun z=>nomatch z) fin
 | str y t=>exact W.kia_one W.kitx_str I.kIn Hz (kit_ok (d:=D2.str y) (fun _ z=>by cases z) ok) (fun z=>nomatch z) fin
 | list h1 h2 h3 h4=>exact W.kia_one W.kitx_list I.kIn ⟨_,h1,h2⟩ (kit_ok (d:=KN _) (fun _ z=>by cases z) ok) (fun z=>nomatch z) fin
 | tuple h1 h2 h3 h4=>exact W.kia_one W.kitx_tuple I.kIn ⟨_,h1,h2⟩ (kit_ok (d:=Il _) (fun _ z=>by cases z) ok) (fun z=>nomatch z) fin
 | dict h1 h2 h3 h4 h5=>cases rx
noncomputable def xV:List W->(W->Prop)->Prop:=fun ws Q=>∃w d T,ws=[w,.vv (.ty T)]/\w.dat=some d/\qB T=true/\Q (.d (.bool (jX d T)))
theorem uW:d0 X rl (Aw X.K) xV:=fun{F H vs ws} Qd Q s ra r ⟨w,d,T,ew,e1,ok,q⟩ k=>by
 subst ew;obtain⟨v,u,rfl,r1,r2⟩:=yQ r;cases(show u=V.ty T from r2);exact⟨v,d,T,rfl,r1.dat s e1,ok,k _ (.d _) _ _ (Grow.refl s ra) (.bl _) trivial q⟩
theorem rO(hm:X.mg "isinstance" = none)(ha:Dr X rl [a,b] fs)(hg:autoParam (Gl X "isinstance") æa._auto_1)(he:autoParam (Ec [a,b] X.env=(false,eval a X.env)::Ec [b] X.env) æa._auto_1)(hpl:autoParam ((FN pos (Ec [b] X.env)).any (·.1)=false) æa._auto_1) :
 PV X rl (.Call (.Name "isinstance" p) [a,b] [] pos) (cI xV fs):=b9 qj uW hm (by first|rfl|exact boot_isinstance) ha hg (by decide) (by decide) he hpl
theorem rN(hm:X.mg "len" = none)(ha:Dr X rl [a] fs)(hg:autoParam (Gl X "len") æa._auto_1)(he:autoParam (Ec [a] X.env=(false,eval a X.env)::Ec [] X.env) æa._auto_1)(hpl:autoParam ((FN pos (Ec [] X.env)).any (·.1)=false) æa._auto_1) :
 PV X rl (.Call (.Name "len" p) [a] [] pos) (cI xU fs):=b9 bW uV hm boot_len ha hg (by decide) (by decide) he hpl
theorem vb(hm:X.mg "abs" = none)(ha:Dr X rl [a] fs)(hg:autoParam (Gl X "abs") æa._auto_1)(he:autoParam (Ec [a] X.env=(false,eval a X.env)::Ec [] X.env) æa._auto_1)(hpl:autoParam ((FN pos (Ec [] X.env)).any (·.1)=false) æa._auto_1) :
 PV X rl (.Call (.Name "abs" p) [a] [] pos) (cI xY fs):=b9 gH uZ hm (by first|rfl|exact boot_abs) ha hg (by decide) (by decide) he hpl
noncomputable def wS:List W->(W->Prop)->Prop:=fun ws Q=>∃i,ws=[.d (.int i)]/\i.natAbs.log2<1920/\Q (.d (.str (Lb i)))
end
structure FnIn (K:W.Frag) (mg:Str->Option D4) (x:Str) (st:Stmt) (ps:List Str):Prop where
 ex:∃f fd,mg x=some (.ref f)/\Fun K x x st f fd/\Binds K fd ps []
structure Bz (mg:Str->Option D4):Prop where
 int_:mg "int" = none
 bool_:mg "bool" = none
 str_:mg "str" = none
 list_:mg "list" = none
 tuple_:mg "tuple" = none
 dict_:mg "dict" = none
 isinstance_:mg "isinstance" = none
 len_:mg "len" = none
 abs_:mg "abs" = none
 repr_:mg "repr" = none
 range_:mg "range" = none
 all_:mg "all" = none
 any_:mg "any" = none
 sum_:mg "sum" = none
 min_:mg "min" = none
 max_:mg "max" = none
 sorted_:mg "sorted" = none
 zip_:mg "zip" = none
 enumerate_:mg "enumerate" = none
 reversed_:mg "reversed" = none
 divmod_:mg "divmod" = none
 set_:mg "set" = none
section
variable{P:Ei}{w:EK}{K:W.Frag}{mg:Str->Option D4}{base:Heap}{rl:Option Addr}{x:Str}{st:Stmt}{N ps:List Str}{k:Nat}{Pd:List W->(D2->Prop)->Prop}{t:Dh}
theorem Dfn.of(Fn:FnIn K mg x st ps)(S:FnScope N ps (defScope st))(mono:∀ws Q Q',(∀d,Q d->Q' d)->Pd ws Q->Pd ws Q')(len:∀ws Q,Pd ws Q->ws.length=ps.length)
 (hbody:∀{f:Addr}(cdv:D4)(A:EH)(outer:List Env)(s:D6)(H:Hp)(E:XK),Room k (A.deeper (IE x (defScope st) s.heap.objs.size f cdv)) ->
  iK (ji DS P w K mg base N x (defScope st) f cdv A outer s H E).nox rl (defBody st) t)
 (hread:∀ws Q,Pd ws Q->t (ko Q) (cy N ws)):Dfn P w K mg base rl x ps (k+1) Pd:=by
 obtain⟨f,fd,hm,F,hb⟩:=Fn.ex;exact⟨mono,f,fd,hm,F.kp,hb,BL F S len hbody hread⟩
end
section
variable{X:Cx}{rl:Option Addr}{e:Expr}{es:List Expr}{fa fb fc:TV}{fs:Dg}{pos p:Pos}
end
noncomputable def eK:List W->(D2->Prop)->Prop:=fun ws Q=>∃m:Int,ws=[.reel,.d (.int m)]/\0<m/\m<2^60/\∀k:Int,0<=k->k<m->Q (.int k)
theorem eK.mono:∀ws (Q Q':D2->Prop),(∀d,Q d->Q' d)->eK ws Q->eK ws Q':=fun _ _ _ h ⟨m,e,p,z,q⟩=>⟨m,e,p,z,fun k a b=>h _ (q k a b)⟩
theorem eK.len:∀ws (Q:D2->Prop),eK ws Q->ws.length=2:=fun _ _ ⟨m,e,_⟩=>by subst e;rfl
theorem fz_d(x:D2):(W.d x).fz = .d x:=rfl
theorem fz_ml(x:List D2):(W.ml x).fz = .d (.list x):=rfl
theorem fz_pk(x:List D2):(W.pk x).fz = .pk x:=rfl
theorem fz_reel:W.reel.fz = .reel:=rfl
theorem fz_vv(x:V):(W.vv x).fz = .vv x:=rfl
theorem pk_d(x:D2):L2.VL.W.peek (.d x) = .d x:=rfl
theorem pk_ml(x:List D2):L2.VL.W.peek (.ml x) = .pk x:=rfl
theorem pk_reel:L2.VL.W.peek .reel = .reel:=rfl
theorem pk_vv(x:V):L2.VL.W.peek (.vv x) = .vv x:=rfl
theorem dat_d(x:D2):(W.d x).dat=some x:=rfl
theorem dat_ml(x:List D2):(W.ml x).dat=some (.list x):=rfl
theorem dat_pk(x:List D2):(W.pk x).dat=some (.list x):=rfl
theorem isPk_d(x:D2):(W.d x).isPk=false:=rfl
theorem isPk_ml(x:List D2):(W.ml x).isPk=false:=rfl
theorem isPk_reel:W.reel.isPk=false:=rfl
theorem dats_nil:eB []=some []:=rfl
theorem dats_d(x:D2)(r:List W):eB (.d x::r)=(eB r).map (x :: ·):=rfl
theorem arg_d(x:D2):cN (.d x)=true:=rfl
theorem arg_reel:cN .reel=true:=rfl
theorem item_l(xs:List D2)(i:Int):L2.VL.itemAt (.list xs) i=L2.atI xs i:=rfl
theorem item_t(xs:List D2)(i:Int):L2.VL.itemAt (.tuple xs) i=L2.atI xs i:=rfl
theorem len_l(xs:List D2):tU (.list xs)=some xs.length:=rfl
theorem len_t(xs:List D2):tU (.tuple xs)=some xs.length:=rfl
theorem at0{α:Type}(x:α)(r:List α):L2.atI (x::r) 0=some x:=by simp[L2.atI,L2.ixN]
theorem at1{α:Type}(x y:α)(r:List α):L2.atI (x::y::r) 1=some y:=by
 have:(1:Int)<((x::y::r).length:Int):=by simp;omega
 simp only[L2.atI,L2.ixN];rw[if_pos (by decide),if_pos this];rfl
theorem c7{x y:Int}(h:y≠0):(x.fmod y).natAbs<y.natAbs:=by
 rcases Int.lt_or_gt_of_ne h with hy|hy
 · have h1:=Ka x y
   have e:x.fmod y = -((-x).fmod (-y)):=by
    have:=Int.neg_fmod_neg x y;omega
   have p:0 < -y:=by omega
   have b1:=Fz (-x) p;have b2:=GF (-x) p;omega
 · have b1:=Fz x hy;have b2:=GF x hy;omega
theorem gw(x y:Int):EM y (x.fmod y)=EM x y:=by
 have e:x.fmod y=x+y*(-(x.fdiv y)):=by
  have:=Ka x y;rw[Int.mul_neg];omega
 rw[e,Int.gcd_add_mul_left_right];exact Int.gcd_comm y x
theorem eqv_ii(a b:Int):EU (.int a) (.int b)=(a==b):=by simp[EU]
theorem shaped_i(a:Int):E4 (.int a)=true:=rfl
theorem shaped_b(a:Bool):E4 (.bool a)=true:=rfl
noncomputable def bV(d:D2):Bool:=jX d "int" && !jX d "bool"
theorem qR:bV d=true↔∃i,d = .int i:=by
 cases d<;>simp[bV,jX,BV]
theorem cE{x y:Int}(h:y≠0)(b:y.natAbs<2^64):(x.fmod y).natAbs<2^64:=Nat.lt_trans (c7 h) b
theorem cu.of{i j:Int}(h:j≠0)(b:j.natAbs<2^64):cu i j:=⟨h,D9 b (Ez (by decide) (by decide))⟩
theorem c8:∀ns:List Int,Gu (ns.map Et)=true
 | []=>rfl
 | n::ns=>by simp[Gu,KC,c8 ns]
theorem fS:∀ns:List Int,HM (ns.map Et)=0
 | []=>rfl
 | n::ns=>by simp[HM,Lw,fS ns]
theorem shaped_ints(ns:List Int):E4 (.list (ns.map .int))=true:=by simp[E4,KC,Lw,c8,fS]
theorem ua{a:Int}(h:b≠0):0<(EM a b:Int):=by
 have:=G3 a h;omega
theorem wQ{a:Int}(h:b≠0):(EM a b)<=b.natAbs:=Nat.le_of_dvd (by omega) (Int.gcd_dvd_natAbs_right a b)
theorem zq{xs:List α}{k:Int}(h0:0<=k)(h1:k<(xs.length:Int)):∃z,L2.atI xs k=some z/\z∈xs:=by
 obtain⟨n,rfl⟩:=Go h0;have hn:n<xs.length:=by omega
 exact⟨xs[n],jn (EB hn),Ho hn⟩
theorem sQ{K:W.Frag}{i:Str}(h:Rep K F v (.str i)):v = .str i:=by cases h;rfl
noncomputable def AG(neg:Bool):W->W->(W->Prop)->Prop:=fun x y Q=>∃a b:Str,x = .d (.str a)/\y = .d (.str b)/\Q (.d (.bool (if neg then !decide (a=b)else decide (a=b))))
section
variable{P:Ei}{w:EK}{K:W.Frag}{mg:Str->Option D4}{base:Heap}{rl:Option Addr}{x:Str}{st:Stmt}{N ps:List Str}{k:Nat}{Pd:List W->(List D2->Prop)->Prop}{t:Dh}
end
section
variable{X:Cx}{rl:Option Addr}{e:Expr}{es:List Expr}{fs:Dg}{pos p:Pos}
noncomputable def yl(Pd:List W->(List D2->Prop)->Prop)(fs:Dg):TV:=fun ρ Q=>fs ρ fun ws=>ws.all cN=true/\Pd ws fun xs=>Q (.ml xs)
theorem s_(X:Cx)(rest:List Stmt):Dt X rest (fun D σ H=>∀pins s,Inv X pins σ H s->Es (EJ X.prog X.w) X.A (execs rest X.env) (SP X pins D) X.xe s):=fun pins s σ H D I h=>h pins s I
end
theorem qc(h:ns.length<=63):uH (ns.map V.int) none (some 63)=ns.map V.int:=by
 unfold uH;rw[HT.sIx_none]
 have e:HT.sIx (ns.map V.int).length (ns.map V.int).length (some 63)=(ns.map V.int).length:=by
  have:=HT.sIx_nat (ns.map V.int).length (ns.map V.int).length 63;rw[show((63:Nat):Int)=63 from rfl]at this;rw[this,Eb];omega
 rw[e];simp;exact HV (by simp)
section
variable{X:Cx}{rl:Option Addr}{a b c e:Expr}{es:List Expr}{fa fb fc:TV}{fs:Dg}{pos p:Pos}
noncomputable def fL:D2->Option (List D2)
 | .list xs=>some xs
 | .tuple xs=>some xs
 | _=>none
theorem seq_l(xs:List D2):fL (.list xs)=some xs:=rfl
theorem seq_t(xs:List D2):fL (.tuple xs)=some xs:=rfl
theorem fL.of{o:Option D2}(h:o=some d)(e:fL d=some xs):o=some (.list xs)\/o=some (.tuple xs):=by
 cases d<;>cases e
 · exact .inl h
 · exact .inr h
noncomputable def pZ:List W->(W->Prop)->Prop:=fun ws Q=>∃w d xs,ws=[w]/\w.dat=some d/\fL d=some xs/\Q (.d (.tuple xs))
theorem uT:d0 X rl (fun xs H Q=>∃p ys,xs=[.ref p]/\((Dn X.K H p ys/\∀l,H l=none->Q (.ref l) (upd H l (.tup ys)))\/(Dm X.K H p ys/\Q (.ref p) H))) pZ:=fun{F H vs ws} Qd Q s ra r ⟨w,d,xs,ew,ed1,ed2,q⟩ k=>by
 have ed:=fL.of ed1 ed2;subst ew;obtain⟨v,rfl,r1⟩:=l_ r;rcases ed with ed|ed
 · obtain⟨a,us,rfl,sq,rs⟩:=r1.items s ed;refine⟨a,us,rfl,.inl ⟨sq,fun l hl=>?_⟩⟩;have g:=Grow.data (a:=l) (o:=.tup us) s ra hl;exact k _ (.d (.tuple xs)) _ _ g (.tup (.inl (.inl ak)) (rs.mono g.fs)) trivial q
 · cases w with
   | d y =>
     cases ed
     cases(show Rep X.K F v (.tuple xs)from r1)with
     | tup sq rs=>exact⟨_,_,rfl,.inr ⟨cX s sq,k _ (.d (.tuple xs)) _ _ (Grow.refl s ra) (.tup sq rs) trivial q⟩⟩
   | ml ys=>cases ed
   | pk ys=>cases ed
   | reel=>cases ed
   | vv u=>cases ed
   | md u=>cases ed
   | mk u=>cases ed
   | xm u=>cases ed
   | lk=>cases ed
   | sc _=>cases ed
   | fd _=>cases ed
   | xr _=>cases ed
   | fw _=>cases ed
   | ft _=>cases ed
   | xc _ _=>cases ed
   | dp _ _=>cases ed
   | nt ds =>
     cases ed;obtain⟨b,us,rfl,h,q'⟩:=r1;exact⟨_,_,rfl,.inr ⟨.inl (.inl (s _ _ h)),k _ (.d (.tuple xs)) _ _ (Grow.refl s ra) (.tup (.inl (.inl h)) q') trivial q⟩⟩
theorem lE(hm:X.mg "tuple" = none)(ha:Dr X rl [a] fs)(hg:autoParam (Gl X "tuple") æa._auto_1)(he:autoParam (Ec [a] X.env=(false,eval a X.env)::Ec [] X.env) æa._auto_1)(hpl:autoParam ((FN pos (Ec [] X.env)).any (·.1)=false) æa._auto_1) :
 PV X rl (.Call (.Name "tuple" p) [a] [] pos) (cI pZ fs):=jD gG uT hm (by rfl) ha hg (by decide) (by decide) he hpl
noncomputable def wZ:List W->(W->Prop)->Prop:=fun ws Q=>∃w d xs,ws=[w]/\w.dat=some d/\fL d=some xs/\Q (.ml xs)
noncomputable def yp(i j l:Nat)(fs:Dg):Dh:=fun D ρ=>fs ρ fun ws=>∃x y z,eB ws=some [x,y,z]/\D.nx (((ρ.set i (some (.d x))).set j (some (.d y))).set l (some (.d z)))
end
section
variable{X:Cx}{rl:Option Addr}
theorem wt:DC X (FI .Is) (fun x y H Q=>∃b c,x = .bl b/\y = .bl c/\Q (.bl (b==c)) H):=by
 intro pins s σ H x y v u Q I rx ry ⟨b,c,ex,ey,q⟩;subst ex ey;cases(show v=Kt b from rx);cases(show u=Kt c from ry);exact is_bool ⟨.bl _,H,I,rfl,q⟩
noncomputable def AE:W->W->(W->Prop)->Prop:=fun x y Q=>∃b c,x = .d (.bool b)/\y = .d (.bool c)/\Q (.d (.bool (b==c)))
end
section
variable{X:Cx}{rl:Option Addr}{a b c e:Expr}{es:List Expr}{fa fb fc:TV}{fs:Dg}{pos p p2:Pos}
noncomputable def C0(f:Int->Int->D2):List W->(W->Prop)->Prop:=fun ws Q=>∃i j,ws=[.d (.int i),.d (.int j)]/\Q (.d (f i j))
theorem uX{f:Int->Int->V}{g:Int->Int->D2}(h:∀K F i j,Rep K F (f i j) (g i j)):d0 X rl (fun xs H Q=>∃i j,xs=[.int i,.int j]/\Q (f i j) H) (C0 g):=fun{F H vs ws} Qd Q s ra r ⟨i,j,ew,q⟩ k=>by
 subst ew;obtain⟨v,u,rfl,r1,r2⟩:=yQ r;have e1:=aJ r1;have e2:=aJ r2;subst e1 e2;exact⟨i,j,rfl,k _ (.d _) _ _ (Grow.refl s ra) (h _ _ i j) trivial q⟩
theorem va(hm:X.mg "max" = none)(ha:Dr X rl [a,b] fs)(hc:autoParam (X.calm=true) æa._auto_1)(hg:autoParam (Gl X "max") æa._auto_1)(he:autoParam (Ec [a,b] X.env=(false,eval a X.env)::Ec [b] X.env) æa._auto_1)(hpl:autoParam ((FN pos (Ec [b] X.env)).any (·.1)=false) æa._auto_1) :
 PV X rl (.Call (.Name "max" p) [a,b] [] pos) (cI (C0 fun i j=>.int (max i j)) fs) :=
 b9 (oC hc) (uX (f:=fun i j=>.int (if j>i then j else i)) fun _ _ i j=>(show(if j>i then j else i)=max i j by split<;>omega) ▸ .int _) hm (by rfl) ha hg (by decide) (by decide) he hpl
theorem gR(hm:X.mg "min" = none)(ha:Dr X rl [a,b] fs)(hc:autoParam (X.calm=true) æa._auto_1)(hg:autoParam (Gl X "min") æa._auto_1)(he:autoParam (Ec [a,b] X.env=(false,eval a X.env)::Ec [b] X.env) æa._auto_1)(hpl:autoParam ((FN pos (Ec [b] X.env)).any (·.1)=false) æa._auto_1) :
 PV X rl (.Call (.Name "min" p) [a,b] [] pos) (cI (C0 fun i j=>.int (min i j)) fs) :=
 b9 (oB hc) (uX (f:=fun i j=>.int (if j<i then j else i)) fun _ _ i j=>(show(if j<i then j else i)=min i j by split<;>omega) ▸ .int _) hm (by rfl) ha hg (by decide) (by decide) he hpl
noncomputable def nZ:List W->(W->Prop)->Prop:=fun ws Q=>∃i j,ws=[.d (.int i),.d (.int j)]/\0<j/\j<1073741824/\Q (.d (.tuple [.int (i / j),.int (i%j)]))
noncomputable def xa:List W->(W->Prop)->Prop:=fun ws Q=>(∃i,ws=[.d (.int i)]/\Q (.d (.int i)))\/∃k:Bool,ws=[.d (.bool k)]/\Q (.d (.int (if k then 1 else 0)))
noncomputable def CP(C:Int->Int->Prop)(f:Int->Int->Int):Dj:=fun x y H Q=>∃i j,x = .int i/\y = .int j/\C i j/\Q (.int (f i j)) H
theorem nG:Dw X .Add (CP (fun _ _=>True) fun i j=>i+j):=fun pins s σ H x y v u Q I r1 r2 ⟨i,j,e1,e2,_,q⟩=>wK pins s σ H x y v u Q I r1 r2 ⟨i,j,e1,e2,q⟩
theorem nE:Dw X .Sub (CP (fun _ _=>True) fun i j=>i-j):=fun pins s σ H x y v u Q I r1 r2 ⟨i,j,e1,e2,_,q⟩=>wJ pins s σ H x y v u Q I r1 r2 ⟨i,j,e1,e2,q⟩
noncomputable def yy(i:Nat)(C:Int->Int->Prop)(f:Int->Int->Int)(fa:TV):Dh:=fun D ρ=>∃n,ρ[i]?=some (some (.d (.int n)))/\fa ρ fun w=>∃m,w = .d (.int m)/\C n m/\D.nx (ρ.set i (some (.d (.int (f n m)))))
theorem jy(i:Nat){op:LA}{C:Int->Int->Prop}{f:Int->Int->Int}(hN:X.N.Nodup)(ho:Dw X op (CP C f))(he:PV X rl e fa)(hi:autoParam (X.N[i]?=some x) æa._auto_1)(hx:autoParam (Loc X.env.scope x) æd._auto_1)
 (hf:autoParam (X.fn x=true\/X.env.scope.names.lookup x=some .local) æe._auto_1):Du X rl (.AugAssign (.Name x pos') op e pos) (yy i C f fa):=by
 obtain⟨t,p,k⟩:=he;refine⟨_,v9 hN hi hx p ho hf,fun R Dv D ok ⟨n,e1,q⟩=>?_⟩;obtain⟨v,s1,r1,_⟩:=R.sl i _ e1;have ev:=aJ r1;subst ev;refine⟨_,s1,k R _ _ q fun v w F1 H1 g1 r1 n1 ⟨m,ew,hc,q1⟩=>?_⟩;subst ew;have ev:=aJ r1;subst ev;exact⟨n,m,rfl,rfl,hc,ok.nx _ _ _ _ g1.fs (R.set g1 (v:=.int (f n m)) (w:=.d (.int (f n m))) (.int _) trivial (fun _ z=>by cases z) i) q1⟩
noncomputable def cutD(xs:List D2)(lo hi:Option Int):List D2:=(xs.drop (HT.sIx xs.length 0 lo)).take (HT.sIx xs.length xs.length hi-HT.sIx xs.length 0 lo)
abbrev Di:=En->(Option Int->Prop)->Prop
noncomputable def Cu:Di:=fun _ Q=>Q none
noncomputable def Cv(fa:TV):Di:=fun ρ Q=>fa ρ fun w=>∃i,w = .d (.int i)/\Q (some i)
noncomputable def Aj(fa:TV)(fl fh:Di):TV:=fun ρ Q=>fa ρ fun w=>fl ρ fun l=>fh ρ fun h=>∃xs,w.dat=some (.list xs)/\Q (.ml (cutD xs l h))
noncomputable def xg:W->W->(W->Prop)->Prop:=fun x y Q=>∃xs ys,x.dat=some (.list xs)/\y.dat=some (.list ys)/\xs.length+ys.length<=sizeLine/\Q (.ml (xs++ys))
noncomputable def lO(p p':Int->Int->Bool)(fa fb fc:TV):TV:=fun ρ Q=>fa ρ fun x=>fb ρ fun y=>∃i j,x = .d (.int i)/\y = .d (.int j) /\
 if p i j=true then fc ρ fun z=>∃k,z = .d (.int k)/\Q (.d (.bool (p' j k)))else Q (.d (.bool false))
theorem rR{op':LP}{p p':Int->Int->Bool}(ho:DC X (FI op) (Cj fun i j=>.bl (p i j)))(ho':DC X (FI op') (Cj fun i j=>.bl (p' i j)))(ha:PV X rl a fa)(hb:PV X rl b fb)(hc:PV X rl c fc)
 (hm:autoParam (LF [op,op'] [b,c]=false) æh._auto_1):PV X rl (.Compare a [op,op'] [b,c] pos) (lO p p' fa fb fc):=by
 obtain⟨t,p1,k1⟩:=ha;obtain⟨t2,p2,k2⟩:=hb;obtain⟨t3,p3,k3⟩:=hc;refine⟨_,pD ho ho' p1 p2 p3 hm,fun R Qd Q q h=>k1 R _ _ q fun v w F1 H1 g1 r1 n1 q1=>k2 (R.grow g1) _ _ q1 fun v2 w2 F2 H2 g2 r2 n2 q2=>?_⟩;obtain⟨i,j,rfl,rfl,q2⟩:=q2;have e1:=aJ r1;have e2:=aJ r2;subst e1 e2;refine⟨i,j,rfl,rfl,p i j,rfl,?_⟩
 cases hp:p i j with
 | false =>
   rw[hp]at q2;rw[if_neg (by decide)]at q2 ⊢
   exact h _ (.d _) F2 H2 (g1.trans g2) (.bl _) trivial q2
 | true =>
   rw[hp]at q2;rw[if_pos rfl]at q2 ⊢;refine k3 ((R.grow g1).grow g2) _ _ q2 fun v3 w3 F3 H3 g3 r3 n3 ⟨k,ek,q3⟩=>?_;subst ek;have e3:=aJ r3;subst e3;exact⟨j,k,rfl,rfl,h _ (.d _) F3 H3 ((g1.trans g2).trans g3) (.bl _) trivial q3⟩
theorem d7{op':LP}{p p':Int->Int->Bool}(ho:DC X (FI op) (Cj fun i j=>.bl (p i j)))(ho':DC X (FI op') (Cj fun i j=>.bl (p' i j)))(ha:PV X rl a fa)(hb:PV X rl b fb)(hc:PV X rl c fc)
 (hm:autoParam (LF [op,op'] [b,c]=false) æh._auto_1):PB X rl (.Compare a [op,op'] [b,c] pos) (lK (lO p p' fa fb fc)):=by
 obtain⟨t,p1,k1⟩:=ha;obtain⟨t2,p2,k2⟩:=hb;obtain⟨t3,p3,k3⟩:=hc;refine⟨_,pg ho ho' p1 p2 p3 hm,fun R Qd Q q h=>k1 R _ _ q fun v w F1 H1 g1 r1 n1 q1=>k2 (R.grow g1) _ _ q1 fun v2 w2 F2 H2 g2 r2 n2 q2=>?_⟩;obtain⟨i,j,rfl,rfl,q2⟩:=q2;have e1:=aJ r1;have e2:=aJ r2;subst e1 e2;refine⟨i,j,rfl,rfl,p i j,rfl,?_⟩
 cases hp:p i j with
 | false =>
   rw[hp]at q2;rw[if_neg (by decide)]at q2 ⊢;obtain⟨k,ek,q2⟩:=q2;cases ek
   exact⟨false,rfl,h false F2 H2 (g1.trans g2) q2⟩
 | true =>
   rw[hp]at q2;rw[if_pos rfl]at q2 ⊢;refine k3 ((R.grow g1).grow g2) _ _ q2 fun v3 w3 F3 H3 g3 r3 n3 ⟨k,ek,q3⟩=>?_;subst ek;have e3:=aJ r3;subst e3;obtain⟨kk,ekk,q3⟩:=q3;cases ekk;exact⟨j,k,rfl,rfl,p' j k,rfl,h _ F3 H3 ((g1.trans g2).trans g3) q3⟩
structure GlD (K:W.Frag) (mg:Str->Option D4) (x:Str) (d:D2):Prop where
 ex:∃v u,mg x=some u/\RelV v u/\∀F,Rep K F v d
theorem jC(G:GlD X.K X.mg x d)(hg:autoParam (Gl X x) æa._auto_1)(hd:autoParam ((x==("__debug__" : Str))=false) æb._auto_1):PV X rl (.Name x pos) (vC d):=by
 obtain⟨v,u,h1,h2,h3⟩:=G.ex;exact sW h1 h2 h3 hg hd
structure GlK (K:W.Frag) (x:Str) (d:D2):Prop where
 ex:∃v u,W.nsIn K ED x=some (some u)/\RelV v u/\∀F,Rep K F v d
theorem GlK.of{K:W.Frag}(k:GlK K x d)(Y:K.In h)(G:h.Ns ED mg):GlD K mg x d:=by
 obtain⟨v,u,h1,h2,h3⟩:=k.ex;exact⟨v,u,W.mg_of Y G h1,h2,h3⟩
end
end L2.VL
namespace L2
section
variable{X:Cx}{a b:Expr}{ta:TA}{p q pos pos2:Pos}
end
end L2
namespace L2.VL
section
variable{X:Cx}{rl:Option Addr}{a b c e:Expr}{es:List Expr}{fa fb fc:TV}{fs:Dg}{pos pos2 p q:Pos}
noncomputable def AU(fs:Dg):TV:=fun ρ Q=>fs ρ fun ws=>∃i j:Int,ws=[.d (.int i),.d (.int j)]/\(-(2^62)<=i/\i<2^62 /\ -(2^62)<=j/\j<2^62)/\(j-i).toNat<=2^24/\Q (.ml (aV i (j-i).toNat))
noncomputable def AV(fs:Dg):TV:=fun ρ Q=>fs ρ fun ws=>∃j:Int,ws=[.d (.int j)]/\(-(2^62)<=j/\j<2^62)/\j.toNat<=2^24/\Q (.ml (aV 0 j.toNat))
noncomputable def lP(i j:Nat)(fa:TV):Dh:=fun D ρ=>∃xs ys,ρ[i]?=some (some (.ml xs))/\ρ[j]?=some (some (.ml ys))/\fa ρ fun w=>∃k y,w = .d (.int k)/\0<=k/\k<(ys.length:Int)/\ys.length<2^62/\ys[k.toNat]?=some y/\xs.length<sizeLine /\
 D.nx ((ρ.set j (some (.ml (ys.eraseIdx k.toNat)))).set i (some (.ml (xs++[y]))))
end
end L2.VL
namespace L2
section
variable{X:Cx}{tg e:Expr}{ta te:TE}{p p2 pos:Pos}
end
end L2
namespace L2.VL
section
variable{X:Cx}{rl:Option Addr}{a b c e tg:Expr}{es:List Expr}{fa fb fc:TV}{fs:Dg}{pos pos2 p p2 q:Pos}
theorem Reps.rev{K:W.Frag}{F:Hp}:∀{vs:List V}{ds:List D2},Reps K F vs ds->Reps K F vs.reverse ds.reverse
 | _,_,.nil=>.nil
 | _,_,.cons h r=>by rw[HY,HY];exact(Reps.rev r).snoc h
noncomputable def vf(fa:TV):TV:=fun ρ Q=>fa ρ fun w=>∃xs,w.dat=some (.list xs)/\Q (.ml xs.reverse)
end
end L2.VL
namespace L2
section
variable{X:Cx}
theorem uv{bs:List Bool}{its:List D4}(r:bI (bs.map V.bl) its){v:D4}(e:its[i]?=some v):v = .bool (bs.getD i false):=by
 have hl:=r.length;rw[Eb]at hl;have hi:i<bs.length:=by have:=(Ek.mp e).1;omega
 have hb:(bs.map V.bl)[i]?=some (.bl bs[i]):=by simp[hi]
 obtain⟨u,hu,ru⟩:=r.get hb;rw[e]at hu;cases hu;have:bs.getD i false=bs[i]:=by simp[LJ,hi]
 rw[this];exact ru
theorem mm{bs:List Bool}:(ET bs.length).all (fun i=>bs.getD i false)=bs.all id:=by
 have:bs=(ET bs.length).map fun i=>bs.getD i false:=by
  apply JO
  · simp
  · intro i h1 h2;simp[LJ,h1]
 conv=>rhs;rw[this,List.all_map]
 rfl
theorem ql(hc:X.calm=true):cr X (.builtin "all") (fun xs H Q=>∃(p:Addr)(bs:List Bool),xs=[.ref p]/\Dn X.K H p (bs.map V.bl)/\Q (.bl (bs.all id)) H):=by
 intro pins s σ H xs us Q I r ⟨p,bs,ex,hq,q⟩;subst ex;obtain⟨u,rfl,ru⟩:=vals1 r;cases ru;obtain⟨its,rv,pl,hz⟩:=I.list hq;have hl:=rv.length;rw[Eb]at hl;refine call_all_walk (GO pl.isList ?_);have ne:p≠s.heap.objs.size:=by obtain⟨o,ho,_⟩:=pl.isList;exact Ey (D_ ho)
 refine⟨s.heap.objs.size,_,_,_,_,_,fun i=>bs.getD i false,rfl,Ln (A:=X.A.in1) (I.ok.hd hc) s.heap.objs.size p ne its.toArray,⟨⟨_,Eg _ rfl,rfl,rfl⟩,pl.isList.push _⟩,fun i v s' Q' E' hP hQ=>?_,fun h' tk k=>?_⟩
 · rw[uv rv (show its[i]?=some v by simpa using hP)];exact Fj hQ
 · have e:(ET its.toArray.size).all (fun i=>bs.getD i false)=bs.all id:=by rw[Ej,<- hl];exact mm
   rw[e];exact⟨.bl _,H,I.kept (t':=tk) fun b o eb=>k b o (by simp;exact Ey (D_ eb)) (D3 _ eb),rfl,q⟩
end
end L2
namespace L2.VL
section
variable{X:Cx}{rl:Option Addr}{a b c e:Expr}{es:List Expr}{fa fb fc:TV}{fs:Dg}{pos p p2:Pos}
theorem l8{K:W.Frag}{F:Hp}:∀{vs:List V}{bs:List Bool},Reps K F vs (bs.map .bool)->vs=bs.map V.bl
 | _,[],h=>h.nil_iff
 | _,b::bs,.cons h r=>by rw[dO h,l8 r];rfl
noncomputable def xX(f:List Bool->Bool):List W->(W->Prop)->Prop:=fun ws Q=>∃(w:W)(bs:List Bool),ws=[w]/\w.dat=some (.list (bs.map .bool))/\Q (.d (.bool (f bs)))
theorem uY{f:List Bool->Bool}:d0 X rl (fun xs H Q=>∃(p:Addr)(bs:List Bool),xs=[.ref p]/\Dn X.K H p (bs.map V.bl)/\Q (.bl (f bs)) H) (xX f):=fun{F H vs ws} Qd Q s ra r ⟨w,bs,ew,ed,q⟩ k=>by
 subst ew;obtain⟨v,rfl,r1⟩:=l_ r;obtain⟨a,us,rfl,sq,rs⟩:=r1.items s ed;have e:=l8 rs;subst e;exact⟨a,bs,rfl,sq,k _ (.d _) _ _ (Grow.refl s ra) (.bl _) trivial q⟩
theorem v_all(hm:X.mg "all" = none)(ha:Dr X rl [a] fs)(hc:autoParam (X.calm=true) æa._auto_1)(hg:autoParam (Gl X "all") æa._auto_1)(he:autoParam (Ec [a] X.env=(false,eval a X.env)::Ec [] X.env) æa._auto_1)(hpl:autoParam ((FN pos (Ec [] X.env)).any (·.1)=false) æa._auto_1) :
 PV X rl (.Call (.Name "all" p) [a] [] pos) (cI (xX fun bs=>bs.all id) fs):=b9 (ql hc) uY hm (by rfl) ha hg (by decide) (by decide) he hpl
end
end L2.VL
namespace L2.TM
section
variable{prog:Ei}{w:EK}{A:EH}{E:D4->D6->Prop}{s:D6}{k:Int}{t:Tok}{l:Addr}{its:Array D4}
end
end L2.TM
namespace L2
section
variable{X:Cx}
end
end L2
namespace L2.VL
section
variable{X:Cx}{rl:Option Addr}{a b c e:Expr}{es:List Expr}{fa fb fc:TV}{fs:Dg}{pos p p2:Pos}
noncomputable def wW:W->W->(W->Prop)->Prop:=fun x y Q=>∃xs k,x = .d (.tuple xs)/\y = .d (.int k)/\xs≠[]/\1<=k/\k<2^62/\xs.length*k.toNat<=sizeLine/\Q (.d (.tuple (E9 k.toNat xs).flatten))
end
end L2.VL
namespace L2
section
variable{X:Cx}
theorem Room.u65{k:Nat}(r:Room k A):A.units+65<Kx:=by have:=r.un;omega
section
variable{prog:Ei}{w:EK}{A:EH}{E:D4->D6->Prop}{s:D6}
end
theorem fG{vs:List D4}(h:GP vs ns):bI (ns.map V.int) vs:=by
 induction h with
 | nil=>exact .nil
 | cons n t r ih=>exact .cons ⟨t,rfl⟩ ih
end
end L2
namespace L2.VL
section
variable{X:Cx}{rl:Option Addr}{a b c e:Expr}{es:List Expr}{fa fb fc:TV}{fs:Dg}{pos p p2:Pos}
noncomputable def xh:W->W->(W->Prop)->Prop:=fun x y Q=>∃xs ys,x = .d (.tuple xs)/\y = .d (.tuple ys)/\xs.length+ys.length<=sizeLine/\Q (.d (.tuple (xs++ys)))
theorem cc{K:W.Frag}{F:Hp}:∀{vs:List V}{ns:List Int},Reps K F vs (ns.map .int)->vs=ns.map V.int
 | _,[],h=>h.nil_iff
 | _,n::ns,.cons h r=>by rw[aJ h,cc r];rfl
theorem d_{K:W.Frag}{F:Hp}:∀{ns:List Int},Reps K F (ns.map V.int) (ns.map .int)
 | []=>.nil
 | n::ns=>.cons (.int n) d_
noncomputable def wT:List W->(W->Prop)->Prop:=fun ws Q=>∃(ns:List Int),ws=[.d (.tuple (ns.map .int))]/\ns.length<64/\∀ns':List Int,ns'.Perm ns->ns'.Pairwise (· <= ·)->Q (.ml (ns'.map .int))
end
end L2.VL
namespace L2.TO
section
variable{prog:Ei}{w:EK}{A:EH}{E:D4->D6->Prop}{s:D6}
theorem kN(n:Nat):Hi ((n:Int)-1) (-1) (-1)=n:=by
 unfold Hi;rw[if_neg (by decide)];by_cases h:n=0
 · subst h;decide
 · rw[if_pos (by omega),show(- -1:Int)=1 by decide,Int.ediv_one];omega
theorem jr{sl:Addr}{vk:D4}{Q:Int×Int×Nat->D6->Prop}(hs:s.heap.IsSliceOf sl .none .none vk)(pk:IsPart vk (some (-1)))
 (h:Q ((n:Int)-1,-1,n) s):Es (EJ prog w) A (IS (.ref sl) (pure (n:Int))) Q E s:=by
 obtain⟨o1,hos,_,hds⟩:=hs;unfold IS Builtin.Slice.sliceFields;refine D1 (D1 (HZ hos hds (x:=.none) rfl (D1 (HZ hos hds (x:=.none) rfl (D1 (HZ hos hds (x:=vk) rfl (D5 ?_)))))));refine D1 (HT.slicePart_ pk ?_);show Es _ _ (if((-1:Int)==0)=true then _ else _) _ _ s;rw[if_neg (by decide)];refine D1 (HT.slicePart_ .none (D1 (HT.slicePart_ .none (D1 (D5 ?_)))));show Es _ _ (pure ((n:Int)-1,(-1:Int),Hi ((n:Int)-1) (-1) (-1))) _ _ s;rw[kN];exact D5 h
theorem pi(xs:Array D4):((ET xs.size).filterMap fun(k:Nat)=>xs[((xs.size:Int)-1+(k:Int) * -1).toNat]?).toArray=xs.toList.reverse.toArray:=by
 have e:(fun(k:Nat)=>xs[((xs.size:Int)-1+(k:Int) * -1).toNat]?)=fun k=>xs[xs.size-1-k]?:=by
  funext k;have:((xs.size:Int)-1+(k:Int) * -1).toNat=xs.size-1-k:=by omega
  rw[this]
 rw[e];have e2:(ET xs.size).filterMap (fun k=>xs[xs.size-1-k]?)=((ET xs.size).map fun k=>xs.size-1-k).filterMap (xs[·]?):=by rw[I0];rfl
 rw[e2,W.krv_range,List.filterMap_reverse,W.krv_all]
theorem get_rev{t sl:Addr}{items:Array D4}{vk:D4}(ht:IsTup s.heap t items)(hs:s.heap.IsSliceOf sl .none .none vk)(pk:IsPart vk (some (-1)))
 (h:Q (.ref s.heap.objs.size) {s with heap:=s.heap.push {cls:=.type "tuple", data:=.seq items.toList.reverse.toArray}})
 (hsz:items.size<=sizeLine):Es (EJ prog w) A (KJ (.ref t) (.ref sl)) Q E s:=by
 have hz:sizeOk (.seq items.toList.reverse.toArray):=by
  show items.toList.reverse.toArray.size<=sizeLine;rw[Ej,KO,D8];exact hsz
 have ty:s.TypeIs (.ref sl) "slice" := let ⟨o,h1,h2,_⟩:=hs;⟨o,h1,h2⟩
 have key:Es (EJ prog w) A (call (.builtin "tuple.__getitem__") [.ref t,.ref sl]) Q E s:=by
  refine FC FZ ht.typeIs entry_tuple_getitem ?_ (args_tuple_getitem _ _);show Es _ _ (IT (.ref t) >>= _) _ _ s;refine D1 (tupleItemsOf_ ht (D1 (wpAny_typeOf ty ?_)));rw[if_pos (by decide)];refine D1 (jr hs pk ?_);show Es _ _ (if((items.size:Int)-1==0&&(-1:Int)==1&&items.size==items.size)=true then _ else _) _ _ s;rw[if_neg (by simp),pi]
  first
   | exact D1 (m:=GR _) (EN (D5 ⟨_,rfl,h⟩) hz)
   | exact D1 (m:=GR _) (EN (D1 (D5 (D5 ⟨_,rfl,h⟩))) hz)
   | exact D1 (D1 (m:=GR _) (EN (D5 (D5 ⟨_,rfl,h⟩)) hz))
   | exact D1 (D1 (m:=GR _) (EN (D5 ⟨_,rfl,h⟩) hz))
 unfold KJ;try with_reducible refine Fg ?_
 first|exact D1 (D5 (D1 (wpAny_sequenceKey ht.typeIs (by decide) (D1 (FR (name:=Ft "__getitem__") ht.typeIs FZ (BY key fun v s' q=>D5 q))))))|exact D1 (wpAny_sequenceKey ht.typeIs (by decide) (D1 (FR (name:=Ft "__getitem__") ht.typeIs FZ (BY key fun v s' q=>D5 q))))
end
end L2.TO
namespace L2
section
variable{X:Cx}{a b e:Expr}{ta:TA}{te:TE}{p p2 q pos pos2:Pos}
noncomputable def yD(K:W.Frag)(te:TE):TE:=fun σ H Q=>te σ H fun x H1=>∃a xs,x = .ref a/\Dm K H1 a xs/\∀l,H1 l=none->Q (.ref l) (upd H1 l (.tup xs.reverse))
theorem tG{p3 p4:Pos}(he:PE X e te):PE X (.Subscript e (.Slice none none (some (.UnaryOp .USub (.Constant (.int 1) j p3) p4)) p2) pos) (yD X.K te):=by
 intro pins s σ H Q I h;refine Lk (BY (he pins s σ H _ I h) fun v s1 ⟨x,H1,I1,r1,q1⟩=>?_);obtain⟨a,xs,rfl,hq,q⟩:=q1;cases r1;refine wpAny_Slice ?_;rw[K9];refine D5 (D5 ?_);refine BY (mL (X:=X) (we qx ar) pins s1 σ H1 (fun o H=>o=some (-1)/\H=H1) I1 ⟨1,rfl,-1,rfl,rfl,rfl⟩) fun vk s3 ⟨o,H3,I3,pk,eo,eH⟩=>?_;subst eo eH;have I4:Inv X pins σ H3 {s3 with heap:=s3.heap.push {cls:=.type "slice", data:=.fields #[.none,.none,vk]}}:=I3.kept (t':=s3.toks) fun b ob q=>D3 _ q;obtain⟨its,rv,p,hz⟩:=I4.tuple hq;have hl:=rv.length;refine tail_any (ops:=[.ref a,.ref s3.heap.objs.size]) p.typeIs FZ.lookup ?_ (by with_unfolding_all rfl);refine TO.get_rev p (Heap.IsSliceOf.new ..) pk ?_ (by rw[Ej]<;>omega);refine⟨.ref _,_,I4.laid (t':=s3.toks) (o:=.tup xs.reverse) (fun b ob q=>D3 _ q) (Ef _) ?_,rfl,q _ (I4.hok.fresh (Ef _))⟩;exact⟨by rw[KO];exact hz,its.reverse,rv.reverse,oJ.new _ _⟩
end
end L2
namespace L2.VL
section
variable{X:Cx}{rl:Option Addr}{a b c e:Expr}{es:List Expr}{fa fb fc:TV}{fs:Dg}{pos pos2 p q p2:Pos}
noncomputable def AT(fs:Dg):TV:=fun ρ Q=>fs ρ fun ws=>∃j:Int,ws=[.d (.int j)]/\(-(2^62)<=j/\j<2^62)/\j.toNat<=2^24/\Q (.d (.tuple (aV 0 j.toNat)))
noncomputable def rX(fa:TV):TV:=fun ρ Q=>fa ρ fun w=>∃xs,w = .d (.tuple xs)/\Q (.d (.tuple xs.reverse))
theorem u9{p3 p4:Pos}(ha:PV X rl e fa):PV X rl (.Subscript e (.Slice none none (some (.UnaryOp .USub (.Constant (.int 1) j p3) p4)) p2) pos) (rX fa):=by
 obtain⟨t,p1,k⟩:=ha;refine⟨_,tG p1,fun R Qd Q q h=>k R _ _ q fun v w F1 H1 g1 r1 n1 ⟨xs,ew,q1⟩=>?_⟩;subst ew
 cases(show Rep X.K F1 v (.tuple xs)from r1)with
 | @tup a vs _ sq rs =>
   refine⟨a,vs,rfl,cX g1.sub sq,fun l hl=>?_⟩;have g:=Grow.data (a:=l) (o:=.tup vs.reverse) g1.sub g1.reel hl;exact h _ (.d _) _ _ (g1.trans g) (.tup (.inl (.inl ak)) (rs.rev.mono g.fs)) trivial q1
end
end L2.VL
namespace L2.TW
section
variable{prog:Ei}{w:EK}{A:EH}{E:D4->D6->Prop}{s:D6}
end
end L2.TW
namespace L2
section
variable{X:Cx}
end
end L2
namespace L2.VL
section
variable{X:Cx}{rl:Option Addr}{a b c e:Expr}{es:List Expr}{fa fb fc:TV}{fs:Dg}{pos p p2:Pos}
noncomputable def Ak(fa:TV)(fl fh:Di):TV:=fun ρ Q=>fa ρ fun w=>fl ρ fun l=>fh ρ fun h=>∃xs,w = .d (.tuple xs)/\Q (.d (.tuple (cutD xs l h)))
end
end L2.VL
namespace L2
abbrev AX(D:List (Str×Int)):List (D2×D2):=(D.map fun q=>(q.1,Et q.2)).map fun q=>(D2.str q.1,q.2)
section
variable{X:Cx}{e:Expr}{ty:TE}{px apos cpos:Pos}
end
end L2
namespace L2.VL
section
variable{X:Cx}{rl:Option Addr}{a b c e:Expr}{es:List Expr}{fa fb fc:TV}{fs:Dg}{pos p p2 px apos cpos:Pos}
noncomputable def vB(D:List (Str×Int))(k:Str):D2:=(PySem.Spec.lookup (.str k) (AX D)).getD .none
noncomputable def ve(D:List (Str×Int))(fk:TV):TV:=fun ρ Q=>fk ρ fun w=>∃k,w = .d (.str k)/\Q (.d (vB D k))
end
end L2.VL
set_option exponentiation.threshold 10000
namespace L2.VL
noncomputable def qO(a b:Int):D2:=.tuple [.int (a.fdiv (EM a b)),.int (b.fdiv (EM a b))]
theorem gA{a:Int}(hb:0<b)(z:b.natAbs<2^8000)(i:Int):cu i (EM a b:Int):=by
 have h1:=ua (a:=a) (b:=b) (by omega);have h2:=wQ (a:=a) (b:=b) (by omega);exact⟨by omega,I_ (by omega) (D9 z (Ez (by decide) (by decide)))⟩
noncomputable def xH(bs:List Int):Prop:=bs.length=4/\(∀b∈bs,2<=b/\b<=16)/\bs.Pairwise fun x y=>EM x y=1
instance (bs:List Int):Decidable (xH bs):=by unfold xH;infer_instance
noncomputable def pr(a b:Int):D2:=.tuple [.int a,.int b]
theorem GlK.pair{K:W.Frag}{a:Int}{p:Addr}{sl:Array (Option D4)}{t u:Tok}(h1:W.nsIn K ED x=some (some (.ref p)))
 (h2:K.lookup p=some ⟨.type "tuple", none,.seq #[.int a t,.int b u] n,sl⟩):GlK K x (pr a b):=by
 refine⟨.ref p,.ref p,h1,rfl,fun F=>.tup (vs:=[.int a,.int b]) (.inr ⟨_,_,n,h2,rfl,rfl,(by show 2<=sizeLine;decide),.cons ⟨t,rfl⟩ (.cons ⟨u,rfl⟩ .nil),rfl⟩) (.cons (.int a) (.cons (.int b) .nil))⟩
end L2.VL
set_option exponentiation.threshold 10000
namespace L2.VL
noncomputable def stepT(b:Int)(p:List Int)(t:Int)(a:Nat):Int:=t*b+p.getD a 0
noncomputable def BS:D2->Int
 | .int i=>i
 | _=>0
section
variable{P:Ei}{w:EK}{K:W.Frag}{mg:Str->Option D4}{base:Heap}{rl:Option Addr}{x:Str}{st:Stmt}{N ps:List Str}{k:Nat}{Pd:List W->(List D2->Prop)->Prop}{t:Dh}
end
section
variable{X:Cx}{rl:Option Addr}{a b c e:Expr}{es:List Expr}{fa fb fc:TV}{fs:Dg}{pos p p2 px apos cpos:Pos}
end
end L2.VL
namespace L2.IX
section
variable{prog:Ei}{w:EK}{A:EH}{E:D4->D6->Prop}{s:D6}
end
end L2.IX
namespace L2
section
variable{X:Cx}
end
end L2
namespace L2.VL
section
variable{X:Cx}{rl:Option Addr}{a b c e:Expr}{es:List Expr}{fa fb fc:TV}{fs:Dg}{pos p p2 px apos cpos:Pos}
noncomputable def ip:D2->Bool
 | .none=>true
 | _=>false
noncomputable def AD(neg:Bool):W->W->(W->Prop)->Prop:=fun x y Q=>∃d,x.dat=some d/\y = .d .none/\Q (.d (.bool (if neg then !ip d else ip d)))
noncomputable def wX:W->W->(W->Prop)->Prop:=fun x y Q=>∃xs k,x.dat=some (.list xs)/\y = .d (.int k) /\ -(2^63)<=k/\k<2^63/\xs.length*k.toNat<=sizeLine/\Q (.ml (E9 k.toNat xs).flatten)
noncomputable def vg(i:Nat):Dh:=fun D ρ=>∃xs,ρ[i]?=some (some (.ml xs))/\D.rt (.ml xs)
noncomputable def vt(i:Nat)(fa:TV):Dh:=fun D ρ=>∃xs,ρ[i]?=some (some (.ml xs))/\fa ρ fun w=>∃ys,w.isPk=false/\w.dat=some (.list ys)/\xs.length+ys.length<=sizeLine/\D.nx (ρ.set i (some (.ml (xs++ys))))
end
end L2.VL
namespace L2.ZP
section
variable{prog:Ei}{w:EK}{A:EH}{E:D4->D6->Prop}{s:D6}{it a:Addr}{k:Nat}{xs:Array D4}{v:D4}
end
section
variable{prog:Ei}{w:EK}{A:EH}{E:D4->D6->Prop}{s:D6}{it a:Addr}{k:Nat}{xs:Array D4}{v:D4}
end
section
variable{prog:Ei}{w:EK}{A:EH}{E:D4->D6->Prop}{s:D6}{z ti to i1 i2 a1 a2:Addr}{k1 k2:Nat}{xs ys:Array D4}{x y p q:D4}
end
noncomputable def CI(b:Bool):String:=bif b then "tuple_iterator" else "list_iterator"
section
variable{prog:Ei}{w:EK}{A:EH}{E:D4->D6->Prop}{s:D6}{b b1 b2:Bool}{a a1 a2:Addr}{xs ys:Array D4}
abbrev y1(h:Heap)(b1:Bool)(a1:Addr):Heap:=h.push {cls:=.type (CI b1),data:=.fields #[.ref a1,.int 0 0]}
abbrev y2(h:Heap)(b1 b2:Bool)(a1 a2:Addr):Heap:=(y1 h b1 a1).push {cls:=.type (CI b2),data:=.fields #[.ref a2,.int 0 0]}
abbrev y3(h:Heap)(b1 b2:Bool)(a1 a2:Addr):Heap:=(y2 h b1 b2 a1 a2).push {cls:=.type "tuple", data:=.seq #[.ref h.objs.size,.ref (y1 h b1 a1).objs.size]}
abbrev y4(h:Heap)(b1 b2:Bool)(a1 a2:Addr):Heap:=(y3 h b1 b2 a1 a2).push {cls:=.type "tuple", data:=.seq #[.none,.none]}
abbrev y5(h:Heap)(b1 b2:Bool)(a1 a2:Addr):Heap:=(y4 h b1 b2 a1 a2).push {cls:=.type "zip", data:=.fields #[.none,.bool false,.bool false,.ref (y2 h b1 b2 a1 a2).objs.size,.ref (y3 h b1 b2 a1 a2).objs.size]}
end
end L2.ZP
namespace L2
open PySem PySem.Spec PyProof.Rows L2.ZP
open PySem PySem.Spec PyProof.Rows L2.ZP
section
variable{X:Cx}{e1 e2:Expr}{ta:TA}{elts:List Expr}{kt:Nat}{pt p pos:Pos}
end
end L2
namespace L2.VL
section
variable{X:Cx}{rl:Option Addr}{a b:Expr}{elts:List Expr}{kt:Nat}{pt p pos:Pos}{fs:Dg}
noncomputable def xK(xs ys:List D2):List D2:=List.zipWith (fun x y=>.tuple [x,y]) xs ys
noncomputable def dH:D2->Bool
 | .tuple _=>true
 | _=>false
noncomputable def CQ(b1 b2:Bool)(fs:Dg):En->(List D2->Prop)->Prop:=fun ρ Q=>fs ρ fun ws=>∃dx dy xs ys,ws=[.d dx,.d dy]/\fL dx=some xs/\fL dy=some ys/\dH dx=b1/\dH dy=b2/\Q (xK xs ys)
end
theorem nr{α:Sort u}{a b:α}(h:a=b):a=b:=h
abbrev Mo(α:Type):=(α->Prop)->Prop
noncomputable def ret{α:Type}(a:α):Mo α:=fun Q=>Q a
noncomputable def C5{α β:Type}(m:Mo α)(f:α->Mo β):Mo β:=fun Q=>m fun a=>f a Q
noncomputable def CU{α:Type}(P:Prop)(m:Mo α):Mo α:=fun Q=>P/\m Q
noncomputable def stk{α:Type}:Mo α:=fun _=>False
noncomputable def anyM{α:Type}(P:α->Prop):Mo α:=fun Q=>∀a,P a->Q a
noncomputable def aq{α β:Type}(o:Option α)(f:α->Mo β):Mo β:=match o with
 | some a=>f a
 | none=>stk
section
variable{α β γ:Type}
theorem bnd_ret(a:α)(f:α->Mo β):C5 (ret a) f=f a:=nr rfl
theorem bnd_bnd(m:Mo α)(f:α->Mo β)(g:β->Mo γ):C5 (C5 m f) g=C5 m fun a=>C5 (f a) g:=nr rfl
theorem bnd_grd(P:Prop)(m:Mo α)(f:α->Mo β):C5 (CU P m) f=CU P (C5 m f):=nr rfl
theorem bnd_stk(f:α->Mo β):C5 stk f=stk:=nr rfl
theorem bnd_ite(c:Prop)[Decidable c](a b:Mo α)(f:α->Mo β):C5 (if c then a else b) f=if c then C5 a f else C5 b f:=by split<;>rfl
theorem bnd_opt(o:Option α)(k:α->Mo β)(f:β->Mo γ):C5 (aq o k) f=aq o fun a=>C5 (k a) f:=by cases o<;>rfl
theorem opt_some(a:α)(k:α->Mo β):aq (some a) k=k a:=nr rfl
theorem opt_none(k:α->Mo β):aq none k=stk:=nr rfl
theorem aj{P:Prop}(h:P)(m:Mo α):CU P m=m:=by funext Q;exact propext ⟨fun z=>z.2,fun z=>⟨h,z⟩⟩
theorem grd_T(m:Mo α):CU True m=m:=aj trivial m
theorem dS(c:Prop)[Decidable c](a b:Mo α)(Q:α->Prop):(if c then a else b) Q=if c then a Q else b Q:=by split<;>rfl
theorem af{m n:Mo α}(h:∀Q,m Q↔n Q):m=n:=funext fun Q=>propext (h Q)
end
noncomputable def asI:W->Option Int
 | .d (.int i)=>some i
 | _=>none
noncomputable def asB:W->Option Bool
 | .d (.bool b)=>some b
 | _=>none
noncomputable def asS:W->Option Str
 | .d (.str b)=>some b
 | _=>none
noncomputable def asD:W->Option D2
 | .d x=>some x
 | _=>none
noncomputable def lstD:D2->Option (List D2)
 | .list xs=>some xs
 | _=>none
noncomputable def tupD:D2->Option (List D2)
 | .tuple xs=>some xs
 | _=>none
noncomputable def Db(w:W):Option (List D2):=w.dat.bind lstD
noncomputable def C9(w:W):Option (List D2):=(asD w).bind tupD
noncomputable def Da(w:W):Option (List D2):=w.dat.bind fL
noncomputable def BX:W->Option Int
 | .d (.int i)=>some i
 | .d (.bool b)=>some (if b then 1 else 0)
 | _=>none
noncomputable def isiT:W->Option String
 | .vv (.ty T)=>some T
 | _=>none
noncomputable def rb:List D2->Option (List Bool)
 | []=>some []
 | .bool b::r=>(rb r).map (b :: ·)
 | _=>none
noncomputable def dY:List D2->Option (List Int)
 | []=>some []
 | .int b::r=>(dY r).map (b :: ·)
 | _=>none
theorem blsD_map:∀bs:List Bool,rb (bs.map .bool)=some bs
 | []=>rfl
 | b::bs=>by show(rb (bs.map .bool)).map (b :: ·)=_;rw[blsD_map bs];rfl
theorem jm:∀{xs:List D2}{bs:List Bool},rb xs=some bs->xs=bs.map .bool
 | [],bs,h=>by cases h;rfl
 | .bool b::r,bs,h=>by
   have h:(rb r).map (b :: ·)=some bs:=h
   cases q:rb r with
   | none=>rw[q]at h;cases h
   | some cs=>rw[q]at h;cases h;rw[jm q];rfl
 | .none::_,_,h=>by cases h
 | .int _::_,_,h=>by cases h
 | .str _::_,_,h=>by cases h
 | .list _::_,_,h=>by cases h
 | .tuple _::_,_,h=>by cases h
 | .dict _::_,_,h=>by cases h
theorem intsD_map:∀bs:List Int,dY (bs.map .int)=some bs
 | []=>rfl
 | b::bs=>by show(dY (bs.map .int)).map (b :: ·)=_;rw[intsD_map bs];rfl
theorem cF:∀{xs:List D2}{bs:List Int},dY xs=some bs->xs=bs.map .int
 | [],bs,h=>by cases h;rfl
 | .int b::r,bs,h=>by
   have h:(dY r).map (b :: ·)=some bs:=h
   cases q:dY r with
   | none=>rw[q]at h;cases h
   | some cs=>rw[q]at h;cases h;rw[cF q];rfl
 | .none::_,_,h=>by cases h
 | .bool _::_,_,h=>by cases h
 | .str _::_,_,h=>by cases h
 | .list _::_,_,h=>by cases h
 | .tuple _::_,_,h=>by cases h
 | .dict _::_,_,h=>by cases h
theorem asI_d(i:Int):asI (.d (.int i))=some i:=rfl
theorem asB_d(i:Bool):asB (.d (.bool i))=some i:=rfl
theorem asS_d(i:Str):asS (.d (.str i))=some i:=rfl
theorem asD_d(i:D2):asD (.d i)=some i:=rfl
theorem asT_d(x:D2):C9 (.d x)=tupD x:=rfl
theorem asL_d(x:D2):Db (.d x)=lstD x:=rfl
theorem asL_ml(x:List D2):Db (.ml x)=some x:=rfl
theorem asL_pk(x:List D2):Db (.pk x)=some x:=rfl
theorem asQ_d(x:D2):Da (.d x)=fL x:=rfl
theorem asQ_ml(x:List D2):Da (.ml x)=some x:=rfl
theorem asQ_pk(x:List D2):Da (.pk x)=some x:=rfl
theorem lstD_l(x:List D2):lstD (.list x)=some x:=rfl
theorem tupD_t(x:List D2):tupD (.tuple x)=some x:=rfl
theorem toI_i(i:Int):BX (.d (.int i))=some i:=rfl
theorem toI_b(i:Bool):BX (.d (.bool i))=some (if i then 1 else 0):=rfl
theorem isiT_t(T:String):isiT (.vv (.ty T))=some T:=rfl
theorem bH{w:W}{i:Int}:asI w=some i↔w = .d (.int i):=by
 constructor
 · intro h;unfold asI at h;split at h<;>simp_all
 · rintro rfl;rfl
theorem fu{w:W}{i:Bool}:asB w=some i↔w = .d (.bool i):=by
 constructor
 · intro h;unfold asB at h;split at h<;>simp_all
 · rintro rfl;rfl
theorem rg{w:W}{i:Str}:asS w=some i↔w = .d (.str i):=by
 constructor
 · intro h;unfold asS at h;split at h<;>simp_all
 · rintro rfl;rfl
theorem du{w:W}{i:D2}:asD w=some i↔w = .d i:=by
 constructor
 · intro h;unfold asD at h;split at h<;>simp_all
 · rintro rfl;rfl
theorem t6{w:W}{i:String}:isiT w=some i↔w = .vv (.ty i):=by
 constructor
 · intro h;unfold isiT at h;split at h<;>simp_all
 · rintro rfl;rfl
theorem tR{w:D2}{i:List D2}:lstD w=some i↔w = .list i:=by
 constructor
 · intro h;unfold lstD at h;split at h<;>simp_all
 · rintro rfl;rfl
theorem sd{w:D2}{i:List D2}:tupD w=some i↔w = .tuple i:=by
 constructor
 · intro h;unfold tupD at h;split at h<;>simp_all
 · rintro rfl;rfl
theorem kj{w:W}{i:List D2}:C9 w=some i↔w = .d (.tuple i):=by
 constructor
 · intro h;unfold C9 at h
   cases q:asD w with
   | none=>rw[q]at h;cases h
   | some x=>rw[q]at h;rw[du.mp q,sd.mp h]
 · rintro rfl;rfl
theorem fV{w:W}{i:List D2}:Db w=some i↔w.dat=some (.list i):=by
 unfold Db;constructor
 · intro h
   cases q:w.dat with
   | none=>rw[q]at h;cases h
   | some x=>rw[q]at h;rw[tR.mp h]
 · intro h;rw[h];rfl
theorem ag{β:Type}{o:Option α}{k:α->Mo β}{Q:β->Prop}:aq o k Q↔∃a,o=some a/\k a Q:=by
 cases o with
 | none=>exact⟨fun z=>z.elim,fun⟨_,z,_⟩=>by cases z⟩
 | some a=>exact⟨fun z=>⟨a,rfl,z⟩,fun⟨_,e,z⟩=>by cases e;exact z⟩
section
variable{fa fb fc:TV}{fs:Dg}{f g:TB}{ρ:En}{t u:Dh}
theorem m_vC(x:D2):vC x ρ=ret (.d x):=nr rfl
theorem bq(i:Nat):fy i ρ=aq ((ρ[i]?).join) fun w=>ret w.peek:=by
 refine af fun Q=>?_;rw[ag];constructor
 · rintro⟨w,e,q⟩;exact⟨w,by rw[e];rfl,q⟩
 · rintro⟨w,e,q⟩;refine⟨w,?_,q⟩
   cases h:ρ[i]? with
   | none=>rw[h]at e;cases e
   | some o=>rw[h]at e;cases o with
     | none=>cases e
     | some x=>cases e;rfl
theorem m_vOp(h:W->W->(W->Prop)->Prop):BO h fa fb ρ=C5 (fa ρ) fun x=>C5 (fb ρ) fun y=>h x y:=nr rfl
theorem m_gI(C:Int->Int->Prop)(h:Int->Int->D2)(x y:W):gI C h x y=aq (asI x) fun i=>aq (asI y) fun j=>CU (C i j) (ret (.d (h i j))):=by
 refine af fun Q=>?_;simp only[ag,bH,gI,CU,ret];exact⟨fun⟨i,j,a,b,c,q⟩=>⟨i,a,j,b,c,q⟩,fun⟨i,a,j,b,c,q⟩=>⟨i,j,a,b,c,q⟩⟩
theorem m_gI0(h:Int->Int->D2)(x y:W):C1 h x y=aq (asI x) fun i=>aq (asI y) fun j=>ret (.d (h i j)):=by
 refine af fun Q=>?_;simp only[ag,bH,C1,ret];exact⟨fun⟨i,j,a,b,q⟩=>⟨i,a,j,b,q⟩,fun⟨i,a,j,b,q⟩=>⟨i,j,a,b,q⟩⟩
theorem m_vNeg:yr fa ρ=C5 (fa ρ) fun x=>aq (asI x) fun i=>ret (.d (.int (-i))):=by
 refine af fun Q=>?_;simp only[yr,C5,ag,bH,ret]
theorem m_vTest{f:TV}:lK f ρ=C5 (f ρ) fun w=>aq (asB w) ret:=by
 refine af fun Q=>?_;simp only[lK,C5,ag,fu,ret]
theorem m_gEqD(neg:Bool)(x y:W):zi neg x y=aq x.dat fun dx=>aq y.dat fun dy=>CU (E4 dx=true) (CU (E4 dy=true) (ret (.d (.bool (if neg then !EU dx dy else EU dx dy))))):=by
 refine af fun Q=>?_;simp only[ag,zi,CU,ret];exact⟨fun⟨i,j,a,b,c,d,q⟩=>⟨i,a,j,b,c,d,q⟩,fun⟨i,a,j,b,c,d,q⟩=>⟨i,j,a,b,c,d,q⟩⟩
theorem xC{w:W}{i:List D2}:Da w=some i↔(w.dat=some (.list i)\/w.dat=some (.tuple i)):=by
 unfold Da;constructor
 · intro h
   cases q:w.dat with
   | none=>rw[q]at h;cases h
   | some x=>rw[q]at h;exact fL.of (o:=some x) rfl h
 · rintro(h|h)<;>rw[h]<;>rfl
theorem m_gInD(neg:Bool)(x y:W):zh neg x y=aq x.dat fun dx=>aq (Da y) fun ys=>CU (E4 dx=true) (CU (Gu ys=true) (ret (.d (.bool (if neg then !(ys.any fun z=>EU z dx)else ys.any fun z=>EU z dx))))):=by
 refine af fun Q=>?_;simp only[ag,xC,zh,CU,ret];exact⟨fun⟨i,j,a,b,c,d,q⟩=>⟨i,a,j,b,c,d,q⟩,fun⟨i,a,j,b,c,d,q⟩=>⟨i,j,a,b,c,d,q⟩⟩
theorem m_vAnd:Ao f g ρ=C5 (f ρ) fun b=>if b=true then g ρ else ret false:=by
 refine af fun Q=>?_;simp only[Ao,C5,dS,ret]
theorem m_vOr:BN f g ρ=C5 (f ρ) fun b=>if b=true then ret true else g ρ:=by
 refine af fun Q=>?_;simp only[BN,C5,dS,ret]
theorem m_vNot:An f ρ=C5 (f ρ) fun b=>ret (!b):=nr rfl
theorem m_vAndV:r_ fa fb ρ=C5 (fa ρ) fun w=>aq (asB w) fun b=>if b=true then fb ρ else ret (.d (.bool false)):=by
 refine af fun Q=>?_;simp only[r_,C5,ag,fu,dS,ret]
theorem m_vOrV:yq fa fb ρ=C5 (fa ρ) fun w=>aq (asB w) fun b=>if b=true then ret (.d (.bool true))else fb ρ:=by
 refine af fun Q=>?_;simp only[yq,C5,ag,fu,dS,ret]
theorem m_vNotV:rY fa ρ=C5 (fa ρ) fun w=>aq (asB w) fun b=>ret (.d (.bool (!b))):=by
 refine af fun Q=>?_;simp only[rY,C5,ag,fu,ret]
theorem m_vIf{t:TB}:BQ t fa fb ρ=C5 (t ρ) fun c=>if c=true then fa ρ else fb ρ:=by
 refine af fun Q=>?_;simp only[BQ,C5,dS]
theorem m_vTup:ym fs ρ=C5 (fs ρ) fun ws=>aq (eB ws) fun ds=>CU (ds.length<=sizeLine) (ret (.d (.tuple ds))):=by
 refine af fun Q=>?_;simp only[ym,C5,ag,CU,ret]
theorem m_vLst:yt fs ρ=C5 (fs ρ) fun ws=>aq (eB ws) fun ds=>CU (ds.length<=sizeLine) (ret (.ml ds)):=by
 refine af fun Q=>?_;simp only[yt,C5,ag,CU,ret]
theorem m_gIx(x y:W):CZ x y=aq x.dat fun dx=>aq (asI y) fun i=>aq (itemAt dx i) fun z=>ret (.d z):=by
 refine af fun Q=>?_;simp only[CZ,ag,bH,ret];exact⟨fun⟨i,j,z,a,b,c,q⟩=>⟨i,a,j,b,z,c,q⟩,fun⟨i,a,j,b,z,c,q⟩=>⟨i,j,z,a,b,c,q⟩⟩
theorem m_vCall(h:List W->(W->Prop)->Prop):cI h fs ρ=C5 (fs ρ) h:=nr rfl
theorem m_gAbs(w:W):xY [w]=aq (asI w) fun i=>ret (.d (.int (if i<0 then -i else i))):=by
 refine af fun Q=>?_;simp only[xY,ag,bH,ret,Eu,and_true]
theorem m_gLen(w:W):xU [w]=aq w.dat fun d=>aq (tU d) fun n=>ret (.d (.int n)):=by
 refine af fun Q=>?_;simp only[xU,ag,ret,Eu,and_true];exact⟨fun⟨w',d,n,e,a,b,q⟩=>by subst e;exact⟨d,a,n,b,q⟩,fun⟨d,a,n,b,q⟩=>⟨w,d,n,rfl,a,b,q⟩⟩
theorem m_gRepr(w:W):wV [w]=aq w.dat fun d=>CU (Dp d) (ret (.d (.str d.shown))):=by
 refine af fun Q=>?_;simp only[wV,ag,ret,CU,Eu,and_true];exact⟨fun⟨w',d,e,a,b,q⟩=>by subst e;exact⟨d,a,b,q⟩,fun⟨d,a,b,q⟩=>⟨w,d,rfl,a,b,q⟩⟩
theorem m_gIsi(w v:W):xV [w,v]=aq w.dat fun d=>aq (isiT v) fun T=>CU (qB T=true) (ret (.d (.bool (jX d T)))):=by
 refine af fun Q=>?_;simp only[xV,ag,t6,ret,CU,Eu,and_true];exact⟨fun⟨w',d,T,⟨e,e'⟩,a,b,q⟩=>by subst e;exact⟨d,a,T,e',b,q⟩,fun⟨d,a,T,e',b,q⟩=>⟨w,d,T,⟨rfl,e'⟩,a,b,q⟩⟩
theorem m_gStrI(w:W):wS [w]=aq (asI w) fun i=>CU (i.natAbs.log2<1920) (ret (.d (.str (Lb i)))):=by
 refine af fun Q=>?_;simp only[wS,ag,bH,ret,CU,Eu,and_true]
theorem m_gTupO(w:W):pZ [w]=aq (Da w) fun xs=>ret (.d (.tuple xs)):=by
 refine af fun Q=>?_;simp only[pZ,ag,ret,Eu,and_true];constructor
 · rintro⟨w',d,xs,e,a,b,q⟩;subst e;exact⟨xs,by unfold Da;rw[a];exact b,q⟩
 · rintro⟨xs,e,q⟩;unfold Da at e
   cases h:w.dat with
   | none=>rw[h]at e;cases e
   | some d=>rw[h]at e;exact⟨w,d,xs,rfl,h,e,q⟩
theorem m_gLstO(w:W):wZ [w]=aq (Da w) fun xs=>ret (.ml xs):=by
 refine af fun Q=>?_;simp only[wZ,ag,ret,Eu,and_true];constructor
 · rintro⟨w',d,xs,e,a,b,q⟩;subst e;exact⟨xs,by unfold Da;rw[a];exact b,q⟩
 · rintro⟨xs,e,q⟩;unfold Da at e
   cases h:w.dat with
   | none=>rw[h]at e;cases e
   | some d=>rw[h]at e;exact⟨w,d,xs,rfl,h,e,q⟩
theorem m_gIsB(x y:W):AE x y=aq (asB x) fun i=>aq (asB y) fun j=>ret (.d (.bool (i==j))):=by
 refine af fun Q=>?_;simp only[ag,fu,AE,ret];exact⟨fun⟨i,j,a,b,q⟩=>⟨i,a,j,b,q⟩,fun⟨i,a,j,b,q⟩=>⟨i,j,a,b,q⟩⟩
theorem m_gIsN(neg:Bool)(x:W):AD neg x (.d .none)=aq x.dat fun d=>ret (.d (.bool (if neg then !ip d else ip d))):=by
 refine af fun Q=>?_;simp only[ag,AD,ret,true_and]
theorem m_gI2(h:Int->Int->D2)(x y:W):C0 h [x,y]=aq (asI x) fun i=>aq (asI y) fun j=>ret (.d (h i j)):=by
 refine af fun Q=>?_;simp only[ag,bH,C0,ret,Eu,and_true];exact⟨fun⟨i,j,⟨a,b⟩,q⟩=>⟨i,a,j,b,q⟩,fun⟨i,a,j,b,q⟩=>⟨i,j,⟨a,b⟩,q⟩⟩
theorem m_gDivmod(x y:W):nZ [x,y]=aq (asI x) fun i=>aq (asI y) fun j=>CU (0<j) (CU (j<1073741824) (ret (.d (.tuple [.int (i / j),.int (i%j)])))):=by
 refine af fun Q=>?_;simp only[ag,bH,nZ,CU,ret,Eu,and_true];exact⟨fun⟨i,j,⟨a,b⟩,c,d,q⟩=>⟨i,a,j,b,c,d,q⟩,fun⟨i,a,j,b,c,d,q⟩=>⟨i,j,⟨a,b⟩,c,d,q⟩⟩
theorem vA{w:W}{i:Int}:BX w=some i↔(w = .d (.int i)\/∃b:Bool,w = .d (.bool b)/\i=if b then 1 else 0):=by
 constructor
 · intro h;unfold BX at h;split at h
   · cases h;exact .inl rfl
   · cases h;exact .inr ⟨_,rfl,rfl⟩
   · cases h
 · rintro(rfl|⟨b,rfl,rfl⟩)<;>rfl
theorem m_gInt1(w:W):xa [w]=aq (BX w) fun i=>ret (.d (.int i)):=by
 refine af fun Q=>?_;simp only[ag,vA,xa,ret,Eu,and_true];constructor
 · rintro(⟨i,rfl,q⟩|⟨k,rfl,q⟩)
   · exact⟨i,.inl rfl,q⟩
   · exact⟨_,.inr ⟨k,rfl,rfl⟩,q⟩
 · rintro⟨i,rfl|⟨b,rfl,rfl⟩,q⟩
   · exact .inl ⟨i,rfl,q⟩
   · exact .inr ⟨b,rfl,q⟩
theorem m_oNo:Cu ρ=ret none:=nr rfl
theorem m_oIt:Cv fa ρ=C5 (fa ρ) fun w=>aq (asI w) fun i=>ret (some i):=by
 refine af fun Q=>?_;simp only[Cv,C5,ag,bH,ret]
theorem m_vSlL{fl fh:Di}:Aj fa fl fh ρ=C5 (fa ρ) fun w=>C5 (fl ρ) fun l=>C5 (fh ρ) fun h=>aq (Db w) fun xs=>ret (.ml (cutD xs l h)):=by
 refine af fun Q=>?_;simp only[Aj,C5,ag,fV,ret]
theorem m_vSlA{fl fh:Di}:Ak fa fl fh ρ=C5 (fa ρ) fun w=>C5 (fl ρ) fun l=>C5 (fh ρ) fun h=>aq (C9 w) fun xs=>ret (.d (.tuple (cutD xs l h))):=by
 refine af fun Q=>?_;simp only[Ak,C5,ag,kj,ret]
theorem m_gCatD(x y:W):xg x y=aq (Db x) fun xs=>aq (Db y) fun ys=>CU (xs.length+ys.length<=sizeLine) (ret (.ml (xs++ys))):=by
 refine af fun Q=>?_;simp only[xg,ag,fV,CU,ret];exact⟨fun⟨i,j,a,b,c,q⟩=>⟨i,a,j,b,c,q⟩,fun⟨i,a,j,b,c,q⟩=>⟨i,j,a,b,c,q⟩⟩
theorem m_gCatA(x y:W):xh x y=aq (C9 x) fun xs=>aq (C9 y) fun ys=>CU (xs.length+ys.length<=sizeLine) (ret (.d (.tuple (xs++ys)))):=by
 refine af fun Q=>?_;simp only[xh,ag,kj,CU,ret];exact⟨fun⟨i,j,a,b,c,q⟩=>⟨i,a,j,b,c,q⟩,fun⟨i,a,j,b,c,q⟩=>⟨i,j,a,b,c,q⟩⟩
theorem m_vChain(p p':Int->Int->Bool):lO p p' fa fb fc ρ=C5 (fa ρ) fun x=>C5 (fb ρ) fun y=>aq (asI x) fun i=>aq (asI y) fun j=>if p i j=true then C5 (fc ρ) fun z=>aq (asI z) fun k=>ret (.d (.bool (p' j k)))else ret (.d (.bool false)):=by
 show(C5 (fa ρ) fun x=>C5 (fb ρ) fun y=>fun(Q:W->Prop)=>∃i j,x = .d (.int i)/\y = .d (.int j)/\if p i j=true then fc ρ fun z=>∃k,z = .d (.int k)/\Q (.d (.bool (p' j k)))else Q (.d (.bool false)))=_;congr 1;funext x;congr 1;funext y;refine af fun Q=>?_;simp only[C5,ag,bH,ret,dS];exact⟨fun⟨i,j,a,b,q⟩=>⟨i,a,j,b,q⟩,fun⟨i,a,j,b,q⟩=>⟨i,j,a,b,q⟩⟩
theorem m_vLR1:AV fs ρ=C5 (fs ρ) fun ws=>aq (ws.head?.bind asI) fun j=>CU (ws.length=1) (CU (-(2^62)<=j/\j<2^62) (CU (j.toNat<=2^24) (ret (.ml (aV 0 j.toNat))))):=by
 show(C5 (fs ρ) fun ws=>fun(Q:W->Prop)=>∃j:Int,ws=[.d (.int j)]/\(-(2^62)<=j/\j<2^62)/\j.toNat<=2^24/\Q (.ml (aV 0 j.toNat)))=_;congr 1;funext ws;refine af fun Q=>?_;simp only[ag,CU,ret];constructor
 · rintro⟨j,rfl,a,b,q⟩;exact⟨j,rfl,rfl,a,b,q⟩
 · rintro⟨j,e,l,a,b,q⟩
   match ws,l with
   | [w],_=>rw[show w = .d (.int j)from bH.mp e];exact⟨j,rfl,a,b,q⟩
theorem m_vTR1:AT fs ρ=C5 (fs ρ) fun ws=>aq (ws.head?.bind asI) fun j=>CU (ws.length=1) (CU (-(2^62)<=j/\j<2^62) (CU (j.toNat<=2^24) (ret (.d (.tuple (aV 0 j.toNat)))))):=by
 show(C5 (fs ρ) fun ws=>fun(Q:W->Prop)=>∃j:Int,ws=[.d (.int j)]/\(-(2^62)<=j/\j<2^62)/\j.toNat<=2^24/\Q (.d (.tuple (aV 0 j.toNat))))=_;congr 1;funext ws;refine af fun Q=>?_;simp only[ag,CU,ret];constructor
 · rintro⟨j,rfl,a,b,q⟩;exact⟨j,rfl,rfl,a,b,q⟩
 · rintro⟨j,e,l,a,b,q⟩
   match ws,l with
   | [w],_=>rw[show w = .d (.int j)from bH.mp e];exact⟨j,rfl,a,b,q⟩
noncomputable def two(ws:List W):Option (Int×Int):=match ws with
 | [a,b]=>(asI a).bind fun i=>(asI b).map fun j=>(i,j)
 | _=>none
theorem two_d(a b:Int):two [.d (.int a),.d (.int b)]=some (a,b):=rfl
theorem qC{ws:List W}{p:Int×Int}:two ws=some p↔ws=[.d (.int p.1),.d (.int p.2)]:=by
 constructor
 · intro h
   match ws with
   | []=>cases h
   | [_]=>cases h
   | _::_::_::_=>cases h
   | [a,b] =>
     have h:((asI a).bind fun i=>(asI b).map fun j=>(i,j))=some p:=h
     cases ha:asI a with
     | none=>rw[ha]at h;cases h
     | some i =>
       cases hb:asI b with
       | none=>rw[ha,hb]at h;cases h
       | some j=>rw[ha,hb]at h;cases h;rw[bH.mp ha,bH.mp hb]
 · rintro rfl;rfl
theorem m_vLR2:AU fs ρ=C5 (fs ρ) fun ws=>aq (two ws) fun p=>CU (-(2^62)<=p.1/\p.1<2^62 /\ -(2^62)<=p.2/\p.2<2^62) (CU ((p.2-p.1).toNat<=2^24) (ret (.ml (aV p.1 (p.2-p.1).toNat)))):=by
 show(C5 (fs ρ) fun ws=>fun(Q:W->Prop)=>∃i j:Int,ws=[.d (.int i),.d (.int j)]/\(-(2^62)<=i/\i<2^62 /\ -(2^62)<=j/\j<2^62)/\(j-i).toNat<=2^24/\Q (.ml (aV i (j-i).toNat)))=_;congr 1;funext ws;refine af fun Q=>?_;simp only[ag,qC,CU,ret];exact⟨fun⟨i,j,a,b,c,q⟩=>⟨(i,j),a,b,c,q⟩,fun⟨p,a,b,c,q⟩=>⟨p.1,p.2,a,b,c,q⟩⟩
theorem m_iL:iL fa ρ=C5 (fa ρ) fun w=>aq ((asD w.fz).bind lstD) ret:=by
 show(C5 (fa ρ) fun w=>fun(Q:List D2->Prop)=>∃xs,w.fz = .d (.list xs)/\Q xs)=_;congr 1;funext w;refine af fun Q=>?_;simp only[ag,ret];constructor
 · rintro⟨xs,e,q⟩;exact⟨xs,by rw[e];rfl,q⟩
 · rintro⟨xs,e,q⟩
   cases h:asD w.fz with
   | none=>rw[h]at e;cases e
   | some x=>rw[h]at e;rw[du.mp h,tR.mp e];exact⟨xs,rfl,q⟩
theorem m_iT:iT fa ρ=C5 (fa ρ) fun w=>aq ((asD w.fz).bind tupD) ret:=by
 show(C5 (fa ρ) fun w=>fun(Q:List D2->Prop)=>∃xs,w.fz = .d (.tuple xs)/\Q xs)=_;congr 1;funext w;refine af fun Q=>?_;simp only[ag,ret];constructor
 · rintro⟨xs,e,q⟩;exact⟨xs,by rw[e];rfl,q⟩
 · rintro⟨xs,e,q⟩
   cases h:asD w.fz with
   | none=>rw[h]at e;cases e
   | some x=>rw[h]at e;rw[du.mp h,sd.mp e];exact⟨xs,rfl,q⟩
theorem m_iR1:CT fs ρ=C5 (fs ρ) fun ws=>aq (ws.head?.bind asI) fun j=>CU (ws.length=1) (CU (-(2^62)<=j/\j<2^62) (ret (aV 0 j.toNat))):=by
 show(C5 (fs ρ) fun ws=>fun(Q:List D2->Prop)=>∃j:Int,ws=[.d (.int j)]/\(-(2^62)<=j/\j<2^62)/\Q (aV 0 j.toNat))=_;congr 1;funext ws;refine af fun Q=>?_;simp only[ag,CU,ret];constructor
 · rintro⟨j,rfl,a,q⟩;exact⟨j,rfl,rfl,a,q⟩
 · rintro⟨j,e,l,a,q⟩
   match ws,l with
   | [w],_=>rw[show w = .d (.int j)from bH.mp e];exact⟨j,rfl,a,q⟩
theorem m_iR2:CS fs ρ=C5 (fs ρ) fun ws=>aq (two ws) fun p=>CU (-(2^62)<=p.1/\p.1<2^62 /\ -(2^62)<=p.2/\p.2<2^62) (ret (aV p.1 (p.2-p.1).toNat)):=by
 show(C5 (fs ρ) fun ws=>fun(Q:List D2->Prop)=>∃i j:Int,ws=[.d (.int i),.d (.int j)]/\(-(2^62)<=i/\i<2^62 /\ -(2^62)<=j/\j<2^62)/\Q (aV i (j-i).toNat))=_;congr 1;funext ws;refine af fun Q=>?_;simp only[ag,qC,CU,ret];exact⟨fun⟨i,j,a,b,q⟩=>⟨(i,j),a,b,q⟩,fun⟨p,a,b,q⟩=>⟨p.1,p.2,a,b,q⟩⟩
noncomputable def yc(b1 b2:Bool)(ws:List W):Option (List D2):=match ws with
 | [.d x,.d y]=>if dH x=b1/\dH y=b2 then(fL x).bind fun xs=>(fL y).map fun ys=>xK xs ys else none
 | _=>none
theorem m_iZb(b1 b2:Bool):CQ b1 b2 fs ρ=C5 (fs ρ) fun ws=>aq (yc b1 b2 ws) ret:=by
 show(C5 (fs ρ) fun ws=>fun(Q:List D2->Prop)=>∃dx dy xs ys,ws=[.d dx,.d dy]/\fL dx=some xs/\fL dy=some ys/\dH dx=b1/\dH dy=b2/\Q (xK xs ys))=_;congr 1;funext ws;refine af fun Q=>?_;simp only[ag,ret];constructor
 · rintro⟨dx,dy,xs,ys,rfl,a,b,c,d,q⟩;exact⟨_,by show(if dH dx=b1/\dH dy=b2 then(fL dx).bind fun xs=>(fL dy).map fun ys=>xK xs ys else none)=_;rw[if_pos ⟨c,d⟩,a,b];rfl,q⟩
 · rintro⟨zs,e,q⟩;unfold yc at e;split at e
   · rename_i dx dy;split at e
     · rename_i c
       cases ha:fL dx with
       | none=>rw[ha]at e;cases e
       | some xs =>
         cases hb:fL dy with
         | none=>rw[ha,hb]at e;cases e
         | some ys=>rw[ha,hb]at e;cases e;exact⟨dx,dy,xs,ys,rfl,ha,hb,c.1,c.2,q⟩
     · cases e
   · cases e
theorem m_vUse(Pd:List W->(D2->Prop)->Prop):Ah Pd fs ρ=C5 (fs ρ) fun ws=>CU (ws.all cN=true) (C5 (Pd ws) fun d=>ret (.d d)):=nr rfl
theorem m_vUseL(Pd:List W->(List D2->Prop)->Prop):yl Pd fs ρ=C5 (fs ρ) fun ws=>CU (ws.all cN=true) (C5 (Pd ws) fun d=>ret (.ml d)):=nr rfl
theorem m_gAll(h:List Bool->Bool)(w:W):xX h [w]=aq ((Db w).bind rb) fun bs=>ret (.d (.bool (h bs))):=by
 refine af fun Q=>?_;simp only[xX,ag,ret,Eu,and_true];constructor
 · rintro⟨w',bs,rfl,e,q⟩;exact⟨bs,by rw[fV.mpr e];exact blsD_map bs,q⟩
 · rintro⟨bs,e,q⟩
   cases hl:Db w with
   | none=>rw[hl]at e;cases e
   | some xs=>rw[hl]at e;refine⟨w,bs,rfl,?_,q⟩;rw[<- jm e];exact fV.mp hl
theorem m_gRepT(x y:W):wW x y=aq (C9 x) fun xs=>aq (asI y) fun k=>CU (xs≠[]/\1<=k/\k<2^62/\xs.length*k.toNat<=sizeLine) (ret (.d (.tuple (E9 k.toNat xs).flatten))):=by
 refine af fun Q=>?_;simp only[wW,ag,kj,bH,CU,ret];exact⟨fun⟨i,j,a,b,c,d,e,f,q⟩=>⟨i,a,j,b,⟨c,d,e,f⟩,q⟩,fun⟨i,a,j,b,⟨c,d,e,f⟩,q⟩=>⟨i,j,a,b,c,d,e,f,q⟩⟩
theorem m_gRepL(x y:W):wX x y=aq (Db x) fun xs=>aq (asI y) fun k=>CU (-(2^63)<=k/\k<2^63/\xs.length*k.toNat<=sizeLine) (ret (.ml (E9 k.toNat xs).flatten)):=by
 refine af fun Q=>?_;simp only[wX,ag,fV,bH,CU,ret];exact⟨fun⟨i,j,a,b,c,d,e,q⟩=>⟨i,a,j,b,⟨c,d,e⟩,q⟩,fun⟨i,a,j,b,⟨c,d,e⟩,q⟩=>⟨i,j,a,b,c,d,e,q⟩⟩
theorem m_vRevT:rX fa ρ=C5 (fa ρ) fun w=>aq (C9 w) fun xs=>ret (.d (.tuple xs.reverse)):=by
 refine af fun Q=>?_;simp only[rX,C5,ag,kj,ret]
theorem m_vRevL:vf fa ρ=C5 (fa ρ) fun w=>aq (Db w) fun xs=>ret (.ml xs.reverse):=by
 refine af fun Q=>?_;simp only[vf,C5,ag,fV,ret]
theorem m_gEqS(neg:Bool)(x y:W):AG neg x y=aq (asS x) fun i=>aq (asS y) fun j=>ret (.d (.bool (if neg then !decide (i=j)else decide (i=j)))):=by
 refine af fun Q=>?_;simp only[ag,rg,AG,ret];exact⟨fun⟨i,j,a,b,q⟩=>⟨i,a,j,b,q⟩,fun⟨i,a,j,b,q⟩=>⟨i,j,a,b,q⟩⟩
theorem m_vTGet(D:List (Str×Int)):ve D fa ρ=C5 (fa ρ) fun w=>aq (asS w) fun k=>ret (.d (vB D k)):=by
 refine af fun Q=>?_;simp only[ve,C5,ag,rg,ret]
noncomputable def AI(w:W):Option (List Int):=(C9 w).bind dY
theorem m_gSrtT(w:W):wT [w]=aq (AI w) fun ns=>CU (ns.length<64) (C5 (anyM fun ns':List Int=>ns'.Perm ns/\ns'.Pairwise (· <= ·)) fun ns'=>ret (.ml (ns'.map .int))):=by
 refine af fun Q=>?_;simp only[wT,ag,ret,CU,C5,anyM,Eu,and_true];constructor
 · rintro⟨ns,rfl,a,q⟩;exact⟨ns,intsD_map ns,a,fun n' ⟨h1,h2⟩=>q n' h1 h2⟩
 · rintro⟨ns,e,a,q⟩;unfold AI at e
   cases hl:C9 w with
   | none=>rw[hl]at e;cases e
   | some xs=>rw[hl]at e;exact⟨ns,by rw[kj.mp hl,<- cF e],a,fun n' h1 h2=>q n' ⟨h1,h2⟩⟩
end
inductive Fl where
 | nx (ρ:En)|rt (w:W)|bk (ρ:En)|ct (ρ:En)
noncomputable def mS(t:Dh)(ρ:En):Mo Fl:=fun Q=>t ⟨fun ρ=>Q (.nx ρ),fun w=>Q (.rt w),fun ρ=>Q (.bk ρ),fun ρ=>Q (.ct ρ)⟩ ρ
noncomputable def sq(m:Mo Fl)(k:En->Mo Fl):Mo Fl:=C5 m fun fl=>match fl with
 | .nx ρ=>k ρ
 | .rt w=>ret (.rt w)
 | .bk ρ=>ret (.bk ρ)
 | .ct ρ=>ret (.ct ρ)
noncomputable def xq(Q:D2->Prop):Fl->Prop
 | .nx _=>Q .none
 | .rt w=>∃d,w.fz = .d d/\Q d
 | _=>False
section
variable{fa fb fc:TV}{fs:Dg}{f g:TB}{ρ:En}{t u:Dh}{k:En->Mo Fl}
theorem aF{Q:D2->Prop}(h:mS t ρ (xq Q)):t (ko Q) ρ:=h
theorem end_d(Q:D2->Prop)(d:D2):xq Q (.rt (.d d))=Q d:=propext ⟨fun⟨_,e,q⟩=>by cases e;exact q,fun q=>⟨d,rfl,q⟩⟩
theorem end_ml(Q:D2->Prop)(d:List D2):xq Q (.rt (.ml d))=Q (.list d):=propext ⟨fun⟨_,e,q⟩=>by cases e;exact q,fun q=>⟨_,rfl,q⟩⟩
theorem end_nx(Q:D2->Prop)(ρ:En):xq Q (.nx ρ)=Q .none:=nr rfl
theorem sq_nx:sq (ret (.nx ρ)) k=k ρ:=nr rfl
theorem sq_rt(w:W):sq (ret (.rt w)) k=ret (.rt w):=nr rfl
theorem sq_bk:sq (ret (.bk ρ)) k=ret (.bk ρ):=nr rfl
theorem sq_ct:sq (ret (.ct ρ)) k=ret (.ct ρ):=nr rfl
theorem sq_grd(P:Prop)(m:Mo Fl):sq (CU P m) k=CU P (sq m k):=nr rfl
theorem sq_stk:sq stk k=stk:=nr rfl
theorem sq_ite(c:Prop)[Decidable c](a b:Mo Fl):sq (if c then a else b) k=if c then sq a k else sq b k:=by split<;>rfl
theorem vI(o:Option α)(h:α->Mo Fl):sq (aq o h) k=aq o fun a=>sq (h a) k:=by cases o<;>rfl
theorem s_next:mS vh ρ=ret (.nx ρ):=nr rfl
theorem s_seq:mS (yn t u) ρ=sq (mS t ρ) (mS u):=by
 refine af fun Q=>?_;show t ⟨fun ρ=>u ⟨_,_,_,_⟩ ρ,_,_,_⟩ ρ↔_;exact Jg
theorem s_drop:mS (yx fa) ρ=C5 (fa ρ) fun _=>ret (.nx ρ):=nr rfl
theorem s_ret:mS (Al fa) ρ=C5 (fa ρ) fun w=>ret (.rt w):=nr rfl
theorem s_retN:mS yo ρ=ret (.rt (.d .none)):=nr rfl
theorem s_ifS:mS (yu f t u) ρ=C5 (f ρ) fun b=>if b=true then mS t ρ else mS u ρ:=by
 refine af fun Q=>?_;simp only[mS,yu,C5,dS]
theorem s_set(i:Nat):mS (xL i fa) ρ=C5 (fa ρ) fun w=>CU (w.isPk=false) (ret (.nx (ρ.set i (some w)))):=nr rfl
theorem s_never:mS (fun _ _=>False) ρ=stk:=nr rfl
theorem m_hName(i:Nat)(x:D2):wN i x ρ=ret (ρ.set i (some (.d x))):=nr rfl
theorem wB(xs:List D2):zd xs ρ=CU (xs=[]) (ret ρ):=nr rfl
theorem tO{g:Dk}{gs:ln}(xs:List D2):pX g gs xs ρ=aq (match xs with | []=>none|y::r=>some (y,r)) fun p=>C5 (g p.1 ρ) fun ρ'=>gs p.2 ρ':=by
 refine af fun Q=>?_;simp only[ag,pX,C5];constructor
 · rintro⟨y,r,rfl,q⟩;exact⟨(y,r),rfl,q⟩
 · rintro⟨p,e,q⟩
   cases xs with
   | nil=>cases e
   | cons y r=>cases e;exact⟨y,r,rfl,q⟩
theorem m_hCons_c{g:Dk}{gs:ln}(y:D2)(r:List D2):pX g gs (y::r) ρ=C5 (g y ρ) fun ρ'=>gs r ρ':=by rw[tO];rfl
theorem m_hNil_n:zd [] ρ=ret ρ:=by rw[wB,aj rfl]
theorem m_hTup(n:Nat){gs:ln}(x:D2):zc n gs x ρ=aq (tupD x) fun xs=>CU (xs.length=n) (gs xs ρ):=by
 refine af fun Q=>?_;simp only[ag,sd,zc,CU]
theorem s_asg{g:Dk}:mS (yz fa g) ρ=C5 (fa ρ) fun w=>aq (asD w) fun x=>C5 (g x ρ) fun ρ'=>ret (.nx ρ'):=by
 refine af fun Q=>?_;simp only[mS,yz,C5,ag,du,ret]
theorem s_par(i j:Nat):mS (Am i j fs) ρ=C5 (fs ρ) fun ws=>aq (eB ws) fun ds=>aq (match ds with | [x,y]=>some (x,y)|_=>none) fun p=>ret (.nx ((ρ.set i (some (.d p.1))).set j (some (.d p.2)))):=by
 show(C5 (fs ρ) fun ws=>fun(Q:Fl->Prop)=>∃x y,eB ws=some [x,y]/\Q (.nx ((ρ.set i (some (.d x))).set j (some (.d y)))))=_;congr 1;funext ws;refine af fun Q=>?_;simp only[ag,ret];constructor
 · rintro⟨x,y,e,q⟩;exact⟨_,e,(x,y),rfl,q⟩
 · rintro⟨ds,e,p,e2,q⟩;split at e2
   · cases e2;exact⟨_,_,e,q⟩
   · cases e2
theorem s_par3(i j l:Nat):mS (yp i j l fs) ρ=C5 (fs ρ) fun ws=>aq (eB ws) fun ds=>aq (match ds with | [x,y,z]=>some (x,y,z)|_=>none) fun p=>ret (.nx (((ρ.set i (some (.d p.1))).set j (some (.d p.2.1))).set l (some (.d p.2.2)))):=by
 show(C5 (fs ρ) fun ws=>fun(Q:Fl->Prop)=>∃x y z,eB ws=some [x,y,z]/\Q (.nx (((ρ.set i (some (.d x))).set j (some (.d y))).set l (some (.d z)))))=_;congr 1;funext ws;refine af fun Q=>?_;simp only[ag,ret];constructor
 · rintro⟨x,y,z,e,q⟩;exact⟨_,e,(x,y,z),rfl,q⟩
 · rintro⟨ds,e,p,e2,q⟩;split at e2
   · cases e2;exact⟨_,_,_,e,q⟩
   · cases e2
noncomputable def Cd(ρ:En)(i:Nat):Option Int:=((ρ[i]?).join).bind asI
noncomputable def asM:W->Option (List D2)
 | .ml xs=>some xs
 | _=>none
noncomputable def Cc(ρ:En)(i:Nat):Option (List D2):=((ρ[i]?).join).bind asM
theorem asM_ml(xs:List D2):asM (.ml xs)=some xs:=rfl
theorem AH{w:W}:asM w=some xs↔w = .ml xs:=by
 constructor
 · intro h;unfold asM at h;split at h<;>simp_all
 · rintro rfl;rfl
theorem gY:Cc ρ i=some xs↔ρ[i]?=some (some (.ml xs)):=by
 unfold Cc;constructor
 · intro h
   cases q:ρ[i]? with
   | none=>rw[q]at h;cases h
   | some o=>rw[q]at h;cases o with
     | none=>cases h
     | some w=>rw[AH.mp h]
 · intro h;rw[h];rfl
theorem vJ{n:Int}:Cd ρ i=some n↔ρ[i]?=some (some (.d (.int n))):=by
 unfold Cd;constructor
 · intro h
   cases q:ρ[i]? with
   | none=>rw[q]at h;cases h
   | some o=>rw[q]at h;cases o with
     | none=>cases h
     | some w=>rw[bH.mp h]
 · intro h;rw[h];rfl
theorem s_aug(i:Nat)(C:Int->Int->Prop)(h:Int->Int->Int):mS (yy i C h fa) ρ=aq (Cd ρ i) fun n=>C5 (fa ρ) fun w=>aq (asI w) fun m=>CU (C n m) (ret (.nx (ρ.set i (some (.d (.int (h n m))))))):=by
 refine af fun Q=>?_;simp only[mS,yy,C5,ag,vJ,bH,CU,ret]
theorem s_augL(i:Nat):mS (vt i fa) ρ=aq (Cc ρ i) fun xs=>C5 (fa ρ) fun w=>aq (Db w) fun ys=>CU (w.isPk=false) (CU (xs.length+ys.length<=sizeLine) (ret (.nx (ρ.set i (some (.ml (xs++ys))))))):=by
 refine af fun Q=>?_;simp only[mS,vt,ag,gY];refine exists_congr fun xs=>and_congr_right fun _=>?_;show(fa ρ fun w=>∃ys,w.isPk=false/\w.dat=some (.list ys)/\_/\_)↔(fa ρ fun w=>_)
 have:(fun w:W=>∃ys,w.isPk=false/\w.dat=some (.list ys)/\xs.length+ys.length<=sizeLine/\Q (.nx (ρ.set i (some (.ml (xs++ys))))))=fun w=>(aq (Db w) fun ys=>CU (w.isPk=false) (CU (xs.length+ys.length<=sizeLine) (ret (.nx (ρ.set i (some (.ml (xs++ys)))))))) Q:=by
  funext w;refine propext ?_;rw[ag];simp only[fV,CU,ret];exact⟨fun⟨ys,a,b,c,d⟩=>⟨ys,b,a,c,d⟩,fun⟨ys,b,a,c,d⟩=>⟨ys,a,b,c,d⟩⟩
 rw[this]
theorem s_frz(i:Nat):mS (yw i t) ρ=aq (Cc ρ i) fun xs=>mS t (ρ.set i (some (.d (.list xs)))):=by
 refine af fun Q=>?_;simp only[mS,yw,ag,gY]
theorem s_mut(i:Nat)(h:List D2->List W->(List D2->Prop)->Prop):mS (xM i h fs) ρ=aq (Cc ρ i) fun xs=>C5 (fs ρ) fun ws=>C5 (h xs ws) fun ys=>ret (.nx (ρ.set i (some (.ml ys)))):=by
 refine af fun Q=>?_;simp only[mS,xM,C5,ag,gY,ret]
theorem m_gApp(xs:List D2)(w:W):xW xs [w]=aq (asD w) fun x=>CU (xs.length<sizeLine) (ret (xs++[x])):=by
 refine af fun Q=>?_;simp only[xW,ag,du,CU,ret];constructor
 · rintro⟨x,e,a,q⟩;cases w<;>first|(cases e;exact⟨_,rfl,a,q⟩)|cases e
 · rintro⟨x,rfl,a,q⟩;exact⟨x,rfl,a,q⟩
theorem m_gExt(xs:List D2)(w:W):AF xs [w]=aq ((asD w).bind lstD) fun ys=>CU (xs.length+ys.length<=sizeLine) (ret (xs++ys)):=by
 refine af fun Q=>?_;simp only[AF,ag,CU,ret];constructor
 · rintro⟨x,e,a,q⟩;cases w<;>first|(cases e;exact⟨_,rfl,a,q⟩)|cases e
 · rintro⟨x,e,a,q⟩
   cases h:asD w with
   | none=>rw[h]at e;cases e
   | some d=>rw[h]at e;rw[du.mp h,tR.mp e];exact⟨x,rfl,a,q⟩
theorem s_retO(i:Nat):mS (vg i) ρ=aq (Cc ρ i) fun xs=>ret (.rt (.ml xs)):=by
 refine af fun Q=>?_;simp only[mS,vg,ag,gY,ret]
theorem s_appPop(i j:Nat):mS (lP i j fa) ρ=aq (Cc ρ i) fun xs=>aq (Cc ρ j) fun ys=>C5 (fa ρ) fun w=>aq (asI w) fun k=>CU (0<=k/\k<(ys.length:Int)/\ys.length<2^62) (aq (ys[k.toNat]?) fun y=>CU (xs.length<sizeLine) (ret (.nx ((ρ.set j (some (.ml (ys.eraseIdx k.toNat)))).set i (some (.ml (xs++[y]))))))):=by
 refine af fun Q=>?_;simp only[mS,lP,ag,gY]
 have:∀xs ys:List D2,(fun w:W=>∃k y,w = .d (.int k)/\0<=k/\k<(ys.length:Int)/\ys.length<2^62/\ys[k.toNat]?=some y/\xs.length<sizeLine/\Q (.nx ((ρ.set j (some (.ml (ys.eraseIdx k.toNat)))).set i (some (.ml (xs++[y]))))))=fun w=>(aq (asI w) fun k=>CU (0<=k/\k<(ys.length:Int)/\ys.length<2^62) (aq (ys[k.toNat]?) fun y=>CU (xs.length<sizeLine) (ret (.nx ((ρ.set j (some (.ml (ys.eraseIdx k.toNat)))).set i (some (.ml (xs++[y])))))))) Q:=by
  intro xs ys;funext w;refine propext ?_;simp only[ag,bH,CU,ret];exact⟨fun⟨k,y,a,b,c,d,e,f,q⟩=>⟨k,a,⟨b,c,d⟩,y,e,f,q⟩,fun⟨k,a,⟨b,c,d⟩,y,e,f,q⟩=>⟨k,y,a,b,c,d,e,f,q⟩⟩
 constructor
 · rintro⟨xs,ys,e1,e2,q⟩;refine⟨xs,e1,ys,e2,?_⟩;rw[this]at q;exact q
 · rintro⟨xs,e1,ys,e2,q⟩;refine⟨xs,ys,e1,e2,?_⟩;rw[this];exact q
end
noncomputable def Le(a b:En):Prop:=a.length=b.length/\∀(i:Nat) w,a[i]?=some (some w)->b[i]?=some (some w)
theorem Le.refl(a:En):Le a a:=⟨rfl,fun _ _ h=>h⟩
theorem Le.trans{a b c:En}(h:Le a b)(h':Le b c):Le a c:=⟨h.1.trans h'.1,fun i w e=>h'.2 i w (h.2 i w e)⟩
theorem le_nil:Le [] []=True:=propext ⟨fun _=>trivial,fun _=>Le.refl _⟩
theorem le_cn(x:Option W)(a b:En):Le (none::a) (x::b)=Le a b:=by
 refine propext ⟨fun h=>⟨by have:=h.1;simpa using this,fun i w e=>by have:=h.2 (i+1) w (by simpa using e);simpa using this⟩,fun h=>⟨by simp[h.1],fun i w e=>?_⟩⟩
 cases i with
 | zero=>simp at e
 | succ i=>simpa using h.2 i w (by simpa using e)
theorem le_cs(x:Option W)(a b:En):Le (x::a) (x::b)=Le a b:=by
 refine propext ⟨fun h=>⟨by have:=h.1;simpa using this,fun i w e=>by have:=h.2 (i+1) w (by simpa using e);simpa using this⟩,fun h=>⟨by simp[h.1],fun i w e=>?_⟩⟩
 cases i with
 | zero=>simpa using e
 | succ i=>simpa using h.2 i w (by simpa using e)
theorem VR.le{K:W.Frag}{ρ0:En}(R:VR K rl F₀ H₀ F H σ ρ)(h:Le ρ0 ρ):VR K rl F₀ H₀ F H σ ρ0 :=
 ⟨R.g,fun i w e=>R.sl i w (h.2 i w e),fun i j x y v n e1 e2=>R.ap i j x y v n (h.2 i x e1) (h.2 j y e2),fun i xs e=>R.np i xs (h.2 i _ e),h.1.trans R.len⟩
noncomputable def fo:List Nat->En->En
 | [],ρ=>ρ
 | i::l,ρ=>fo l (ρ.set i none)
theorem wD(ρ:En)(i:Nat):Le (ρ.set i none) ρ:=by
 refine⟨by simp,fun j w e=>?_⟩;rw[EW]at e;split at e
 · split at e
   · cases e
   · cases e
 · exact e
theorem gt:∀(l:List Nat)(ρ:En),Le (fo l ρ) ρ
 | [],ρ=>Le.refl ρ
 | i::l,ρ=>(gt l (ρ.set i none)).trans (wD ρ i)
theorem fo_nil(ρ:En):fo [] ρ=ρ:=rfl
theorem fo_cons(i:Nat)(l:List Nat)(ρ:En):fo (i::l) ρ=fo l (ρ.set i none):=rfl
noncomputable def cx(fl:List Nat)(g:Dk)(t:Dh):List D2->Dh
 | [],D,ρ=>D.nx ρ
 | x::xs,D,ρ=>g x ρ fun ρ2=>t {D with nx:=fun ρ'=>cx fl g t xs D (fo fl ρ'),ct:=fun ρ'=>cx fl g t xs D (fo fl ρ'),bk:=fun ρ'=>D.nx (fo fl ρ')} ρ2
noncomputable def vq(fl:List Nat)(fi:En->(List D2->Prop)->Prop)(g:Dk)(t:Dh):Dh:=fun D ρ=>fi ρ fun xs=>cx fl g t xs D (fo fl ρ)
section
variable{X:Cx}{rl:Option Addr}{st:Stmt}{rest body:List Stmt}{t u:Dh}{a b c e:Expr}{es:List Expr}{fa fb:TV}{fs:Dg}{f:TB}{pos p:Pos}
theorem dB(fl:List Nat){fi:En->(List D2->Prop)->Prop}{g:Dk}(hp:LD (EJ X.prog X.w) X.A X.env X.xe)(hc:X.calm=true)(hi:Dx X rl tg iter fi)(hg:DA X rl tg g)(hb:iK X rl body t)
 (hs:autoParam (∀x,FH iter X.env x=pure x) æc._auto_1):Du X rl (.For tg iter body [] pos) (vq fl fi g t):=by
 obtain⟨wi,p0,k0⟩:=hi;obtain⟨G,p1,k1⟩:=hg;obtain⟨T,p2,k2⟩:=hb;refine⟨_,v8 hp hc p0 p1 p2 hs,fun{F₀ H₀ F H σ ρ} R Dv D ok q=>k0 R _ _ q fun J xs F1 H1 g1 vi q1=>?_⟩;refine⟨fun i m σ H=>m=xs.length-i/\i<=xs.length/\∃F ρ,be F1 F/\VR X.K rl F₀ H₀ F H σ ρ/\cx fl g t (xs.drop i) Dv ρ,⟨xs.length,by simp,Gg _,F1,fo fl ρ,.refl _,(R.grow g1).le (gt fl ρ),by simpa using q1⟩,?_⟩;rintro i m σ H ⟨rfl,hi,F2,ρ2,s2,R2,j2⟩;have sH:be F1 H:=s2.trans R2.sub;by_cases hlt:i<xs.length
 · have ei:xs[i]?=some xs[i]:=by simp[hlt]
   rw[F8 hlt]at j2;refine .inr ⟨vi.go i H _ ei sH,fun σ' H'=>∃F ρ,be F1 F/\VR X.K rl F₀ H₀ F H' σ' ρ/\cx fl g t (xs.drop (i+1)) Dv ρ,fun σ' H' z=>⟨xs.length-(i+1),by omega,rfl,hlt,z⟩,fun v H' y=>?_⟩;obtain⟨Fy,gy,rv⟩:=vi.yld i H v H' _ F2 ei s2 R2.sub R2.reel y;refine k1 (R2.grow gy) v _ _ _ rv j2 fun F3 H3 σ3 ρ3 s3 n3 R3 q3=>?_;have s13:be F1 F3:=s2.trans (gy.fs.trans s3.fs)
   exact k2 R3 {Dv with nx:=fun ρ'=>cx fl g t (xs.drop (i+1)) Dv (fo fl ρ'),ct:=fun ρ'=>cx fl g t (xs.drop (i+1)) Dv (fo fl ρ'),bk:=fun ρ'=>Dv.nx (fo fl ρ')} _
    ⟨fun F4 H4 σ4 ρ4 s4 R4 q4=>⟨F4,fo fl ρ4,s13.trans s4,R4.le (gt fl ρ4),q4⟩,ok.rt,fun F4 H4 σ4 ρ4 s4 R4 q4=>ok.nx _ _ _ _ (g1.fs.trans (s13.trans s4)) (R4.le (gt fl ρ4)) q4,fun F4 H4 σ4 ρ4 s4 R4 q4=>⟨F4,fo fl ρ4,s13.trans s4,R4.le (gt fl ρ4),q4⟩⟩ q3
 · have e:i=xs.length:=by omega
   subst e;rw[Ip]at j2;exact .inl ⟨vi.stop _ H (Ef _) sH,ok.nx _ _ _ _ (g1.fs.trans s2) R2 j2⟩
noncomputable def BM(fl:List Nat)(f:TB)(t:Dh)(m:Nat):Dh:=fun D ρ=>f ρ fun b=>if b=true then t {D with nx:=fun ρ'=>∃k,∃h:k<m,BM fl f t k D (fo fl ρ'),ct:=fun ρ'=>∃k,∃h:k<m,BM fl f t k D (fo fl ρ'),bk:=fun ρ'=>D.nx (fo fl ρ')} ρ else D.nx ρ
termination_by m
noncomputable def lJ(fl:List Nat)(f:TB)(t:Dh):Dh:=fun D ρ=>∃m,BM fl f t m D (fo fl ρ)
theorem qt(fl:List Nat)(f:TB)(t:Dh)(m:Nat)(D:VEnds)(ρ:En):BM fl f t m D ρ=f ρ fun b=>if b=true then t {D with nx:=fun ρ'=>∃k,∃h:k<m,BM fl f t k D (fo fl ρ'),ct:=fun ρ'=>∃k,∃h:k<m,BM fl f t k D (fo fl ρ'),bk:=fun ρ'=>D.nx (fo fl ρ')} ρ else D.nx ρ:=by
 conv=>lhs;unfold BM
theorem eE(fl:List Nat)(hp:LD (EJ X.prog X.w) X.A X.env X.xe)(hc:PB X rl c f)(hb:iK X rl body t):Du X rl (.While c body [] pos) (lJ fl f t):=by
 obtain⟨t0,p0,k0⟩:=hc;obtain⟨t1,p1,k1⟩:=hb;refine⟨_,jI hp p0 p1,fun{F₀ H₀ F H σ ρ} R Dv D ok q=>?_⟩;obtain⟨m,j0⟩:=q;refine⟨fun m σ' H'=>∃F' ρ',be F F'/\VR X.K rl F₀ H₀ F' H' σ' ρ'/\BM fl f t m Dv ρ',⟨m,F,fo fl ρ,.refl _,R.le (gt fl ρ),j0⟩,?_⟩;rintro m σ2 H2 ⟨F2,ρ2,s2,R2,j⟩;rw[qt]at j;refine k0 R2 _ _ j fun b F1 H1 g1 q1=>?_
 cases b with
 | false=>exact ok.nx _ _ _ _ (s2.trans g1.fs) (R2.grow g1) q1
 | true =>
   refine⟨fun σ' H'=>∃F' ρ',be F F'/\VR X.K rl F₀ H₀ F' H' σ' ρ'/\∃m',m'<m/\BM fl f t m' Dv ρ',fun σ' H' ⟨F',ρ',s',R',m',hm,j⟩=>⟨m',hm,F',ρ',s',R',j⟩,?_⟩
   exact k1 (R2.grow g1) {Dv with nx:=fun ρ'=>∃k,∃h:k<m,BM fl f t k Dv (fo fl ρ'),ct:=fun ρ'=>∃k,∃h:k<m,BM fl f t k Dv (fo fl ρ'),bk:=fun ρ'=>Dv.nx (fo fl ρ')} _
    ⟨fun F3 H3 σ3 ρ3 s3 R3 ⟨m',hm,q3⟩=>⟨F3,fo fl ρ3,(s2.trans g1.fs).trans s3,R3.le (gt fl ρ3),m',hm,q3⟩,ok.rt,fun F3 H3 σ3 ρ3 s3 R3 q3=>ok.nx _ _ _ _ ((s2.trans g1.fs).trans s3) (R3.le (gt fl ρ3)) q3,fun F3 H3 σ3 ρ3 s3 R3 ⟨m',hm,q3⟩=>⟨F3,fo fl ρ3,(s2.trans g1.fs).trans s3,R3.le (gt fl ρ3),m',hm,q3⟩⟩ q1
end
noncomputable def CG(fl:List Nat)(k:En->Mo Fl):Fl->Mo Fl
 | .nx ρ=>k (fo fl ρ)
 | .ct ρ=>k (fo fl ρ)
 | .bk ρ=>ret (.nx (fo fl ρ))
 | .rt w=>ret (.rt w)
noncomputable def cL(fl:List Nat)(b:D2->En->Mo Fl):List D2->En->Mo Fl
 | [],ρ=>ret (.nx ρ)
 | x::xs,ρ=>C5 (b x ρ) (CG fl (cL fl b xs))
theorem nc(fl:List Nat)(g:Dk)(t:Dh):∀(xs:List D2)(ρ:En),mS (cx fl g t xs) ρ=cL fl (fun x ρ=>C5 (g x ρ) (mS t)) xs ρ
 | [],ρ=>rfl
 | x::xs,ρ=>by
   refine af fun Q=>?_;show(g x ρ fun ρ2=>t ⟨fun ρ'=>mS (cx fl g t xs) (fo fl ρ') Q,fun w=>Q (.rt w),fun ρ'=>Q (.nx (fo fl ρ')),fun ρ'=>mS (cx fl g t xs) (fo fl ρ') Q⟩ ρ2)↔_;simp only[nc fl g t xs];exact Jg
noncomputable def C8(g:Dk)(t:Dh):D2->En->Mo Fl:=fun x ρ=>C5 (g x ρ) (mS t)
theorem bdy_ap(g:Dk)(t:Dh)(x:D2)(ρ:En):C8 g t x ρ=C5 (g x ρ) (mS t):=nr rfl
theorem s_for(fl:List Nat)(fi:En->(List D2->Prop)->Prop)(g:Dk)(t:Dh)(ρ:En):mS (vq fl fi g t) ρ=C5 (fi ρ) fun xs=>cL fl (C8 g t) xs (fo fl ρ):=by
 refine af fun Q=>?_;show(fi ρ fun xs=>mS (cx fl g t xs) (fo fl ρ) Q)↔_;simp only[nc];exact Jg
noncomputable def CF(fl:List Nat)(J:En->Prop)(Q:Fl->Prop):Fl->Prop
 | .nx ρ=>J (fo fl ρ)
 | .ct ρ=>J (fo fl ρ)
 | .bk ρ=>Q (.nx (fo fl ρ))
 | .rt w=>Q (.rt w)
section
variable{α σ:Type}{fl:List Nat}{b:D2->En->Mo Fl}
theorem jT(J:Nat->En->Prop){Q:Fl->Prop}:∀{xs:List D2}{ρ:En}(n:Nat),J n ρ->(∀i x ρ,xs[i]?=some x->J (n+i) ρ->∀k:Fl->Prop,(∀r,CF fl (J (n+i+1)) Q r->k r)->b x ρ k)->(∀ρ,J (n+xs.length) ρ->Q (.nx ρ))->cL fl b xs ρ Q
 | [],ρ,n,h0,_,fin=>fin ρ h0
 | x::xs,ρ,n,h0,step,fin=>by
   refine step 0 x ρ rfl h0 (fun r=>CG fl (cL fl b xs) r Q) fun r hr=>?_;have rc:∀ρ',J (n+1) ρ'->cL fl b xs ρ' Q:=fun ρ' h'=>jT J (n+1) h' (fun i y ρ e j k hk=>step (i+1) y ρ (by simpa using e) (by rw[show n+(i+1)=n+1+i by omega];exact j) k (by rw[show n+(i+1)+1=n+1+i+1 by omega];exact hk)) (fun ρ j=>fin ρ (by rw[EQ,show n+(xs.length+1)=n+1+xs.length by omega];exact j))
   cases r with
   | nx ρ'=>exact rc _ hr
   | ct ρ'=>exact rc _ hr
   | bk ρ'=>exact hr
   | rt w=>exact hr
theorem ng{xs:List α}{enc:α->D2}{Q:Fl->Prop}(J:Nat->En->Prop)(h0:J 0 ρ)
 (step:∀i (h:i<xs.length) ρ,J i ρ->∀k:Fl->Prop,(∀r,CF fl (J (i+1)) Q r->k r)->b (enc xs[i]) ρ k)(fin:∀ρ,J xs.length ρ->Q (.nx ρ)):cL fl b (xs.map enc) ρ Q:=by
 refine jT J 0 h0 (fun i x ρ e j k hk=>?_) (fun ρ j=>fin ρ (by simpa using j));have hi:i<xs.length:=by have:=(Ek.mp e).1;simpa using this
 rw[E6,EB hi]at e;cases e;rw[Kb]at j hk;exact step i hi ρ j k hk
theorem pL{lo:Int}{Q:Fl->Prop}(J:Nat->En->Prop)(h0:J 0 ρ)
 (step:∀i,i<n->∀ρ,J i ρ->∀k:Fl->Prop,(∀r,CF fl (J (i+1)) Q r->k r)->b (.int (lo+i)) ρ k)(fin:∀ρ,J n ρ->Q (.nx ρ)):cL fl b (aV lo n) ρ Q:=by
 refine ng (xs:=ET n) J h0 (fun i h ρ j k hk=>?_) (fun ρ j=>fin ρ (by simpa using j));rw[List.getElem_range];exact step i (by simpa using h) ρ j k hk
theorem m_{xs:List α}{enc:α->D2}(st:σ->En)(f:σ->α->σ)(s:σ)(I:σ->Prop)(h0:I s)(step:∀x∈xs,∀s,I s->I (f s x)/\∃ρ',b (enc x) (st s)=ret (.nx ρ')/\fo fl ρ'=st (f s x)):cL fl b (xs.map enc) (st s)=ret (.nx (st (xs.foldl f s))):=by
 induction xs generalizing s with
 | nil=>rfl
 | cons x xs ih =>
   obtain⟨h1,ρ',e1,e2⟩:=step x Ee s h0;show C5 (b (enc x) (st s)) (CG fl (cL fl b (xs.map enc)))=_;rw[e1,bnd_ret];show cL fl b (xs.map enc) (fo fl ρ')=_;rw[e2];exact ih (f s x) h1 fun y hy=>step y (D7 _ hy)
end
noncomputable def fE(fl:List Nat)(f:TB)(t:Dh)(ρ:En):Mo Fl:=fun Q=>∃m,mS (BM fl f t m) ρ Q
theorem s_while(fl:List Nat)(f:TB)(t:Dh)(ρ:En):mS (lJ fl f t) ρ=fE fl f t (fo fl ρ):=nr rfl
theorem oR(fl:List Nat)(f:TB)(t:Dh)(m:Nat)(ρ:En):mS (BM fl f t m) ρ=C5 (f ρ) fun b=>if b=true then C5 (mS t ρ) (CG fl fun ρ'=>fun Q=>∃k,∃h:k<m,mS (BM fl f t k) ρ' Q)else ret (.nx ρ):=by
 refine af fun Q=>?_;show BM fl f t m _ ρ↔_;rw[qt];simp only[C5,dS];exact Jg
theorem rA{fl:List Nat}{f:TB}{t:Dh}(h:f ρ=ret false):fE fl f t ρ=ret (.nx ρ):=by
 refine af fun Q=>?_;constructor
 · rintro⟨m,q⟩;rw[oR,h,bnd_ret,if_neg (by decide)]at q;exact q
 · intro q;refine⟨0,?_⟩;rw[oR,h,bnd_ret,if_neg (by decide)];exact q
theorem rq{fl:List Nat}{f:TB}{t:Dh}{ρ':En}(h:f ρ=ret true)(h2:mS t ρ=ret (.nx ρ')):fE fl f t ρ=fE fl f t (fo fl ρ'):=by
 refine af fun Q=>?_;constructor
 · rintro⟨m,q⟩;rw[oR,h,bnd_ret,if_pos rfl,h2,bnd_ret]at q;obtain⟨k,_,q⟩:=q;exact⟨k,q⟩
 · rintro⟨m,q⟩;refine⟨m+1,?_⟩;rw[oR,h,bnd_ret,if_pos rfl,h2,bnd_ret];exact⟨m,Hq m,q⟩
theorem ly{σ:Type}{fl:List Nat}{f:TB}{t:Dh}(st:σ->En)(c:σ->Bool)(nxt:σ->σ)(μ:σ->Nat)(I:σ->Prop)
 (hf:∀s,I s->f (st s)=ret (c s))(ht:∀s,I s->c s=true->I (nxt s)/\μ (nxt s)<μ s/\∃ρ',mS t (st s)=ret (.nx ρ')/\fo fl ρ'=st (nxt s))(s:σ)(hs:I s):∃s',I s'/\c s'=false/\fE fl f t (st s)=ret (.nx (st s')):=by
 induction hm:μ s using Nat.strongRecOn generalizing s with
 | ind n ih =>
   subst hm
   cases hc:c s with
   | false=>exact⟨s,hs,hc,rA (by rw[hf s hs,hc])⟩
   | true =>
     obtain⟨i1,m1,ρ',e1,e2⟩:=ht s hs hc;obtain⟨s',a,b,e⟩:=ih _ m1 (nxt s) i1 rfl;exact⟨s',a,b,by rw[rq (by rw[hf s hs,hc]) e1,e2,e]⟩
noncomputable def qu(ρ0:En)(g:Dk)(ft:TB)(fe:TV):List D2->List D2->(List D2->Prop)->Prop
 | [],acc,Q=>Q acc
 | x::xs,acc,Q=>g x ρ0 fun ρ2=>Le ρ0 ρ2/\ft ρ2 fun b=>if b=true then fe ρ2 fun w=>∃d,w.fz = .d d/\acc.length<sizeLine/\qu ρ0 g ft fe xs (acc++[d]) Q else qu ρ0 g ft fe xs acc Q
noncomputable def jE(fi:En->(List D2->Prop)->Prop)(fr:List (Option Nat))(g:Dk)(ft:TB)(fe:TV):TV:=fun ρ Q=>fi ρ fun xs=>qu (gO fr ρ) g ft fe xs [] fun ds=>Q (.ml ds)
section
variable{X:Cx}{rl:Option Addr}{elt tg iter:Expr}{ifs:List Expr}{scope:Scope}{pos:Pos}{fi:En->(List D2->Prop)->Prop}{g:Dk}{ft:TB}{fe:TV}
theorem jU{N':List Str}{wi:TI}(fr:List (Option Nat))(k0:∀{F₀ H₀ F H:Hp}{σ:St}{ρ:En},VR X.K rl F₀ H₀ F H σ ρ->∀(Qd:List D2->Prop)(R:It->Hp->Prop),fi ρ Qd ->
 (∀J xs F' H',Grow rl F H F' H'->VIt X.K rl F' J xs->Qd xs->R J H')->wi σ H R)
 (hg:∀y,DA (C7 X N' scope y) rl tg g)(ht:∀y,uC (C7 X N' scope y) rl ifs ft)(he:∀y,PV (C7 X N' scope y) rl elt fe)
 (R:VR X.K rl F₀ H₀ F H σ ρ)(Qd:W->Prop)(Q:VK)(q:jE fi fr g ft fe ρ Qd)
 (k:∀v w F' H',Grow rl F H F' H'->cO X.K rl F' H' v w->d6 H v w->Qd w->Q v H'):su wi fr (fun y=>GE (hg y)) (fun y=>GE (ht y)) (fun y=>GE (he y)) σ H Q:=by
 refine k0 R _ _ q fun J xs F1 H1 g1 vi q1=>?_;intro D hD;have rD:rl≠some D:=fun e=>by obtain⟨o,z⟩:=g1.reel.live e;rw[hD]at z;cases z
 have FD:F1 D=none:=g1.sub.free hD;have gD:Grow rl F1 H1 F1 (upd H1 D (.lst [])):=Grow.laid g1.sub g1.reel hD;have R1:=R.grow g1;have n0:oO (gO fr ρ):=fP
 refine⟨fun i m acc σc Hc=>m=xs.length-i/\i<=xs.length/\∃Fc ds,VR X.K rl F1 H1 Fc Hc σc (gO fr ρ)/\Hc D=some (.lst acc)/\Fc D=none/\Reps X.K Fc acc ds/\qu (gO fr ρ) g ft fe (xs.drop i) ds (fun ds=>Qd (.ml ds)),
  ⟨xs.length,by simp,Gg _,F1,[],jz R1 gD,ak,FD,.nil,by simpa using q1⟩,?_⟩
 rintro z i m acc σc Hc ⟨rfl,hi,Fc,ds,Rc,hDc,fDc,rs,q2⟩;have sH:be F1 Hc:=Rc.g.fs.trans Rc.sub;by_cases hlt:i<xs.length
 · have ei:xs[i]?=some xs[i]:=by simp[hlt]
   have ed:xs.drop i=xs[i]::xs.drop (i+1):=F8 hlt;rw[ed]at q2;refine .inr ⟨vi.go i Hc _ ei sH,fun v H' y=>?_⟩;obtain⟨Fy,gy,rv⟩:=vi.yld i Hc v H' _ Fc ei Rc.g.fs Rc.sub Rc.reel y;refine(EA (hg z)).2 (Rc.grow gy) v _ _ _ rv q2 fun F3 H3 σ3 ρ3 g3 n3 R3 ⟨le3,q3⟩=>?_;refine(EA (ht z)).2 R3 _ _ q3 fun b F4 H4 g4 q4=>?_;have R4:=R3.grow g4;have g34:=(gy.trans g3).trans g4;have keepD:∀{Fx Hx:Hp},Grow rl Fc Hc Fx Hx->Hx D=some (.lst acc)/\Fx D=none:=fun gx=>⟨gx.same D _ hDc rD,by rw[gx.old D _ hDc];exact fDc⟩
   cases b with
   | false=>exact⟨xs.length-(i+1),by omega,rfl,hlt,F4,ds,R4.le le3,(keepD g34).1,(keepD g34).2,rs.mono g34.fs,q4⟩
   | true =>
     refine(EA (he z)).2 R4 _ _ q4 fun v5 w5 F5 H5 g5 r5 n5 ⟨d,ed5,hl,q5⟩=>?_;obtain⟨F6,g6,s6,r6⟩:=cO.fz g5 r5 n5;rw[ed5]at r6;have g36:=g34.trans g6;refine⟨(keepD g36).1,by rw[rs.length];exact hl,xs.length-(i+1),by omega,rfl,hlt,F6,ds++[d],((R4.grow g6).le le3).other n0 hD (keepD g36).2 rD,ak,(keepD g36).2,(rs.mono g36.fs).snoc r6,q5⟩
 · have e:i=xs.length:=by omega
   subst e;rw[Ip]at q2;refine .inl ⟨vi.stop _ Hc (Ef _) sH,k _ (.ml ds) Fc Hc (g1.trans Rc.g) ⟨D,acc,rfl,fDc,rD,hDc,rs⟩ (fun a ea=>by cases ea;exact g1.freeB hD) q2⟩
theorem cD(N':List Str)(fr:List (Option Nat))(hc:X.calm=true)(hi:Dx X rl tg iter fi)
 (hg:∀y,DA (C7 X N' scope y) rl tg g)(ht:∀y,uC (C7 X N' scope y) rl ifs ft)(he:∀y,PV (C7 X N' scope y) rl elt fe)
 (hfr:autoParam (p8 fr N' X.N scope X.env.scope=true) æa._auto_1)(hsc:autoParam (sN scope X.env.scope=true) æa._auto_1)
 (hs:autoParam (∀x,FH iter X.env x=pure x) æc._auto_1):PV X rl (.ListComp elt [⟨tg,iter,ifs,0⟩] scope pos) (jE fi fr g ft fe):=by
 obtain⟨wi,p0,k0⟩:=hi;exact⟨_,jM N' fr hc p0 hfr hsc (fun y=>(EA (hg y)).1) (fun y=>(EA (ht y)).1) (fun y=>(EA (he y)).1) hs,fun R Qd Q q k=>jU fr k0 hg ht he R Qd Q q k⟩
end
noncomputable def CK(ρ0:En)(g:Dk)(ft:TB)(fe:TV)(x:D2):Mo (Option D2):=C5 (g x ρ0) fun ρ2=>CU (Le ρ0 ρ2) (C5 (ft ρ2) fun b=>if b=true then C5 (fe ρ2) fun w=>aq (asD w.fz) fun d=>ret (some d)else ret none)
noncomputable def b7(b:D2->Mo (Option D2)):List D2->List D2->Mo (List D2)
 | [],acc=>ret acc
 | x::xs,acc=>C5 (b x) fun o=>match o with
   | some d=>CU (acc.length<sizeLine) (b7 b xs (acc++[d]))
   | none=>b7 b xs acc
theorem oq(ρ0:En)(g:Dk)(ft:TB)(fe:TV):∀(xs acc:List D2),qu ρ0 g ft fe xs acc=b7 (CK ρ0 g ft fe) xs acc
 | [],acc=>rfl
 | x::xs,acc=>by
   refine af fun Q=>?_;show(g x ρ0 fun ρ2=>Le ρ0 ρ2/\ft ρ2 fun b=>if b=true then fe ρ2 fun w=>∃d,w.fz = .d d/\acc.length<sizeLine/\qu ρ0 g ft fe xs (acc++[d]) Q else qu ρ0 g ft fe xs acc Q)↔(C5 (CK ρ0 g ft fe x) _) Q;simp only[oq ρ0 g ft fe xs]
   have:∀(ρ2:En)(b:Bool),(if b=true then fe ρ2 fun w=>∃d,w.fz = .d d/\acc.length<sizeLine/\b7 (CK ρ0 g ft fe) xs (acc++[d]) Q else b7 (CK ρ0 g ft fe) xs acc Q)=(C5 (if b=true then C5 (fe ρ2) fun w=>aq (asD w.fz) fun d=>ret (some d)else ret none) fun o=>match o with
   | some d=>CU (acc.length<sizeLine) (b7 (CK ρ0 g ft fe) xs (acc++[d]))
   | none=>b7 (CK ρ0 g ft fe) xs acc) Q:=by
     intro ρ2 b
     cases b with
     | false=>rfl
     | true =>
       rw[if_pos rfl,if_pos rfl];show _=fe ρ2 fun w=>_;congr 1;funext w;refine propext ?_;show _↔(C5 (aq (asD w.fz) fun d=>ret (some d)) _) Q;rw[bnd_opt,ag];simp only[du];exact Jg
   simp only[this];exact Jg
theorem m_comp(fi:En->(List D2->Prop)->Prop)(fr:List (Option Nat))(g:Dk)(ft:TB)(fe:TV)(ρ:En):jE fi fr g ft fe ρ=C5 (fi ρ) fun xs=>C5 (b7 (CK (gO fr ρ) g ft fe) xs []) fun ds=>ret (.ml ds):=by
 refine af fun Q=>?_;show(fi ρ fun xs=>qu (gO fr ρ) g ft fe xs [] fun ds=>Q (.ml ds))↔_;simp only[oq];exact Jg
section
variable{α:Type}{b:D2->Mo (Option D2)}
theorem fj{enc:α->D2}(f:α->Option D2):∀(xs:List α)(acc:List D2),(∀x∈xs,b (enc x)=ret (f x))->acc.length+xs.length<=sizeLine->b7 b (xs.map enc) acc=ret (acc++xs.filterMap f)
 | [],acc,_,_=>by simp[b7]
 | x::xs,acc,h,hl=>by
   show C5 (b (enc x)) _=_;rw[h x Ee,bnd_ret];simp at hl
   cases e:f x with
   | none =>
     show b7 b (xs.map enc) acc=_
     rw[fj f xs acc (fun y hy=>h y (D7 _ hy)) (by omega),List.filterMap_cons_none e]
   | some d =>
     show CU (acc.length<sizeLine) (b7 b (xs.map enc) (acc++[d]))=_;rw[aj (by omega),fj f xs (acc++[d]) (fun y hy=>h y (D7 _ hy)) (by simp;omega),List.filterMap_cons_some e];simp
theorem oo{xs:List α}{enc:α->D2}(f:α->Option D2)(h:∀x∈xs,b (enc x)=ret (f x))(hl:xs.length<=sizeLine):b7 b (xs.map enc) []=ret (xs.filterMap f):=by
 have:=fj f xs [] h (by simpa using hl);simpa using this
theorem comp_map{xs:List α}{enc:α->D2}(f:α->D2)(h:∀x∈xs,b (enc x)=ret (some (f x)))(hl:xs.length<=sizeLine):b7 b (xs.map enc) []=ret (xs.map f):=by
 rw[oo (fun x=>some (f x)) h hl,List.filterMap_eq_map']
theorem dU{enc:α->D2}(R:α->D2->Prop){Q:List D2->Prop}:∀(xs:List α)(acc:List D2),(∀x∈xs,∀k:Option D2->Prop,(∀d,R x d->k (some d))->b (enc x) k)->acc.length+xs.length<=sizeLine->(∀ds,Fe R xs ds->Q (acc++ds))->b7 b (xs.map enc) acc Q
 | [],acc,_,_,fin=>by have:=fin [] .nil;rw[FO]at this;exact this
 | x::xs,acc,h,hl,fin=>by
   simp at hl;refine h x Ee _ fun d r=>?_;refine⟨by omega,dU R xs (acc++[d]) (fun y hy=>h y (D7 _ hy)) (by simp;omega) fun ds ps=>?_⟩;have:=fin (d::ds) (.cons r ps);simpa using this
theorem qf{xs:List α}{enc:α->D2}(R:α->D2->Prop){Q:List D2->Prop}(h:∀x∈xs,∀k:Option D2->Prop,(∀d,R x d->k (some d))->b (enc x) k)(hl:xs.length<=sizeLine)(fin:∀ds,Fe R xs ds->Q ds):b7 b (xs.map enc) [] Q :=
 dU R xs [] h (by simpa using hl) (by simpa using fin)
theorem ot{lo:Int}(P:D2->Prop){Q:List D2->Prop}(h:∀j,j<n->∀k:Option D2->Prop,(∀d,P d->k (some d))->b (.int (lo+j)) k)(hl:n<=sizeLine)(fin:∀ds:List D2,ds.length=n->(∀d∈ds,P d)->Q ds):b7 b (aV lo n) [] Q:=by
 refine qf (xs:=ET n) (fun _ d=>P d) (fun j hj=>h j (F7.mp hj)) (by simpa using hl) fun ds ps=>?_;refine fin ds ?_ ?_
 · have:=Gk ps;simpa using this.symm
 · clear fin h hl;intro d hd;generalize ET n=l at ps
   induction ps with
   | nil=>cases hd
   | cons r _ ih=>exact(Ev.mp hd).elim (fun e=>by rw[e];exact r) ih
end
section
variable(c:Prop)[Decidable c]
theorem ite_nx(a b:En):(if c then ret (Fl.nx a)else ret (Fl.nx b))=ret (Fl.nx (if c then a else b)):=by split<;>rfl
theorem ite_rt(a b:W):(if c then ret (Fl.rt a)else ret (Fl.rt b))=ret (Fl.rt (if c then a else b)):=by split<;>rfl
theorem ite_retd(a b:D2):(if c then ret (W.d a)else ret (W.d b))=ret (W.d (if c then a else b)):=by split<;>rfl
theorem ite_retb(a b:Bool):(if c then ret a else ret b)=ret (if c then a else b):=by split<;>rfl
theorem ite_rets(a b:D2):(if c then ret (some a)else ret (some b))=ret (some (if c then a else b)):=by split<;>rfl
theorem ite_cons{α:Type}(x y:α)(l m:List α):(if c then x::l else y::m)=(if c then x else y)::(if c then l else m):=by split<;>rfl
theorem ite_some{α:Type}(x y:α):(if c then some x else some y)=some (if c then x else y):=by split<;>rfl
theorem ite_d(a b:D2):(if c then W.d a else W.d b)=W.d (if c then a else b):=by split<;>rfl
theorem ite_pi(a b:Int):(if c then Et a else Et b)=Et (if c then a else b):=by split<;>rfl
theorem ite_pb(a b:Bool):(if c then JD a else JD b)=JD (if c then a else b):=by split<;>rfl
theorem itb_tt(b y:Bool):(if b=true then true else y)=(b||y):=by cases b<;>rfl
theorem itb_ff(b y:Bool):(if b=true then y else false)=(b&&y):=by cases b<;>rfl
theorem itb_ft(b y:Bool):(if b=true then false else y)=(!b&&y):=by cases b<;>rfl
theorem itb_tf(b y:Bool):(if b=true then y else true)=(!b||y):=by cases b<;>rfl
end
theorem ah(h:n<=1000):(n<=sizeLine)=True:=by have:=E8;exact propext ⟨fun _=>trivial,fun _=>by omega⟩
theorem tup2(x y:D2):(match [x,y]with | [x,y]=>some (x,y)|_=>none)=some (x,y):=rfl
theorem bnd_tt{α β:Type}(a:α)(f:α->Mo β):C5 (fun Q=>Q a) f=f a:=nr rfl
section
variable{α β:Type}
theorem ay{P:α->Prop}{f:α->Mo β}{Q:β->Prop}(h:∀a,P a->f a Q):C5 (anyM P) f Q:=h
end
theorem aI{Q:D2->Prop}(h:Q d):ret (Fl.rt (.d d)) (xq Q):=⟨d,rfl,h⟩
section
variable{α:Type}{k:En->Mo Fl}{Q:Fl->Prop}
theorem B9{m:Mo α}{h:α->Mo Fl}(z:C5 m (fun a=>sq (h a) k) Q):sq (C5 m h) k Q:=z
theorem B8{o:Option α}{h:α->Mo Fl}(z:aq o (fun a=>sq (h a) k) Q):sq (aq o h) k Q:=by rw[vI];exact z
noncomputable def kc(k1 k2:En->Mo Fl):En->Mo Fl:=fun ρ=>sq (k1 ρ) k2
theorem kc_ap(k1 k2:En->Mo Fl)(ρ:En):kc k1 k2 ρ=sq (k1 ρ) k2:=nr rfl
theorem sq_sq(m:Mo Fl)(k1 k2:En->Mo Fl):sq (sq m k1) k2=sq m (kc k1 k2):=by
 refine af fun Q=>?_;show m _↔m _;have:∀fl:Fl,(sq (match fl with | .nx ρ=>k1 ρ | .rt w=>ret (.rt w) | .bk ρ=>ret (.bk ρ) | .ct ρ=>ret (.ct ρ)) k2) Q=(match fl with | .nx ρ=>kc k1 k2 ρ | .rt w=>ret (.rt w) | .bk ρ=>ret (.bk ρ) | .ct ρ=>ret (.ct ρ):Mo Fl) Q:=by intro fl;cases fl<;>rfl
 exact Iff.of_eq (congrArg m (funext this))
theorem aN{P:α->Prop}{f:α->Mo Fl}(z:∀a,P a->sq (f a) k Q):sq (C5 (anyM P) f) k Q:=z
end
theorem pk_sc(x:List Int):L2.VL.W.peek (.sc x) = .sc x:=rfl
theorem fz_sc(x:List Int):(W.sc x).fz = .sc x:=rfl
theorem arg_sc(x:List Int):cN (.sc x)=true:=rfl
theorem isPk_sc(x:List Int):(W.sc x).isPk=false:=rfl
section
variable{X:Cx}{rl:Option Addr}{a b c e:Expr}{es:List Expr}{fa fb fc:TV}{fs:Dg}{pos p p2:Pos}{ρ:En}
noncomputable def w_:List W->(W->Prop)->Prop:=fun ws Q=>∃ns,ws=[.sc ns]/\Q (.d (.int ns.length))
noncomputable def asSc:W->Option (List Int)
 | .sc ns=>some ns
 | _=>none
theorem asSc_s(ns:List Int):asSc (.sc ns)=some ns:=rfl
theorem jq{w:W}{i:List Int}:asSc w=some i↔w = .sc i:=by
 constructor
 · intro h;unfold asSc at h;split at h<;>simp_all
 · rintro rfl;rfl
theorem m_gLenS(w:W):w_ [w]=aq (asSc w) fun ns=>ret (.d (.int ns.length)):=by
 refine af fun Q=>?_;simp only[w_,ag,jq,ret,Eu,and_true]
noncomputable def AC:W->W->(W->Prop)->Prop:=fun x y Q=>∃ns i n,x = .sc ns/\y = .d (.int i)/\atI ns i=some n/\Q (.d (.int n))
theorem jo{β:Type}(f:α->β)(xs:List α)(i:Int):atI (xs.map f) i=(atI xs i).map f:=by
 unfold atI;rw[Eb];cases ixN xs.length i<;>simp
theorem m_gIxS(x y:W):AC x y=aq (asSc x) fun ns=>aq (asI y) fun i=>aq (atI ns i) fun n=>ret (.d (.int n)):=by
 refine af fun Q=>?_;simp only[AC,ag,jq,bH,ret];exact⟨fun⟨i,j,z,a,b,c,q⟩=>⟨i,a,j,b,z,c,q⟩,fun⟨i,a,j,b,z,c,q⟩=>⟨i,j,z,a,b,c,q⟩⟩
noncomputable def Ai(fa:TV)(fl fh:Di):TV:=fun ρ Q=>fa ρ fun w=>fl ρ fun l=>fh ρ fun h=>∃ns:List Int,w = .sc ns/\Q (.ml (cutD (ns.map .int) l h))
theorem m_vSlS{fl fh:Di}:Ai fa fl fh ρ=C5 (fa ρ) fun w=>C5 (fl ρ) fun l=>C5 (fh ρ) fun h=>aq (asSc w) fun ns=>ret (.ml (cutD (ns.map .int) l h)):=by
 refine af fun Q=>?_;simp only[Ai,C5,ag,jq,ret]
end
noncomputable def Ca(K:W.Frag)(pre:List W->Prop):Sp:=fun vs H Q _=>∃F ws,be F H/\dJ K none F H vs ws/\ws.all cN=true/\pre ws/\∀r F' H',H r=none->Grow none F H F' H'->Dq (some r) F' H'->Q (.ref r) H'
structure DfnR (P:Ei) (w:EK) (K:W.Frag) (mg:Str->Option D4) (base:Heap) (x:Str) (ps:List Str) (k:Nat) (pre:List W->Prop):Prop where
 ex:∃f fd,mg x=some (.ref f)/\W.keepIn K (.ref f)=true/\Binds K fd ps []/\FnOk P w K mg base DS k f fd ps (Ca K pre)
noncomputable def Cz:Option W->Option W
 | some .reel=>none
 | o=>o
noncomputable def nR(ρ:En):En:=ρ.map Cz
noncomputable def W.isR:W->Bool
 | .reel=>true
 | _=>false
noncomputable def vj(i:Nat)(pre:List W->Prop)(fs:Dg)(t:Dh):Dh:=fun D ρ=>fs ρ fun ws=>ws.all cN=true/\pre ws/\t ⟨fun ρ'=>D.nx (nR ρ'),fun w=>w.isR=false/\D.rt w,fun ρ'=>D.bk (nR ρ'),fun ρ'=>D.ct (nR ρ')⟩ (ρ.set i (some .reel))
theorem t9(g:Grow none F₀ H₀ F H)(ra:Dq (some r) F H):Grow (some r) F₀ H₀ F H:=⟨fun b o e _=>g.same b o e (by simp),g.fs,g.sub,g.old,ra⟩
theorem j6(g:Grow (some r) F₀ H₀ F H)(n:H₀ r=none):Grow none F₀ H₀ F H:=⟨fun b o e _=>g.same b o e (fun z=>by cases z;rw[n]at e;cases e),g.fs,g.sub,g.old,fun _ z=>by cases z⟩
theorem vQ{K:W.Frag}{w:W}(h:cO K none F H v w)(ne:∀a,w.own=true\/(∃xs,w = .pk xs)->v = .ref a->a≠r):cO K (some r) F H v w:=by
 cases w with
 | d x=>exact h
 | ml xs=>obtain⟨a,vs,e,f,_,g⟩:=h;exact⟨a,vs,e,f,fun z=>ne a (.inl rfl) e (by cases z;rfl),g⟩
 | pk xs=>obtain⟨a,vs,e,f,_,g⟩:=h;exact⟨a,vs,e,f,fun z=>ne a (.inr ⟨_,rfl⟩) e (by cases z;rfl),g⟩
 | reel=>obtain⟨_,z,_⟩:=h;cases z
 | vv u=>exact h
 | md kvs=>obtain⟨a,vs,e,f,_,g⟩:=h;exact⟨a,vs,e,f,fun z=>ne a (.inl rfl) e (by cases z;rfl),g⟩
 | mk kvs=>obtain⟨a,vs,e,f,_,g⟩:=h;exact⟨a,vs,e,f,fun z=>ne a (.inl rfl) e (by cases z;rfl),g⟩
 | xm kvs=>obtain⟨a,vs,e,f,_,g⟩:=h;exact⟨a,vs,e,f,fun z=>ne a (.inl rfl) e (by cases z;rfl),g⟩
 | nt ds=>exact h
 | lk=>trivial
 | sc ns=>exact h
 | fd _=>exact h
 | xr _=>exact h
 | fw _=>exact h
 | ft _=>exact h
 | xc _ _=>exact h
 | dp _ _=>exact h
theorem l9{K:W.Frag}{w:W}(h:cO K (some r) F H v w)(n:w.isR=false):cO K none F H v w:=by
 cases w with
 | d x=>exact h
 | ml xs=>obtain⟨a,vs,e,f,_,g⟩:=h;exact⟨a,vs,e,f,by simp,g⟩
 | pk xs=>obtain⟨a,vs,e,f,_,g⟩:=h;exact⟨a,vs,e,f,by simp,g⟩
 | reel=>cases n
 | vv u=>exact h
 | md kvs=>obtain⟨a,vs,e,f,_,g⟩:=h;exact⟨a,vs,e,f,by simp,g⟩
 | mk kvs=>obtain⟨a,vs,e,f,_,g⟩:=h;exact⟨a,vs,e,f,by simp,g⟩
 | xm kvs=>obtain⟨a,vs,e,f,_,g⟩:=h;exact⟨a,vs,e,f,by simp,g⟩
 | nt ds=>exact h
 | lk=>trivial
 | sc ns=>exact h
 | fd _=>exact h
 | xr _=>exact h
 | fw _=>exact h
 | ft _=>exact h
 | xc _ _=>exact h
 | dp _ _=>exact h
theorem jR{w:W}(h:(nR ρ)[i]?=some (some w)):ρ[i]?=some (some w)/\w.isR=false:=by
 unfold nR at h;rw[E6]at h
 cases e:ρ[i]? with
 | none=>rw[e]at h;cases h
 | some o =>
   rw[e]at h
   cases o with
   | none=>cases h
   | some u=>cases u<;>first|(cases h;exact⟨rfl,rfl⟩)|cases h
theorem VR.out{K:W.Frag}(R:VR K (some r) F₀ H₀ F H σ ρ)(n:H₀ r=none):VR K none F₀ H₀ F H σ (nR ρ):=by
 refine⟨j6 R.g n,fun i w e=>?_,fun i j x y v hn e1 e2=>R.ap i j x y v hn (jR e1).1 (jR e2).1,fun i xs e=>R.np i xs (jR e).1,?_⟩
 · obtain⟨e1,e2⟩:=jR e;obtain⟨v,h1,h2,h3⟩:=R.sl i w e1;exact⟨v,h1,l9 h2 e2,h3⟩
 · have:=R.len;simpa[nR]using this
theorem VR.into{K:W.Frag}(R:VR K none F₀ H₀ F H σ ρ)(n:H r=none)(g:Grow none F H F' H')(ra:Dq (some r) F' H')(i:Nat):VR K (some r) F₀ H₀ F' H' (σ.set i (some (.ref r))) (ρ.set i (some .reel)):=by
 have R1:=R.grow g;refine⟨t9 R1.g ra,fun j w e=>?_,fun j k x y v hn e1 e2 o1 o2 s1 s2=>?_,fun j xs e=>?_,by simp[R.len]⟩
 · by_cases hj:i=j
   · subst hj
     have hi:i<ρ.length:=by
      rw[EW]at e;by_cases hi:i<ρ.length
      · exact hi
      · simp[hi]at e
     rw[Ep hi]at e;cases e;exact⟨.ref r,by rw[Ep (by rw[<- R.len];exact hi)],⟨r,rfl,rfl⟩,trivial⟩
   · rw[El hj]at e;obtain⟨v,h1,h2,h3⟩:=R1.sl j w e;refine⟨v,by rw[El hj];exact h1,vQ h2 fun a ow ea z=>?_,h3⟩;obtain⟨v0,h10,h20,_⟩:=R.sl j w e;rw[h1]at h10;cases h10;rcases ow with ow|⟨xs,rfl⟩
     · obtain⟨b,o,eb,hb⟩:=h20.live ow;rw[ea]at eb;cases eb;rw[z,n]at hb;cases hb
     · exact absurd e (R.np j xs)
 · have key:∀(m:Nat)(z:W),(ρ.set i (some W.reel))[m]?=some (some z)->z.own=true->i≠m/\ρ[m]?=some (some z):=fun m z e o=>by
     by_cases hm:i=m
     · subst hm;rw[EW]at e;split at e
       · split at e
         · cases e;cases o
         · cases e
       · exact absurd rfl (by assumption)
     · rw[El hm]at e;exact⟨hm,e⟩
   obtain⟨n1,d1⟩:=key j x e1 o1;obtain⟨n2,d2⟩:=key k y e2 o2;rw[El n1]at s1;rw[El n2]at s2;exact R1.ap j k x y v hn d1 d2 o1 o2 s1 s2
 · rw[EW]at e;split at e
   · split at e
     · cases e
     · cases e
   · exact R1.np j xs e
section
variable{X:Cx}{st:Stmt}{rest body:List Stmt}{t u:Dh}{a b c e:Expr}{es:List Expr}{fa fb:TV}{fs:Dg}{pos p px cpos:Pos}{ρ:En}
theorem rG(i:Nat){f:Str}{k:Nat}{pre:List W->Prop}(D:DfnR X.prog X.w X.K X.mg X.base f ps k pre)(hr:Room k X.A)(hN:X.N.Nodup)(ha:Dr X none (e::es) fs)(hrest:∀r,iK X (some r) rest t)
 (hi:autoParam (X.N[i]?=some x) æa._auto_1)(hx:autoParam (Loc X.env.scope x) æd._auto_1)(hg:autoParam (Gl X f) æa._auto_1)(hdb:autoParam ((f==("__debug__" : Str))=false) æb._auto_1)
 (he:autoParam (Ec (e::es) X.env=(false,eval e X.env)::Ec es X.env) æa._auto_1)(hpl:autoParam ((FN cpos (Ec es X.env)).any (·.1)=false) æa._auto_1)
 (hs:autoParam (Gx (.Call (.Name f p) (e::es) [] cpos) (some (.Name x px)) pos.line X.env=pure false) æa._auto_1)(hf:autoParam (X.fn x=true\/X.env.scope.names.lookup x=some .local) æe._auto_1) :
 iK X none (.Assign [.Name x px] (.Call (.Name f p) (e::es) [] cpos) pos::rest) (vj i pre fs t):=by
 obtain⟨fa,fd,hm,hk,hb,F⟩:=D.ex;obtain⟨ta,p1,k1⟩:=ha;refine⟨_,aT (cz hN hi hx (i5 F hr hg hm hk hb .nil wp p1 hdb he hpl) hs hf) (s_ X rest),fun{F₀ H₀ F H σ ρ} R Dv D ok q=>k1 R _ _ q fun vs ws F1 H1 g1 r1 ⟨ao,pw,q1⟩=>?_⟩;have R1:=R.grow g1;refine⟨F1,ws,g1.sub,by rw[FO];exact r1,ao,pw,fun r F2 H2 hr2 g2 ra=>?_⟩;intro pins s I;obtain⟨T,pT,kT⟩:=hrest r;have h0:H₀ r=none:=R1.g.freeB hr2;refine pT pins s _ H2 D I (kT (R1.into hr2 g2 ra i) _ D ⟨fun F3 H3 σ3 ρ3 s3 R3 q3=>?_,fun v w F3 H3 g3 r3 n3 q3=>?_,fun F3 H3 σ3 ρ3 s3 R3 q3=>?_,fun F3 H3 σ3 ρ3 s3 R3 q3=>?_⟩ q1)
 · exact ok.nx F3 H3 σ3 _ (g1.fs.trans (g2.fs.trans s3)) (R3.out h0) q3
 · exact ok.rt v w F3 H3 (j6 g3 h0) (l9 r3 q3.1) n3 q3.2
 · exact ok.bk F3 H3 σ3 _ (g1.fs.trans (g2.fs.trans s3)) (R3.out h0) q3
 · exact ok.ct F3 H3 σ3 _ (g1.fs.trans (g2.fs.trans s3)) (R3.out h0) q3
end
noncomputable def BR:Fl->Mo Fl
 | .nx ρ=>ret (.nx (nR ρ))
 | .rt w=>CU (w.isR=false) (ret (.rt w))
 | .bk ρ=>ret (.bk (nR ρ))
 | .ct ρ=>ret (.ct (nR ρ))
theorem s_newR(i:Nat)(pre:List W->Prop)(fs:Dg)(t:Dh)(ρ:En):mS (vj i pre fs t) ρ=C5 (fs ρ) fun ws=>CU (ws.all cN=true) (CU (pre ws) (C5 (mS t (ρ.set i (some .reel))) BR)):=nr rfl
theorem nR_nil:nR []=[]:=rfl
theorem nR_r(l:En):nR (some .reel::l)=none::nR l:=rfl
theorem nR_n(l:En):nR (none::l)=none::nR l:=rfl
theorem nR_d(x:D2)(l:En):nR (some (.d x)::l)=some (.d x)::nR l:=rfl
theorem nR_ml(x:List D2)(l:En):nR (some (.ml x)::l)=some (.ml x)::nR l:=rfl
theorem nR_sc(x:List Int)(l:En):nR (some (.sc x)::l)=some (.sc x)::nR l:=rfl
noncomputable def fJ(K:W.Frag):Sp:=fun vs H Q _=>∃(a:Addr)(ns:List Int),vs=[.ref a]/\Dn K H a (ns.map V.int)/\ns.length<=63/\∀H',Q (.bl true) H'
noncomputable def A_:VEnds:=⟨fun _=>False,fun w=>w = .d (.bool true),fun _=>False,fun _=>False⟩
noncomputable def uF:Fl->Prop
 | .rt w=>w = .d (.bool true)
 | _=>False
theorem un_law(m:Mo Fl):C5 m BR uF=m uF:=by
 show m (fun fl=>BR fl uF)=m uF;congr 1;funext fl
 cases fl with
 | rt w=>exact propext ⟨fun⟨_,h⟩=>h,fun h=>⟨by rw[show w = .d (.bool true)from h];rfl,h⟩⟩
 | _=>rfl
theorem tW:ret (Fl.rt (.d (.bool true))) uF:=rfl
section
variable{P:Ei}{w:EK}{K:W.Frag}{mg:Str->Option D4}{base:Heap}{st:Stmt}{N:List Str}{k:Nat}{t:Dh}{x:Str}
theorem tL(F:Fun K "law" "law" st f fd)(S:FnScope N [x] (defScope st))
 (hbody:∀(cdv:D4)(A:EH)(outer:List Env)(s:D6)(H:Hp)(E:XK),Room k (A.deeper (IE "law" (defScope st) s.heap.objs.size f cdv))->iK (ji DS P w K mg base N "law" (defScope st) f cdv A outer s H E).nox none (defBody st) t)
 (hread:∀ns:List Int,ns.length<=63->mS t (cy N [.sc ns]) uF):FnOk P w K mg base DS (k+1) f fd [x] (fJ K):=by
 refine F.ok S (fun vs H Q E h=>?_) (fun cdv A outer s H vs Q E hr h=>?_)
 · obtain⟨a,ns,rfl,_⟩:=h;rfl
 · obtain⟨a,ns,rfl,hS,hl,kq⟩:=h;obtain⟨T,p,kk⟩:=hbody cdv A outer s H E hr;have rw0:dJ K none H H [.ref a] [.sc ns]:=.cons ⟨a,rfl,hS⟩ .nil;have R:VR K none H H H H (start N [.ref a]) (cy N [.sc ns]):=fZ (.refl H) (fun _ z=>by cases z) rw0 rfl;refine⟨T,p,kk R A_ _ ⟨fun _ _ _ _ _ _ z=>E3 z,?_,fun _ _ _ _ _ _ z=>E3 z,fun _ _ _ _ _ _ z=>E3 z⟩ (hread ns hl)⟩;rintro v w1 F1 H1 g1 r1 n1 z;have z:w1 = .d (.bool true):=z;subst z;have e:=dO r1;subst e;exact kq H1
end
noncomputable def rV(i:Nat)(fa:TV):Dh:=fun D ρ=>fa ρ fun w=>∃d,w.fz = .d d/\D.nx (ρ.set i (some (.d d)))
section
variable{X:Cx}{rl:Option Addr}{st:Stmt}{rest body:List Stmt}{t u:Dh}{a b c e:Expr}{es:List Expr}{fa fb:TV}{fs:Dg}{f:TB}{pos p:Pos}{ρ:En}
theorem aC(i:Nat)(hN:X.N.Nodup)(he:PV X rl e fa)(hi:autoParam (X.N[i]?=some x) æa._auto_1)(hx:autoParam (Loc X.env.scope x) æd._auto_1)
 (hs:autoParam (Gx e (some (.Name x pos')) pos.line X.env=pure false) æa._auto_1)(hf:autoParam (X.fn x=true\/X.env.scope.names.lookup x=some .local) æe._auto_1) :
 Du X rl (.Assign [.Name x pos'] e pos) (rV i fa):=by
 obtain⟨t,p,k⟩:=he;refine⟨_,cz hN hi hx p hs hf,fun R Dv D ok q=>k R _ _ q fun v w F1 H1 g1 r1 n1 ⟨d,ed,q1⟩=>?_⟩;obtain⟨F2,g2,s2,r2⟩:=cO.fz g1 r1 n1;rw[ed]at r2;exact ok.nx _ _ _ _ g2.fs (R.set g2 r2 trivial (fun xs z=>by cases z) i) q1
theorem s_setZ(i:Nat):mS (rV i fa) ρ=C5 (fa ρ) fun w=>aq (asD w.fz) fun d=>ret (.nx (ρ.set i (some (.d d)))):=by
 show(C5 (fa ρ) fun w=>fun(Q:Fl->Prop)=>∃d,w.fz = .d d/\Q (.nx (ρ.set i (some (.d d)))))=_;congr 1;funext w;refine af fun Q=>?_;simp only[ag,du,ret]
end
section
variable{X:Cx}{rl:Option Addr}{elt tg iter:Expr}{ifs:List Expr}{scope:Scope}{pos:Pos}{fi:En->(List D2->Prop)->Prop}{g:Dk}{ft:TB}{fe:TV}
theorem b8(i:Nat){b:Bool}{spos:Pos}(hN:X.N.Nodup)(N':List Str)(fr:List (Option Nat))(hc:X.calm=true)(hi:Dx X rl tg iter fi)
 (hg:∀y,DA (C7 X N' scope y) rl tg g)(ht:∀y,uC (C7 X N' scope y) rl ifs ft)(he:∀y,PV (C7 X N' scope y) rl elt fe)
 (hsw:autoParam (Gx (.ListComp elt [⟨tg,iter,ifs,0⟩] scope pos) (some (.Name x px)) spos.line X.env=pure b) æa._auto_1)
 (hix:autoParam (X.N[i]?=some x) æa._auto_1)(hx:autoParam (Loc X.env.scope x) æd._auto_1)(hf:autoParam (X.fn x=true\/X.env.scope.names.lookup x=some .local) æe._auto_1)
 (hfr:autoParam (p8 fr N' X.N scope X.env.scope=true) æa._auto_1)(hsc:autoParam (sN scope X.env.scope=true) æa._auto_1)
 (hs:autoParam (∀x,FH iter X.env x=pure x) æc._auto_1):Du X rl (.Assign [.Name x px] (.ListComp elt [⟨tg,iter,ifs,0⟩] scope pos) spos) (rV i (jE fi fr g ft fe)):=by
 obtain⟨wi,p0,k0⟩:=hi;refine⟨_,kM N' fr hc p0 hfr hsc (fun y=>(EA (hg y)).1) (fun y=>(EA (ht y)).1) (fun y=>(EA (he y)).1) hN hix hx hf hsw hs,fun R Dv D ok q=>jU fr k0 hg ht he R _ _ q fun v w F1 H1 g1 r1 n1 ⟨d,ed,q1⟩=>?_⟩;obtain⟨F2,g2,s2,r2⟩:=cO.fz g1 r1 n1;rw[ed]at r2;exact ok.nx _ _ _ _ g2.fs (R.set g2 r2 trivial (fun xs z=>by cases z) i) q1
end
noncomputable def xN(xs:List Int):D2:=.tuple (xs.map .int)
noncomputable def y9(xs:List Int):D2:=.list (xs.map .int)
theorem cY:∀{xs ys:List Int},xs.map Et=ys.map Et↔xs=ys:=by
 intro xs ys;constructor
 · intro h;have:=congrArg dY h;rw[intsD_map,intsD_map]at this;exact EL this
 · rintro rfl;rfl
theorem jF{xs ys:List Int}:xN xs=xN ys↔xs=ys:=by
 unfold xN;rw[EY,cY]
theorem pK{xs ys:List Int}:y9 xs=y9 ys↔xs=ys:=by
 unfold y9;rw[KN.injEq,cY]
theorem bK{α:Type}{f:α->D2}(h:∀a b,f a=f b↔a=b):∀{xs ys:List α},xs.map f=ys.map f↔xs=ys
 | [],[]=>by simp
 | [],_::_=>by simp
 | _::_,[]=>by simp
 | x::xs,y::ys=>by simp[h,bK h (xs:=xs) (ys:=ys)]
noncomputable def yB(xs:List (List Int)):D2:=.tuple (xs.map xN)
theorem o0{xs ys:List (List Int)}:yB xs=yB ys↔xs=ys:=by
 unfold yB;rw[EY,bK fun _ _=>jF]
section
variable{α σ:Type}{fl:List Nat}{b:D2->En->Mo Fl}{k:En->Mo Fl}{Q:Fl->Prop}{ρ:En}
theorem fY{f:TB}{t:Dh}(st:σ->En)(c:σ->Bool)(nxt:σ->σ)(μ:σ->Nat)(I:σ->Prop)(s:σ)(h0:ρ=st s)(hs:I s)
 (hf:∀s,I s->f (st s)=ret (c s))(ht:∀s,I s->c s=true->I (nxt s)/\μ (nxt s)<μ s/\∃ρ',mS t (st s)=ret (.nx ρ')/\fo fl ρ'=st (nxt s))(fin:∀s,I s->c s=false->k (st s) Q):sq (fE fl f t ρ) k Q:=by
 subst h0;obtain⟨s',a,b,e⟩:=ly st c nxt μ I hf ht s hs;rw[e];exact fin s' a b
theorem n_{xs:List α}{enc:α->D2}(st:σ->En)(f:σ->α->σ)(s:σ)(I:σ->Prop)(h0:ρ=st s)(hx:xs'=xs.map enc)(hs:I s)(step:∀x∈xs,∀s,I s->I (f s x)/\∃ρ',b (enc x) (st s)=ret (.nx ρ')/\fo fl ρ'=st (f s x))
 (fin:k (st (xs.foldl f s)) Q):sq (cL fl b xs' ρ) k Q:=by
 subst h0 hx;rw[m_ st f s I hs step];exact fin
noncomputable def CD(fl:List Nat)(J:En->Prop)(k:En->Mo Fl)(Q:Fl->Prop):Fl->Prop
 | .nx ρ=>J (fo fl ρ)
 | .ct ρ=>J (fo fl ρ)
 | .bk ρ=>k (fo fl ρ) Q
 | .rt w=>Q (.rt w)
theorem ic{J:En->Prop}{ρ:En}(h:J (fo fl ρ)):CD fl J k Q (.nx ρ):=h
theorem wL{xs:List α}{enc:α->D2}(J:Nat->En->Prop)(hx:xs'=xs.map enc)(h0:J 0 ρ)
 (step:∀i (h:i<xs.length) ρ,J i ρ->∀K:Fl->Prop,(∀r,CD fl (J (i+1)) k Q r->K r)->b (enc xs[i]) ρ K)(fin:∀ρ,J xs.length ρ->k ρ Q):sq (cL fl b xs' ρ) k Q:=by
 subst hx;refine ng (Q:=fun r=>(match r with | .nx ρ=>k ρ | .rt w=>ret (.rt w) | .bk ρ=>ret (.bk ρ) | .ct ρ=>ret (.ct ρ):Mo Fl) Q) J h0 (fun i hi ρ j K hK=>step i hi ρ j K fun r hr=>hK r ?_) fin;cases r<;>exact hr
theorem nK{lo:Int}(J:Nat->En->Prop)(h0:J 0 ρ)
 (step:∀i,i<n->∀ρ,J i ρ->∀K:Fl->Prop,(∀r,CD fl (J (i+1)) k Q r->K r)->b (.int (lo+i)) ρ K)(fin:∀ρ,J n ρ->k ρ Q):sq (cL fl b (aV lo n) ρ) k Q:=by
 refine pL (Q:=fun r=>(match r with | .nx ρ=>k ρ | .rt w=>ret (.rt w) | .bk ρ=>ret (.bk ρ) | .ct ρ=>ret (.ct ρ):Mo Fl) Q) J h0 (fun i hi ρ j K hK=>step i hi ρ j K fun r hr=>hK r ?_) fin;cases r<;>exact hr
theorem ui{xs:List α}{enc:α->D2}(hx:xs'=xs.map enc)(step:∀x∈xs,∀K:Fl->Prop,(∀r,CD fl (fun ρ'=>ρ'=ρ) k Q r->K r)->b (enc x) ρ K)(fin:k ρ Q):sq (cL fl b xs' ρ) k Q :=
 wL (fun _ ρ'=>ρ'=ρ) hx rfl (fun i h ρ' e K hK=>by subst e;exact step _ (Ho h) K hK) fun ρ' e=>by subst e;exact fin
theorem j_{lo:Int}(step:∀i,i<n->∀K:Fl->Prop,(∀r,CD fl (fun ρ'=>ρ'=ρ) k Q r->K r)->b (.int (lo+i)) ρ K)(fin:k ρ Q):sq (cL fl b (aV lo n) ρ) k Q :=
 nK (fun _ ρ'=>ρ'=ρ) rfl (fun i h ρ' e K hK=>by subst e;exact step i h K hK) fun ρ' e=>by subst e;exact fin
end
section
variable{α β:Type}{b:D2->Mo (Option D2)}{k:List D2->Mo β}{Q:β->Prop}
theorem xx{xs:List α}{enc:α->D2}(f:α->Option D2)(hx:xs'=xs.map enc)(h:∀x∈xs,b (enc x)=ret (f x))(hl:xs.length<=sizeLine)(fin:k (xs.filterMap f) Q):C5 (b7 b xs' []) k Q:=by
 subst hx;rw[oo f h hl];exact fin
theorem cC{xs:List α}{enc:α->D2}(f:α->D2)(hx:xs'=xs.map enc)(h:∀x∈xs,b (enc x)=ret (some (f x)))(hl:xs.length<=sizeLine)(fin:k (xs.map f) Q):C5 (b7 b xs' []) k Q:=by
 subst hx;rw[comp_map f h hl];exact fin
theorem qh{lo:Int}(P:D2->Prop)(h:∀j,j<n->∀K:Option D2->Prop,(∀d,P d->K (some d))->b (.int (lo+j)) K)(hl:n<=sizeLine)(fin:∀ds:List D2,ds.length=n->(∀d∈ds,P d)->k ds Q):C5 (b7 b (aV lo n) []) k Q :=
 ot P h hl fin
end
section
variable{α β:Type}
theorem mX{i:Int}{k:D2->Mo β}{Q:β->Prop}(h0:0<=i)(h1:i<(xs.length:Int))(h:∀z∈xs,k z Q):aq (atI xs i) k Q:=by
 obtain⟨z,e,m⟩:=zq h0 h1;rw[e];exact h z m
theorem fQ{xs:List α}{enc:α->D2}{i:Int}{k:D2->Mo β}{Q:β->Prop}(P:α->Prop)(hx:xs'=xs.map enc)(h0:0<=i)(h1:i<(xs.length:Int))(hP:∀z∈xs,P z)(h:∀z,P z->k (enc z) Q):aq (atI xs' i) k Q:=by
 subst hx;refine mX h0 (by simpa using h1) fun z mz=>?_;obtain⟨x,hx,rfl⟩:=EV.mp mz;exact h x (hP x hx)
end
section
variable{X:Cx}{rl:Option Addr}{a b c o e:Expr}{es:List Expr}{fa fb:TV}{fs:Dg}{pos p apos cpos:Pos}{ρ:En}
noncomputable def BP(g:List D2->List W->(W->Prop)->Prop)(fa:TV)(fs:Dg):TV:=fun ρ Q=>fa ρ fun x=>∃xs,x.dat=some (.list xs)/\fs ρ fun ws=>g xs ws Q
theorem m_vML(g:List D2->List W->(W->Prop)->Prop):BP g fa fs ρ=C5 (fa ρ) fun x=>aq (Db x) fun xs=>C5 (fs ρ) fun ws=>g xs ws:=by
 show(C5 (fa ρ) fun x=>fun(Q:W->Prop)=>∃xs,x.dat=some (.list xs)/\fs ρ fun ws=>g xs ws Q)=_;congr 1;funext x;refine af fun Q=>?_;rw[ag];simp only[fV];exact Jg
noncomputable def n6:List D2->List W->(W->Prop)->Prop:=fun xs ws Q=>∃(bs:List Bool)(k:Bool),xs=bs.map .bool/\ws=[.d (.bool k)]/\Q (.d (.int (bs.count k)))
theorem m_gCountB(xs:List D2)(w:W):n6 xs [w]=aq (rb xs) fun bs=>aq (asB w) fun k=>ret (.d (.int (bs.count k))):=by
 refine af fun Q=>?_;simp only[n6,ag,fu,ret,Eu,and_true];constructor
 · rintro⟨bs,k,rfl,e,q⟩;exact⟨bs,blsD_map bs,k,e,q⟩
 · rintro⟨bs,e,k,e',q⟩;exact⟨bs,k,jm e,e',q⟩
noncomputable def wY:W->W->(W->Prop)->Prop:=fun x y Q=>∃b c,x = .d (.bool b)/\y = .d (.bool c)/\Q (.d (.bool (b != c)))
theorem m_gNotB(x y:W):wY x y=aq (asB x) fun i=>aq (asB y) fun j=>ret (.d (.bool (i != j))):=by
 refine af fun Q=>?_;simp only[ag,fu,wY,ret];exact⟨fun⟨i,j,a,b,q⟩=>⟨i,a,j,b,q⟩,fun⟨i,a,j,b,q⟩=>⟨i,j,a,b,q⟩⟩
end
end L2.VL
namespace L2
section
variable{X:Cx}{pos:Pos}
end
end L2
namespace L2.VL
section
variable{X:Cx}{rl:Option Addr}{es:List Expr}{pos:Pos}{ρ:En}
noncomputable def AB(n:Nat)(gs:ln):Dk:=fun x ρ Q=>∃xs,x = .list xs/\xs.length=n/\gs xs ρ Q
theorem m_hLst(n:Nat){gs:ln}(x:D2):AB n gs x ρ=aq (lstD x) fun xs=>CU (xs.length=n) (gs xs ρ):=by
 refine af fun Q=>?_;simp only[ag,tR,AB,CU]
end
section
variable{α:Type}{a0 a1 a2 a3 a4 a5 a6 a7 a8 a9 a10 a11 a12 a13 a14 a15 a16 a17 a18 a19 x y:α}{l:List α}
theorem gt0:(x::l)[0]?=some x:=nr rfl
theorem st0:(x::l).set 0 y=y::l:=nr rfl
theorem gt1:(a0::x::l)[1]?=some x:=nr rfl
theorem st1:(a0::x::l).set 1 y=a0::y::l:=nr rfl
theorem gt2:(a0::a1::x::l)[2]?=some x:=nr rfl
theorem st2:(a0::a1::x::l).set 2 y=a0::a1::y::l:=nr rfl
theorem gt3:(a0::a1::a2::x::l)[3]?=some x:=nr rfl
theorem st3:(a0::a1::a2::x::l).set 3 y=a0::a1::a2::y::l:=nr rfl
theorem gt4:(a0::a1::a2::a3::x::l)[4]?=some x:=nr rfl
theorem st4:(a0::a1::a2::a3::x::l).set 4 y=a0::a1::a2::a3::y::l:=nr rfl
theorem gt5:(a0::a1::a2::a3::a4::x::l)[5]?=some x:=nr rfl
theorem st5:(a0::a1::a2::a3::a4::x::l).set 5 y=a0::a1::a2::a3::a4::y::l:=nr rfl
theorem gt6:(a0::a1::a2::a3::a4::a5::x::l)[6]?=some x:=nr rfl
theorem st6:(a0::a1::a2::a3::a4::a5::x::l).set 6 y=a0::a1::a2::a3::a4::a5::y::l:=nr rfl
theorem gt7:(a0::a1::a2::a3::a4::a5::a6::x::l)[7]?=some x:=nr rfl
theorem st7:(a0::a1::a2::a3::a4::a5::a6::x::l).set 7 y=a0::a1::a2::a3::a4::a5::a6::y::l:=nr rfl
theorem gt8:(a0::a1::a2::a3::a4::a5::a6::a7::x::l)[8]?=some x:=nr rfl
theorem st8:(a0::a1::a2::a3::a4::a5::a6::a7::x::l).set 8 y=a0::a1::a2::a3::a4::a5::a6::a7::y::l:=nr rfl
theorem gt9:(a0::a1::a2::a3::a4::a5::a6::a7::a8::x::l)[9]?=some x:=nr rfl
theorem st9:(a0::a1::a2::a3::a4::a5::a6::a7::a8::x::l).set 9 y=a0::a1::a2::a3::a4::a5::a6::a7::a8::y::l:=nr rfl
theorem gt10:(a0::a1::a2::a3::a4::a5::a6::a7::a8::a9::x::l)[10]?=some x:=nr rfl
theorem st10:(a0::a1::a2::a3::a4::a5::a6::a7::a8::a9::x::l).set 10 y=a0::a1::a2::a3::a4::a5::a6::a7::a8::a9::y::l:=nr rfl
theorem gt11:(a0::a1::a2::a3::a4::a5::a6::a7::a8::a9::a10::x::l)[11]?=some x:=nr rfl
theorem st11:(a0::a1::a2::a3::a4::a5::a6::a7::a8::a9::a10::x::l).set 11 y=a0::a1::a2::a3::a4::a5::a6::a7::a8::a9::a10::y::l:=nr rfl
theorem gt12:(a0::a1::a2::a3::a4::a5::a6::a7::a8::a9::a10::a11::x::l)[12]?=some x:=nr rfl
theorem st12:(a0::a1::a2::a3::a4::a5::a6::a7::a8::a9::a10::a11::x::l).set 12 y=a0::a1::a2::a3::a4::a5::a6::a7::a8::a9::a10::a11::y::l:=nr rfl
theorem gt13:(a0::a1::a2::a3::a4::a5::a6::a7::a8::a9::a10::a11::a12::x::l)[13]?=some x:=nr rfl
theorem st13:(a0::a1::a2::a3::a4::a5::a6::a7::a8::a9::a10::a11::a12::x::l).set 13 y=a0::a1::a2::a3::a4::a5::a6::a7::a8::a9::a10::a11::a12::y::l:=nr rfl
theorem gt14:(a0::a1::a2::a3::a4::a5::a6::a7::a8::a9::a10::a11::a12::a13::x::l)[14]?=some x:=nr rfl
theorem st14:(a0::a1::a2::a3::a4::a5::a6::a7::a8::a9::a10::a11::a12::a13::x::l).set 14 y=a0::a1::a2::a3::a4::a5::a6::a7::a8::a9::a10::a11::a12::a13::y::l:=nr rfl
theorem gt15:(a0::a1::a2::a3::a4::a5::a6::a7::a8::a9::a10::a11::a12::a13::a14::x::l)[15]?=some x:=nr rfl
theorem st15:(a0::a1::a2::a3::a4::a5::a6::a7::a8::a9::a10::a11::a12::a13::a14::x::l).set 15 y=a0::a1::a2::a3::a4::a5::a6::a7::a8::a9::a10::a11::a12::a13::a14::y::l:=nr rfl
theorem gt16:(a0::a1::a2::a3::a4::a5::a6::a7::a8::a9::a10::a11::a12::a13::a14::a15::x::l)[16]?=some x:=nr rfl
theorem st16:(a0::a1::a2::a3::a4::a5::a6::a7::a8::a9::a10::a11::a12::a13::a14::a15::x::l).set 16 y=a0::a1::a2::a3::a4::a5::a6::a7::a8::a9::a10::a11::a12::a13::a14::a15::y::l:=nr rfl
theorem gt17:(a0::a1::a2::a3::a4::a5::a6::a7::a8::a9::a10::a11::a12::a13::a14::a15::a16::x::l)[17]?=some x:=nr rfl
theorem st17:(a0::a1::a2::a3::a4::a5::a6::a7::a8::a9::a10::a11::a12::a13::a14::a15::a16::x::l).set 17 y=a0::a1::a2::a3::a4::a5::a6::a7::a8::a9::a10::a11::a12::a13::a14::a15::a16::y::l:=nr rfl
theorem gt18:(a0::a1::a2::a3::a4::a5::a6::a7::a8::a9::a10::a11::a12::a13::a14::a15::a16::a17::x::l)[18]?=some x:=nr rfl
theorem st18:(a0::a1::a2::a3::a4::a5::a6::a7::a8::a9::a10::a11::a12::a13::a14::a15::a16::a17::x::l).set 18 y=a0::a1::a2::a3::a4::a5::a6::a7::a8::a9::a10::a11::a12::a13::a14::a15::a16::a17::y::l:=nr rfl
theorem gt19:(a0::a1::a2::a3::a4::a5::a6::a7::a8::a9::a10::a11::a12::a13::a14::a15::a16::a17::a18::x::l)[19]?=some x:=nr rfl
theorem st19:(a0::a1::a2::a3::a4::a5::a6::a7::a8::a9::a10::a11::a12::a13::a14::a15::a16::a17::a18::x::l).set 19 y=a0::a1::a2::a3::a4::a5::a6::a7::a8::a9::a10::a11::a12::a13::a14::a15::a16::a17::a18::y::l:=nr rfl
end
section
variable{a0 a1 a2 a3 a4 a5 a6 a7 a8 a9 a10 a11 a12 a13 a14 a15 a16 a17 a18 a19:Option W}{w:W}{l:En}
theorem vv0:fy 0 (some w::l)=ret w.peek:=(bq 0).trans rfl
theorem vv1:fy 1 (a0::some w::l)=ret w.peek:=(bq 1).trans rfl
theorem vv2:fy 2 (a0::a1::some w::l)=ret w.peek:=(bq 2).trans rfl
theorem vv3:fy 3 (a0::a1::a2::some w::l)=ret w.peek:=(bq 3).trans rfl
theorem vv4:fy 4 (a0::a1::a2::a3::some w::l)=ret w.peek:=(bq 4).trans rfl
theorem vv5:fy 5 (a0::a1::a2::a3::a4::some w::l)=ret w.peek:=(bq 5).trans rfl
theorem vv6:fy 6 (a0::a1::a2::a3::a4::a5::some w::l)=ret w.peek:=(bq 6).trans rfl
theorem vv7:fy 7 (a0::a1::a2::a3::a4::a5::a6::some w::l)=ret w.peek:=(bq 7).trans rfl
theorem vv8:fy 8 (a0::a1::a2::a3::a4::a5::a6::a7::some w::l)=ret w.peek:=(bq 8).trans rfl
theorem vv9:fy 9 (a0::a1::a2::a3::a4::a5::a6::a7::a8::some w::l)=ret w.peek:=(bq 9).trans rfl
theorem vv10:fy 10 (a0::a1::a2::a3::a4::a5::a6::a7::a8::a9::some w::l)=ret w.peek:=(bq 10).trans rfl
theorem vv11:fy 11 (a0::a1::a2::a3::a4::a5::a6::a7::a8::a9::a10::some w::l)=ret w.peek:=(bq 11).trans rfl
theorem vv12:fy 12 (a0::a1::a2::a3::a4::a5::a6::a7::a8::a9::a10::a11::some w::l)=ret w.peek:=(bq 12).trans rfl
theorem vv13:fy 13 (a0::a1::a2::a3::a4::a5::a6::a7::a8::a9::a10::a11::a12::some w::l)=ret w.peek:=(bq 13).trans rfl
theorem vv14:fy 14 (a0::a1::a2::a3::a4::a5::a6::a7::a8::a9::a10::a11::a12::a13::some w::l)=ret w.peek:=(bq 14).trans rfl
theorem vv15:fy 15 (a0::a1::a2::a3::a4::a5::a6::a7::a8::a9::a10::a11::a12::a13::a14::some w::l)=ret w.peek:=(bq 15).trans rfl
theorem vv16:fy 16 (a0::a1::a2::a3::a4::a5::a6::a7::a8::a9::a10::a11::a12::a13::a14::a15::some w::l)=ret w.peek:=(bq 16).trans rfl
theorem vv17:fy 17 (a0::a1::a2::a3::a4::a5::a6::a7::a8::a9::a10::a11::a12::a13::a14::a15::a16::some w::l)=ret w.peek:=(bq 17).trans rfl
theorem vv18:fy 18 (a0::a1::a2::a3::a4::a5::a6::a7::a8::a9::a10::a11::a12::a13::a14::a15::a16::a17::some w::l)=ret w.peek:=(bq 18).trans rfl
theorem vv19:fy 19 (a0::a1::a2::a3::a4::a5::a6::a7::a8::a9::a10::a11::a12::a13::a14::a15::a16::a17::a18::some w::l)=ret w.peek:=(bq 19).trans rfl
end
section
variable{f1 f2 f3 f4 f5 f6 f7 f8 f9:TV}{fs:Dg}{ρ:En}
theorem vk1:aH f1 oM ρ=C5 (f1 ρ) fun w1=>ret [w1.fz]:=nr rfl
theorem vk2:(aH f1 (aH f2 oM)) ρ=C5 (f1 ρ) fun w1=>C5 (f2 ρ) fun w2=>ret [w1.fz,w2.fz]:=nr rfl
theorem vk3:(aH f1 (aH f2 (aH f3 oM))) ρ=C5 (f1 ρ) fun w1=>C5 (f2 ρ) fun w2=>C5 (f3 ρ) fun w3=>ret [w1.fz,w2.fz,w3.fz]:=nr rfl
theorem vk4:(aH f1 (aH f2 (aH f3 (aH f4 oM)))) ρ=C5 (f1 ρ) fun w1=>C5 (f2 ρ) fun w2=>C5 (f3 ρ) fun w3=>C5 (f4 ρ) fun w4=>ret [w1.fz,w2.fz,w3.fz,w4.fz]:=nr rfl
theorem vk5:(aH f1 (aH f2 (aH f3 (aH f4 (aH f5 oM))))) ρ=C5 (f1 ρ) fun w1=>C5 (f2 ρ) fun w2=>C5 (f3 ρ) fun w3=>C5 (f4 ρ) fun w4=>C5 (f5 ρ) fun w5=>ret [w1.fz,w2.fz,w3.fz,w4.fz,w5.fz]:=nr rfl
theorem vk6:(aH f1 (aH f2 (aH f3 (aH f4 (aH f5 (aH f6 oM)))))) ρ=C5 (f1 ρ) fun w1=>C5 (f2 ρ) fun w2=>C5 (f3 ρ) fun w3=>C5 (f4 ρ) fun w4=>C5 (f5 ρ) fun w5=>C5 (f6 ρ) fun w6=>ret [w1.fz,w2.fz,w3.fz,w4.fz,w5.fz,w6.fz]:=nr rfl
theorem vk7:(aH f1 (aH f2 (aH f3 (aH f4 (aH f5 (aH f6 (aH f7 oM))))))) ρ=C5 (f1 ρ) fun w1=>C5 (f2 ρ) fun w2=>C5 (f3 ρ) fun w3=>C5 (f4 ρ) fun w4=>C5 (f5 ρ) fun w5=>C5 (f6 ρ) fun w6=>C5 (f7 ρ) fun w7=>ret [w1.fz,w2.fz,w3.fz,w4.fz,w5.fz,w6.fz,w7.fz]:=nr rfl
theorem vk8:(aH f1 (aH f2 (aH f3 (aH f4 (aH f5 (aH f6 (aH f7 (aH f8 oM)))))))) ρ=C5 (f1 ρ) fun w1=>C5 (f2 ρ) fun w2=>C5 (f3 ρ) fun w3=>C5 (f4 ρ) fun w4=>C5 (f5 ρ) fun w5=>C5 (f6 ρ) fun w6=>C5 (f7 ρ) fun w7=>C5 (f8 ρ) fun w8=>ret [w1.fz,w2.fz,w3.fz,w4.fz,w5.fz,w6.fz,w7.fz,w8.fz]:=nr rfl
theorem vk9:(aH f1 (aH f2 (aH f3 (aH f4 (aH f5 (aH f6 (aH f7 (aH f8 (aH f9 fs))))))))) ρ=C5 (f1 ρ) fun w1=>C5 (f2 ρ) fun w2=>C5 (f3 ρ) fun w3=>C5 (f4 ρ) fun w4=>C5 (f5 ρ) fun w5=>C5 (f6 ρ) fun w6=>C5 (f7 ρ) fun w7=>C5 (f8 ρ) fun w8=>C5 (aH f9 fs ρ) fun ws=>ret (w1.fz::w2.fz::w3.fz::w4.fz::w5.fz::w6.fz::w7.fz::w8.fz::ws):=nr rfl
theorem vk0:oM ρ=ret []:=nr rfl
end
noncomputable def zG:=D0 @bnd_tt (D0 @bnd_ret (D0 @bnd_bnd (D0 @bnd_grd (D0 @bnd_stk (D0 @bnd_ite (D0 @bnd_opt (D0 @opt_some (D0 @opt_none (D0 @grd_T (D0 @sq_nx (D0 @sq_rt (D0 @sq_bk (D0 @sq_ct (D0 @sq_grd (D0 @sq_stk (D0 @sq_ite (D0 @sq_sq (@kc_ap))))))))))))))))))
noncomputable def zK:=D0 @ite_nx (D0 @ite_rt (D0 @ite_retd (D0 @ite_retb (D0 @ite_rets (D0 @ite_cons (D0 @ite_some (D0 @ite_d (D0 @ite_pi (D0 @ite_pb (D0 @itb_tt (D0 @itb_ff (D0 @itb_ft (D0 @itb_tf (@ite_self.{1}))))))))))))))
noncomputable def zN:=D0 @m_vC (D0 @m_vOp (D0 @m_gI (D0 @m_gI0 (D0 @m_vNeg (D0 @m_vTest (D0 @m_gEqD (D0 @m_gInD (D0 @m_vAnd (D0 @m_vOr (D0 @m_vNot (D0 @m_vAndV (D0 @m_vOrV (D0 @m_vNotV (D0 @m_vIf (D0 @m_vTup (D0 @m_vLst (D0 @m_gIx (D0 @m_vCall (D0 @m_gAbs (D0 @m_gLen (D0 @m_gRepr (D0 @m_gIsi (@m_gStrI)))))))))))))))))))))))
noncomputable def zM:=D0 @m_gTupO (D0 @m_gLstO (D0 @m_gIsB (D0 @m_gIsN (D0 @m_gI2 (D0 @m_gDivmod (D0 @m_gInt1 (D0 @m_oNo (D0 @m_oIt (D0 @m_vSlL (D0 @m_vSlA (D0 @m_gCatD (D0 @m_gCatA (D0 @m_vChain (D0 @m_vLR1 (D0 @m_vLR2 (D0 @m_vTR1 (D0 @m_iL (D0 @m_iT (D0 @m_iR1 (D0 @m_iR2 (D0 @m_iZb (D0 @m_vUse (@m_vUseL)))))))))))))))))))))))
noncomputable def zL:=D0 @m_gAll (D0 @m_gRepT (D0 @m_gRepL (D0 @m_vRevT (D0 @m_vRevL (D0 @m_gEqS (D0 @m_vTGet (D0 @m_gSrtT (D0 @m_comp (D0 @m_gLenS (D0 @m_gIxS (D0 @m_vSlS (D0 @m_hLst (D0 @m_vML (D0 @m_gCountB (@m_gNotB)))))))))))))))
noncomputable def zz:=D0 @s_next (D0 @s_seq (D0 @s_drop (D0 @s_ret (D0 @s_retN (D0 @s_ifS (D0 @s_set (D0 @s_setZ (D0 @s_never (D0 @s_asg (D0 @s_par (D0 @s_par3 (D0 @s_aug (D0 @s_augL (D0 @s_frz (D0 @s_mut (D0 @s_retO (D0 @s_appPop (D0 @s_for (D0 @bdy_ap (D0 @s_while (D0 @s_newR (D0 @m_hName (@m_hNil_n)))))))))))))))))))))))
noncomputable def zy:=D0 @m_hCons_c (D0 @m_hTup (D0 @m_gApp (@m_gExt)))
noncomputable def zC:=D0 @pk_sc (D0 @fz_sc (D0 @arg_sc (D0 @isPk_sc (D0 @asI_d (D0 @asB_d (D0 @asS_d (D0 @asD_d (D0 @asT_d (D0 @asL_d (D0 @asL_ml (D0 @asL_pk (D0 @asQ_d (D0 @asQ_ml (D0 @asQ_pk (D0 @lstD_l (D0 @tupD_t (D0 @toI_i (D0 @toI_b (D0 @isiT_t (D0 @asM_ml (D0 @asSc_s (D0 @two_d (@fz_d)))))))))))))))))))))))
noncomputable def zB:=D0 @fz_ml (D0 @fz_pk (D0 @fz_reel (D0 @fz_vv (D0 @pk_d (D0 @pk_ml (D0 @pk_reel (D0 @pk_vv (D0 @dat_d (D0 @dat_ml (D0 @dat_pk (D0 @isPk_d (D0 @isPk_ml (D0 @isPk_reel (D0 @dats_nil (D0 @dats_d (D0 @arg_d (D0 @arg_reel (D0 @item_l (D0 @item_t (D0 @len_l (D0 @len_t (D0 @seq_l (@seq_t)))))))))))))))))))))))
noncomputable def zA:=D0 @at0 (D0 @at1 (D0 @blsD_map (D0 @tup2 (D0 @fo_nil (D0 @fo_cons (D0 @nR_nil (D0 @nR_r (D0 @nR_n (D0 @nR_d (D0 @nR_ml (D0 @nR_sc (D0 @le_nil (D0 @le_cn (D0 @le_cs (D0 @end_d (D0 @end_ml (D0 @end_nx (@un_law))))))))))))))))))
noncomputable def zJ:=D0 @Er.{0,0} (D0 @FV.{0,0} (D0 @EQ.{0} (D0 @Gy.{0} (D0 @List.set_nil.{0} (D0 @List.cons_append.{0} (D0 @List.nil_append.{0} (D0 @List.all_cons.{0} (D0 @List.all_nil.{0} (D0 @List.head?_cons.{0} (D0 @Bool.and_true (D0 @Option.some.injEq.{0} (D0 @Option.map_some.{0,0} (D0 @Option.bind_some.{0,0} (D0 @Option.bind_none.{0,0} (D0 @Option.join_some.{0} (D0 @Option.join_none.{0} (D0 @FQ (D0 @and_self (D0 @and_true (D0 @true_and (D0 @shaped_i (D0 @eqv_ii (@shaped_b)))))))))))))))))))))))
noncomputable def zH:=D0 @Bool.true_and (D0 @Bool.and_self (D0 @Hd (D0 @Bool.not_false (D0 @Eb.{0,0} (D0 @Fm (D0 @Bool.true_eq_false (D0 @decide_true (D0 @decide_false (D0 @List.isEmpty_cons.{0} (D0 @Iq.{0} (@List.isEmpty_map.{0,0})))))))))))
noncomputable def zF:=D0 @gt0 (D0 @gt1 (D0 @gt2 (D0 @gt3 (D0 @gt4 (D0 @gt5 (D0 @gt6 (D0 @gt7 (D0 @gt8 (D0 @gt9 (D0 @gt10 (D0 @gt11 (D0 @gt12 (D0 @gt13 (D0 @gt14 (D0 @gt15 (D0 @gt16 (D0 @gt17 (D0 @gt18 (D0 @gt19 (D0 @st0 (D0 @st1 (D0 @st2 (@st3)))))))))))))))))))))))
noncomputable def zE:=D0 @st4 (D0 @st5 (D0 @st6 (D0 @st7 (D0 @st8 (D0 @st9 (D0 @st10 (D0 @st11 (D0 @st12 (D0 @st13 (D0 @st14 (D0 @st15 (D0 @st16 (D0 @st17 (D0 @st18 (D0 @st19 (D0 @vv0 (D0 @vv1 (D0 @vv2 (D0 @vv3 (D0 @vv4 (D0 @vv5 (D0 @vv6 (@vv7)))))))))))))))))))))))
noncomputable def zD:=D0 @vv8 (D0 @vv9 (D0 @vv10 (D0 @vv11 (D0 @vv12 (D0 @vv13 (D0 @vv14 (D0 @vv15 (D0 @vv16 (D0 @vv17 (D0 @vv18 (D0 @vv19 (D0 @vk0 (D0 @vk1 (D0 @vk2 (D0 @vk3 (D0 @vk4 (D0 @vk5 (D0 @vk6 (D0 @vk7 (D0 @vk8 (@vk9)))))))))))))))))))))
section
variable{α β:Type}
end
noncomputable def C3(c:Addr)(a l t:Int):HO:=.lst [.ref c,.int a,.int l,.int t]
theorem cS{K:W.Frag}{xs:List V}{k:Int}{Q:VK}(h:H r=some (.lst xs))(e:L2.atI xs k=some v)(q:Q v H):Ci K (.ref r) (.int k) H Q:=.inl ⟨r,xs,k,v,rfl,rfl,.inl (.inl h),e,q⟩
theorem kX{xs:List V}{k:Int}{Q:Hp->Prop}(h:H r=some (.lst xs))(e:ixN xs.length k=some j)(q:Q (upd H r (.lst (xs.set j v)))):vS (.ref r) (.int k) v H Q:=⟨r,xs,k,j,rfl,rfl,h,e,q⟩
theorem gL{k:Int}(h0:0<=k)(h1:k.toNat<ns.length):L2.atI (ns.map V.int) k=some (.int ns[k.toNat]):=by
 obtain⟨n,rfl⟩:=Go h0;have h1:n<ns.length:=h1;exact jn (by rw[E6,EB h1];rfl)
theorem CJ{b:Bool}{A B:Prop}(h:b=true)(a:A):if b=true then A else B:=by rw[if_pos h];exact a
theorem CL{b:Bool}{A B:Prop}(h:b=false)(x:B):if b=true then A else B:=by rw[if_neg (by rw[h];decide)];exact x
theorem yk{l:Int}(h:l≠0):decide (V.int l=V.int 0)=false:=decide_eq_false fun z=>h (by injection z)
theorem Grow.turn{o:HO}(s:be F H)(ra:Dq (some r) F H)(h:RO F o):Grow (some r) F H F (upd H r o):=by
 have fr:F r=none:=(ra r rfl).1;have neF:∀b u,F b=some u->b≠r:=fun b u q z=>by subst z;rw[fr]at q;cases q
 refine⟨fun b u q n=>by rw[upd_ne (fun z=>n (by rw[z]))];exact q,.refl F,fun b u q=>by rw[upd_ne (neF b u q)];exact s b u q,fun _ _ _=>rfl,fun y z=>?_⟩;cases z;exact⟨fr,⟨o,ak,h⟩⟩
section
variable{P:Ei}{w:EK}{K:W.Frag}{mg:Str->Option D4}{base:Heap}{rl:Option Addr}{x:Str}{st:Stmt}{N ps:List Str}{k:Nat}{Pd:List W->(D2->Prop)->Prop}
theorem Dfn.hand(Fn:FnIn K mg x st ps)(S:FnScope N ps (defScope st))(mono:∀ws Q Q',(∀d,Q d->Q' d)->Pd ws Q->Pd ws Q')(len:∀ws Q,Pd ws Q->ws.length=ps.length)
 (h:∀(f:Addr)(cdv:D4)(A:EH)(outer:List Env)(s:D6)(H:Hp)(E:XK) vs ws F (Q:D2->Prop) (Qv:VK),Room k (A.deeper (IE x (defScope st) s.heap.objs.size f cdv))->be F H->Dq rl F H->dJ K rl F H vs ws->Pd ws Q->(∀v F' H' d,Grow rl F H F' H'->Rep K F' v d->Q d->Qv v H') ->
  ∃T,Dt (ji DS P w K mg base N x (defScope st) f cdv A outer s H E).nox (defBody st) T/\T {nx:=fun _ H'=>Qv .non H',rt:=Qv} (start N vs) H):Dfn P w K mg base rl x ps (k+1) Pd:=by
 obtain⟨f,fd,hm,F,hb⟩:=Fn.ex;refine⟨mono,f,fd,hm,F.kp,hb,?_⟩;refine F.ok S (fun vs H Q E ⟨F,ws,_,_,r,_,q⟩=>(Gk r).trans (len ws _ q)) fun cdv A outer s H vs Q E hr h=>?_;obtain⟨F,ws,sm,ra,r,ok,q⟩:=h;exact h f cdv A outer s H E vs ws F _ Q hr sm ra r q fun v F' H' d g rp qd=>qd v F' H' g rp
end
end L2.VL
namespace L2.TI
section
variable{prog:Ei}{w:EK}{A:EH}{E:D4->D6->Prop}{s:D6}{t:Addr}{vs:List D4}{ns:List Int}{k:Int}{tok:Tok}{j:Nat}
theorem eV:∀{vs:List D4}{ns:List Int}{i:Nat}{n:Int},GP vs ns->ns[i]?=some n->∃u,vs[i]?=some (.int n u)
 | _,_,_,_,.nil,e=>by simp at e
 | _,_,0,_,.cons n t r,e=>by simp at e;subst e;exact⟨t,rfl⟩
 | _,_,i+1,_,.cons n t r,e=>by
   obtain⟨u,h⟩:=eV (i:=i) r (by simpa using e);exact⟨u,by simpa using h⟩
theorem scan{Q:Option Fin×Unit->D6->Prop}(hI:GP vs ns)(hj:ns[j]?=some k)(hno:∀m,m<j->ns[m]?≠some k)(q:Q (some (.done (.ret (.int j s.toks))),()) {s with toks:=s.toks+1}) :
 ∀ len start:Nat,start<=j->j<start+len->Es (EJ prog w) A (forIn (List.range' start len) ((none,()):Option Fin×Unit) fun(i:Nat)(_:Option Fin×Unit) =>
   match vs.toArray[i]? with
   | some y=>do
     let b <- eqBool y (IA k tok)
     if b=true then do
      let r <- retInt (i:Int)
      pure (ForInStep.done (some r,()))
     else pure (G6 (none,()))
   | _=>pure (G6 (none,()))) Q E s
 | 0,start,h1,h2=>by omega
 | len+1,start,h1,h2=>by
   rw[List.range'_succ,J9];have hl:start<ns.length:=by have:=(Ek.mp hj).1;omega
   obtain⟨u,hu⟩:=eV (i:=start) (n:=ns[start]) hI (EB hl);have hv:vs.toArray[start]?=some (.int ns[start] u):=by simpa using hu
   refine D1 ?_;rw[hv];refine D1 (wpAny_eqBool_int ?_);by_cases e:ns[start]=k
   · have es:start=j:=by
       rcases Nat.lt_or_eq_of_le h1 with z|z
       · exact absurd (by rw[EB hl,e]) (hno start z)
       · exact z
     subst es;rw[if_pos (by simpa using e)];exact D1 (D1 (wpAny_mkInt (D5 (D5 (D5 q)))))
   · rw[if_neg (by simpa using e)];refine D5 ?_;have ne:start≠j:=fun z=>by subst z;rw[EB hl]at hj;exact e (EL hj)
     exact scan hI hj hno q len (start+1) (by omega) (by omega)
theorem body(tp:IsTup s.heap t vs.toArray)(hI:GP vs ns)(hj:ns[j]?=some k)(hno:∀m,m<j->ns[m]?≠some k)
 (q:R (.ok (.ret (.int j s.toks))) {s with toks:=s.toks+1}) :
 Es (EJ prog w) A.in1 (Builtin.«tuple.index» ⟨[.ref t,.int k tok],[]⟩) (fun fin s'=>match fin with | .done f=>R (.ok f) s' | .again c'=>c'.quiet=true/\Hf (EJ prog w) A c' R s') (fun e s'=>R (.error e) s') s:=by
 unfold Builtin.«tuple.index»;show Es _ _ (do let z <- IT (.ref t);_) _ _ s;refine D1 (tupleItemsOf_ tp ?_);refine D1 (D5 (D1 (D5 ?_)));dsimp only;rw[Std.Legacy.Range.forIn_eq_forIn_range']
 have hl:j<vs.toArray.size:=by
  have h1:=(Ek.mp hj).1;have h2:=hI.length;simp only[Ej];omega
 refine D1 (scan hI hj hno ?_ _ 0 (Gg _) ?_)
 · exact D5 q
 · show j<0+Std.Legacy.Range.size _;simp[Std.Legacy.Range.size];simpa using hl
end
end L2.TI
namespace L2
section
variable{X:Cx}
end
end L2
namespace L2.VL
section
variable{X:Cx}{rl:Option Addr}{a b c o e:Expr}{es:List Expr}{fa fb:TV}{fs:Dg}{pos p apos cpos:Pos}{ρ:En}
end
noncomputable def fr(q:Rat):D2:=.tuple [.int q.num,.int q.den]
theorem iz{r:Rat}(h:fr q=fr r):q=r:=by
 simp only[fr,EY,Eu,Gh,and_true]at h;exact Rat.ext h.1 (by omega)
theorem di(n:Int)(d:Nat)(h:d≠0):qO n d=fr (JE n d h):=by
 unfold qO fr;rw[Rat.normalize_eq];have g:(EM n d:Int)=((n.natAbs.gcd d:Nat):Int):=by simp[EM]
 have gp:0<n.natAbs.gcd d:=Nat.gcd_pos_of_pos_right _ (by omega);have e1:n.fdiv (EM n d)=n / ((n.natAbs.gcd d:Nat):Int):=by rw[g,EI _ (by omega)]
 have e2:(d:Int).fdiv (EM n d)=((d / n.natAbs.gcd d:Nat):Int):=by rw[g,EI _ (by omega),Int.natCast_ediv]
 rw[e1,e2]
theorem eQ{a:Int}(hb:0<b):qO a b=fr ((a:Rat) / (b:Rat)):=by
 obtain⟨d,rfl⟩:=Go (show 0<=b by omega);rw[di a d (by omega)];congr 1;have:(JE a d (by omega))=mkRat a d:=by rw[Rat.normalize_eq_mkRat]
 rw[this,Rat.mkRat_eq_div];rfl
theorem xk(q r:Rat):qO (q.num*r.den+r.num*q.den) (q.den*r.den)=fr (q+r):=by
 have:=di (q.num*r.den+r.num*q.den) (q.den*r.den) (Kc q.den_nz r.den_nz);rw[Kd]at this;rw[this,Rat.add_def]
theorem xi(q r:Rat):qO (q.num*r.den-r.num*q.den) (q.den*r.den)=fr (q-r):=by
 have:=di (q.num*r.den-r.num*q.den) (q.den*r.den) (Kc q.den_nz r.den_nz);rw[Kd]at this;rw[this,Rat.sub_def]
theorem xj(q r:Rat):qO (q.num*r.num) (q.den*r.den)=fr (q*r):=by
 have:=di (q.num*r.num) (q.den*r.den) (Kc q.den_nz r.den_nz);rw[Kd]at this;rw[this,Rat.mul_def]
noncomputable def Cm(n:Nat)(q:Rat):Prop:=q.num.natAbs<2^n/\q.den<2^n
theorem Cm.mono{m:Nat}(h:Cm n q)(hm:n<=m):Cm m q:=⟨D9 h.1 (Ez (by decide) hm),D9 h.2 (Ez (by decide) hm)⟩
theorem gJ{i:Int}(h:i.natAbs<2^2000):DT i:=D9 h (Ez (by decide) (by decide))
theorem Cm.bn(h:Cm 2000 q):DT q.num:=gJ h.1
theorem Cm.bd(h:Cm 2000 q):DT (q.den:Int):=gJ (by rw[Ge];exact h.2)
theorem den_pos(q r:Rat):(0:Int)<(q.den:Int)*(r.den:Int):=IF (by have:=q.den_nz;omega) (by have:=r.den_nz;omega)
theorem eY{r:Rat}(h:Cm 2000 q)(h':Cm 2000 r):((q.den:Int)*(r.den:Int)).natAbs<2^8000:=by
 rw[Hj,Ge,Ge];have:q.den*r.den<2^2000*2^2000:=JP h.2 h'.2;rw[<- LL]at this;exact D9 this (Ez (by decide) (by decide))
inductive Sd where
 | to (t:Rat)|from(a b:Rat)|round (a b:Rat)
noncomputable def Sd.last:Sd->Rat
 | .to t=>t | .from _ b=>b | .round _ b=>b
noncomputable def Ce:Sd->D2
 | .to t=>.tuple [.str "to", fr t]
 | .from a b=>.tuple [.str "from", fr a,fr b]
 | .round a b=>.tuple [.str "round", fr a,fr b]
noncomputable def mx(q r:Rat):Rat:=if q<r then r else q
theorem fr0:pr 0 1=fr 0:=rfl
theorem fr1:pr 1 1=fr 1:=rfl
theorem Bk:Cm 60 0:=⟨by decide,by decide⟩
theorem Ay:Cm 60 1:=⟨by decide,by decide⟩
theorem i6{n:Int}{d k:Nat}(hd:d≠0)(h1:n.natAbs<2^k)(h2:d<2^k):Cm k (JE n d hd):=by
 rw[Rat.normalize_eq];refine⟨?_,I_ (Nat.div_le_self _ _) h2⟩;show(n / ((n.natAbs.gcd d:Nat):Int)).natAbs<2^k;have hdv:((n.natAbs.gcd d:Nat):Int)∣n:=Int.ofNat_dvd_left.mpr (Nat.gcd_dvd_left _ _);rw[Int.natAbs_ediv_of_dvd hdv,Ge];exact I_ (Nat.div_le_self _ _) h1
theorem b6{a b m:Nat}(h1:a<2^m)(h2:b<2^n):a*b<2^(m+n):=by
 rw[LL];exact JP h1 h2
theorem jS{m:Nat}{r:Rat}(h:Cm m q)(h':Cm n r):Cm (m+n) (q*r):=by
 rw[Rat.mul_def];refine i6 _ ?_ (b6 h.2 h'.2);rw[Hj];exact b6 h.1 h'.1
theorem oH{m:Nat}{r:Rat}(h:Cm m q)(h':Cm n r):Cm (m+n+1) (q+r):=by
 rw[Rat.add_def];have a1:=b6 h.1 h'.2;have a2:=b6 h'.1 h.2;rw[Nat.add_comm n m]at a2;have a3:=b6 h.2 h'.2;refine i6 _ ?_ (D9 a3 (Ez (by decide) (by omega)));have t:=Int.natAbs_add_le (q.num*r.den) (r.num*q.den);rw[Hj,Hj,Ge,Ge]at t;rw[HA];omega
theorem qF{m:Nat}{r:Rat}(h:Cm m q)(h':Cm n r):Cm (m+n+1) (q-r):=by
 rw[Rat.sub_eq_add_neg];exact oH h ⟨by rw[Rat.neg_num,Int.natAbs_neg];exact h'.1,h'.2⟩
theorem Cm.up(h:Cm 60 q):Cm 2000 q:=h.mono (by decide)
noncomputable def q0(ss:List Sd):D2:=.tuple (ss.map Ce)
noncomputable def Co(qs:List Rat):D2:=.tuple (qs.map fr)
noncomputable def sZ(ps:List (List Rat)):D2:=.tuple (ps.map Co)
theorem at_last2{α:Type}(x y:α):L2.atI [x,y] (-1)=some y:=rfl
theorem at_last3{α:Type}(x y z:α):L2.atI [x,y,z] (-1)=some z:=rfl
theorem oa{α:Type}(p:α->Bool)(f:α->D2):∀xs:List α,(xs.filterMap fun x=>if p x=true then some (f x)else none).length=(xs.filter p).length
 | []=>rfl
 | x::xs=>by
   have ih:=oa p f xs;cases h:p x<;>simp[h,ih]
theorem at_last1{α:Type}(x:α):L2.atI [x] (-1)=some x:=rfl
theorem gB{r:Rat}:fr q=fr r↔q=r:=⟨iz,fun h=>by rw[h]⟩
theorem cJ{s t:Sd}:Ce s=Ce t↔s=t:=by
 constructor
 · intro h;have n1:¬(Ft "from" = Ft "round"):=by decide +kernel
   cases s<;>cases t<;>simp[Ce,gB,n1,GM n1]at h ⊢ <;> first|exact h|exact(n1 h.1.symm).elim|exact(n1 h.1).elim
 · rintro rfl;rfl
theorem cK{a b:List Rat}:Co a=Co b↔a=b:=by
 unfold Co;rw[EY,bK fun _ _=>gB]
theorem bT{a b:List Sd}:q0 a=q0 b↔a=b:=by
 unfold q0;rw[EY,bK fun _ _=>cJ]
theorem bM{a b:List (List Rat)}:sZ a=sZ b↔a=b:=by
 unfold sZ;rw[EY,bK fun _ _=>cK]
theorem cM{a b:List Rat}:a.map fr=b.map fr↔a=b:=bK fun _ _=>gB
theorem item_fr0(q:Rat):itemAt (fr q) 0=some (.int q.num):=rfl
theorem item_fr1(q:Rat):itemAt (fr q) 1=some (.int q.den):=rfl
theorem tupD_pt(a:List Rat):tupD (Co a)=some (a.map fr):=rfl
theorem seqD_pt(a:List Rat):fL (Co a)=some (a.map fr):=rfl
theorem lenD_pt(a:List Rat):tU (Co a)=some a.length:=by show some (a.map fr).length=_;rw[Eb]
theorem item_pt(a:List Rat)(i:Int):itemAt (Co a) i=(atI a i).map fr:=jo _ _ _
theorem tupD_bx(a:List Sd):tupD (q0 a)=some (a.map Ce):=rfl
theorem seqD_bx(a:List Sd):fL (q0 a)=some (a.map Ce):=rfl
theorem lenD_bx(a:List Sd):tU (q0 a)=some a.length:=by show some (a.map Ce).length=_;rw[Eb]
theorem item_bx(a:List Sd)(i:Int):itemAt (q0 a) i=(atI a i).map Ce:=jo _ _ _
theorem tupD_ps(a:List (List Rat)):tupD (sZ a)=some (a.map Co):=rfl
theorem seqD_ps(a:List (List Rat)):fL (sZ a)=some (a.map Co):=rfl
theorem lenD_ps(a:List (List Rat)):tU (sZ a)=some a.length:=by show some (a.map Co).length=_;rw[Eb]
theorem item_ps(a:List (List Rat))(i:Int):itemAt (sZ a) i=(atI a i).map Co:=jo _ _ _
theorem kind_pt(a:List Rat):dH (Co a)=dH (.tuple []):=rfl
theorem kind_bx(a:List Sd):dH (q0 a)=dH (.tuple []):=rfl
noncomputable def qd(a b:Int):Rat:=(a:Rat) / (b:Rat)
theorem ie{a:Int}(hb:0<b):Il [.int (a.fdiv (EM a b)),.int (b.fdiv (EM a b))]=fr (qd a b):=eQ hb
theorem mv(q:Rat):qd q.num q.den=q:=by
 unfold qd;have:=Rat.mkRat_self q;rw[Rat.mkRat_eq_div]at this;exact this
theorem vW(q r:Rat):qd (q.num*r.den+r.num*q.den) (q.den*r.den)=q+r:=iz (by rw[<- xk];exact(eQ (den_pos q r)).symm)
theorem vT(q r:Rat):qd (q.num*r.den-r.num*q.den) (q.den*r.den)=q-r:=iz (by rw[<- xi];exact(eQ (den_pos q r)).symm)
theorem vU(q r:Rat):qd (q.num*r.num) (q.den*r.den)=q*r:=iz (by rw[<- xj];exact(eQ (den_pos q r)).symm)
theorem eZ(q:Rat):(0:Int)<(q.den:Int):=by have:=q.den_nz;omega
theorem yU{a:Int}{k:Nat}(hb:0<b)(h1:a.natAbs<2^k)(h2:b.natAbs<2^k):Cm k (qd a b):=by
 obtain⟨d,rfl⟩:=Go (show 0<=b by omega);have hd:d≠0:=by omega
 have e:qd a d=JE a d hd:=iz (by rw[<- di,eQ (by omega)];rfl);rw[e];exact i6 _ h1 (by simpa using h2)
theorem at2(x y z:α)(r:List α):L2.atI (x::y::z::r) 2=some z:=by
 rw[show(2:Int)=((2:Nat):Int)from rfl];exact jn rfl
theorem pc{a:Int}(hb:0<b)(h:0<=a):0<=qd a b:=by
 unfold qd;have h1:(0:Rat)<=(a:Rat):=by exact_mod_cast h
 have h2:(0:Rat)<(b:Rat):=by exact_mod_cast hb
 rw[H0];exact Rat.mul_nonneg h1 (Rat.le_of_lt (Rat.inv_pos.mpr h2))
theorem qG{a:Int}(hb:0<b)(h:a<b):qd a b<1:=by
 unfold qd;have h1:(a:Rat)<(b:Rat):=by exact_mod_cast h
 have h2:(0:Rat)<(b:Rat):=by exact_mod_cast hb
 exact(Rat.div_lt_iff h2).mpr (by rw[Rat.one_mul];exact h1)
noncomputable def DX:=D0 @item_fr0 (D0 @item_fr1 (D0 @tupD_pt (D0 @seqD_pt (D0 @lenD_pt (D0 @item_pt (D0 @tupD_bx (D0 @seqD_bx (D0 @lenD_bx (D0 @item_bx (D0 @tupD_ps (D0 @seqD_ps (D0 @lenD_ps (D0 @item_ps (D0 @at_last1 (D0 @at_last2 (D0 @at_last3 (D0 @kind_pt (D0 @kind_bx (D0 @fr0 (@fr1))))))))))))))))))))
noncomputable def fv(b:Int):List Int->Rat
 | []=>0
 | d::ds=>((d:Rat)+fv b ds) / (b:Rat)
noncomputable def nv(b:Int):List Int->Int
 | []=>0
 | d::ds=>d+b*nv b ds
noncomputable def tv(b:Int)(ds:List Int):Int:=ds.foldl (fun t d=>t*b+d) 0
noncomputable def ix(p:List Int)(f:Int):Int:=(p.idxOf f:Int)
noncomputable def Fx(b:Int)(N:Nat)(q:Rat):Prop:=∃(T:Int)(k:Nat),q=qd T (b^k)/\0<=T/\T<b^k/\b^k<2^N
section
variable{X:Cx}{rl:Option Addr}{e:Expr}{fa:TV}{pos dpos q1 q2 q3 q4:Pos}{ρ:En}{j1 j2 j3 j4:Nat}{a b x y:Str}
end
theorem qz:qB "int" = true:=by decide
theorem qA:qB "bool" = true:=by decide
theorem vy:qB "tuple" = true:=by decide
theorem sf(q:Rat):tupD (fr q)=some [.int q.num,.int q.den]:=rfl
theorem qX(a b:Rat):EU (fr a) (fr b)=decide (a=b):=by
 unfold fr;simp only[EU,JF];by_cases h:a=b
 · subst h;simp[EU]
 · have:¬(a.num=b.num/\a.den=b.den):=fun z=>h (Rat.ext z.1 z.2);simp only[h,decide_false,Bool.and_true,EU];rw[Bool.and_eq_false_iff];by_cases h1:a.num=b.num
   · right
     have:a.den≠b.den:=fun z=>this ⟨h1,z⟩;simp;omega
   · left;simpa using h1
theorem gZ(q:Rat):E4 (fr q)=true:=by
 simp[E4,fr,KC,Gu,Lw,HM]
theorem iw(q:Rat):EM q.num q.den=1:=by
 have:=q.reduced;simpa[EM,KP]using this
noncomputable def q9:Rat:=⟨999999999998,999999999999,by decide,by decide⟩
theorem nB(h:jX d "tuple" = true):∃xs,d = .tuple xs:=by cases d<;>simp[jX,BV]at h<;>exact⟨_,rfl⟩
theorem eX:∀a b:List Int,JF (a.map .int) (b.map .int)=decide (a=b)
 | [],[]=>rfl
 | [],_::_=>rfl
 | _::_,[]=>rfl
 | x::a,y::b=>by
   simp only[Er,JF,eqv_ii,eX a b];by_cases h:x=y<;>by_cases h2:a=b<;>simp[h,h2]
theorem j9(a b:List Int):EU (.list (a.map .int)) (.list (b.map .int))=decide (a=b):=by
 simp only[EU,eX]
noncomputable def io(d:D2)(m:Int):Bool:=match d with
 | .int k=>decide (0<=k)&&decide (k<m)
 | _=>false
theorem im(i:Int):bV (.int i)=true:=qR.mpr ⟨i,rfl⟩
theorem pQ(h:bV d=false):io d m=false:=by
 cases d<;>first|rfl|(rw[im]at h;cases h)
theorem nD(h:io d m=true):∃k,d = .int k/\0<=k/\k<m:=by
 cases d<;>first|cases h|skip
 rename_i k;refine⟨k,rfl,?_⟩;simpa[io]using h
theorem kz(h:xs.length=2):∃x y,xs=[x,y]:=match xs,h with | [x,y],_=>⟨x,y,rfl⟩
end L2.VL
namespace L2
theorem k7{prog:Ei}{kx vx target:Expr}{it:D4}{D:Addr}{env:Env}(I:Nat->D6->Prop)
 (turn:∀n s,I n s->Es (EJ prog w) A (IB it) (fun r s₁=>(r=none/\R (.ok .next) s₁)\/∃v,r=some v /\
  Es (EJ prog w) A (HG target it v) (fun _ s₂=>Es (EJ prog w) A (HE target env v) (fun _ s₃=>Es (EJ prog w) A (iQ ifs env) (fun ok s₄ =>
   if ok=true then Es (EJ prog w) A (eval kx env) (fun x s₅=>Es (EJ prog w) A (eval vx env) (fun y s₆=>Es (EJ prog w) A (dictSet D x y) (fun _ s₇=>∃m,m<n/\I m s₇) (fun _ _=>False) s₆) (fun _ _=>False) s₅) (fun _ _=>False) s₄
   else ∃m,m<n/\I m s₄) (fun _ _=>False) s₃) (fun _ _=>False) s₂) (fun _ _=>False) s₁) (fun _ _=>False) s)
 (n:Nat)(h:I n s):Hf (EJ prog w) A (.compLoop (.DictComp kx vx [⟨target,iter,ifs,0⟩] scope pos) 0 it (.ref D) env) R s:=by
 refine codeAny_loop rfl I (fun n s hI=>?_) n h;show Es _ A ((compTurn (.DictComp kx vx [⟨target,iter,ifs,0⟩] scope pos) 0 it (.ref D) env).onRaise (fun x=>do Jq x env;theTreesLotGoes x)) _ _ s;refine wpAny_noted ?_;rw[compTurn_dict];refine D1 (Gm (D1 (ER (turn n s hI) (fun r s₁ h₁=>?_) fun _ _ h'=>h'.elim)));rcases h₁ with⟨rfl,h₁⟩|⟨v,rfl,h₁⟩
 · exact D5 h₁
 · refine D1 (ER h₁ (fun _ s₂ h₂=>D1 (ER h₂ (fun _ s₃ h₃=>D1 (ER h₃ (fun ok s₄ h₄=>?_) fun _ _ z=>z.elim)) fun _ _ z=>z.elim)) fun _ _ z=>z.elim)
   cases ok with
   | false=>exact D5 ⟨rfl,h₄⟩
   | true=>exact D1 (D1 (ER h₄ (fun x s₅ h₅=>D1 (Fg (ER h₅ (fun y s₆ h₆=>D1 (Gm (Fg (ER h₆ (fun _ s₇ h₇=>D5 ⟨rfl,h₇⟩) fun _ _ z=>z.elim)))) fun _ _ z=>z.elim))) fun _ _ z=>z.elim))
noncomputable def lS(wi:TI)(fr:List (Option Nat))(g:CompA->TG)(tt:CompA->TT)(tk te:CompA->TE):TE:=fun σ H Q=>wi σ H fun J H1=>∀D,H1 D=none->∃Wv:Nat->Nat->List (DH×V)->St->Hp->Prop,(∃m,Wv 0 m [] (n9 fr σ) (upd H1 D (.dK []))) /\
 ∀ (z:CompA) i m acc σc H,Wv i m acc σc H->(J.stop i H/\Q (.ref D) H)\/(J.go i H/\∀x H',J.yld i H x H'->g z x σc H' fun σ2 H2=>tt z σ2 H2 fun b H3 =>
   if b=true then tk z σ2 H3 fun ky H4=>te z σ2 H4 fun y H5=>∃k:DH,ky=kV k/\H5 D=some (.dK acc)/\acc.length<sizeLine/\∃m',m'<m/\Wv (i+1) m' (mF acc k y) σ2 (upd H5 D (.dK (mF acc k y)))else ∃m',m'<m/\Wv (i+1) m' acc σ2 H3)
theorem fg{kx vx:Expr}{g:TG}{tt:TT}{tk te:TE}{H3:Hp}{s3:D6}{D:Addr}{tn:Nat->Heap->Prop}{J:It}{Q:VK}
 (N':List Str)(fr:List (Option Nat))(hc:X.calm=true)(hkind:scope.kind = .function)(hcell:∀y∈scope.names,y.2 = .cell->scope.names.lookup y.1=some .cell)
 (hfree:∀y∈scope.names,y.2 = .free->X.env.kindOf y.1=some .cell\/X.env.kindOf y.1=some .free)(frl:fr.length=N'.length)
 (frg:∀(i j:Nat),fr[i]?=some (some j)->∃x,N'[i]?=some x/\X.N[j]?=some x/\scope.names.lookup x=some .free/\(X.env.scope.names.lookup x=some .cell\/X.env.scope.names.lookup x=some .free))
 (cl1:∀x c,cl.lookup x=some c->X.env.cells.lookup x=some c)(cl2:∀x,(x,EX)∈scope.names->(cl.lookup x).isSome=true)
 (I3:Inv X pins σ H3 s3)(T:Turn X.prog X.w X.K tg J fp it tn)(tn3:tn 0 s3.heap)(fpD:∀b∈fp,H3 b=none)(fp3:∀b∈fp,b<s3.heap.objs.size)
 (fpk:∀b∈fp,b≠X.env.locals/\b∉X.fs/\(b∈X.ex\/X.s₀.heap.objs.size<=b)/\(∀x c,X.env.cells.lookup x=some c->c≠b)/\∀p∈X.pn++pins,p.1≠b)
 (hg:PG (aM X N' scope cl fp (X.pn++pins) s3 H3) tg g)(ht:Ds (aM X N' scope cl fp (X.pn++pins) s3 H3) ifs tt)(hk:PE (aM X N' scope cl fp (X.pn++pins) s3 H3) kx tk)(he:PE (aM X N' scope cl fp (X.pn++pins) s3 H3) vx te)
 {Wv:Nat->Nat->List (DH×V)->St->Hp->Prop}{m0:Nat}(w0:Wv 0 m0 [] (n9 fr σ) H3)
 (turn:∀i m acc σc H,Wv i m acc σc H->(J.stop i H/\Q (.ref D) H)\/(J.go i H/\∀x H',J.yld i H x H'->g x σc H' fun σ2 H2=>tt σ2 H2 fun b H3 =>
  if b=true then tk σ2 H3 fun ky H4=>te σ2 H4 fun y H5=>∃k:DH,ky=kV k/\H5 D=some (.dK acc)/\acc.length<sizeLine/\∃m',m'<m/\Wv (i+1) m' (mF acc k y) σ2 (upd H5 D (.dK (mF acc k y)))else ∃m',m'<m/\Wv (i+1) m' acc σ2 H3))
 (fin:∀s5 H4 m,s5.heap.Ns s3.heap.objs.size m->(∀h',GV s3.heap.objs.size s5.heap h'->Inv X pins σ H4 {s5 with heap:=h' })->lu X pins H4 s3.heap.objs.size->Q (.ref D) H4->Rp s3.heap.objs.size (.ok .next) s5) :
 Es (EJ X.prog X.w) X.A (Ih scope X.env.globals cl [] X.env.qual none .none (some X.env)) (fun cenv s₄ =>
  Hf (EJ X.prog X.w) X.A (.compStart (.DictComp kx vx [⟨tg,iter,ifs,0⟩] scope pos) 0 (.ref it) (.ref D) {cenv with scope:=LU scope X.env})
   (Rp cenv.locals) s₄) X.xe s3:=by
 refine e8 N' fr hc hkind hcell hfree frl frg cl1 cl2 I3 T tn3 fpD fp3 fpk (fun s' IY tY stat=>?_) fin
 have loop:Hf (EJ X.prog X.w) X.A (.compLoop (.DictComp kx vx [⟨tg,iter,ifs,0⟩] scope pos) 0 (.ref it) (.ref D) (aM X N' scope cl fp (X.pn++pins) s3 H3).env)
  (fun r s5=>r = .ok .next/\∃σ5 H4,Inv (aM X N' scope cl fp (X.pn++pins) s3 H3) [] σ5 H4 s5/\Q (.ref D) H4) s':=by
  refine k7 (fun n s'=>∃i acc σ' H',Inv (aM X N' scope cl fp (X.pn++pins) s3 H3) [] σ' H' s'/\tn i s'.heap/\(∀b∈fp,H' b=none)/\Wv i n acc σ' H') ?_ m0
   ⟨0,[],_,_,IY,tY,fpD,w0⟩
  rintro n s4 ⟨i,acc,σ4,H4,I4,st4,fr4,w4⟩;rcases turn i n acc σ4 H4 w4 with⟨stop,qn⟩|⟨go,step⟩
  · exact BY (T.done (aM X N' scope cl fp (X.pn++pins) s3 H3) rfl rfl rfl hc i [] s4 σ4 H4 (fun _ _=>False) I4 (stat fr4) st4 stop) fun r s5 ⟨hr,I5⟩=>.inl ⟨hr,rfl,σ4,H4,I5,qn⟩
  · refine BY (T.item (aM X N' scope cl fp (X.pn++pins) s3 H3) rfl rfl rfl hc i [] s4 σ4 H4 (fun _ _=>False) I4 (stat fr4) st4 go) fun r s5 ⟨u,hr,h5⟩=>.inr ⟨u,hr,?_⟩;refine BY h5 fun _ s6 ⟨x,H6,I6,r6,y6,st6,fr6⟩=>?_;have I6':=I6.pinned (stat fr6) (T.obj _ _ st6)
    have again:∀{σ7:St}{H7:Hp}{s7:D6},Inv (aM X N' scope cl fp (X.pn++pins) s3 H3) ([]++fN fp s6.heap) σ7 H7 s7->∀{acc':List (DH×V)}{m':Nat},m'<n->Wv (i+1) m' acc' σ7 H7 ->
     ∃m,m<n/\∃i acc σ' H',Inv (aM X N' scope cl fp (X.pn++pins) s3 H3) [] σ' H' s7/\tn i s7.heap/\(∀b∈fp,H' b=none)/\Wv i m acc σ' H':=fun{σ7 H7 s7} I7 {acc' m'} hm w7=>by
     refine⟨m',hm,i+1,acc',σ7,H7,I7.unpinned,T.keep _ _ _ st6 fun b hb o e=>(I7.pin (b,o) (EF _ (EF _ (bJ hb e)))).1,fun b hb=>?_,w7⟩;obtain⟨o,e,d⟩:=T.obj _ _ st6 b hb;exact(I7.pin (b,o) (EF _ (EF _ (bJ hb e)))).2.1
    refine BY (hg _ s6 σ4 H6 x u _ I6' r6 (step x H6 y6)) fun _ s7 ⟨σ7,H7,I7,q7⟩=>?_;refine BY (ht _ s7 σ7 H7 _ I7 q7) fun ok s8 ⟨H8,I8,q8⟩=>?_
    cases ok with
    | false =>
      rw[if_neg EC]at q8 ⊢;obtain⟨m',hm,w8⟩:=q8
      exact again I8 hm w8
    | true =>
      rw[if_pos rfl]at q8 ⊢;refine BY (hk _ s8 σ7 H8 _ I8 q8) fun ku s9 ⟨ky,H9,I9,rk,q9⟩=>?_;refine BY (he _ s9 σ7 H9 _ I9 q9) fun y s10 ⟨yv,H10,I10,r10,k,ek,eD,hl,m',hm,w10⟩=>?_;subst ek;obtain⟨z,hd,vs,rel,dd⟩:=zo I10.hok eD;have hz:vs.length<=sizeLine:=by rw[<- rel.length];exact z
      have hl2:(mF acc k yv).length<=sizeLine:=by have:=jc acc k yv;omega
      refine wpAny_dictSet_pairs (hsz:=hz) (tZ rk) dd fun h' dd' hs=>?_;have hex:∃q,h'.get? D=some q:=let ⟨q,_,_,hq,_⟩:=dd';⟨q,hq⟩
      exact again (oh I10 (by rw[eD];exact Hz) hs hex (dk_new hl2 hd (rel.put k r10) dd')) hm w10
 exact codeAny_compStart_dict loop (T.self X.A 0 _ _ _ tY loop)
section
variable{X:Cx}{kx vx tg iter:Expr}{ifs:List Expr}{scope:Scope}{pos:Pos}{wi:TI}{g:CompA->TG}{tt:CompA->TT}{tk te:CompA->TE}
theorem pC(N':List Str)(fr:List (Option Nat))(hc:X.calm=true)(hi:PI X tg iter wi)(hfr:p8 fr N' X.N scope X.env.scope=true)(hsc:sN scope X.env.scope=true)
 (hg:∀y,PG (C7 X N' scope y) tg (g y))(ht:∀y,Ds (C7 X N' scope y) ifs (tt y))(hk:∀y,PE (C7 X N' scope y) kx (tk y))(he:∀y,PE (C7 X N' scope y) vx (te y))
 (hs:autoParam (∀x,FH iter X.env x=pure x) æc._auto_1):PE X (.DictComp kx vx [⟨tg,iter,ifs,0⟩] scope pos) (lS wi fr g tt tk te):=by
 intro pins s σ H Q I h;obtain⟨sk,sn⟩:=Ea.mp hsc;have hkind:scope.kind = .function:=of_decide_eq_true sk;have hall:=GY.mp sn
 have hcell:∀y∈scope.names,y.2 = .cell->scope.names.lookup y.1=some .cell:=fun y hy hl=>by
  rcases EE.mp (Ea.mp (Ea.mp (hall y hy)).1).1 with z|z
  · exact absurd hl (of_decide_eq_true z)
  · exact of_decide_eq_true z
 have hnames:∀y∈scope.names,y.2 = .local->scope.names.lookup y.1=some .local:=fun y hy hl=>by
  rcases EE.mp (Ea.mp (Ea.mp (hall y hy)).1).2 with z|z
  · exact absurd hl (of_decide_eq_true z)
  · exact of_decide_eq_true z
 have hfree:∀y∈scope.names,y.2 = .free->X.env.kindOf y.1=some .cell\/X.env.kindOf y.1=some .free:=fun y hy hl=>by
  rcases EE.mp (Ea.mp (hall y hy)).2 with z|z
  · exact absurd hl (of_decide_eq_true z)
  · exact(EE.mp z).imp of_decide_eq_true of_decide_eq_true
 obtain⟨frl,frg⟩:=p8.get hfr;obtain⟨cl,hclos,cl1,cl2⟩:=cj (env:=X.env) (scope:=scope) fun y hy hl=>I.ok.has y.1 (hfree y hy hl);rw[arm_eval_DictComp];refine GQ (use:=none) rfl hs hclos hkind hnames (BY (hi pins s σ H _ I h) fun v s1 h1=>BY h1 fun itv s2 h2=>?_);obtain⟨it,fp,tn,J,H2,e,I2,T,st2,f2,q2⟩:=h2;subst e;refine EN ?_;have hD:H2 s2.heap.objs.size=none:=I2.hok.fresh (Ef _)
 have I3:Inv X pins σ (upd H2 s2.heap.objs.size (.dK [])) {s2 with heap:=s2.heap.push {cls:=.type "dict", data:=.dict #[]}} :=
  I2.laid (t':=s2.toks) (fun b u e=>D3 _ e) (Ef _) (ka s2.heap I2.big)
 obtain⟨Wv,⟨m0,w0⟩,turn⟩:=q2 _ hD;have tn3:tn 0 (s2.heap.push {cls:=.type "dict", data:=.dict #[]}):=T.keep _ _ _ st2 fun b _ o e=>D3 _ e
 have fpD:∀b∈fp,(upd H2 s2.heap.objs.size (.dK [])) b=none:=fun b hb=>by
  obtain⟨o,e,_⟩:=T.obj _ _ st2 b hb;rw[upd_ne (Ey (D_ e))];exact(f2 b hb).1
 have fp3:∀b∈fp,b<(s2.heap.push {cls:=.type "dict", data:=.dict #[]}).objs.size:=fun b hb=>by
  obtain⟨o,e,_⟩:=T.obj _ _ tn3 b hb;exact D_ e
 exact fg N' fr hc hkind hcell hfree frl frg cl1 cl2 I3 T tn3 fpD fp3 (fun b hb=>(f2 b hb).2) (hg ⟨cl,fp,X.pn++pins,_,_⟩) (ht ⟨cl,fp,X.pn++pins,_,_⟩) (hk ⟨cl,fp,X.pn++pins,_,_⟩) (he ⟨cl,fp,X.pn++pins,_,_⟩) w0 (turn ⟨cl,fp,X.pn++pins,_,_⟩)
  (Rp:=compPost (EJ X.prog X.w) X.A X.xe none (EP X pins σ Q) (.ref s2.heap.objs.size)) fun s5 H4 m hn k _ qn=>⟨m,hn,fun h' hs'=>⟨.ref _,H4,k h' hs',rfl,qn⟩⟩
theorem iZ{b:Bool}{spos:Pos}{ix:Nat}(N':List Str)(fr:List (Option Nat))(hc:X.calm=true)(hi:PI X tg iter wi)(hfr:p8 fr N' X.N scope X.env.scope=true)(hsc:sN scope X.env.scope=true)
 (hg:∀y,PG (C7 X N' scope y) tg (g y))(ht:∀y,Ds (C7 X N' scope y) ifs (tt y))(hk:∀y,PE (C7 X N' scope y) kx (tk y))(he:∀y,PE (C7 X N' scope y) vx (te y))(hN:X.N.Nodup)(hix:X.N[ix]?=some x)(hx:Loc X.env.scope x)
 (hf:X.fn x=true\/X.env.scope.names.lookup x=some .local)(hsw:Gx (.DictComp kx vx [⟨tg,iter,ifs,0⟩] scope pos) (some (.Name x px)) spos.line X.env=pure b)
 (hs:∀x,FH iter X.env x=pure x):PS X (.Assign [.Name x px] (.DictComp kx vx [⟨tg,iter,ifs,0⟩] scope pos) spos) (xO (lS wi fr g tt tk te) (kZ ix)):=by
 cases b with
 | false=>exact cz hN hix hx (pC N' fr hc hi hfr hsc hg ht hk he hs) hsw hf
 | true =>
 intro pins s σ H DD I h;obtain⟨sk,sn⟩:=Ea.mp hsc;have hkind:scope.kind = .function:=of_decide_eq_true sk;have hall:=GY.mp sn
 have hcell:∀y∈scope.names,y.2 = .cell->scope.names.lookup y.1=some .cell:=fun y hy hl=>by
  rcases EE.mp (Ea.mp (Ea.mp (hall y hy)).1).1 with z|z
  · exact absurd hl (of_decide_eq_true z)
  · exact of_decide_eq_true z
 have hnames:∀y∈scope.names,y.2 = .local->scope.names.lookup y.1=some .local:=fun y hy hl=>by
  rcases EE.mp (Ea.mp (Ea.mp (hall y hy)).1).2 with z|z
  · exact absurd hl (of_decide_eq_true z)
  · exact of_decide_eq_true z
 have hfree:∀y∈scope.names,y.2 = .free->X.env.kindOf y.1=some .cell\/X.env.kindOf y.1=some .free:=fun y hy hl=>by
  rcases EE.mp (Ea.mp (hall y hy)).2 with z|z
  · exact absurd hl (of_decide_eq_true z)
  · exact(EE.mp z).imp of_decide_eq_true of_decide_eq_true
 obtain⟨frl,frg⟩:=p8.get hfr;obtain⟨cl,hclos,cl1,cl2⟩:=cj (env:=X.env) (scope:=scope) fun y hy hl=>I.ok.has y.1 (hfree y hy hl);rw[J_ _ _ _ _ hsw];refine D1 (Gm (D1 ?_));show Es _ X.A (do let _ <- comprehension (.DictComp kx vx [⟨tg,iter,ifs,0⟩] scope pos) scope X.env _ newDict false (eval iter X.env) (some (HE (.Name x px) X.env))) _ _ s
 refine D1 (ER (GQ (use:=some (HE (.Name x px) X.env)) (Q:=fun _ s'=>SP X pins DD .next s') rfl hs hclos hkind hnames
  (BY (hi pins s σ H _ I h) fun v s1 h1=>BY h1 fun itv s2 h2=>?_)) (fun _ s' hq=>D5 (D5 hq)) fun _ _ e=>e)
 obtain⟨it,fp,tn,J,H2,e,I2,T,st2,f2,q2⟩:=h2;subst e;refine EN ?_;have hD:H2 s2.heap.objs.size=none:=I2.hok.fresh (Ef _)
 have I3:Inv X pins σ (upd H2 s2.heap.objs.size (.dK [])) {s2 with heap:=s2.heap.push {cls:=.type "dict", data:=.dict #[]}} :=
  I2.laid (t':=s2.toks) (fun b u e=>D3 _ e) (Ef _) (ka s2.heap I2.big)
 obtain⟨Wv,⟨m0,w0⟩,turn⟩:=q2 _ hD;have tn3:tn 0 (s2.heap.push {cls:=.type "dict", data:=.dict #[]}):=T.keep _ _ _ st2 fun b _ o e=>D3 _ e
 have fpD:∀b∈fp,(upd H2 s2.heap.objs.size (.dK [])) b=none:=fun b hb=>by
  obtain⟨o,e,_⟩:=T.obj _ _ st2 b hb;rw[upd_ne (Ey (D_ e))];exact(f2 b hb).1
 have fp3:∀b∈fp,b<(s2.heap.push {cls:=.type "dict", data:=.dict #[]}).objs.size:=fun b hb=>by
  obtain⟨o,e,_⟩:=T.obj _ _ tn3 b hb;exact D_ e
 refine fg (Q:=fun v H1=>kZ ix v σ H1 DD.nx) N' fr hc hkind hcell hfree frl frg cl1 cl2 I3 T tn3 fpD fp3 (fun b hb=>(f2 b hb).2) (hg ⟨cl,fp,X.pn++pins,_,_⟩) (ht ⟨cl,fp,X.pn++pins,_,_⟩) (hk ⟨cl,fp,X.pn++pins,_,_⟩) (he ⟨cl,fp,X.pn++pins,_,_⟩) w0 (turn ⟨cl,fp,X.pn++pins,_,_⟩)
  (Rp:=compPost (EJ X.prog X.w) X.A X.xe (some (HE (.Name x px) X.env)) (fun _ s'=>SP X pins DD .next s') (.ref s2.heap.objs.size)) fun s5 H4 m hn k fpo qn=>?_
 show Es _ X.A (HE (.Name x px) X.env (.ref s2.heap.objs.size)) _ _ s5;have I5:Inv X pins σ H4 s5:=k s5.heap (Jr _ _);obtain⟨f0,f1,f2',f3,f4,f5⟩:=fpo;refine Jo (eF I5 hN hix hx (v:=.ref s2.heap.objs.size) rfl (fun s6 I6 sb=>?_) hf);obtain⟨a,sb,ha⟩:=sb
 have hne:(s2.heap.push {cls:=.type "dict", data:=.dict #[]}).objs.size≠a:=by
  rcases ha with rfl|ha
  · exact f1
  · exact fun z=>f4 x a ha z.symm
 refine⟨m,hn.at' fun o e=>sb.extBut _ o hne e,fun h' hs'=>?_⟩;exact⟨_,H4,I6.turned (t':=s6.toks) (fun b o hb e=>hs'.extBut b o hb e) f0 f1 f3 f4 f5,qn⟩
end
noncomputable def bL:Option Int->List Int->Option Int
 | o,[]=>o
 | none,n::r=>bL (some n) r
 | some m,n::r=>bL (some (if n>m then n else m)) r
theorem oG(a d:D4):argsOk "max" ⟨[a],[(Ft "default", d)]⟩:=by unfold argsOk;kernel_rfl
section
variable{prog:Ei}{w:EK}{A:EH}{E:D4->D6->Prop}
noncomputable def xJ(o:Option Int)(arr:Array D4):Prop:=match o with
 | none=>arr = #[]
 | some m=>∃t,arr = #[.int m t,.int m t]
theorem mY{I l S:Addr}{vs:List D4}{d:D4}(hh:A.handled=none)(hI:GP vs ns)(hl:l≠I)(hSI:S≠I)(hSl:S≠l) :
 ∀ (k j:Nat)(s:D6)(o:Option Int)(arr:Array D4)(c:Nat),vs.length-j=k->j<=vs.length->xJ o arr->s.heap.IsListIter I l j->s.heap.IsList l vs.toArray ->
   s.heap.get? S=some {cls:=.type "list", dict:=none,data:=.seq arr c,slots:=#[]} ->
   (∀v h' tk,(bL o (ns.drop j)=none/\v=d\/∃m t,bL o (ns.drop j)=some m/\v = .int m t)->(∀b q,b≠I->b≠S->s.heap.get? b=some q->h'.get? b=some q)->R (.ok (.ret v)) {s with heap:=h',toks:=tk}) ->
   Hf (EJ prog w) A (.builtin "max.loop" ⟨[.ref I,.none,.ref S],[(Ft "default", d)]⟩) R s:=by
 have hn:(Lb "max" ++ Lb ".loop" : String) = "max.loop" := by decide
 have W:=Ln (prog:=prog) (w:=w) (A:=A.in1) hh I l hl vs.toArray;have hz:vs.toArray.size=vs.length:=Ej ..;have len:vs.length=ns.length:=hI.length;intro k
 induction k with
 | zero =>
   intro j s o arr c hk hj hb h1 h2 hS hR;have ej:j=vs.length:=by omega
   subst ej;have ed:ns.drop vs.length=[]:=by rw[len];exact Ip
   rw[ed]at hR;refine G7 (JW) ?_;rw[GL FX _];show Es _ A.in1 (seqItems? (.ref S) >>= _) _ _ s;refine D1 (wpAny_seqItems hS rfl ?_);show Es _ A.in1 (tryCatch (IB (.ref I)) _ >>= _) _ _ s;refine D1 (KE (W.done s _ _ (by rw[hz];exact⟨h1,h2⟩) fun h' tk kp=>?_));have kp':∀b q,b≠I->s.heap.get? b=some q->h'.get? b=some q:=fun b q n e=>kp b q (by simpa using n) e
   cases o with
   | none =>
     cases(show arr = #[]from hb)
     exact D1 (wpAny_rule (D5 (hR d h' tk (.inl ⟨rfl,rfl⟩) fun b q n _ e=>kp' b q n e)))
   | some m =>
     obtain⟨t,rfl⟩:=(show ∃t,arr = #[.int m t,.int m t]from hb);show Es _ A.in1 (updateSeq S (fun _=>#[]) >>= _) _ _ _;refine D1 (Ke (kp' S _ hSI hS) rfl (D1 (KQ (D5 ?_))))
     exact hR _ _ tk (.inr ⟨m,t,rfl,rfl⟩) fun b q n n2 e=>(EG _ _ n2.symm).trans (kp' b q n e)
 | succ k ih =>
   intro j s o arr c hk hj hb h1 h2 hS hR;have hlt:j<vs.length:=by omega
   refine G7 (JW) ?_;rw[GL FX _];show Es _ A.in1 (seqItems? (.ref S) >>= _) _ _ s;refine D1 (wpAny_seqItems hS rfl ?_);show Es _ A.in1 (tryCatch (IB (.ref I)) _ >>= _) _ _ s;refine D1 (KE (W.item j s _ _ (by rw[hz];exact hlt) ⟨h1,h2⟩ fun v h' tk hP st kp=>?_));have kp':∀b q,b≠I->s.heap.get? b=some q->h'.get? b=some q:=fun b q n e=>kp b q (by simpa using n) e;have hS':=kp' S _ hSI hS;have hv:vs[j]?=some v:=by simpa using hP
   obtain⟨n,t,en,rfl⟩:∃n t,ns[j]?=some n/\v = .int n t:=by
    have hv':=hv;clear hR ih hk hj hlt h1 h2 hP st W hz len
    induction hI generalizing j with
    | nil=>simp at hv'
    | cons n t r ih2 =>
      cases j with
      | zero=>simp at hv';subst hv';exact⟨n,t,rfl,rfl⟩
      | succ j=>simp at hv';simpa using ih2 j (by simpa using hv) hv'
   have ed:ns.drop j=n::ns.drop (j+1):=by
    have hj2:j<ns.length:=by omega
    rw[F8 hj2];rw[EB hj2]at en;cases en;rfl
   rw[ed]at hR
   have put:∀(o2:Option Int)(t2:Tok),o2=some n->t2=t->bL o (n::ns.drop (j+1))=bL (some n) (ns.drop (j+1)) ->
    Hf (EJ prog w) A (.builtin "max.loop" ⟨[.ref I,.none,.ref S],[(Ft "default", d)]⟩) R {s with heap:=h'.update S (HW fun _=>#[.int n t,.int n t]),toks:=tk}:=fun o2 t2 _ _ er=>by
    refine ih (j+1) _ (some n) #[.int n t,.int n t] _ (by omega) (by omega) ⟨t,rfl⟩ (st.1.at fun q e=>(EG _ _ hSI).trans e) (st.2.at fun q e=>(EG _ _ hSl).trans e) (ES _ hS' rfl) fun v2 h2 tk2 hv2 kp2=>?_;rw[<- er]at hv2;exact hR v2 h2 tk2 hv2 fun b q n1 n2 e=>kp2 b q n1 n2 ((EG _ _ n2.symm).trans (kp' b q n1 e))
   cases o with
   | none =>
     cases(show arr = #[]from hb);show Es _ A.in1 (updateSeq S (fun _=>#[.int n t,.int n t]) >>= _) _ _ _;refine D1 (Ke hS' rfl ?_);rw[hn]
     exact D5 ⟨HN FX _,put _ _ rfl rfl rfl⟩
   | some m =>
     obtain⟨t0,rfl⟩:=(show ∃t,arr = #[.int m t,.int m t]from hb);show Es _ A.in1 (tryCatch (Li [.int n t,.int n t] (richCompare .Gt (.int n t) (.int m t0) >>= _)) _ >>= _) _ _ _;have cm:CmpOf prog w A.in1 .Gt (fun i v=>∃x t,v=IA x t/\x=(if i=0 then m else n)) (fun i j=>decide ((if i=0 then m else n)>(if j=0 then m else n))):=PySem.CmpOf.ints_gt (fun i=>if i=0 then m else n) fun i v ⟨x,t,e,e2⟩=>⟨t,by rw[e,e2]⟩;refine D1 (KE (Fg (D1 (cm 1 0 _ _ _ _ _ ⟨n,t,rfl,rfl⟩ ⟨m,t0,rfl,rfl⟩ ?_))));refine D1 (Fg (Fj (D1 (KQ (D5 ?_)))));by_cases hg:n>m
     · simp only[if_neg (show ¬((1:Nat)=0) by decide),if_pos (show(0:Nat)=0 from rfl),decide_eq_true hg,if_true];refine D1 (Ke hS' rfl (D1 (KQ ?_)));rw[hn];exact D5 ⟨HN FX _,put _ _ rfl rfl (by simp only[bL,if_pos hg])⟩
     · simp only[if_neg (show ¬((1:Nat)=0) by decide),if_pos (show(0:Nat)=0 from rfl),if_true,decide_eq_false hg,FQ,if_false];refine D1 (KQ ?_);rw[hn];refine D5 ⟨HN FX _,ih (j+1) _ (some m) _ c (by omega) (by omega) ⟨t0,rfl⟩ st.1 st.2 hS' fun v2 h2 tk2 hv2 kp2=>?_⟩;refine hR v2 h2 tk2 ?_ fun b q n1 n2 e=>kp2 b q n1 n2 (kp' b q n1 e);simp only[bL,if_neg hg];exact hv2
theorem i_{l:Addr}{vs:List D4}{d:D4}(hh:A.handled=none)(hI:GP vs ns)(hls:s.heap.IsList l vs.toArray)
 (hQ:∀v h' tk,(bL none ns=none/\v=d\/∃m t,bL none ns=some m/\v = .int m t)->(∀b q,s.heap.get? b=some q->h'.get? b=some q)->Q v {s with heap:=h',toks:=tk}) :
 Es (EJ prog w) A (call (.builtin "max") [.ref l] [(Ft "default", d)]) Q E s:=by
 have hn:(Lb "max" ++ Lb ".loop" : String) = "max.loop" := by decide
 obtain⟨ol,hol,_⟩:=id hls;have hll:l<s.heap.objs.size:=D_ hol;refine PyProof.Rows.kmk_tree (PySem.F.kind_max) PySem.F.plain_max PySem.F.entry_max (oG _ _) ?_;show Es _ A.in1 (IG "max" ["key", "default"] 0 ⟨[],[(Ft "default", d)]⟩ >>= _) _ _ s;refine D1 (KR (show IG "max" ["key", "default"] 0 ⟨[],[(Ft "default", d)]⟩=pure [none,some d]from rfl) ?_);refine D1 (D5 (D1 (GO hls (D1 (Lc ?_ (Gg _))))));rw[hn];have zI:(s.heap.push {cls:=.type "list_iterator", data:=.fields #[.ref l,.int 0 0]}).objs.size=s.heap.objs.size+1:=size_push' ..;refine D5 ⟨HN FX _,?_⟩
 refine mY (I:=s.heap.objs.size) (l:=l) hh hI (Ey hll) (by rw[zI];exact Hv (Hq _)) (by rw[zI];exact Hv (He hll)) vs.length 0 _ none #[] 0 (by omega) (Gg _) rfl
  ⟨_,D3 _ (Eg _ rfl),rfl,rfl⟩ (hls.at fun q e=>D3 _ (D3 _ e)) (Eg _ rfl) fun v h' tk hv kp=>?_
 refine hQ v h' tk (by simpa using hv) fun b q e=>?_;have hb:=D_ e;exact kp b q (Ey hb) (by rw[zI];exact Ey (He hb)) (D3 _ (D3 _ e))
end
section
variable{X:Cx}
theorem dj{P:Ei}{w:EK}:∀{vs:List (DH×D4)}{ns:List Int}{l:List D4},vs.map (·.1)=ns.map Gj->l.length=vs.length ->
 (∀(i:Nat) v,l[i]?=some v->∃k x,vs[i]?=some (k,x)/\(bp P w).is k v=true)->GP l ns
 | [],[],[],_,_,_=>.nil
 | [],[],_::_,_,h,_=>by simp at h
 | [],_::_,_,h,_,_=>by simp at h
 | _::_,[],_,h,_,_=>by simp at h
 | _::_,_::_,[],_,h,_=>by simp at h
 | (k,x)::vs,n::ns,v::l,h1,h2,h3=>by
   simp only[Er,Eu]at h1;obtain⟨k',x',e,hv⟩:=h3 0 v rfl;simp at e;obtain⟨rfl,rfl⟩:=e;rw[h1.1]at hv;have hv:je (Gj n) v=true:=hv;rcases aP hv with⟨i,t,e1,e2⟩|⟨y,t,e1,e2⟩
   · cases e1;subst e2;exact .cons n t (dj (P:=P) (w:=w) h1.2 (by simpa using h2) fun i v hv=>by simpa using h3 (i+1) v (by simpa using hv))
   · cases e1
theorem iR{prog:Ei}{vs:List (DH×D4)}(hh:A.handled=none)(hd:(a==Gb)=false)
 (dd:s.heap.DictOf (bp prog w) a vs)(hk:vs.map (·.1)=ns.map Gj)(h64:ns.length<64)
 (h:∀(h0 h':Heap)(tk:Nat)(out:Array D4)(ns':List Int)(c:Nat),(∀b o,s.heap.get? b=some o->h0.get? b=some o)->(∀b o,h0.get? b=some o->h'.get? b=some o)->h'.get? h0.objs.size=some (IH "list" out c) ->
  GP out.toList ns'->ns'.Perm ns->ns'.Pairwise (· <= ·)->Q (.ref h0.objs.size) {s with heap:=h',toks:=tk}) :
 Es (EJ prog w) A (call (.builtin "sorted") [.ref a]) Q E s:=by
 obtain⟨ep,da⟩:=dd.dictAt;have sz:=E8;have hl:vs.length=ns.length:=by have:=congrArg List.length hk;simpa using this
 refine Jh kind_sorted plain_sorted entry_sorted (args_sorted1 (.ref a)) ?_;unfold Builtin.«sorted»;refine D1 (m:=checkCount "sorted" 1 1 _) (D5 (D1 (W.kdu_collect (A:=A.in1) (W.kdl_dict (knd:=bp prog w) (kvs:=vs) (ep:=ep) hd) hh da (by omega) fun h0 tk acc k0 hacc=>D1 (Lc ?_ ?_))))
 · have iA:GP acc.toList ns:=dj (P:=prog) (w:=w) hk (by rw[D8];exact hacc.1) fun i v e=>hacc.2 i v (by rw[<- EZ];exact e);have l64:acc.toList.length<64:=by rw[iA.length];exact h64
   have hoL:(h0.push (IH "list" acc.toList.toArray 0)).get? h0.objs.size=some (IH "list" acc.toList.toArray 0):=Eg _ rfl;show Es _ _ _ _ _ {s with heap:=h0.push (IH "list" acc.toList.toArray 0),toks:=tk};refine D1 (Fg (FC slot_list_sort ⟨_,hoL,rfl⟩ entry_list_sort (list_sort_tree (s:={s with heap:=h0.push (IH "list" acc.toList.toArray 0),toks:=tk}) hoL iA l64 fun out ns' q1 q2 q3=>⟨_,rfl,?_⟩) (args_list_sort _)));have e1:=II hoL (fun _=>#[])
   have e2:((((h0.push (IH "list" acc.toList.toArray 0)).update h0.objs.size (HW fun _=>#[])).push (IH "tuple" acc.toList.toArray 0)).push (IH "list" #[] 0)).get? h0.objs.size=_ :=
    D3 _ (D3 _ e1)
   have e3:=II e2 (fun _=>out);refine D5 ⟨_,rfl,h h0 _ _ out ns' _ k0 (fun b ob eb=>?_) e3 q1 q2 q3⟩;have ne:h0.objs.size≠b:=Hv (D_ eb);exact(EG _ _ ne).trans (D3 _ (D3 _ ((EG _ _ ne).trans (D3 _ eb))))
 · rw[D8,hacc.1];omega
theorem iD(hc:X.calm=true):cr X (.builtin "sorted") (fun xs H Q=>∃(a:Addr)(us:List (DH×V))(ns:List Int),xs=[.ref a]/\Rd H a (.dK us)/\us.map (·.1)=ns.map Gj/\ns.length<64 /\
 ∀ns':List Int,ns'.Perm ns->ns'.Pairwise (· <= ·)->∀l,H l=none->Q (.ref l) (upd H l (.lst (ns'.map V.int)))):=by
 intro pins s σ H xs us Q I r ⟨a,vs,ns,ex,hq,hk,h64,q⟩;subst ex;obtain⟨u,rfl,ru⟩:=vals1 r;cases ru;obtain⟨z,hd,ws,rel,dd⟩:=qb I.hok hq;have sz:=E8;refine iR (I.ok.hd hc) hd dd (by rw[<- rel.keys];exact hk) h64 fun h0 h' tk out ns' c k0 k1 e a1 a2 a3=>?_;have I1:Inv X pins σ H {s with heap:=h0}:=I.kept (t':=s.toks) k0;refine⟨.ref h0.objs.size,_,I1.laid (t':=tk) (o:=.lst (ns'.map V.int)) k1 (Ef _) ⟨?_,out.toList,c,fG a1,by rw[Iw];exact e⟩,rfl,q ns' a2 a3 _ (I1.hok.fresh (Ef _))⟩;rw[Eb,a2.length_eq];omega
noncomputable def CA(d:V)(ns:List Int):V:=match bL none ns with
 | none=>d
 | some m=>.int m
noncomputable def yI(K:W.Frag)(t tk:TA):TE:=fun σ H Q=>t σ H fun vs H1=>tk σ H1 fun zs H2=>∃l ns d,vs=[.ref l]/\zs=[d]/\Dn K H2 l (ns.map V.int)/\Q (CA d ns) H2
theorem tH{t tk:TA}{p kpos:Pos}(hc:X.calm=true)(hm:X.mg "max" = none)(ha:PA X [e] t)(hk:PK X [⟨some "default", c,kpos⟩] tk)(hg:Gl X "max")
 (he:autoParam (FN pos (Ec [e] X.env)=(false,eval e X.env)::FN pos (Ec [] X.env)) æa._auto_1)(hpl:autoParam ((FN pos (Ec [e] X.env)).any (·.1)=false) æa._auto_1) :
 PE X (.Call (.Name "max" p) [e] [⟨some "default", c,kpos⟩] pos) (yI X.K t tk):=by
 intro pins s σ H Q I h;refine G1 (ii I hg hm (by rfl) ?_ (by decide) (by decide));refine PyProof.Rows.callWith_kw (BY (ha pos pins s σ H _ I h) fun us s1 ⟨vs,H1,I1,r1,q1⟩=>?_) he hpl;refine BY (hk pos pins s1 σ H1 _ I1 q1) fun ws s2 ⟨zs,H2,I2,r2,l,ns,d,e1,e2,sq,q2⟩=>?_;subst e1 e2;obtain⟨u,rfl,ru⟩:=vals1 r1;obtain⟨w',rfl,rw'⟩:=vals1 r2;cases ru;obtain⟨its,rv,pl,hz⟩:=I2.list sq;show Es _ _ (call (.builtin "max") [.ref l] [(Ft "default", w')]) _ _ _;refine i_ (I.ok.hd hc) (intsAre_of rv) pl.isList fun v h' tk hv kp=>⟨CA d ns,H2,I2.kept kp,?_,q2⟩;rcases hv with⟨e,rfl⟩|⟨m,t,e,rfl⟩
 · unfold CA;rw[e];exact rw'
 · unfold CA;rw[e];exact⟨t,rfl⟩
end
end L2
theorem L2.Room.un1{k:Nat}{A:PySem.Around}(r:L2.Room k A):A.units+1<PySem.cLine:=by have:=r.un;omega
namespace L2.VL
noncomputable def fH(kvs:List (DH×D2))(k:DH):Option D2:=(kvs.find? fun kv=>decide (kv.1=k)).map (·.2)
noncomputable def putF(kvs:List (DH×D2))(k:DH)(x:D2):List (DH×D2) :=
 if(kvs.any fun kv=>decide (kv.1=k))=true then kvs.map (fun kv=>if kv.1=k then(kv.1,x)else kv)else kvs++[(k,x)]
section
variable{K:W.Frag}{F:Hp}{us:List (DH×V)}{kvs:List (DH×D2)}
theorem DJ.val(r:DJ K F us kvs)(k:DH):(km us k=none/\fH kvs k=none)\/∃v d,km us k=some v/\fH kvs k=some d/\Rep K F v d:=by
 induction r with
 | nil=>exact .inl ⟨rfl,rfl⟩
 | @cons p q ps qs h t ih =>
   unfold km fH at *;rw[E7,E7,h.1];by_cases e:q.1=k
   · simp only[e,decide_true];exact .inr ⟨p.2,q.2,rfl,rfl,h.2⟩
   · simp only[e,decide_false];exact ih
theorem DJ.any(r:DJ K F us kvs)(k:DH):(us.any fun kv=>decide (kv.1=k))=kvs.any fun kv=>decide (kv.1=k):=by
 induction r with
 | nil=>rfl
 | cons h t ih=>rw[HK,HK,ih,h.1]
theorem DJ.keys(r:DJ K F us kvs):us.map (·.1)=kvs.map (·.1):=by
 induction r with
 | nil=>rfl
 | cons h t ih=>rw[Er,Er,ih,h.1]
theorem DJ.repl(r:DJ K F us kvs)(k:DH)(rv:Rep K F v d):DJ K F (us.map fun kv=>if kv.1=k then(kv.1,v)else kv) (kvs.map fun kv=>if kv.1=k then(kv.1,d)else kv):=by
 induction r with
 | nil=>exact .nil
 | @cons p q ps qs h t ih =>
   refine .cons ?_ ih;show(if p.1=k then(p.1,v)else p).1=(if q.1=k then(q.1,d)else q).1/\Rep K F (if p.1=k then(p.1,v)else p).2 (if q.1=k then(q.1,d)else q).2;by_cases e:q.1=k
   · have e':p.1=k:=h.1.trans e;rw[if_pos e,if_pos e'];exact⟨h.1,rv⟩
   · have e':¬p.1=k:=fun z=>e (h.1.symm.trans z);rw[if_neg e,if_neg e'];exact h
theorem DJ.snoc(r:DJ K F us kvs)(k:DH)(rv:Rep K F v d):DJ K F (us++[(k,v)]) (kvs++[(k,d)]):=by
 induction r with
 | nil=>exact .cons ⟨rfl,rv⟩ .nil
 | cons h t ih=>exact .cons h ih
theorem DJ.put(r:DJ K F us kvs)(k:DH)(rv:Rep K F v d):DJ K F (mF us k v) (putF kvs k d):=by
 unfold mF putF;rw[r.any k];split
 · exact r.repl k rv
 · exact r.snoc k rv
theorem DJ.mono{F':Hp}(s:be F F')(r:DJ K F us kvs):DJ K F' us kvs:=Fe.mapP r fun _ _ z=>⟨z.1,z.2.mono s⟩
end
noncomputable def lj:W->Option DH
 | .d (.int i)=>some (.inl i)
 | .d (.str x)=>some (.inr x)
 | _=>none
noncomputable def asFd:W->Option (List (DH×D2))
 | .fd kvs=>some kvs
 | _=>none
theorem keyW_i(i:Int):lj (.d (.int i))=some (.inl i):=rfl
theorem keyW_s(x:Str):lj (.d (.str x))=some (.inr x):=rfl
theorem asFd_f(kvs:List (DH×D2)):asFd (.fd kvs)=some kvs:=rfl
theorem uy{w:W}{kvs:List (DH×D2)}:asFd w=some kvs↔w = .fd kvs:=by
 constructor
 · intro h;unfold asFd at h;split at h<;>simp_all
 · rintro rfl;rfl
theorem jW{K:W.Frag}{w:W}{k:DH}(e:lj w=some k)(r:cO K rl F H v w):v=kV k:=by
 unfold lj at e;split at e
 · cases e;exact aJ r
 · cases e;exact sQ r
 · cases e
theorem isPk_fd(kvs:List (DH×D2)):(W.fd kvs).isPk=false:=rfl
theorem fz_fd(kvs:List (DH×D2)):(W.fd kvs).fz = .fd kvs:=rfl
theorem pk_fd(kvs:List (DH×D2)):(W.fd kvs).peek = .fd kvs:=rfl
noncomputable def qv(ρ0:En)(g:Dk)(ft:TB)(fk fe:TV):List D2->List (DH×D2)->(List (DH×D2)->Prop)->Prop
 | [],acc,Q=>Q acc
 | x::xs,acc,Q=>g x ρ0 fun ρ2=>Le ρ0 ρ2/\ft ρ2 fun b=>if b=true then fk ρ2 fun wk=>∃k,lj wk=some k/\fe ρ2 fun w=>∃d,w.fz = .d d/\acc.length<sizeLine/\qv ρ0 g ft fk fe xs (putF acc k d) Q else qv ρ0 g ft fk fe xs acc Q
noncomputable def lN(fi:En->(List D2->Prop)->Prop)(fr:List (Option Nat))(g:Dk)(ft:TB)(fk fe:TV):TV:=fun ρ Q=>fi ρ fun xs=>qv (gO fr ρ) g ft fk fe xs [] fun kvs=>Q (.fd kvs)
section
variable{X:Cx}{rl:Option Addr}{kx vx tg iter:Expr}{ifs:List Expr}{scope:Scope}{pos:Pos}{fi:En->(List D2->Prop)->Prop}{g:Dk}{ft:TB}{fk fe:TV}
theorem ur{N':List Str}{wi:TI}(fr:List (Option Nat))(k0:∀{F₀ H₀ F H:Hp}{σ:St}{ρ:En},VR X.K rl F₀ H₀ F H σ ρ->∀(Qd:List D2->Prop)(R:It->Hp->Prop),fi ρ Qd ->
 (∀J xs F' H',Grow rl F H F' H'->VIt X.K rl F' J xs->Qd xs->R J H')->wi σ H R)
 (hg:∀y,DA (C7 X N' scope y) rl tg g)(ht:∀y,uC (C7 X N' scope y) rl ifs ft)(hk:∀y,PV (C7 X N' scope y) rl kx fk)(he:∀y,PV (C7 X N' scope y) rl vx fe)
 (R:VR X.K rl F₀ H₀ F H σ ρ)(Qd:W->Prop)(Q:VK)(q:lN fi fr g ft fk fe ρ Qd)
 (k:∀v w F' H',Grow rl F H F' H'->cO X.K rl F' H' v w->d6 H v w->Qd w->Q v H'):lS wi fr (fun y=>GE (hg y)) (fun y=>GE (ht y)) (fun y=>GE (hk y)) (fun y=>GE (he y)) σ H Q:=by
 refine k0 R _ _ q fun J xs F1 H1 g1 vi q1=>?_;intro D hD;have rD:rl≠some D:=fun e=>by obtain⟨o,z⟩:=g1.reel.live e;rw[hD]at z;cases z
 have FD:F1 D=none:=g1.sub.free hD;have gD:Grow rl F1 H1 F1 (upd H1 D (.dK [])):=Grow.laid g1.sub g1.reel hD;have R1:=R.grow g1;have n0:oO (gO fr ρ):=fP
 refine⟨fun i m acc σc Hc=>m=xs.length-i/\i<=xs.length/\∃Fc ds,VR X.K rl F1 H1 Fc Hc σc (gO fr ρ)/\Hc D=some (.dK acc)/\Fc D=none/\DJ X.K Fc acc ds/\qv (gO fr ρ) g ft fk fe (xs.drop i) ds (fun ds=>Qd (.fd ds)),
  ⟨xs.length,by simp,Gg _,F1,[],jz R1 gD,ak,FD,.nil,by simpa using q1⟩,?_⟩
 rintro z i m acc σc Hc ⟨rfl,hi,Fc,ds,Rc,hDc,fDc,rs,q2⟩;have sH:be F1 Hc:=Rc.g.fs.trans Rc.sub;by_cases hlt:i<xs.length
 · have ei:xs[i]?=some xs[i]:=by simp[hlt]
   have ed:xs.drop i=xs[i]::xs.drop (i+1):=F8 hlt;rw[ed]at q2;refine .inr ⟨vi.go i Hc _ ei sH,fun v H' y=>?_⟩;obtain⟨Fy,gy,rv⟩:=vi.yld i Hc v H' _ Fc ei Rc.g.fs Rc.sub Rc.reel y;refine(EA (hg z)).2 (Rc.grow gy) v _ _ _ rv q2 fun F3 H3 σ3 ρ3 g3 n3 R3 ⟨le3,q3⟩=>?_;refine(EA (ht z)).2 R3 _ _ q3 fun b F4 H4 g4 q4=>?_;have R4:=R3.grow g4;have g34:=(gy.trans g3).trans g4;have keepD:∀{Fx Hx:Hp},Grow rl Fc Hc Fx Hx->Hx D=some (.dK acc)/\Fx D=none:=fun gx=>⟨gx.same D _ hDc rD,by rw[gx.old D _ hDc];exact fDc⟩
   cases b with
   | false=>exact⟨xs.length-(i+1),by omega,rfl,hlt,F4,ds,R4.le le3,(keepD g34).1,(keepD g34).2,rs.mono g34.fs,q4⟩
   | true =>
     refine(EA (hk z)).2 R4 _ _ q4 fun vk wk Fk Hk gk rk nk ⟨kk,ekk,qk⟩=>?_;have evk:=jW ekk rk;have R5:=R4.grow gk;refine(EA (he z)).2 R5 _ _ qk fun v5 w5 F5 H5 g5 r5 n5 ⟨d,ed5,hl,q5⟩=>?_;obtain⟨F6,g6,s6,r6⟩:=cO.fz g5 r5 n5;rw[ed5]at r6;have g36:=(g34.trans gk).trans g6;have lds:acc.length=ds.length:=Gk rs;refine⟨kk,evk,(keepD g36).1,by rw[lds];exact hl,xs.length-(i+1),by omega,rfl,hlt,F6,putF ds kk d,((R5.grow g6).le le3).other n0 hD (keepD g36).2 rD,ak,(keepD g36).2,(rs.mono g36.fs).put kk r6,q5⟩
 · have e:i=xs.length:=by omega
   subst e;rw[Ip]at q2;have neF:∀b u,Fc b=some u->b≠D:=fun b u q z=>by subst z;rw[fDc]at q;cases q
   have fsm:be Fc (upd Fc D (.dK acc)):=fun b u z=>by rw[upd_ne (neF b u z)];exact z
   refine .inl ⟨vi.stop _ Hc (Ef _) sH,k _ (.fd ds) (upd Fc D (.dK acc)) Hc ((g1.trans Rc.g).freeze (g1.freeB hD) hDc fDc rD) ⟨D,acc,rfl,ak,rs.mono fsm⟩ trivial q2⟩
theorem iN(i:Nat){b:Bool}{spos:Pos}(hN:X.N.Nodup)(N':List Str)(fr:List (Option Nat))(hc:X.calm=true)(hi:Dx X rl tg iter fi)
 (hg:∀y,DA (C7 X N' scope y) rl tg g)(ht:∀y,uC (C7 X N' scope y) rl ifs ft)(hk:∀y,PV (C7 X N' scope y) rl kx fk)(he:∀y,PV (C7 X N' scope y) rl vx fe)
 (hsw:autoParam (Gx (.DictComp kx vx [⟨tg,iter,ifs,0⟩] scope pos) (some (.Name x px)) spos.line X.env=pure b) æa._auto_1)
 (hix:autoParam (X.N[i]?=some x) æa._auto_1)(hx:autoParam (Loc X.env.scope x) æd._auto_1)(hf:autoParam (X.fn x=true\/X.env.scope.names.lookup x=some .local) æe._auto_1)
 (hfr:autoParam (p8 fr N' X.N scope X.env.scope=true) æa._auto_1)(hsc:autoParam (sN scope X.env.scope=true) æa._auto_1)
 (hs:autoParam (∀x,FH iter X.env x=pure x) æc._auto_1):Du X rl (.Assign [.Name x px] (.DictComp kx vx [⟨tg,iter,ifs,0⟩] scope pos) spos) (xL i (lN fi fr g ft fk fe)):=by
 obtain⟨wi,p0,k0⟩:=hi;refine⟨_,iZ N' fr hc p0 hfr hsc (fun y=>(EA (hg y)).1) (fun y=>(EA (ht y)).1) (fun y=>(EA (hk y)).1) (fun y=>(EA (he y)).1) hN hix hx hf hsw hs,fun R Dv D ok q=>ur fr k0 hg ht hk he R _ _ q fun v w F1 H1 g1 r1 n1 ⟨hp,q1⟩=>?_⟩;exact ok.nx _ _ _ _ g1.fs (R.set g1 r1 n1 (fun xs z=>by subst z;cases hp) i) q1
end
noncomputable def CM(ρ0:En)(g:Dk)(ft:TB)(fk fe:TV)(x:D2):Mo (Option (DH×D2)):=C5 (g x ρ0) fun ρ2=>CU (Le ρ0 ρ2) (C5 (ft ρ2) fun b=>if b=true then C5 (fk ρ2) fun wk=>aq (lj wk) fun k=>C5 (fe ρ2) fun w=>aq (asD w.fz) fun d=>ret (some (k,d))else ret none)
noncomputable def dm(b:D2->Mo (Option (DH×D2))):List D2->List (DH×D2)->Mo (List (DH×D2))
 | [],acc=>ret acc
 | x::xs,acc=>C5 (b x) fun o=>match o with
   | some d=>CU (acc.length<sizeLine) (dm b xs (putF acc d.1 d.2))
   | none=>dm b xs acc
theorem kf(ρ0:En)(g:Dk)(ft:TB)(fk fe:TV):∀(xs:List D2)(acc:List (DH×D2)),qv ρ0 g ft fk fe xs acc=dm (CM ρ0 g ft fk fe) xs acc
 | [],acc=>rfl
 | x::xs,acc=>by
   refine af fun Q=>?_;show(g x ρ0 fun ρ2=>Le ρ0 ρ2/\ft ρ2 fun b=>if b=true then fk ρ2 fun wk=>∃k,lj wk=some k/\fe ρ2 fun w=>∃d,w.fz = .d d/\acc.length<sizeLine/\qv ρ0 g ft fk fe xs (putF acc k d) Q else qv ρ0 g ft fk fe xs acc Q)↔(C5 (CM ρ0 g ft fk fe x) _) Q;simp only[kf ρ0 g ft fk fe xs]
   have:∀(ρ2:En)(b:Bool),(if b=true then fk ρ2 fun wk=>∃k,lj wk=some k/\fe ρ2 fun w=>∃d,w.fz = .d d/\acc.length<sizeLine/\dm (CM ρ0 g ft fk fe) xs (putF acc k d) Q else dm (CM ρ0 g ft fk fe) xs acc Q)=(C5 (if b=true then C5 (fk ρ2) fun wk=>aq (lj wk) fun k=>C5 (fe ρ2) fun w=>aq (asD w.fz) fun d=>ret (some (k,d))else ret none) fun o=>match o with
   | some d=>CU (acc.length<sizeLine) (dm (CM ρ0 g ft fk fe) xs (putF acc d.1 d.2))
   | none=>dm (CM ρ0 g ft fk fe) xs acc) Q:=by
     intro ρ2 b
     cases b with
     | false=>rfl
     | true =>
       rw[if_pos rfl,if_pos rfl];show _=fk ρ2 fun wk=>_;congr 1;funext wk;refine propext ?_;show _↔(C5 (aq (lj wk) fun k=>C5 (fe ρ2) fun w=>aq (asD w.fz) fun d=>ret (some (k,d))) _) Q;rw[bnd_opt,ag]
       have e2:∀(k:DH),(fe ρ2 fun w=>∃d,w.fz = .d d/\acc.length<sizeLine/\dm (CM ρ0 g ft fk fe) xs (putF acc k d) Q)=(C5 (C5 (fe ρ2) fun w=>aq (asD w.fz) fun d=>ret (some (k,d))) fun o=>match o with
        | some d=>CU (acc.length<sizeLine) (dm (CM ρ0 g ft fk fe) xs (putF acc d.1 d.2))
        | none=>dm (CM ρ0 g ft fk fe) xs acc) Q:=fun k=>by
        show _=fe ρ2 fun w=>_;congr 1;funext w;refine propext ?_;show _↔(C5 (aq (asD w.fz) fun d=>ret (some (k,d))) _) Q;rw[bnd_opt,ag];simp only[du];exact Jg
       simp only[e2]
   simp only[this];exact Jg
theorem m_compD(fi:En->(List D2->Prop)->Prop)(fr:List (Option Nat))(g:Dk)(ft:TB)(fk fe:TV)(ρ:En):lN fi fr g ft fk fe ρ=C5 (fi ρ) fun xs=>C5 (dm (CM (gO fr ρ) g ft fk fe) xs []) fun kvs=>ret (.fd kvs):=by
 refine af fun Q=>?_;show(fi ρ fun xs=>qv (gO fr ρ) g ft fk fe xs [] fun ds=>Q (.fd ds))↔_;simp only[kf];exact Jg
theorem pf(kvs:List (DH×D2))(k:DH)(x:D2):(putF kvs k x).length<=kvs.length+1:=by
 unfold putF;split<;>simp
section
variable{α:Type}{b:D2->Mo (Option (DH×D2))}
theorem iC{enc:α->D2}(f:α->DH×D2):∀(xs:List α)(acc:List (DH×D2)),(∀x∈xs,b (enc x)=ret (some (f x)))->acc.length+xs.length<=sizeLine->dm b (xs.map enc) acc=ret ((xs.map f).foldl (fun a p=>putF a p.1 p.2) acc)
 | [],acc,_,_=>rfl
 | x::xs,acc,h,hl=>by
   show C5 (b (enc x)) _=_;rw[h x Ee,bnd_ret];show CU (acc.length<sizeLine) (dm b (xs.map enc) (putF acc (f x).1 (f x).2))=_;simp only[EQ]at hl;have:=pf acc (f x).1 (f x).2;rw[aj (by omega),iC f xs _ (fun y hy=>h y (D7 _ hy)) (by omega)];rfl
theorem ul{β:Type}{Q:β->Prop}{k:List (DH×D2)->Mo β}{xs:List α}{enc:α->D2}(f:α->DH×D2)(hx:xs'=xs.map enc)(h:∀x∈xs,b (enc x)=ret (some (f x)))(hl:xs.length<=sizeLine)
 (fin:k ((xs.map f).foldl (fun a p=>putF a p.1 p.2) []) Q):C5 (dm b xs' []) k Q:=by
 subst hx;rw[iC f xs [] h (by simpa using hl)];exact fin
end
section
variable{X:Cx}{rl:Option Addr}{a c e o i:Expr}{es:List Expr}{fa fb:TV}{fs:Dg}{pos p kpos:Pos}{ρ:En}
noncomputable def lM(fa fb:TV):TV:=fun ρ Q=>fa ρ fun x=>fb ρ fun y=>∃kvs k d,x = .fd kvs/\lj y=some k/\fH kvs k=some d/\Q (.d d)
theorem rQ(hu:X.A.units+1<Kx)(ho:PV X rl o fa)(hi:PV X rl i fb)(hs:xF i:=by intro _ _;rfl):PV X rl (.Subscript o i pos) (lM fa fb):=by
 obtain⟨t1,p1,k1⟩:=ho;obtain⟨t2,p2,k2⟩:=hi;refine⟨_,tJ hu p1 p2 hs,fun R Qd Q q h=>k1 R _ _ q fun v w F1 H1 g1 r1 n1 q1=>k2 (R.grow g1) _ _ q1 fun v2 w2 F2 H2 g2 r2 n2 ⟨kvs,k,d,ex,ek,ed,q2⟩=>?_⟩;subst ex;obtain⟨x,us,rfl,hx,rk⟩:=r1.grow g2;have ev:=jW ek r2;subst ev;rcases rk.val k with⟨_,z⟩|⟨v3,d3,e1,e2,r3⟩
 · rw[ed]at z;cases z
 · rw[ed]at e2;cases e2;refine⟨x,v3,rfl,?_,h v3 (.d d) F2 H2 (g1.trans g2) r3 trivial q2⟩;rw[<- e1];exact ya.k (g2.sub _ _ hx)
theorem m_vDGetF:lM fa fb ρ=C5 (fa ρ) fun x=>C5 (fb ρ) fun y=>aq (asFd x) fun kvs=>aq (lj y) fun k=>aq (fH kvs k) fun d=>ret (.d d):=by
 refine af fun Q=>?_;simp only[lM,C5,ag,uy,ret];constructor
 · intro h;refine cast ?_ h;congr 1;funext x;congr 1;funext y;exact propext ⟨fun⟨a,b,c,d,e,f,g⟩=>⟨a,d,b,e,c,f,g⟩,fun⟨a,d,b,e,c,f,g⟩=>⟨a,b,c,d,e,f,g⟩⟩
 · intro h;refine cast ?_ h;congr 1;funext x;congr 1;funext y;exact propext ⟨fun⟨a,d,b,e,c,f,g⟩=>⟨a,b,c,d,e,f,g⟩,fun⟨a,b,c,d,e,f,g⟩=>⟨a,d,b,e,c,f,g⟩⟩
noncomputable def wU:List W->(W->Prop)->Prop:=fun ws Q=>∃(kvs:List (DH×D2))(ns:List Int),ws=[.fd kvs]/\kvs.map (·.1)=ns.map Gj/\ns.length<64/\∀ns':List Int,ns'.Perm ns->ns'.Pairwise (· <= ·)->Q (.ml (ns'.map .int))
theorem lG(hc:X.calm=true)(hm:X.mg "sorted" = none)(ha:Dr X rl [a] fs)(hg:autoParam (Gl X "sorted") æa._auto_1)(he:autoParam (Ec [a] X.env=(false,eval a X.env)::Ec [] X.env) æa._auto_1)(hpl:autoParam ((FN pos (Ec [] X.env)).any (·.1)=false) æa._auto_1) :
 PV X rl (.Call (.Name "sorted" p) [a] [] pos) (cI wU fs):=by
 refine b9 (iD hc) (fun{F H vs ws} Qd Q s ra r ⟨kvs,ns,ew,ek,hl,q⟩ k=>?_) hm (by rfl) ha hg (by decide) (by decide) he hpl;subst ew;obtain⟨v,rfl,b,us,rfl,hb,rk⟩:=l_ r;exact⟨b,us,ns,rfl,.inl (s _ _ hb),by rw[rk.keys];exact ek,hl,fun ns' h1 h2 l hl=>k _ (.ml _) _ _ (Grow.laid s ra hl) (gr s ra hl d_) (fun a ea=>by cases ea;exact hl) (q ns' h1 h2)⟩
theorem sw{Q:α->Prop}{K:W->Mo α}{kvs:List (DH×D2)}(ns:List Int)(e:kvs.map (·.1)=ns.map Gj)(hl:ns.length<64)(h:∀ns':List Int,ns'.Perm ns->ns'.Pairwise (· <= ·)->K (.ml (ns'.map .int)) Q):C5 (wU [.fd kvs]) K Q :=
 ⟨kvs,ns,rfl,e,hl,fun ns' h1 h2=>h ns' h1 h2⟩
noncomputable def CB(d:Int)(ns:List Int):Int:=(bL none ns).getD d
noncomputable def rZ(fs:Dg)(fc:TV):TV:=fun ρ Q=>fs ρ fun ws=>fc ρ fun y=>∃ns d,eB ws=some [.list (ns.map .int)]/\y = .d (.int d)/\Q (.d (.int (CB d ns)))
theorem u_(hc:X.calm=true)(hm:X.mg "max" = none)(ha:Dr X rl [e] fs)(hk:PV X rl c fb)(hg:autoParam (Gl X "max") æa._auto_1)
 (he:autoParam (FN pos (Ec [e] X.env)=(false,eval e X.env)::FN pos (Ec [] X.env)) æa._auto_1)(hpl:autoParam ((FN pos (Ec [e] X.env)).any (·.1)=false) æa._auto_1) :
 PV X rl (.Call (.Name "max" p) [e] [⟨some "default", c,kpos⟩] pos) (rZ fs fb):=by
 obtain⟨t1,p1,k1⟩:=ha;obtain⟨t2,p2,k2⟩:=hk;refine⟨_,tH hc hm p1 (tw p2 wa) hg he hpl,fun R Qd Q q h=>k1 R _ _ q fun vs ws F1 H1 g1 r1 q1=>k2 (R.grow g1) _ _ q1 fun v2 w2 F2 H2 g2 r2 n2 ⟨ns,d,ed,ew,q2⟩=>?_⟩;subst ew;have e2:=aJ r2;subst e2;have rs:=cH r1 ed
 cases rs with
 | cons rx rs =>
   cases rs
   cases rx with
   | @lst l us _ hb ry =>
     have eu:=cc ry;subst eu;refine⟨l,ns,.int d,rfl,rfl,.inl (.inl (g2.sub _ _ (g2.fs _ _ hb))),h _ (.d (.int (CB d ns))) F2 H2 (g1.trans g2) ?_ trivial q2⟩;have:CA (.int d) ns = .int (CB d ns):=by unfold CA CB;cases bL none ns<;>rfl
     rw[this];exact .int _
noncomputable def mR(ws:List W):Option (List Int):=match eB ws with
 | some [.list xs]=>dY xs
 | _=>none
theorem m_vMaxD{fc:TV}:rZ fs fc ρ=C5 (fs ρ) fun ws=>C5 (fc ρ) fun y=>aq (mR ws) fun ns=>aq (asI y) fun d=>ret (.d (.int (CB d ns))):=by
 have key:∀(ws:List W)(ns:List Int),mR ws=some ns↔eB ws=some [.list (ns.map .int)]:=by
  intro ws ns;unfold mR;constructor
  · intro h;split at h
    · rename_i xs e;rw[e,cF h]
    · cases h
  · intro h;rw[h];exact intsD_map ns
 refine af fun Q=>?_;simp only[rZ,C5,ag,bH,ret,key];constructor
 · intro h;refine cast ?_ h;congr 1;funext x;congr 1;funext y;exact propext ⟨fun⟨a,b,c,d,e⟩=>⟨a,c,b,d,e⟩,fun⟨a,c,b,d,e⟩=>⟨a,b,c,d,e⟩⟩
 · intro h;refine cast ?_ h;congr 1;funext x;congr 1;funext y;exact propext ⟨fun⟨a,c,b,d,e⟩=>⟨a,b,c,d,e⟩,fun⟨a,b,c,d,e⟩=>⟨a,c,b,d,e⟩⟩
theorem oneIs_l(ns:List Int):mR [.d (.list (ns.map .int))]=some ns:=by
 unfold mR eB;exact intsD_map ns
end
noncomputable def DY:=D0 @m_compD (D0 @m_vDGetF (D0 @m_vMaxD (D0 @keyW_i (D0 @keyW_s (D0 @asFd_f (D0 @isPk_fd (D0 @fz_fd (D0 @pk_fd (@oneIs_l)))))))))
end L2.VL
namespace L2
noncomputable def Be(K:W.Frag)(tl:TE):TI:=fun σ H R=>tl σ H fun x H1=>∃a,x = .ref a/\(((∃xs,Dn K H1 a xs)/\R (DN K a) H1)\/((∃xs,Dm K H1 a xs)/\R (DL K a) H1))
theorem wc{l:Expr}{tl:TE}(hl:PE X l tl):PI X tg l (Be X.K tl):=by
 intro pins s σ H R I h;refine BY (hl pins s σ H _ I h) fun v s1 ⟨x,H1,I1,r1,q1⟩=>?_;obtain⟨a,e,q1⟩:=q1;subst e;cases r1
 have fin:∀b∈[s1.heap.objs.size],lu X pins H1 b:=fun b hb=>by
  have e:b=s1.heap.objs.size:=by simpa using hb
  subst e;exact I1.fpOk (Ef _) (I1.hok.fresh (Ef _))
 rcases q1 with⟨⟨xs,hq⟩,q⟩|⟨⟨xs,hq⟩,q⟩
 · obtain⟨its,rv,p,hz⟩:=I1.list hq;exact GO p.isList ⟨s1.heap.objs.size,[s1.heap.objs.size],_,_,H1,rfl,I1.kept (t':=s1.toks) fun b o e=>D3 _ e,gT a _,⟨_,Eg _ rfl,rfl,rfl⟩,fin,q⟩
 · obtain⟨its,rv,p,hz⟩:=I1.tuple hq;exact IW (show s1.heap.IsTuple a its.toArray from p) ⟨s1.heap.objs.size,[s1.heap.objs.size],_,_,H1,rfl,I1.kept (t':=s1.toks) fun b o e=>D3 _ e,fI a _,⟨_,Eg _ rfl,rfl,rfl⟩,fin,q⟩
end L2
namespace L2.VL
section
variable{X:Cx}{rl:Option Addr}{tg:Expr}{fa:TV}{ρ:En}
noncomputable def iS(fa:TV):En->(List D2->Prop)->Prop:=fun ρ Q=>fa ρ fun w=>∃xs,(w.fz = .d (.list xs)\/w.fz = .d (.tuple xs))/\Q xs
theorem qq{l:Expr}(hl:PV X rl l fa):Dx X rl tg l (iS fa):=by
 obtain⟨t,p,k⟩:=hl;refine⟨_,wc p,fun R Qd Q q h=>k R _ _ q fun v w F1 H1 g1 r1 n1 ⟨xs,ew,q1⟩=>?_⟩;obtain⟨F2,g2,s2,r2⟩:=cO.fz g1 r1 n1;rcases ew with ew|ew
 · rw[ew]at r2
   cases(show Rep X.K F2 v (.list xs)from r2)with
   | @lst a vs _ sq rs =>
     have sqH:∀H,be F2 H->Dn X.K H a vs:=fun H s=>.inl (.inl (s _ _ sq));refine⟨a,rfl,.inl ⟨⟨vs,sqH H1 g2.sub⟩,h _ xs F2 H1 g2 (.of (fun i H x e s=>?_) (fun i H hl s=>⟨vs,sqH H s,by rw[rs.length];exact hl⟩) (fun i H v H' x e s y=>?_)) q1⟩⟩
     · obtain⟨v,ev,_⟩:=rs.get e;exact⟨vs,v,sqH H s,ev⟩
     · obtain⟨e',hy⟩:=y;obtain⟨v',ev,rv⟩:=rs.get e;have:=hy vs (sqH H s);rw[ev]at this;cases this;exact⟨e',rv⟩
 · rw[ew]at r2
   cases(show Rep X.K F2 v (.tuple xs)from r2)with
   | @tup a vs _ sq rs =>
     have sqH:∀H,be F2 H->Dm X.K H a vs:=fun H s=>cX s sq;refine⟨a,rfl,.inr ⟨⟨vs,sqH H1 g2.sub⟩,h _ xs F2 H1 g2 (.of (fun i H x e s=>?_) (fun i H hl s=>⟨vs,sqH H s,by rw[rs.length];exact hl⟩) (fun i H v H' x e s y=>?_)) q1⟩⟩
     · obtain⟨v,ev,_⟩:=rs.get e;exact⟨vs,v,sqH H s,ev⟩
     · obtain⟨e',hy⟩:=y;obtain⟨v',ev,rv⟩:=rs.get e;have:=hy vs (sqH H s);rw[ev]at this;cases this;exact⟨e',rv⟩
noncomputable def seqW:W->Option (List D2)
 | .d (.list xs)=>some xs
 | .d (.tuple xs)=>some xs
 | _=>none
theorem seqW_l(xs:List D2):seqW (.d (.list xs))=some xs:=rfl
theorem seqW_t(xs:List D2):seqW (.d (.tuple xs))=some xs:=rfl
theorem sJ{w:W}:seqW w=some xs↔(w = .d (.list xs)\/w = .d (.tuple xs)):=by
 constructor
 · intro h;unfold seqW at h;split at h<;>simp_all
 · rintro(rfl|rfl)<;>rfl
theorem m_iS:iS fa ρ=C5 (fa ρ) fun w=>aq (seqW w.fz) ret:=by
 refine af fun Q=>?_;simp only[iS,C5,ag,sJ,ret]
noncomputable def DU:=D0 @m_iS (D0 @seqW_l (@seqW_t))
end
end L2.VL
namespace L2
variable{X:Cx}
end L2
namespace L2.VL
section
variable{X:Cx}{rl:Option Addr}{a e:Expr}{es:List Expr}{fs:Dg}{pos:Pos}
noncomputable def Bc(ws:List W):Option (Int×D2):=match eB ws with
 | some [.int i,x]=>some (i,x)
 | _=>none
theorem wM(i:Int)(x:D2):Bc [.d (.int i),.d x]=some (i,x):=rfl
noncomputable def DW:=@wM
end
end L2.VL
namespace L2.KS
open PySem PySem.W PyProof.Rows
structure Ord (n:Nat) (c:Nat->Nat->Bool):Prop where
 asym:∀i j,i<n->j<n->c i j=true->c j i=false
 trans:∀i j k,i<n->j<n->k<n->c j i=false->c k j=false->c k i=false
section
variable{n:Nat}{c:Nat->Nat->Bool}
abbrev at_(p:Array Nat)(i:Nat):Nat:=p.getD i 0
noncomputable def Ok(n:Nat)(p:Array Nat):Prop:=p.toList.Perm (ET n)
variable(O:Ord n c)
include O
end
open PySem PySem.W PyProof.Rows
section
variable{prog:Ei}{w:EK}{A:EH}{E:D4->D6->Prop}{s:D6}{κ:SortKind}
end
open PySem PySem.W PyProof.Rows
section
variable{prog:Ei}{w:EK}{A:EH}{E:D4->D6->Prop}{s:D6}
end
open PySem PySem.W PyProof.Rows
section
variable{prog:Ei}{w:EK}{A:EH}{E:D4->D6->Prop}{s:D6}
end
open PySem PySem.W PyProof.Rows
section
variable{prog:Ei}{w:EK}{A:EH}{E:D4->D6->Prop}{s:D6}
end
open PySem PySem.W PyProof.Rows
section
variable{prog:Ei}{w:EK}{A:EH}{E:D4->D6->Prop}{s:D6}
end
end L2.KS
namespace L2
open PySem PySem.Spec PyProof.Rows KS
section
variable{X:Cx}
end
end L2
namespace L2.VL
open PySem PySem.Spec PyProof.Rows KS
section
variable{X:Cx}{rl:Option Addr}{a:Expr}{fs:Dg}{pos p:Pos}
abbrev CO(z:Int×Int):D2:=.tuple [.int z.1,.int z.2]
end
open PySem PySem.Spec PyProof.Rows KS
end L2.VL
namespace L2
noncomputable def DZ(h:Heap)(a:Addr)(C:D4)(d:Option Addr)(T:Addr)(fl:D4):Prop :=
 ∃oe vs oT ts,h.get? a=some oe/\oe.cls=C/\oe.dict=d/\oe.data = .fields vs/\vs[1]?=some (.ref T)/\T≠a/\h.get? T=some oT/\oT.data = .fields ts/\ts[3]?=some fl
noncomputable def AM(h:Heap)(a:Addr)(C:D4)(d:Option Addr):Prop:=∃oe vs,h.get? a=some oe/\oe.cls=C/\oe.dict=d/\oe.data = .fields vs/\vs[1]?=some .none
structure But (fs l:List Addr) (h h':Heap):Prop where
 keep:∀b o,b∉l->b∉fs->h.get? b=some o->h'.get? b=some o
 slot:∀b o,b∉l->b∈fs->h.get? b=some o->∃sl,h'.get? b=some {o with slots:=sl}
 there:∀b o,h.get? b=some o->∃o',h'.get? b=some o'
theorem But.trans{fs l:List Addr}{h1 h2:Heap}(x:But fs l h h1)(y:But fs l h1 h2):But fs l h h2 :=
 ⟨fun b o n m e=>y.keep b o n m (x.keep b o n m e),fun b o n m e=>by
  obtain⟨s1,e1⟩:=x.slot b o n m e;obtain⟨s2,e2⟩:=y.slot b _ n m e1
  exact⟨s2,e2⟩,fun b o e=>by obtain⟨o1,e1⟩:=x.there b o e;exact y.there b o1 e1⟩
theorem But.more{fs l l':List Addr}(x:But fs l h h')(s:∀b,b∈l->b∈l'):But fs l' h h' :=
 ⟨fun b o n m e=>x.keep b o (fun z=>n (s b z)) m e,fun b o n m e=>x.slot b o (fun z=>n (s b z)) m e,x.there⟩
section
variable{M:LS}{A:EH}{E:D4->D6->Prop}{s:D6}{base:Heap}{env:Env}{outer:List Env}{L a T:Addr}{C:D4}{d:Option Addr}{Q:Unit->D6->Prop}
theorem og(f:Array D4->Array D4)(o:Obj):(FS f o).dict=o.dict:=by
 obtain⟨_,_,dt,_⟩:=o;cases dt<;>rfl
theorem qY{oe:Obj}{vs:Array D4}{head:D4}{hadNext:Bool}(hfr:A.frames=some (env::outer))(hl:s.heap.FunFrames base (env::outer))(hf:env.frame=some L)(he:s.heap.get? a=some oe)(hd:oe.data = .fields vs)(hz:1<vs.size)
 (h:∀h' T,s.heap.get? T=none->DZ h' a oe.cls oe.dict T (Hw L)->But (frs (env::outer)) [a] s.heap h'->Q () {s with heap:=h' }) :
 Es M A (do let f <- frameOf env;let pl <- entryPlaceOf L hadNext;let b <- KU head f .none (Hw L) .none pl;setField (.ref a) 1 b) Q E s:=by
 have na:a∉frs (env::outer):=fun hm=>by
  obtain⟨_,o,ho,hn⟩:=hl.mem hm;rw[he]at ho;cases ho;exact hn vs hd
 refine D1 (wpAny_frameOf_fun hfr hl hf fun h1 z1=>D1 (wpAny_entryPlaceOf fun pl hpl=>?_));unfold KU newFields;refine D1 (EN ?_ (hpl.sizeOk5 _ _ _ _ _));have e1:h1.get? a=some oe:=(z1.2.1 a na).trans he;generalize hob:({cls:=.type "traceback", dict:=none,data:=.fields ([head,.ref L,.none,Hw L,.none]++(if pl.isEmpty then E9 6 Fi else pl)).toArray}:Obj)=ob;have e2:(h1.push ob).get? a=some oe:=D3 _ e1;refine GH e2 hd hz (h _ h1.objs.size ?_ ?_ ?_)
 · cases q:s.heap.get? h1.objs.size with
   | none=>rfl
   | some o =>
     obtain⟨sl,e⟩:=z1.2.2 _ o q;exact absurd (D_ e) (FB _)
 · have ne:h1.objs.size≠a:=Hv (D_ e1);have d3:=E_ hd (·.setIfInBounds 1 (EO h1.objs.size));have e3:=ES (FS (·.setIfInBounds 1 (EO h1.objs.size))) e2 (FJ d3)
   have e4:((h1.push ob).update a (FS (·.setIfInBounds 1 (EO h1.objs.size)))).get? h1.objs.size=some ob :=
    (EG _ _ (GM ne)).trans (Eg h1 (by rw[<- hob];rfl))
   refine⟨_,_,ob,_,e3,H_ _ _,og _ _,d3,by simp[hz],ne,e4,by rw[<- hob],?_⟩
   first|(simp;done)|(rcases hpl with rfl|⟨_,_,_,_,_,_,_,rfl⟩<;>simp)
 · have kk:∀b o,b≠a->h1.get? b=some o->((h1.push ob).update a (FS (·.setIfInBounds 1 (EO h1.objs.size)))).get? b=some o:=fun b o nb e=>by
     rw[EG _ _ (GM nb)];exact D3 _ e
   refine⟨fun b o n m e=>kk b o (by simpa using n) ((z1.2.1 b m).trans e),fun b o n m e=>?_,fun b o e=>?_⟩
   · obtain⟨sl,q⟩:=z1.2.2 b o e;exact⟨sl,kk b _ (by simpa using n) q⟩
   · by_cases hb:b=a
     · subst hb;exact⟨_,ES _ e2 (FJ (E_ hd _))⟩
     · obtain⟨sl,q⟩:=z1.2.2 b o e;exact⟨_,kk b _ hb q⟩
theorem wz(hfr:A.frames=some (env::outer))(hl:s.heap.FunFrames base (env::outer))(hf:env.frame=some L)(b:AM s.heap a C d)
 (h:∀h' T,s.heap.get? T=none->DZ h' a C d T (Hw L)->But (frs (env::outer)) [a] s.heap h'->Q () {s with heap:=h' }):Es M A (Jq (.ref a) env) Q E s:=by
 obtain⟨oe,vs,he,rfl,rfl,hd,h1⟩:=b;unfold Jq;simp only[hf];refine D1 (HZ he hd h1 ?_);rw[if_neg (by decide)];exact qY hfr hl hf he hd (GC.mp h1).1 h
theorem ww(hfr:A.frames=some (env::outer))(hl:s.heap.FunFrames base (env::outer))(hf:env.frame=some L)(b:DZ s.heap a C d T .none)
 (h:∀h' T',s.heap.get? T'=none->DZ h' a C d T' (Hw L)->But (frs (env::outer)) [a,T] s.heap h'->Q () {s with heap:=h' }):Es M A (Jq (.ref a) env) Q E s:=by
 obtain⟨oe,vs,oT,ts,he,rfl,rfl,hd,h1,nT,hT,dT,h3⟩:=b;unfold Jq;simp only[hf];refine D1 (HZ he hd h1 ?_);rw[if_pos (show(EO T != Fi)=true from by simp)];refine D1 (HZ hT dT h3 ?_);rw[if_neg (show ¬((Fi==Hw L)=true)from by simp[Hw])];refine D1 (GH hT dT (GC.mp h3).1 ?_);have oth:∀b,b≠T->(s.heap.update T (FS (·.setIfInBounds 3 Fi))).get? b=s.heap.get? b:=fun b n=>EG _ _ (GM n)
 have ntT:∀b o,s.heap.get? b=some o->(∀vs,o.data ≠ .fields vs)->b≠T:=fun b o e n q=>by
  rw[q,hT]at e;cases e;exact n ts dT
 have B0:But (frs (env::outer)) [a,T] s.heap (s.heap.update T (FS (·.setIfInBounds 3 Fi))):=⟨fun b o n _ e=>(oth b (fun z=>n (by simp[z]))).trans e,fun b o n _ e=>⟨o.slots,(oth b (fun z=>n (by simp[z]))).trans e⟩,fun b o e=>by
  by_cases q:b=T
  · subst q;exact⟨_,ES _ e (by rw[hT]at e;cases e;exact FJ (E_ dT _))⟩
  · exact⟨o,(oth b q).trans e⟩⟩
 refine qY (s:={s with heap:=_}) hfr (hl.of_keeps fun b o e n=>⟨o,(oth b (ntT b o e n)).trans e,rfl⟩) hf ((oth a (GM nT)).trans he) hd (GC.mp h1).1 fun h' T' n' air bt=>?_;refine h h' T' ?_ air (B0.trans (bt.more fun b z=>by simp at z;simp[z]))
 cases q:s.heap.get? T' with
 | none=>rfl
 | some o=>obtain⟨o',e'⟩:=B0.there _ o q;rw[n']at e';cases e'
theorem zn{fl:D4}(b:DZ s.heap a C d T fl)(h:∀h',DZ h' a C d T .none->(∀b,b≠T->h'.get? b=s.heap.get? b)->(∃o,h'.get? T=some o)->Q () {s with heap:=h' }):Es M A (setFlight (.ref a) none) Q E s:=by
 obtain⟨oe,vs,oT,ts,he,rfl,rfl,hd,h1,nT,hT,dT,h3⟩:=b;have z3:3<ts.size:=(GC.mp h3).1;unfold setFlight;refine D1 (HZ he hd h1 ?_);rw[if_pos (show(EO T != Fi)=true from by simp)];have oth:∀b,b≠T->(s.heap.update T (FS (·.setIfInBounds 3 ((none:Option Addr).elim Fi fun f=>Hw f)))).get? b=s.heap.get? b:=fun b n=>EG _ _ (GM n);have eT:=ES (FS (·.setIfInBounds 3 ((none:Option Addr).elim Fi fun f=>Hw f))) hT (FJ (E_ dT _));exact GH hT dT z3 (h _ ⟨oe,vs,_,_,(oth a (GM nT)).trans he,rfl,rfl,hd,h1,nT,eT,E_ dT _,by simp[z3]⟩ oth ⟨_,eT⟩)
theorem jg{fs:List Addr}(k:∀b,b≠T->h'.get? b=h.get? b)(t:∃o,h'.get? T=some o):But fs [T] h h' :=
 ⟨fun b o n _ e=>(k b (by simpa using n)).trans e,fun b o n _ e=>⟨o.slots,(k b (by simpa using n)).trans e⟩,fun b o e=>by
  by_cases q:b=T
  · subst q;exact t
  · exact⟨o,(k b q).trans e⟩⟩
theorem tV(hfr:A.frames=some (env::outer))(hl:s.heap.FunFrames base (env::outer))(hf:env.frame=some L)(b:AM s.heap a C d)
 (h:∀h' T,s.heap.get? T=none->DZ h' a C d T .none->But (frs (env::outer)) [a] s.heap h'->Q () {s with heap:=h' }):Es M A (leaving env (.ref a)) Q E s:=by
 unfold leaving;refine D1 (wz hfr hl hf b fun h1 T n1 air bt=>?_);refine zn air fun h2 air2 k2 t2=>h h2 T n1 air2 ?_;have b2:But (frs (env::outer)) [T] h1 h2:=jg k2 t2;refine⟨fun c o n m e=>b2.keep c o ?_ m (bt.keep c o n m e),fun c o n m e=>?_,fun c o e=>by obtain⟨o1,e1⟩:=bt.there c o e;exact b2.there c o1 e1⟩
 · intro z;have:c=T:=by simpa using z
   subst this;rw[n1]at e;cases e
 · obtain⟨sl,e1⟩:=bt.slot c o n m e;refine b2.slot c _ ?_ m e1 |>.imp fun sl' e2=>e2;intro z;have:c=T:=by simpa using z
   subst this;rw[n1]at e;cases e
end
noncomputable def C6:List D4:=[.type "ValueError", .type "Exception", .type "BaseException", .type "object"]
noncomputable def qp(K:W.Frag)(C:Addr):Bool:=match K.lookup C with
 | some ⟨.type "type", _,.cls cd,sl⟩=>(match cd.mro,sl.toList with
   | .ref C'::bm,[_,_,_,_,some (.builtin n),_]=>C'==C&&n == "ValueError.__new__" && !cd.hasDel&&cd.hasDict&&W.tailIn K C6 bm&&W.nsOkIn K cd.ns
   | _,_=>false)
 | _=>false
theorem lx{K:W.Frag}{C:Addr}(X:K.In h)(q:qp K C=true):∃nm qn N bs bm sn sub ab col dd k0 k1 k2 k3 k5,
 K.lookup C=some (excClassObj nm qn C N bs bm true sn sub ab col dd k0 k1 k2 k3 k5 "ValueError.__new__")/\OwnTail h C6 bm:=by
 unfold qp at q;split at q
 · rename_i dd cd sl ho;split at q
   · rename_i C' bm k0 k1 k2 k3 n k5 hm hs;simp only[Hr,beq_iff_eq,Bool.not_eq_true']at q;obtain⟨⟨⟨⟨⟨c1,c2⟩,c3⟩,c4⟩,c5⟩,c6⟩:=q;obtain⟨nm,bs,mro,ns,qn,hd,sn,sub,ab,col,del⟩:=cd;dsimp only at hm c3 c4 c6
     have hsl:sl = #[k0,k1,k2,k3,some (.builtin n),k5]:=by
      obtain⟨l⟩:=sl;simp only at hs;rw[hs]
     subst hsl hm c1 c2 c3 c4;exact⟨nm,qn,ns,bs,bm,sn,sub,ab,col,dd,k0,k1,k2,k3,k5,ho,W.tail_of_in X c5⟩
   · cases q
 · cases q
abbrev cq(C t:Addr)(d:Option Addr):Obj:={cls:=.ref C,dict:=d,data:=.fields #[.ref t,.none,.none,.none,.bool false,.none]}
abbrev bF(h:Heap)(C:Addr)(us:List D4):Heap:=(h.push {cls:=.type "tuple", data:=.seq us.toArray}).push (cq C h.objs.size none)
section
variable{prog:Ei}{w:EK}{A:EH}{E:D4->D6->Prop}{s:D6}{K:W.Frag}{C f:Addr}{us:List D4}
theorem k_(X:K.In s.heap)(q:qp K C=true)(hi:W.findIn K (.ref C) "__init__" = some (some (.ref f)))(hf:W.typeIn K (.ref f)=some (.type "function"))(hz:us.length<=sizeLine)
 (h:Es (EJ prog w) (A.under (.builtin "type.__call__" ⟨.ref C::us,[]⟩)) (call (.ref f) (.ref (s.heap.objs.size+1)::us)) (fun r s'=>r = .none/\Q (.ref (s.heap.objs.size+1)) s') E {s with heap:=bF s.heap C us}) :
 Es (EJ prog w) A (call (.ref C) us) Q E s:=by
 obtain⟨nm,qn,N,bs,bm,sn,sub,ab,col,dd,k0,k1,k2,k3,k5,lk,T⟩:=lx X q;obtain⟨hp,g,d,t,os⟩:=s;have hC:=X _ _ lk;have F:=PySem.F.excBase_ValueError;have f1:=tc_lookup;have f2:=tc_bind (.ref C);have hT:(⟨hp,g,d,t,os⟩:D6).TypeIs (.ref C) "type" := ⟨_,hC,rfl⟩;refine Lj (Kf ?_);show Es _ _ (callAny (.ref C) _) _ _ _
 repeat (any_goals (first|assumption|(with_reducible refine GS hC ?_)|wp_step))
 refine⟨rfl,?_⟩;refine codeAny_call_builtin_at (Ja _ (by decide +kernel)) entry_typeCall (wpAny_check_type_call_sub hC ?_)
 repeat (first|(with_reducible refine GS hC ?_)|(with_reducible refine wpAny_madeBy_exc hC ?_)|wp_step)
 refine codeAny_call_builtin_code (Ja _ F.quiet) (wpAny_check_new_subT F T hC ?_);refine codeAny_exc_new_subT F T hC ?_ hz;show Es _ _ _ _ _ _;have kk:∀b o,hp.get? b=some o->(bF hp C us).get? b=some o:=fun b o e=>D3 _ (D3 _ e);have hC1:=kk _ _ hC;have X1:K.In (bF hp C us):=X.keeps kk;have hg:(bF hp C us).get? (hp.objs.size+1)=some (cq C hp.objs.size none):=by heap_get
 have hcC:(EO C::bm).contains (.ref C)=true:=by simp
 unfold isInstance
 repeat (first|(with_reducible refine GS hg ?_)|((with_reducible refine IJ hC1 ?_);rw[hcC])|wp_step)
 refine IJ hC1 ?_;rw[hcC]
 repeat (first|(with_reducible refine GS hg ?_)|wp_step)
 show Es _ _ (typeLookup (.ref C) _) _ _ _;refine W.Looks.here (s:=⟨bF hp C us,g,d,t,os⟩) (W.looks_findIn X1 hi) ?_;refine Fg (D1 (W.Looks.here (s:=⟨bF hp C us,g,d,t,os⟩) (W.bind_fn X1 _ hf) ?_));refine D1 (ER h (fun r s' hr=>?_) fun _ _ x=>x);obtain⟨rfl,hQ⟩:=hr
 wp_walk
 exact hQ
end
open Builtin Builtin.ObjectAttr
theorem o7(self:D4){l:List D4}(T:OwnTail h C6 l):refuseLoop self "__setattr__" l=pure ():=by
 induction T with
 | base=>exact Js.passes self
 | own _ _ _ _ ih=>rw[refuseLoop_ref];exact ih
section
variable{prog:Ei}{w:EK}{A:EH}{E:D4->D6->Prop}{s:D6}{K:W.Frag}{C a t:Addr}{d:Option Addr}{name:Str}{v:D4}{mA:Str->Option D4}{ns:List Str}
theorem vL{Q:Unit->D6->Prop}(X:K.In s.heap)(q:qp K C=true)(hs:W.findIn K (.ref C) "__setattr__" = some (some (.builtin "object.__setattr__")))(hn:W.findIn K (.ref C) name=some none)
 (ha:s.heap.get? a=some (cq C t d))(hm:(d=none/\∀n,mA n=none)\/∃dx,d=some dx/\dx≠a/\s.heap.Ns1 dx mA)(hw:Lq mA ns)(hz:ns.length<=sizeLine)
 (h:∀h' tk dx,h'.get? a=some (cq C t (some dx))->h'.Ns1 dx (fun y=>if y=name then some v else mA y)->dx≠a->(d=some dx\/(d=none/\s.heap.objs.size<=dx)) ->
  (∀b o,b≠a->b≠dx->s.heap.get? b=some o->h'.get? b=some o)->Q () {s with heap:=h',toks:=tk}):Es (EJ prog w) A (setAttr (.ref a) name v) Q E s:=by
 obtain⟨nm,qn,N,bs,bm,sn,sub,ab,col,dd,k0,k1,k2,k3,k5,lk,T⟩:=lx X q;have hC:=X _ _ lk;have SF:=Js
 obtain⟨od,I⟩:∃od,W.InstAt s.heap a (cq C t d) C od:=by
  rcases hm with⟨rfl,_⟩|⟨dx,rfl,_,⟨o,es,ep,ho,_⟩⟩
  · exact⟨none,ha,rfl,rfl,trivial⟩
  · exact⟨some o,ha,rfl,rfl,ho⟩
 refine W.set_plain X I hs ?_;obtain⟨hp,g,dr,tk,os⟩:=s
 have hc:W.clsIn K C=some {name:=nm,bases:=bs,mro:=.ref C::bm,ns:=N,qualname:=qn,hasDict:=true,slotNames:=sn,subclasses:=sub,abstract:=ab,collection:=col,hasDel:=false}:=by
  unfold W.clsIn;rw[lk]
 have hmr:W.Looks (EJ prog w) hp (mroOf (.ref C)) (.ref C::bm):=(W.looks_clsIn X hc).andThen .now
 have sb:W.Looks (EJ prog w) hp (isInstance (.ref a) (.type "object")) true:=I.type.andThen (W.looks_mroIn X (by
  unfold W.mroIn
  rw[hc,Option.bind_some,if_neg (by simp),List.contains_cons,T.hasType (X := "object") (b:=true) (by decide +kernel),Bool.or_true]))
 refine Kz SF.slot.plain SF.entry (@W.check_slot (EJ prog w) _ _ ⟨hp,g,dr,tk+1,os⟩ "object.__setattr__" "object" "__setattr__" (.ref a) [.str name tk,v] [] _ SF.kind SF.split sb (SF.args (.ref a) (.str name tk) v) ?_);rw[W.osa_eq,refuse_eq];refine D1 (D1 (W.Looks.here (s:=⟨hp,g,dr,tk+1,os⟩) I.type (D1 (W.Looks.here (s:=⟨hp,g,dr,tk+1,os⟩) hmr ?_))));rw[refuseLoop_ref,o7 _ T];refine D5 (D1 (W.Looks.here (s:=⟨hp,g,dr,tk+1,os⟩) I.type (D1 (W.Looks.here (s:=⟨hp,g,dr,tk+1,os⟩) (W.looks_findIn X hn) ?_))));refine D1 (D5 ?_);show Es _ _ (storeInOwnDict _ _ _ _ _ _) _ _ _;rcases hm with⟨rfl,hmA⟩|⟨dx,rfl,hne,hns⟩
 · have hC':=hC;refine D1 (D5 (D1 (D1 (KF (s:=⟨hp,g,dr,tk+1,os⟩) ha (D1 (W.Looks.here (s:=⟨hp,g,dr,tk+1,os⟩) (W.looks_clsIn X hc) ?_))))));have ha1:(hp.push {cls:=.type "dict", data:=.dict #[]}).get? a=some (cq C t none):=D3 _ ha;have nas:a≠hp.objs.size:=Ey (D_ ha);refine D1 (wpAny_alloc' ?_);refine D1 (wpAny_update' ha1 (D5 ?_))
   have hgd:((hp.push {cls:=.type "dict", data:=.dict #[]}).update a fun o=>{o with dict:=some hp.objs.size}).get? hp.objs.size=some {cls:=.type "dict", data:=.dict #[]} :=
    (KW _ _ _ _ nas.symm).trans (Heap.get?_push_at rfl rfl)
   have hnd:((hp.push {cls:=.type "dict", data:=.dict #[]}).update a fun o=>{o with dict:=some hp.objs.size}).Ns hp.objs.size (fun _=>none):=⟨_,#[],_,hgd,rfl,fun e he=>absurd he (by simp),fun _=>rfl⟩;have hga:((hp.push {cls:=.type "dict", data:=.dict #[]}).update a fun o=>{o with dict:=some hp.objs.size}).get? a=some (cq C t (some hp.objs.size)):=ES _ ha1 rfl;show Es _ _ (storeInDict hp.objs.size (.str name tk) name v) _ _ _;unfold storeInDict newKeyGuard;refine D1 (D5 (D1 (wpAny_nsSet1 (Heap.Ns1.of_empty hnd) fun h' hn' hs'=>?_)));obtain⟨oD,esD,epD,hoD,hdD,hcD⟩:=hn'.count (Within.cons name v Within.nil);refine D1 (wpAny_lookBehind hoD (by rw[hdD];exact pastItsLine_dict (FG hcD (by rw[EQ,Gy,KI];omega))) (D5 ?_));refine h h' _ hp.objs.size ((hs'.2 a nas).trans hga) ?_ nas.symm (.inr ⟨rfl,Ef _⟩) fun b o n1 n2 e=>(hs'.2 b n2).trans ((KW _ _ _ _ n1).trans (D3 _ e));obtain⟨o',es,ep,e1,e2,e3,eu,e4⟩:=hn';exact⟨o',es,ep,e1,e2,e3,eu,fun y=>by rw[e4 y];by_cases hy:y=name<;>simp[hy,hmA]⟩
 · refine D1 (D5 (D1 (D1 (KF (s:=⟨hp,g,dr,tk+1,os⟩) ha (D1 (W.Looks.here (s:=⟨hp,g,dr,tk+1,os⟩) (W.looks_clsIn X hc) ?_))))));refine D5 (a:=some dx) ?_;show Es _ _ (storeInDict dx (.str name tk) name v) _ _ _;unfold storeInDict newKeyGuard;refine D1 (D5 (D1 (wpAny_nsSet1 (s:=⟨hp,g,dr,tk+1,os⟩) hns fun h' hn' hs'=>?_)));obtain⟨oD,esD,epD,hoD,hdD,hcD⟩:=hn'.count (Within.cons name v hw);refine D1 (wpAny_lookBehind hoD (by rw[hdD];exact pastItsLine_dict (FG hcD (by rw[EQ];omega))) (D5 ?_));exact h h' _ dx ((hs'.2 a hne.symm).trans ha) hn' hne (.inl rfl) fun b o n1 n2 e=>(hs'.2 b n2).trans e
end
open Builtin Builtin.ObjectAttr
theorem ni{M:LS}{g:Array GenState}{d:Drawn}{tk:Nat}{os:OsState}{t:Sem α}{r:α}{Q:α->D6->Prop}(x:W.Looks M h t r)(q:Q r ⟨h,g,d,tk,os⟩):Es M A t Q E ⟨h,g,d,tk,os⟩:=x.here (s:=⟨h,g,d,tk,os⟩) q
section
variable{prog:Ei}{w:EK}{A:EH}{E:D4->D6->Prop}{s:D6}{K:W.Frag}{C a dx:Addr}{name:Str}{v:D4}{mA:Str->Option D4}{oe:Obj}{vs:Array D4}
end
open Builtin Builtin.ObjectAttr
structure XCls (K:W.Frag) (C:Addr):Prop where
 xc:qp K C=true
 sa:W.findIn K (.ref C) "__setattr__" = some (some (.builtin "object.__setattr__"))
 ga:W.findIn K (.ref C) "__getattribute__" = some (some (.builtin "BaseException.__getattribute__"))
 gh:W.findIn K (.ref C) "__getattr__" = some none
 ca:W.findIn K (.ref C) "__class__" = some (some (.builtin "object.__class__"))
 cg:W.specialIn K (.builtin "object.__class__") "__get__" = some (some (.builtin "getset_descriptor.__get__"))
 ct:W.takesIn K (.builtin "object.__class__")=some true
 ob:W.mroIn K C (.type "object")=some true
section
variable{prog:Ei}{w:EK}{A:EH}{E:D4->D6->Prop}{s:D6}{K:W.Frag}{C a dx:Addr}{ox od:Obj}
end
abbrev aS(a C:Addr)(d:Option Addr):Heap->Prop:=fun h=>∃t,h.get? a=some (cq C t d)
theorem jl{C t:Addr}{d:Option Addr}(e:h.get? a=some (cq C t d)):br P w H h a (.ext (aS a C d)) :=
 ⟨⟨t,e⟩,⟨_,e⟩,fun _ _ ⟨u,z⟩ k=>⟨u,k _ z⟩⟩
section
variable{X:Cx}{pins:List (Addr×Obj)}{σ:St}{H:Hp}{s:D6}{a C dx:Addr}{f:Str}{v:V}{A:EH}{E:D4->D6->Prop}
theorem sI{u:D4}{Q:Unit->D6->Prop}(I:Inv X pins σ H s)(e:H a=some (.ext (aS a C none)))(c:XCls X.K C)(n:bX X.K C f)(r:RelV v u)
 (h:∀s' dx,H dx=none->dx≠a->Inv X pins σ (upd (upd H a (.ext (aS a C (some dx)))) dx (.xd [(f,v)])) s'->Q () s'):Es (EJ X.prog X.w) A (setAttr (.ref a) f u) Q E s:=by
 obtain⟨⟨t,ea⟩,_,_⟩:=(show br X.prog X.w H s.heap a (.ext (aS a C none))from I.hok a _ e);refine vL (mA:=fun _=>none) (ns:=[]) I.kIn c.xc c.sa n ea (.inl ⟨rfl,fun _=>rfl⟩) Within.nil (Gg _) fun h' tk dx e1 e2 ne hdx kk=>?_
 obtain hz:s.heap.objs.size<=dx:=by
  rcases hdx with z|⟨_,z⟩
  · cases z
  · exact z
 have fr:H dx=none:=I.hok.fresh hz;have lt:∀b o,s.heap.get? b=some o->b≠dx:=fun b o q=>Ey (D9 (D_ q) hz);have ltH:∀b o,H b=some o->b≠dx:=fun b o q=>ax q fr;have nea:∀b,H b=none->b≠a:=fun b q z=>by rw[z,e]at q;cases q
 have up:∀b o,b≠a->H b=some o->upd (upd H a (.ext (aS a C (some dx)))) dx (.xd [(f,v)]) b=some o:=fun b o n q=>by
  rw[upd_ne (ltH b o q),upd_ne n];exact q
 refine h _ dx fr ne (I.un (h':=h') (t':=tk) ⟨fun b o q n _ _=>kk b o (nea b n) (lt b o q) q,fun b o q n _ _=>⟨o.slots,kk b o (nea b n) (lt b o q) q⟩,fun b o q n _=>?_,fun b o q _=>?_,fun b xs q=>up b _ ?_ q,fun b o u q=>up b _ ?_ q,fun b ps q=>⟨#[],by rw[up b _ (ci q e (fun z=>nomatch z)) q];simp⟩⟩ fun b o q=>?_)
 · rw[upd_ne (lt b o q),upd_ne (nea b n)];exact n
 · by_cases hb:b=a
   · subst hb;exact⟨_,e1⟩
   · exact⟨o,kk b o hb (lt b o q) q⟩
 · exact ci q e (fun z=>nomatch z)
 · exact ci q e (fun z=>nomatch z)
 · by_cases hd:b=dx
   · subst hd;rw[ak]at q;cases q;refine⟨_,e2,fun g=>?_⟩;by_cases hg:g=f
     · subst hg;have hb:(g==g)=true:=by simp
       simp only[KY,hb,if_true];exact r
     · have hb:(g==f)=false:=beq_eq_false_iff_ne.mpr hg;simp only[KY,hb,if_neg hg];exact Hz
   · rw[upd_ne hd]at q;by_cases hb:b=a
     · subst hb;rw[ak]at q;cases q;exact jl e1
     · rw[upd_ne hb]at q;refine(I.hok b o q).stay (fun c u hc z=>kk c u ?_ (lt c u z) z) (fun c z=>up c _ (ci z e (fun y=>nomatch y)) z) fun c xs z=>up c _ (ci z e (fun y=>nomatch y)) z;rcases hc with rfl|hc
       · exact hb
       · exact ci hc e (fun y=>nomatch y)
end
section
variable{M:LS}{A:EH}{E:D4->D6->Prop}{s:D6}{env:Env}{K:W.Frag}
theorem sR{x:Sem D4}{Q:Flow->D6->Prop}(hh:A.handled=none)
 (h:Es M A x (fun v s1=>∃a C t d,v = .ref a/\K.In s1.heap/\qp K C=true/\s1.heap.get? a=some (cq C t d)/\E (.ref a) s1) E s):Es M A (raiseStmt env (some x) none) Q E s:=by
 unfold raiseStmt;refine D1 (ER h (fun v s1 ⟨a,C,t,d,ev,X,q,ea,z⟩=>?_) fun _ _ y=>y);subst ev;obtain⟨nm,qn,N,bs,bm,sn,sub,ab,col,dd,k0,k1,k2,k3,k5,lk,T⟩:=lx X q;have hC:=X _ _ lk;have hcB:(EO C::bm).contains (.type "BaseException")=true:=by rw[List.contains_cons,T.hasType (X := "BaseException") (b:=true) (by decide +kernel),Bool.or_true]
 obtain⟨hp,g,dr,tk,os⟩:=s1;have hx:hp.get? a=some {cls:=.ref C,dict:=d,data:=.fields #[.ref t,.none,.none,.none,.bool false,.none]}:=ea
 repeat (first|(with_reducible refine GS hx ?_)|(with_reducible refine GS hC ?_)|((with_reducible refine IJ hC ?_);rw[hcB])|wp_step)
 exact wpAny_raiseNew_none hh z
end
structure XMk (K:W.Frag) (C f:Addr):Prop where
 cl:XCls K C
 init:W.findIn K (.ref C) "__init__" = some (some (.ref f))
 fn:W.isFn K (.ref f)=true
 kp:W.keepIn K (.ref C)=true
noncomputable def Cg(K:W.Frag)(ta tv:TE)(n:Str):TS:=fun D σ H=>tv σ H fun y H1=>ta σ H1 fun x H2=>∃a C,x = .ref a/\XCls K C/\bX K C n/\H2 a=some (.ext (aS a C none)) /\
 ∀dx,H2 dx=none->dx≠a->D.nx σ (upd (upd H2 a (.ext (aS a C (some dx)))) dx (.xd [(n,y)]))
section
variable{X:Cx}{o value:Expr}{n:Str}{pos pos':Pos}{ta tv:TE}
theorem yX(ha:PE X o ta)(hv:PE X value tv)(hs:autoParam (Gx value (some (.Attribute o n pos')) pos.line X.env=pure false) æa._auto_1):PS X (.Assign [.Attribute o n pos'] value pos) (Cg X.K ta tv n):=by
 intro pins s σ H D I h;refine Ia (BY (hv pins s σ H _ I h) fun u s1 ⟨y,H1,I1,ry,q⟩=>BY (ha pins s1 σ H1 _ I1 q) fun ov s2 ⟨x,H2,I2,rx,a,C,ex,c,na,ea,q2⟩=>?_) hs;subst ex;obtain rfl:ov=EO a:=rx;exact sI I2 ea c na ry fun s3 dx hd ne I3=>⟨σ,_,I3,q2 dx hd ne⟩
end
section
variable{X:Cx}{k:Nat}{f C:Addr}{fd:Gz}{ps:List Str}{x n:Str}{p pos rpos:Pos}{e:Expr}{t:TA}
end
theorem eP{o:HO}(x:br P w H h a o):∃ob,h.get? a=some ob:=by
 cases o with
 | lst xs=>obtain⟨_,_,_,_,e⟩:=x;exact⟨_,e⟩
 | tup xs=>obtain⟨_,_,_,⟨_,e,_⟩⟩:=x;exact⟨_,e⟩
 | dK kvs=>obtain⟨_,_,_,_,o,_,_,e,_⟩:=x;exact⟨_,e⟩
 | dT kvs=>obtain⟨_,_,_,_,o,_,_,e,_⟩:=x;exact⟨_,e⟩
 | set S n=>obtain⟨o,_,_,_,e,_⟩:=x;exact⟨_,e⟩
 | ins C dx fs=>obtain⟨_,_,_,e,_⟩:=x;exact⟨_,e⟩
 | own y=>exact x
 | xd fs=>obtain⟨_,⟨_,_,_,e,_⟩,_⟩:=x;exact⟨_,e⟩
 | rng lo hi=>obtain⟨_,_,_,e⟩:=x;exact⟨_,e⟩
 | frz ob u=>obtain⟨e,_⟩:=x;exact⟨_,e⟩
 | tbl ps=>exact⟨_,(show h.get? a=some _ from x)⟩
 | met f y=>exact⟨_,(show h.get? a=some _ from x)⟩
 | ext φ=>obtain⟨_,e,_⟩:=x;exact e
noncomputable def dZ(H:Hp)(a:Addr):Hp:=fun b=>if b=a then none else H b
theorem cG:dZ H a a=none:=by unfold dZ;rw[if_pos rfl]
theorem j5{b:Addr}(n:b≠a):dZ H a b=H b:=by unfold dZ;rw[if_neg n]
noncomputable def DR(P:Ei)(w:EK):DQ:=fun outer H s E e s'=>∃a C dx T H',e = .ref a/\s'.os=s.os/\Jy s'.gens/\Un (frs outer) [] H H' s.heap s'.heap/\DO P w H' s'.heap/\DZ s'.heap a (.ref C) (some dx) T .none /\
 H' a=none/\H' T=none/\s.heap.get? a=none/\s.heap.get? T=none/\E (.ref C) (some dx) H'
section
variable{P:Ei}{w:EK}{K:W.Frag}{mg:Str->Option D4}{base:Heap}{N:List Str}{qual:Str}{scope:Scope}{f:Addr}{cd:D4}{A:EH}{outer:List Env}{s s1:D6}{H H1:Hp}{E:XK}{pins:List (Addr×Obj)}{σ:St}{a C dx:Addr}
theorem rn(I:Inv (ji (DR P w) P w K mg base N qual scope f cd A outer s H E) pins σ H1 s1)(sz:s.heap.objs.size<=a)(ne:dx≠a)(ea:H1 a=some (.ext (aS a C (some dx))))(q:E (.ref C) (some dx) (dZ H1 a)) :
 (ji (DR P w) P w K mg base N qual scope f cd A outer s H E).xe (.ref a) s1:=by
 obtain⟨⟨t,e1⟩,_,_⟩:=(show br P w H1 s1.heap a (.ext (aS a C (some dx)))from I.hok a _ ea);refine tV I.ok.frames I.stack rfl ⟨_,_,e1,rfl,rfl,rfl,rfl⟩ fun h' T nT air bt=>?_;have B:=I.base;have fra:s.heap.get? a=none:=Kv sz;have nea:∀b o,s.heap.get? b=some o->b≠a:=fun b o e z=>by rw[z,fra]at e;cases e
 have nfr:∀b o,s.heap.get? b=some o->b∉frs outer->b∉frs (IE qual scope s.heap.objs.size f cd::outer):=fun b o e n z=>by
  unfold frs at z;rw[Gw]at z;rcases Ev.mp z with y|y
  · exact absurd (D_ e) (by rw[y];exact FB _)
  · exact n y
 have infr:∀b,b∈frs outer->b∈frs (IE qual scope s.heap.objs.size f cd::outer):=fun b z=>by
  unfold frs;rw[Gw];exact D7 _ z
 have un1:∀b,b≠a->dZ H1 a b=H1 b:=fun b n=>j5 n;refine⟨a,C,dx,T,dZ H1 a,rfl,I.os,I.bare,⟨fun b o e n m _=>?_,fun b o e n m _=>?_,fun b o e n _=>?_,fun b o e _=>?_,fun b xs e=>?_,fun b o u e=>?_,fun b ps e=>?_⟩,fun b o e=>?_,air,cG,?_,fra,?_,q⟩
 · exact bt.keep b o (by simpa using nea b o e) (nfr b o e m) (B.keep b o e n m (fun z=>nomatch z))
 · obtain⟨sl,e2⟩:=B.slot b o e n m (fun z=>nomatch z);obtain⟨sl',e3⟩:=bt.slot b _ (by simpa using nea b o e) (infr b m) e2;exact⟨sl',e3⟩
 · rw[un1 b (nea b o e)];exact B.free b o e n (fun z=>nomatch z)
 · obtain⟨o1,e2⟩:=B.there b o e (fun z=>nomatch z);exact bt.there b o1 e2
 · have z:=B.tups b xs e;rw[un1 b (ci z ea (fun y=>nomatch y))];exact z
 · have z:=B.frzs b o u e;rw[un1 b (ci z ea (fun y=>nomatch y))];exact z
 · obtain⟨m,z⟩:=B.tbls b ps e;exact⟨m,by rw[un1 b (ci z ea (fun y=>nomatch y))];exact z⟩
 · have hb:b≠a:=fun z=>by rw[z,cG]at e;cases e
   rw[un1 b hb]at e;refine(I.hok b o e).stay (fun c u hc z=>?_) (fun c z=>by rw[un1 c (ci z ea (fun y=>nomatch y))];exact z) fun c xs z=>by rw[un1 c (ci z ea (fun y=>nomatch y))];exact z
   have hH:∃o',H1 c=some o':=by
    rcases hc with rfl|hc
    · exact⟨_,e⟩
    · exact⟨_,hc⟩
   have hca:c≠a:=by
    rcases hc with rfl|hc
    · exact hb
    · exact ci hc ea (fun y=>nomatch y)
   refine bt.keep c u (by simpa using hca) (fun m=>?_) z;obtain⟨o',hH⟩:=hH;rw[I.stkFree c m]at hH;cases hH
 · by_cases hT:T=a
   · rw[hT];exact cG
   · rw[un1 T hT]
     cases z:H1 T with
     | none=>rfl
     | some o =>
       obtain⟨o',e'⟩:=eP (I.hok T o z);rw[nT]at e';cases e'
 · cases z:s.heap.get? T with
   | none=>rfl
   | some o =>
     obtain⟨o1,e2⟩:=B.there T o z (fun y=>nomatch y);rw[nT]at e2;cases e2
end
theorem PS.nox{st:Stmt}{t:TS}(h:PS X.nox st t):PS X st t:=fun pins s σ H D I hw =>
 ER (h pins s σ H D (I.wish _) hw) (fun _ _ q=>q.unwish) fun _ _ z=>E3 z
theorem PA.nox{es:List Expr}{t:TA}(h:PA X.nox es t):PA X es t:=fun pos pins s σ H Q I hw =>
 ER (h pos pins s σ H Q (I.wish _) hw) (fun _ _ ⟨v,H',I',r,q⟩=>⟨v,H',I'.unwish,r,q⟩) fun _ _ z=>E3 z
namespace VL
abbrev XQ:=Str->List (Str×D2)->Prop
abbrev Dc(K:W.Frag)(rl:Option Addr)(F H Fs:Hp)(E:XK)(c:Str)(fs:List (Str×D2)):Prop:=∀C dx F' H' us,Grow rl F H F' H'->be Fs F'->W.nsIn K ED c=some (some (.ref C))->H' dx=some (.xd us)->H dx=none->F' dx=none->DI K F' us fs->E (.ref C) (some dx) H'
abbrev uB(K:W.Frag)(rl:Option Addr)(F H Fs:Hp)(E:XK)(QE:XQ):Prop:=∀c fs,QE c fs->Dc K rl F H Fs E c fs
theorem uB.on{K:W.Frag}{Fs Fs':Hp}{E:XK}{QE:XQ}(l:uB K rl F H Fs E QE)(s:be Fs Fs'):uB K rl F H Fs' E QE:=fun c fs z C dx F' H' us g m=>l c fs z C dx F' H' us g (s.trans m)
noncomputable def AS(K:W.Frag)(rl:Option Addr)(P:List W->(D2->Prop)->XQ->Prop):Sp:=fun vs H Q E=>∃F ws,be F H/\Dq rl F H/\dJ K rl F H vs ws/\ws.all cN=true/\P ws (fun d=>∀v F' H',Grow rl F H F' H'->Rep K F' v d->Q v H') (Dc K rl F H F E)
noncomputable def rh(X:Cx)(rl:Option Addr)(E:XK)(body:List Stmt)(t:VEnds->XQ->En->Prop):Prop:=∃T,Dt X body T/\∀{F₀ H₀ F H:Hp}{σ:St}{ρ:En},VR X.K rl F₀ H₀ F H σ ρ->∀Dv D QE,EndsOk X.K rl F₀ H₀ F Dv D->uB X.K rl F₀ H₀ F E QE->t Dv QE ρ->T D σ H
section
variable{X:Cx}{rl:Option Addr}{E:XK}{st:Stmt}{rest body:List Stmt}{t:Dh}{u:VEnds->XQ->En->Prop}{c e:Expr}{f:TB}{fs:Dg}{pos:Pos}
theorem PB.nox(h:PB X.nox rl c f):PB X rl c f:=let ⟨t,p,k⟩:=h;⟨t,p.nox,k⟩
theorem Du.nox(h:Du X.nox rl st t):Du X rl st t:=let ⟨T,p,k⟩:=h;⟨T,p.nox,k⟩
theorem iK.nox(h:iK X.nox rl body t):iK X rl body t:=let ⟨T,p,k⟩:=h;⟨T,p.nox,k⟩
theorem Dr.nox{es:List Expr}(h:Dr X.nox rl es fs):Dr X rl es fs:=let ⟨T,p,k⟩:=h;⟨T,p.nox,k⟩
noncomputable def BI(t:Dh):VEnds->XQ->En->Prop:=fun Dv _ ρ=>t Dv ρ
theorem Bi(h:iK X.nox rl body t):rh X rl E body (BI t):=by
 obtain⟨T,p,k⟩:=h.nox;exact⟨T,p,fun R Dv D _ ok _ q=>k R Dv D ok q⟩
noncomputable def Ag(t:Dh)(u:VEnds->XQ->En->Prop):VEnds->XQ->En->Prop:=fun Dv QE ρ=>t {Dv with nx:=u Dv QE} ρ
theorem xt(h:Du X.nox rl st t)(h2:rh X rl E rest u):rh X rl E (st::rest) (Ag t u):=by
 obtain⟨T,p,k⟩:=h.nox;obtain⟨T2,p2,k2⟩:=h2;exact⟨_,aT p p2,fun R Dv D QE ok l q=>k R {Dv with nx:=u Dv QE} {D with nx:=T2 D} ⟨fun F H σ ρ s' R' q'=>k2 R' Dv D QE (ok.on s') (uB.on l s') q',ok.rt,ok.bk,ok.ct⟩ q⟩
end
structure DfnE (P:Ei) (w:EK) (K:W.Frag) (mg:Str->Option D4) (base:Heap) (rl:Option Addr) (x:Str) (ps:List Str) (k:Nat) (Pd:List W->(D2->Prop)->XQ->Prop):Prop where
 mono:∀ws Q Q' R R',(∀d,Q d->Q' d)->(∀c fs,R c fs->R' c fs)->Pd ws Q R->Pd ws Q' R'
 ex:∃f fd,mg x=some (.ref f)/\W.keepIn K (.ref f)=true/\Binds K fd ps []/\FnOk P w K mg base (DR P w) k f fd ps (AS K rl Pd)
section
variable{P:Ei}{w:EK}{K:W.Frag}{mg:Str->Option D4}{base:Heap}{rl:Option Addr}{x:Str}{st:Stmt}{N ps:List Str}{k:Nat}{Pd:List W->(D2->Prop)->XQ->Prop}{t:VEnds->XQ->En->Prop}
theorem DfnE.of(Fn:FnIn K mg x st ps)(S:FnScope N ps (defScope st))(mono:∀ws Q Q' R R',(∀d,Q d->Q' d)->(∀c fs,R c fs->R' c fs)->Pd ws Q R->Pd ws Q' R')(len:∀ws Q R,Pd ws Q R->ws.length=ps.length)
 (hbody:∀{f:Addr}(cdv:D4)(A:EH)(outer:List Env)(s:D6)(H:Hp)(E:XK),Room k (A.deeper (IE x (defScope st) s.heap.objs.size f cdv)) ->
  (∀pins σ H1 s1 a C dx,Inv (ji (DR P w) P w K mg base N x (defScope st) f cdv A outer s H E) pins σ H1 s1->s.heap.objs.size<=a->dx≠a->H1 a=some (.ext (aS a C (some dx)))->E (.ref C) (some dx) (dZ H1 a) ->
   (ji (DR P w) P w K mg base N x (defScope st) f cdv A outer s H E).xe (.ref a) s1) ->
  rh (ji (DR P w) P w K mg base N x (defScope st) f cdv A outer s H E) rl E (defBody st) t)
 (hread:∀ws Q R,Pd ws Q R->t (ko Q) R (cy N ws)):DfnE P w K mg base rl x ps (k+1) Pd:=by
 obtain⟨f,fd,hm,F,hb⟩:=Fn.ex;refine⟨mono,f,fd,hm,F.kp,hb,?_⟩;obtain⟨oc,od,kV,doc,pm,an,cdv,ct,osl,rfl,lk,hcd⟩:=F.ex;refine xl lk hcd S (fun vs H Q E ⟨F,ws,_,_,r,_,q⟩=>(Gk r).trans (len ws _ _ q)) fun A outer s H vs Q E hr h=>?_;obtain⟨F,ws,sm,ra,r,ok,q⟩:=h;obtain⟨T,p,kk⟩:=hbody cdv A outer s H E hr (fun pins σ H1 s1 a C dx I sz ne ea q=>rn I sz ne ea q);refine⟨T,p,kk (fZ sm ra r ok) (ko _) _ _ ⟨?_,?_,fun _ _ _ _ _ _ z=>E3 z,fun _ _ _ _ _ _ z=>E3 z⟩ (fun c fs z=>z) (hread ws _ _ q)⟩
 · intro F1 H1 σ1 ρ1 _ R1 q1;exact q1 .non F1 H1 R1.g .non
 · rintro v w1 F1 H1 g1 r1 n1 ⟨d,ed,q1⟩;obtain⟨F2,g2,s2,r2⟩:=cO.fz g1 r1 n1;rw[ed]at r2;exact q1 v F2 H1 g2 r2
end
end VL
theorem qy{fs l:List Addr}{h1 h2:Heap}(u:Un fs [] H H' h h1)(bt:But fs l h1 h2)(fr:∀b∈l,h.get? b=none):Un fs [] H H' h h2:=by
 have nl:∀b o,h.get? b=some o->b∉l:=fun b o e z=>by rw[fr b z]at e;cases e
 refine⟨fun b o e n m x=>bt.keep b o (nl b o e) m (u.keep b o e n m x),fun b o e n m x=>?_,u.free,fun b o e x=>?_,u.tups,u.frzs,u.tbls⟩
 · obtain⟨sl,e1⟩:=u.slot b o e n m x;obtain⟨sl',e2⟩:=bt.slot b _ (nl b o e) m e1;exact⟨sl',e2⟩
 · obtain⟨o1,e1⟩:=u.there b o e x;exact bt.there b o1 e1
theorem nQ{fs l:List Addr}{h1 h2:Heap}(ok:DO P w H h1)(bt:But fs l h1 h2)(fr:∀b∈l,H b=none)(ff:∀b∈fs,H b=none):DO P w H h2:=fun b o e=>by
 have nt:∀c u,H c=some u->c∉l/\c∉fs:=fun c u q=>⟨fun z=>(by rw[fr c z]at q;cases q),fun z=>(by rw[ff c z]at q;cases q)⟩;refine(ok b o e).stay (fun c u hc z=>?_) (fun _ q=>q) fun _ _ q=>q;rcases hc with rfl|hc
 · exact bt.keep c u (nt c _ e).1 (nt c _ e).2 z
 · exact bt.keep c u (nt c _ hc).1 (nt c _ hc).2 z
section
variable{X:Cx}{pins:List (Addr×Obj)}{σ:St}{H:Hp}{s:D6}
end
structure XOver (K:W.Frag) (C B:Addr):Prop where
 sub:W.mroIn K C (.ref B)=some true
 exc:W.mroIn K B (.type "BaseException")=some true
 ty:W.typeIn K (.ref B)=some (.type "type")
section
variable{M:LS}{A:EH}{E:D4->D6->Prop}{s:D6}{K:W.Frag}{C B a:Addr}{oe:Obj}
theorem xp{Q:Bool->D6->Prop}(X:K.In s.heap)(o:XOver K C B)(ha:s.heap.get? a=some oe)(hc:oe.cls = .ref C)(h:Q true s):Es M A (excMatches (.ref a) (.ref B)) Q E s:=by
 have L1:W.Looks M s.heap (isInstance (.ref B) (.type "tuple")) false:=(W.looks_typeIn X o.ty).andThen (.of_pure (by rw[Ji];kernel_rfl))
 have hcl:∃cd,W.clsIn K B=some cd:=by
  have z:=o.exc;unfold W.mroIn at z
  cases q:W.clsIn K B with
  | none=>rw[q]at z;cases z
  | some cd=>exact⟨cd,rfl⟩
 obtain⟨cd,hcd⟩:=hcl;have L2:W.Looks M s.heap (isSubtype (.ref B) (.type "BaseException")) true:=W.looks_mroIn X o.exc;have L3:W.Looks M s.heap (isSubtype (.ref C) (.ref B)) true:=W.looks_mroIn X o.sub
 have L4:W.Looks M s.heap (isType (.ref B)) true:=by
  unfold W.clsIn at hcd;split at hcd
  · rename_i ho;intro A' Q' E' s' k q;unfold isType loadHead;exact D1 (KF (k _ _ (X _ _ ho)) (D5 q))
  · cases hcd
 have L5:W.Looks M s.heap (typeOf (.ref a)) (.ref C):=hc▸(W.Looks.ld ha).andThen .now;obtain⟨hp,g,d,tk,os⟩:=s;unfold excMatches isExcClass
 repeat (first|(with_reducible refine ni L1 ?_)|(with_reducible refine ni L2 ?_)|(with_reducible refine ni L3 ?_)|(with_reducible refine ni L4 ?_)|(with_reducible refine ni L5 ?_)|wp_step)
 exact h
end
end L2
namespace L2.VL
section
variable{X:Cx}{rl:Option Addr}{E:XK}{e:Expr}{es:List Expr}{fs:Dg}{pos p:Pos}
end
section
variable{X:Cx}{rl:Option Addr}{tb:VEnds->XQ->En->Prop}{ts:Dh}{st b₀:Stmt}{suite:List Stmt}{cb n:Str}{cs:List Str}{B:Addr}{np hpos pos:Pos}
abbrev Cx.caughtIn(X:Cx)(a:Addr):Cx:={X with A:=X.A.mark (some (.ref a)),calm:=false,xe:=fun _ _=>False}
theorem Cx.Ok.caughtIn{X:Cx}(ok:X.Ok)(a:Addr):(Cx.caughtIn X a).Ok :=
 ⟨ok.mod,ok.kind,ok.glob,ok.blt,ok.above,ok.inj,ok.has,ok.cab,(fun z=>nomatch z),ok.frames,ok.stk,ok.exf,ok.bs,ok.bsz,ok.noex,ok.exfs,ok.funs,ok.frf⟩
theorem Inv.caughtIn{pins:List (Addr×Obj)}{σ:St}{H:Hp}{s:D6}(I:Inv X pins σ H s)(a:Addr):Inv (Cx.caughtIn X a) pins σ H s:=⟨Cx.Ok.caughtIn I.ok a,I.os,I.bare,I.base,I.loc,I.cell,I.free,I.freeC,I.pin,I.hok,I.len⟩
theorem Inv.uncaught(ok:X.Ok)(I:Inv (Cx.caughtIn X a) pins σ H s):Inv X pins σ H s:=⟨ok,I.os,I.bare,I.base,I.loc,I.cell,I.free,I.freeC,I.pin,I.hok,I.len⟩
abbrev Cx.held(X:Cx)(pn:List (Addr×Obj))(XE:D4->D6->Prop):Cx:={X with pn:=pn,xe:=XE}
theorem Inv.held(I:Inv X pins σ H s)(XE:D4->D6->Prop):Inv (Cx.held X (X.pn++pins) XE) [] σ H s:=by
 have ok:=I.ok;exact⟨⟨ok.mod,ok.kind,ok.glob,ok.blt,ok.above,ok.inj,ok.has,ok.cab,ok.hd,ok.frames,ok.stk,ok.exf,ok.bs,ok.bsz,ok.noex,ok.exfs,ok.funs,ok.frf⟩,I.os,I.bare,I.base,I.loc,I.cell,I.free,I.freeC,fun p hp=>I.pin p (by simpa using hp),I.hok,I.len⟩
theorem Inv.unheld{pins':List (Addr×Obj)}{XE:D4->D6->Prop}(ok:X.Ok)(I:Inv (Cx.held X (X.pn++pins) XE) pins' σ H s):Inv X pins σ H s :=
 ⟨ok,I.os,I.bare,I.base,I.loc,I.cell,I.free,I.freeC,fun p hp=>I.pin p (Iu _ hp),I.hok,I.len⟩
end
section
variable{X:Cx}{rl:Option Addr}{pos p p1:Pos}{c n x:Str}
end
noncomputable def yf(K:W.Frag)(C B f:Addr)(n:Str)(Cs:List Addr):Bool :=
 qp K C&&(W.findIn K (.ref C) "__setattr__" == some (some (.builtin "object.__setattr__")))&&(W.findIn K (.ref C) "__getattribute__" == some (some (.builtin "BaseException.__getattribute__"))) &&
 (W.findIn K (.ref C) "__getattr__" == some none)&&(W.findIn K (.ref C) "__class__" == some (some (.builtin "object.__class__")))&&(W.specialIn K (.builtin "object.__class__") "__get__" == some (some (.builtin "getset_descriptor.__get__"))) &&
 (W.takesIn K (.builtin "object.__class__")==some true)&&(W.mroIn K C (.type "object")==some true)&&W.isFn K (.ref f)&&W.keepIn K (.ref C)&&(W.findIn K (.ref C) n==some none) &&
 (W.mroIn K C (.ref B)==some true)&&(W.mroIn K B (.type "BaseException")==some true)&&(W.typeIn K (.ref B)==some (.type "type")) &&
 (W.kitAny K (.ref C) (Cs.map EO)==some false)&&(W.kitOne K (.ref C) (.ref C)==some true)&&(W.kitOne K (.ref C) (.type "ValueError")==some true)
section
variable{X:Cx}{rl:Option Addr}{E:XK}{rest body:List Stmt}{t u:VEnds->XQ->En->Prop}{pos:Pos}
end
theorem uK{t:Dh}{D:VEnds}{R:XQ}(h:t D ρ):BI t D R ρ:=h
section
variable{X:Cx}{rl:Option Addr}
end
end L2.VL
namespace L2
section
variable{M:LS}{A:EH}{env:Env}{outer:List Env}{base:Heap}{s:D6}{L a T:Addr}{C:D4}{d:Option Addr}{Q:Unit->D6->Prop}{E:D4->D6->Prop}
end
section
variable{P:Ei}{w:EK}{K:W.Frag}{mg:Str->Option D4}{base:Heap}{N:List Str}{qual:Str}{scope:Scope}{f:Addr}{cd:D4}{A:EH}{outer:List Env}{s:D6}{H:Hp}{E:XK}
end
namespace VL
section
variable{X:Cx}{rl:Option Addr}{E:XK}{e a b c:Expr}{es:List Expr}{fs:Dg}{fa:TV}{f:En->XQ->Prop}{fb:TB}{t u:VEnds->XQ->En->Prop}{pos p:Pos}{rest A B body:List Stmt}
end
section
variable{t:Dh}{u v:VEnds->XQ->En->Prop}{D:VEnds}{R:XQ}{ρ ρ':En}{fs:Dg}{fa:TV}{fb:TB}{f:En->XQ->Prop}{ws:List W}
theorem uJ(h:mS t ρ=VL.ret (.nx ρ'))(q:u D R ρ'):Ag t u D R ρ:=by
 have e:mS t ρ (fun fl=>match fl with | .nx ρ=>u D R ρ | .rt w=>D.rt w | .bk ρ=>D.bk ρ | .ct ρ=>D.ct ρ):=by rw[h];exact q
 exact e
end
end VL
section
variable{X:Cx}{pins:List (Addr×Obj)}{σ:St}{H:Hp}{s:D6}{a C dx:Addr}{f:Str}{v:V}{A:EH}{E:D4->D6->Prop}
theorem o4{u:D4}{us:List (Str×V)}{Q:Unit->D6->Prop}(I:Inv X pins σ H s)(e:H a=some (.ext (aS a C (some dx))))(ed:H dx=some (.xd us))(ne:dx≠a)(hl:us.length<=10)(c:XCls X.K C)(n:bX X.K C f)(r:RelV v u)
 (h:∀s',Inv X pins σ (upd H dx (.xd ((f,v)::us))) s'->Q () s'):Es (EJ X.prog X.w) A (setAttr (.ref a) f u) Q E s:=by
 obtain⟨⟨t,ea⟩,_,_⟩:=(show br X.prog X.w H s.heap a (.ext (aS a C (some dx)))from I.hok a _ e);obtain⟨mA,hns,hlk⟩:=(show br X.prog X.w H s.heap dx (.xd us)from I.hok dx _ ed)
 have hw:Lq mA (us.map (·.1)):=fun y hy=>by
  have z:=hlk y
  cases q:us.lookup y with
  | none=>rw[q]at z;cases m:mA y with
    | none=>exact absurd m hy
    | some x=>rw[m]at z;exact z.elim
  | some x =>
    obtain⟨l1,l2,e',_⟩:=List.lookup_eq_some_iff.mp q;rw[e'];simp
 refine vL (mA:=mA) (ns:=us.map (·.1)) I.kIn c.xc c.sa n ea (.inr ⟨dx,rfl,ne,hns⟩) hw (by rw[Eb,KI];omega) fun h' tk dx' e1 e2 ne' hdx kk=>?_
 obtain rfl:dx'=dx:=by
  rcases hdx with z|⟨z,_⟩
  · cases z;rfl
  · cases z
 have nea:∀b,H b=none->b≠a:=fun b q z=>by rw[z,e]at q;cases q
 have ned:∀b,H b=none->b≠dx':=fun b q z=>by rw[z,ed]at q;cases q
 have up:∀b o,b≠dx'->H b=some o->upd H dx' (.xd ((f,v)::us)) b=some o:=fun b o m q=>by rw[upd_ne m];exact q
 refine h _ (I.un (h':=h') (t':=tk) ⟨fun b o q m _ _=>kk b o (nea b m) (ned b m) q,fun b o q m _ _=>⟨o.slots,kk b o (nea b m) (ned b m) q⟩,fun b o q m _=>by rw[upd_ne (ned b m)];exact m,fun b o q _=>?_,fun b xs q=>up b _ (ci q ed (fun z=>nomatch z)) q,fun b o u q=>up b _ (ci q ed (fun z=>nomatch z)) q,fun b ps q=>⟨#[],by rw[up b _ (ci q ed (fun z=>nomatch z)) q];simp⟩⟩ fun b o q=>?_)
 · by_cases hb:b=a
   · subst hb;exact⟨_,e1⟩
   · by_cases hd:b=dx'
     · subst hd;obtain⟨o',_,_,z,_⟩:=e2;exact⟨o',z⟩
     · exact⟨o,kk b o hb hd q⟩
 · by_cases hd:b=dx'
   · subst hd;rw[ak]at q;cases q;refine⟨_,e2,fun g=>?_⟩;by_cases hg:g=f
     · subst hg;have hb:(g==g)=true:=by simp
       simp only[KY,hb,if_true];exact r
     · have hb:(g==f)=false:=beq_eq_false_iff_ne.mpr hg;simp only[KY,hb,if_neg hg];exact hlk g
   · rw[upd_ne hd]at q;by_cases hb:b=a
     · subst hb;rw[e]at q;cases q;exact jl e1
     · refine(I.hok b o q).stay (fun c u hc z=>kk c u ?_ ?_ z) (fun c z=>up c _ (ci z ed (fun y=>nomatch y)) z) fun c xs z=>up c _ (ci z ed (fun y=>nomatch y)) z
       · rcases hc with rfl|hc
         · exact hb
         · exact ci hc e (fun y=>nomatch y)
       · rcases hc with rfl|hc
         · exact hd
         · exact ci hc ed (fun y=>nomatch y)
end
noncomputable def uD(K:W.Frag)(n m:Str):Sp:=fun vs H Q _=>∃a C y z,vs=[.ref a,y,z]/\XCls K C/\bX K C n/\bX K C m/\H a=some (.ext (aS a C none))/\∀dx,H dx=none->dx≠a->Q .non (upd (upd H a (.ext (aS a C (some dx)))) dx (.xd [(m,z),(n,y)]))
noncomputable def Cf(K:W.Frag)(ta tv:TE)(n:Str):TS:=fun D σ H=>tv σ H fun y H1=>ta σ H1 fun x H2=>∃a C dx us,x = .ref a/\XCls K C/\bX K C n/\H2 a=some (.ext (aS a C (some dx)))/\H2 dx=some (.xd us)/\dx≠a/\us.length<=10/\D.nx σ (upd H2 dx (.xd ((n,y)::us)))
section
variable{X:Cx}{o value:Expr}{n:Str}{pos pos':Pos}{ta tv:TE}
theorem yW(ha:PE X o ta)(hv:PE X value tv)(hs:autoParam (Gx value (some (.Attribute o n pos')) pos.line X.env=pure false) æa._auto_1):PS X (.Assign [.Attribute o n pos'] value pos) (Cf X.K ta tv n):=by
 intro pins s σ H D I h;refine Ia (BY (hv pins s σ H _ I h) fun u s1 ⟨y,H1,I1,ry,q⟩=>BY (ha pins s1 σ H1 _ I1 q) fun ov s2 ⟨x,H2,I2,rx,a,C,dx,us,ex,c,na,ea,ed,ne,hl,q2⟩=>?_) hs;subst ex;obtain rfl:ov=EO a:=rx;exact o4 I2 ea ed ne hl c na ry fun s3 I3=>⟨σ,_,I3,q2⟩
end
section
variable{X:Cx}{k:Nat}{f C:Addr}{fd:Gz}{ps:List Str}{x n m:Str}{p pos rpos:Pos}{e e':Expr}{t:TA}
theorem kJ{u u':D4}{v':V}(M:XMk X.K C f)(na:bX X.K C n)(nb:bX X.K C m)(F:FnOk X.prog X.w X.K X.mg X.base DS k f fd ps (uD X.K n m))(hr:Room (k+1) X.A)(hb:Binds X.K fd ps [])
 (I:Inv X pins σ H s)(r:RelV v u)(r':RelV v' u')
 (h:∀s' a dx,H a=none->H dx=none->dx≠a->X.s₀.heap.objs.size<=a->Inv X pins σ (upd (upd H a (.ext (aS a C (some dx)))) dx (.xd [(m,v'),(n,v)])) s'->Q (.ref a) s') :
 Es (EJ X.prog X.w) X.A (call (.ref C) [u,u']) Q X.xe s:=by
 refine k_ I.kIn M.cl.xc M.init (beq_iff_eq.mp M.fn) (by size_fits) ?_;have kk:∀b o,s.heap.get? b=some o->(bF s.heap C [u,u']).get? b=some o:=fun b o e=>D3 _ (D3 _ e);have hg:(bF s.heap C [u,u']).get? (s.heap.objs.size+1)=some (cq C s.heap.objs.size none):=by heap_get
 have I2:Inv X pins σ (upd H (s.heap.objs.size+1) (.ext (aS (s.heap.objs.size+1) C none))) {s with heap:=bF s.heap C [u,u']}:=I.laid (t':=s.toks) kk (KZ _) (jl hg);have fa:H (s.heap.objs.size+1)=none:=I.hok.fresh (KZ _);have r2:bI [V.ref (s.heap.objs.size+1),v,v'] [EO (s.heap.objs.size+1),u,u']:=.cons rfl (.cons r (.cons r' .nil))
 have hq:uD X.K n m [V.ref (s.heap.objs.size+1),v,v'] (upd H (s.heap.objs.size+1) (.ext (aS (s.heap.objs.size+1) C none))) (fun y H'=>y = .non/\∃dx,H dx=none/\dx≠s.heap.objs.size+1/\H'=upd (upd H (s.heap.objs.size+1) (.ext (aS (s.heap.objs.size+1) C (some dx)))) dx (.xd [(m,v'),(n,v)])) E0 :=
  ⟨_,C,v,v',rfl,M.cl,na,nb,ak,fun dx hd ne=>⟨rfl,dx,by rw[upd_ne ne]at hd;exact hd,ne,by rw[cT]⟩⟩
 have hl:([EO (s.heap.objs.size+1),u,u']++([]:List D4)).length=ps.length:=by
  have z:=r2.length;rw[F.len _ _ _ _ hq]at z;exact z.symm
 have hb2:=hb {s with heap:=bF s.heap C [u,u']} [EO (s.heap.objs.size+1),u,u'] I2.kIn hl;rw[FO]at hb2;refine Lj (Hy (F.run _ X.stack _ _ ⟨[EO (s.heap.objs.size+1),u,u'],[]⟩ [EO (s.heap.objs.size+1),u,u'] _ _ E0 (hr.make C [u,u'] []) (I2.env0.make C [u,u'] []) hb2 r2 hq) fun r s' hq'=>?_)
 cases r with
 | error e=>exact hq'.elim
 | ok fl =>
   cases fl with
   | ret y =>
     obtain⟨z,H',I3,rv,ev,dx,hd,ne,eH⟩:=I2.after hq';subst ev eH;have ey:y=Fi:=rv
     exact⟨ey,h _ _ dx fa hd ne (FG I.sz (KZ _)) I3⟩
   | next=>exact E3 hq'
   | brk=>exact E3 hq'
   | cont=>exact E3 hq'
noncomputable def si(C:Addr)(n m:Str)(XE:Addr->Addr->V->V->Hp->Prop)(t:TA):TS:=fun _ σ H=>t σ H fun vs H1=>∃v v',vs=[v,v']/\∀a dx,H1 a=none->H1 dx=none->dx≠a->XE a dx v v' (upd (upd H1 a (.ext (aS a C (some dx)))) dx (.xd [(m,v'),(n,v)]))
theorem mI{XE:Addr->Addr->V->V->Hp->Prop}(M:XMk X.K C f)(na:bX X.K C n)(nb:bX X.K C m)(F:FnOk X.prog X.w X.K X.mg X.base DS k f fd ps (uD X.K n m))(hr:Room (k+1) X.A)(hb:Binds X.K fd ps [])(hg:Gl X x)(hm:X.mg x=some (.ref C))
 (pa:PA X [e,e'] t)(hx:∀pins σ H s a dx v v',Inv X pins σ H s->X.s₀.heap.objs.size<=a->dx≠a->H a=some (.ext (aS a C (some dx)))->H dx=some (.xd [(m,v'),(n,v)])->XE a dx v v' H->X.xe (.ref a) s)
 (hdb:autoParam ((x==("__debug__" : Str))=false) æb._auto_1)(hs:autoParam (Ec [e,e'] X.env=(false,eval e X.env)::Ec [e'] X.env) æa._auto_1)(hpl:autoParam ((FN pos (Ec [e'] X.env)).any (·.1)=false) æa._auto_1):PS X (.Raise (some (.Call (.Name x p) [e,e'] [] pos)) none rpos) (si C n m XE t):=by
 intro pins s σ H D I h;rw[arm_exec_Raise];refine D1 (Gm (sR (K:=X.K) hr.hd ?_));refine D1 (ER (G1 (gu I hg hm ?_ hdb)) (fun v s3 (h3:∃a C t d,v = .ref a/\X.K.In s3.heap/\qp X.K C=true/\s3.heap.get? a=some (cq C t d)/\X.xe (.ref a) s3)=>D1 (Gm (D5 h3))) fun _ _ y=>y);refine W.callWith_K (h₀:=X.base) I.ok.mod.kin M.kp (BY (pa pos pins s σ H _ I h) fun us s1 ⟨vs,H1,I1,r,v,v',ev,q⟩=>⟨I1.kIn,?_⟩) hs hpl;subst ev
 cases r with
 | cons r1 r2 =>
   cases r2 with
   | cons r2 r3 =>
     cases r3;refine kJ M na nb F hr hb I1 r1 r2 fun s' a dx ha hd ne sz I3=>?_;have ea:upd (upd H1 a (.ext (aS a C (some dx)))) dx (.xd [(m,v'),(n,v)]) a=some (.ext (aS a C (some dx))):=by rw[upd_ne (GM ne),ak]
     obtain⟨⟨t,e3⟩,_,_⟩:=(show br X.prog X.w _ s'.heap a (.ext (aS a C (some dx)))from I3.hok a _ ea);exact⟨a,C,t,some dx,rfl,I3.kIn,M.cl.xc,e3,hx pins σ _ s' a dx v v' I3 sz ne ea ak (q a dx ha hd ne)⟩
end
end L2
namespace L2.VL
section
variable{X:Cx}{rl:Option Addr}{E:XK}{c e e':Expr}{es:List Expr}{rest:List Stmt}{f:TB}{fs:Dg}{u:VEnds->XQ->En->Prop}{pos p:Pos}
structure XTwo (P:Ei) (w:EK) (K:W.Frag) (mg:Str->Option D4) (base:Heap) (x n m:Str) (C:Addr):Prop where
 at_:W.nsIn K ED x=some (some (.ref C))
 mg_:mg x=some (.ref C)
 no:bX K C n
 no':bX K C m
 ex:∃f fd ps,XMk K C f/\Binds K fd ps []/\FnOk P w K mg base DS 1 f fd ps (uD K n m)
noncomputable def ye(f:TB)(x n m:Str)(fs:Dg)(u:VEnds->XQ->En->Prop):VEnds->XQ->En->Prop:=fun Dv QE ρ=>f ρ fun b=>if b=true then fs ρ fun ws=>∃d d',ws=[.d d,.d d']/\QE x [(m,d'),(n,d)]else u Dv QE ρ
theorem uk{n m:Str}{C:Addr}{cpos rpos:Pos}(hxe:∀pins σ H s a C dx,Inv X pins σ H s->X.s₀.heap.objs.size<=a->dx≠a->H a=some (.ext (aS a C (some dx)))->E (.ref C) (some dx) (dZ H a)->X.xe (.ref a) s)
 (hr:Room 2 X.A)(xo:XTwo X.prog X.w X.K X.mg X.base x n m C)(hc:PB X.nox rl c f)(ha:Dr X.nox rl [e,e'] fs)(h2:rh X rl E rest u)(hg:autoParam (Gl X x) æa._auto_1)(hdb:autoParam ((x==("__debug__" : Str))=false) æb._auto_1)
 (hs:autoParam (Ec [e,e'] X.env=(false,eval e X.env)::Ec [e'] X.env) æa._auto_1)(hpl:autoParam ((FN cpos (Ec [e'] X.env)).any (·.1)=false) æa._auto_1) :
 rh X rl E (.If c [.Raise (some (.Call (.Name x p) [e,e'] [] cpos)) none rpos] [] pos::rest) (ye f x n m fs u):=by
 obtain⟨t0,p0,k0⟩:=hc.nox;obtain⟨t1,p1,k1⟩:=ha.nox;obtain⟨T2,p2,k2⟩:=h2;obtain⟨fa,fd,ps,M,hb,F⟩:=xo.ex;have pr:=mI (p:=p) (pos:=cpos) (rpos:=rpos) (XE:=fun a dx _ _ H=>E (.ref C) (some dx) (dZ H a)) M xo.no xo.no' F hr hb hg xo.mg_ p1 (fun pins σ H s a dx v v' I sz ne ea _ q=>hxe pins σ H s a C dx I sz ne ea q) hdb hs hpl;refine⟨_,aT (mJ p0 (bZ pr) eJ) p2,fun{F₀ H₀ F H σ ρ} R Dv D QE ok l q=>k0 R _ _ q fun b F1 H1 g1 q1=>?_⟩
 cases b with
 | true =>
   have q1:fs ρ fun ws=>∃d d',ws=[.d d,.d d']/\QE x [(m,d'),(n,d)]:=q1;refine k1 (R.grow g1) _ _ q1 fun vs ws F2 H2 g2 r2 ⟨d,d',ew,qe⟩=>?_;subst ew
   cases r2 with
   | @cons v _ vs' _ r r' =>
     cases r' with
     | @cons v' _ vs'' _ r' r'' =>
       cases r'';refine⟨v,v',rfl,fun a dx na nd ne=>?_⟩
       have eh:dZ (upd (upd H2 a (.ext (aS a C (some dx)))) dx (.xd [(m,v'),(n,v)])) a=upd H2 dx (.xd [(m,v'),(n,v)]):=by
        funext b;by_cases hb:b=a
        · subst hb;rw[cG,upd_ne (GM ne)];exact na.symm
        · rw[j5 hb];by_cases hd:b=dx
          · subst hd;rw[ak,ak]
          · rw[upd_ne hd,upd_ne hb,upd_ne hd]
       show E _ _ (dZ _ _);rw[eh];have g3:=(R.g.trans g1).trans g2
       exact l x _ qe C dx F2 _ [(m,v'),(n,v)] (g3.trans (Grow.laid g2.sub g2.reel nd)) (g1.fs.trans g2.fs) xo.at_ ak (g3.freeB nd) (g2.sub.free nd) (.cons ⟨rfl,r'⟩ (.cons ⟨rfl,r⟩ .nil))
 | false=>exact k2 (R.grow g1) Dv D QE (ok.on g1.fs) (uB.on l g1.fs) q1
theorem lv{n m:Str}{D:VEnds}{R:XQ}(d d':D2)(h:f ρ=VL.ret true)(hf:fs ρ=VL.ret [.d d,.d d'])(q:R x [(m,d'),(n,d)]):ye f x n m fs u D R ρ:=by
 show f ρ _;rw[h];show fs ρ _;rw[hf];exact⟨d,d',rfl,q⟩
theorem lw{n m:Str}{D:VEnds}{R:XQ}(h:f ρ=VL.ret false)(q:u D R ρ):ye f x n m fs u D R ρ:=by
 show f ρ _;rw[h];exact q
end
structure XCl2 (K:W.Frag) (mg:Str->Option D4) (c n m b qual:Str) (st:Stmt) (ps os:List Str):Prop where
 ex:∃C B f fd Cs,W.nsIn K ED c=some (some (.ref C))/\mg c=some (.ref C)/\mg b=some (.ref B)/\XMk K C f/\bX K C n/\bX K C m/\XOver K C B/\Fun K "__init__" qual st f fd/\Binds K fd ps []/\Fe (fun x D=>mg x=some (.ref D)) os Cs /\
  W.kitAny K (.ref C) (Cs.map EO)=some false/\W.kitOne K (.ref C) (.ref C)=some true/\W.kitOne K (.ref C) (.type "ValueError")=some true/\mg "ValueError" = none
theorem XCl2.two{K:W.Frag}{c n m b:Str}{st:Stmt}{os:List Str}(x:XCl2 K mg c n m b qual st ps os)(hi:∀f fd,Fun K "__init__" qual st f fd->FnOk P w K mg base DS 1 f fd ps (uD K n m)):∃C,XTwo P w K mg base c n m C:=by
 obtain⟨C,B,f,fd,Cs,h1,h2,h3,h4,h5,h5',h6,h7,h8,_⟩:=x.ex;exact⟨C,h1,h2,h5,h5',f,fd,ps,h4,h8,hi f fd h7⟩
theorem XCl2.mk'{K:W.Frag}{c n m b:Str}{st:Stmt}{os:List Str}{C B:Addr}{Cs:List Addr}(h1:W.nsIn K ED c=some (some (.ref C)))(h2:mg c=some (.ref C))(h3:mg b=some (.ref B))
 (hi:W.findIn K (.ref C) "__init__" = some (some (.ref f)))(hf:Fun K "__init__" qual st f fd)(hb:Binds K fd ps [])(ho:Fe (fun x D=>mg x=some (.ref D)) os Cs)(hv:mg "ValueError" = none)(hx:(yf K C B f n Cs&&(W.findIn K (.ref C) m==some none))=true):XCl2 K mg c n m b qual st ps os:=by
 rw[Hr]at hx;obtain⟨hx,hm⟩:=hx;unfold yf at hx;simp only[Hr,beq_iff_eq]at hx hm;obtain⟨⟨⟨⟨⟨⟨⟨⟨⟨⟨⟨⟨⟨⟨⟨⟨x1,x2⟩,x3⟩,x4⟩,x5⟩,x6⟩,x7⟩,x8⟩,x9⟩,x10⟩,x11⟩,x12⟩,x13⟩,x14⟩,x15⟩,x16⟩,x17⟩:=hx;exact⟨C,B,f,fd,Cs,h1,h2,h3,⟨⟨x1,x2,x3,x4,x5,x6,x7,x8⟩,hi,x9,x10⟩,x11,hm,⟨x12,x13,x14⟩,hf,hb,ho,x15,x16,x17,hv⟩
noncomputable def vd(cs:List Str)(tb:VEnds->XQ->En->Prop)(ts:Dh):Dh:=fun Dv ρ=>tb Dv (fun c fs=>c∈cs/\ts ⟨Dv.nx,Dv.rt,fun _=>False,fun _=>False⟩ (E9 ρ.length none)) ρ
section
variable{X:Cx}{rl:Option Addr}{tb:VEnds->XQ->En->Prop}{ts:Dh}{st b₀:Stmt}{suite:List Stmt}{cb:Str}{cs:List Str}{B:Addr}{np hpos pos:Pos}
theorem rE(hst:X.stack=X.env::X.outer)(hfl:X.env.frame=some X.env.locals)(hmb:X.mg cb=some (.ref B))
 (hcs:∀c∈cs,∀C,W.nsIn X.K ED c=some (some (.ref C))->XOver X.K C B)
 (hb:∀pn XE E,fW (DR X.prog X.w) (Cx.held X pn XE) E->rh (Cx.held X pn XE) rl E [st] tb)
 (hs:∀a:Addr,iK (Cx.caughtIn X a) rl (b₀::suite) ts)(hg:autoParam (Gl X cb) æa._auto_1)(hdb:autoParam ((cb==("__debug__" : Str))=false) æb._auto_1) :
 Du X rl (.Try [st] [.ExceptHandler (some (.Name cb np)) none (b₀::suite) hpos] [] [] pos) (vd cs tb ts):=by
 refine⟨fun D σ H=>∀pins s,Inv X pins σ H s->Es (EJ X.prog X.w) X.A (exec (.Try [st] [.ExceptHandler (some (.Name cb np)) none (b₀::suite) hpos] [] [] pos) X.env) (SP X pins D) X.xe s,fun pins s σ H D I h=>h pins s I,fun{F₀ H₀ F H σ ρ} R Dv D ok q pins s I=>?_⟩;refine wpAny_Try_except ?_;generalize hXE:(fun e s₁=>Es (EJ X.prog X.w) X.A (Jq e X.env) (fun _ s₂=>Es (EJ X.prog X.w) X.A (setFlight e none) (fun _ s₃=>Es (EJ X.prog X.w) X.A (handleBy e X.env [.ExceptHandler (some (.Name cb np)) none (b₀::suite) hpos]) (SP X pins D) X.xe s₃) X.xe s₂) X.xe s₁:D4->D6->Prop)=XE;have I':=Inv.held I XE;generalize hQE:(fun c fs=>c∈cs/\ts ⟨Dv.nx,Dv.rt,fun _=>False,fun _=>False⟩ (E9 ρ.length none):XQ)=QE;have q:tb Dv QE ρ:=by rw[<- hQE];exact q
 let E:XK:=fun cls d H'=>∃C dx F' us c fs,cls = .ref C/\d=some dx/\Grow rl F₀ H₀ F' H'/\be F F'/\W.nsIn X.K ED c=some (some (.ref C))/\H' dx=some (.xd us)/\H₀ dx=none/\F' dx=none/\DI X.K F' us fs/\QE c fs
 have pass:fW (DR X.prog X.w) (Cx.held X (X.pn++pins) XE) E:=by
  rintro pins2 σ2 H2 s2 e s' J ⟨a,C,dx,T,H',rfl,hos,bare,un,hok,air,na,nT,fa,fT,⟨C',dx',F',us,c,fs,eC,ed,g,smF,ns,hxd,hd0,fd0,kd,qe⟩⟩;cases eC;cases ed;have okX:=I.ok;have J0:Inv X pins σ2 H2 s2:=Inv.unheld okX J;have J1:Inv X pins σ2 H' s':=J0.call' hos un hok bare (fun _ z=>nomatch z);have hfr:X.A.frames=some (X.env::X.outer):=by rw[<- hst];exact okX.frames
  have hst1:s'.heap.FunFrames X.base (X.env::X.outer):=by rw[<- hst];exact J1.stack
  show XE (.ref a) s';rw[<- hXE];refine ww hfr hst1 hfl air fun h3 T' nT' air3 bt3=>zn (s:={s' with heap:=h3}) air3 fun h4 air4 k4 t4=>?_;rw[<- hst]at bt3;have bt4:But (frs X.stack) [a,T,T'] s'.heap h4:=(bt3.more fun b z=>by simp at z;rcases z with z|z<;>simp[z]).trans ((jg k4 t4).more fun b z=>by simp at z;simp[z])
  have sT':s2.heap.get? T'=none:=by
   cases z:s2.heap.get? T' with
   | none=>rfl
   | some o=>obtain⟨o',e'⟩:=un.there T' o z (fun y=>nomatch y);rw[nT']at e';cases e'
  have hT':H' T'=none:=by
   cases z:H' T' with
   | none=>rfl
   | some o=>obtain⟨o',e'⟩:=eP (hok T' o z);rw[nT']at e';cases e'
  have f1:∀b∈[a,T,T'],s2.heap.get? b=none:=fun b z=>by
   simp at z;rcases z with rfl|rfl|rfl
   · exact fa
   · exact fT
   · exact sT'
  have f2:∀b∈[a,T,T'],H' b=none:=fun b z=>by
   simp at z;rcases z with rfl|rfl|rfl
   · exact na
   · exact nT
   · exact hT'
  have J4:Inv X pins σ2 H' {s' with heap:=h4}:=J0.call' hos (qy un bt4 f1) (nQ hok bt4 f2 J1.stkFree) bare (fun _ z=>nomatch z);have hq:c∈cs/\ts ⟨Dv.nx,Dv.rt,fun _=>False,fun _=>False⟩ (E9 ρ.length none):=by rw[<- hQE]at qe;exact qe
  obtain⟨oe,vs,oT,tts,ea,ec,edx,ef,_⟩:=id air4;refine wpAny_handleBy_cons (codeAny_handlers_test (gu (Inv.caughtIn J4 a) hg hmb ?_ hdb)) (by intro z;cases z);refine xp J4.kIn (hcs c hq.1 C ns) ea ec ?_;refine codeAny_handlers_suite (zn (s:={s' with heap:=h4}) air4 fun h5 air5 k5 t5=>?_);have bt5:But (frs X.stack) [a,T,T'] s'.heap h5:=bt4.trans ((jg k5 t5).more fun b z=>by simp at z;simp[z]);have J5:Inv X pins σ2 H' {s' with heap:=h5}:=J0.call' hos (qy un bt5 f1) (nQ hok bt5 f2 J1.stkFree) bare (fun _ z=>nomatch z)
  have J6:Inv X pins (E9 σ2.length none) H' {s' with heap:=h5}:=J5.weak (by simp) fun j v z=>by
   rw[FP]at z;split at z<;>cases z
  obtain⟨Ts,ps,ks⟩:=hs a;have hlen:ρ.length=σ2.length:=by rw[R.len,I.len];exact J0.len.symm
  have R0:VR X.K rl F₀ H₀ F' H' (E9 σ2.length none) (E9 ρ.length none) :=
   ⟨g,fun j w z=>(by rw[FP]at z;split at z<;>cases z),fun j k x y v _ z=>(by rw[FP]at z;split at z<;>cases z),fun j xs z=>(by rw[FP]at z;split at z<;>cases z),by simp[hlen]⟩
  refine ER (ps pins _ _ _ ⟨D.nx,D.rt,fun _ _=>False,fun _ _=>False⟩ (Inv.caughtIn J6 a) (ks R0 ⟨Dv.nx,Dv.rt,fun _=>False,fun _=>False⟩ _ ⟨fun F6 H6 σ6 ρ6 s6 R6 z=>ok.nx F6 H6 _ _ (smF.trans s6) R6 z,ok.rt,fun _ _ _ _ _ _ z=>z,fun _ _ _ _ _ _ z=>z⟩ hq.2)) (fun fl s8 h8=>?_) fun _ _ z=>z.elim
  cases fl with
  | next =>
    obtain⟨σ8,H8,J8,z⟩:=h8
    exact⟨σ8,H8,Inv.uncaught okX J8,z⟩
  | ret u =>
    obtain⟨v,σ8,H8,J8,r8,z⟩:=h8
    exact⟨v,σ8,H8,Inv.uncaught okX J8,r8,z⟩
  | brk=>obtain⟨_,_,_,z⟩:=h8;exact E3 z
  | cont=>obtain⟨_,_,_,z⟩:=h8;exact E3 z
 obtain⟨T',p',k'⟩:=hb (X.pn++pins) XE E pass;refine ER (p' [] s σ H D I' (k' R Dv D QE ok (fun c fs z C dx F' H' us g sm n hx hd fd kd=>⟨C,dx,F',us,c,fs,rfl,rfl,g,sm,n,hx,hd,fd,kd,z⟩) q)) (fun fl s1 h1=>?_) (fun e s1 z=>?_)
 · cases fl with
   | next =>
     obtain⟨σ1,H1,J1,z⟩:=h1
     exact HD ⟨σ1,H1,Inv.unheld I.ok J1,z⟩
   | ret u =>
     obtain⟨v,σ1,H1,J1,r1,z⟩:=h1
     exact⟨v,σ1,H1,Inv.unheld I.ok J1,r1,z⟩
   | brk=>obtain⟨σ1,H1,J1,z⟩:=h1;exact⟨σ1,H1,Inv.unheld I.ok J1,z⟩
   | cont=>obtain⟨σ1,H1,J1,z⟩:=h1;exact⟨σ1,H1,Inv.unheld I.ok J1,z⟩
 · exact z
end
section
variable{X:Cx}{rl:Option Addr}{E:XK}{e:Expr}{es:List Expr}{fs:Dg}{pos p mpos:Pos}
noncomputable def ju(i:Nat)(Pd:List W->(D2->Prop)->XQ->Prop)(fs:Dg):VEnds->XQ->En->Prop:=fun Dv QE ρ=>fs ρ fun ws=>ws.all cN=true/\Pd ws (fun d=>∃b,d = .bool b/\Dv.nx (ρ.set i (some (.d (.bool b))))) QE
theorem uj(i:Nat){y:Str}{k:Nat}{Pd:List W->(D2->Prop)->XQ->Prop}{apos cpos:Pos}{j}(hx:fW (DR X.prog X.w) X E)(hN:X.N.Nodup)(D:DfnE X.prog X.w X.K X.mg X.base rl x ps k Pd)(hr:Room k X.A)(ha:Dr X rl (e::es) fs)(hg:autoParam (Gl X x) æa._auto_1)
 (hi:autoParam (X.N[i]?=some y) æa._auto_1)(hy:autoParam (Loc X.env.scope y) æd._auto_1)(hdb:autoParam ((x==("__debug__" : Str))=false) æb._auto_1)
 (he:autoParam (Ec (e::es) X.env=(false,eval e X.env)::Ec es X.env) æa._auto_1)(hpl:autoParam ((FN pos (Ec es X.env)).any (·.1)=false) æa._auto_1)
 (hs:autoParam (Gx (.Compare (.Call (.Name x p) (e::es) [] pos) [.Is] [.Constant (.bool true) j cpos] mpos) (some (.Name y pos')) apos.line X.env=pure false) æa._auto_1)(hf:autoParam (X.fn y=true\/X.env.scope.names.lookup y=some .local) æe._auto_1) :
 rh X rl E [.Assign [.Name y pos'] (.Compare (.Call (.Name x p) (e::es) [] pos) [.Is] [.Constant (.bool true) j cpos] mpos) apos] (ju i Pd fs):=by
 obtain⟨f,fd,hm,hk,hb,F⟩:=D.ex;obtain⟨t,p1,kk⟩:=ha;refine⟨_,bZ (cz hN hi hy (mO wt (i5 (ds:=[]) (dvs:=[]) F hr hg hm hk hb .nil hx p1 hdb he hpl) wm (by rfl)) hs hf),fun{F₀ H₀ F H σ ρ} R Dv D' QE ok l q=>kk R _ _ q fun vs ws F1 H1 g1 r1 ⟨ao,q1⟩=>?_⟩;refine⟨F1,ws,g1.sub,g1.reel,by rw[FO];exact r1,ao,?_⟩;refine D.mono ws _ _ _ _ (fun d qd v F2 H2 g2 r2=>?_) (fun c fs z C dx F' H' us g sm n hd nd fd kd=>?_) q1
 · obtain⟨b,rfl,qn⟩:=qd;refine⟨b,true,dO r2,rfl,?_⟩;have r3:cO X.K rl F2 H2 (.bl (b==true)) (.d (.bool b)):=by cases b<;>exact .bl _
   exact ok.nx _ _ _ _ (g1.fs.trans g2.fs) (R.set (g1.trans g2) (w:=.d (.bool b)) r3 trivial (fun xs z=>by cases z) i) qn
 · exact l c fs z C dx F' H' us ((R.g.trans g1).trans g) (g1.fs.trans sm) n hd ((R.g.trans g1).freeB nd) fd kd
end
section
variable{D:VEnds}{R:XQ}{ρ:En}{fs:Dg}{ws:List W}
theorem oQ{Pd:List W->(D2->Prop)->XQ->Prop}(h:fs ρ=VL.ret ws)(ao:ws.all cN=true)(q:Pd ws (fun d=>∃b,d = .bool b/\D.nx (ρ.set i (some (.d (.bool b))))) R):ju i Pd fs D R ρ:=by
 unfold ju;rw[h];exact⟨ao,q⟩
end
section
variable{X:Cx}{rl:Option Addr}{E:XK}{e:Expr}{es:List Expr}{fs:Dg}{p pos mpos:Pos}
end
section
variable{D:VEnds}{R:XQ}{ρ:En}{fs:Dg}{ws:List W}
end
noncomputable def B_(b:Bool)(qs:List Rat):D2:=if b then .tuple (qs.map fr)else .list (qs.map fr)
theorem yO{b c:Bool}{qs rs:List Rat}:B_ b qs=B_ c rs↔b=c/\qs=rs:=by
 cases b<;>cases c<;>simp[B_,cM]
theorem cU(b:Bool)(qs:List Rat):seqW (.d (B_ b qs))=some (qs.map fr):=by cases b<;>rfl
noncomputable def oN(kvs:List (DH×D2))(k:DH):Bool:=kvs.any fun kv=>decide (kv.1=k)
theorem pW{kvs:List (DH×D2)}{k:DH}:oN kvs k=true↔k∈kvs.map (·.1):=by
 unfold oN;simp only[JQ,decide_eq_true_iff,EV]
theorem hW(kvs:List (DH×D2))(k:DH)(x:D2):(putF kvs k x).map (·.1)=if oN kvs k=true then kvs.map (·.1)else kvs.map (·.1)++[k]:=by
 unfold putF;show List.map _ (if oN kvs k=true then _ else _)=_;split
 · rw[Fa];congr 1;funext kv;simp only[Function.comp];split<;>rfl
 · rw[G8];rfl
theorem pd(kvs:List (DH×D2))(k j:DH)(x:D2):fH (putF kvs k x) j=if j=k then some x else fH kvs j:=by
 have one:∀l:List (DH×D2),fH (l.map fun kv=>if kv.1=k then(kv.1,x)else kv) j=if j=k then(if oN l k=true then some x else none)else fH l j:=by
  intro l
  induction l with
  | nil=>by_cases h:j=k<;>simp[fH,oN,h]
  | cons p r ih =>
    unfold fH oN at *;rw[Er,E7,E7,HK];by_cases h1:p.1=k
    · by_cases h:j=k
      · subst h;simp[h1]
      · have h2:¬k=j:=fun z=>h z.symm;rw[if_pos h1,if_neg h];rw[if_neg h]at ih;simp only[h1,h2,decide_false];exact ih
    · rw[if_neg h1];by_cases h:j=k
      · subst h;rw[if_pos rfl];rw[if_pos rfl]at ih;simp only[h1,decide_false,Bool.false_or];exact ih
      · rw[if_neg h];rw[if_neg h]at ih
        cases decide (p.1=j)with
        | true=>rfl
        | false=>exact ih
 unfold putF;show fH (if oN kvs k=true then _ else _) j=_;by_cases hm:oN kvs k=true
 · rw[if_pos hm,one];by_cases h:j=k<;>simp[h,hm]
 · rw[if_neg hm];unfold fH;rw[List.find?_append];by_cases h:j=k
   · subst h
     have:kvs.find? (fun kv=>decide (kv.1=j))=none:=by
      rw[HP];intro p hp z;exact hm (pW.mpr (EV.mpr ⟨p,hp,by simpa using z⟩))
     simp[this]
   · have h2:¬k=j:=fun z=>h z.symm;simp[h,h2]
noncomputable def ug(f:Rat->Int)(qs:List Rat):List (DH×D2):=(qs.map fun q=>((Gj (f q):DH),fr q)).foldl (fun a p=>putF a p.1 p.2) []
theorem gC(f:Rat->Int):∀(qs:List Rat)(acc:List (DH×D2))(ns:List Int),acc.map (·.1)=ns.map Gj->ns.Nodup->(∀q r,q∈qs->r∈qs->f q=f r->q=r) ->
 ∃ ms:List Int,((qs.map fun q=>((Gj (f q):DH),fr q)).foldl (fun a p=>putF a p.1 p.2) acc).map (·.1)=ms.map Gj/\ms.Nodup/\(∀n,n∈ms↔n∈ns\/∃q∈qs,f q=n) /\
   ∀n,fH ((qs.map fun q=>((Gj (f q):DH),fr q)).foldl (fun a p=>putF a p.1 p.2) acc) (.inl n)=(match qs.find? (fun q=>decide (f q=n))with|some q=>some (fr q)|none=>fH acc (.inl n))/\ms.length<=ns.length+qs.length
 | [],acc,ns,h,nd,_=>⟨ns,h,nd,fun n=>by simp,fun n=>⟨rfl,by simp⟩⟩
 | q::qs,acc,ns,h,nd,inj=>by
   have hmem:oN acc (Gj (f q))=true↔f q∈ns:=by
    rw[pW,h,EV];constructor
    · rintro⟨x,hx,e⟩;cases e;exact hx
    · intro hx;exact⟨_,hx,rfl⟩
   have inj':∀a b,a∈qs->b∈qs->f a=f b->a=b:=fun a b ha hb=>inj a b (D7 _ ha) (D7 _ hb)
   have val:∀n:Int,∀r,fH (putF acc (.inl (f q)) (fr q)) (.inl n)=r->(match qs.find? (fun q=>decide (f q=n))with|some q=>some (fr q)|none=>fH (putF acc (.inl (f q)) (fr q)) (.inl n))=(match(q::qs).find? (fun q=>decide (f q=n))with|some q=>some (fr q)|none=>fH acc (.inl n)):=by
    intro n r _;rw[pd,E7];by_cases e:f q=n
    · subst e;simp only[decide_true]
      cases e2:qs.find? (fun q'=>decide (f q'=f q))with
      | none=>simp
      | some q' =>
        have m:=Jj e2;have p:f q'=f q:=by simpa using HQ e2
        have:=inj q' q (D7 _ m) Ee p;rw[this]
    · have e':¬n=f q:=fun z=>e z.symm;simp only[e,decide_false,Gj.injEq,e',if_false]
   by_cases hq:f q∈ns
   · obtain⟨ms,a1,a2,a3,a4⟩:=gC f qs (putF acc (.inl (f q)) (fr q)) ns (by rw[hW,if_pos (hmem.mpr hq)];exact h) nd inj';refine⟨ms,a1,a2,fun n=>?_,fun n=>⟨?_,?_⟩⟩
     · rw[a3 n];simp only[Ev];constructor
       · rintro(z|⟨r,hr,e⟩)
         · exact .inl z
         · exact .inr ⟨r,.inr hr,e⟩
       · rintro(z|⟨r,rfl|hr,e⟩)
         · exact .inl z
         · exact .inl (e▸hq)
         · exact .inr ⟨r,hr,e⟩
     · rw[<- val n _ rfl];exact(a4 n).1
     · have:=(a4 n).2;simp only[EQ];omega
   · obtain⟨ms,a1,a2,a3,a4⟩:=gC f qs (putF acc (.inl (f q)) (fr q)) (ns++[f q]) (by rw[hW,if_neg (fun z=>hq (hmem.mp z)),h,G8];rfl)
       (Jt.mpr ⟨nd,by simp,fun a ha b hb=>by simp at hb;subst hb;rintro rfl;exact hq ha⟩) inj'
     refine⟨ms,a1,a2,fun n=>?_,fun n=>⟨?_,?_⟩⟩
     · rw[a3 n];simp only[Ev,G5,FE,or_false];constructor
       · rintro((z|z)|⟨r,hr,e⟩)
         · exact .inl z
         · exact .inr ⟨q,.inl rfl,z.symm⟩
         · exact .inr ⟨r,.inr hr,e⟩
       · rintro(z|⟨r,rfl|hr,e⟩)
         · exact .inl (.inl z)
         · exact .inl (.inr e.symm)
         · exact .inr ⟨r,hr,e⟩
     · rw[<- val n _ rfl];exact(a4 n).1
     · have:=(a4 n).2;simp only[Fh,EQ,Gy]at this ⊢;omega
theorem uf(f:Rat->Int)(qs:List Rat)(inj:∀q r,q∈qs->r∈qs->f q=f r->q=r) :
 ∃ms:List Int,(ug f qs).map (·.1)=ms.map Gj/\ms.Nodup/\(∀n,n∈ms↔∃q∈qs,f q=n)/\(∀q∈qs,fH (ug f qs) (.inl (f q))=some (fr q))/\ms.length<=qs.length:=by
 obtain⟨ms,a1,a2,a3,a4⟩:=gC f qs [] [] rfl GZ inj;refine⟨ms,a1,a2,fun n=>by rw[a3 n];simp,fun q hq=>?_,by have:=(a4 0).2;simpa using this⟩;have:=(a4 (f q)).1;show fH ((qs.map fun q=>((Gj (f q):DH),fr q)).foldl (fun a p=>putF a p.1 p.2) []) _=_;rw[this]
 cases e:qs.find? (fun q'=>decide (f q'=f q))with
 | none =>
   rw[HP]at e
   exact absurd (e q hq) (by simp)
 | some q' =>
   have m:=Jj e;have p:f q'=f q:=by simpa using HQ e
   rw[inj q' q m hq p]
noncomputable def B7(S:Int)(q:Rat):Int:=(q.num*S).fdiv q.den
theorem qE(S:Int)(q:Rat):B7 S q*q.den<=q.num*S/\q.num*S<(B7 S q+1)*q.den:=by
 have h0:(0:Int)<q.den:=eZ q;unfold B7;rw[EI _ (by omega)];have h1:=Kg (q.num*S) (show(q.den:Int)≠0 by omega);have h2:=Jb (q.num*S) h0;have h3:=Int.mul_ediv_add_emod (q.num*S) q.den;have e1:q.num*S / (q.den:Int)*(q.den:Int)=(q.den:Int)*(q.num*S / (q.den:Int)):=GW _ _;have e2:(q.num*S / (q.den:Int)+1)*(q.den:Int)=(q.den:Int)*(q.num*S / (q.den:Int))+(q.den:Int):=by rw[Fq,LM,e1]
 rw[e1,e2];constructor<;>omega
theorem kK(q r:Rat):q<r↔q.num*r.den<r.num*q.den:=Rat.lt_iff q r
theorem lT{B:Int}{r:Rat}(hq:(q.den:Int)<=B)(hr:(r.den:Int)<=B)(h:q<r):B7 (B*B) q<B7 (B*B) r:=by
 have h0:(0:Int)<q.den:=eZ q;have h1:(0:Int)<r.den:=eZ r;rw[kK]at h;obtain⟨a1,a2⟩:=qE (B*B) q;obtain⟨b1,b2⟩:=qE (B*B) r;generalize B7 (B*B) q=a at *;generalize B7 (B*B) r=b at *;generalize (q.den:Int)=x at *;generalize (r.den:Int)=y at *;by_cases hab:a<b
 · exact hab
 · exfalso;have hba:b+1<=a+1:=by omega
   have e1:a*x*y<=q.num*(B*B)*y:=Eh a1 (by omega);have e2:r.num*(B*B)*x<(b+1)*y*x:=Int.mul_lt_mul_of_pos_right b2 h0;have e3:(b+1)*y*x<=(a+1)*y*x:=Eh (Eh hba (by omega)) (by omega);have hs:x*y<=B*B:=Int.mul_le_mul hq hr (by omega) (by omega);have h2:q.num*y+1<=r.num*x:=h;have e4:(q.num*y+1)*(B*B)<=r.num*x*(B*B):=Eh h2 (Gq (by omega) (by omega));have e5:(q.num*y+1)*(B*B)=q.num*(B*B)*y+B*B:=by grind
   have e6:r.num*x*(B*B)=r.num*(B*B)*x:=by grind
   have e7:(a+1)*y*x=a*x*y+x*y:=by grind
   omega
theorem mi(q r:Rat):q<r\/q=r\/r<q:=by
 by_cases h:q<r
 · exact .inl h
 · by_cases h2:r<q
   · exact .inr (.inr h2)
   · exact .inr (.inl (Rat.le_antisymm (Rat.not_lt.mp h2) (Rat.not_lt.mp h)))
theorem lU{B:Int}{r:Rat}(hq:(q.den:Int)<=B)(hr:(r.den:Int)<=B)(h:B7 (B*B) q=B7 (B*B) r):q=r:=by
 rcases mi q r with z|z|z
 · have:=lT hq hr z;omega
 · exact z
 · have:=lT hr hq z;omega
theorem sv{B:Int}{r:Rat}(hq:(q.den:Int)<=B)(hr:(r.den:Int)<=B)(h:B7 (B*B) q<B7 (B*B) r):q<r:=by
 rcases mi q r with z|z|z
 · exact z
 · subst z;omega
 · have:=lT hr hq z;omega
theorem eI:∀(ns:List Int)(m:Int),∃k,bL (some m) ns=some k/\m<=k/\(∀n∈ns,n<=k)/\(k=m\/k∈ns)
 | [],m=>⟨m,rfl,Int.le_refl _,by simp,.inl rfl⟩
 | n::ns,m=>by
   obtain⟨k,e,h1,h2,h3⟩:=eI ns (if n>m then n else m);refine⟨k,e,by split at h1<;>omega,fun x hx=>?_,?_⟩
   · rcases Ev.mp hx with rfl|hx
     · split at h1<;>omega
     · exact h2 x hx
   · rcases h3 with h3|h3
     · split at h3
       · exact .inr (by rw[h3];exact Ee)
       · exact .inl h3
     · exact .inr (D7 _ h3)
theorem wA(ns:List Int):(∀n∈ns,n<=CB 1 ns)/\(CB 1 ns=1\/CB 1 ns∈ns):=by
 unfold CB
 cases ns with
 | nil=>exact⟨by simp,.inl rfl⟩
 | cons n ns =>
   obtain⟨k,e,h1,h2,h3⟩:=eI ns n;have e':bL none (n::ns)=some k:=e;rw[e'];refine⟨fun x hx=>?_,.inr ?_⟩
   · rcases Ev.mp hx with rfl|hx
     · exact h1
     · exact h2 x hx
   · rcases h3 with rfl|h3
     · exact Ee
     · exact D7 _ h3
theorem ki(f:Rat->Int){qs:List Rat}:∀(ns:List Int),(∀n∈ns,∃q∈qs,f q=n)->∃rs:List Rat,ns=rs.map f/\∀r∈rs,r∈qs
 | [],_=>⟨[],rfl,by simp⟩
 | n::ns,h=>by
   obtain⟨rs,e,hr⟩:=ki f ns fun m hm=>h m (D7 _ hm);obtain⟨q,hq,eq⟩:=h n Ee;exact⟨q::rs,by rw[Er,eq,<- e],fun r hr'=>(Ev.mp hr').elim (fun z=>z▸hq) (hr r)⟩
noncomputable def dw(qs rs:List Rat):Prop:=rs.Pairwise (· < ·)/\∀q,q∈rs↔q∈qs
theorem lW{B:Int}{qs:List Rat}{ms:List Int}(hB:∀q∈qs,(q.den:Int)<=B)(nd:ms.Nodup)(hm:∀n,n∈ms↔∃q∈qs,B7 (B*B) q=n)(pm:ns.Perm ms)(pw:ns.Pairwise (· <= ·)) :
 ∃rs:List Rat,ns=rs.map (B7 (B*B))/\(∀r∈rs,r∈qs)/\dw qs rs:=by
 obtain⟨rs,e,hr⟩:=ki (B7 (B*B)) ns fun n hn=>(hm n).mp (pm.mem_iff.mp hn);refine⟨rs,e,hr,?_,fun q=>⟨hr q,fun hq=>?_⟩⟩
 · have nd':ns.Nodup:=pm.nodup_iff.mpr nd;subst e
   have lt:(rs.map (B7 (B*B))).Pairwise (· < ·):=by
    have:=pw.and nd';exact this.imp fun z=>by have:=z.1;have:=z.2;omega
   rw[Ib]at lt;exact lt.imp_of_mem fun ha hb z=>sv (hB _ (hr _ ha)) (hB _ (hr _ hb)) z
 · have:B7 (B*B) q∈ns:=pm.mem_iff.mpr ((hm _).mpr ⟨q,hq,rfl⟩);rw[e,EV]at this;obtain⟨r,hr',e2⟩:=this;rw[<- lU (hB r (hr r hr')) (hB q hq) e2];exact hr'
theorem hZ:∀{rs qs:List Rat},rs.Nodup->(∀x∈rs,x∈qs)->rs.length<=qs.length
 | [],_,_,_=>Gg _
 | r::rs,qs,nd,h=>by
   rw[F_]at nd;have hm:=h r Ee;have:=hZ (rs:=rs) (qs:=qs.erase r) nd.2 fun x hx=>(List.mem_erase_of_ne (fun(z:x=r)=>nd.1 (by rw[<- z];exact hx))).mpr (h x (D7 _ hx));rw[List.length_erase_of_mem hm]at this;have:=JX hm;simp only[EQ];omega
theorem kD{qs rs:List Rat}(h:dw qs rs):rs.length<=qs.length:=by
 have nd:rs.Nodup:=h.1.imp fun z e=>by subst e;exact absurd z (JG)
 exact hZ nd fun x hx=>(h.2 x).mp hx
end L2.VL
namespace L2
theorem DAt.stab{xs:List (List Int×Addr×D4)}{h1 h2:Heap}(p:VL.DAt a xs h1)(k:∀o,h1.get? a=some o->h2.get? a=some o):VL.DAt a xs h2:=by
 obtain⟨o,es,ep,h,r⟩:=p;exact⟨o,es,ep,k o h,r⟩
theorem qZ{xs:List (List Int×Addr×D4)}(p:VL.DAt a xs h):br P w H h a (.ext (VL.DAt a xs)) :=
 ⟨p,(let ⟨o,_,_,e,_⟩:=p;⟨o,e⟩),fun _ _ q k=>DAt.stab q k⟩
noncomputable def fX(K:W.Frag)(H:Hp)(xs:List (List Int×Addr×D4)):Prop:=∀x∈xs,Dm K H x.2.1 (x.1.map V.int)
section
variable{X:Cx}{pins:List (Addr×Obj)}{σ:St}{H:Hp}{s:D6}{a b:Addr}{xs:List (List Int×Addr×D4)}{k:List Int}{A:EH}{E:D4->D6->Prop}
theorem items_int{prog:Ei}{w:EK}:∀{ks:List Int}{its:List D4},bI (ks.map V.int) its->ItemsAre (GX prog w) ks its
 | [],_,.nil=>.nil
 | i::ks,_,.cons h r=>by
   obtain⟨t,rfl⟩:=(show ∃t,_=IA i t from h);exact .cons (by simp[GX,Iz]) (items_int r)
theorem jV(I:Inv X pins σ H s)(sq:Dm X.K H b (k.map V.int)):(Hg (GX X.prog X.w)).is s.heap k b:=by
 obtain⟨its,rv,⟨o,h1,h2,n,h3⟩,_⟩:=I.tuple sq;exact⟨o,its.toArray,n,h1,h2,h3,by simpa using items_int rv⟩
theorem ke(I:Inv X pins σ H s)(e:H a=some (.ext (VL.DAt a xs)))(ks:fX X.K H xs):s.heap.DictOfH (Hg (GX X.prog X.w)) a xs/\(a==Gb)=false/\xs.length<=sizeLine:=by
 obtain⟨⟨o,es,ep,h1,h2,h3,h4,h5,h6,h7⟩,_⟩:=(show br X.prog X.w H s.heap a (.ext (VL.DAt a xs))from I.hok a _ e);exact⟨⟨o,es,ep,h1,h2,h3,h4 _ _,fun x hx=>jV I (ks x hx),h5⟩,h6,h7⟩
theorem pV{P':Ei}{w':EK}(x:List Int×Addr×D4):Lh (Hg (GX P w)) x=Lh (Hg (GX P' w')) x:=rfl
theorem xw(d:h.DictOfH (Hg (GX P w)) a xs)(h6:(a==Gb)=false)(h7:xs.length<=sizeLine):VL.DAt a xs h:=by
 obtain⟨o,es,ep,h1,h2,h3,h4,_,h5⟩:=d;exact⟨o,es,ep,h1,h2,h3,fun P' w'=>by rw[h4];exact Ht fun x _=>pV x,h5,h6,h7⟩
theorem fD(xs:List (List Int×Addr×D4))(k:List Int)(b:Addr)(u:D4):(LV xs k b u).length<=xs.length+1:=by
 unfold LV;split<;>simp
noncomputable def vH:TE:=fun _ H Q=>∀p,H p=none->Q (.ref p) (upd H p (.ext (VL.DAt p [])))
noncomputable def yC(K:W.Frag)(td ty:TE):TE:=fun σ H Q=>td σ H fun x H1=>ty σ H1 fun y H2=>∃a xs b k p v,x = .ref a/\H2 a=some (.ext (VL.DAt a xs))/\fX K H2 xs/\y = .ref b/\Dm K H2 b (k.map V.int)/\KM xs k=some p/\RelV v p.2/\Q v H2
noncomputable def vD(K:W.Frag)(td ty tz:TE):TE:=fun σ H Q=>td σ H fun x H1=>∃a xs,x = .ref a/\H1 a=some (.ext (VL.DAt a xs))/\fX K H1 xs/\ty σ H1 fun y H2=>tz σ H2 fun z H3 =>
 ∃xs b k v,H3 a=some (.ext (VL.DAt a xs))/\fX K H3 xs/\y = .ref b/\Dm K H3 b (k.map V.int)/\(KM xs k=none->v=z)/\(∀p,KM xs k=some p->RelV v p.2)/\Q v H3
noncomputable def yP(K:W.Frag)(td ty tv:TE):TS:=fun D σ H=>tv σ H fun v H1=>td σ H1 fun x H2=>ty σ H2 fun y H3 =>
 ∃a xs b k,x = .ref a/\H3 a=some (.ext (VL.DAt a xs))/\fX K H3 xs/\y = .ref b/\Dm K H3 b (k.map V.int)/\xs.length<sizeLine/\∀r,RelV v r->D.nx σ (upd H3 a (.ext (VL.DAt a (LV xs k b r))))
end
section
variable{X:Cx}{o i e f value:Expr}{pos pos' apos cpos:Pos}{td ty tz tv:TE}
theorem pB:PE X (.Dict [] [] pos) vH:=fun pins s σ H Q I h =>
 wpAny_Dict_empty ⟨.ref s.heap.objs.size,_,I.laid (a:=s.heap.objs.size) (o:=.ext (VL.DAt s.heap.objs.size [])) (t':=s.toks) (fun _ _ q=>D3 _ q) (Ef _)
  (qZ ⟨_,#[],0,Eg _ rfl,⟨rfl,rfl,rfl⟩,rfl,fun _ _=>rfl,GZ,beq_eq_false_iff_ne.mpr (GM (Ey I.big)),Gg _⟩),rfl,h _ (I.hok.fresh (Ef _))⟩
theorem tF(hu:X.A.units+1<Kx)(ho:PE X o td)(hi:PE X i ty)(hs:xF i):PE X (.Subscript o i pos) (yC X.K td ty):=by
 intro pins s σ H Q I h;refine lV Jf.lookup hs (BY (ho pins s σ H _ I h) fun u s1 ⟨x,H1,I1,rx,q1⟩=>BY (hi pins s1 σ H1 _ I1 q1) fun iv s2 ⟨y,H2,I2,ry,a,xs,b,k,p,v,ex,e,ks,ey,sq,at',rv,q2⟩=>?_);subst ex ey;obtain rfl:u=EO a:=rx;cases(show iv=EO b from ry);obtain⟨dd,hd,_⟩:=ke I2 e ks;refine⟨dd.typeIs,wpAny_getItem_heap (HL hu) (jV I2 sq) dd at' ?_⟩;exact⟨v,H2,I2.tok _,rv,q2⟩
theorem pp(hu:X.A.units+1<Kx)(ho:PE X o td)(he:PE X e ty)(hf:PE X f tz)(m:M2 X o "get" apos e f cpos):PE X (.Call (.Attribute o "get" apos) [e,f] [] cpos) (vD X.K td ty tz):=by
 intro pins s σ H Q I h;refine wpAny_Call_method m.base m.few m.line PySem.F.plainAttrs_dict Kh PySem.F.type_dict_get (BY (ho pins s σ H _ I h) fun u s1 ⟨x,H1,I1,rx,a,xs,ex,ea,ks,q1⟩=>?_);subst ex;obtain rfl:u=EO a:=rx;obtain⟨dd,hd,_⟩:=ke I1 ea ks;refine⟨dd.typeIs,fun b q=>(by cases q;obtain⟨ob,_,_,h1,h2,_⟩:=dd;exact⟨ob,h1,h2.2.1⟩),?_⟩;rw[m.trees]
 refine JU rfl (Ky (IZ (BY (he pins s1 σ H1 _ I1 q1) fun iv s2 ⟨y,H2,I2,ry,q2⟩ =>
  IZ (BY (hf pins s2 σ H2 _ I2 q2) fun fv s3 ⟨z,H3,I3,rz,xs3,b,k,v,ea3,ks3,ey,sq,n1,n2,q3⟩=>Calls.spliced_nil ?_))))
 subst ey;cases(show iv=EO b from ry);obtain⟨dd3,hd3,_⟩:=ke I3 ea3 ks3;refine call_meetsIn Kh dd3.typeIs PySem.F.entry_dict_get (PySem.F.args_dict_get_3 _ _ _) (meetsH_dict_get_default (Hg (GX X.prog X.w)) a b hd3 fv) ⟨HL hu,k,xs3,jV I3 sq,dd3,⟨v,H3,I3.tok _,?_,q3⟩⟩
 cases hk:KM xs3 k with
 | none=>rw[n1 hk];exact rz
 | some p=>exact n2 p hk
theorem tf(hu:X.A.units+1<Kx)(ho:PE X o td)(hi:PE X i ty)(hv:PE X value tv)(hs:Gx value (some (.Subscript o i pos')) pos.line X.env=pure false) :
 PS X (.Assign [.Subscript o i pos'] value pos) (yP X.K td ty tv):=by
 intro pins s σ H D I h;refine wpAny_Assign_Subscript (BY (hv pins s σ H _ I h) fun r s1 ⟨v,H1,I1,rv,q1⟩=>BY (ho pins s1 σ H1 _ I1 q1) fun u s2 ⟨x,H2,I2,rx,q2⟩=>BY (hi pins s2 σ H2 _ I2 q2) fun iv s3 ⟨y,H3,I3,ry,a,xs,b,k,ex,ea,ks,ey,sq,hl,q3⟩=>?_) hs;subst ex ey;obtain rfl:u=EO a:=rx;cases(show iv=EO b from ry);obtain⟨dd,hd,hz⟩:=ke I3 ea ks;refine wpAny_setItem_heap (hsz:=hz) (HL hu) (jV I3 sq) dd fun h' dd' hsb=>⟨σ,_,?_,q3 r rv⟩;have lz:=fD xs k b r;have at':=xw dd' hd (by omega);exact oh I3 (by rw[ea];exact Hz) hsb (let ⟨o,_,_,e,_⟩:=at';⟨o,e⟩) (qZ at')
end
end L2
namespace L2.VL
noncomputable def oK(kvs:List (List Int×D2))(k:List Int):Option D2:=(kvs.find? fun kv=>decide (kv.1=k)).map (·.2)
noncomputable def uE(kvs:List (List Int×D2))(k:List Int)(x:D2):List (List Int×D2) :=
 if(kvs.any fun kv=>decide (kv.1=k))=true then kvs.map (fun kv=>if kv.1=k then(kv.1,x)else kv)else kvs++[(k,x)]
theorem KX.keys{K:W.Frag}{F:Hp}:∀{xs:List (List Int×Addr×D4)}{kvs:List (List Int×D2)},KX K F xs kvs->fX K F xs
 | _,_,.nil,x,m=>by cases m
 | _,_,.cons h t,x,m=>by
   rcases Ev.mp m with rfl|m
   · rw[h.1]at *;exact h.2.1
   · exact KX.keys t x m
theorem KX.at{K:W.Frag}{F:Hp}{xs:List (List Int×Addr×D4)}{kvs:List (List Int×D2)}(r:KX K F xs kvs)(k:List Int):(KM xs k=none/\oK kvs k=none)\/∃p v d,KM xs k=some p/\oK kvs k=some d/\RelV v p.2/\Rep K F v d:=by
 induction r with
 | nil=>exact .inl ⟨rfl,rfl⟩
 | @cons p q ps qs h t ih =>
   unfold KM oK at *;rw[E7,E7,h.1];by_cases e:q.1=k
   · simp only[e,decide_true];obtain⟨_,_,v,rv,rp⟩:=h;exact .inr ⟨p.2,v,q.2,rfl,rfl,rv,rp⟩
   · simp only[e,decide_false];exact ih
theorem KX.put{K:W.Frag}{xs:List (List Int×Addr×D4)}(r:KX K F xs kvs)(k:List Int){b:Addr}{u:D4}(sq:Dm K F b (k.map V.int))(rv:RelV v u)(rp:Rep K F v d):KX K F (LV xs k b u) (uE kvs k d):=by
 have any:(KM xs k).isSome=kvs.any fun kv=>decide (kv.1=k):=by
  induction r with
  | nil=>rfl
  | @cons p q ps qs h t ih =>
    unfold KM at *;rw[E7,HK,h.1];by_cases e:q.1=k
    · simp[e]
    · simp only[e,decide_false,Bool.false_or];exact ih
 unfold LV uE;rw[any];by_cases c:(kvs.any fun kv=>decide (kv.1=k))=true
 · rw[if_pos c,if_pos c];clear any c
   induction r with
   | nil=>exact .nil
   | @cons p q ps qs h t ih =>
     refine .cons ?_ ih;show(putAt k u p).1=(if q.1=k then(q.1,d)else q).1/\Dm K F (putAt k u p).2.1 ((putAt k u p).1.map V.int)/\∃v,RelV v (putAt k u p).2.2/\Rep K F v (if q.1=k then(q.1,d)else q).2;unfold putAt;by_cases e:q.1=k
     · rw[if_pos e,if_pos (h.1.trans e)];exact⟨h.1,h.2.1,v,rv,rp⟩
     · rw[if_neg e,if_neg (fun z=>e (h.1.symm.trans z))];exact h
 · rw[if_neg c,if_neg c];exact Fe.snoc r ⟨rfl,sq,v,rv,rp⟩
section
variable{X:Cx}{rl:Option Addr}{e:Expr}{pos px apos cpos:Pos}{ρ:En}
theorem VR.ownX{K:W.Frag}{ρ:En}(r:VR K rl F₀ H₀ F H σ ρ){xs ys:List (List Int×D2)}{us:List (List Int×Addr×D4)}(e:ρ[i]?=some (some (.xm xs)))(es:σ[i]?=some (some (.ref a)))(rs:KX K F us ys) :
 VR K rl F₀ H₀ F (upd H a (.ext (DAt a us))) σ (ρ.set i (some (.xm ys))):=by
 obtain⟨v,h1,h2,h3⟩:=r.sl i _ e;rw[es]at h1;cases h1;obtain⟨a',vs,ev,f,hr,hh,q⟩:=(show lp K rl F H (.ref a) xs from h2);cases ev;have n0:H₀ a=none:=h3 a rfl;have hi:i<ρ.length:=(Ek.mp e).1;have neF:∀b u,F b=some u->b≠a:=fun b u q z=>by subst z;rw[f]at q;cases q
 have g:Grow rl F₀ H₀ F (upd H a (.ext (DAt a us))):=by
  refine⟨fun b o q1 n=>by rw[upd_ne (ax q1 n0)];exact r.g.same b o q1 n,r.g.fs,fun b o q1=>by rw[upd_ne (neF b o q1)];exact r.sub b o q1,r.g.old,fun y z=>?_⟩;obtain⟨z1,⟨u,h1,h2⟩⟩:=r.reel y z;exact⟨z1,⟨u,by rw[upd_ne (fun q=>hr (by rw[<- q];exact z))];exact h1,h2⟩⟩
 refine⟨g,fun j w e1=>?_,fun j k ys' zs u hjk e1 e2 w1 w2 s1 s2=>?_,fun j ys' z=>?_,by simp[r.len]⟩
 · by_cases hj:i=j
   · subst hj;rw[Ep hi]at e1;cases e1;exact⟨_,es,⟨a,us,rfl,f,hr,ak,rs⟩,h3⟩
   · rw[El hj]at e1;obtain⟨u,g1,g2,g3⟩:=r.sl j w e1;refine⟨u,g1,?_,g3⟩
     cases w with
     | d x=>exact g2
     | reel=>exact g2
     | vv u=>exact g2
     | ml zs =>
       obtain⟨b,us',eb,f1,f2,f3,f4⟩:=(show gN K rl F H u zs from g2);have ne:b≠a:=fun z=>r.ap i j _ _ (.ref a) hj e e1 rfl rfl es (by rw[g1,eb,z])
       exact⟨b,us',eb,f1,f2,by rw[upd_ne ne];exact f3,f4⟩
     | pk zs=>exact absurd e1 (r.np j zs)
     | md zs =>
       obtain⟨b,us',eb,f1,f2,f3,f4⟩:=(show rm K rl F H u zs from g2);have ne:b≠a:=fun z=>r.ap i j _ _ (.ref a) hj e e1 rfl rfl es (by rw[g1,eb,z])
       exact⟨b,us',eb,f1,f2,by rw[upd_ne ne];exact f3,f4⟩
     | mk zs =>
       obtain⟨b,us',eb,f1,f2,f3,f4⟩:=(show rj K rl F H u zs from g2);have ne:b≠a:=fun z=>r.ap i j _ _ (.ref a) hj e e1 rfl rfl es (by rw[g1,eb,z])
       exact⟨b,us',eb,f1,f2,by rw[upd_ne ne];exact f3,f4⟩
     | xm zs =>
       obtain⟨b,us',eb,f1,f2,f3,f4⟩:=(show lp K rl F H u zs from g2);have ne:b≠a:=fun z=>r.ap i j _ _ (.ref a) hj e e1 rfl rfl es (by rw[g1,eb,z])
       exact⟨b,us',eb,f1,f2,by rw[upd_ne ne];exact f3,f4⟩
     | nt ds=>exact g2
     | lk=>trivial
     | sc _=>exact g2
     | fd _=>exact g2
     | xr _=>exact g2
     | fw _=>exact g2
     | ft _=>exact g2
     | xc _ _=>exact g2
     | dp _ _=>exact g2
 · have nd:∀(j:Nat)(z:W),(ρ.set i (some (W.xm ys)))[j]?=some (some z)->z.own=true->∃z',ρ[j]?=some (some z')/\z'.own=true:=fun j zs z o=>by
     by_cases hj:i=j
     · subst hj;exact⟨_,e,rfl⟩
     · rw[El hj]at z;exact⟨zs,z,o⟩
   obtain⟨_,d1,o1⟩:=nd j _ e1 w1;obtain⟨_,d2,o2⟩:=nd k _ e2 w2;exact r.ap j k _ _ u hjk d1 d2 o1 o2 s1 s2
 · rw[EW]at z;split at z
   · first|cases z|(split at z<;>cases z)
   · exact r.np j ys' z
noncomputable def lL:TV:=fun _ Q=>Q (.xm [])
theorem oY:PV X rl (.Dict [] [] pos) lL:=by
 refine⟨_,pB,fun R Qd Q q h p hp=>?_⟩;refine h _ (.xm []) _ _ (Grow.laid R.sub R.reel hp) ⟨p,[],rfl,R.sub.free hp,fun e=>?_,ak,.nil⟩ (fun a ea=>by cases ea;exact hp) q;obtain⟨o,z⟩:=R.reel.live e;rw[hp]at z;cases z
noncomputable def iq:List D2->Option (List Int)
 | []=>some []
 | .int i::ds=>(iq ds).map (i :: ·)
 | _::_=>none
noncomputable def keyI:D2->Option (List Int)
 | .tuple ds=>iq ds
 | _=>none
theorem jZ:∀{ds:List D2}{k:List Int},iq ds=some k->ds=k.map .int
 | [],k,h=>by cases h;rfl
 | .int i::ds,k,h=>by
   simp only[iq,Fw]at h;obtain⟨k',h1,rfl⟩:=h
   rw[jZ h1];rfl
 | .none::_,_,h=>by cases h
 | .bool _::_,_,h=>by cases h
 | .str _::_,_,h=>by cases h
 | .list _::_,_,h=>by cases h
 | .tuple _::_,_,h=>by cases h
 | .dict _::_,_,h=>by cases h
theorem eW:∀k:List Int,iq (k.map .int)=some k
 | []=>rfl
 | i::k=>by show(iq (k.map .int)).map (i :: ·)=_;rw[eW k];rfl
theorem tX{k:List Int}(h:keyI d=some k):d = .tuple (k.map .int):=by
 unfold keyI at h;split at h
 · rw[jZ h]
 · cases h
theorem ny{K:W.Frag}{k:List Int}(h:Rep K F v d)(e:keyI d=some k):∃b,v = .ref b/\Dm K F b (k.map V.int):=by
 rw[tX e]at h
 cases h with
 | @tup a vs ds sq rs =>
   rw[cc rs]at sq;exact⟨a,rfl,sq⟩
end
section
variable{X:Cx}{rl:Option Addr}{a b c o e:Expr}{es:List Expr}{fa fb:TV}{fs:Dg}{pos p apos cpos:Pos}{ρ:En}
end
end L2.VL
namespace L2
section
variable{prog:Ei}{w:EK}{A:EH}{E:D4->D6->Prop}{s:D6}
end
section
variable{X:Cx}
end
end L2
namespace L2.VL
section
variable{X:Cx}{rl:Option Addr}{e:Expr}{fa:TV}{pos:Pos}{ρ:En}
end
section
variable{X:Cx}{rl:Option Addr}{a b e:Expr}{fa fb:TV}{pos:Pos}{ρ:En}
end
end L2.VL
namespace L2
section
variable{X:Cx}
theorem eV{its:List D4}(r:bI (ns.map V.int) its){v:D4}(e:its[i]?=some v):∃t,v = .int (ns.getD i 0) t:=by
 have hl:=r.length;rw[Eb]at hl;have hi:i<ns.length:=by have:=(Ek.mp e).1;omega
 have hb:(ns.map V.int)[i]?=some (.int ns[i]):=by simp[hi]
 obtain⟨u,hu,ru⟩:=r.get hb;rw[e]at hu;cases hu;have:ns.getD i 0=ns[i]:=by simp[LJ,hi]
 rw[this];exact ru
theorem preSum_eq(ns:List Int):preSum (fun i=>ns.getD i 0) ns.length=ns.sum:=by
 have key:∀k,k<=ns.length->preSum (fun i=>ns.getD i 0) k=(ns.take k).sum:=by
  intro k
  induction k with
  | zero=>intro _;rfl
  | succ k ih =>
    intro hk;have hk':k<ns.length:=by omega
    show preSum _ k+ns.getD k 0=_;rw[ih (by omega),List.take_succ_eq_append_getElem hk',List.sum_append];simp[LJ,hk']
 rw[key _ (Ef _),HV (Ef _)]
theorem oy(hc:X.calm=true):cr X (.builtin "sum") (fun xs H Q=>∃(p:Addr)(ns:List Int),xs=[.ref p]/\Dn X.K H p (ns.map V.int)/\Q (.int ns.sum) H):=by
 intro pins s σ H xs us Q I r ⟨p,ns,ex,hq,q⟩;subst ex;obtain⟨u,rfl,ru⟩:=vals1 r;cases ru;obtain⟨its,rv,pl,hz⟩:=I.list hq;have hl:=rv.length;rw[Eb]at hl;refine call_sum_walkG (GO pl.isList ?_);have ne:p≠s.heap.objs.size:=by obtain⟨o,ho,_⟩:=pl.isList;exact Ey (D_ ho)
 refine⟨s.heap.objs.size,_,_,_,_,_,fun i=>ns.getD i 0,rfl,Ln (A:=X.A.in1) (I.ok.hd hc) s.heap.objs.size p ne its.toArray,⟨⟨_,Eg _ rfl,rfl,rfl⟩,pl.isList.push _⟩,?_,?_,?_⟩
 · intro b hb;have hb:b=s.heap.objs.size\/b=p:=by simpa using hb
   show b<(Heap.push _ _).objs.size;rw[GG];rcases hb with rfl|rfl
   · exact Hq _
   · obtain⟨o,ho,_⟩:=pl.isList;exact He (D_ ho)
 · intro i v hP;exact eV rv (by simpa using hP)
 · intro h' tk t' k;have e:preSum (fun i=>ns.getD i 0) its.toArray.size=ns.sum:=by rw[Ej,<- hl];exact preSum_eq ns
   rw[e];exact⟨.int _,H,I.kept (t':=tk) fun b o eb=>k b o (by simp;exact Ey (D_ eb)) (D3 _ eb),⟨t',rfl⟩,q⟩
end
end L2
namespace L2.VL
section
variable{X:Cx}{rl:Option Addr}{a:Expr}{fs:Dg}{pos p:Pos}
noncomputable def zg:List W->(W->Prop)->Prop:=fun ws Q=>∃(w:W)(ns:List Int),ws=[w]/\w.dat=some (.list (ns.map .int))/\Q (.d (.int ns.sum))
theorem uU:d0 X rl (fun xs H Q=>∃(p:Addr)(ns:List Int),xs=[.ref p]/\Dn X.K H p (ns.map V.int)/\Q (.int ns.sum) H) zg:=fun{F H vs ws} Qd Q s ra r ⟨w,ns,ew,ed,q⟩ k=>by
 subst ew;obtain⟨v,rfl,r1⟩:=l_ r;obtain⟨a,us,rfl,sq,rs⟩:=r1.items s ed;have e:=cc rs;subst e;exact⟨a,ns,rfl,sq,k _ (.d _) _ _ (Grow.refl s ra) (.int _) trivial q⟩
theorem v_sum(hm:X.mg "sum" = none)(ha:Dr X rl [a] fs)(hc:autoParam (X.calm=true) æa._auto_1)(hg:autoParam (Gl X "sum") æa._auto_1)(he:autoParam (Ec [a] X.env=(false,eval a X.env)::Ec [] X.env) æa._auto_1)(hpl:autoParam ((FN pos (Ec [] X.env)).any (·.1)=false) æa._auto_1) :
 PV X rl (.Call (.Name "sum" p) [a] [] pos) (cI zg fs):=b9 (oy hc) uU hm (by rfl) ha hg (by decide) (by decide) he hpl
noncomputable def t8:D2->Option (List Int)
 | .list xs=>dY xs
 | _=>none
theorem xT:t8 d=some ns↔d = .list (ns.map .int):=by
 constructor
 · intro h
   cases d with
   | list xs=>rw[cF h]
   | _=>cases h
 · rintro rfl;exact intsD_map _
theorem m_gSum(w:W):zg [w]=aq (w.dat.bind t8) fun ns=>ret (.d (.int ns.sum)):=by
 refine af fun Q=>?_;rw[ag];constructor
 · rintro⟨w',ns,e,ed,q⟩;cases e;exact⟨ns,by rw[ed];exact intsD_map ns,q⟩
 · rintro⟨ns,e,q⟩
   cases ed:w.dat with
   | none=>rw[ed]at e;cases e
   | some d =>
     rw[ed]at e;exact⟨w,ns,rfl,by rw[ed,xT.mp e],q⟩
theorem intsO_l(ns:List Int):t8 (.list (ns.map .int))=some ns:=intsD_map ns
noncomputable def DV:=D0 @m_gSum (@intsO_l)
end
end L2.VL
namespace L2
section
variable{X:Cx}
theorem ou(hc:X.calm=true):cr X (.builtin "sum") (fun xs H Q=>∃(p:Addr)(ns:List Int),xs=[.ref p]/\Dm X.K H p (ns.map V.int)/\Q (.int ns.sum) H):=by
 intro pins s σ H xs us Q I r ⟨p,ns,ex,hq,q⟩;subst ex;obtain⟨u,rfl,ru⟩:=vals1 r;cases ru;obtain⟨its,rv,pl,hz⟩:=I.tuple hq;have hl:=rv.length;rw[Eb]at hl;have it:s.heap.IsTuple p its.toArray:=pl;refine call_sum_walkG (IW it ?_);obtain⟨o,ho,ho2⟩:=pl;have ne:p≠s.heap.objs.size:=Ey (D_ ho);refine⟨s.heap.objs.size,_,_,_,_,_,fun i=>ns.getD i 0,rfl,Walks.tuple (A:=X.A.in1) (I.ok.hd hc) s.heap.objs.size p ne its.toArray,⟨⟨_,Eg _ rfl,rfl,rfl⟩,⟨o,D3 _ ho,ho2⟩⟩,?_,?_,?_⟩
 · intro b hb;have hb:b=s.heap.objs.size\/b=p:=by simpa using hb
   show b<(Heap.push _ _).objs.size;rw[GG];rcases hb with rfl|rfl
   · exact Hq _
   · exact He (D_ ho)
 · intro i v hP;exact eV rv (by simpa using hP)
 · intro h' tk t' k;have e:preSum (fun i=>ns.getD i 0) its.toArray.size=ns.sum:=by rw[Ej,<- hl];exact preSum_eq ns
   rw[e];exact⟨.int _,H,I.kept (t':=tk) fun b o eb=>k b o (by simp;exact Ey (D_ eb)) (D3 _ eb),⟨t',rfl⟩,q⟩
end
end L2
namespace L2.VL
section
variable{X:Cx}{rl:Option Addr}{a e:Expr}{fs:Dg}{pos p:Pos}
noncomputable def ud:List W->(W->Prop)->Prop:=fun ws Q=>∃(ns:List Int),ws=[.d (.tuple (ns.map .int))]/\Q (.d (.int ns.sum))
theorem rJ:d0 X rl (fun xs H Q=>∃(p:Addr)(ns:List Int),xs=[.ref p]/\Dm X.K H p (ns.map V.int)/\Q (.int ns.sum) H) ud:=fun{F H vs ws} Qd Q s ra r ⟨ns,ew,q⟩ k=>by
 subst ew;obtain⟨v,rfl,r1⟩:=l_ r
 cases(show Rep X.K F v (.tuple (ns.map .int))from r1)with
 | @tup a us _ sq rs =>
   have e:=cc rs;subst e;exact⟨a,ns,rfl,cX s sq,k _ (.d _) _ _ (Grow.refl s ra) (.int _) trivial q⟩
theorem u8(hm:X.mg "sum" = none)(ha:Dr X rl [a] fs)(hc:autoParam (X.calm=true) æa._auto_1)(hg:autoParam (Gl X "sum") æa._auto_1)(he:autoParam (Ec [a] X.env=(false,eval a X.env)::Ec [] X.env) æa._auto_1)(hpl:autoParam ((FN pos (Ec [] X.env)).any (·.1)=false) æa._auto_1) :
 PV X rl (.Call (.Name "sum" p) [a] [] pos) (cI ud fs):=b9 (ou hc) rJ hm (by rfl) ha hg (by decide) (by decide) he hpl
noncomputable def nL:D2->Option (List Int)
 | .tuple xs=>dY xs
 | _=>none
theorem jY:nL d=some ns↔d = .tuple (ns.map .int):=by
 constructor
 · intro h
   cases d with
   | tuple xs=>rw[cF h]
   | _=>cases h
 · rintro rfl;exact intsD_map _
theorem tP(w:W):ud [w]=aq (asD w) fun d=>aq (nL d) fun ns=>ret (.d (.int ns.sum)):=by
 refine af fun Q=>?_;simp only[ag,du,jY,ret];constructor
 · rintro⟨ns,e,q⟩;cases e;exact⟨_,rfl,ns,rfl,q⟩
 · rintro⟨d,e,ns,e2,q⟩;subst e e2;exact⟨ns,rfl,q⟩
theorem t7(ns:List Int):nL (.tuple (ns.map .int))=some ns:=intsD_map ns
end
section
variable{X:Cx}{rl:Option Addr}{a b c o e:Expr}{es:List Expr}{fa fb:TV}{fs:Dg}{pos p px apos cpos:Pos}{ρ:En}
end
end L2.VL
namespace L2
section
variable{X:Cx}{o e f:Expr}{apos cpos:Pos}{td ty tx:TE}
end
end L2
namespace L2.VL
section
variable{X:Cx}{rl:Option Addr}{a b c o e:Expr}{es:List Expr}{fa fb:TV}{fs:Dg}{pos p px apos cpos:Pos}{ρ:En}
noncomputable def lm(w:W):Option (List Int):=w.dat.bind nL
theorem zr{w:W}{g:List Int}:lm w=some g↔w.dat=some (.tuple (g.map .int)):=by
 unfold lm
 cases w.dat with
 | none=>simp
 | some d=>simp[jY]
theorem xB(g:List Int):lm (.d (.tuple (g.map .int)))=some g:=t7 g
end
theorem VR.frzX{K:W.Frag}(r:VR K rl F₀ H₀ F H σ ρ){xs:List (List Int×D2)}(e:ρ[i]?=some (some (.xm xs))):∃F1,be F F1/\VR K rl F₀ H₀ F1 H σ (ρ.set i (some (.xr xs))):=by
 obtain⟨v,h1,h2,h3⟩:=r.sl i _ e;obtain⟨a,vs,ev,f,hr,hh,q⟩:=(show lp K rl F H v xs from h2);have neF:∀b u,F b=some u->b≠a:=fun b u q z=>by subst z;rw[f]at q;cases q
 have fsm:be F (upd F a (.ext (DAt a vs))):=fun b u z=>by rw[upd_ne (neF b u z)];exact z
 have hi:i<ρ.length:=(Ek.mp e).1;refine⟨upd F a (.ext (DAt a vs)),fsm,r.g.freeze (h3 a ev) hh f hr,fun j w e1=>?_,fun j k ys' zs u hjk e1 e2 w1 w2 s1 s2=>?_,fun j ys' z=>?_,by simp[r.len]⟩
 · by_cases hj:i=j
   · subst hj;rw[Ep hi]at e1;cases e1;exact⟨v,h1,⟨a,vs,ev,ak,q.mono fsm⟩,trivial⟩
   rw[El hj]at e1;obtain⟨u,g1,g2,g3⟩:=r.sl j w e1;refine⟨u,g1,?_,g3⟩
   cases w with
   | d x=>exact Rep.mono fsm g2
   | reel=>exact g2
   | vv u=>exact g2
   | ml ys =>
     obtain⟨b,us,eb,f1,f2,f3,f4⟩:=(show gN K rl F H u ys from g2);have ne:b≠a:=fun z=>r.ap i j _ _ v hj e e1 rfl rfl h1 (by rw[g1,eb,z,ev])
     exact⟨b,us,eb,by rw[upd_ne ne];exact f1,f2,f3,f4.mono fsm⟩
   | pk ys=>exact absurd e1 (r.np j ys)
   | md ys =>
     obtain⟨b,us,eb,f1,f2,f3,f4⟩:=(show rm K rl F H u ys from g2);have ne:b≠a:=fun z=>r.ap i j _ _ v hj e e1 rfl rfl h1 (by rw[g1,eb,z,ev])
     exact⟨b,us,eb,by rw[upd_ne ne];exact f1,f2,f3,Fe.mapP f4 fun _ _ z=>⟨z.1,z.2.mono fsm⟩⟩
   | mk ys =>
     obtain⟨b,us,eb,f1,f2,f3,f4⟩:=(show rj K rl F H u ys from g2);have ne:b≠a:=fun z=>r.ap i j _ _ v hj e e1 rfl rfl h1 (by rw[g1,eb,z,ev])
     exact⟨b,us,eb,by rw[upd_ne ne];exact f1,f2,f3,Fe.mapP f4 fun _ _ z=>⟨z.1,z.2.mono fsm⟩⟩
   | xm ys =>
     obtain⟨b,us,eb,f1,f2,f3,f4⟩:=(show lp K rl F H u ys from g2);have ne:b≠a:=fun z=>r.ap i j _ _ v hj e e1 rfl rfl h1 (by rw[g1,eb,z,ev])
     exact⟨b,us,eb,by rw[upd_ne ne];exact f1,f2,f3,KX.mono f4 fsm⟩
   | nt ds=>obtain⟨b,us,eb,f1,f2⟩:=g2;exact⟨b,us,eb,fsm _ _ f1,f2.mono fsm⟩
   | lk=>trivial
   | sc ns=>obtain⟨b,eb,f1⟩:=g2;exact⟨b,eb,l6 fsm f1⟩
   | fd kvs=>obtain⟨b,us,eb,f1,f2⟩:=g2;exact⟨b,us,eb,fsm _ _ f1,Fe.mapP f2 fun _ _ z=>⟨z.1,z.2.mono fsm⟩⟩
   | xr kvs=>obtain⟨b,us,eb,f1,f2⟩:=g2;exact⟨b,us,eb,fsm _ _ f1,KX.mono f2 fsm⟩
   | fw kvs=>obtain⟨b,us,o,eb,f1,f2⟩:=g2;exact⟨b,us,o,eb,fsm _ _ f1,Fe.mapP f2 fun _ _ z=>⟨z.1,z.2.mono fsm⟩⟩
   | ft kvs=>obtain⟨b,us,o,eb,f1,f2⟩:=g2;exact⟨b,us,o,eb,fsm _ _ f1,Fe.mapP f2 fun _ _ z=>⟨z.1,z.2.mono fsm⟩⟩
   | xc _ _=>obtain⟨b,dx,us,C,eb,n,f1,f3,f2⟩:=g2;exact⟨b,dx,us,C,eb,n,fsm _ _ f1,fsm _ _ f3,Fe.mapP f2 fun _ _ z=>⟨z.1,z.2.mono fsm⟩⟩
   | dp _ _=>obtain⟨c,b,us,u,o,eb,f1,f3,f2,z⟩:=g2;exact⟨c,b,us,u,o,eb,fsm _ _ f1,fsm _ _ f3,Fe.mapP f2 fun _ _ z=>⟨z.1,z.2.mono fsm⟩,z.mono fsm⟩
 · have nd:∀(j:Nat)(y:W),(ρ.set i (some (W.xr xs)))[j]?=some (some y)->y.own=true->ρ[j]?=some (some y):=fun j y z o=>by
     by_cases hj:i=j
     · subst hj;rw[Ep hi]at z;cases z;cases o
     · rw[El hj]at z;exact z
   exact r.ap j k _ _ u hjk (nd j _ e1 w1) (nd k _ e2 w2) w1 w2 s1 s2
 · rw[EW]at z;split at z
   · first|cases z|(split at z<;>cases z)
   · exact r.np j ys' z
section
variable{X:Cx}{rl:Option Addr}{st:Stmt}{body:List Stmt}{t:Dh}{e:Expr}{pos p px apos cpos:Pos}{ρ:En}
noncomputable def r0(i:Nat)(t:Dh):Dh:=fun D ρ=>∃xs,ρ[i]?=some (some (.xm xs))/\t D (ρ.set i (some (.xr xs)))
theorem rH(i:Nat)(h:Du X rl st t):Du X rl st (r0 i t):=by
 obtain⟨T,p,k⟩:=h;refine⟨T,p,fun R Dv D ok ⟨xs,e,q⟩=>?_⟩;obtain⟨F1,s1,R1⟩:=R.frzX e;exact k R1 Dv D (ok.on s1) q
noncomputable def lI(i:Nat)(fk fx:TV):TV:=fun ρ Q=>∃kvs,ρ[i]?=some (some (.xm kvs))/\fk ρ fun wk=>fx ρ fun wx=>∃(g:List Int)(x:D2),lm wk=some g/\wx = .d x/\Q (.d ((oK kvs g).getD x))
theorem cO.keyF{rl:Option Addr}{K:W.Frag}{w:W}{g:List Int}(r:cO K rl F H v w)(e:lm w=some g):∃b,v = .ref b/\Dm K F b (g.map V.int):=by
 have e:=zr.mp e
 cases w with
 | d x=>cases e;exact ny r (by show iq (g.map .int)=_;exact eW g)
 | nt ds =>
   obtain⟨a,vs,rfl,h,q⟩:=r;cases e;rw[cc q]at h
   exact⟨a,rfl,.inl (.inl h)⟩
 | ml xs=>cases e
 | pk xs=>cases e
 | _=>cases e
theorem cO.keyI{rl:Option Addr}{K:W.Frag}{w:W}{g:List Int}(s:be F H)(r:cO K rl F H v w)(e:lm w=some g):∃b,v = .ref b/\Dm K H b (g.map V.int):=ny (cO.dat s r (zr.mp e)) (by show iq (g.map .int)=_;exact eW g)
theorem rL(i:Nat){f:Expr}{fk fx:TV}(hu:X.A.units+64<Kx)(hk:PV X rl e fk)(hx:PV X rl f fx)(hN:autoParam (X.N[i]?=some x) æa._auto_1)(hv:autoParam (Dd X.env.scope x) æf._auto_1)
 (hd:autoParam ((x==("__debug__" : Str))=false) æb._auto_1)(hcd:autoParam ((x==("__classdict__" : Str))=false) æb._auto_1)(m:M2 X (.Name x px) "get" apos e f cpos:=by exact⟨rfl,rfl,rfl,rfl⟩) :
 PV X rl (.Call (.Attribute (.Name x px) "get" apos) [e,f] [] cpos) (lI i fk fx):=by
 obtain⟨t,p1,k1⟩:=hk;obtain⟨t2,p2,k2⟩:=hx;refine⟨_,pp (by omega) (cR hN hv hd hcd) p1 p2 m,fun{F₀ H₀ F H σ ρ} R Qd Q ⟨kvs,e1,q⟩ h=>?_⟩;obtain⟨v,h1,h2,h3⟩:=R.sl i _ e1;obtain⟨a,xs,rfl,f0,hr,hh,rs⟩:=(show lp X.K rl F H v kvs from h2);refine⟨.ref a,h1,a,xs,rfl,hh,fun x m=>cX R.sub (rs.keys x m),k1 R _ _ q fun v1 w1 F1 H1 g1 r1 n1 q1=>?_⟩;refine k2 (R.grow g1) _ _ q1 fun v2 w2 F2 H2 g2 r2 n2 q2=>?_;obtain⟨gs,d,e2,rfl,q2⟩:=q2;obtain⟨b,rfl,sq⟩:=(cO.grow g2 r1).keyI g2.sub e2;have g:=g1.trans g2;have rs2:=rs.mono g.fs;rcases rs2.at gs with⟨z1,z2⟩|⟨p,v3,d3,z1,z2,z3,z4⟩
 · rw[z2]at q2;exact⟨xs,b,gs,v2,g.same a _ hh hr,fun x m=>cX g2.sub (rs2.keys x m),rfl,sq,fun _=>rfl,(fun p e=>by rw[z1]at e;cases e),h _ (.d d) _ _ g r2 trivial q2⟩
 · rw[z2]at q2;exact⟨xs,b,gs,v3,g.same a _ hh hr,fun x m=>cX g2.sub (rs2.keys x m),rfl,sq,(fun e=>by rw[z1]at e;cases e),(fun p' e=>by rw[z1]at e;cases e;exact z3),h _ (.d d3) _ _ g z4 trivial q2⟩
noncomputable def rT(i:Nat)(fk:TV):TV:=fun ρ Q=>∃kvs,ρ[i]?=some (some (.xr kvs))/\fk ρ fun wk=>∃(g:List Int)(x:D2),lm wk=some g/\oK kvs g=some x/\Q (.d x)
theorem u7(i:Nat){fk:TV}(hu:X.A.units+64<Kx)(hk:PV X rl e fk)(hN:autoParam (X.N[i]?=some x) æa._auto_1)(hv:autoParam (Dd X.env.scope x) æf._auto_1)
 (hd:autoParam ((x==("__debug__" : Str))=false) æb._auto_1)(hcd:autoParam ((x==("__classdict__" : Str))=false) æb._auto_1)(hs:autoParam (xF e) æi._auto_1) :
 PV X rl (.Subscript (.Name x px) e pos) (rT i fk):=by
 obtain⟨t,p1,k1⟩:=hk;refine⟨_,tF (by omega) (cR hN hv hd hcd) p1 hs,fun{F₀ H₀ F H σ ρ} R Qd Q ⟨kvs,e1,q⟩ h=>?_⟩;obtain⟨v,h1,h2,h3⟩:=R.sl i _ e1;obtain⟨a,xs,rfl,hh,rs⟩:=(show ∃a us,v = .ref a/\F a=some (.ext (DAt a us))/\KX X.K F us kvs from h2);refine⟨.ref a,h1,k1 R _ _ q fun v1 w1 F1 H1 g1 r1 n1 q1=>?_⟩;obtain⟨gs,d,e2,ed,q1⟩:=q1;obtain⟨b,rfl,sq⟩:=r1.keyI g1.sub e2;have rs2:=rs.mono g1.fs;rcases rs2.at gs with⟨z1,z2⟩|⟨p,v3,d3,z1,z2,z3,z4⟩
 · rw[z2]at ed;cases ed
 · rw[z2]at ed;cases ed;exact⟨a,xs,b,gs,p,v3,rfl,g1.sub _ _ (g1.fs _ _ hh),fun x m=>cX g1.sub (rs2.keys x m),rfl,sq,z1,z3,h _ (.d _) _ _ g1 z4 trivial q1⟩
noncomputable def rS(i:Nat)(fk fx:TV):Dh:=fun D ρ=>∃kvs,ρ[i]?=some (some (.xm kvs))/\fx ρ fun wx=>fk ρ fun wk=>∃(g:List Int)(x:D2),lm wk=some g/\wx = .d x/\kvs.length<sizeLine/\D.nx (ρ.set i (some (.xm (uE kvs g x))))
theorem rC(i:Nat){f:Expr}{fk fx:TV}(hu:X.A.units+64<Kx)(hk:PV X rl e fk)(hx:PV X rl f fx)(hN:autoParam (X.N[i]?=some x) æa._auto_1)(hv:autoParam (Dd X.env.scope x) æf._auto_1)
 (hd:autoParam ((x==("__debug__" : Str))=false) æb._auto_1)(hcd:autoParam ((x==("__classdict__" : Str))=false) æb._auto_1)(hs:autoParam (Gx f (some (.Subscript (.Name x px) e pos')) pos.line X.env=pure false) æa._auto_1) :
 Du X rl (.Assign [.Subscript (.Name x px) e pos'] f pos) (rS i fk fx):=by
 obtain⟨t,p1,k1⟩:=hk;obtain⟨t2,p2,k2⟩:=hx;refine⟨_,tf (by omega) (cR hN hv hd hcd) p1 p2 hs,fun{F₀ H₀ F H σ ρ} R Dv D ok ⟨kvs,e1,q⟩=>?_⟩;obtain⟨v,h1,h2,h3⟩:=R.sl i _ e1;obtain⟨a,xs,rfl,f0,hr,hh,rs⟩:=(show lp X.K rl F H v kvs from h2);refine k2 R _ _ q fun v2 w2 F2 H2 g2 r2 n2 q2=>⟨.ref a,h1,k1 (R.grow g2) _ _ q2 fun v1 w1 F1 H1 g1 r1 n1 q3=>?_⟩;obtain⟨gs,d,e2,rfl,hz,q3⟩:=q3;obtain⟨b,rfl,sq⟩:=r1.keyI g1.sub e2;have g:=g2.trans g1;have rs1:=rs.mono g.fs;have hl:xs.length=kvs.length:=Gk rs
 have sqF:Dm X.K F1 b (gs.map V.int):=by
  have:=r1.keyF e2;obtain⟨b',eb,sq'⟩:=this;cases eb;exact sq'
 refine⟨a,xs,b,gs,rfl,g.same a _ hh hr,fun x m=>cX g1.sub (rs1.keys x m),rfl,sq,by omega,fun r rv=>?_⟩;exact ok.nx _ _ _ _ g.fs ((R.grow g).ownX e1 h1 (rs1.put gs sqF rv (Rep.mono g1.fs r2))) q3
end
end L2.VL
namespace L2.ZP
section
variable{prog:Ei}{w:EK}{A:EH}{E:D4->D6->Prop}{s:D6}{z it a:Addr}{k:Nat}{xs:Array D4}{x p:D4}{b:Bool}
abbrev e2(h:Heap)(b:Bool)(a:Addr):Heap:=(y1 h b a).push {cls:=.type "enumerate", data:=.fields #[.none,.bool false,.ref h.objs.size,Hw 0,.none,.none]}
end
end L2.ZP
namespace L2
open PySem PySem.Spec PyProof.Rows L2.ZP
section
variable{X:Cx}{e1:Expr}{ta:TA}{elts:List Expr}{kt:Nat}{pt p pos:Pos}
end
end L2
namespace L2.VL
section
variable{X:Cx}{rl:Option Addr}{a:Expr}{elts:List Expr}{kt:Nat}{pt p pos:Pos}{fs:Dg}
end
end L2.VL
namespace L2
section
variable{X:Cx}{e:Expr}{tg:Expr}{te:TE}
end
end L2
namespace L2.VL
section
variable{X:Cx}{rl:Option Addr}{a b e o i':Expr}{es:List Expr}{fa fb:TV}{fs:Dg}{pos p px apos cpos:Pos}{ρ:En}{st:Stmt}{t:Dh}
end
section
variable{X:Cx}{rl:Option Addr}{kx vx tg iter:Expr}{ifs:List Expr}{scope:Scope}{pos:Pos}{fi:En->(List D2->Prop)->Prop}{g:Dk}{ft:TB}{fk fe:TV}
end
abbrev DP:=List (DH×D2)×D2
section
variable{P:Ei}{w:EK}{K:W.Frag}{mg:Str->Option D4}{base:Heap}{rl:Option Addr}{x:Str}{st:Stmt}{N ps:List Str}{k:Nat}{Pd:List W->(DP->Prop)->Prop}{t:Dh}
end
section
variable{X:Cx}{rl:Option Addr}{e:Expr}{es:List Expr}{fs:Dg}{pos p:Pos}{ρ:En}
end
section
variable{X:Cx}{rl:Option Addr}{a b c o e:Expr}{es:List Expr}{fa fb:TV}{fs:Dg}{pos p apos cpos:Pos}{ρ:En}
end
end L2.VL
namespace L2
noncomputable def oP(h:Heap)(a:Addr)(es:Array Ik)(ep:Nat):Prop:=∃ob,h.get? a=some ob/\ob.ExactDict/\ob.data = .dict es ep
section
variable{P:Ei}{w:EK}{A:EH}{E:D4->D6->Prop}{s:D6}{d v it:Addr}{es:Array Ik}{ep i:Nat}
theorem oP.ty(r:oP s.heap d es ep):s.TypeIs (.ref d) "dict" := let ⟨ob,q,x,_⟩:=r;⟨ob,q,x.1⟩
end
section
variable{X:Cx}{o:Expr}{tg:Expr}{te:TE}{apos cpos:Pos}
end
end L2
namespace L2.VL
section
variable{X:Cx}{rl:Option Addr}{a b e o i':Expr}{es:List Expr}{fa fb:TV}{fs:Dg}{pos p px apos cpos:Pos}{ρ:En}{st:Stmt}{t:Dh}
end
end L2.VL
namespace L2
section
variable{P:Ei}{w:EK}{A:EH}{E:D4->D6->Prop}{s:D6}{d v it:Addr}{es:Array Ik}{ep i:Nat}
theorem mf(nd:(d==Gb)=false)(r:oP s.heap d es ep)
 (z:Q (.ref s.heap.objs.size) {s with heap:=s.heap.push {cls:=.type "dict_keyiterator", data:=.fields #[.ref d,.int 0 0,.int es.size 0,.int ep 0]}}):Es (EJ P w) A (pyIter (.ref d)) Q E s:=by
 obtain⟨ob,q,x,t⟩:=id r;refine Ju r.ty F.slot_dict_iter (FC F.slot_dict_iter r.ty F.entry_dict_iter ?_ (F.args_dict_iter_1 _));unfold Builtin.«dict.__iter__»;refine D1 ?_;unfold Builtin.Dict.dictSlotNone;refine D1 (wpAny_notOrdered_dict r.ty ?_);show Es _ _ (pure (EO d)) _ _ s;refine D5 ?_;show Es _ _ (Ki d >>= _) _ _ s;unfold Ki;rw[if_neg (by rw[nd];exact EC)];refine D1 (D5 (D1 (Jv q t (D1 (Kj q t ?_)))));refine D1 (EN (D5 ⟨_,rfl, "dict_keyiterator", _,⟨_,Eg _ rfl,rfl⟩,F.slot_dict_keyiterator_next.lookup,?_⟩));simpa[Hw]using z
theorem mh{x:D4}{Q:Option D4->D6->Prop}(hit:s.heap.IsKeyIter it d i es.size ep)(r:oP s.heap d es ep)(hx:(es[i]?).map (·.key)=some x)
 (z:∀h',h'.IsKeyIter it d (i+1) es.size ep->GV it s.heap h'->Q (some x) {s with heap:=h' }):Es (EJ P w) A (IB (.ref it)) Q E s:=by
 obtain⟨ob,o1,o2,o3⟩:=id hit;obtain⟨od,q,x0,t⟩:=id r
 have li:i<es.size:=by
  rcases G9 i es.size with y|y
  · exact y
  · rw[FY y]at hx;cases hx
 have ex:es[i].key=x:=by rw[E2 li]at hx;exact EL hx
 unfold IB;refine D1 (JH (FR (name:=Ft "__next__") hit.typeIs F.slot_dict_keyiterator_next (FC F.slot_dict_keyiterator_next hit.typeIs F.entry_dict_keyiterator_next ?_ (F.args_dict_keyiterator_next_1 _))));refine D1 (D5 (D1 (D1 ?_)))
 first|refine D1 (Gi hit.typeIs (D5 (D1 (Hl o1 o3 ?_))))|refine D1 (GT hit.typeIs (D5 (D1 (Hl o1 o3 ?_))))
 simp only[show Ix "dict_keyiterator" = false by decide,FQ,if_false];show Es _ _ (if(EO d==Fi)=true then _ else _) _ _ s;rw[if_neg (show ¬((EO d==Fi)=true)from EC)];refine D1 (D5 (D1 (Jv q t ?_)));rw[if_neg (by simp)];refine D1 (D5 (D1 (Kj q t ?_)));rw[if_neg (by simp)];refine D5 ?_;simp only[show ¬((i:Int)<0)from by omega,if_false,Fm,E2 li];refine D1 ?_
 first|refine D1 (Gi hit.typeIs (D5 (D1 (Im hit.typeIs ?_))))|refine D1 (GT hit.typeIs (D5 (D1 (Im hit.typeIs ?_))))
 show Es _ _ (setField (.ref it) 1 (Hw ((i:Int)+1)) >>= _) _ _ s;refine D1 (GH o1 o3 (by simp) ?_);have h2:(s.heap.update it (FS (·.setIfInBounds 1 (Hw ((i:Int)+1))))).IsKeyIter it d (i+1) es.size ep:=⟨_,ES _ o1 (FJ (E_ o3 _)),(H_ ..).trans o2,by rw[E_ o3];simp[Hw]⟩;generalize he:s.heap.update it (FS (·.setIfInBounds 1 (Hw ((i:Int)+1))))=h' at h2 ⊢;refine D1 (Fg (D1 (Im (s:={s with heap:=h' }) h2.typeIs ?_)));show Es _ _ (pure es[i].key) _ _ _;rw[ex];exact D5 (D5 ⟨_,rfl,D5 (z _ h2 (he▸F0 ..))⟩)
theorem o8{Q:Option D4->D6->Prop}(hh:A.handled=none)(hit:s.heap.IsKeyIter it d i es.size ep)(r:oP s.heap d es ep)(hx:es.size<=i)
 (z:∀h',Heap.ExtBut it s.heap h'->Q none {s with heap:=h' }):Es (EJ P w) A (IB (.ref it)) Q E s:=by
 obtain⟨ob,o1,o2,o3⟩:=id hit;obtain⟨od,q,x0,t⟩:=id r;unfold IB;refine D1 (JH (FR (name:=Ft "__next__") hit.typeIs F.slot_dict_keyiterator_next (FC F.slot_dict_keyiterator_next hit.typeIs F.entry_dict_keyiterator_next ?_ (F.args_dict_keyiterator_next_1 _))));refine D1 (D5 (D1 (D1 ?_)))
 first|refine D1 (Gi hit.typeIs (D5 (D1 (Hl o1 o3 ?_))))|refine D1 (GT hit.typeIs (D5 (D1 (Hl o1 o3 ?_))))
 simp only[show Ix "dict_keyiterator" = false by decide,FQ,if_false];show Es _ _ (if(EO d==Fi)=true then _ else _) _ _ s;rw[if_neg (show ¬((EO d==Fi)=true)from EC)];refine D1 (D5 (D1 (Jv q t ?_)));rw[if_neg (by simp)];refine D1 (D5 (D1 (Kj q t ?_)));rw[if_neg (by simp)];refine D5 ?_;simp only[show ¬((i:Int)<0)from by omega,if_false,Fm,FY hx];refine D1 ?_
 first|refine D1 (Gi hit.typeIs (D5 ?_))|refine D1 (GT hit.typeIs (D5 ?_))
 show Es _ _ (setField (.ref it) 0 .none >>= _) _ _ s;refine D1 (GH o1 o3 (by simp) ?_);show Es _ _ (newExc (.type "StopIteration") [] >>= _) _ _ _;refine D1 ?_;simp only[newExc,newTuple];refine D1 (EN (D1 (m:=Jk _ _) (KR (a:=Fi) (by first|rfl|(simp only[Jk];rfl)) (EN ?_ (by size_fits)))) (by size_fits));simp only[raiseNew];refine D1 (wpAny_handled ?_);rw[show A.in1.handled=none from hh];refine D1 (D5 (wpAny_throw ?_));refine D1 (JR (T := "StopIteration") (b:=true) ⟨_,Eg _ rfl,rfl⟩ isSubtype_stop ?_);exact D5 (z _ (((F0 ..).extBut.push _).push _))
end
open PySem PySem.Spec PyProof.Rows PySem.W
section
variable{P:Ei}{w:EK}{A:EH}{E:D4->D6->Prop}{s:D6}{d:Addr}{es:Array Ik}{ep:Nat}
theorem oP.at'(r:oP h d es ep)(k:∀o,h.get? d=some o->h'.get? d=some o):oP h' d es ep:=let ⟨o,e,c⟩:=r;⟨o,k o e,c⟩
theorem oP.lt(r:oP h d es ep):d<h.objs.size:=let ⟨_,e,_⟩:=r;D_ e
theorem oS(hh:A.handled=none)(I:Addr)(hne:d≠I)(es:Array Ik)(ep:Nat) :
 Walks P w A I [I,d] [I] es.size (fun i v=>(es[i]?).map (·.key)=some v) (fun i h=>h.IsKeyIter I d i es.size ep/\oP h d es ep) where
 sub:=fun b hb=>by simp at hb;simp[hb]
 frame:=fun _ _ _ st hk=>⟨(let ⟨o,ho,r⟩:=st.1;⟨o,hk I (by simp) o ho,r⟩),st.2.at' fun o e=>hk d (by simp) o e⟩
 item:=fun i s Q E hi st hQ=>by
  have hx:(es[i]?).map (·.key)=some (es[i]'hi).key:=by rw[E2 hi];rfl
  refine mh st.1 st.2 hx fun h' hit' hs'=>hQ _ h' s.toks hx ⟨hit',st.2.at' fun o e=>hs'.extBut d o hne e⟩ fun b o hb e=>hs'.extBut b o (fun h=>hb (by simp[h])) e
 done:=fun s Q E st hQ=>o8 hh st.1 st.2 (Ef _) fun h' he'=>hQ h' s.toks fun b o hb e=>he' b o (fun h=>hb (by simp[h])) e
 self:=fun _ _ _ _ st hQ=>wpAny_pyIter_keyiter st.1 hQ
theorem sy(lo:(d==Gb)=false)(es:Array Ik)(ep:Nat):KdlSrc P w "dict" d d es.size (fun i v=>(es[i]?).map (·.key)=some v) (fun h=>oP h d es ep) where
 type:=fun _ hm=>hm.ty
 there:=fun _ hm=>⟨hm.lt,hm.lt⟩
 keep:=fun _ _ hm hk=>hm.at' fun o e=>hk d (.inl rfl) o e
 notList:=by decide
 notTuple:=by decide
 hint:=fun _ _ _ _ hm hq=>kdl_hint_dict hm.ty hq
 iter:=fun _ _ hh hm=>⟨_,_,(fun _ _ hq=>mf lo hm hq),oS hh _ (Ey hm.lt) es ep,⟨⟨_,Eg _ rfl,rfl,rfl⟩,hm.at' fun o e=>D3 _ e⟩⟩
end
theorem ut{P:Ei}{w:EK}{xs:List (List Int×Addr×D4)}(p:VL.DAt a xs h):∃(es:Array Ik)(ep:Nat),oP h a es ep/\es.size=xs.length/\(∀i:Nat,(es[i]?).map (·.key)=(xs[i]?).map fun u=>EO u.2.1)/\(a==Gb)=false/\xs.length<=sizeLine:=by
 obtain⟨o,es,ep,h1,h2,h3,h4,h5,h6,h7⟩:=p;have e:=h4 P w;refine⟨es,ep,⟨o,h1,h2,h3⟩,by rw[<- D8,e,Eb],fun i=>?_,h6,h7⟩;rw[<- EZ,e,E6,Jl];rfl
theorem gP:∀{us:List (List Int×Addr×D4)}{its:List D4},its.length=us.length->(∀(i:Nat)(v:D4),its[i]?=some v->(us[i]?).map (fun u=>EO u.2.1)=some v)->bI (us.map fun u=>V.ref u.2.1) its
 | [],[],_,_=>.nil
 | u::us,[],h,_=>by cases h
 | [],v::its,h,_=>by cases h
 | u::us,v::its,h,k=>.cons (by have:=k 0 v rfl;simp at this;exact this.symm) (gP (by simpa using h) fun i w e=>by simpa using k (i+1) w (by simpa using e))
theorem la(hc:X.calm=true):cr X (.type "list") (fun xs H Q=>∃a us,xs=[.ref a]/\H a=some (.ext (VL.DAt a us))/\∀l,H l=none->Q (.ref l) (upd H l (.lst (us.map fun u=>V.ref u.2.1)))):=by
 intro pins s σ H xs vs Q I r ⟨a,us,ex,e,q⟩;subst ex;obtain⟨u,rfl,rx⟩:=vals1 r;cases rx;obtain⟨p,_⟩:=(show br X.prog X.w H s.heap a (.ext (VL.DAt a us))from I.hok a _ e);obtain⟨es,ep,dr,hz,hk,lo,hl⟩:=ut (P:=X.prog) (w:=X.w) p;refine W.kdl_call (sy lo es ep) (I.ok.hd hc) dr (by omega) fun h' tk acc c' kp en it=>?_;refine⟨.ref s.heap.objs.size,_,I.laid (t':=tk) (o:=.lst (us.map fun u=>V.ref u.2.1)) kp (Ef _) ⟨by rw[Eb];exact hl,acc.toList,c',gP (by rw[D8,it.1,hz]) fun i v e=>?_,by rw[Iw];exact en⟩,rfl,q _ (I.hok.fresh (Ef _))⟩;rw[<- hk];exact it.2 i v (by rw[<- EZ];exact e)
end L2
namespace L2.VL
noncomputable def kI(k:List Int):D2:=.tuple (k.map .int)
theorem KX.reps{K:W.Frag}{F:Hp}:∀{us:List (List Int×Addr×D4)}{kvs:List (List Int×D2)},KX K F us kvs->Reps K F (us.map fun u=>V.ref u.2.1) (kvs.map fun p=>kI p.1)
 | _,_,.nil=>.nil
 | _,_,.cons h t=>.cons (.tup h.2.1 (h.1▸d_)) (KX.reps t)
section
variable{X:Cx}{rl:Option Addr}{a b c o e:Expr}{es:List Expr}{fa fb fk fx:TV}{fs:Dg}{pos p px apos cpos:Pos}{ρ:En}
noncomputable def xz:W->Option (List (List Int×D2))
 | .xr kvs=>some kvs
 | _=>none
theorem oF{w:W}:xz w=some kvs↔w = .xr kvs:=by cases w<;>simp[xz]
theorem re(kvs:List (List Int×D2)):xz (.xr kvs)=some kvs:=rfl
noncomputable def xA:W->Option (List (List Int×D2))
 | .xm kvs=>some kvs
 | _=>none
theorem uw{w:W}:xA w=some kvs↔w = .xm kvs:=by cases w<;>simp[xA]
noncomputable def Cb(ρ:En)(i:Nat):Option (List (List Int×D2)):=((ρ[i]?).join).bind xA
theorem lZ:Cb ρ i=some kvs↔ρ[i]?=some (some (.xm kvs)):=by
 unfold Cb;rcases ρ[i]? with _|_|w<;>simp[uw]
noncomputable def xP(ρ:En)(i:Nat):Option (List (List Int×D2)):=((ρ[i]?).join).bind xz
theorem sB:xP ρ i=some kvs↔ρ[i]?=some (some (.xr kvs)):=by
 unfold xP;rcases ρ[i]? with _|_|w<;>simp[oF]
theorem m5:lL ρ=ret (.xm []):=nr rfl
theorem pI(i:Nat):lI i fk fx ρ=aq (Cb ρ i) fun kvs=>C5 (fk ρ) fun wk=>C5 (fx ρ) fun wx=>aq (lm wk) fun g=>aq (asD wx) fun x=>ret (.d ((oK kvs g).getD x)):=by
 refine af fun Q=>?_;simp only[lI,ag,lZ,C5,ret,du];refine exists_congr fun kvs=>and_congr_right fun _=>?_;constructor
 · intro h;refine cast ?_ h;congr 1;funext x;congr 1;funext y;exact propext ⟨fun⟨a,b,c,d,e⟩=>⟨a,c,b,d,e⟩,fun⟨a,c,b,d,e⟩=>⟨a,b,c,d,e⟩⟩
 · intro h;refine cast ?_ h;congr 1;funext x;congr 1;funext y;exact propext ⟨fun⟨a,c,b,d,e⟩=>⟨a,b,c,d,e⟩,fun⟨a,b,c,d,e⟩=>⟨a,c,b,d,e⟩⟩
theorem tN(i:Nat):rT i fk ρ=aq (xP ρ i) fun kvs=>C5 (fk ρ) fun wk=>aq (lm wk) fun g=>aq (oK kvs g) fun x=>ret (.d x):=by
 refine af fun Q=>?_;simp only[rT,ag,sB,C5,ret];refine exists_congr fun kvs=>and_congr_right fun _=>?_;constructor
 · intro h;refine cast ?_ h;congr 1;funext x;exact propext ⟨fun⟨a,b,c,d,e⟩=>⟨a,c,b,d,e⟩,fun⟨a,c,b,d,e⟩=>⟨a,b,c,d,e⟩⟩
 · intro h;refine cast ?_ h;congr 1;funext x;exact propext ⟨fun⟨a,c,b,d,e⟩=>⟨a,b,c,d,e⟩,fun⟨a,b,c,d,e⟩=>⟨a,c,b,d,e⟩⟩
theorem sO(i:Nat):mS (rS i fk fx) ρ=aq (Cb ρ i) fun kvs=>C5 (fx ρ) fun wx=>C5 (fk ρ) fun wk=>aq (lm wk) fun g=>aq (asD wx) fun x=>CU (kvs.length<sizeLine) (ret (.nx (ρ.set i (some (.xm (uE kvs g x)))))):=by
 refine af fun Q=>?_;simp only[mS,rS,ag,lZ,C5,ret,du,CU];refine exists_congr fun kvs=>and_congr_right fun _=>?_;constructor
 · intro h;refine cast ?_ h;congr 1;funext x;congr 1;funext y;exact propext ⟨fun⟨a,b,c,d,e,f⟩=>⟨a,c,b,d,e,f⟩,fun⟨a,c,b,d,e,f⟩=>⟨a,b,c,d,e,f⟩⟩
 · intro h;refine cast ?_ h;congr 1;funext x;congr 1;funext y;exact propext ⟨fun⟨a,c,b,d,e,f⟩=>⟨a,b,c,d,e,f⟩,fun⟨a,b,c,d,e,f⟩=>⟨a,c,b,d,e,f⟩⟩
theorem sP(i:Nat){t:Dh}:mS (r0 i t) ρ=aq (Cb ρ i) fun xs=>mS t (ρ.set i (some (.xr xs))):=by
 refine af fun Q=>?_;simp only[mS,r0,ag,lZ]
theorem yd(kvs:List (List Int×D2)):(W.xr kvs).peek.fz = .xr kvs:=rfl
noncomputable def nY:List W->(W->Prop)->Prop:=fun ws Q=>∃kvs,ws=[.xr kvs]/\Q (.d (.list (kvs.map fun p=>kI p.1)))
theorem oX(hc:X.calm=true)(hm:X.mg "list" = none)(ha:Dr X rl [a] fs)(hg:autoParam (Gl X "list") æa._auto_1)(he:autoParam (Ec [a] X.env=(false,eval a X.env)::Ec [] X.env) æa._auto_1)(hpl:autoParam ((FN pos (Ec [] X.env)).any (·.1)=false) æa._auto_1) :
 PV X rl (.Call (.Name "list" p) [a] [] pos) (cI nY fs):=by
 refine jD (la hc) (fun{F H vs ws} Qd Q s ra r ⟨kvs,ew,q⟩ k=>?_) hm (by rfl) ha hg (by decide) (by decide) he hpl;subst ew;obtain⟨v,rfl,b,us,rfl,hb,rk⟩:=l_ r;refine⟨b,us,rfl,s _ _ hb,fun l hl=>?_⟩;have g:=Grow.data (a:=l) (o:=.lst (us.map fun u=>V.ref u.2.1)) s ra hl;exact k _ (.d _) _ _ g (Rep.lst ak (rk.reps.mono g.fs)) trivial q
theorem pJ(w:W):nY [w]=aq (xz w) fun kvs=>ret (.d (.list (kvs.map fun p=>kI p.1))):=by
 refine af fun Q=>?_;simp only[nY,ag,oF,ret,Eu,and_true]
end
end L2.VL
namespace L2
section
variable{X:Cx}{o e f:Expr}{apos cpos:Pos}{td ty tx:TE}
end
end L2
namespace L2.VL
section
variable{X:Cx}{rl:Option Addr}{st:Stmt}{t:Dh}{e f:Expr}{fk fx:TV}{pos p px apos cpos:Pos}{ρ:En}
end
end L2.VL
namespace L2
section
variable{X:Cx}{e:Expr}{te:TE}{pos px py:Pos}{x y:Str}
noncomputable def yM(te:TE)(g g':TG):TS:=fun D σ H=>te σ H fun v H1=>g v σ H1 fun σ2 H2=>g' v σ2 H2 D.nx
theorem tj{g g':TG}(he:PE X e te)(hg:PG X (.Name x px) g)(hg':PG X (.Name y py) g')
 (hw:autoParam (HF [.Name x px,.Name y py] e X.env=pure none) æa._auto_1)(h1:autoParam ((GD [.Name x px,.Name y py] X.env).map (·.2)=[HE (.Name x px) X.env,HE (.Name y py) X.env]) æa._auto_1) :
 PS X (.Assign [.Name x px,.Name y py] e pos) (yM te g g'):=by
 intro pins s σ H D I h;refine wpAny_Assign_two (BY (he pins s σ H _ I h) fun v s1 ⟨u,H1,I1,r1,q1⟩=>BY (hg pins s1 σ H1 u v _ I1 r1 q1) fun _ s2 ⟨σ2,H2,I2,q2⟩=>?_) h1 hw;exact BY (hg' pins s2 σ2 H2 u v _ I2 r1 q2) fun _ s3 q=>q
end
end L2
namespace L2.VL
section
variable{X:Cx}{rl:Option Addr}{e:Expr}{fa:TV}{pos px py:Pos}{x y:Str}{ρ:En}
noncomputable def rW(i j:Nat)(fa:TV):Dh:=fun D ρ=>fa ρ fun w=>∃d,w = .d d/\D.nx ((ρ.set i (some (.d d))).set j (some (.d d)))
theorem rF(i j:Nat)(hN:X.N.Nodup)(he:PV X rl e fa)(hi:autoParam (X.N[i]?=some x) æa._auto_1)(hj:autoParam (X.N[j]?=some y) æa._auto_1)(hx:autoParam (Loc X.env.scope x) æd._auto_1)(hy:autoParam (Loc X.env.scope y) æd._auto_1)
 (hw:autoParam (HF [.Name x px,.Name y py] e X.env=pure none) æa._auto_1)(h1:autoParam ((GD [.Name x px,.Name y py] X.env).map (·.2)=[HE (.Name x px) X.env,HE (.Name y py) X.env]) æa._auto_1) 
 (hf:autoParam (X.fn x=true\/X.env.scope.names.lookup x=some .local) æe._auto_1)(hf':autoParam (X.fn y=true\/X.env.scope.names.lookup y=some .local) æe._auto_1) :
 Du X rl (.Assign [.Name x px,.Name y py] e pos) (rW i j fa):=by
 obtain⟨t,p,k⟩:=he;refine⟨_,tj p (i4 hN hi hx hf) (i4 hN hj hy hf') hw h1,fun R Dv D ok q=>k R _ _ q fun v w F1 H1 g1 r1 n1 ⟨d,ew,q1⟩=>?_⟩;subst ew;have R1:=R.set g1 r1 n1 (fun xs z=>by cases z) i;exact ok.nx _ _ _ _ g1.fs (R1.set (Grow.refl R1.sub R1.reel) r1 trivial (fun xs z=>by cases z) j) q1
theorem vO(i j:Nat):mS (rW i j fa) ρ=C5 (fa ρ) fun w=>aq (asD w) fun d=>ret (.nx ((ρ.set i (some (.d d))).set j (some (.d d)))):=by
 refine af fun Q=>?_;simp only[mS,rW,C5,ag,du,ret]
end
end L2.VL
namespace L2
open PySem
noncomputable def Up(xs:Array Nat):Prop:=∀i k,i<k->k<xs.size->xs.getD i 0<xs.getD k 0
theorem ze{xs:Array Nat}{a b:Nat}(h:i<xs.size):xs.getD i a=xs.getD i b:=by
 simp[Iy,h]
theorem gK{xs:Array Nat}(hr:Up xs)(j:Nat):∀(f lo hi:Nat),hi-lo<=f->lo<=hi->hi<=xs.size->(∀i,i<lo->xs.getD i 0<j)->(∀i,hi<=i->i<xs.size->j<=xs.getD i 0) ->
 Ic xs j f lo hi<=xs.size/\(∀i,i<Ic xs j f lo hi->xs.getD i 0<j)/\∀i,Ic xs j f lo hi<=i->i<xs.size->j<=xs.getD i 0
 | 0,lo,hi,h1,h2,h3,h4,h5=>by
   have e:lo=hi:=by omega
   subst e
   exact⟨h3,h4,h5⟩
 | f+1,lo,hi,h1,h2,h3,h4,h5=>by
   unfold Ic;by_cases c:lo<hi
   · rw[if_pos c];have hm:(lo+hi) / 2<xs.size:=by omega
     dsimp only;rw[ze (b:=0) hm];by_cases c2:xs.getD ((lo+hi) / 2) 0<j
     · rw[if_pos c2];refine gK hr j f _ hi (by omega) (by omega) h3 (fun i hi'=>?_) h5;rcases G9 i ((lo+hi) / 2)with h|h
       · have:=hr i _ h hm;omega
       · have e:i=(lo+hi) / 2:=by omega
         rw[e];exact c2
     · rw[if_neg c2];refine gK hr j f lo _ (by omega) (by omega) (by omega) h4 (fun i hi' hs=>?_);rcases G9 ((lo+hi) / 2) i with h|h
       · have:=hr _ i h hs;omega
       · have e:i=(lo+hi) / 2:=by omega
         rw[e];omega
   · rw[if_neg c];have e:lo=hi:=by omega
     subst e;exact⟨h3,h4,h5⟩
theorem dq{xs:Array Nat}(hr:Up xs)(j:Nat):Ew xs j<=xs.size/\(∀i,i<Ew xs j->xs.getD i 0<j)/\∀i,Ew xs j<=i->i<xs.size->j<=xs.getD i 0 :=
 gK hr j _ 0 _ (by omega) (by omega) (Ef _) (fun i h=>absurd h (IK _)) fun i h1 h2=>by omega
theorem lg{xs:Array Nat}(hr:Up xs)(hi:i<xs.size):Ew xs (xs.getD i 0+1)=i+1:=by
 obtain⟨h1,h2,h3⟩:=dq hr (xs.getD i 0+1);rcases G9 i (Ew xs (xs.getD i 0+1))with h|h
 · rcases G9 (i+1) (Ew xs (xs.getD i 0+1))with h'|h'
   · have a:=h2 _ h';have b:=hr i (i+1) (by omega) (by omega);omega
   · omega
 · have:=h3 i h hi;omega
theorem lc(xs:Array Nat)(hr:Up xs):Ew xs 0=0:=by
 obtain⟨h1,h2,h3⟩:=dq hr 0;rcases Nat.eq_zero_or_pos (Ew xs 0)with h|h
 · exact h
 · exact absurd (h2 0 h) (IK _)
theorem kr{xs:Array Nat}(h:xs.toList.Pairwise (· < ·)):Up xs:=by
 intro i k ik hk;have hl:xs.toList.length=xs.size:=D8;have:=List.pairwise_iff_getElem.mp h i k (by omega) (by omega) ik;have e:∀n,(hn:n<xs.size)->xs.getD n 0=xs.toList[n]:=fun n hn=>by simp[Iy,hn]
 rw[e i (by omega),e k hk];exact this
theorem gv{xs:Array Nat}(h:i<xs.toList.length):xs.getD i 0=xs.toList[i]:=by
 have h':i<xs.size:=by rw[<- D8];exact h
 simp[Iy,h']
theorem cZ(xs:Array α)(p:Nat)(x:α)(hp:p<=xs.size):(FK xs p x).toList=xs.toList.take p++x::xs.toList.drop p:=by
 unfold FK
 have e:(xs.extract p xs.size).toList=xs.toList.drop p:=by
  rw[KA];simp[List.extract,HV]
 have e2:(xs.extract 0 p).toList=xs.toList.take p:=by
  rw[KA];simp[List.extract]
 rw[Array.toList_append,Jw,e,e2,Jp];rfl
theorem nM{xs:Array Nat}(h:xs.toList.Pairwise (· < ·))(hj:j∉xs.toList):(FK xs (Ew xs j) j).toList.Pairwise (· < ·):=by
 obtain⟨h1,h2,h3⟩:=dq (kr h) j;rw[cZ _ _ _ h1]
 have a:∀x∈xs.toList.take (Ew xs j),x<j:=fun x mx=>by
  obtain⟨i,hi,rfl⟩:=Hu mx;rw[JN]at hi;rw[List.getElem_take,<- gv (by omega)];exact h2 i (by omega)
 have b:∀x∈xs.toList.drop (Ew xs j),j<x:=fun x mx=>by
  obtain⟨i,hi,rfl⟩:=Hu mx;rw[List.length_drop]at hi;have hl:xs.toList.length=xs.size:=D8;have hx:xs.toList[Ew xs j+i]∈xs.toList:=Ho _;rw[List.getElem_drop];have k:=h3 (Ew xs j+i) (by omega) (by omega);rw[gv (by omega)]at k;rcases Nat.lt_or_eq_of_le k with k|k
  · exact k
  · rw[<- k]at hx;exact absurd hx hj
 rw[List.pairwise_append];refine⟨h.sublist (List.take_sublist _ _),HR.mpr ⟨b,h.sublist (List.drop_sublist _ _)⟩,fun x mx y my=>?_⟩;rcases Ev.mp my with rfl|my
 · exact a x mx
 · have:=a x mx;have:=b y my;omega
theorem lY{t:Fo}(h:t.place.toList.Pairwise (· < ·))(hd:t.dummies = #[])(j:Nat):(j∉t.place.toList/\t.slot j = .empty)\/(j∈t.place.toList/\∃i,t.slot j = .live i):=by
 obtain⟨h1,h2,h3⟩:=dq (kr h) j;unfold Fo.slot;dsimp only;by_cases c:t.place[Ew t.place j]?=some j
 · right
   refine⟨?_,_,by rw[c];simp;rfl⟩;rw[<- EZ]at c;exact Iv c
 · left
   refine⟨fun m=>?_,?_⟩
   · obtain⟨i,hi,e⟩:=Hu m;have hl:t.place.toList.length=t.place.size:=D8;rcases G9 i (Ew t.place j)with k|k
     · have:=h2 i k;rw[gv hi,e]at this;omega
     · rcases G9 (Ew t.place j) i with k'|k'
       · have a:=kr h _ i k' (by omega);have b:=h3 (Ew t.place j) (Ef _) (by omega);rw[gv hi,e]at a;omega
       · have e2:Ew t.place j=i:=by omega
         rw[e2,<- EZ,EB hi,e]at c;exact c rfl
   · have b:(t.place[Ew t.place j]?==some j)=false:=by simpa using c
     rw[b,hd];rfl
open PySem
noncomputable def gF:Nat->Nat->Nat
 | 0,x=>x
 | n+1,x=>gF n (5*x+1)
theorem j7:∀(m n x:Nat),gF (m+n) x=gF n (gF m x)
 | 0,n,x=>by rw[Kb];rfl
 | m+1,n,x=>by rw[show m+1+n=(m+n)+1 by omega];exact j7 m n (5*x+1)
theorem fR:∀(n x:Nat),gF n x=x+gF n 0*(4*x+1)
 | 0,x=>by show x=x+0*_;rw[Nat.zero_mul];rfl
 | n+1,x=>by
   show gF n (5*x+1)=x+gF n (5*0+1)*(4*x+1);rw[fR n (5*x+1),fR n (5*0+1)];generalize gF n 0=g;have e:(5*0+1+g*(4*(5*0+1)+1))=1+5*g:=by omega
   rw[e,Nat.add_mul]
   have e2:5*g*(4*x+1)=g*(4*(5*x+1)+1)-0:=by
    rw[Nat.sub_zero,Jc 5 g,Nat.mul_assoc];congr 1;omega
   rw[e2];omega
theorem qU:∀n:Nat,gF n 0%2=n%2
 | 0=>rfl
 | n+1=>by
   have h:=j7 n 1 0;have h2:gF 1 (gF n 0)=5*gF n 0+1:=rfl;have:=qU n;omega
theorem mU{k b a:Nat}(hb:b%2=1)(h:2^k∣a*b):2^k∣a:=by
 refine KP.dvd_of_dvd_mul_right (KP.pow_left k ?_) h;show Nat.gcd 2 b=1;rw[Nat.gcd_rec,hb];rfl
theorem qV:∀(k d:Nat),2^k∣gF d 0->2^k∣d
 | 0,d,_=>by rw[Nat.pow_zero];exact Nat.one_dvd d
 | k+1,d,h=>by
   have p:=qU d;have h2:2∣gF d 0:=Nat.dvd_trans (by rw[HA];exact Nat.dvd_mul_left 2 _) h;obtain⟨m,rfl⟩:2∣d:=by omega
   have e:gF (2*m) 0=2*(gF m 0*(2*gF m 0+1)):=by
    rw[show 2*m=m+m by omega,j7,fR m (gF m 0)];generalize gF m 0=g;rw[LN,LN,LN,Nat.mul_one,Nat.mul_left_comm g 4 g,Nat.mul_left_comm g 2 g];omega
   rw[e,HA,Jc (2^k) 2]at h;have h3:=Nat.dvd_of_mul_dvd_mul_left (by decide) h;have h4:=qV k m (mU (by omega) h3);rw[HA,Jc (2^k) 2];exact Nat.mul_dvd_mul_left 2 h4
theorem xb{k x m:Nat}(hm:m<2^k)(hn:n<2^k)(h:gF m x%2^k=gF n x%2^k):m=n:=by
 have key:∀m n,m<=n->n<2^k->gF m x%2^k=gF n x%2^k->m=n:=by
  intro m n hmn hn h;obtain⟨d,rfl⟩:=HU hmn;rw[j7,fR d (gF m x)]at h;generalize gF m x=y at h
  have h5:2^k∣gF d 0*(4*y+1):=by
   have:=Nat.sub_mod_eq_zero_of_mod_eq h.symm;rw[Nat.add_sub_cancel_left]at this;exact Nat.dvd_of_mod_eq_zero this
  have h6:=qV k d (mU (by omega) h5);have:d=0:=Nat.eq_zero_of_dvd_of_lt h6 (by omega);omega
 rcases Nat.le_total m n with c|c
 · exact key m n c hn h
 · exact(key n m c hm h.symm).symm
theorem xf{k x e:Nat}(he:e<2^k):∃n,n<2^k/\gF n x%2^k=e:=by
 by_cases h:∃n,n<2^k/\gF n x%2^k=e
 · exact h
 · exfalso
   have nd:(e::(ET (2^k)).map fun n=>gF n x%2^k).Nodup:=by
    rw[F_];refine⟨fun m=>?_,?_⟩
    · obtain⟨n,hn,q⟩:=EV.mp m;exact h ⟨n,F7.mp hn,q⟩
    · exact Ib.mpr ((List.nodup_range).imp_of_mem fun{a b} ma mb ne q=>ne (xb (F7.mp ma) (F7.mp mb) q))
   have sub:∀y∈(e::(ET (2^k)).map fun n=>gF n x%2^k),y∈ET (2^k):=fun y my=>by
    rcases Ev.mp my with rfl|my
    · exact F7.mpr he
    · obtain⟨n,hn,rfl⟩:=EV.mp my;exact F7.mpr (Lo _ (Nat.pow_pos (by decide)))
   have:=Fu nd sub;rw[EQ,Eb]at this;omega
noncomputable def CC(mask:Nat):Nat->Nat×Nat->Nat×Nat
 | 0,p=>p
 | c+1,p=>CC mask c (F9 mask p.1 p.2)
theorem ja(mask:Nat):∀(a b:Nat)(p:Nat×Nat),CC mask (a+b) p=CC mask b (CC mask a p)
 | 0,b,p=>by rw[Kb];rfl
 | a+1,b,p=>by rw[show a+1+b=(a+b)+1 by omega];exact ja mask a b _
theorem m6(mask:Nat):∀(c:Nat)(p:Nat×Nat),(CC mask c p).2=p.2 / 32^c
 | 0,p=>by rw[Nat.pow_zero,Nat.div_one];rfl
 | c+1,p=>by
   show(CC mask c _).2=_;rw[m6 mask c];show p.2 / 32 / 32^c=_;rw[Nat.div_div_eq_div_mul,HA,Jc]
theorem m8{mask k:Nat}(hk:mask+1=2^k):∀(c x:Nat),x<2^k->(CC mask c (x,0)).1=gF c x%2^k
 | 0,x,h=>(Nat.mod_eq_of_lt h).symm
 | c+1,x,h=>by
   show(CC mask c (F9 mask x 0)).1=gF c (5*x+1)%2^k
   have e:F9 mask x 0=((5*x+1)%2^k,0):=by
    show((x*5+1+0)%(mask+1),0)=_;rw[hk,Jc x 5]
   rw[e,m8 hk c _ (Lo _ (Nat.pow_pos (by decide)))];rw[fR c ((5*x+1)%2^k),fR c (5*x+1)];generalize 5*x+1=y;generalize gF c 0=g;rw[K0,K1,K0 y,K1 g (4*y+1)];have e3:(4*(y%2^k)+1)%2^k=(4*y+1)%2^k:=by rw[K0,K1,Nat.mod_mod,<- K1,<- K0]
   rw[e3,Nat.mod_mod]
theorem m9{mask k e:Nat}(hk:mask+1=2^k)(he:e<=mask)(p:Nat×Nat)(hp:p.2<2^64):∃c,c<mask+15/\(CC mask c p).1=e:=by
 have z:(CC mask 13 p).2=0:=by
  rw[m6];exact Nat.div_eq_of_lt (D9 hp (by decide))
 have l:(CC mask 13 p).1<2^k:=by
  have e:CC mask 13 p=F9 mask (CC mask 12 p).1 (CC mask 12 p).2:=ja mask 12 1 p;rw[e,<- hk];exact Lo _ (by omega)
 obtain⟨n,hn,q⟩:=xf (k:=k) (x:=(CC mask 13 p).1) (e:=e) (by omega);refine⟨13+n,by omega,?_⟩;rw[ja,show CC mask 13 p=((CC mask 13 p).1,0)from Prod.ext rfl z,m8 hk n _ l];exact q
open PySem
section
variable{t:Fo}{h:Int}
theorem l7(hu:t.place.toList.Pairwise (· < ·))(hd:t.dummies = #[]):∀(m j i q fuel:Nat),
 (∃j',j'∉t.place.toList/\FM t (fun _=>h+1) h (m+1+fuel) ⟨j,m,i,q,none⟩=some (.empty j' none)) \/
 (j∈t.place.toList/\FM t (fun _=>h+1) h (m+1+fuel) ⟨j,m,i,q,none⟩=FM t (fun _=>h+1) h fuel ⟨(F9 t.mask i q).1,FT t.mask (F9 t.mask i q).1-(F9 t.mask i q).1,(F9 t.mask i q).1,(F9 t.mask i q).2,none⟩)
 | m,j,i,q,fuel=>by
   have ne:(h+1==h)=false:=by simp;omega
   rcases lY hu hd j with⟨a,b⟩|⟨a,l,b⟩
   · left
     refine⟨j,a,?_⟩;rw[show m+1+fuel=(m+fuel)+1 by omega];unfold FM;dsimp only;rw[b]
   · cases m with
     | zero =>
       right
       refine⟨a,?_⟩;rw[show 0+1+fuel=fuel+1 by omega]
       conv=>lhs;unfold FM
       dsimp only;rw[b];dsimp only;rw[ne,if_neg EC];unfold Fo.advance;dsimp only
       rw[if_neg (by omega)]
     | succ m =>
       have ih:=l7 hu hd m (j+1) i q fuel
       have st:FM t (fun _=>h+1) h (m+1+1+fuel) ⟨j,m+1,i,q,none⟩=FM t (fun _=>h+1) h (m+1+fuel) ⟨j+1,m,i,q,none⟩:=by
        rw[show m+1+1+fuel=(m+1+fuel)+1 by omega]
        conv=>lhs;unfold FM
        dsimp only;rw[b];dsimp only;rw[ne,if_neg EC];unfold Fo.advance;dsimp only;rw[if_pos (by omega)];rfl
       rw[st];rcases ih with ih|⟨_,ih⟩
       · exact .inl ih
       · exact .inr ⟨a,ih⟩
theorem hG(mask i:Nat):FT mask i-i<=9:=by
 unfold FT;split<;>omega
theorem jK(hu:t.place.toList.Pairwise (· < ·))(hd:t.dummies = #[]):∀(c i q fuel:Nat),10*(c+1)<=fuel->(CC t.mask c (i,q)).1∉t.place.toList ->
 ∃j',j'∉t.place.toList/\FM t (fun _=>h+1) h fuel ⟨i,FT t.mask i-i,i,q,none⟩=some (.empty j' none)
 | 0,i,q,fuel,hf,hn=>by
   have hm:=hG t.mask i;obtain⟨f,rfl⟩:=HU (show FT t.mask i-i+1<=fuel by omega);rcases l7 (h:=h) hu hd (FT t.mask i-i) i i q f with r|⟨a,_⟩
   · exact r
   · exact absurd a hn
 | c+1,i,q,fuel,hf,hn=>by
   have hm:=hG t.mask i;obtain⟨f,rfl⟩:=HU (show FT t.mask i-i+1<=fuel by omega);rcases l7 (h:=h) hu hd (FT t.mask i-i) i i q f with r|⟨_,e⟩
   · exact r
   · rw[e];exact jK hu hd c _ _ f (by omega) hn
end
theorem oE(h:Int):Fp h<2^64:=by unfold Fp;omega
structure Gd (t:Fo) (n:Nat) (led:Bool):Prop where
 pow:∃k,3<=k/\t.mask+1=2^k
 size:t.place.size=n
 up:t.place.toList.Pairwise (· < ·)
 dum:t.dummies = #[]
 room:n*5<t.mask*3
 plain:t.plain=true
 led:t.led=led
theorem Gd.mask7{t:Fo}{led:Bool}(g:Gd t n led):7<=t.mask:=by
 obtain⟨k,k3,e⟩:=g.pow;have:2^3<=2^k:=Ez (by decide) k3;omega
theorem Gd.fits{t:Fo}{led:Bool}(g:Gd t n led):t.fits n=true:=by
 have m7:=g.mask7;have r:=g.room;unfold Ld JI;rw[g.dum,g.size];simp;omega
theorem p7(led:Bool):Gd (.fresh 0 0 led) 0 led:=⟨⟨3,by decide,rfl⟩,rfl,.nil,rfl,(show 0*5<7*3 by decide),rfl,rfl⟩
theorem lX{xs:List Nat}{m:Nat}(hl:xs.length<=m):∃e,e<=m/\e∉xs:=by
 by_cases h:∃e,e<=m/\e∉xs
 · exact h
 · exfalso
   have:(ET (m+1)).length<=xs.length:=Fu List.nodup_range fun y my=>by
    by_cases c:y∈xs
    · exact c
    · exact absurd ⟨y,by have:=F7.mp my;omega,c⟩ h
   rw[Ie]at this;omega
theorem Gd.free{t:Fo}{led:Bool}(g:Gd t n led)(h:Int):∃j,j∉t.place.toList/\t.freeSlot h=some (j,false):=by
 obtain⟨k,k3,ek⟩:=g.pow;have m7:=g.mask7;have r:=g.room;have hl:t.place.toList.length=n:=by rw[D8];exact g.size
 obtain⟨e,he,ne⟩:=lX (xs:=t.place.toList) (m:=t.mask) (by omega);obtain⟨c,hc,q⟩:=m9 ek he (Fp h%(t.mask+1),Fp h) (oE h);obtain⟨j,nj,ej⟩:=jK (h:=h) g.up g.dum c (Fp h%(t.mask+1)) (Fp h) (10*Ii t.mask) (by unfold Ii;omega) (by rw[q];exact ne);refine⟨j,nj,?_⟩;unfold Fo.freeSlot Fo.probe Fo.probeStart;dsimp only;rw[ej];rfl
open PySem
theorem Gd.lay{t:Fo}{led:Bool}(g:Gd t n led)(es:Array (Int×D4))(he:es.size=n)(h:Int)(x:D4) :
 ∃es' t',layNew t es h x=(es',t',false,false)/\t'.mask=t.mask/\t'.place.size=n+1/\t'.place.toList.Pairwise (· < ·)/\t'.dummies = #[]/\t'.plain=true/\t'.led=led:=by
 obtain⟨j,nj,ej⟩:=g.free h;have m7:=g.mask7;have r:=g.room;obtain⟨b1,_,_⟩:=dq (kr g.up) j;have up:=nM g.up nj
 have sz:(FK t.place (Ew t.place j) j).size=n+1:=by
  rw[<- D8,cZ _ _ _ b1,Fh,EQ,<- Nat.add_assoc,<- Fh,Kk,D8,g.size]
 have hd:Fo.has t.dummies j=false:=by rw[g.dum];rfl
 have se:(FK es (Ew t.place j) (h,x)).size=n+1:=by
  rw[<- D8,cZ _ _ _ (by rw[he,<- g.size];exact b1),Fh,EQ,<- Nat.add_assoc,<- Fh,Kk,D8,he]
 have ep:t.put j=({t with place:=FK t.place (Ew t.place j) j,dummies:=t.dummies},Ew t.place j):=by
  unfold Fo.put;dsimp only;rw[hd,if_neg EC]
 have ft:({t with place:=FK t.place (Ew t.place j) j,dummies:=t.dummies}:Fo).fits (n+1)=true:=by
  unfold Ld JI;dsimp only;rw[sz,g.dum];simp;omega
 refine⟨FK es (Ew t.place j) (h,x),{t with place:=FK t.place (Ew t.place j) j,dummies:=t.dummies},?_,rfl,sz,up,g.dum,g.plain,g.led⟩;unfold layNew;rw[ej];dsimp only;rw[ep];dsimp only;rw[se,ft];unfold Fo.orStandIn;rw[ft,if_pos rfl];rfl
theorem jH:∀(f k n:Nat),∃k',k<=k'/\G_ n f (2^k)=2^k'
 | 0,k,n=>⟨k,Ef _,rfl⟩
 | f+1,k,n=>by
   unfold G_;by_cases c:2^k<=n
   · rw[if_pos c,<- HA];obtain⟨k',a,b⟩:=jH f (k+1) n;exact⟨k',by omega,b⟩
   · rw[if_neg c];exact⟨k,Ef _,rfl⟩
theorem l0:∀(f k n:Nat),n<2^(k+f)->n<G_ n f (2^k)
 | 0,k,n,h=>h
 | f+1,k,n,h=>by
   unfold G_;by_cases c:2^k<=n
   · rw[if_pos c,<- HA];exact l0 f (k+1) n (by rw[show k+1+f=k+(f+1) by omega];exact h)
   · rw[if_neg c];omega
theorem qo(h:n<2^60):∃k,3<=k/\Fo.sizeAbove n=2^k/\n<2^k:=by
 obtain⟨k,a,b⟩:=jH 64 3 n;have c:=l0 64 3 n (D9 h (Ez (by decide) (by decide)));exact⟨k,a,b,by rw[<- b];exact c⟩
theorem n8{owner:Array (Option Nat)}{mask:Nat}:∀(f c i q:Nat),c<f->((owner.getD (CC mask c (i,q)).1 (some 0)).isNone=true)->∃j,GA mask owner f i q=some j/\(owner.getD j (some 0)).isNone=true
 | 0,c,i,q,h,_=>absurd h (IK _)
 | f+1,c,i,q,h,hn=>by
   unfold GA
   cases hf:(ET (FT mask i+1-i)).find? fun k=>(owner.getD (i+k) (some 0)).isNone with
   | some k =>
     have:=HQ hf
     exact⟨i+k,by simp[hf],this⟩
   | none =>
     have hno:=HP.mp hf
     cases c with
     | zero =>
       exfalso;refine hno 0 (F7.mpr ?_) hn;unfold FT
       split<;>omega
     | succ c =>
       obtain⟨j,a,b⟩:=n8 f c (F9 mask i q).1 (F9 mask i q).2 (by omega) hn;exact⟨j,by simp[hf];exact a,b⟩
theorem oa{xs:List (Option Nat)}(h:(xs.filterMap id).length<xs.length):∃e,e<xs.length/\xs[e]?=some none:=by
 by_cases c:∃e,e<xs.length/\xs[e]?=some none
 · exact c
 · exfalso
   have all:∀x∈xs,∃v,x=some v:=fun x mx=>by
    obtain⟨i,hi,rfl⟩:=Hu mx
    cases e:xs[i]with
    | some v=>exact⟨v,rfl⟩
    | none=>exact absurd ⟨i,hi,by rw[EB hi,e]⟩ c
   have key:∀ys:List (Option Nat),(∀x∈ys,∃v,x=some v)->(ys.filterMap id).length=ys.length:=by
    intro ys
    induction ys with
    | nil=>intro _;rfl
    | cons y ys ih =>
      intro h;obtain⟨v,rfl⟩:=h y Ee;simp[ih fun x mx=>h x (D7 _ mx)]
   rw[key xs all]at h;omega
theorem qW:∀{xs:List (Option Nat)}{j v:Nat},xs[j]?=some none->((xs.set j (some v)).filterMap id).Perm (v::xs.filterMap id)
 | [],j,v,h=>by cases h
 | x::xs,0,v,h=>by
   have e:x=none:=by simpa using h
   subst e
   exact Ij _
 | x::xs,j+1,v,h=>by
   have ih:=qW (v:=v) (show xs[j]?=some none from h)
   cases x with
   | none=>exact ih
   | some y=>exact(ih.cons y).trans (LW.swap _ _ _)
theorem getD_none:(owner.getD j (some 0)).isNone=true↔owner.toList[j]?=some none:=by
 rw[EZ];by_cases c:j<owner.size
 · have e:owner.getD j (some 0)=owner[j]:=by simp[Iy,c]
   rw[e,E2 c];cases owner[j]<;>simp
 · have e:owner.getD j (some 0)=some 0:=by simp[Iy,c]
   rw[e,FY (by omega)];simp
structure Laid (mask k:Nat) (owner:Array (Option Nat)):Prop where
 size:owner.size=mask+1
 perm:(owner.toList.filterMap id).Perm (ET k)
theorem pN{mask k K:Nat}(h:Laid mask k owner)(hK:mask+1=2^K)(hk:k<=mask)(x:Int) :
 ∃j,GA mask owner (Ii mask) (Fp x%(mask+1)) (Fp x)=some j/\Laid mask (k+1) (owner.setIfInBounds j (some k)):=by
 have hl:owner.toList.length=mask+1:=by rw[D8];exact h.size
 obtain⟨e,he,ee⟩:=oa (xs:=owner.toList) (by rw[h.perm.length_eq,Ie];omega);obtain⟨c,hc,q⟩:=m9 hK (show e<=mask by omega) (Fp x%(mask+1),Fp x) (oE x);obtain⟨j,a,b⟩:=n8 (owner:=owner) (mask:=mask) (Ii mask) c (Fp x%(mask+1)) (Fp x) hc (by rw[q];exact getD_none.mpr ee);refine⟨j,a,by rw[Array.size_setIfInBounds];exact h.size,?_⟩;have hj:=getD_none.mp b;rw[Array.toList_setIfInBounds,List.range_succ];exact(qW hj).trans ((h.perm.cons k).trans (List.perm_append_comm (l₁:=[k]) (l₂:=ET k)))
theorem nq{mask K:Nat}(hK:mask+1=2^K):∀(hs:List Int)(k:Nat)(owner:Array (Option Nat)),Laid mask k owner->k+hs.length<=mask ->
 ∃ owner',(hs.foldl (init:=some (owner,k)) fun acc h=>do
   let (owner,k) <- acc
   let j <- GA mask owner (Ii mask) (Fp h%(mask+1)) (Fp h)
   pure (owner.setIfInBounds j (some k),k+1))=some (owner',k+hs.length)/\Laid mask (k+hs.length) owner'
 | [],k,owner,h,_=>⟨owner,rfl,h⟩
 | x::hs,k,owner,h,hl=>by
   rw[EQ]at hl;obtain⟨j,a,b⟩:=pN h hK (by omega) x;obtain⟨o',c,d⟩:=nq hK hs (k+1) _ b (by omega);refine⟨o',?_,by rw[EQ,show k+(hs.length+1)=k+1+hs.length by omega];exact d⟩;rw[List.foldl_cons,EQ,show k+(hs.length+1)=k+1+hs.length by omega,<- c];congr 1;show(do let j <- GA mask owner _ _ _;pure _)=_;rw[a];rfl
theorem qg{mask K:Nat}(hK:mask+1=2^K)(hs:Array Int)(hl:hs.size<=mask):∃owner,Lp mask hs=some owner/\Laid mask hs.size owner:=by
 have h0:Laid mask 0 (Kl (mask+1) none):=⟨Array.size_replicate,by
  rw[Array.toList_replicate];have:∀n,(E9 n (none:Option Nat)).filterMap id=[]:=fun n=>by induction n<;>simp_all [List.replicate_succ]
  rw[this]
  exact Ij _⟩
 obtain⟨o',a,b⟩:=nq hK hs.toList 0 _ h0 (by rw[D8];omega);rw[D8,Kb]at b;refine⟨o',?_,b⟩;unfold Lp;rw[<- Array.foldl_toList];rw[show(some (Kl (mask+1) none,0):Option (Array (Option Nat)×Nat))=some (Kl (mask+1) none,0)from rfl];refine(congrArg (Option.map (·.1)) a).trans ?_;rfl
theorem pM(h:owner.size=n):((ET n).filterMap fun j=>(owner.getD j none).map (j,·)).map (·.2)=owner.toList.filterMap id:=by
 rw[List.map_filterMap]
 have:owner.toList=(ET n).map fun j=>owner.getD j none:=by
  refine JO (by rw[D8,Eb,Ie,h]) fun i h1 h2=>?_;rw[D8]at h1;rw[List.getElem_map,List.getElem_range];simp[Iy,h1]
 conv=>rhs;rw[this]
 rw[I0];congr 1;funext j;simp only[Function.comp,id];cases owner.getD j none<;>rfl
theorem tS:(((ET n).filterMap fun j=>(owner.getD j none).map (j,·)).map (·.1)).Pairwise (· < ·):=by
 rw[Ib];refine La.filterMap _ (R:=(· < ·)) (fun a a' hab b hb b' hb'=>?_) List.pairwise_lt_range;obtain⟨v,_,rfl⟩:=Fw.mp hb;obtain⟨v',_,rfl⟩:=Fw.mp hb';exact hab
theorem xn(es:Array α):(ET es.size).filterMap (fun i=>es[i]?)=es.toList:=by
 have e:(fun i=>es[i]?)=fun i=>es.toList[i]?:=funext fun i=>EZ.symm;rw[e,<- D8];generalize es.toList=xs
 induction xs with
 | nil=>rfl
 | cons x xs ih =>
   rw[EQ,List.range_succ_eq_map,Gw];simp only[List.getElem?_cons_zero,I0];congr 1
theorem o6{t:Fo}{led:Bool}(hd:t.dummies = #[])(hp:t.plain=true)(hl:t.led=led)(es:Array (Int×D4))(hn:es.size=n)(h1:1<=n)(h2:n<2^40) :
 ∃es' t',relayAll t es (Hm n)=(es',t',false)/\Gd t' n led:=by
 have hw:Hm n<2^60/\2*n<=Hm n:=by unfold Hm;split<;>omega
 generalize Hm n=wn at hw;obtain⟨k,k3,ek,lk⟩:=qo hw.1;have k8:2^3<=2^k:=Ez (by decide) k3;have hm:(2^k-1)+1=2^k:=by omega
 obtain⟨owner,a,b⟩:=qg hm (es.map (·.1)) (by rw[Array.size_map];omega);rw[Array.size_map,hn]at b;have bs:=b.size;generalize hv:(ET (2^k-1+1)).filterMap (fun j=>(owner.getD j none).map (j,·))=live;have l2:live.map (·.2)=owner.toList.filterMap id:=by rw[<- hv];exact pM bs
 have l1:(live.map (·.1)).Pairwise (· < ·):=by rw[<- hv];exact tS
 have ll:live.length=n:=by rw[<- Eb (f:=(·.2)),l2,b.perm.length_eq,Ie]
 have er:t.relaid (es.map (·.1)) wn=some ({mask:=2^k-1,place:=(live.map (·.1)).toArray,dummies:=#[],finger:=t.finger,led:=t.led,moves:=t.movedTo (2^k-1),plain:=t.plain},(live.map (·.2)).toArray):=by
  unfold Fo.relaid Fo.laid;rw[ek,a,<- hv];rfl
 have pm:(live.map (·.2)).Perm (ET n):=by rw[l2];exact b.perm
 have es':((live.map (·.2)).toArray.filterMap (es[·]?)).size=n:=by
  rw[<- D8,Array.toList_filterMap];have:=(pm.filterMap (fun i=>es[i]?)).length_eq;refine this.trans ?_;rw[<- hn,xn,D8]
 have cv:coversAll (live.map (·.2)).toArray es.size=true:=by
  unfold coversAll;rw[hn];exact List.isPerm_iff.mpr pm
 refine⟨(live.map (·.2)).toArray.filterMap (es[·]?),{mask:=2^k-1,place:=(live.map (·.1)).toArray,dummies:=#[],finger:=t.finger,led:=t.led,moves:=t.movedTo (2^k-1),plain:=t.plain},?_,⟨k,k3,hm⟩,(by show(live.map (·.1)).toArray.size=n;rw[Ej,Eb];exact ll),l1,rfl,(by show n*5<(2^k-1)*3;omega),hp,hl⟩;unfold relayAll;rw[er];dsimp only;rw[cv,es']
 have ft:({mask:=2^k-1,place:=(live.map (·.1)).toArray,dummies:=#[],finger:=t.finger,led:=t.led,moves:=t.movedTo (2^k-1),plain:=t.plain}:Fo).fits n=true:=by
  unfold Ld JI;dsimp only;rw[Ej,Eb,ll];simp;omega
 rw[ft];rfl
noncomputable def iv:D4->Int
 | .int n _=>n
 | _=>0
noncomputable def dX(w:EK):Bool:=!w.params.followText "set-order"
noncomputable def C4(l:List (Int×D4)):Prop:=∀e∈l,∃n t,e=(LB n,.int n t)
structure SetI (w:EK) (h:Heap) (a:Addr) (ks:List Int) (o:Obj) (es:Array (Int×D4)) (ep:Nat) (t:Fo):Prop where
 at_:h.get? a=some o
 ex:o.ExactSet
 dat:o.data = .set es ep t
 el:C4 es.toList
 ks:(es.toList.map fun e=>iv e.2).Perm ks
 gd:Gd t es.size (dX w)
 sm:es.size<4000
theorem C4.of{l:List (Int×D4)}(h:C4 l):ElemsOf (GX P w) l:=fun e m=>by
 obtain⟨n,t,rfl⟩:=h e m;exact⟨⟨n,by simp[GX,Iz],rfl⟩,rfl⟩
section
variable{P:Ei}{w:EK}{A:EH}{E:D4->D6->Prop}{s:D6}{a:Addr}{ks:List Int}{o:Obj}{es:Array (Int×D4)}{ep:Nat}{t:Fo}
theorem SetI.len(h:SetI w s.heap a ks o es ep t):es.size=ks.length:=by rw[<- h.ks.length_eq,Eb,D8]
theorem jG{es':Array (Int×D4)}{t':Fo}(H:s.heap.get? a=some o)(ex:o.ExactSet)(hd:o.data = .set es ep t) :
 (s.heap.update a (Ku es' t')).get? a=some {o with data:=.set es' (ep+1) t' }:=by
 have u:=ES (Ku es' t') H (by rw[putSet_of es' t' hd];rfl);rw[putSet_of es' t' hd]at u;exact u
theorem vK{k:Int}{tk:Tok}{Q:Bool->D6->Prop}(hS:SetI w s.heap a ks o es ep t)(hb:ks.length<3000)
 (h:∀h' o' es' ep' t',GV a s.heap h'->SetI w h' a (if k∈ks then ks else ks++[k]) o' es' ep' t'->Q (!decide (k∈ks)) {s with heap:=h' }) :
 Es (EJ P w) A (setAddHashed a (.int k tk) (LB k)) Q E s:=by
 have hl:=hS.len;obtain⟨H,ex,hd,el,hk,gd,sm⟩:=id hS;have hf:=gd.fits;have E1:ElemsOf (GX P w) es.toList:=el.of;have is1:(GX P w).is k (.int k tk)=true:=by simp[GX,Iz]
 have mem:∀e∈es.toList,((GX P w).is k e.2=true↔iv e.2=k):=fun e m=>by
  obtain⟨n,u,rfl⟩:=el e m;simp[GX,Iz,iv]
 unfold setAddHashed;unfold setAddHashedIn;refine Fg ?_;refine D1 (Ig H hd hf ?_);dsimp only;rw[byScan_of rfl (by unfold scanBound;omega) E1,if_pos rfl];unfold setAddByScan;refine D1 (D1 (wpAny_rule (D1 ?_)));refine wpAny_setScan_of (knd:=GX P w) (k:=k) is1 H hd hf E1 ?_
 cases hr:es.toList.findIdx? (fun e=>(GX P w).is k e.2)with
 | some j =>
   obtain⟨hj,pj,_⟩:=List.findIdx?_eq_some_iff_getElem.mp hr;have mk:k∈ks:=hk.mem_iff.mp (EV.mpr ⟨_,Ho hj,(mem _ (Ho hj)).mp pj⟩);have hh:=h s.heap o es ep t (Jr a s.heap) (by rw[if_pos mk];exact hS);rw[decide_eq_true mk]at hh
   dsimp only;exact D5 (D5 hh)
 | none =>
   have mk:k∉ks:=fun m=>by
    obtain⟨e,me,q⟩:=EV.mp (hk.mem_iff.mpr m);have:=List.findIdx?_eq_none_iff.mp hr e me;rw[(mem e me).mpr q]at this;cases this
   obtain⟨e1,t1,eL,m1,z1,u1,d1,p1,l1⟩:=gd.lay es rfl (LB k) (.int k tk);have pm:=layNew_perm t es (LB k) (.int k tk);rw[eL,Jw]at pm;have pm:e1.toList.Perm (es.toList++[(LB k,.int k tk)]):=pm;have s1:e1.size=es.size+1:=by rw[<- D8,pm.length_eq,Fh,D8];rfl
   have el1:C4 e1.toList:=fun e m=>by
    rcases G5.mp (pm.mem_iff.mp m)with m|m
    · exact el e m
    · exact⟨k,tk,Gf.mp m⟩
   have k1:(e1.toList.map fun e=>iv e.2).Perm (ks++[k]):=by
    refine(pm.map _).trans ?_;rw[G8];exact hk.append_right _
   have zl:e1.size<=sizeLine:=by rw[KI];omega
   have g1:=jG (es':=e1) (t':=t1) H ex hd;have sb:=F0 s.heap a (Ku e1 t1);dsimp only;rw[eL];dsimp only;refine D1 (D5 ?_);rw[p1,if_pos rfl];refine D1 ?_;rw[show hashByValue 8 (.int k tk)=pure true from rfl];refine D5 ?_;rw[if_pos rfl];refine D1 (wpAny_storeSet_of H hd ?_ zl)
   cases hT:t1.tooFull with
   | false =>
     rw[show(!false&&false)=false from rfl,if_neg EC];refine D5 (D5 ?_);have m7:=gd.mask7
     have room:(es.size+1)*5<t1.mask*3:=by
      unfold Fo.tooFull JI at hT;rw[z1,d1]at hT;have:=of_decide_eq_false hT;simp at this;omega
     have hh:=h _ _ _ _ _ sb (by rw[if_neg mk];exact⟨g1,ex,rfl,el1,k1,⟨by rw[m1];exact gd.pow,by rw[s1];exact z1,u1,d1,by rw[s1];exact room,p1,l1⟩,by omega⟩);rw[decide_eq_false mk]at hh
     exact hh
   | true =>
     rw[show(!false&&true)=true from rfl,if_pos rfl];obtain⟨e2,t2,eR,gd2⟩:=o6 d1 p1 l1 e1 rfl (by omega) (by omega);have pr:=relayAll_perm t1 e1 (Hm e1.size);rw[eR]at pr;have pr:e2.toList.Perm e1.toList:=pr;have s2:e2.size=e1.size:=by rw[<- D8,pr.length_eq,D8]
     rw[eR];dsimp only;refine D1 (D5 ?_);refine D1 (wpAny_storeSet_of g1 rfl ?_ (by rw[s2];exact zl));refine D5 (D5 ?_);have g2:=jG (s:={s with heap:=s.heap.update a (Ku e1 t1)}) (es':=e2) (t':=t2) g1 ex rfl;have hh:=h _ _ _ _ _ (sb.trans (F0 _ a (Ku e2 t2))) (by rw[if_neg mk];exact⟨g2,ex,rfl,fun e m=>el1 e (pr.mem_iff.mp m),(pr.map _).trans k1,by rw[s2];exact gd2,by omega⟩);rw[decide_eq_false mk]at hh;exact hh
end
noncomputable def met:List Int->List Int->List Int
 | ks,[]=>ks
 | ks,n::ns=>met (if n∈ks then ks else ks++[n]) ns
theorem mW:∀(ns ks:List Int),(met ks ns).length<=ks.length+ns.length
 | [],ks=>Ef _
 | n::ns,ks=>by
   have:=mW ns (if n∈ks then ks else ks++[n]);have e:(if n∈ks then ks else ks++[n]).length<=ks.length+1:=by split<;>simp
   show(met _ ns).length<=ks.length+(ns.length+1);omega
theorem mV{x:Int}:∀(ns ks:List Int),x∈met ks ns↔x∈ks\/x∈ns
 | [],ks=>by simp[met]
 | n::ns,ks=>by
   show x∈met _ ns↔_;rw[mV ns,Ev];by_cases c:n∈ks
   · rw[if_pos c];constructor
     · rintro(h|h)
       · exact .inl h
       · exact .inr (.inr h)
     · rintro(h|rfl|h)
       · exact .inl h
       · exact .inl c
       · exact .inr h
   · rw[if_neg c,G5,Gf,or_assoc]
theorem qN:∀(ns ks:List Int),ks.Nodup->(met ks ns).Nodup
 | [],ks,h=>h
 | n::ns,ks,h=>by
   refine qN ns _ ?_;by_cases c:n∈ks
   · rw[if_pos c];exact h
   · rw[if_neg c];refine Jt.mpr ⟨h,F_.mpr ⟨FE,GZ⟩,fun a ma b mb e=>?_⟩;rw[Gf.mp mb]at e;exact c (e▸ma)
section
variable{P:Ei}{w:EK}{A:EH}{R:Lu->D6->Prop}{I S:Addr}{fp wr:List Addr}{n:Nat}{Pv:Nat->D4->Prop}{St:Nat->Heap->Prop}
noncomputable def lh(w:EK)(h:Heap)(a:Addr)(ks:List Int):Prop:=∃o es ep t,SetI w h a ks o es ep t
theorem lh.keep{ks:List Int}(x:lh w h a ks)(k:∀o,h.get? a=some o->h'.get? a=some o):lh w h' a ks :=
 let ⟨o,es,ep,t,H⟩:=x;⟨o,es,ep,t,{H with at_:=k o H.at_}⟩
theorem sC(W:Walks P w A.in1 I fp wr n Pv St)(hS:S∉fp)(ns:List Int)(hn:ns.length=n)(hv:∀i v,Pv i v->∃t,v = .int (ns.getD i 0) t)(hb:n<2000) :
 ∀ (k i:Nat)(s:D6)(ks:List Int),n-i=k->i<=n->St i s.heap->ks.length<=i->lh w s.heap S ks ->
   (∀s':D6,s'.gens=s.gens->s'.drawn=s.drawn->s'.os=s.os->(∀b o,b∉S::wr->s.heap.get? b=some o->s'.heap.get? b=some o)->lh w s'.heap S (met ks (ns.drop i))->R (.ok (.ret .none)) s') ->
   Hf (EJ P w) A (.builtin "set.update.loop" ⟨[.ref S,.ref I],[]⟩) R s:=by
 have hw:S∉wr:=fun h=>hS (W.sub _ h);intro k
 induction k with
 | zero =>
   intro i s ks hk hi st lk hs hR;have e:i=n:=by omega
   subst e;refine G7 F.entry_set_update_loop ?_;rw[GL F.plain_set_update_loop _];show Es _ A.in1 (IB (.ref I) >>= _) _ _ s;refine D1 (W.done s _ _ st fun h' tk hk'=>?_);show Es _ A.in1 (ret Fi) _ _ _;refine D5 (hR {s with heap:=h',toks:=tk} rfl rfl rfl (fun b o hb e=>hk' b o (fun m=>hb (D7 _ m)) e) ?_);rw[List.drop_of_length_le (by omega)]
   exact hs.keep fun o e=>hk' S o hw e
 | succ k ih =>
   intro i s ks hk hi st lk hs hR;have lt:i<n:=by omega
   refine G7 F.entry_set_update_loop ?_;rw[GL F.plain_set_update_loop _];show Es _ A.in1 (IB (.ref I) >>= _) _ _ s;refine D1 (W.item i s _ _ lt st fun v h' tk pv st' hk'=>?_);obtain⟨t,rfl⟩:=hv i v pv
   have ed:ns.drop i=ns.getD i 0::ns.drop (i+1):=by
    rw[F8 (by omega)];congr 1;rw[List.getD_eq_getElem?_getD,EB (by omega)];rfl
   generalize ns.getD i 0=x at ed;have hs':lh w h' S ks:=hs.keep fun o e=>hk' S o hw e;obtain⟨o,es,ep,tb,hI⟩:=hs';show Es _ A.in1 (Li [IA x t] (setAdd S (.int x t)) >>= _) _ _ _;refine D1 (Fg ?_);unfold setAdd;refine Fg ?_;refine D1 ((GX P w).pyHash (k:=x) (intKind_is _ _ _ _) ?_);refine vK (s:={s with heap:=h',toks:=tk+1}) hI (by omega) fun h2 o2 es2 ep2 t2 sb hI2=>?_
   refine D5 ⟨HN F.plain_set_update_loop _,ih (i+1) _ _ (by omega) lt (W.frame _ _ _ st' fun b hb o e=>?_) (by
    split
    · omega
    · rw[Fh,J7];omega) ⟨o2,es2,ep2,t2,hI2⟩ fun s' a b c d e=>hR s' a b c (fun b' o' hb' e'=>d b' o' hb' ?_) ?_⟩
   · rw[sb.2 b fun h:b=S=>hS (h▸hb)];exact e
   · show h2.get? b'=some o';rw[sb.2 b' fun h:b'=S=>hb' (h▸Ee)];exact hk' b' o' (fun m=>hb' (D7 _ m)) e'
   · rw[ed];exact e
end
section
variable{P:Ei}{w:EK}{A:EH}{E:D4->D6->Prop}{s:D6}
theorem pF(a:D4)
 (h:Q (.ref s.heap.objs.size) {s with heap:=s.heap.push {cls:=.type "set", dict:=none,data:=.set #[] 0 (.fresh 0 0 (dX w))}}) :
 Hf (EJ P w) A (.call (.builtin "set.__new__") ⟨[.type "set", a],[]⟩) (wants Q E) s:=by
 refine Kf ?_
 show Es _ A.in1 (do
  checkBuiltinCall "set.__new__" ⟨[.type "set", a],[]⟩
  again (.builtin "set.__new__" ⟨[.type "set", a],[]⟩)) _ _ s
 refine D1 (KR (F.newCall_set_1 a) (D5 ⟨HN F.plain_set_new _,G7 F.entry_set_new ?_⟩));rw[GL F.plain_set_new _];unfold Builtin.«set.__new__»;unfold Builtin.Frozenset.newClass;have sub:=sub_set_self;obtain⟨hp,g,d,tk,os⟩:=s;dsimp only
 wp_walk
 refine Hs (D5 ?_);dsimp only;simp only[newObj];exact D1 (wpAny_alloc (D5 (D5 h)))
theorem ue:lh w (h.push {cls:=.type "set", dict:=none,data:=.set #[] 0 (.fresh 0 0 (dX w))}) h.objs.size [] :=
 ⟨_,#[],0,_,Eg _ rfl,⟨rfl,rfl,rfl⟩,rfl,fun e m=>(by cases m),Ij _,p7 _,by decide⟩
theorem oA{l:Addr}{vs:List D4}(hh:A.handled=none)(hl:s.heap.IsList l vs.toArray)(hi:GP vs ns)(hb:ns.length<2000)
 (h:∀h' tk,lh w h' s.heap.objs.size (met [] ns)->(∀b o,s.heap.get? b=some o->h'.get? b=some o)->Q (.ref s.heap.objs.size) {s with heap:=h',toks:=tk}) :
 Es (EJ P w) A (call (.type "set") [.ref l]) Q E s:=by
 obtain⟨c,tl,mro⟩:=F.called_set.mro;have made:=F.called_set.made;have sub:=F.called_set.sub;have lvs:vs.length=ns.length:=GP.length hi;refine Lj (Kf ?_);show Es _ _ (callAny (.type "set") _) _ _ _;refine D5 ⟨Ja _ (by decide +kernel),G7 F.entry_type_call ?_⟩;rw[EH.under_plain (weight_type_call_type "set" [.ref l] []) rfl];have h1:=F.called_set.notType;have h2:=F.called_set.canCreate;have ct:=F.typeCall_set_1 (.ref l)
 repeat (any_goals (first|assumption|wp_step))
 refine Hy (pF (.ref l) (E:=E) (Q:=fun obj s1=>obj = .ref s.heap.objs.size/\s1={s with heap:=s.heap.push {cls:=.type "set", dict:=none,data:=.set #[] 0 (.fresh 0 0 (dX w))}}) ⟨rfl,rfl⟩) fun r s1 hr=>?_
 cases r with
 | error e=>exact hr
 | ok fl =>
   cases fl with
   | ret obj =>
     obtain⟨rfl,rfl⟩:=hr;have HS:=ue (w:=w) (h:=s.heap);have gS:(s.heap.push {cls:=.type "set", dict:=none,data:=.set #[] 0 (.fresh 0 0 (dX w))}).get? s.heap.objs.size=some {cls:=.type "set", dict:=none,data:=.set #[] 0 (.fresh 0 0 (dX w))}:=Eg _ rfl;have ty:D6.TypeIs {s with heap:=s.heap.push {cls:=.type "set", dict:=none,data:=.set #[] 0 (.fresh 0 0 (dX w))}} (.ref s.heap.objs.size) "set" := ⟨_,gS,rfl⟩;have li:=F.called_set.init.lookup;have bi:=F.called_set.init.bind (.ref s.heap.objs.size)
     repeat (any_goals (first|assumption|wp_step))
     refine Hy (Kz (R:=wants (fun r s2=>r = .none/\∃h' tk,s2={s with heap:=h',toks:=tk}/\lh w h' s.heap.objs.size (met [] ns)/\(∀b o,s.heap.get? b=some o->h'.get? b=some o)) E)
      F.called_set.init.plain F.entry_set_init (check_set_init_1 ty ?_)) fun r2 s2 hr2=>?_
     · have hl1:(s.heap.push {cls:=.type "set", dict:=none,data:=.set #[] 0 (.fresh 0 0 (dX w))}).IsList l vs.toArray:=hl.push _;obtain⟨ol,gol,cl,nl,dl⟩:=hl;have tl1:D6.TypeIs {s with heap:=s.heap.push {cls:=.type "set", dict:=none,data:=.set #[] 0 (.fresh 0 0 (dX w))}} (.ref l) "list" := ⟨ol,D3 _ gol,cl⟩;have ls:=F.sub_list_set;have lf:=F.sub_list_frozenset;have ne:(Lg "list" == Lg "dict")=false:=by decide
       have llt:l<s.heap.objs.size:=D_ gol;unfold Builtin.«set.__init__»;unfold noKeywords;unfold Builtin.Frozenset.updateFrom;generalize hPI:pyIter=PI
       wp_walk
       subst hPI;refine GO hl1 ?_;refine D1 (wpAny_runValue ?_);have h3:A.in1.in1.in1.handled=none:=by simp[hh]
       have nI:l≠(s.heap.push {cls:=.type "set", dict:=none,data:=.set #[] 0 (.fresh 0 0 (dX w))}).objs.size:=by
        rw[GG];exact Ey (He llt)
       have nS:s.heap.objs.size∉[(s.heap.push {cls:=.type "set", dict:=none,data:=.set #[] 0 (.fresh 0 0 (dX w))}).objs.size,l]:=by
        rw[GG];simp only[Ev,FE,or_false,not_or];exact⟨Ey (Hq _),Hv llt⟩
       have ev:∀(i:Nat)(v:D4),vs.toArray[i]?=some v->∃t,v = .int (ns.getD i 0) t:=fun i v hv=>GP.int_at hi i v (by rw[<- EZ]at hv;exact hv)
       refine sC (Ln h3 _ l nI vs.toArray) nS ns (by rw[Ej];exact lvs.symm) ev (by rw[Ej];omega) _ 0 _ [] rfl (Gg _)
        ⟨⟨_,Eg _ rfl,rfl,rfl⟩,(hl1.push _)⟩ (Ef _) (HS.keep fun o e=>D3 _ e) fun s' a b c d e=>?_
       obtain⟨h',g',d',tk',os'⟩:=s';have a:g'=s.gens:=a;have b:d'=s.drawn:=b;have c:os'=s.os:=c;subst a;subst b;subst c;show Es _ _ _ _ _ _;refine D5 ?_;show Es _ _ (ret Fi) _ _ _;refine D5 ⟨rfl,h',tk',rfl,e,fun b o hb=>?_⟩;have lb:=D_ hb;refine d b o (fun m=>?_) (D3 _ (D3 _ hb));rw[GG]at m;simp only[Ev,FE,or_false]at m;rcases m with rfl|rfl
       · exact FB _ lb
       · exact absurd lb (Nat.not_lt.mpr (KZ _))
     · cases r2 with
       | error e=>exact hr2
       | ok fl2 =>
         cases fl2 with
         | ret r =>
           obtain⟨rfl,h',tk,rfl,hS',hk'⟩:=hr2
           repeat (any_goals (first|assumption|wp_step))
           exact h _ _ hS' hk'
         | _=>exact hr2.elim
   | _=>exact hr.elim
end
theorem bU:Slot "set_iterator" "__next__" "set_iterator.__next__" :=
 .of (owner := "set_iterator") (n := "__next__") (by rw[typeLookup_type,Km];kernel_rfl) (by decide +kernel) (by decide +kernel) (by decide +kernel) (.inl (by decide +kernel)) (by rw[Ji];kernel_rfl)
theorem dk:entryFor table "set_iterator.__next__" = some Builtin.«set_iterator.__next__»:=entryFor_of_tree (by kernel_rfl)
set_option maxRecDepth 1000000 in
theorem iB:entryFor table "set.__iter__" = some Builtin.«frozenset.__iter__»:=entryFor_alias (id' := "frozenset.__iter__") (by kernel_rfl) rfl (by decide +kernel) (by kernel_rfl)
theorem dN:Slot "set_iterator" "__iter__" "set_iterator.__iter__" :=
 .of (owner := "set_iterator") (n := "__iter__") (by rw[typeLookup_type,Km];kernel_rfl) (by decide +kernel) (by decide +kernel) (by decide +kernel) (.inl (by decide +kernel)) (by rw[Ji];kernel_rfl)
theorem qJ:Manifest.owners.lookup (String.ofList ['r','o','t','a','r','e','t','i','_','t','e','s'].reverse)=some Manifest.sig_set_iterator:=by kernel_rfl
theorem dW(a:D4):argsOk "set_iterator.__next__" ⟨[a],[]⟩:=by
 unfold argsOk;rw[signature?_of (id := "set_iterator.__next__") (n:=['_','_','t','x','e','n','_','_']) (o:=['r','o','t','a','r','e','t','i','_','t','e','s']) (by kernel_rfl) qJ];kernel_rfl
theorem iJ(a:D4):argsOk "set_iterator.__iter__" ⟨[a],[]⟩:=by
 unfold argsOk;rw[signature?_of (id := "set_iterator.__iter__") (n:=['_','_','r','e','t','i','_','_']) (o:=['r','o','t','a','r','e','t','i','_','t','e','s']) (by kernel_rfl) qJ];kernel_rfl
theorem gE:entryFor table "set_iterator.__iter__" = some Builtin.«dict_keyiterator.__iter__»:=entryFor_alias (id' := "dict_keyiterator.__iter__") (by kernel_rfl) rfl (by decide +kernel) (by kernel_rfl)
noncomputable def xG(h:Heap)(it a:Addr)(slot i n ep:Nat):Prop:=∃o,h.get? it=some o/\o.cls = .type "set_iterator" /\ o.data = .fields #[.int slot 0,.int i 0,.ref a,.int n 0,.int ep 0]
theorem xG.ty{slot ep:Nat}(x:xG s.heap it a slot i n ep):s.TypeIs (.ref it) "set_iterator" := let ⟨o,e,c,_⟩:=x;⟨o,e,c⟩
section
variable{P:Ei}{w:EK}{A:EH}{E:D4->D6->Prop}{s:D6}{a it:Addr}{ks:List Int}{o:Obj}{es:Array (Int×D4)}{ep:Nat}{t:Fo}{i slot:Nat}
theorem SetI.ty(x:SetI w s.heap a ks o es ep t):s.TypeIs (.ref a) "set" := ⟨o,x.at_,x.ex.1⟩
theorem sD(x:SetI w s.heap a ks o es ep t)
 (z:Q (.ref s.heap.objs.size) {s with heap:=s.heap.push {cls:=.type "set_iterator", data:=.fields #[.int 0 0,.int 0 0,.ref a,.int es.size 0,.int ep 0]}}):Es (EJ P w) A (pyIter (.ref a)) Q E s:=by
 have hf:=x.gd.fits;refine Ju x.ty F.slot_set_iter (FC F.slot_set_iter x.ty iB ?_ (F.args_set_iter_1 _));unfold Builtin.«frozenset.__iter__»;unfold Builtin.Frozenset.slot0;unfold slotArgs;simp only[Iq,Hd,FQ,↓reduceIte,bind_assoc,Gy,bne_self_eq_false];unfold Builtin.Frozenset.addrOf;refine D1 (D5 ?_);dsimp only;refine D1 (D5 ?_);unfold Builtin.Frozenset.sizeOf;refine D1 (D1 (IL x.at_ x.dat hf (D5 ?_)));unfold setDrawn;unfold setsByText;refine D1 (D1 (Ig x.at_ x.dat hf ?_));dsimp only;refine D1 (D1 (Hs (D5 ?_)));show Es _ _ (pure (!w.params.followText "set-order" && (!t.plain&&decide (es.size>1)))) _ _ _;rw[x.gd.plain,Hd,Je,Bool.and_false];refine D5 ?_;rw[if_neg EC];refine D1 (D5 (D1 (wpAny_setEpoch_of x.at_ x.dat hf ?_)));unfold newFields;refine D1 (EN (D5 ⟨_,rfl, "set_iterator", _,⟨_,Eg _ rfl,rfl⟩,bU.lookup,?_⟩));exact z
noncomputable def iM(w:EK)(a:Addr)(es:Array (Int×D4))(ep:Nat):Array (Int×D4):=if w.params.followText "set-order" = true then pickOrder (w.params.setOrder a ep) es else es
noncomputable def uI(w:EK)(t:Fo)(slot i:Nat):Prop:=w.params.followText "set-order" = true\/Ew t.place slot=i
theorem l4{Q:Option (D4×Nat)->D6->Prop}(x:SetI w s.heap a ks o es ep t)(hs:uI w t slot i)
 (z:∀r:Option (D4×Nat),r.map (·.1)=((iM w a es ep)[i]?).map (·.2)->(∀v n,r=some (v,n)->uI w t n (i+1))->Q r s):Es (EJ P w) A (setNext a slot i ep) Q E s:=by
 have hf:=x.gd.fits;unfold setNext;unfold setsByText;refine D1 (Ig x.at_ x.dat hf ?_);dsimp only;refine D1 (D1 (Hs (D5 ?_)));show Es _ _ (if w.params.followText "set-order" = true then _ else _) _ _ _;by_cases c:w.params.followText "set-order" = true
 · rw[if_pos c,if_neg (by simp)];unfold setWalk;unfold setsByText;refine D1 (D1 (Ig x.at_ x.dat hf ?_));dsimp only;refine D1 (D1 (Hs (D5 ?_)));show Es _ _ (if w.params.followText "set-order" = true then _ else _) _ _ _;rw[if_pos c];refine D1 (Hs (D5 (D5 ?_)));refine z _ ?_ fun v n _=>.inl c;unfold iM;rw[if_pos c,Jl];rfl
 · rw[if_neg c];have hb:Ew t.place slot=i:=hs.resolve_left c;have hl:t.led=true:=by rw[x.gd.led];unfold dX;simpa using c
   show Es _ _ (if(!t.plain&&decide (es.size>1))=true then _ else _) _ _ _;rw[x.gd.plain,Hd,Je,if_neg EC];refine D1 ?_;show Es _ _ (if(!t.led && !es.isEmpty)=true then _ else pure ()) _ _ _;rw[hl,Hd,Je,if_neg EC];refine D5 (D5 ?_);rw[hb];have ho:iM w a es ep=es:=if_neg c;rcases G9 i es.size with k|k
   · have kp:i<t.place.size:=by rw[x.gd.size];exact k
     rw[E2 k,E2 kp];refine z _ (by rw[ho,E2 k];rfl) fun v n e=>.inr ?_;have e:some (es[i].2,t.place[i]+1)=some (v,n):=e;have en:n=t.place[i]+1:=(Prod.ext_iff.mp (EL e)).2.symm;rw[en,show t.place[i]=t.place.getD i 0 by simp[Iy,kp]];exact lg (kr x.gd.up) kp
   · rw[FY k];exact z none (by rw[ho,FY k];rfl) fun v n e=>(by cases e)
theorem sE(hit:xG s.heap it a slot i n ep)(x:SetI w s.heap a ks o es ep t)(hn:n=es.size)(hs:uI w t slot i){Q:Option D4->D6->Prop}{v:D4}(hv:((iM w a es ep)[i]?).map (·.2)=some v)
 (z:∀h' slot',xG h' it a slot' (i+1) n ep->uI w t slot' (i+1)->GV it s.heap h'->Q (some v) {s with heap:=h' }):Es (EJ P w) A (IB (.ref it)) Q E s:=by
 obtain⟨ob,o1,o2,o3⟩:=id hit;have hf:=x.gd.fits;unfold IB;refine D1 (JH (FR (name:=Ft "__next__") hit.ty bU (FC bU hit.ty dk ?_ (dW _))));unfold Builtin.«set_iterator.__next__»;unfold slotArgs;simp only[Iq,Hd,FQ,↓reduceIte,bind_assoc,Gy,bne_self_eq_false];refine D1 (D5 ?_);dsimp only;refine D1 (Hl o1 o3 ?_);dsimp only;refine D1 (IL x.at_ x.dat hf ?_);rw[if_neg (by rw[hn];simp)];rw[Fm,Fm,Fm];refine D1 (l4 x hs fun r hr nx=>?_);rw[hv]at hr;obtain⟨⟨v',sl⟩,rfl,e⟩:=Fw.mp hr;have e:v'=v:=e;subst e;have sl':=nx _ _ rfl;dsimp only;refine D1 (GH o1 o3 (by simp) ?_);have g1:=ES (FS (·.setIfInBounds 0 (Hw (sl:Int)))) o1 (FJ (E_ o3 _));have d1:=E_ o3 (·.setIfInBounds 0 (Hw (sl:Int)));refine D1 (GH (s:={s with heap:=_}) g1 d1 (by simp) ?_);have g2:=ES (FS (·.setIfInBounds 1 (Hw ((i:Int)+1)))) g1 (FJ (E_ d1 _));have d2:=E_ d1 (·.setIfInBounds 1 (Hw ((i:Int)+1)));refine D5 ⟨_,rfl,D5 (z _ sl ⟨_,g2,?_,?_⟩ sl' ((F0 ..).trans (F0 ..)))⟩
 · rw[H_,H_];exact o2
 · rw[d2];simp[Hw]
theorem sG(hh:A.handled=none)(hit:xG s.heap it a slot i n ep)(x:SetI w s.heap a ks o es ep t)(hn:n=es.size)(hs:uI w t slot i){Q:Option D4->D6->Prop}(hv:(iM w a es ep)[i]?=none)
 (z:∀h',Heap.ExtBut it s.heap h'->Q none {s with heap:=h' }):Es (EJ P w) A (IB (.ref it)) Q E s:=by
 obtain⟨ob,o1,o2,o3⟩:=id hit;have hf:=x.gd.fits;unfold IB;refine D1 (JH (FR (name:=Ft "__next__") hit.ty bU (FC bU hit.ty dk ?_ (dW _))));unfold Builtin.«set_iterator.__next__»;unfold slotArgs;simp only[Iq,Hd,FQ,↓reduceIte,bind_assoc,Gy,bne_self_eq_false];refine D1 (D5 ?_);dsimp only;refine D1 (Hl o1 o3 ?_);dsimp only;refine D1 (IL x.at_ x.dat hf ?_);rw[if_neg (by rw[hn];simp)];rw[Fm,Fm,Fm];refine D1 (l4 x hs fun r hr nx=>?_);rw[hv]at hr
 cases r with
 | some y=>cases hr
 | none =>
   dsimp only;refine D1 (GH o1 o3 (by simp) ?_);show Es _ _ (newExc (.type "StopIteration") [] >>= _) _ _ _;refine D1 ?_;simp only[newExc,newTuple];refine D1 (EN (D1 (m:=Jk _ _) (KR (a:=Fi) (by first|rfl|(simp only[Jk];rfl)) (EN ?_ (by size_fits)))) (by size_fits));simp only[raiseNew];refine D1 (wpAny_handled ?_);rw[show A.in1.handled=none from hh];refine D1 (D5 (wpAny_throw ?_));refine D1 (JR (T := "StopIteration") (b:=true) ⟨_,Eg _ rfl,rfl⟩ isSubtype_stop ?_);exact D5 (z _ (((F0 ..).extBut.push _).push _))
theorem mP:(iM w a es ep).size=es.size/\(iM w a es ep).toList.Perm es.toList:=by
 have key:∀(f k:Nat)(next:Nat->Nat)(l:List (Int×D4))(out:Array (Int×D4)),l.length=f->(Lx next f k l out).toList.Perm (out.toList++l):=by
  intro f
  induction f with
  | zero =>
    intro k next l out e
    have:l=[]:=List.length_eq_zero_iff.mp e;subst this;unfold Lx
    rw[FO]
  | succ f ih =>
    intro k next l out e
    unfold Lx;have lt:next k%l.length<l.length:=Lo _ (by omega)
    rw[EB lt];dsimp only;refine(ih (k+1) next _ _ (by rw[List.length_eraseIdx,if_pos lt];omega)).trans ?_;rw[Jw,Jp];refine LW.append_left _ ?_
    have pe:∀(xs:List (Int×D4))(j:Nat)(hj:j<xs.length),(xs[j]::xs.eraseIdx j).Perm xs:=by
     intro xs
     induction xs with
     | nil=>intro j hj;exact absurd hj (IK _)
     | cons x xs ih =>
       intro j hj
       cases j with
       | zero=>exact Ij _
       | succ j=>exact(LW.swap _ _ _).trans ((ih j (by simpa using hj)).cons x)
    exact pe l _ lt
 have pm:(iM w a es ep).toList.Perm es.toList:=by
  unfold iM;split
  · exact key _ 0 _ es.toList #[] (by rw[D8])
  · exact Ij _
 exact⟨by rw[<- D8,pm.length_eq,D8],pm⟩
theorem rB(hh:A.handled=none)(I:Addr)(ne:a≠I) :
 Walks P w A I [I,a] [I] es.size (fun i v=>((iM w a es ep)[i]?).map (·.2)=some v) (fun i h=>∃slot,xG h I a slot i es.size ep/\uI w t slot i/\SetI w h a ks o es ep t) where
 sub:=fun b hb=>by simp at hb;simp[hb]
 frame:=fun _ _ _ st hk=>by
  obtain⟨slot,⟨ob,g,r⟩,y,x⟩:=st;exact⟨slot,⟨ob,hk I (by simp) ob g,r⟩,y,{x with at_:=hk a (by simp) o x.at_}⟩
 item:=fun i s Q E hi st hQ=>by
  obtain⟨slot,g,y,x⟩:=st;have hz:i<(iM w a es ep).size:=by rw[mP.1];exact hi
  have hx:((iM w a es ep)[i]?).map (·.2)=some ((iM w a es ep)[i]).2:=by rw[E2 hz];rfl
  exact sE g x rfl y hx fun h' slot' g' y' sb=>hQ _ h' s.toks hx ⟨slot',g',y',{x with at_:=sb.extBut a o ne x.at_}⟩ fun b o hb e=>sb.extBut b o (fun h=>hb (by simp[h])) e
 done:=fun s Q E st hQ=>by
  obtain⟨slot,g,y,x⟩:=st;exact sG hh g x rfl y (FY (by rw[mP.1];exact Ef _)) fun h' he=>hQ h' s.toks fun b o hb e=>he b o (fun h=>hb (by simp[h])) e
 self:=fun _ s Q E st hQ=>by
  obtain⟨slot,g,y,x⟩:=st;refine Ju g.ty dN (FC dN g.ty gE ?_ (iJ _));show Es _ _ (ret (.ref I)) _ _ s;exact D5 ⟨_,rfl, "set_iterator", _,g.ty,bU.lookup,hQ⟩
end
section
variable{P:Ei}{w:EK}{A:EH}{E:D4->D6->Prop}{s:D6}{a:Addr}{ks:List Int}{o:Obj}{es:Array (Int×D4)}{ep:Nat}{t:Fo}
theorem sF{Q:Bool->D6->Prop}(hT:s.TypeIs (.ref a) "set")(h:Q false s):Es (EJ P w) A (IM (.ref a)) Q E s:=by
 unfold IM;refine D1 (wpAny_specialOf hT PySem.F.slot_set_len.lookup ?_);generalize hi:("set.__len__" : String)=i0
 wp_delta
 rw[show splitId i0=some ("set", "__len__")from by subst hi;decide +kernel];subst hi;refine D1 (JR (T := "set") (b:=true) hT (by rw[Ji];kernel_rfl) ?_);refine wpAny_ite_split (fun q=>absurd q (by decide)) fun _=>?_;refine wpAny_ite_split (fun _=>?_) fun q=>absurd (by decide +kernel) q;exact D1 (wpAny_typeOf hT (D5 h))
theorem sx(a:Addr)(ks:List Int)(o:Obj)(es:Array (Int×D4))(ep:Nat)(t:Fo):W.KdlSrc P w "set" a a es.size (fun i v=>((iM w a es ep)[i]?).map (·.2)=some v) (fun h=>SetI w h a ks o es ep t) where
 type:=fun _ x=>⟨o,x.at_,x.ex.1⟩
 there:=fun _ x=>⟨D_ x.at_,D_ x.at_⟩
 keep:=fun _ _ x k=>{x with at_:=k a (.inl rfl) o x.at_}
 notList:=by decide
 notTuple:=by decide
 hint:=fun _ _ _ _ x q=>sF x.ty q
 iter:=fun _ _ hh x=>⟨_,_,fun _ _ q=>sD x q,rB hh _ (Ey (D_ x.at_)),
  ⟨0,⟨_,Eg _ rfl,rfl,rfl⟩,.inr (lc _ (kr x.gd.up)),{x with at_:=D3 _ x.at_}⟩⟩
theorem pR{acc:List D4}(x:SetI w s.heap a ks o es ep t)(hl:acc.length=es.size)(h:∀(i:Nat) v,acc[i]?=some v->((iM w a es ep)[i]?).map (·.2)=some v):∃ns,GP acc ns/\ns.Perm ks:=by
 have e:acc=(iM w a es ep).toList.map (·.2):=by
  refine JO (by
   have q:=(mP (w:=w) (a:=a) (es:=es) (ep:=ep)).1;rw[<- D8]at q
   rw[Eb];omega) fun i h1 h2=>?_
  have q:=h i _ (EB h1);rw[<- EZ,<- E6,EB h2]at q;exact(EL q).symm
 have key:∀l:List (Int×D4),C4 l->GP (l.map (·.2)) (l.map fun e=>iv e.2):=by
  intro l
  induction l with
  | nil=>intro _;exact .nil
  | cons y l ih =>
    intro h;obtain⟨n,u,rfl⟩:=h y Ee;exact .cons n u (ih fun e m=>h e (D7 _ m))
 have pm:=(mP (w:=w) (a:=a) (es:=es) (ep:=ep)).2;refine⟨_,by rw[e];exact key _ fun y m=>x.el y (pm.mem_iff.mp m),(pm.map _).trans x.ks⟩
theorem kC(hh:A.handled=none)(x:SetI w s.heap a ks o es ep t)(h64:ks.length<64)
 (h:∀(h0 h':Heap)(tk:Nat)(out:Array D4)(ns':List Int)(c:Nat),(∀b o,s.heap.get? b=some o->h0.get? b=some o)->(∀b o,h0.get? b=some o->h'.get? b=some o)->h'.get? h0.objs.size=some (IH "list" out c) ->
  GP out.toList ns'->ns'.Perm ks->ns'.Pairwise (· <= ·)->Q (.ref h0.objs.size) {s with heap:=h',toks:=tk}) :
 Es (EJ P w) A (call (.builtin "sorted") [.ref a]) Q E s:=by
 have sz:=E8;have hl:=x.len;refine Jh kind_sorted plain_sorted entry_sorted (args_sorted1 (.ref a)) ?_;unfold Builtin.«sorted»;refine D1 (m:=checkCount "sorted" 1 1 _) (D5 (D1 (W.kdu_collect (A:=A.in1) (sx a ks o es ep t) hh x (by omega) fun h0 tk acc k0 hacc=>D1 (Lc ?_ ?_))))
 · obtain⟨ns,iA,pn⟩:=pR x (by rw[D8];exact hacc.1) fun i v e=>hacc.2 i v (by rw[<- EZ];exact e);have l64:acc.toList.length<64:=by rw[iA.length,pn.length_eq];exact h64
   have hoL:(h0.push (IH "list" acc.toList.toArray 0)).get? h0.objs.size=some (IH "list" acc.toList.toArray 0):=Eg _ rfl;show Es _ _ _ _ _ {s with heap:=h0.push (IH "list" acc.toList.toArray 0),toks:=tk};refine D1 (Fg (FC slot_list_sort ⟨_,hoL,rfl⟩ entry_list_sort (list_sort_tree (s:={s with heap:=h0.push (IH "list" acc.toList.toArray 0),toks:=tk}) hoL iA l64 fun out ns' q1 q2 q3=>⟨_,rfl,?_⟩) (args_list_sort _)));have e1:=II hoL (fun _=>#[])
   have e2:((((h0.push (IH "list" acc.toList.toArray 0)).update h0.objs.size (HW fun _=>#[])).push (IH "tuple" acc.toList.toArray 0)).push (IH "list" #[] 0)).get? h0.objs.size=_ :=
    D3 _ (D3 _ e1)
   have e3:=II e2 (fun _=>out);refine D5 ⟨_,rfl,h h0 _ _ out ns' _ k0 (fun b ob eb=>?_) e3 q1 (q2.trans pn) q3⟩;have ne:h0.objs.size≠b:=Hv (D_ eb);exact(EG _ _ ne).trans (D3 _ (D3 _ ((EG _ _ ne).trans (D3 _ eb))))
 · rw[D8,hacc.1];omega
end
section
variable{X:Cx}
noncomputable def yR(w:EK)(K:W.Frag):List V->Hp->VK->Prop:=fun xs H Q=>∃(a:Addr)(ns:List Int),xs=[.ref a]/\Dn K H a (ns.map V.int)/\ns.length<2000/\∀l,H l=none->Q (.ref l) (upd H l (.ext fun h=>lh w h l (met [] ns)))
theorem qi(hc:X.calm=true):cr X (.type "set") (yR X.w X.K):=by
 intro pins s σ H xs us Q I r ⟨a,ns,ex,sq,hb,q⟩;subst ex;obtain⟨u,rfl,ru⟩:=vals1 r;cases ru;obtain⟨its,rv,p,hz⟩:=I.list sq;refine oA (I.ok.hd hc) p.isList (intsAre_of rv) hb fun h' tk hi k=>?_;refine⟨.ref s.heap.objs.size,_,I.laid (t':=tk) (o:=.ext fun h=>lh X.w h s.heap.objs.size (met [] ns)) k (Ef _) ⟨hi,?_,fun h1 h2 z y=>z.keep y⟩,rfl,q _ (I.hok.fresh (Ef _))⟩;obtain⟨o,_,_,_,z⟩:=hi;exact⟨o,z.at_⟩
noncomputable def sS(w:EK):List V->Hp->VK->Prop:=fun xs H Q=>∃(a:Addr)(ks:List Int),xs=[.ref a]/\H a=some (.ext fun h=>lh w h a ks)/\ks.length<64/\∀ns':List Int,ns'.Perm ks->ns'.Pairwise (· <= ·)->∀l,H l=none->Q (.ref l) (upd H l (.lst (ns'.map V.int)))
theorem oz(hc:X.calm=true):cr X (.builtin "sorted") (sS X.w):=by
 intro pins s σ H xs us Q I r ⟨a,ks,ex,e,h64,q⟩;subst ex;obtain⟨u,rfl,ru⟩:=vals1 r;cases ru;obtain⟨⟨o,es,ep,t,x⟩,_⟩:=(show br X.prog X.w H s.heap a (.ext fun h=>lh X.w h a ks)from I.hok a _ e);refine kC (I.ok.hd hc) x h64 fun h0 h' tk out ns' c k0 k1 e a1 a2 a3=>?_;have I1:Inv X pins σ H {s with heap:=h0}:=I.kept (t':=s.toks) k0;have sz:=E8;refine⟨.ref h0.objs.size,_,I1.laid (t':=tk) (o:=.lst (ns'.map V.int)) k1 (Ef _) ⟨?_,out.toList,c,fG a1,by rw[Iw];exact e⟩,rfl,q ns' a2 a3 _ (I1.hok.fresh (Ef _))⟩;rw[Eb,a2.length_eq];omega
end
end L2
namespace L2.VL
section
variable{X:Cx}{rl:Option Addr}{a b c o e:Expr}{es:List Expr}{fa fb fk fx:TV}{fs:Dg}{pos p px p1 p2 pos2 apos cpos:Pos}{ρ:En}
noncomputable def Ch(w:EK)(K:W.Frag):List V->Hp->VK->Prop:=fun vs H Q=>yR w K vs H fun v H1=>sS w [v] H1 Q
noncomputable def p5:List W->(W->Prop)->Prop:=fun ws Q=>∃(v:W)(ns:List Int),ws=[v]/\v.dat=some (.list (ns.map .int))/\ns.length<64/\∀ns':List Int,ns'.Pairwise (· < ·)->(∀x,x∈ns'↔x∈ns)->Q (.ml (ns'.map .int))
theorem rK:d0 X rl (Ch X.w X.K) p5:=fun{F H vs ws} Qd Q s ra r ⟨v,ns,ew,ed,hl,q⟩ k=>by
 subst ew;obtain⟨u,rfl,r1⟩:=l_ r;obtain⟨b,us,rfl,sq,rs⟩:=r1.items s ed;cases cc rs;have ml:=mW ns [];rw[Gy]at ml;refine⟨b,ns,rfl,sq,by omega,fun l hl2=>⟨l,met [] ns,rfl,ak,by omega,fun ns' pm pw l2 hl3=>?_⟩⟩;have g1:=Grow.laid (o:=.ext fun h=>lh X.w h l (met [] ns)) s ra hl2;have g2:=Grow.laid (o:=.lst (ns'.map V.int)) g1.sub g1.reel hl3;have nd:ns'.Nodup:=pm.nodup_iff.mpr (qN ns [] GZ);refine k _ (.ml _) _ _ (g1.trans g2) (gr g1.sub g1.reel hl3 d_) (fun a ea=>by cases ea;exact g1.freeB hl3) (q _ ((pw.and nd).imp fun{a b} z=>by have:=z.1;have:=z.2;omega) fun x=>?_);rw[pm.mem_iff,mV];simp
theorem lF(hc:X.calm=true)(hm:X.mg "sorted" = none)(hm2:X.mg "set" = none)(ha:Dr X rl [a] fs)(hg:autoParam (Gl X "sorted") æa._auto_1)(hg2:autoParam (Gl X "set") æa._auto_1)
 (he:autoParam (Ec [.Call (.Name "set" p2) [a] [] pos2] X.env=(false,eval (.Call (.Name "set" p2) [a] [] pos2) X.env)::Ec [] X.env) æa._auto_1)(he2:autoParam (Ec [a] X.env=(false,eval a X.env)::Ec [] X.env) æa._auto_1)
 (hpl:autoParam ((FN pos (Ec [] X.env)).any (·.1)=false) æa._auto_1)(hpl2:autoParam ((FN pos2 (Ec [] X.env)).any (·.1)=false) æa._auto_1) :
 PV X rl (.Call (.Name "sorted" p) [.Call (.Name "set" p2) [a] [] pos2] [] pos) (cI p5 fs):=by
 refine gb (t:=fun _=>tC .non) rK ha fun ta p1=>?_;show PE X _ (B5 (sS X.w) (sr (B5 (yR X.w X.K) ta) yG));exact cf (oz hc) hg hm (by rfl) (bG (eM (qi hc) hg2 hm2 (by rfl) p1 (by decide) (by decide) he2 hpl2) dg he) (by decide) (by decide) he hpl
noncomputable def xZ(w:W):Option (List Int):=match w.dat with
 | some (.list xs)=>dY xs
 | _=>none
theorem ux{w:W}:xZ w=some ns↔w.dat=some (.list (ns.map .int)):=by
 unfold xZ;constructor
 · intro h;split at h
   · rename_i xs e;rw[e,cF h]
   · cases h
 · intro h;rw[h];exact intsD_map ns
theorem tQ(w:W):p5 [w]=aq (xZ w) fun ns=>CU (ns.length<64) (C5 (anyM fun ns':List Int=>ns'.Pairwise (· < ·)/\∀x,x∈ns'↔x∈ns) fun ns'=>ret (.ml (ns'.map .int))):=by
 refine af fun Q=>?_;simp only[p5,ag,ret,CU,C5,anyM,Eu,and_true,ux];constructor
 · rintro⟨v,ns,rfl,e,a,q⟩;exact⟨ns,e,a,fun n' ⟨h1,h2⟩=>q n' h1 h2⟩
 · rintro⟨ns,e,a,q⟩;exact⟨w,ns,rfl,e,a,fun n' h1 h2=>q n' ⟨h1,h2⟩⟩
theorem xD(ns:List Int):xZ (.d (.list (ns.map .int)))=some ns:=intsD_map ns
end
end L2.VL
namespace K52
open PySem PySem.Spec PyProof.Rows L2 L2.VL
set_option bootstrap.genMatcherCode true in
local macro_rules | `(tactic| simp_arith only [$xs,*])=>`(tactic| simp (maxSteps:=2000000) (disch:=(first | assumption | omega | decide)) only [zG,zK,zN,zM,zL,zz,zy,zC,zB,zA,zJ,zH,zF,zE,zD,yc,Cd,Cc,dH,cy,gO,W.cap,CF,List.replicate,id,↓reduceIte,if_true,Nat.reduceAdd,Nat.reduceSub,Nat.reduceLeDiff,Int.cast_ofNat_Int,Int.reduceBEq,Int.reduceSub,Int.reduceAdd,Int.reduceLT,Int.reduceLE,Int.reduceMul,Int.reduceNeg,reduceCtorEq,ip,$xs,*])
set_option bootstrap.genMatcherCode true in
local macro_rules | `(tactic| simp_arith only [$xs,*] at $h:ident)=>`(tactic| simp only [List.cons.injEq,W.d.injEq,PyData.int.injEq,PyData.bool.injEq,PyData.str.injEq,PyData.list.injEq,PyData.tuple.injEq,jF,pK,o0,cY,and_true,true_and,reduceCtorEq,$xs,*] at $h:ident)
section
variable{P:Ei}{w:EK}{K:Gr}{mg:Str->Option D4}{base:Heap}{rl:Option Addr}
noncomputable def xR(ws:List W):Prop:=∃ns:List Int,ws=[.sc ns]/\ns.length<=63
theorem xR.eq(h:ns.length<=63):xR [.sc ns]=True:=propext ⟨fun _=>trivial,fun _=>⟨ns,rfl,h⟩⟩
theorem g_:FnScope ["_law_script"] ["_law_script"] (defScope (top 29)):=⟨rfl,rfl,rfl,by decide +kernel,rfl,by decide +kernel,by decide +kernel⟩
theorem d__law_feed(Fn:FnIn K mg "_law_feed" (top 29) ["_law_script"])(Z:Bz mg):DfnR P w K mg base "_law_feed" ["_law_script"] 1 xR:=by
 obtain⟨f,fd,hm,Ff,hb⟩:=Fn.ex;refine⟨f,fd,hm,Ff.kp,hb,?_⟩;refine Ff.ok g_ (fun vs H Q E h=>?_) (fun cdv A outer s H vs Q E hr h=>?_)
 · obtain⟨F,ws,_,r,_,⟨ns,rfl,_⟩,_⟩:=h;have:=Gk r;simpa using this
 · obtain⟨F,ws,sm,r,ao,⟨ns,rfl,hl⟩,k⟩:=h;obtain⟨v,rfl,⟨a,rfl,hS⟩⟩:=l_ r;refine⟨_,bZ (jJ (qI (bG (eM iE rfl Z.list_ (by rfl) (bG (pq sA (pv 0) tu (mL ar)) dg)) (bG ar (bG ar (bG ar dg)))))),?_⟩;refine⟨_,rfl,63,rfl,a,ns.map V.int,rfl,l6 sm hS,fun q hq=>?_⟩;refine⟨q,_,rfl,.inl (.inl (.inl ak)),fun c hc=>?_⟩;refine⟨(by show 4<=sizeLine;decide),fun p hp=>?_⟩;rw[qc hl]at *;have hcq:c≠q:=fun z=>by rw[z,ak]at hc;cases hc
   have hpc:p≠c:=fun z=>by rw[z,ak]at hp;cases hp
   have hpq:p≠q:=fun z=>by rw[z,upd_ne hcq.symm,ak]at hp;cases hp
   have hp0:H p=none:=by
    have:=hp;rw[upd_ne hpc,upd_ne hpq]at this;exact this
   have hc0:H c=none:=by
    have:=hc;rw[upd_ne hcq]at this;exact this
   have fc:F c=none:=sm.free hc0;have fp:F p=none:=sm.free hp0;have fq:F q=none:=sm.free hq;have nF:∀b u,F b=some u->b≠c/\b≠p/\b≠q:=fun b u e=>⟨(fun z=>by subst z;rw[fc]at e;cases e),(fun z=>by subst z;rw[fp]at e;cases e),(fun z=>by subst z;rw[fq]at e;cases e)⟩;have nH:∀b u,H b=some u->b≠c/\b≠p/\b≠q:=fun b u e=>⟨ax e hc0,ax e hp0,ax e hq⟩;refine k p (upd F c (.lst (ns.map V.int))) _ hp0 ⟨fun b o e _=>?_,fun b o e=>?_,fun b o e=>?_,fun b o e=>?_,fun _ z=>by cases z⟩ (fun r e=>?_)
   · obtain⟨n1,n2,n3⟩:=nH b o e;rw[upd_ne n2,upd_ne n1,upd_ne n3];exact e
   · rw[upd_ne (nF b o e).1];exact e
   · by_cases hb:b=c
     · subst hb;rw[ak]at e;rw[upd_ne hpc.symm,ak];exact e
     · rw[upd_ne hb]at e;obtain⟨n1,n2,n3⟩:=nF b o e;rw[upd_ne n2,upd_ne n1,upd_ne n3];exact sm b o e
   · rw[upd_ne (nH b o e).1]
   · cases e;exact⟨by rw[upd_ne hpc];exact fp,⟨_,ak,c,ns,0,0,0,rfl,ak,hl,by decide,by decide,by decide⟩⟩
theorem eK.eq(m:Int)(hm:0<m)(hb:m<2^60):eK [.reel,.d (.int m)]=C5 (anyM fun k:Int=>0<=k/\k<m) fun k=>VL.ret (.int k:D2):=by
 refine af fun Q=>⟨?_,fun q_=>⟨m,rfl,hm,hb,fun k a b=>q_ k ⟨a,b⟩⟩⟩;rintro⟨m',e_,_,_,q_⟩;simp only[Eu,W.d.injEq,Gh,and_true,true_and]at e_;subst e_;exact fun k h=>q_ k h.1 h.2
theorem p__law_draw.eq(m:Int)(hm:0<m)(hb:m<2^60):eK [.reel,.d (.int m)]=C5 (anyM fun k:Int=>0<=k/\k<m) fun k=>VL.ret (.int k:D2):=eK.eq m hm hb
theorem hE:FnScope ["_law_feed_here", "_law_many", "_law_found", "_law_cell", "_law_stirred"] ["_law_feed_here", "_law_many"] (defScope (top 30)):=⟨rfl,rfl,rfl,by decide +kernel,rfl,by decide +kernel,by decide +kernel⟩
theorem d__law_draw(Fn:FnIn K mg "_law_draw" (top 30) ["_law_feed_here", "_law_many"])(Z:Bz mg):Dfn P w K mg base rl "_law_draw" ["_law_feed_here", "_law_many"] 2 eK:=by
 have sc:=hE;refine Dfn.hand Fn sc eK.mono eK.len ?_;intro f cdv A outer s H E vs ws F Q Qv hr sm ra rw' hq fin;obtain⟨m,rfl,hm,hb,q⟩:=hq;have hm0:m≠0:=by omega
 have hmd:∀i:Int,cu i m:=fun i=>cu.of hm0 (by omega);obtain⟨v,u,rfl,⟨r,er,ev⟩,r2⟩:=yQ rw';subst ev er;have eu:=aJ r2;subst eu;obtain⟨fr,⟨o,ho,c,ns,a,l,t,rfl,hc,hl,ha,hl0,ht⟩⟩:=ra r rfl;have hcr:c≠r:=fun z=>by rw[z,fr]at hc;cases hc
 have hcH:H c=some (.lst (ns.map V.int)):=sm _ _ hc
 have out:∀(k a l t:Int),0<=k->k<m->0<=a->0<=l->0<=t->Qv (.int k) (upd H r (C3 c a l t)):=fun k a l t h1 h2 h3 h4 h5 =>
  fin _ F _ (.int k) (Grow.turn sm ra ⟨c,ns,a,l,t,rfl,hc,hl,h3,h4,h5⟩) (.int k) (q k h1 h2)
 have g0:∀{a l t:Int},(upd H r (C3 c a l t)) r=some (.lst [.ref c,.int a,.int l,.int t]):=ak;have gc:∀{a l t:Int},(upd H r (C3 c a l t)) c=some (.lst (ns.map V.int)):=by intro a l t;rw[upd_ne hcr];exact hcH
 have i0:∀{x0 x1 x2 x3:V},L2.atI [x0,x1,x2,x3] 0=some x0:=rfl;have i1:∀{x0 x1 x2 x3:V},L2.atI [x0,x1,x2,x3] 1=some x1:=rfl;have i2:∀{x0 x1 x2 x3:V},L2.atI [x0,x1,x2,x3] 2=some x2:=rfl;have i3:∀{x0 x1 x2 x3:V},L2.atI [x0,x1,x2,x3] 3=some x3:=rfl;have fm:∀i:Int,0<=i.fmod m/\i.fmod m<m:=fun i=>⟨Fz _ hm,GF _ hm⟩
 refine⟨_,(aT (hX (ce fO (b4 bg (pv 0) ar (fun _ _=>rfl)) ar) (jL (pv 0) ar d8))
  (aT (jI FU (vY (dF y8 (b4 bg (pv 0) ar (fun _ _=>rfl)) ar (aQ _)) (sU (dF fC (b4 bg (pv 0) ar (fun _ _=>rfl)) (cf bW (by rfl) Z.len_ (by rfl) (bG (b4 bg (pv 0) ar (fun _ _=>rfl)) dg)) (aQ _)))).pt (aT (mJ (dF wu (cf gH (by rfl) Z.abs_ (by rfl) (bG (b4 bg (b4 bg (pv 0) ar (fun _ _=>rfl)) (b4 bg (pv 0) ar (fun _ _=>rfl)) (fun _ _=>rfl)) dg)) (ce qK ar ar) (aQ _)) (bZ (hX (cf gH (by rfl) Z.abs_ (by rfl) (bG (b4 bg (b4 bg (pv 0) ar (fun _ _=>rfl)) (b4 bg (pv 0) ar (fun _ _=>rfl)) (fun _ _=>rfl)) dg)) (jL (pv 0) ar d8))) eJ)
  (bZ (hX (ce fO (b4 bg (pv 0) ar (fun _ _=>rfl)) ar) (jL (pv 0) ar d8)))))
  (aT (mJ (dF kP (b4 bg (pv 0) ar (fun _ _=>rfl)) ar (aQ _)) (aT (cz (i:=2) sc.nd rfl (GK rfl) (ce cB (b4 bg (pv 0) ar (fun _ _=>rfl)) (pv 1)))
  (aT (hX (ce jO (b4 bg (pv 0) ar (fun _ _=>rfl)) (pv 1)) (jL (pv 0) ar d8))
  (bZ (jJ (pv 2))))) eJ)
  (aT (cz (i:=3) sc.nd rfl (GK rfl) ar)
  (aT (mJ (dF kP (cf bW (by rfl) Z.len_ (by rfl) (bG (b4 bg (pv 0) ar (fun _ _=>rfl)) dg)) ar (aQ _)) (bZ (cz (i:=3) sc.nd rfl (GK rfl) (b4 bg (b4 bg (pv 0) ar (fun _ _=>rfl)) (ce cB (b4 bg (pv 0) ar (fun _ _=>rfl)) (cf bW (by rfl) Z.len_ (by rfl) (bG (b4 bg (pv 0) ar (fun _ _=>rfl)) dg))) (fun _ _=>rfl)))) eJ)
  (aT (cz (i:=4) sc.nd rfl (GK rfl) (ce cB (ce fO (ce fO (ce eO (ce cB (pv 3) ar) ar) (ce eO ar (b4 bg (pv 0) ar (fun _ _=>rfl)))) ar) ar))
  (aT (cz (i:=4) sc.nd rfl (GK rfl) (ce cB (ce eO (pv 4) (ce fO (pv 4) ar)) ar))
  (bZ (jJ (ce cB (ce cB (ce eO (pv 4) ar) ar) (pv 1))))))))))),?_⟩
 refine⟨_,rfl,cS ho i1 ⟨a,1,rfl,rfl,?_⟩⟩;refine⟨_,rfl,kX ho rfl ?_⟩;show As _ _ _ _ (upd H r (C3 c (a+1) l t));refine⟨fun n σ' H'=>∃l t,σ'=[some (.ref r),some (.int m),none,none,none]/\H'=upd H r (C3 c (a+1) l t)/\0<=l/\0<=t/\n=ns.length-t.toNat,⟨_,l,t,rfl,rfl,hl0,ht,rfl⟩,?_⟩;rintro n σ' H' ⟨l,t,rfl,rfl,hl0,ht,rfl⟩;refine⟨_,rfl,cS g0 i2 ⟨rfl,_,rfl,?_⟩⟩;by_cases hz:l=0
 · subst hz;refine CJ (by simp) ?_;refine⟨_,rfl,cS g0 i3 ⟨_,rfl,cS g0 i0 ⟨c,_,rfl,.inl (.inl (.inl gc)),⟨t,_,rfl,rfl,_,rfl,?_⟩⟩⟩⟩;by_cases hlt:t<((ns.map V.int).length:Int)
   · refine CJ (decide_eq_true hlt) ?_;have hlt':t.toNat<ns.length:=by rw[Eb]at hlt;omega
     have at_:L2.atI (ns.map V.int) t=some (.int ns[t.toNat]):=gL ht hlt'
     refine⟨fun σ' H'=>∃l t',σ'=[some (.ref r),some (.int m),none,none,none]/\H'=upd H r (C3 c (a+1) l t')/\0<=l/\0<=t'/\ns.length-t'.toNat<ns.length-t.toNat,fun σ' H' ⟨l,t',h1,h2,h3,h4,h5⟩=>⟨_,h5,l,t',h1,h2,h3,h4,rfl⟩,?_⟩;refine⟨_,rfl,cS g0 i0 ⟨_,rfl,cS g0 i3 (cS gc at_ ⟨_,rfl,10,18,rfl,rfl,⟨by decide,by decide,by decide⟩,⟨_,_,rfl,rfl,_,rfl,?_⟩⟩)⟩⟩;by_cases hbig:(10:Int)^LO 18<=(if ns[t.toNat]<0 then -ns[t.toNat]else ns[t.toNat])
     · refine CJ (decide_eq_true hbig) ?_;refine⟨_,rfl,cS g0 i0 ⟨_,rfl,cS g0 i3 (cS gc at_ ⟨_,rfl,?_⟩)⟩⟩;refine⟨_,rfl,kX g0 rfl ?_⟩;rw[cT];refine⟨_,rfl,cS g0 i3 ⟨_,_,rfl,rfl,?_⟩⟩;refine⟨_,rfl,kX g0 rfl ?_⟩;rw[cT];exact⟨_,_,rfl,rfl,by split<;>omega,by omega,by omega⟩
     · refine CL (decide_eq_false hbig) ?_;refine⟨_,rfl,cS g0 i3 ⟨_,_,rfl,rfl,?_⟩⟩;refine⟨_,rfl,kX g0 rfl ?_⟩;rw[cT];exact⟨_,_,rfl,rfl,by omega,by omega,by omega⟩
   · refine CL (decide_eq_false hlt) ?_;refine⟨_,rfl,cS g0 i2 ⟨_,_,rfl,rfl,_,rfl,?_⟩⟩;by_cases hp:0<(0:Int)
     · refine CJ (decide_eq_true hp) ?_;refine⟨_,rfl,cS g0 i2 ⟨_,rfl,_,_,rfl,rfl,hm0,?_⟩⟩;refine⟨_,rfl,cS g0 i2 ⟨_,rfl,_,_,rfl,rfl,hmd _,?_⟩⟩;refine⟨_,rfl,kX g0 rfl ?_⟩;rw[cT];refine⟨_,rfl,?_⟩;exact out _ _ _ _ (fm _).1 (fm _).2 (by omega) (Int.fdiv_nonneg (by omega) (by omega)) ht
     · refine CL (decide_eq_false hp) ?_;refine⟨_,rfl,cS g0 i0 ⟨c,_,rfl,.inl (.inl (.inl gc)),⟨_,_,rfl,rfl,_,rfl,?_⟩⟩⟩;by_cases hn:(0:Int)<((ns.map V.int).length:Int)
       · refine CJ (decide_eq_true hn) ?_;have hnn:(0:Int)<(ns.length:Int):=by rw[Eb]at hn;exact hn
         have b1:=Fz (a+1) hnn;have b2:=GF (a+1) hnn;have hk:((a+1).fmod (ns.length:Int)).toNat<ns.length:=by omega
         have at2:L2.atI (ns.map V.int) ((a+1).fmod ((ns.map V.int).length:Int))=some (.int ns[((a+1).fmod (ns.length:Int)).toNat]):=by simpa only[Eb]using gL b1 hk
         refine⟨_,rfl,cS g0 i0 ⟨_,rfl,cS g0 i1 ⟨_,rfl,cS g0 i0 ⟨c,_,rfl,.inl (.inl (.inl gc)),_,_,rfl,rfl,by omega,cS gc at2 ?_⟩⟩⟩⟩;refine⟨_,rfl,_,_,rfl,rfl,(show(2147483647:Int)≠0 by decide),_,_,rfl,rfl,aZ.rt (by decide),_,rfl,cS g0 i1 ⟨_,_,rfl,rfl,aZ.lt (by decide),_,_,rfl,rfl,_,_,rfl,rfl,_,_,rfl,rfl,(show(2147483629:Int)≠0 by decide),?_⟩⟩;refine⟨_,rfl,_,rfl,_,_,rfl,rfl,_,_,rfl,rfl,aZ.lt (cE (by decide) (by decide)),_,_,rfl,rfl,(show(2147483587:Int)≠0 by decide),?_⟩;refine⟨_,rfl,_,_,rfl,rfl,aZ.rt (by decide),_,_,rfl,rfl,(show(2147483563:Int)≠0 by decide),_,rfl,_,_,rfl,rfl,hm0,?_⟩;exact out _ _ _ _ (fm _).1 (fm _).2 (by omega) (by omega) ht
       · refine CL (decide_eq_false hn) ?_;refine⟨_,rfl,_,_,rfl,rfl,(show(2147483647:Int)≠0 by decide),_,_,rfl,rfl,aZ.rt (by decide),_,rfl,cS g0 i1 ⟨_,_,rfl,rfl,aZ.lt (by decide),_,_,rfl,rfl,_,_,rfl,rfl,_,_,rfl,rfl,(show(2147483629:Int)≠0 by decide),?_⟩⟩;refine⟨_,rfl,_,rfl,_,_,rfl,rfl,_,_,rfl,rfl,aZ.lt (cE (by decide) (by decide)),_,_,rfl,rfl,(show(2147483587:Int)≠0 by decide),?_⟩;refine⟨_,rfl,_,_,rfl,rfl,aZ.rt (by decide),_,_,rfl,rfl,(show(2147483563:Int)≠0 by decide),_,rfl,_,_,rfl,rfl,hm0,?_⟩;exact out _ _ _ _ (fm _).1 (fm _).2 (by omega) (by omega) ht
 · refine CL (yk hz) ?_;refine⟨_,rfl,cS g0 i2 ⟨_,_,rfl,rfl,_,rfl,?_⟩⟩;by_cases hp:0<l
   · refine CJ (decide_eq_true hp) ?_;refine⟨_,rfl,cS g0 i2 ⟨_,rfl,_,_,rfl,rfl,hm0,?_⟩⟩;refine⟨_,rfl,cS g0 i2 ⟨_,rfl,_,_,rfl,rfl,hmd _,?_⟩⟩;refine⟨_,rfl,kX g0 rfl ?_⟩;rw[cT];refine⟨_,rfl,?_⟩;exact out _ _ _ _ (fm _).1 (fm _).2 (by omega) (Int.fdiv_nonneg (by omega) (by omega)) ht
   · refine CL (decide_eq_false hp) ?_;refine⟨_,rfl,cS g0 i0 ⟨c,_,rfl,.inl (.inl (.inl gc)),⟨_,_,rfl,rfl,_,rfl,?_⟩⟩⟩;by_cases hn:(0:Int)<((ns.map V.int).length:Int)
     · refine CJ (decide_eq_true hn) ?_;have hnn:(0:Int)<(ns.length:Int):=by rw[Eb]at hn;exact hn
       have b1:=Fz (a+1) hnn;have b2:=GF (a+1) hnn;have hk:((a+1).fmod (ns.length:Int)).toNat<ns.length:=by omega
       have at2:L2.atI (ns.map V.int) ((a+1).fmod ((ns.map V.int).length:Int))=some (.int ns[((a+1).fmod (ns.length:Int)).toNat]):=by simpa only[Eb]using gL b1 hk
       refine⟨_,rfl,cS g0 i0 ⟨_,rfl,cS g0 i1 ⟨_,rfl,cS g0 i0 ⟨c,_,rfl,.inl (.inl (.inl gc)),_,_,rfl,rfl,by omega,cS gc at2 ?_⟩⟩⟩⟩;refine⟨_,rfl,_,_,rfl,rfl,(show(2147483647:Int)≠0 by decide),_,_,rfl,rfl,aZ.rt (by decide),_,rfl,cS g0 i1 ⟨_,_,rfl,rfl,aZ.lt (by decide),_,_,rfl,rfl,_,_,rfl,rfl,_,_,rfl,rfl,(show(2147483629:Int)≠0 by decide),?_⟩⟩;refine⟨_,rfl,_,rfl,_,_,rfl,rfl,_,_,rfl,rfl,aZ.lt (cE (by decide) (by decide)),_,_,rfl,rfl,(show(2147483587:Int)≠0 by decide),?_⟩;refine⟨_,rfl,_,_,rfl,rfl,aZ.rt (by decide),_,_,rfl,rfl,(show(2147483563:Int)≠0 by decide),_,rfl,_,_,rfl,rfl,hm0,?_⟩;exact out _ _ _ _ (fm _).1 (fm _).2 (by omega) (by omega) ht
     · refine CL (decide_eq_false hn) ?_;refine⟨_,rfl,_,_,rfl,rfl,(show(2147483647:Int)≠0 by decide),_,_,rfl,rfl,aZ.rt (by decide),_,rfl,cS g0 i1 ⟨_,_,rfl,rfl,aZ.lt (by decide),_,_,rfl,rfl,_,_,rfl,rfl,_,_,rfl,rfl,(show(2147483629:Int)≠0 by decide),?_⟩⟩;refine⟨_,rfl,_,rfl,_,_,rfl,rfl,_,_,rfl,rfl,aZ.lt (cE (by decide) (by decide)),_,_,rfl,rfl,(show(2147483587:Int)≠0 by decide),?_⟩;refine⟨_,rfl,_,_,rfl,rfl,aZ.rt (by decide),_,_,rfl,rfl,(show(2147483563:Int)≠0 by decide),_,rfl,_,_,rfl,rfl,hm0,?_⟩;exact out _ _ _ _ (fm _).1 (fm _).2 (by omega) (by omega) ht
namespace Gap
noncomputable def pt(p q n:Int):Int:=(n*p)%q
theorem pt_eq(p q n:Int):pt p q n=n*p-(n*p / q)*q:=by
 unfold pt;have:=Kn (n*p) q;rw[GW q]at this;omega
theorem pt_bd{q n:Int}(hq:0<q):0<=pt p q n/\pt p q n<q:=⟨Kg _ (by omega),Jb _ hq⟩
theorem gm{q n:Int}(h0:0<=n*p-m*q)(h1:n*p-m*q<q):pt p q n=n*p-m*q:=by
 unfold pt;have e:n*p=(n*p-m*q)+q*m:=by rw[GW q];omega
 rw[e,Int.add_mul_emod_self_left,Jx (by omega) (by omega)];rw[<- e]
theorem pt_pos{q n:Int}(hq:0<q)(hg:EM p q=1)(h1:0<n)(h2:n<q):0<pt p q n:=by
 rcases Fv (pt_bd (p:=p) (n:=n) hq).1 with h|h
 · exact h
 · exfalso;have d:q∣n*p:=Gp h.symm
   have d2:q∣n:=by
    have a:q.natAbs∣n.natAbs*p.natAbs:=by rw[<- Hj];exact Ko.mpr d
    have c:KP q.natAbs p.natAbs:=by show Nat.gcd _ _=1;rw[Nat.gcd_comm];exact hg
    exact Ko.mp (c.dvd_of_dvd_mul_right a)
   have:=Lf h1 d2;omega
structure Nb (p q N u v:Int):Prop where
 u0:0<u
 uN:u<N
 v0:0<v
 vN:v<N
 few:N<=u+v
 round:v*pt p q u+u*(q-pt p q v)=q
structure Ex (p q N u v:Int):Prop where
 u0:0<u
 uN:u<N
 v0:0<v
 vN:v<N
 lo:∀n,0<n->n<N->pt p q u<=pt p q n
 hi:∀n,0<n->n<N->pt p q n<=pt p q v
section
variable{p q N:Int}
theorem mG(hq:0<q)(hg:EM p q=1)(hN:N<=q){n:Int}(m0:0<m)(mN:m<N)(n0:0<n)(nN:n<N)(e:pt p q m=pt p q n):m=n:=by
 have key:∀{m n:Int},0<m->n<N->m<n->pt p q m=pt p q n->False:=fun{m n} m0 nN h e=>by
  have z:pt p q (n-m)=0:=by
   have e1:=pt_eq p q m;have e2:=pt_eq p q n;have x:(n-m)*p-(n*p / q-m*p / q)*q=0:=by rw[GI,GI];omega
   rw[gm (m:=n*p / q-m*p / q) (by omega) (by omega),x]
  have:=pt_pos (p:=p) (n:=n-m) hq hg (by omega) (by omega);omega
 rcases Gv m n with h|h|h
 · exact(key m0 nN h e).elim
 · exact h
 · exact(key n0 mN h e.symm).elim
theorem kQ{v:Int}(hq:0<q)(hg:EM p q=1)(hN:N<=q)(h:Ex p q N u v){n:Int}(n0:0<n)(nN:n<N)(h1:n*p-m*q<pt p q u)(h2 : -(q-pt p q v)<n*p-m*q):False:=by
 obtain⟨_,bu⟩:=pt_bd (p:=p) (n:=u) hq;obtain⟨bv,_⟩:=pt_bd (p:=p) (n:=v) hq;have lo:=h.lo n n0 nN;have hi:=h.hi n n0 nN;have ps:=pt_pos (p:=p) hq hg n0 (show n<q by omega);by_cases c:0<=n*p-m*q
 · have:=gm (p:=p) (q:=q) c (by omega);omega
 · have e:n*p-(m-1)*q=n*p-m*q+q:=by rw[GI];omega
   have:=gm (p:=p) (q:=q) (n:=n) (m:=m-1) (by omega) (by omega);omega
theorem ex_of_nb(hq:0<q)(hg:EM p q=1)(hN:N<=q){v:Int}(h:Nb p q N u v):Ex p q N u v:=by
 obtain⟨u0,uN,v0,vN,few,rd⟩:=h;have a0:=pt_pos (p:=p) hq hg u0 (by omega);have b0:0<q-pt p q v:=by have:=(pt_bd (p:=p) (n:=v) hq).2;omega
 have ea:=pt_eq p q u;have eb:=pt_eq p q v;generalize ha:pt p q u=a at rd a0 ea;generalize hb:q-pt p q v=b at rd b0;have eb:b=(v*p / q+1)*q-v*p:=by rw[Fq];omega
 generalize u*p / q=k at ea;generalize v*p / q+1=l at eb
 have det:u*l-v*k=1:=by
  have e:(u*l-v*k)*q=q:=by
   have:v*a+u*b=(u*l-v*k)*q:=by
    rw[ea,eb];rw[K4,K4,GI];have x1:v*(u*p)=u*(v*p):=by rw[<- JJ,<- JJ,GW v u]
    have x2:v*(k*q)=v*k*q:=by rw[JJ]
    have x3:u*(l*q)=u*l*q:=by rw[JJ]
    rw[x1,x2,x3];omega
   rw[<- this];exact rd
  have:(u*l-v*k)*q=1*q:=by omega
  exact Int.eq_of_mul_eq_mul_right (by omega) this
 have rep:∀n m:Int,∃i j:Int,n=i*u+j*v/\n*p-m*q=i*a-j*b:=fun n m=>by
  refine⟨n*l-m*v,m*u-n*k,?_,?_⟩
  · have x:(n*l-m*v)*u+(m*u-n*k)*v=n*(u*l-v*k):=by grind
    rw[x,det];omega
  · have x:(n*l-m*v)*a-(m*u-n*k)*b=(u*l-v*k)*(n*p-m*q):=by rw[ea,eb];grind
    rw[x,det];omega
 have pos:∀{x y:Int},0<x->0<y->0<x*y:=fun h1 h2=>IF h1 h2;have ge:∀{x y:Int},1<=x->0<y->y<=x*y:=fun{x y} h1 h2=>by have:=Eh h1 (Ga h2);omega
 have le0:∀{x y:Int},x<=0->0<y->x*y<=0:=fun{x y} h1 h2=>by have:=Eh h1 (Ga h2);omega
 have lem1:∀{x y:Int},x <= -1->0<y->x*y <= -y:=fun{x y} h1 h2=>by have:=Eh h1 (Ga h2);omega
 refine⟨u0,uN,v0,vN,fun n n0 nN=>?_,fun n n0 nN=>?_⟩
 · have pn:=pt_pos (p:=p) hq hg n0 (show n<q by omega);rw[ha];rw[pt_eq p q n]at pn ⊢;obtain⟨i,j,e1,e2⟩:=rep n (n*p / q);rw[e2]at pn ⊢;rcases Gs i 1 with hi|hi
   · have x1:=le0 (show i<=0 by omega) a0;have x2:=le0 (show i<=0 by omega) u0;rcases Gs j 0 with hj|hj
     · have:=lem1 (show j <= -1 by omega) v0;omega
     · have:=Gq hj (Ga b0);omega
   · have x1:=ge hi a0;have x2:=ge hi u0;rcases Gv j 0 with hj|hj|hj
     · have:=lem1 (show j <= -1 by omega) b0;omega
     · subst hj;omega
     · have:=ge (show 1<=j by omega) v0;omega
 · have pn:=(pt_bd (p:=p) (n:=n) hq).2;have hv:pt p q v=q-b:=by omega
   rw[hv];obtain⟨i,j,e1,e2⟩:=rep n (n*p / q+1);have e3:=pt_eq p q n;rw[Fq]at e2;generalize pt p q n=r at pn e3 ⊢;rcases Gs j 1 with hj|hj
   · have x1:=le0 (show j<=0 by omega) b0;have x2:=le0 (show j<=0 by omega) v0;rcases Gs i 0 with hi|hi
     · have:=lem1 (show i <= -1 by omega) u0;omega
     · have:=Gq hi (Ga a0);omega
   · have x1:=ge hj b0;have x2:=ge hj v0;rcases Gv i 0 with hi|hi|hi
     · have:=lem1 (show i <= -1 by omega) a0;omega
     · subst hi;omega
     · have:=ge (show 1<=i by omega) u0;omega
theorem pH(hq:0<q)(hg:EM p q=1)(hN:N<=q){v:Int}(h:Ex p q N u v):Nb p q N u v:=by
 have no:=fun{n m:Int} n0 nN h1 h2=>kQ (p:=p) (q:=q) (N:=N) hq hg hN h (n:=n) (m:=m) n0 nN h1 h2;obtain⟨u0,uN,v0,vN,lo,hi⟩:=h;have a0:=pt_pos (p:=p) hq hg u0 (by omega);have b0:0<q-pt p q v:=by have:=(pt_bd (p:=p) (n:=v) hq).2;omega
 have ea:=pt_eq p q u;have eb:=pt_eq p q v
 have few:N<=u+v:=by
  rcases Gs (u+v) N with c|c
  · exfalso;refine no (n:=u+v) (m:=u*p / q+(v*p / q+1)) (by omega) c ?_ ?_
    · rw[Fq,Fq,Fq];omega
    · rw[Fq,Fq,Fq];omega
  · exact c
 refine⟨u0,uN,v0,vN,few,?_⟩;generalize pt p q u=a at a0 ea no ⊢;generalize hb:q-pt p q v=b at b0 no ⊢;have eb:b=(v*p / q+1)*q-v*p:=by rw[Fq];omega
 generalize u*p / q=k at ea;generalize v*p / q+1=l at eb;have eD:v*a+u*b=(u*l-v*k)*q:=by rw[ea,eb];grind
 rw[eD];generalize hd:u*l-v*k=d at eD
 have d1:0<d:=by
  rcases Gs 0 d with c|c
  · exact c
  · have:=Eh c (Ga hq);have x1:=IF v0 a0;have x2:=IF u0 b0;omega
 suffices d=1 by rw[this];omega
 rcases Fv (show 1<=d by omega)with d2|d2
 · exfalso
   have key:∀i j n m:Int,0<=i->i<d->0<=j->j<d->(0<i\/0<j)->d*n=i*u+j*v->d*m=i*k+j*l->False:=fun i j n m i0 id j0 jd ij e1 e2=>by
    have val:∀{i j n m:Int},d*n=i*u+j*v->d*m=i*k+j*l->d*(n*p-m*q)=i*a-j*b:=fun{i j n m} e1 e2=>by
     have:d*(n*p-m*q)=(d*n)*p-(d*m)*q:=by grind
     rw[this,e1,e2,ea,eb];grind
    have go:∀{i j n m:Int},0<=i->i<d->0<=j->j<d->(0<i\/0<j)->i+j<=d->d*n=i*u+j*v->d*m=i*k+j*l->False:=fun{i j n m} i0 id j0 jd ij s e1 e2=>by
     have vl:=val e1 e2;have iu:=Gq i0 (Ga u0);have jv:=Gq j0 (Ga v0)
     have dn:0<d*n:=by
      rcases ij with h|h
      · have:=IF h u0;omega
      · have:=IF h v0;omega
     have n0:0<n:=GJ (show d*0<d*n by omega) (by omega)
     have nN:n<N:=by
      have x1:i*u<=i*(N-1):=Ir (by omega) i0;have x2:j*v<=j*(N-1):=Ir (by omega) j0;have x3:(i+j)*(N-1)<=d*(N-1):=Eh s (by omega);rw[Fq]at x3;have x4:d*n<=d*(N-1):=by omega
      have:=Int.le_of_mul_le_mul_left x4 (by omega);omega
     have ia:i*a<=(d-1)*a:=Eh (by omega) (Ga a0);have jb:j*b<=(d-1)*b:=Eh (by omega) (Ga b0);have ia0:=Gq i0 (Ga a0);have jb0:=Gq j0 (Ga b0);rw[GI]at ia jb;refine no (n:=n) (m:=m) n0 nN ?_ ?_
     · have:d*(n*p-m*q)<d*a:=by omega
       exact GJ this (by omega)
     · have:d*(-b)<d*(n*p-m*q):=by rw[Int.mul_neg];omega
       exact GJ this (by omega)
    by_cases s:i+j<=d
    · exact go i0 id j0 jd ij s e1 e2
    · refine go (i:=d-i) (j:=d-j) (n:=u+v-n) (m:=k+l-m) (by omega) (by omega) (by omega) (by omega) (by omega) (by omega) ?_ ?_
      · rw[K4,e1];grind
      · rw[K4,e2];grind
   have md:∀x:Int,0<=x%d/\x%d<d/\x%d=x-d*(x / d):=fun x=>⟨Kg _ (by omega),Jb _ d1,by have:=Kn x d;omega⟩
   have z1:l%d=0/\(-k)%d=0:=by
    obtain⟨a1,a2,a3⟩:=md l;obtain⟨b1,b2,b3⟩:=md (-k);by_cases c:0<l%d\/0<(-k)%d
    · exact(key (l%d) ((-k)%d) (1-(l / d)*u-((-k) / d)*v) (0-(l / d)*k-((-k) / d)*l) a1 a2 b1 b2 c (by rw[a3,b3];grind) (by rw[a3,b3];grind)).elim
    · omega
   have z2:(-v)%d=0/\u%d=0:=by
    obtain⟨a1,a2,a3⟩:=md (-v);obtain⟨b1,b2,b3⟩:=md u;by_cases c:0<(-v)%d\/0<u%d
    · exact(key ((-v)%d) (u%d) (0-((-v) / d)*u-(u / d)*v) (1-((-v) / d)*k-(u / d)*l) a1 a2 b1 b2 c (by rw[a3,b3];grind) (by rw[a3,b3];grind)).elim
    · omega
   obtain⟨x,ex⟩:=Gp z1.1;obtain⟨y,ey⟩:=Gp z2.2;obtain⟨z,ez⟩:=Gp z2.1
   have e:d*(y*l+z*k)=d*1:=by
    have:u*l-v*k=d*(y*l+z*k):=by
     have ev:v = -(d*z):=by omega
     rw[ey,ev];grind
    omega
   have e1:=Int.eq_of_mul_eq_mul_left (show d≠0 by omega) e
   have e2:d∣1:=by
    obtain⟨w,ew⟩:=Gp z1.2;refine⟨y*x-z*w,?_⟩;have:k = -(d*w):=by omega
    rw[<- e1,ex,this];grind
   have:=Lf (by omega) e2;omega
 · exact d2.symm
theorem nb_one(hq:0<q)(hg:EM p q=1)(hN:N<=q){v U V:Int}(h:Ex p q N U V):Nb p q N u v↔u=U/\v=V:=by
 constructor
 · intro hn;have he:=ex_of_nb hq hg hN hn;have a1:=he.lo U h.u0 h.uN;have a2:=h.lo u he.u0 he.uN;have b1:=he.hi V h.v0 h.vN;have b2:=h.hi v he.v0 he.vN;exact⟨mG hq hg hN he.u0 he.uN h.u0 h.uN (by omega),mG hq hg hN he.v0 he.vN h.v0 h.vN (by omega)⟩
 · rintro⟨rfl,rfl⟩;exact pH hq hg hN h
end
end Gap
theorem xQ(h:Cm 2000 q):(q.den:Int).natAbs<2^2000:=by rw[Ge];exact h.2
noncomputable def aD:List W->(D2->Prop)->Prop:=fun ws Q=>∃(i j:Int),ws=[.d (.int i),.d (.int j)]/\(True)/\Q (.int (EM i j:Nat))
theorem aD.mono:∀ws (Q Q':D2->Prop),(∀d,Q d->Q' d)->aD ws Q->aD ws Q':=fun _ _ _ h_=>Eo fun _=>Eo fun _=>Ed (Ed (h_ _))
theorem aD.len:∀ws (Q:D2->Prop),aD ws Q->ws.length=2:=fun _ _ h_=>by obtain⟨_,_,e_,_⟩:=h_;subst e_;rfl
theorem aD.eq(i j:Int)  : aD [.d (.int i),.d (.int j)]=VL.ret (.int (EM i j:Nat):D2):=by
 refine af fun Q=>⟨?_,fun q_=>⟨i,j,rfl,trivial,q_⟩⟩;rintro⟨i',j',e_,_,q_⟩;simp_arith only[and_true]at e_;obtain⟨rfl,rfl⟩:=e_;exact q_
theorem dD:FnScope ["one", "other"] ["one", "other"] (defScope (top 9)):=⟨rfl,rfl,rfl,by decide +kernel,rfl,by decide +kernel,by decide +kernel⟩
theorem d_common_divisor(Fn:FnIn K mg "common_divisor" (top 9) ["one", "other"])(Z:Bz mg)    : Dfn P w K mg base rl "common_divisor" ["one", "other"] 1 aD:=by
 have sc:=dD
 refine Dfn.of Fn sc (aD.mono) (aD.len) (fun cdv A outer s H E hr=>(ai (eE [] FU (bA (dR hr.units) cp (aQ _) (vn 1) ae) (al (jx 0 1 rfl sc.nd (aa (vn 1) (aa (v_mod (vn 0) (vn 1)) ac)))))
  (al (av (vb Z.abs_ (aa (vn 0) ac)))))) ?_
 rintro ws Q ⟨i,j,rfl,_,hQ⟩;refine aF ?_;simp_arith only[ah];refine fY (σ:=Int×Int) (fun s=>[some (.d (.int s.1)),some (.d (.int s.2))]) (fun s=>!(s.2==0)) (fun s=>(s.2,s.1.fmod s.2)) (fun s=>s.2.natAbs) (fun s=>EM s.1 s.2=EM i j) (i,j) rfl rfl ?_ ?_ ?_
 · intro s _;simp_arith only[ah]
 · intro s e c;have hc:s.2≠0:=by simpa using c
   refine⟨by rw[gw];exact e,c7 hc,_,?_,rfl⟩;simp_arith only[aj,ah]
 · intro s e c;have hc:s.2=0:=by simpa using c
   simp_arith only[ah];rw[hc,Int.gcd_zero_right]at e;refine aI ?_;have:(if s.1<0 then -s.1 else s.1)=((EM i j:Nat):Int):=by rw[<- e];split<;>omega
   rw[this];exact hQ
noncomputable def bc:List W->(D2->Prop)->Prop:=fun ws Q=>∃(a b:Int),ws=[.d (.int a),.d (.int b)]/\((0<b)/\(b.natAbs<2^8000))/\Q (fr (qd a b))
theorem bc.mono:∀ws (Q Q':D2->Prop),(∀d,Q d->Q' d)->bc ws Q->bc ws Q':=fun _ _ _ h_=>Eo fun _=>Eo fun _=>Ed (Ed (h_ _))
theorem bc.len:∀ws (Q:D2->Prop),bc ws Q->ws.length=2:=fun _ _ h_=>by obtain⟨_,_,e_,_⟩:=h_;subst e_;rfl
theorem bc.eq(a b:Int)(hb:0<b)(hz:b.natAbs<2^8000):bc [.d (.int a),.d (.int b)]=VL.ret (fr (qd a b):D2):=by
 refine af fun Q=>⟨?_,fun q_=>⟨a,b,rfl,⟨hb,hz⟩,q_⟩⟩;rintro⟨a',b',e_,_,q_⟩;simp_arith only[and_true]at e_;obtain⟨rfl,rfl⟩:=e_;exact q_
theorem iW:FnScope ["top", "bottom", "divisor"] ["top", "bottom"] (defScope (top 10)):=⟨rfl,rfl,rfl,by decide +kernel,rfl,by decide +kernel,by decide +kernel⟩
theorem d_fraction(Fn:FnIn K mg "fraction" (top 10) ["top", "bottom"])(Z:Bz mg)(d_common_divisor:∀rl,Dfn P w K mg base rl "common_divisor" ["one", "other"] 1 aD)   : Dfn P w K mg base rl "fraction" ["top", "bottom"] 2 bc:=by
 have sc:=iW
 refine Dfn.of Fn sc (bc.mono) (bc.len) (fun cdv A outer s H E hr=>(ai (bY (bA (jP hr.units) cp (aQ _) (vn 1) ae) (al oU) bw)
  (ai (aC 2 sc.nd (am (d_common_divisor _) (hr.mono (by decide)) (aa (vn 0) (aa (vn 1) ac))))
  (ai (bY (bA fC lC (aQ _) (vn 1) ae) (al (aC 2 sc.nd (rM (vn 2)))) bw)
  (al (av (cw (aa (v_div (vn 0) (vn 2)) (aa (v_div (vn 1) (vn 2)) ac))))))))) ?_
 rintro ws Q ⟨a,b,rfl,⟨hb,hz⟩,hQ⟩;refine aF ?_;have c1:cu a (EM a b:Int):=gA hb hz _;have c2:cu b (EM a b:Int):=gA hb hz _;have h0:(b==0)=false:=by simp;omega
 have h1:decide (b<0)=false:=by simp;omega
 simp_arith only[aj,ah,aD.eq,h0,h1];rw[ie hb];exact aI hQ
noncomputable def dh:List W->(D2->Prop)->Prop:=fun ws Q=>∃(q r:Rat),ws=[.d (fr q),.d (fr r)]/\((Cm 2000 q)/\(Cm 2000 r))/\Q (fr (q+r))
theorem dh.mono:∀ws (Q Q':D2->Prop),(∀d,Q d->Q' d)->dh ws Q->dh ws Q':=fun _ _ _ h_=>Eo fun _=>Eo fun _=>Ed (Ed (h_ _))
theorem dh.len:∀ws (Q:D2->Prop),dh ws Q->ws.length=2:=fun _ _ h_=>by obtain⟨_,_,e_,_⟩:=h_;subst e_;rfl
theorem dh.eq(q r:Rat)(h1:Cm 2000 q)(h2:Cm 2000 r):dh [.d (fr q),.d (fr r)]=VL.ret (fr (q+r):D2):=by
 refine af fun Q=>⟨?_,fun q_=>⟨q,r,rfl,⟨h1,h2⟩,q_⟩⟩;rintro⟨q',r',e_,_,q_⟩;simp_arith only[gB,cJ,cK,bT,bM,cM]at e_;obtain⟨rfl,rfl⟩:=e_;exact q_
theorem sK:FnScope ["one", "other"] ["one", "other"] (defScope (top 11)):=⟨rfl,rfl,rfl,by decide +kernel,rfl,by decide +kernel,by decide +kernel⟩
theorem d_plus(Fn:FnIn K mg "plus" (top 11) ["one", "other"])(Z:Bz mg)(d_fraction:∀rl,Dfn P w K mg base rl "fraction" ["top", "bottom"] 2 bc)   : Dfn P w K mg base rl "plus" ["one", "other"] 3 dh:=by
 have sc:=sK;refine Dfn.of Fn sc (dh.mono) (dh.len) (fun cdv A outer s H E hr=>(al (av (am (d_fraction _) (hr.mono (by decide)) (aa (v_add (v_mul (bf (vn 0) ae) (bf (vn 1) ae)) (v_mul (bf (vn 1) ae) (bf (vn 0) ae))) (aa (v_mul (bf (vn 0) ae) (bf (vn 1) ae)) ac)))))) ?_;rintro ws Q ⟨q,r,rfl,⟨h1,h2⟩,hQ⟩;refine aF ?_;have m1:aZ q.num r.den:=.bb h1.bn h2.bd;have m2:aZ r.num q.den:=.bb h2.bn h1.bd;have m3:aZ q.den r.den:=.bb h1.bd h2.bd;have m4:aZ q.num r.num:=.bb h1.bn h2.bn;have d1:=den_pos q r;have d2:=eY h1 h2;simp_arith only[aj,ah,bc.eq,DX,vW];exact aI hQ
noncomputable def eN:List W->(D2->Prop)->Prop:=fun ws Q=>∃(q r:Rat),ws=[.d (fr q),.d (fr r)]/\((Cm 2000 q)/\(Cm 2000 r))/\Q (fr (q-r))
theorem eN.mono:∀ws (Q Q':D2->Prop),(∀d,Q d->Q' d)->eN ws Q->eN ws Q':=fun _ _ _ h_=>Eo fun _=>Eo fun _=>Ed (Ed (h_ _))
theorem eN.len:∀ws (Q:D2->Prop),eN ws Q->ws.length=2:=fun _ _ h_=>by obtain⟨_,_,e_,_⟩:=h_;subst e_;rfl
theorem eN.eq(q r:Rat)(h1:Cm 2000 q)(h2:Cm 2000 r):eN [.d (fr q),.d (fr r)]=VL.ret (fr (q-r):D2):=by
 refine af fun Q=>⟨?_,fun q_=>⟨q,r,rfl,⟨h1,h2⟩,q_⟩⟩;rintro⟨q',r',e_,_,q_⟩;simp_arith only[gB,cJ,cK,bT,bM,cM]at e_;obtain⟨rfl,rfl⟩:=e_;exact q_
theorem sL:FnScope ["one", "other"] ["one", "other"] (defScope (top 12)):=⟨rfl,rfl,rfl,by decide +kernel,rfl,by decide +kernel,by decide +kernel⟩
theorem d_less(Fn:FnIn K mg "less" (top 12) ["one", "other"])(Z:Bz mg)(d_fraction:∀rl,Dfn P w K mg base rl "fraction" ["top", "bottom"] 2 bc)   : Dfn P w K mg base rl "less" ["one", "other"] 3 eN:=by
 have sc:=sL;refine Dfn.of Fn sc (eN.mono) (eN.len) (fun cdv A outer s H E hr=>(al (av (am (d_fraction _) (hr.mono (by decide)) (aa (v_sub (v_mul (bf (vn 0) ae) (bf (vn 1) ae)) (v_mul (bf (vn 1) ae) (bf (vn 0) ae))) (aa (v_mul (bf (vn 0) ae) (bf (vn 1) ae)) ac)))))) ?_;rintro ws Q ⟨q,r,rfl,⟨h1,h2⟩,hQ⟩;refine aF ?_;have m1:aZ q.num r.den:=.bb h1.bn h2.bd;have m2:aZ r.num q.den:=.bb h2.bn h1.bd;have m3:aZ q.den r.den:=.bb h1.bd h2.bd;have m4:aZ q.num r.num:=.bb h1.bn h2.bn;have d1:=den_pos q r;have d2:=eY h1 h2;simp_arith only[aj,ah,bc.eq,DX,vT];exact aI hQ
noncomputable def cA:List W->(D2->Prop)->Prop:=fun ws Q=>∃(q r:Rat),ws=[.d (fr q),.d (fr r)]/\((Cm 2000 q)/\(Cm 2000 r))/\Q (fr (q*r))
theorem cA.mono:∀ws (Q Q':D2->Prop),(∀d,Q d->Q' d)->cA ws Q->cA ws Q':=fun _ _ _ h_=>Eo fun _=>Eo fun _=>Ed (Ed (h_ _))
theorem cA.len:∀ws (Q:D2->Prop),cA ws Q->ws.length=2:=fun _ _ h_=>by obtain⟨_,_,e_,_⟩:=h_;subst e_;rfl
theorem cA.eq(q r:Rat)(h1:Cm 2000 q)(h2:Cm 2000 r):cA [.d (fr q),.d (fr r)]=VL.ret (fr (q*r):D2):=by
 refine af fun Q=>⟨?_,fun q_=>⟨q,r,rfl,⟨h1,h2⟩,q_⟩⟩;rintro⟨q',r',e_,_,q_⟩;simp_arith only[gB,cJ,cK,bT,bM,cM]at e_;obtain⟨rfl,rfl⟩:=e_;exact q_
theorem o5:FnScope ["one", "other"] ["one", "other"] (defScope (top 13)):=⟨rfl,rfl,rfl,by decide +kernel,rfl,by decide +kernel,by decide +kernel⟩
theorem d_times(Fn:FnIn K mg "times" (top 13) ["one", "other"])(Z:Bz mg)(d_fraction:∀rl,Dfn P w K mg base rl "fraction" ["top", "bottom"] 2 bc)   : Dfn P w K mg base rl "times" ["one", "other"] 3 cA:=by
 have sc:=o5;refine Dfn.of Fn sc (cA.mono) (cA.len) (fun cdv A outer s H E hr=>(al (av (am (d_fraction _) (hr.mono (by decide)) (aa (v_mul (bf (vn 0) ae) (bf (vn 1) ae)) (aa (v_mul (bf (vn 0) ae) (bf (vn 1) ae)) ac)))))) ?_;rintro ws Q ⟨q,r,rfl,⟨h1,h2⟩,hQ⟩;refine aF ?_;have m1:aZ q.num r.den:=.bb h1.bn h2.bd;have m2:aZ r.num q.den:=.bb h2.bn h1.bd;have m3:aZ q.den r.den:=.bb h1.bd h2.bd;have m4:aZ q.num r.num:=.bb h1.bn h2.bn;have d1:=den_pos q r;have d2:=eY h1 h2;simp_arith only[aj,ah,bc.eq,DX,vU];exact aI hQ
noncomputable def BJ(q:Rat):Rat:=qd (q.num.fmod q.den) q.den
theorem zm(q:Rat):Il [.int (q.num.fmod q.den),.int q.den]=fr (BJ q):=by
 have hd:=eZ q
 have g:EM (q.num.fmod q.den) q.den=1:=by
  rw[Int.gcd_comm,gw];exact iw q
 unfold BJ;rw[<- ie hd,g];simp
noncomputable def bN:List W->(D2->Prop)->Prop:=fun ws Q=>∃(q:Rat),ws=[.d (fr q)]/\((Cm 2000 q))/\Q (fr (BJ q))
theorem bN.mono:∀ws (Q Q':D2->Prop),(∀d,Q d->Q' d)->bN ws Q->bN ws Q':=fun _ _ _ h_=>Eo fun _=>Ed (Ed (h_ _))
theorem bN.len:∀ws (Q:D2->Prop),bN ws Q->ws.length=1:=fun _ _ h_=>by obtain⟨_,e_,_⟩:=h_;subst e_;rfl
theorem bN.eq(q:Rat)(h:Cm 2000 q):bN [.d (fr q)]=VL.ret (fr (BJ q):D2):=by
 refine af fun Q=>⟨?_,fun q_=>⟨q,rfl,h,q_⟩⟩;rintro⟨q',e_,_,q_⟩;simp_arith only[gB,cJ,cK,bT,bM,cM]at e_;obtain rfl:=e_;exact q_
theorem kE:FnScope ["one"] ["one"] (defScope (top 15)):=⟨rfl,rfl,rfl,by decide +kernel,rfl,by decide +kernel,by decide +kernel⟩
theorem d_wrapped(Fn:FnIn K mg "wrapped" (top 15) ["one"])(Z:Bz mg)    : Dfn P w K mg base rl "wrapped" ["one"] 1 bN:=by
 have sc:=kE;refine Dfn.of Fn sc (bN.mono) (bN.len) (fun cdv A outer s H E hr=>(al (av (cw (aa (v_mod (bf (vn 0) ae) (bf (vn 0) ae)) (aa (bf (vn 0) ae) ac)))))) ?_;rintro ws Q ⟨q,rfl,h,hQ⟩;refine aF ?_;have cd:cu q.num q.den:=⟨by have:=eZ q;omega,D9 (xQ h) (Ez (by decide) (by decide))⟩;have dz:(q.den:Int)≠0:=by have:=eZ q;omega
 simp_arith only[aj,ah,DX,zm];exact aI hQ
theorem qH{n d k:Int}(h:d≠0):qd (n-d*k) d=qd n d-k:=by
 have hd:(d:Rat)≠0:=by intro z;exact h (by exact_mod_cast z)
 unfold qd;rw[Rat.intCast_sub,IN];generalize (d:Rat)=D at *;generalize (n:Rat)=N;generalize (k:Rat)=K
 grind
theorem yh(q:Rat):(∃n:Int,BJ q=q-n)/\0<=BJ q/\BJ q<1:=by
 have hd:=eZ q;have e1:=Int.mul_fdiv_add_fmod q.num q.den;refine⟨⟨q.num.fdiv q.den,?_⟩,pc hd (Fz _ hd),qG hd (GF _ hd)⟩;have e2:q.num.fmod q.den=q.num-q.den*q.num.fdiv q.den:=by omega
 show qd (q.num.fmod q.den) q.den=_;rw[e2,qH (by omega),mv]
theorem Bb{n:Int}(h1:(-1:Rat)<n)(h2:(n:Rat)<1):n=0:=by
 have a:(0:Int)<n+1:=by
  have:((0:Int):Rat)<((n+1:Int):Rat):=by rw[IP];have:((0:Int):Rat)=0:=rfl;have:((1:Int):Rat)=1:=rfl;grind
  exact_mod_cast this
 have b:n<1:=by exact_mod_cast h2
 omega
theorem yg{y:Rat}(n:Int)(e:y=q+n)(h0:0<=y)(h1:y<1):BJ q=y:=by
 obtain⟨⟨m,em⟩,a0,a1⟩:=yh q;have k:((m+n:Int):Rat)=y-BJ q:=by rw[IP,em,e];grind
 have z:=Bb (n:=m+n) (by rw[k];grind) (by rw[k];grind);rw[z]at k;have:((0:Int):Rat)=0:=rfl
 grind
noncomputable def dA(s:Rat)(B:Int):Prop:=0<s.num/\s.num<(s.den:Int)/\(s.den:Int)<=B
theorem dA.sm{s:Rat}{B:Int}(h:dA s B)(hB:B<=10^9):Cm 30 s:=by
 obtain⟨h1,h2,h3⟩:=h;exact⟨by omega,by omega⟩
abbrev ptQ(s:Rat)(n:Int):Int:=Gap.pt s.num s.den n
theorem k6(i:Int)(d:Nat):i.fmod (d:Int)=i%(d:Int):=IU _ (by omega)
theorem uL(s:Rat)(n:Int):BJ (0+(n:Rat)*s)=qd (ptQ s n) s.den:=by
 have hd:=eZ s;obtain⟨b0,b1⟩:=Gap.pt_bd (p:=s.num) (n:=n) hd;have e:=Gap.pt_eq s.num s.den n;refine yg (-(n*s.num / (s.den:Int))) ?_ (pc hd b0) (qG hd b1);show qd (Gap.pt s.num s.den n) s.den=_;rw[e,show n*s.num-n*s.num / (s.den:Int)*(s.den:Int)=n*s.num-(s.den:Int)*(n*s.num / (s.den:Int)) by rw[GW (s.den:Int)],qH (by omega),Rat.intCast_neg]
 have e2:qd (n*s.num) s.den=(n:Rat)*s:=by
  have e3:s=qd s.num s.den:=(mv s).symm;unfold qd;rw[IN];have:((s.num:Int):Rat) / ((s.den:Int):Rat)=s:=e3.symm;rw[H0,Rat.mul_assoc,<- H0,this]
 rw[e2];grind
noncomputable def CY(s:Rat)(n:Int):Rat:=qd (ptQ s n) s.den
theorem kY{s:Rat}{B:Int}(h:dA s B)(hB:B<=10^9)(n:Int):Cm 31 (CY s n):=by
 have hd:=eZ s;obtain⟨b0,b1⟩:=Gap.pt_bd (p:=s.num) (n:=n) hd;obtain⟨h1,h2,h3⟩:=h;have b0:0<=ptQ s n:=b0;have b1:ptQ s n<s.den:=b1;exact yU hd (by omega) (by omega)
theorem ir{n:Int}{k:Nat}(h:n.natAbs<2^k)(hk:0<k):Cm k (n:Rat):=⟨by rw[Rat.num_intCast];exact h,by rw[Rat.den_intCast];exact Nat.one_lt_two_pow (by omega)⟩
theorem hJ(s:Rat)(u v:Int):((v:Rat)*CY s u+(u:Rat)*(1-CY s v)=1)↔v*ptQ s u+u*((s.den:Int)-ptQ s v)=s.den:=by
 have hd:=eZ s
 have hz:((s.den:Int):Rat)≠0:=fun z=>by
  have z2:(s.den:Int)=0:=by exact_mod_cast z
  omega
 have e:((v*ptQ s u+u*((s.den:Int)-ptQ s v):Int):Rat)=((v:Rat)*CY s u+(u:Rat)*(1-CY s v))*((s.den:Int):Rat):=by
  unfold CY qd;rw[IP,IN,IN,Rat.intCast_sub];generalize ((s.den:Int):Rat)=D at *;generalize ((ptQ s u:Int):Rat)=A;generalize ((ptQ s v:Int):Rat)=C;generalize (u:Rat)=U;generalize (v:Rat)=V
  grind
 constructor
 · intro h;rw[h,Rat.one_mul]at e
   exact_mod_cast e
 · intro h;rw[h]at e;have e:((s.den:Int):Rat)*1=((s.den:Int):Rat)*((v:Rat)*CY s u+(u:Rat)*(1-CY s v)):=by rw[Rat.mul_one,Rat.mul_comm];exact e
   generalize ((s.den:Int):Rat)=D at *;generalize (v:Rat)*CY s u+(u:Rat)*(1-CY s v)=x at *
   grind
noncomputable def Cq(N:Int):D2->Bool
 | .int i=>decide (0<i)&&decide (i<N)
 | _=>false
noncomputable def Cp(N:Int):D2->Bool
 | .tuple [x,y]=>Cq N x&&Cq N y
 | _=>false
noncomputable def Cw(s:Rat)(N:Int)(d:D2):Option Str:=match d with
 | .tuple [.int u,.int v]=>if Cp N (.tuple [.int u,.int v])=true then(if u+v<N then some ("few" : Str)else if v*ptQ s u+u*((s.den:Int)-ptQ s v)=s.den then none else some ("round" : Str))else some ("shape" : Str)
 | _=>some ("shape" : Str)
theorem gq:Cq N d=true↔∃i,d = .int i/\0<i/\i<N:=by
 cases d<;>simp[Cq]
theorem yY:Cp N d=true↔∃u v,d = .tuple [.int u,.int v]/\0<u/\u<N/\0<v/\v<N:=by
 constructor
 · intro h;unfold Cp at h;split at h
   · rw[Hr,gq,gq]at h;obtain⟨⟨u,rfl,u0,u1⟩,v,rfl,v0,v1⟩:=h;exact⟨u,v,rfl,u0,u1,v0,v1⟩
   · cases h
 · rintro⟨u,v,rfl,u0,u1,v0,v1⟩;unfold Cp;rw[Hr,gq,gq];exact⟨⟨u,rfl,u0,u1⟩,v,rfl,v0,v1⟩
theorem v_(h:jX d "tuple" = false):Cp N d=false:=by
 cases d with
 | tuple xs=>exact absurd h (by unfold jX;simp[BV])
 | _=>rfl
theorem tq(h:xs.length≠2):Cp N (.tuple xs)=false:=by
 rcases xs with _|⟨a,_|⟨b,_|⟨c,xs⟩⟩⟩
 · rfl
 · rfl
 · exact absurd rfl h
 · rfl
theorem qL{s:Rat}(h:Cp N d=false):Cw s N d=some ("shape" : Str):=by
 unfold Cw;split
 · rw[if_neg (by rw[h];decide)]
 · rfl
theorem qM{s:Rat}{v:Int}(h:Cp N (.tuple [.int u,.int v])=true):Cw s N (.tuple [.int u,.int v])=if u+v<N then some ("few" : Str)else if v*ptQ s u+u*((s.den:Int)-ptQ s v)=s.den then none else some ("round" : Str):=if_pos h
theorem pE{s:Rat}:Cw s N d=none↔∃u v,d = .tuple [.int u,.int v]/\Gap.Nb s.num s.den N u v:=by
 cases h:Cp N d with
 | false =>
   rw[qL h];constructor
   · intro e;cases e
   · rintro⟨u,v,rfl,a⟩;rw[yY.mpr ⟨u,v,rfl,a.u0,a.uN,a.v0,a.vN⟩]at h
     cases h
 | true =>
   obtain⟨u,v,rfl,u0,u1,v0,v1⟩:=yY.mp h;rw[qM h];constructor
   · intro e;split at e
     · cases e
     · rename_i g;split at e
       · rename_i g2;exact⟨u,v,rfl,u0,u1,v0,v1,by omega,g2⟩
       · cases e
   · rintro⟨u',v',e,a⟩;simp only[EY,Eu,Gh,and_true]at e;obtain⟨rfl,rfl⟩:=e;rw[if_neg (by have:=a.few;omega),if_pos a.round]
noncomputable def bC:List W->(D2->Prop)->Prop:=fun ws Q=>∃(d:D2),ws=[.d d]/\(True)/\Q (.bool (bV d))
theorem bC.mono:∀ws (Q Q':D2->Prop),(∀d,Q d->Q' d)->bC ws Q->bC ws Q':=fun _ _ _ h_=>Eo fun _=>Ed (Ed (h_ _))
theorem bC.len:∀ws (Q:D2->Prop),bC ws Q->ws.length=1:=fun _ _ h_=>by obtain⟨_,e_,_⟩:=h_;subst e_;rfl
theorem bC.eq(d:D2)  : bC [.d d]=VL.ret (.bool (bV d):D2):=by
 refine af fun Q=>⟨?_,fun q_=>⟨d,rfl,trivial,q_⟩⟩;rintro⟨d',e_,_,q_⟩;simp_arith only[and_true]at e_;obtain rfl:=e_;exact q_
theorem iU:FnScope ["thing"] ["thing"] (defScope (top 7)):=⟨rfl,rfl,rfl,by decide +kernel,rfl,by decide +kernel,by decide +kernel⟩
theorem d_is_whole(Fn:FnIn K mg "is_whole" (top 7) ["thing"])(Z:Bz mg)    : Dfn P w K mg base rl "is_whole" ["thing"] 1 bC:=by
 have sc:=iU;refine Dfn.of Fn sc (bC.mono) (bC.len) (fun cdv A outer s H E hr=>(al (av (v_and (rO Z.isinstance_ (aa (vn 0) (aa (sV Z.int_ (by rfl)) ac))) (lH (v_not (rO Z.isinstance_ (aa (vn 0) (aa (sV Z.bool_ (by rfl)) ac))))))))) ?_;rintro ws Q ⟨d,rfl,_,hQ⟩;refine aF ?_;have tb:=qA;have ti:=qz;simp_arith only[aj,ah,qA,qz];unfold bV at hQ;cases h:jX d "int" <;> rw[h]at hQ<;>exact aI hQ
noncomputable def bD:List W->(D2->Prop)->Prop:=fun ws Q=>∃(d:D2)(m:Int),ws=[.d d,.d (.int m)]/\(True)/\Q (.bool (io d m))
theorem bD.mono:∀ws (Q Q':D2->Prop),(∀d,Q d->Q' d)->bD ws Q->bD ws Q':=fun _ _ _ h_=>Eo fun _=>Eo fun _=>Ed (Ed (h_ _))
theorem bD.len:∀ws (Q:D2->Prop),bD ws Q->ws.length=2:=fun _ _ h_=>by obtain⟨_,_,e_,_⟩:=h_;subst e_;rfl
theorem bD.eq(d:D2)(m:Int)  : bD [.d d,.d (.int m)]=VL.ret (.bool (io d m):D2):=by
 refine af fun Q=>⟨?_,fun q_=>⟨d,m,rfl,trivial,q_⟩⟩;rintro⟨d',m',e_,_,q_⟩;simp_arith only[and_true]at e_;obtain⟨rfl,rfl⟩:=e_;exact q_
theorem iV:FnScope ["thing", "many"] ["thing", "many"] (defScope (top 8)):=⟨rfl,rfl,rfl,by decide +kernel,rfl,by decide +kernel,by decide +kernel⟩
theorem d_is_place(Fn:FnIn K mg "is_place" (top 8) ["thing", "many"])(Z:Bz mg)(d_is_whole:∀rl,Dfn P w K mg base rl "is_whole" ["thing"] 1 bC)   : Dfn P w K mg base rl "is_place" ["thing", "many"] 2 bD:=by
 have sc:=iV;refine Dfn.of Fn sc (bD.mono) (bD.len) (fun cdv A outer s H E hr=>(al (av (v_and (am (d_is_whole _) (hr.mono (by decide)) (aa (vn 0) ac)) (lH (rR kO fC ae (vn 0) (vn 1))))))) ?_;rintro ws Q ⟨d,m,rfl,_,hQ⟩;refine aF ?_;simp_arith only[aj,ah,bC.eq]
 cases h:bV d with
 | false=>rw[pQ h]at hQ;exact aI hQ
 | true =>
   obtain⟨i,rfl⟩:=qR.mp h;simp_arith only[aj,ah,bC.eq];exact aI hQ
noncomputable def aK:List W->(D2->Prop)->Prop:=fun ws Q=>∃(s t:Rat)(n:Int),ws=[.d (fr s),.d (fr t),.d (.int n)]/\((Cm 600 s)/\(Cm 600 t)/\(n.natAbs<2^600))/\Q (fr (BJ (s+(n:Rat)*t)))
theorem aK.mono:∀ws (Q Q':D2->Prop),(∀d,Q d->Q' d)->aK ws Q->aK ws Q':=fun _ _ _ h_=>Eo fun _=>Eo fun _=>Eo fun _=>Ed (Ed (h_ _))
theorem aK.len:∀ws (Q:D2->Prop),aK ws Q->ws.length=3:=fun _ _ h_=>by obtain⟨_,_,_,e_,_⟩:=h_;subst e_;rfl
theorem aK.eq(s t:Rat)(n:Int)(h1:Cm 600 s)(h2:Cm 600 t)(h3:n.natAbs<2^600):aK [.d (fr s),.d (fr t),.d (.int n)]=VL.ret (fr (BJ (s+(n:Rat)*t)):D2):=by
 refine af fun Q=>⟨?_,fun q_=>⟨s,t,n,rfl,⟨h1,h2,h3⟩,q_⟩⟩;rintro⟨s',t',n',e_,_,q_⟩;simp_arith only[gB,cJ,cK,bT,bM,cM]at e_;obtain⟨rfl,rfl,rfl⟩:=e_;exact q_
theorem fA:FnScope ["start", "step", "n"] ["start", "step", "n"] (defScope (top 18)):=⟨rfl,rfl,rfl,by decide +kernel,rfl,by decide +kernel,by decide +kernel⟩
theorem d_step_number(Fn:FnIn K mg "step_number" (top 18) ["start", "step", "n"])(Z:Bz mg)(d_wrapped:∀rl,Dfn P w K mg base rl "wrapped" ["one"] 1 bN)(d_plus:∀rl,Dfn P w K mg base rl "plus" ["one", "other"] 3 dh)(d_times:∀rl,Dfn P w K mg base rl "times" ["one", "other"] 3 cA)   : Dfn P w K mg base rl "step_number" ["start", "step", "n"] 4 aK:=by
 have sc:=fA;refine Dfn.of Fn sc (aK.mono) (aK.len) (fun cdv A outer s H E hr=>(al (av (am (d_wrapped _) (hr.mono (by decide)) (aa (am (d_plus _) (hr.mono (by decide)) (aa (vn 0) (aa (am (d_times _) (hr.mono (by decide)) (aa (cw (aa (vn 2) (aa ae ac))) (aa (vn 1) ac))) ac))) ac))))) ?_;rintro ws Q ⟨s,t,n,rfl,⟨h1,h2,h3⟩,hQ⟩;refine aF ?_;have e:Il [.int n,.int 1]=fr (n:Rat):=rfl;have s1:Cm 2000 (n:Rat):=(ir h3 (by decide)).mono (by decide);have s2:Cm 2000 t:=h2.mono (by decide);have s3:Cm 2000 ((n:Rat)*t):=(jS (ir h3 (by decide)) h2).mono (by decide);have s4:Cm 2000 s:=h1.mono (by decide);have s5:Cm 2000 (s+(n:Rat)*t):=(oH h1 (jS (ir h3 (by decide)) h2)).mono (by decide);simp_arith only[aj,ah,bN.eq,dh.eq,cA.eq,DX,e];exact aI hQ
noncomputable def aY:List W->(D2->Prop)->Prop:=fun ws Q=>∃(s:Rat)(n:Int),ws=[.d (fr s),.d (.int n)]/\((∃B,dA s B/\B<=10^9)/\(n.natAbs<2^600))/\Q (fr (CY s n))
theorem aY.mono:∀ws (Q Q':D2->Prop),(∀d,Q d->Q' d)->aY ws Q->aY ws Q':=fun _ _ _ h_=>Eo fun _=>Eo fun _=>Ed (Ed (h_ _))
theorem aY.len:∀ws (Q:D2->Prop),aY ws Q->ws.length=2:=fun _ _ h_=>by obtain⟨_,_,e_,_⟩:=h_;subst e_;rfl
theorem aY.eq(s:Rat)(n:Int)(h1:∃B,dA s B/\B<=10^9)(h3:n.natAbs<2^600):aY [.d (fr s),.d (.int n)]=VL.ret (fr (CY s n):D2):=by
 refine af fun Q=>⟨?_,fun q_=>⟨s,n,rfl,⟨h1,h3⟩,q_⟩⟩;rintro⟨s',n',e_,_,q_⟩;simp_arith only[gB,cJ,cK,bT,bM,cM]at e_;obtain⟨rfl,rfl⟩:=e_;exact q_
theorem g8:FnScope ["step", "u"] ["step", "u"] (defScope (top 21)):=⟨rfl,rfl,rfl,by decide +kernel,rfl,by decide +kernel,by decide +kernel⟩
theorem d_gap_above(Fn:FnIn K mg "gap_above" (top 21) ["step", "u"])(Z:Bz mg)(d_step_number:∀rl,Dfn P w K mg base rl "step_number" ["start", "step", "n"] 4 aK)(gl_ZERO:GlD K mg "ZERO" (pr 0 1))  : Dfn P w K mg base rl "gap_above" ["step", "u"] 5 aY:=by
 have sc:=g8;refine Dfn.of Fn sc (aY.mono) (aY.len) (fun cdv A outer s H E hr=>(al (av (am (d_step_number _) (hr.mono (by decide)) (aa (jC gl_ZERO) (aa (vn 0) (aa (vn 1) ac))))))) ?_;rintro ws Q ⟨s,n,rfl,⟨h1,h3⟩,hQ⟩;refine aF ?_;obtain⟨B,h1,hB⟩:=h1;have s1:Cm 600 s:=(h1.sm hB).mono (by decide);have s2:Cm 600 (0:Rat):=Bk.mono (by decide);have s3:Cm 2000 (CY s n):=(kY h1 hB n).mono (by decide);have s4:Cm 2000 (1:Rat):=Ay.up;have e:fr (BJ (0+(n:Rat)*s))=fr (CY s n):=congrArg fr (uL s n);simp_arith only[aj,ah,aK.eq,DX,e];exact aI hQ
noncomputable def aX:List W->(D2->Prop)->Prop:=fun ws Q=>∃(s:Rat)(n:Int),ws=[.d (fr s),.d (.int n)]/\((∃B,dA s B/\B<=10^9)/\(n.natAbs<2^600))/\Q (fr (1-CY s n))
theorem aX.mono:∀ws (Q Q':D2->Prop),(∀d,Q d->Q' d)->aX ws Q->aX ws Q':=fun _ _ _ h_=>Eo fun _=>Eo fun _=>Ed (Ed (h_ _))
theorem aX.len:∀ws (Q:D2->Prop),aX ws Q->ws.length=2:=fun _ _ h_=>by obtain⟨_,_,e_,_⟩:=h_;subst e_;rfl
theorem aX.eq(s:Rat)(n:Int)(h1:∃B,dA s B/\B<=10^9)(h3:n.natAbs<2^600):aX [.d (fr s),.d (.int n)]=VL.ret (fr (1-CY s n):D2):=by
 refine af fun Q=>⟨?_,fun q_=>⟨s,n,rfl,⟨h1,h3⟩,q_⟩⟩;rintro⟨s',n',e_,_,q_⟩;simp_arith only[gB,cJ,cK,bT,bM,cM]at e_;obtain⟨rfl,rfl⟩:=e_;exact q_
theorem g7:FnScope ["step", "v"] ["step", "v"] (defScope (top 22)):=⟨rfl,rfl,rfl,by decide +kernel,rfl,by decide +kernel,by decide +kernel⟩
theorem d_gap_below(Fn:FnIn K mg "gap_below" (top 22) ["step", "v"])(Z:Bz mg)(d_less:∀rl,Dfn P w K mg base rl "less" ["one", "other"] 3 eN)(d_step_number:∀rl,Dfn P w K mg base rl "step_number" ["start", "step", "n"] 4 aK)(gl_ONE:GlD K mg "ONE" (pr 1 1))(gl_ZERO:GlD K mg "ZERO" (pr 0 1))  : Dfn P w K mg base rl "gap_below" ["step", "v"] 5 aX:=by
 have sc:=g7;refine Dfn.of Fn sc (aX.mono) (aX.len) (fun cdv A outer s H E hr=>(al (av (am (d_less _) (hr.mono (by decide)) (aa (jC gl_ONE) (aa (am (d_step_number _) (hr.mono (by decide)) (aa (jC gl_ZERO) (aa (vn 0) (aa (vn 1) ac)))) ac)))))) ?_;rintro ws Q ⟨s,n,rfl,⟨h1,h3⟩,hQ⟩;refine aF ?_;obtain⟨B,h1,hB⟩:=h1;have s1:Cm 600 s:=(h1.sm hB).mono (by decide);have s2:Cm 600 (0:Rat):=Bk.mono (by decide);have s3:Cm 2000 (CY s n):=(kY h1 hB n).mono (by decide);have s4:Cm 2000 (1:Rat):=Ay.up;have e:fr (BJ (0+(n:Rat)*s))=fr (CY s n):=congrArg fr (uL s n);simp_arith only[aj,ah,eN.eq,aK.eq,DX,e];exact aI hQ
noncomputable def bP:List W->(D2->Prop)->Prop:=fun ws Q=>∃(N:Int)(d:D2),ws=[.d (.int N),.d d]/\(True)/\Q (.bool (Cp N d))
theorem bP.mono:∀ws (Q Q':D2->Prop),(∀d,Q d->Q' d)->bP ws Q->bP ws Q':=fun _ _ _ h_=>Eo fun _=>Eo fun _=>Ed (Ed (h_ _))
theorem bP.len:∀ws (Q:D2->Prop),bP ws Q->ws.length=2:=fun _ _ h_=>by obtain⟨_,_,e_,_⟩:=h_;subst e_;rfl
theorem bP.eq(N:Int)(d:D2)  : bP [.d (.int N),.d d]=VL.ret (.bool (Cp N d):D2):=by
 refine af fun Q=>⟨?_,fun q_=>⟨N,d,rfl,trivial,q_⟩⟩;rintro⟨N',d',e_,_,q_⟩;simp_arith only[and_true]at e_;obtain⟨rfl,rfl⟩:=e_;exact q_
theorem kG:FnScope ["many", "thing"] ["many", "thing"] (defScope (top 20)):=⟨rfl,rfl,rfl,by decide +kernel,rfl,by decide +kernel,by decide +kernel⟩
theorem d_is_pair(Fn:FnIn K mg "is_pair" (top 20) ["many", "thing"])(Z:Bz mg)(d_is_place:∀rl,Dfn P w K mg base rl "is_place" ["thing", "many"] 2 bD)   : Dfn P w K mg base rl "is_pair" ["many", "thing"] 3 bP:=by
 have sc:=kG
 refine Dfn.of Fn sc (bP.mono) (bP.len) (fun cdv A outer s H E hr=>(ai (bY (DB.pb (u4 (cQ (dM (rO Z.isinstance_ (aa (vn 1) (aa (sV Z.tuple_ (by rfl)) ac))))) (qr (bA (dR hr.units) cp (aQ _) (rN Z.len_ (aa (vn 1) ac)) ae)))) (al (av b5)) bw)
  (al (av (v_all Z.all_ (aa (cD ["n", "many"] [none,some 0] rfl (dL (vn 1)) (fun _=>(aA 0 (show G0 (["n", "many"]:List Str) by decide +kernel))) (fun _=>cP) (fun _=>(v_and (am (d_is_place _) (hr.mono (by decide)) (aa (vn 0) (aa (vn 1) ac))) (lH (oZ kP oV (aQ _) (vn 0) ae))))) ac)))))) ?_
 rintro ws Q ⟨N,d,rfl,_,hQ⟩;refine aF ?_;simp_arith only[aj,ah,bD.eq,vy]
 cases ht:jX d "tuple" with
 | false=>rw[v_ ht]at hQ;exact aI hQ
 | true =>
   obtain⟨xs,rfl⟩:=nB ht;by_cases hl:xs.length=2
   · obtain⟨x,y,rfl⟩:=kz hl;have sz:=E8;have one:∀x:D2,(if io x N=true then(VL.ret (Et 0):Mo D2)else VL.ret (Et 0))=VL.ret (Et 0):=fun x=>by split<;>rfl
     simp_arith only[aj,ah,bD.eq];refine cC (xs:=[x,y]) (enc:=id) (fun z=>.bool (Cq N z)) rfl ?_ (by show 2<=sizeLine;omega) ?_
     · intro z mz;simp_arith only[aj,ah,CK,bD.eq,id_eq]
       cases hz:io z N with
       | false =>
         have:Cq N z=false:=by
          cases h:Cq N z with
          | false=>rfl
          | true=>obtain⟨i,rfl,i0,i1⟩:=gq.mp h;simp[io]at hz;omega
         simp_arith only[aj,ah,this]
       | true =>
         obtain⟨k,rfl,k0,k9⟩:=nD hz;have:Cq N (.int k)=decide (0<k):=by simp[Cq,k9]
         simp_arith only[aj,ah,this]
     · simp_arith only[aj,ah];refine aI ?_;have e:Cp N (.tuple [x,y])=(Cq N x&&(Cq N y&&true)):=by simp[Cp]
       rw[e]at hQ;exact hQ
   · have t:((xs.length:Int)==2)=false:=by simp;omega
     rw[tq hl]at hQ;simp_arith only[aj,ah,bD.eq,t];exact aI hQ
noncomputable def bQ:List W->(D2->Prop)->Prop:=fun ws Q=>∃(b:Bool)(qs:List Rat),ws=[.d (B_ b qs)]/\((qs.length<60)/\(∀q∈qs,Cm 2000 q))/\∀rs:List Rat,(dw qs rs)->Q (.tuple (rs.map fr))
theorem bQ.mono:∀ws (Q Q':D2->Prop),(∀d,Q d->Q' d)->bQ ws Q->bQ ws Q':=fun _ _ _ h_=>Eo fun _=>Eo fun _=>Ed (Ed fun q_ o_ ho_=>h_ _ (q_ o_ ho_))
theorem bQ.len:∀ws (Q:D2->Prop),bQ ws Q->ws.length=1:=fun _ _ h_=>by obtain⟨_,_,e_,_⟩:=h_;subst e_;rfl
theorem bQ.eq(b:Bool)(qs:List Rat)(hl:qs.length<60)(hq:∀q∈qs,Cm 2000 q):bQ [.d (B_ b qs)]=C5 (anyM fun rs:List Rat=>dw qs rs) fun rs=>VL.ret (.tuple (rs.map fr):D2):=by
 refine af fun Q=>⟨?_,fun q_=>⟨b,qs,rfl,⟨hl,hq⟩,q_⟩⟩;rintro⟨b',qs',e_,_,q_⟩;simp_arith only[gB,cJ,cK,bT,bM,cM,yO]at e_;obtain⟨rfl,rfl⟩:=e_;exact q_
theorem kH:FnScope ["some", "bottom", "scale", "by_size"] ["some"] (defScope (top 16)):=⟨rfl,rfl,rfl,by decide +kernel,rfl,by decide +kernel,by decide +kernel⟩
theorem d_in_size(Fn:FnIn K mg "in_size" (top 16) ["some"])(Z:Bz mg)    : Dfn P w K mg base rl "in_size" ["some"] 1 bQ:=by
 have sc:=kH
 refine Dfn.of Fn sc (bQ.mono) (bQ.len) (fun cdv A outer s H E hr=>(ai (aC 1 sc.nd (u_ rfl Z.max_ (aa (cD ["one"] [none] rfl (qq (vn 0)) (fun _=>(aA 0 (show G0 (["one"]:List Str) by decide +kernel))) (fun _=>cP) (fun _=>(bf (vn 0) ae))) ac) ae))
  (ai (aC 2 sc.nd (v_mul (vn 1) (vn 1)))
  (ai (iN 3 sc.nd ["one", "scale"] [none,some 2] rfl (qq (vn 0)) (fun _=>(aA 0 (show G0 (["one", "scale"]:List Str) by decide +kernel))) (fun _=>cP) (fun _=>(v_div (v_mul (bf (vn 0) ae) (vn 1)) (bf (vn 0) ae))) (fun _=>(vn 0)))
  (al (av (lE Z.tuple_ (aa (cD ["size", "by_size"] [none,some 3] rfl (iO (lG rfl Z.sorted_ (aa (vn 3) ac))) (fun _=>(aA 0 (show G0 (["size", "by_size"]:List Str) by decide +kernel))) (fun _=>cP) (fun _=>(rQ hr.un1 (vn 1) (vn 0)))) ac)))))))) ?_
 rintro ws Q ⟨b,qs,rfl,⟨hl,hq⟩,hQ⟩;refine aF ?_;have sz:=E8;simp_arith only[aj,ah,DY,DU,DW,cU,DX];refine B9 (cC (xs:=qs) (enc:=fr) (fun q=>.int q.den) rfl ?_ (by omega) ?_)
 · intro q mq;simp_arith only[aj,ah,CK,DX]
 have e1:qs.map (fun q=>Et q.den)=(qs.map fun q=>(q.den:Int)).map .int:=by rw[Fa];rfl
 rw[e1];obtain⟨mx1,mx2⟩:=wA (qs.map fun q=>(q.den:Int));have hB:∀q∈qs,(q.den:Int)<=CB 1 (qs.map fun q=>(q.den:Int)):=fun q mq=>mx1 _ (EV.mpr ⟨q,mq,rfl⟩)
 have bB:DT (CB 1 (qs.map fun q=>(q.den:Int))):=by
  rcases mx2 with z|z
  · rw[z];exact gJ (by decide)
  · obtain⟨q,mq,e⟩:=EV.mp z;rw[<- e];exact gJ (xQ (hq q mq))
 have b2:(CB 1 (qs.map fun q=>(q.den:Int))).natAbs<2^2000:=by
  rcases mx2 with z|z
  · rw[z];decide
  · obtain⟨q,mq,e⟩:=EV.mp z;rw[<- e];exact xQ (hq q mq)
 simp_arith only[aj,ah,DY,DU,DW,cU,DX];generalize CB 1 (qs.map fun q=>(q.den:Int))=B at *;have cm:aZ B B:=.bb bB bB
 have bS:DT (B*B):=by
  unfold DT;rw[Hj];exact D9 (JP b2 b2) (by rw[<- LL];exact Ez (by decide) (by decide))
 simp_arith only[aj,ah,DY,DU,DW,cU,DX];refine B9 (ul (xs:=qs) (enc:=fr) (fun q=>((Gj (B7 (B*B) q):DH),fr q)) rfl ?_ (by omega) ?_)
 · intro q mq;have c1:aZ q.num (B*B):=.bb (hq q mq).bn bS;have c2:cu (q.num*(B*B)) q.den:=⟨by have:=eZ q;omega,D9 (xQ (hq q mq)) (Ez (by decide) (by decide))⟩;simp_arith only[aj,ah,CM,DY,DU,DW,cU,DX];rfl
 obtain⟨ms,f1,f2,f3,f4,f5⟩:=uf (B7 (B*B)) qs fun q r mq mr e=>lU (hB q mq) (hB r mr) e;have ef:((qs.map fun q=>((Gj (B7 (B*B) q):DH),fr q)).foldl (fun a p=>VL.putF a p.1 p.2) [])=ug (B7 (B*B)) qs:=rfl;rw[ef];simp_arith only[aj,ah,DY,DU,DW,cU,DX];refine sw ms f1 (by omega) ?_;intro ns pm pw;obtain⟨rs,er,hr,so⟩:=lW hB f2 f3 pm pw;subst er;have lr:=kD so;simp_arith only[aj,ah,DY,DU,DW,cU,DX];refine cC (xs:=rs) (enc:=fun r=>Et (B7 (B*B) r)) fr (by rw[Fa];rfl) ?_ (by omega) ?_
 · intro r mr;have v:=f4 r (hr r mr);simp_arith only[aj,ah,CK,DY,DU,DW,cU,DX,v]
 exact aI (hQ rs so)
namespace Ct
section
variable{α κ:Type}[DecidableEq α][DecidableEq κ]
noncomputable def getC(m:List (α×Int))(k:α):Option Int:=(m.find? fun p=>decide (p.1=k)).map (·.2)
noncomputable def addC(m:List (α×Int))(k:α)(o:Int):List (α×Int) :=
 if(m.any fun p=>decide (p.1=k))=true then m.map (fun p=>if p.1=k then(p.1,(getC m k).getD 0+o)else p)else m++[(k,(getC m k).getD 0+o)]
noncomputable def total(xs:List (α×Int))(k:α):Int:=(xs.map fun p=>if p.1=k then p.2 else 0).sum
structure Cnts (xs m:List (α×Int)):Prop where
 nd:(m.map (·.1)).Nodup
 val:∀k,getC m k=if k∈xs.map (·.1)then some (total xs k)else none
theorem Cnts.nil:Cnts ([]:List (α×Int)) []:=⟨GZ,fun k=>rfl⟩
theorem kB(xs:List (α×Int))(j k:α)(o:Int):total (xs++[(j,o)]) k=total xs k+if j=k then o else 0:=by simp[total]
theorem gU{k:α}:∀{xs:List (α×Int)},k∉xs.map (·.1)->total xs k=0
 | [],_=>rfl
 | p::xs,h=>by
   rw[Er,Ev,not_or]at h;have:=gU (xs:=xs) h.2;unfold total at *;rw[Er,Fd,if_neg (GM h.1),this];rfl
theorem nV{m:List (α×Int)}{k:α}:getC m k=none↔k∉m.map (·.1):=by
 unfold getC;rw[JY,HP,EV];constructor
 · rintro h ⟨p,mp,e⟩;exact h p mp (by simpa using e)
 · intro h p mp e;exact h ⟨p,mp,by simpa using e⟩
theorem getC_mem{m:List (α×Int)}{k:α}:k∈m.map (·.1)↔∃c,getC m k=some c:=by
 rw[<- Gc,<- Decidable.not_iff_not,Bool.not_eq_true,Option.isSome_eq_false_iff,Hn,nV]
theorem zt{m:List (α×Int)}{k:α}:(m.any fun p=>decide (p.1=k))=true↔k∈m.map (·.1):=by
 rw[JQ,EV];constructor
 · rintro⟨p,a,b⟩;exact⟨p,a,of_decide_eq_true b⟩
 · rintro⟨p,a,b⟩;exact⟨p,a,decide_eq_true b⟩
theorem getC_add(m:List (α×Int))(j k:α)(o:Int):getC (addC m j o) k=if j=k then some ((getC m j).getD 0+o)else getC m k:=by
 unfold addC;generalize hv:(getC m j).getD 0+o=v;clear hv;by_cases c:(m.any fun p=>decide (p.1=j))=true
 · rw[if_pos c];have mj:=zt.mp c;unfold getC;rw[List.find?_map]
   have e:((fun p:α×Int=>decide (p.1=k)) ∘ fun p:α×Int=>if p.1=j then(p.1,v)else p)=fun p=>decide (p.1=k):=by
    funext p;show decide ((if p.1=j then(p.1,v)else p).1=k)=_;split<;>rfl
   rw[e];by_cases jk:j=k
   · subst jk;rw[if_pos rfl];obtain⟨x,hx⟩:=getC_mem.mp mj;unfold getC at hx
     cases hf:m.find? (fun p=>decide (p.1=j))with
     | none=>rw[hf]at hx;cases hx
     | some p =>
       have:=HQ hf;have:p.1=j:=of_decide_eq_true this;simp[this]
   · rw[if_neg jk]
     cases hf:m.find? (fun p=>decide (p.1=k))with
     | none=>rfl
     | some p =>
       have:=HQ hf;have:p.1=k:=of_decide_eq_true this;simp only[Option.map_some];rw[if_neg (fun z=>jk (z.symm.trans this))]
 · rw[if_neg c];have mj:j∉m.map (·.1):=fun z=>c (zt.mpr z);unfold getC;rw[List.find?_append];by_cases jk:j=k
   · subst jk;have:=nV.mpr mj;unfold getC at this;rw[JY]at this;rw[this,if_pos rfl];simp
   · rw[if_neg jk];simp[jk]
theorem nd_add{m:List (α×Int)}(h:(m.map (·.1)).Nodup)(j:α)(o:Int):((addC m j o).map (·.1)).Nodup:=by
 unfold addC;split
 · rw[Fa]
   have:((fun p:α×Int=>p.1) ∘ fun p:α×Int=>if p.1=j then(p.1,(getC m j).getD 0+o)else p)=fun p=>p.1:=by
    funext p;show(if p.1=j then(p.1,(getC m j).getD 0+o)else p).1=_;split<;>rfl
   rw[this];exact h
 · rename_i c;rw[G8]
   exact Jt.mpr ⟨h,F_.mpr ⟨FE,GZ⟩,fun a ma b mb e=>c (zt.mpr (by
    rw[Gf.mp (show b∈[j]from mb)]at e;rw[<- e];exact ma))⟩
theorem Cnts.add{xs m:List (α×Int)}(h:Cnts xs m)(j:α)(o:Int):Cnts (xs++[(j,o)]) (addC m j o):=by
 refine⟨nd_add h.nd j o,fun k=>?_⟩;rw[getC_add,kB,G8,h.val,h.val];by_cases jk:j=k
 · subst jk;rw[if_pos rfl,if_pos (show j∈xs.map (·.1)++[(j,o)].map (·.1)from EF _ (Gf.mpr rfl)),if_pos rfl];by_cases c:j∈xs.map (·.1)
   · rw[if_pos c];rfl
   · rw[if_neg c,gU c];rfl
 · rw[if_neg jk,if_neg jk,Ly];have:(k∈xs.map (·.1)++[(j,o)].map (·.1))=(k∈xs.map (·.1)):=by simp[GM jk]
   simp only[this]
noncomputable def encC(e:α->κ)(m:List (α×Int)):List (κ×D2):=m.map fun p=>(e p.1,.int p.2)
theorem enc_get{e:α->κ}(inj:∀a b,e a=e b->a=b)(m:List (α×Int))(k:α):((encC e m).find? fun kv=>decide (kv.1=e k)).map (·.2)=(getC m k).map .int:=by
 unfold encC getC;rw[List.find?_map]
 have:((fun kv:κ×D2=>decide (kv.1=e k)) ∘ fun p:α×Int=>(e p.1,Et p.2))=fun p=>decide (p.1=k):=by
  funext p;show decide (e p.1=e k)=decide (p.1=k);rw[decide_eq_decide];exact⟨inj _ _,fun z=>by rw[z]⟩
 rw[this,Jl,Jl];rfl
theorem enc_put{e:α->κ}(inj:∀a b,e a=e b->a=b)(m:List (α×Int))(k:α)(o:Int) :
 (if((encC e m).any fun kv=>decide (kv.1=e k))=true then(encC e m).map (fun kv=>if kv.1=e k then(kv.1,Et ((getC m k).getD 0+o))else kv)else encC e m++[(e k,Et ((getC m k).getD 0+o))])=encC e (addC m k o):=by
 have a:((encC e m).any fun kv=>decide (kv.1=e k))=m.any fun p=>decide (p.1=k):=by
  unfold encC;rw[List.any_map];congr 1;funext p;show decide (e p.1=e k)=decide (p.1=k);rw[decide_eq_decide];exact⟨inj _ _,fun z=>by rw[z]⟩
 rw[a];unfold addC;split
 · unfold encC;rw[Fa,Fa];refine Ht fun p _=>?_;show(if e p.1=e k then(e p.1,Et _)else(e p.1,Et p.2))=(e (if p.1=k then _ else p).1,Et (if p.1=k then _ else p).2);by_cases z:p.1=k
   · rw[if_pos z,if_pos (by rw[z])]
   · rw[if_neg z,if_neg (fun h=>z (inj _ _ h))]
 · unfold encC;rw[G8];rfl
end
end Ct
theorem oj[DecidableEq α]{e:α->List Int}(inj:∀a b,e a=e b->a=b)(m:List (α×Int))(k:α):oK (Ct.encC e m) (e k)=(Ct.getC m k).map .int:=Ct.enc_get inj m k
theorem uu[DecidableEq α]{e:α->List Int}(inj:∀a b,e a=e b->a=b)(m:List (α×Int))(k:α)(o:Int):uE (Ct.encC e m) (e k) (.int ((Ct.getC m k).getD 0+o))=Ct.encC e (Ct.addC m k o):=Ct.enc_put inj m k o
namespace Gap
structure NI (p q N u v a b:Int):Prop where
 u1:1<=u
 uN:u<N
 v1:1<=v
 vN:v<N
 a1:1<=a
 b1:1<=b
 ex:∃k l:Int,a=u*p-k*q/\b=l*q-v*p/\u*l-v*k=1
theorem NI.sum{q v a:Int}(h:NI p q N u v a b):v*a+u*b=q:=by
 obtain⟨_,_,_,_,_,_,k,l,rfl,rfl,d⟩:=h;have:v*(u*p-k*q)+u*(l*q-v*p)=(u*l-v*k)*q:=by grind
 rw[this,d];omega
theorem NI.num{q v a:Int}(h:NI p q N u v a b):∃x y:Int,p=x*a+y*b:=by
 obtain⟨_,_,_,_,_,_,k,l,rfl,rfl,d⟩:=h;refine⟨l,k,?_⟩;have:l*(u*p-k*q)+k*(l*q-v*p)=(u*l-v*k)*p:=by grind
 rw[this,d];omega
theorem NI.begin{q:Int}(h0:0<p)(h1:p<q)(hN:2<=N):NI p q N 1 1 p (q-p):=⟨by omega,by omega,by omega,by omega,by omega,by omega,0,1,by omega,by omega,by omega⟩
theorem mul_le_ge{x y:Int}(hx:1<=x)(hy:0<=y):y<=x*y:=by have:=Eh hx hy;omega
theorem NI.le{q v a:Int}(h:NI p q N u v a b):u+v<=q/\a<q/\b<q:=by
 have s:=h.sum;obtain⟨u1,_,v1,_,a1,b1,_⟩:=h;have x1:=mul_le_ge v1 (show 0<=a by omega);have x2:=mul_le_ge u1 (show 0<=b by omega);have y1:=mul_le_ge a1 (show 0<=v by omega);have y2:=mul_le_ge b1 (show 0<=u by omega);rw[GW]at y1 y2;omega
theorem NI.ne{q v a:Int}(hg:EM p q=1)(h:NI p q N u v a b)(c:u+v<q):a≠b:=by
 intro e;subst e;have s:=h.sum;obtain⟨x,y,hp⟩:=h.num;have d1:a∣p:=⟨x+y,by rw[hp];grind⟩;have d2:a∣q:=⟨v+u,by rw[<- s];grind⟩;have d:a∣(EM p q:Int):=Int.dvd_coe_gcd d1 d2;rw[hg]at d;have:a=1:=by have:=h.a1;exact Int.le_antisymm (Lf (by decide) d) this
 subst this;omega
theorem NI.up{q v a o:Int}(h:NI p q N u v a b)(h1:o*b<a)(h2:u+o*v<N)(h0:0<=o):NI p q N (u+o*v) v (a-o*b) b:=by
 obtain⟨u1,uN,v1,vN,a1,b1,k,l,ea,eb,d⟩:=h;have:=Gq h0 (show 0<=v by omega);refine⟨by omega,h2,v1,vN,by omega,b1,k+o*l,l,?_,eb,?_⟩
 · rw[ea,eb];grind
 · have:(u+o*v)*l-v*(k+o*l)=u*l-v*k:=by grind
   rw[this,d]
theorem NI.down{q v a o:Int}(h:NI p q N u v a b)(h1:o*a<b)(h2:v+o*u<N)(h0:0<=o):NI p q N u (v+o*u) a (b-o*a):=by
 obtain⟨u1,uN,v1,vN,a1,b1,k,l,ea,eb,d⟩:=h;have:=Gq h0 (show 0<=u by omega);refine⟨u1,uN,by omega,h2,a1,by omega,k,l+o*k,ea,?_,?_⟩
 · rw[ea,eb];grind
 · have:u*(l+o*k)-(v+o*u)*k=u*l-v*k:=by grind
   rw[this,d]
theorem NI.nb{q v a:Int}(h:NI p q N u v a b)(hN:N<=u+v):Nb p q N u v:=by
 have s:=h.sum;obtain⟨_,ha,hb⟩:=h.le;obtain⟨u1,uN,v1,vN,a1,b1,k,l,ea,eb,d⟩:=h;have e1:pt p q u=a:=by rw[gm (m:=k) (by omega) (by omega),ea]
 have x:(l-1)*q=l*q-q:=by rw[GI];omega
 have e2:pt p q v=q-b:=by rw[gm (m:=l-1) (by omega) (by omega)];omega
 refine⟨by omega,uN,by omega,vN,hN,?_⟩;rw[e1,e2,show q-(q-b)=b by omega];exact s
theorem often_ok{a v:Int}(hb:1<=b)(hab:b<a)(hm:1<=m)(hv:1<=v)(o:Int)(e:o=min ((a-1).fdiv b) (-((-m).fdiv v))):1<=o/\o*b<a/\o*v<m+v:=by
 have x1:(a-1).fdiv b=(a-1) / b:=EI _ (by omega);have x2:(-m).fdiv v=(-m) / v:=EI _ (by omega);rw[x1,x2]at e;have p1:1<=(a-1) / b:=(Int.le_ediv_iff_mul_le (by omega)).mpr (by omega);have q1:(a-1) / b*b<=a-1:=Int.ediv_mul_le _ (by omega);have p2:(-m) / v<0:=Int.ediv_neg_of_neg_of_pos (by omega) (by omega);have q2:(-m)<((-m) / v+1)*v:=Int.lt_ediv_add_one_mul_self _ (by omega);rw[Fq]at q2;have o1:1<=o:=by omega
 have l1:=Eh (show o<=(a-1) / b by omega) (show 0<=b by omega);have l2:=Eh (show o <= -((-m) / v) by omega) (show 0<=v by omega);rw[Int.neg_mul]at l2;exact⟨o1,by omega,by omega⟩
noncomputable def nxN(u v N n:Int):Int:=if n+u<N then n+u else if v<=n then n-v else n+u-v
section
variable{p q N u v:Int}
theorem pt_zero(p q:Int):pt p q 0=0:=by unfold pt;rw[Int.zero_mul,Int.zero_emod]
theorem mH{n:Int}(h0:0<=pt p q m+pt p q n)(h1:pt p q m+pt p q n<q):pt p q (m+n)=pt p q m+pt p q n:=by
 have e1:=pt_eq p q m;have e2:=pt_eq p q n;have e:(m+n)*p-(m*p / q+n*p / q)*q=pt p q m+pt p q n:=by rw[Fq,Fq];omega
 rw[gm (m:=m*p / q+n*p / q) (by omega) (by omega),e]
theorem gn{n:Int}(h0:q<=pt p q m+pt p q n)(h1:pt p q m+pt p q n<q+q):pt p q (m+n)=pt p q m+pt p q n-q:=by
 have e1:=pt_eq p q m;have e2:=pt_eq p q n;have e:(m+n)*p-(m*p / q+n*p / q+1)*q=pt p q m+pt p q n-q:=by rw[Fq,Fq,Fq];omega
 rw[gm (m:=m*p / q+n*p / q+1) (by omega) (by omega),e]
theorem pt_sub{n:Int}(h0:0<=pt p q m-pt p q n)(h1:pt p q m-pt p q n<q):pt p q (m-n)=pt p q m-pt p q n:=by
 have e1:=pt_eq p q m;have e2:=pt_eq p q n;have e:(m-n)*p-(m*p / q-n*p / q)*q=pt p q m-pt p q n:=by rw[GI,GI];omega
 rw[gm (m:=m*p / q-n*p / q) (by omega) (by omega),e]
theorem pt_sub1{n:Int}(h0:pt p q m-pt p q n<0)(h1:0<=pt p q m-pt p q n+q):pt p q (m-n)=pt p q m-pt p q n+q:=by
 have e1:=pt_eq p q m;have e2:=pt_eq p q n;have e:(m-n)*p-(m*p / q-n*p / q-1)*q=pt p q m-pt p q n+q:=by rw[GI,GI,GI];omega
 rw[gm (m:=m*p / q-n*p / q-1) (by omega) (by omega),e]
theorem s0(hq:0<q)(hg:EM p q=1)(hN:N<=q){n:Int}(m0:0<=m)(mN:m<N)(n0:0<=n)(nN:n<N)(e:pt p q m=pt p q n):m=n:=by
 rcases Fv m0 with a|a<;>rcases Fv n0 with b|b
 · exact mG hq hg hN a mN b nN e
 · subst b;rw[pt_zero]at e;have:=pt_pos (p:=p) (n:=m) hq hg a (by omega);omega
 · subst a;rw[pt_zero]at e;have:=pt_pos (p:=p) (n:=n) hq hg b (by omega);omega
 · omega
noncomputable def gpN(p q u v N n:Int):Int:=if n+u<N then pt p q u else if v<=n then q-pt p q v else pt p q u+(q-pt p q v)
theorem next_ok(hq:0<q)(hg:EM p q=1)(hN:N<=q)(h:Ex p q N u v)(hf:N<=u+v){n:Int}(n0:0<=n)(nN:n<N) :
 (0<=nxN u v N n/\nxN u v N n<N)/\((n=v/\nxN u v N n=0/\gpN p q u v N n=q-pt p q n) \/
  (n≠v/\pt p q (nxN u v N n)=pt p q n+gpN p q u v N n/\0<gpN p q u v N n/\∀j,0<=j->j<N->pt p q n<pt p q j->pt p q (nxN u v N n)<=pt p q j)):=by
 obtain⟨u0,uN,v0,vN,lo,hi⟩:=h;have bd:=fun n=>pt_bd (p:=p) (n:=n) hq;have inj:=fun{m n:Int}(m0:0<=m)(mN:m<N)(n0:0<=n)(nN:n<N)(e:pt p q m=pt p q n)=>s0 hq hg hN m0 mN n0 nN e;have pa:=pt_pos (p:=p) (n:=u) hq hg u0 (by omega);have pv:=pt_pos (p:=p) (n:=v) hq hg v0 (by omega);have bu:=bd u;have bv:=bd v;have bn:=bd n;unfold nxN gpN;by_cases c1:n+u<N
 · rw[if_pos c1,if_pos c1];refine⟨⟨by omega,c1⟩,.inr ⟨by omega,?_,pa,fun j j0 jN lt=>?_⟩⟩
   · by_cases w:pt p q n+pt p q u<q
     · exact mH (by omega) w
     · have e:=gn (p:=p) (q:=q) (m:=n) (n:=u) (by omega) (by omega);have:=lo (n+u) (by omega) c1;omega
   · have bj:=bd j;by_cases w:pt p q n+pt p q u<q
     · rw[mH (by omega) w];rcases Gs (pt p q j) (pt p q n+pt p q u)with b|b
       · exfalso;rcases Gv j n with x|x|x
         · have e1:=pt_sub1 (p:=p) (q:=q) (m:=n) (n:=j) (by omega) (by omega);have e2:=gn (p:=p) (q:=q) (m:=n-j) (n:=u) (by omega) (by omega);have:=lo (n-j+u) (by omega) (by omega);omega
         · subst x;omega
         · have e1:=pt_sub (p:=p) (q:=q) (m:=j) (n:=n) (by omega) (by omega);have:=lo (j-n) (by omega) (by omega);omega
       · exact b
     · exfalso;have e:=gn (p:=p) (q:=q) (m:=n) (n:=u) (by omega) (by omega);have:=lo (n+u) (by omega) c1;omega
 · rw[if_neg c1,if_neg c1];have n1:0<n:=by omega
   have hn:=hi n n1 nN
   have far:∀j,j<N->n<j->pt p q n<pt p q j->pt p q j-pt p q n<pt p q u+(q-pt p q v)->False:=fun j jN x lt b=>by
    have bj:=bd j;have e1:=pt_sub (p:=p) (q:=q) (m:=j) (n:=n) (by omega) (by omega);have l:=lo (j-n) (by omega) (by omega);rcases Fv l with l|l
    · have e2:=pt_sub1 (p:=p) (q:=q) (m:=u) (n:=j-n) (by omega) (by omega);have:=hi (u-(j-n)) (by omega) (by omega);omega
    · have:=inj (by omega) uN (by omega) (by omega) l;omega
   by_cases c2:v<=n
   · rw[if_pos c2,if_pos c2];refine⟨⟨by omega,by omega⟩,?_⟩;by_cases nv:n=v
     · subst nv;exact .inl ⟨rfl,by omega,rfl⟩
     refine .inr ⟨nv,?_,by omega,fun j j0 jN lt=>?_⟩
     all_goals
      have ne:pt p q n≠pt p q v:=fun e=>nv (inj (by omega) nN (by omega) vN e);have e0:=pt_sub1 (p:=p) (q:=q) (m:=n) (n:=v) (by omega) (by omega)
     · omega
     · have bj:=bd j;rw[e0];rcases Gs (pt p q j) (pt p q n-pt p q v+q)with b|b
       · exfalso;rcases Gv j n with x|x|x
         · have e1:=pt_sub1 (p:=p) (q:=q) (m:=n) (n:=j) (by omega) (by omega);have:=hi (n-j) (by omega) (by omega);omega
         · subst x;omega
         · exact far j jN x lt (by omega)
       · omega
   · rw[if_neg c2,if_neg c2];refine⟨⟨by omega,by omega⟩,.inr ⟨by omega,?_,by omega,fun j j0 jN lt=>?_⟩⟩
     all_goals
      have ne:pt p q n≠pt p q v:=fun e=>by have:=inj (by omega) nN (by omega) vN e;omega
      have e0:=pt_sub1 (p:=p) (q:=q) (m:=n) (n:=v) (by omega) (by omega)
      have w:pt p q (n-v)+pt p q u<q:=by
       rcases Gs (pt p q (n-v)+pt p q u) q with w|w
       · exact w
       · exfalso;have e:=gn (p:=p) (q:=q) (m:=n-v) (n:=u) (by omega) (by omega);have l:=lo (n-v+u) (by omega) (by omega);have:n-v+u=u:=inj (by omega) (by omega) (by omega) uN (by omega);omega
      have e1:=mH (p:=p) (q:=q) (m:=n-v) (n:=u) (by omega) w;rw[show n+u-v=n-v+u by omega]
     · omega
     · have bj:=bd j;rw[e1,e0];rcases Gs (pt p q j) (pt p q n-pt p q v+q+pt p q u)with b|b
       · exfalso;rcases Gv j n with x|x|x
         · have e2:=pt_sub1 (p:=p) (q:=q) (m:=n) (n:=j) (by omega) (by omega);have l:=hi (n-j) (by omega) (by omega);rcases Fv l with l|l
           · have e3:=pt_sub (p:=p) (q:=q) (m:=v) (n:=n-j) (by omega) (by omega);have:=lo (v-(n-j)) (by omega) (by omega);omega
           · have:=inj (by omega) (by omega) (by omega) vN l;omega
         · subst x;omega
         · exact far j jN x lt (by omega)
       · exact b
end
end Gap
noncomputable def aW:List W->(D2->Prop)->Prop:=fun ws Q=>∃(a b:Int),ws=[.d (.int a),.d (.int b)]/\((0<b)/\(b.natAbs<2^64))/\Q (.int (-((-a).fdiv b)))
theorem aW.mono:∀ws (Q Q':D2->Prop),(∀d,Q d->Q' d)->aW ws Q->aW ws Q':=fun _ _ _ h_=>Eo fun _=>Eo fun _=>Ed (Ed (h_ _))
theorem aW.len:∀ws (Q:D2->Prop),aW ws Q->ws.length=2:=fun _ _ h_=>by obtain⟨_,_,e_,_⟩:=h_;subst e_;rfl
theorem aW.eq(a b:Int)(hb:0<b)(hz:b.natAbs<2^64):aW [.d (.int a),.d (.int b)]=VL.ret (.int (-((-a).fdiv b)):D2):=by
 refine af fun Q=>⟨?_,fun q_=>⟨a,b,rfl,⟨hb,hz⟩,q_⟩⟩;rintro⟨a',b',e_,_,q_⟩;simp_arith only[and_true]at e_;obtain⟨rfl,rfl⟩:=e_;exact q_
theorem gg:FnScope ["top", "bottom"] ["top", "bottom"] (defScope (top 14)):=⟨rfl,rfl,rfl,by decide +kernel,rfl,by decide +kernel,by decide +kernel⟩
theorem d_rounded_up(Fn:FnIn K mg "rounded_up" (top 14) ["top", "bottom"])(Z:Bz mg)    : Dfn P w K mg base rl "rounded_up" ["top", "bottom"] 1 aW:=by
 have sc:=gg;refine Dfn.of Fn sc (aW.mono) (aW.len) (fun cdv A outer s H E hr=>(al (av (rM (v_div (rM (vn 0)) (vn 1)))))) ?_;rintro ws Q ⟨a,b,rfl,⟨hb,hz⟩,hQ⟩;refine aF ?_;have c1:cu (-a) b:=.of (by omega) hz;simp_arith only[aj,ah];exact aI hQ
noncomputable def Cy(N:Int)(z:(Int×Int)×Int×Int):(Int×Int)×Int×Int :=
 if z.2.2<z.2.1 then((z.1.1+min ((z.2.1-1).fdiv z.2.2) (-((-(N-z.1.1-z.1.2)).fdiv z.1.2))*z.1.2,z.1.2),(z.2.1-min ((z.2.1-1).fdiv z.2.2) (-((-(N-z.1.1-z.1.2)).fdiv z.1.2))*z.2.2,z.2.2))
 else((z.1.1,z.1.2+min ((z.2.2-1).fdiv z.2.1) (-((-(N-z.1.1-z.1.2)).fdiv z.1.1))*z.1.1),(z.2.1,z.2.2-min ((z.2.2-1).fdiv z.2.1) (-((-(N-z.1.1-z.1.2)).fdiv z.1.1))*z.2.1))
noncomputable def aG:List W->(D2->Prop)->Prop:=fun ws Q=>∃(s:Rat)(N:Int),ws=[.d (fr s),.d (.int N)]/\((∃B,dA s B/\B<=10^9)/\(2<=N)/\(N<=s.den))/\∀z:Int×Int,(Gap.Nb s.num s.den N z.1 z.2)->Q (.tuple [.int z.1,.int z.2])
theorem aG.mono:∀ws (Q Q':D2->Prop),(∀d,Q d->Q' d)->aG ws Q->aG ws Q':=fun _ _ _ h_=>Eo fun _=>Eo fun _=>Ed (Ed fun q_ o_ ho_=>h_ _ (q_ o_ ho_))
theorem aG.len:∀ws (Q:D2->Prop),aG ws Q->ws.length=2:=fun _ _ h_=>by obtain⟨_,_,e_,_⟩:=h_;subst e_;rfl
theorem aG.eq(s:Rat)(N:Int)(hs:∃B,dA s B/\B<=10^9)(h2:2<=N)(hN:N<=s.den):aG [.d (fr s),.d (.int N)]=C5 (anyM fun z:Int×Int=>Gap.Nb s.num s.den N z.1 z.2) fun z=>VL.ret (.tuple [.int z.1,.int z.2]:D2):=by
 refine af fun Q=>⟨?_,fun q_=>⟨s,N,rfl,⟨hs,h2,hN⟩,q_⟩⟩;rintro⟨s',N',e_,_,q_⟩;simp_arith only[gB,cJ,cK,bT,bM,cM]at e_;obtain⟨rfl,rfl⟩:=e_;exact q_
theorem gi:FnScope ["step", "many", "u", "v", "above", "below", "often"] ["step", "many"] (defScope (top 25)):=⟨rfl,rfl,rfl,by decide +kernel,rfl,by decide +kernel,by decide +kernel⟩
theorem d_neighbours(Fn:FnIn K mg "neighbours" (top 25) ["step", "many"])(Z:Bz mg)(d_rounded_up:∀rl,Dfn P w K mg base rl "rounded_up" ["top", "bottom"] 1 aW)   : Dfn P w K mg base rl "neighbours" ["step", "many"] 2 aG:=by
 have sc:=gi
 refine Dfn.of Fn sc (aG.mono) (aG.len) (fun cdv A outer s H E hr=>(ai (rF 2 3 sc.nd ae)
  (ai (jx 4 5 rfl sc.nd (aa (bf (vn 0) ae) (aa (v_sub (bf (vn 0) ae) (bf (vn 0) ae)) ac)))
  (ai (eE [6] FU (bA fC lC (aQ _) (v_add (vn 2) (vn 3)) (gR Z.min_ (aa (vn 1) (aa (bf (vn 0) ae) ac)))) (al (bY (bA kP oV (aQ _) (vn 4) (vn 5)) (ai (aC 6 sc.nd (gR Z.min_ (aa (v_div (v_sub (vn 4) ae) (vn 5)) (aa (am (d_rounded_up _) (hr.mono (by decide)) (aa (v_sub (v_sub (vn 1) (vn 2)) (vn 3)) (aa (vn 3) ac))) ac))))
  (ai (jy 2 sc.nd nG (v_mul (vn 6) (vn 3)))
  (al (jy 4 sc.nd nE (v_mul (vn 6) (vn 5)))))) (ai (aC 6 sc.nd (gR Z.min_ (aa (v_div (v_sub (vn 5) ae) (vn 4)) (aa (am (d_rounded_up _) (hr.mono (by decide)) (aa (v_sub (v_sub (vn 1) (vn 2)) (vn 3)) (aa (vn 2) ac))) ac))))
  (ai (jy 3 sc.nd nG (v_mul (vn 6) (vn 2)))
  (al (jy 5 sc.nd nE (v_mul (vn 6) (vn 4)))))))))
  (al (av (cw (aa (vn 2) (aa (vn 3) ac))))))))) ?_
 rintro ws Q ⟨s,N,rfl,⟨hs,h2,hN⟩,hQ⟩;refine aF ?_;obtain⟨B,⟨h3,h4,h5⟩,hB⟩:=hs;have hg:=iw s;have mN:min N (s.den:Int)=N:=by omega
 simp_arith only[aj,ah,DX,vO];refine fY (σ:=(Int×Int)×(Int×Int)) (fun z=>[some (.d (fr s)),some (.d (.int N)),some (.d (.int z.1.1)),some (.d (.int z.1.2)),some (.d (.int z.2.1)),some (.d (.int z.2.2)),none]) (fun z=>decide (z.1.1+z.1.2<N)) (Cy N) (fun z=>(N-(z.1.1+z.1.2)).toNat) (fun z=>Gap.NI s.num s.den N z.1.1 z.1.2 z.2.1 z.2.2) ((1,1),(s.num,s.den-s.num)) rfl (Gap.NI.begin h3 h4 h2) ?_ ?_ ?_
 · rintro⟨⟨u,v⟩,a,b⟩ h;simp_arith only[aj,ah,DX,mN]
 · rintro⟨⟨u,v⟩,a,b⟩ h' c;have h:Gap.NI s.num s.den N u v a b:=h';clear h';have c1:u+v<N:=by simpa using c
   have ne:=Gap.NI.ne hg h (show u+v<(s.den:Int) by omega);obtain⟨u1,uN,v1,vN,a1,b1,_⟩:=id h;by_cases ab:b<a
   · have e:Cy N ((u,v),a,b)=((u+min ((a-1).fdiv b) (-((-(N-u-v)).fdiv v))*v,v),(a-min ((a-1).fdiv b) (-((-(N-u-v)).fdiv v))*b,b)):=if_pos ab;rw[e];obtain⟨o1,o2,o3⟩:=Gap.often_ok b1 ab (show 1<=N-u-v by omega) v1 _ rfl;have vp:0<v:=by omega
     have bz:b≠0:=by omega
     generalize ho:min ((a-1).fdiv b) (-((-(N-u-v)).fdiv v))=o at *;have l1:=Gap.mul_le_ge o1 (show 0<=v by omega);have l2:=Gap.mul_le_ge v1 (show 0<=o by omega);have l3:=Gap.mul_le_ge b1 (show 0<=o by omega);rw[GW]at l2 l3;have hl:=h.le;have m3:cu (a-1) b:=.of bz (by omega);have vz:v.natAbs<2^64:=by omega
     have m1:aZ o v:=.rt (by omega);have m2:aZ o b:=.rt (by omega);refine⟨h.up o2 (by omega) (by omega),(show(N-(u+o*v+v)).toNat<(N-(u+v)).toNat by omega),_,by(simp_arith only[aj,ah,DX,bz,vp,ho,ab,m1,m2,m3,aW.eq])<;>rfl,rfl⟩
   · have ab':a<b:=by omega
     have e:Cy N ((u,v),a,b)=((u,v+min ((b-1).fdiv a) (-((-(N-u-v)).fdiv u))*u),(a,b-min ((b-1).fdiv a) (-((-(N-u-v)).fdiv u))*a)):=if_neg ab;rw[e];obtain⟨o1,o2,o3⟩:=Gap.often_ok a1 ab' (show 1<=N-u-v by omega) u1 _ rfl;have up:0<u:=by omega
     have az:a≠0:=by omega
     generalize ho:min ((b-1).fdiv a) (-((-(N-u-v)).fdiv u))=o at *;have l1:=Gap.mul_le_ge o1 (show 0<=u by omega);have l2:=Gap.mul_le_ge u1 (show 0<=o by omega);have l3:=Gap.mul_le_ge a1 (show 0<=o by omega);rw[GW]at l2 l3;have hl:=h.le;have m3:cu (b-1) a:=.of az (by omega);have uz:u.natAbs<2^64:=by omega
     have m1:aZ o u:=.rt (by omega);have m2:aZ o a:=.rt (by omega);refine⟨h.down o2 (by omega) (by omega),(show(N-(u+(v+o*u))).toNat<(N-(u+v)).toNat by omega),_,by(simp_arith only[aj,ah,DX,az,up,ho,ab,m1,m2,m3,aW.eq])<;>rfl,rfl⟩
 · rintro⟨⟨u,v⟩,a,b⟩ h c;have c0:¬u+v<N:=by simpa using c
   have c1:N<=u+v:=by omega
   simp_arith only[aj,ah,DX];exact aI (hQ (u,v) (h.nb c1))
noncomputable def bO:List W->(D2->Prop)->Prop:=fun ws Q=>∃(s:Rat)(N n:Int),ws=[.d (fr s),.d (.int N),.d (.int n)]/\((∃B,dA s B/\B<=10^9)/\(2<=N)/\(N<=s.den)/\(0<=n)/\(n<N))/\∀m:Int,(∃u v,Gap.Nb s.num s.den N u v/\m=Gap.nxN u v N n)->Q (.int m)
theorem bO.mono:∀ws (Q Q':D2->Prop),(∀d,Q d->Q' d)->bO ws Q->bO ws Q':=fun _ _ _ h_=>Eo fun _=>Eo fun _=>Eo fun _=>Ed (Ed fun q_ o_ ho_=>h_ _ (q_ o_ ho_))
theorem bO.len:∀ws (Q:D2->Prop),bO ws Q->ws.length=3:=fun _ _ h_=>by obtain⟨_,_,_,e_,_⟩:=h_;subst e_;rfl
theorem bO.eq(s:Rat)(N n:Int)(hs:∃B,dA s B/\B<=10^9)(h2:2<=N)(hN:N<=s.den)(n0:0<=n)(nN:n<N):bO [.d (fr s),.d (.int N),.d (.int n)]=C5 (anyM fun m:Int=>∃u v,Gap.Nb s.num s.den N u v/\m=Gap.nxN u v N n) fun m=>VL.ret (.int m:D2):=by
 refine af fun Q=>⟨?_,fun q_=>⟨s,N,n,rfl,⟨hs,h2,hN,n0,nN⟩,q_⟩⟩;rintro⟨s',N',n',e_,_,q_⟩;simp_arith only[gB,cJ,cK,bT,bM,cM]at e_;obtain⟨rfl,rfl,rfl⟩:=e_;exact q_
theorem kF:FnScope ["step", "many", "n", "u", "v"] ["step", "many", "n"] (defScope (top 26)):=⟨rfl,rfl,rfl,by decide +kernel,rfl,by decide +kernel,by decide +kernel⟩
theorem d_next_of(Fn:FnIn K mg "next_of" (top 26) ["step", "many", "n"])(Z:Bz mg)(d_neighbours:∀rl,Dfn P w K mg base rl "neighbours" ["step", "many"] 2 aG)   : Dfn P w K mg base rl "next_of" ["step", "many", "n"] 3 bO:=by
 have sc:=kF
 refine Dfn.of Fn sc (bO.mono) (bO.len) (fun cdv A outer s H E hr=>(ai (lA (am (d_neighbours _) (hr.mono (by decide)) (aa (vn 0) (aa (vn 1) ac))) (fF (n:=2) rfl (bh (aA 3 sc.nd) (bh (aA 4 sc.nd) dC))))
  (ai (bY (bA fC lC (aQ _) (v_add (vn 2) (vn 3)) (vn 1)) (al (av (v_add (vn 2) (vn 3)))) bw)
  (al (av (rP (bA wu yj (aQ _) (vn 2) (vn 4)) (v_sub (vn 2) (vn 4)) (v_sub (v_add (vn 2) (vn 3)) (vn 4)))))))) ?_
 rintro ws Q ⟨s,N,n,rfl,⟨hs,h2,hN,n0,nN⟩,hQ⟩;refine aF ?_;simp_arith only[aj,ah,aG.eq,DX]
 (with_reducible (first|refine ay fun z hz=>?_|refine aN fun z hz=>?_))
 obtain⟨u,v⟩:=z;have hz:Gap.Nb s.num s.den N u v:=hz;simp_arith only[aj,ah,DX];have fin:=fun m (e:m=Gap.nxN u v N n)=>hQ m ⟨u,v,hz,e⟩;by_cases c1:n+u<N
 · simp_arith only[aj,ah,DX,c1];exact aI (fin _ (by unfold Gap.nxN;rw[if_pos c1]))
 · by_cases c2:v<=n
   · simp_arith only[aj,ah,DX,c1,c2];exact aI (fin _ (by unfold Gap.nxN;rw[if_neg c1,if_pos c2]))
   · simp_arith only[aj,ah,DX,c1,c2];exact aI (fin _ (by unfold Gap.nxN;rw[if_neg c1,if_neg c2]))
noncomputable def C2(q:Rat):List Int:=[q.num,(q.den:Int)]
theorem jf(a b:Rat)(h:C2 a=C2 b):a=b:=by
 unfold C2 at h;simp only[Eu,and_true]at h;exact Rat.ext h.1 (by have:=h.2;omega)
noncomputable def triG(s:Rat)(N u v:Int):List (Rat×Int):=[(CY s u,N-u),(1-CY s v,N-v),(CY s u+(1-CY s v),u+v-N)]
noncomputable def gM(m:List (Rat×Int))(z:Rat×Int):List (Rat×Int):=if 0<z.2 then Ct.addC m z.1 z.2 else m
noncomputable def gaG(s:Rat)(N u v:Int):List (Rat×Int):=(triG s N u v).foldl gM []
theorem rf(q:Rat):lm (.d (fr q))=some (C2 q):=xB [q.num,(q.den:Int)]
theorem qm[DecidableEq α](m:List (α×Int))(k:α)(o:Int):(Ct.addC m k o).length<=m.length+1:=by
 unfold Ct.addC;split<;>simp
theorem wP(o:Option Int):(o.map Et).getD (.int 0) = .int (o.getD 0):=by cases o<;>rfl
theorem p9(m:List (Rat×Int)):((Ct.encC C2 m).map fun p=>kI p.1)=(m.map (·.1)).map fr:=by unfold Ct.encC;rw[Fa,Fa];rfl
theorem nW(m:List (Rat×Int))(k:Rat×Int):(gM m k).length<=m.length+1:=by
 unfold gM;split
 · exact qm _ _ _
 · omega
theorem nX(s:Rat)(N u v:Int):(gaG s N u v).length<=3:=by
 have a:=nW [] (CY s u,N-u);have b:=nW (gM [] (CY s u,N-u)) (1-CY s v,N-v);have c:=nW (gM (gM [] (CY s u,N-u)) (1-CY s v,N-v)) (CY s u+(1-CY s v),u+v-N);have a:(gM [] (CY s u,N-u)).length<=1:=a;show(gM (gM (gM [] (CY s u,N-u)) (1-CY s v,N-v)) (CY s u+(1-CY s v),u+v-N)).length<=3;omega
theorem uc{s:Rat}{v:Int}{r:Rat}(h:r∈(gaG s N u v).map (·.1)):r∈(triG s N u v).map (·.1):=by
 have key:∀(xs m:List (Rat×Int)),r∈(xs.foldl gM m).map (·.1)->r∈m.map (·.1)\/r∈xs.map (·.1):=by
  intro xs
  induction xs with
  | nil=>intro m h;exact .inl h
  | cons z xs ih =>
    intro m h;rcases ih _ h with h|h
    · by_cases c:0<z.2
      · rw[show gM m z=Ct.addC m z.1 z.2 from if_pos c,Ct.getC_mem]at h;obtain⟨x,hx⟩:=h;rw[Ct.getC_add]at hx;by_cases e:z.1=r
        · exact .inr (by rw[<- e];exact Ee)
        · rw[if_neg e]at hx;exact .inl (Ct.getC_mem.mpr ⟨x,hx⟩)
      · rw[show gM m z=m from if_neg c]at h;exact .inl h
    · exact .inr (D7 _ h)
 rcases key _ _ h with h|h
 · cases h
 · exact h
noncomputable def uG(m:List (Rat×Int))(r:Rat):D2:=.tuple [fr r,.int ((Ct.getC m r).getD 0)]
noncomputable def dQ:List W->(D2->Prop)->Prop:=fun ws Q=>∃(s:Rat)(N:Int),ws=[.d (fr s),.d (.int N)]/\((∃B,dA s B/\B<=10^9)/\(2<=N)/\(N<=s.den))/\∀z:Int×Int×List Rat,(Gap.Nb s.num s.den N z.1 z.2.1/\dw ((gaG s N z.1 z.2.1).map (·.1)) z.2.2)->Q (.tuple (z.2.2.map (uG (gaG s N z.1 z.2.1))))
theorem dQ.mono:∀ws (Q Q':D2->Prop),(∀d,Q d->Q' d)->dQ ws Q->dQ ws Q':=fun _ _ _ h_=>Eo fun _=>Eo fun _=>Ed (Ed fun q_ o_ ho_=>h_ _ (q_ o_ ho_))
theorem dQ.len:∀ws (Q:D2->Prop),dQ ws Q->ws.length=2:=fun _ _ h_=>by obtain⟨_,_,e_,_⟩:=h_;subst e_;rfl
theorem dQ.eq(s:Rat)(N:Int)(hs:∃B,dA s B/\B<=10^9)(h2:2<=N)(hN:N<=s.den):dQ [.d (fr s),.d (.int N)]=C5 (anyM fun z:Int×Int×List Rat=>Gap.Nb s.num s.den N z.1 z.2.1/\dw ((gaG s N z.1 z.2.1).map (·.1)) z.2.2) fun z=>VL.ret (.tuple (z.2.2.map (uG (gaG s N z.1 z.2.1))):D2):=by
 refine af fun Q=>⟨?_,fun q_=>⟨s,N,rfl,⟨hs,h2,hN⟩,q_⟩⟩;rintro⟨s',N',e_,_,q_⟩;simp_arith only[gB,cJ,cK,bT,bM,cM]at e_;obtain⟨rfl,rfl⟩:=e_;exact q_
theorem sM:FnScope ["step", "many", "u", "v", "rise", "fall", "counts", "length", "often"] ["step", "many"] (defScope (top 27)):=⟨rfl,rfl,rfl,by decide +kernel,rfl,by decide +kernel,by decide +kernel⟩
theorem d_gaps(Fn:FnIn K mg "gaps" (top 27) ["step", "many"])(Z:Bz mg)(d_neighbours:∀rl,Dfn P w K mg base rl "neighbours" ["step", "many"] 2 aG)(d_gap_above:∀rl,Dfn P w K mg base rl "gap_above" ["step", "u"] 5 aY)(d_gap_below:∀rl,Dfn P w K mg base rl "gap_below" ["step", "v"] 5 aX)(d_plus:∀rl,Dfn P w K mg base rl "plus" ["one", "other"] 3 dh)(d_in_size:∀rl,Dfn P w K mg base rl "in_size" ["some"] 1 bQ)   : Dfn P w K mg base rl "gaps" ["step", "many"] 6 dQ:=by
 have sc:=sM
 refine Dfn.of Fn sc (dQ.mono) (dQ.len) (fun cdv A outer s H E hr=>(ai (lA (am (d_neighbours _) (hr.mono (by decide)) (aa (vn 0) (aa (vn 1) ac))) (fF (n:=2) rfl (bh (aA 2 sc.nd) (bh (aA 3 sc.nd) dC))))
  (ai (jx 4 5 rfl sc.nd (aa (am (d_gap_above _) (hr.mono (by decide)) (aa (vn 0) (aa (vn 2) ac))) (aa (am (d_gap_below _) (hr.mono (by decide)) (aa (vn 0) (aa (vn 3) ac))) ac)))
  (ai (jw 6 sc.nd oY)
  (ai (dB [7,8] FU rfl (dL (cw (aa (cw (aa (vn 4) (aa (v_sub (vn 1) (vn 2)) ac))) (aa (cw (aa (vn 5) (aa (v_sub (vn 1) (vn 3)) ac))) (aa (cw (aa (am (d_plus _) (hr.mono (by decide)) (aa (vn 4) (aa (vn 5) ac))) (aa (v_sub (v_add (vn 2) (vn 3)) (vn 1)) ac))) ac))))) (fF (n:=2) rfl (bh (aA 7 sc.nd) (bh (aA 8 sc.nd) dC))) (al (bY (bA kP oV (aQ _) (vn 8) ae) (al (rC 6 hr.units (vn 7) (v_add (rL 6 hr.units (vn 7) ae) (vn 8)))) bw)))
  (al (rH 6 (av (lE Z.tuple_ (aa (cD ["length", "counts"] [none,some 6] rfl (dL (am (d_in_size _) (hr.mono (by decide)) (aa (oX rfl Z.list_ (aa (vn 6) ac)) ac))) (fun _=>(aA 0 (show G0 (["length", "counts"]:List Str) by decide +kernel))) (fun _=>cP) (fun _=>(cw (aa (vn 0) (aa (u7 1 hr.units (vn 0)) ac))))) ac)))))))))) ?_
 rintro ws Q ⟨s,N,rfl,⟨hs,h2,hN⟩,hQ⟩;refine aF ?_;have sz:=E8;simp_arith only[aj,ah,aG.eq,DX]
 (with_reducible (first|refine ay fun z hz=>?_|refine aN fun z hz=>?_))
 obtain⟨u,v⟩:=z;have hz:Gap.Nb s.num s.den N u v:=hz;have hz':=hz;obtain⟨u0,uN,v0,vN,few,rd⟩:=hz';have hs':=hs;obtain⟨B,h1,hB⟩:=hs';have s1:=kY h1 hB u;have s2:=kY h1 hB v;have u6:u.natAbs<2^600:=D9 (show u.natAbs<2^30 by obtain⟨_,_,_⟩:=h1;omega) (Ez (by decide) (by decide));have v6:v.natAbs<2^600:=D9 (show v.natAbs<2^30 by obtain⟨_,_,_⟩:=h1;omega) (Ez (by decide) (by decide));have s3:Cm 100 (1-CY s v):=(qF Ay s2).mono (by decide);have s4:Cm 2000 (CY s u):=s1.mono (by decide);have s5:Cm 2000 (1-CY s v):=s3.mono (by decide);have s6:Cm 2000 (CY s u+(1-CY s v)):=(oH s1 s3).mono (by decide);simp_arith only[aj,ah,aG.eq,aY.eq,aX.eq,dh.eq,bQ.eq,DX,m5]
 have lenI:∀m:List (Rat×Int),(m.map (·.1)).Nodup/\(∀r∈m.map (·.1),r∈(triG s N u v).map (·.1))->(Ct.encC C2 m).length<sizeLine:=fun m h=>by
  have:=Fu h.1 h.2;rw[Eb,Eb]at this;have e:(triG s N u v).length=3:=rfl;unfold Ct.encC;rw[Eb];omega
 refine n_ (xs:=triG s N u v) (enc:=fun z=>.tuple [fr z.1,.int z.2]) (fun m:List (Rat×Int)=>[some (W.d (fr s)),some (W.d (Et N)),some (W.d (Et u)),some (W.d (Et v)),
  some (W.d (fr (CY s u))),some (W.d (fr (1-CY s v))),some (W.xm (Ct.encC C2 m)),none,none]) gM [] (fun m=>(m.map (·.1)).Nodup/\∀r∈m.map (·.1),r∈(triG s N u v).map (·.1)) rfl rfl ⟨GZ,fun r h=>(by cases h)⟩ ?_ ?_
 · rintro⟨q,o⟩ mz m hm;have hl:=lenI m hm;by_cases c:0<o
   · have e:gM m (q,o)=Ct.addC m q o:=if_pos c;rw[e];refine⟨⟨Ct.nd_add hm.1 q o,fun r hr=>?_⟩,?_⟩
     · rw[Ct.getC_mem]at hr;obtain⟨x,hx⟩:=hr;rw[Ct.getC_add]at hx;by_cases e:q=r
       · subst e;exact EV.mpr ⟨_,mz,rfl⟩
       · rw[if_neg e]at hx;exact hm.2 r (Ct.getC_mem.mpr ⟨x,hx⟩)
     have hv:oK (Ct.encC C2 m) (C2 q)=(Ct.getC m q).map .int:=oj jf m q;have hp:uE (Ct.encC C2 m) (C2 q) (.int ((Ct.getC m q).getD 0+o))=Ct.encC C2 (Ct.addC m q o):=uu jf m q o;refine⟨_,by(simp_arith only[aj,ah,DX,sO,pI,rf,Cb,xA,hv,hp,wP,hl,c])<;>rfl,rfl⟩
   · have e:gM m (q,o)=m:=if_neg c;rw[e];refine⟨hm,_,by(simp_arith only[aj,ah,DX,c])<;>rfl,rfl⟩
 · have hk:=fun r (h:r∈(gaG s N u v).map (·.1))=>uc h;have l3:=nX s N u v;have eg:(triG s N u v).foldl gM []=gaG s N u v:=rfl;rw[eg];have eL:KN ((Ct.encC C2 (gaG s N u v)).map fun p=>kI p.1)=B_ false ((gaG s N u v).map (·.1)):=by rw[p9];rfl
   have lq:((gaG s N u v).map (·.1)).length<60:=by rw[Eb];omega
   have qa:∀q∈(gaG s N u v).map (·.1),Cm 2000 q:=fun q h=>by
    have:=hk q h;simp only[triG,Er,FV,Ev,FE,or_false]at this;rcases this with rfl|rfl|rfl<;>assumption
   simp_arith only[aj,ah,DX,sP,Cb,xA,pJ,yd,re,eL,bQ.eq]
   (with_reducible (first|refine ay fun rs hrs=>?_|refine aN fun rs hrs=>?_))
   have lr:rs.length<=60:=by
    have:=Fu (hrs.1.imp fun{a b}(h:a<b)=>(fun e=>by subst e;exact absurd h (JG))) (fun q h=>(hrs.2 q).mp h);omega
   refine cC (xs:=rs) (enc:=fr) (uG (gaG s N u v)) rfl ?_ (by omega) ?_
   · intro r mr;obtain⟨c,hc⟩:=Ct.getC_mem.mp ((hrs.2 r).mp mr);have hv:oK (Ct.encC C2 (gaG s N u v)) (C2 r)=some (.int c):=by rw[oj jf,hc];rfl
     have eg:uG (gaG s N u v) r = .tuple [fr r,.int c]:=by unfold uG;rw[hc];rfl
     rw[eg];simp_arith only[aj,ah,CK,DX,tN,xP,re,rf,hv]
   · exact aI (hQ (u,v,rs) ⟨hz,hrs⟩)
theorem js{xs m:List (Rat×Int)}(h:Ct.Cnts (xs.filter fun z=>decide (0<z.2)) m)(z:Rat×Int):Ct.Cnts ((xs++[z]).filter fun z=>decide (0<z.2)) (gM m z):=by
 rw[List.filter_append];unfold gM;by_cases c:0<z.2
 · rw[if_pos c,show [z].filter (fun z=>decide (0<z.2))=[z] by simp[c]];exact h.add z.1 z.2
 · rw[if_neg c,show [z].filter (fun z=>decide (0<z.2))=[] by simp[c],FO];exact h
theorem wR(s:Rat)(N u v:Int):Ct.Cnts ((triG s N u v).filter fun z=>decide (0<z.2)) (gaG s N u v) :=
 js (xs:=[_,_]) (js (xs:=[_]) (js (xs:=[]) Ct.Cnts.nil _) _) _
theorem mw{D:Nat}(h:0<D)(a:Int):qd a (D:Int)*((D:Int):Rat)=(a:Rat):=by
 unfold qd
 have hz:((D:Int):Rat)≠0:=fun z=>by
  have z2:(D:Int)=0:=by exact_mod_cast z
  omega
 exact Rat.div_mul_cancel hz
theorem mD{D:Nat}(h:0<D){a:Int}(e:qd a (D:Int)=qd b (D:Int)):a=b:=by
 have h1:=mw h a;rw[e,mw h b]at h1
 exact_mod_cast h1.symm
theorem iY{D:Nat}(h:0<D)(a b:Int):qd a (D:Int)+qd b (D:Int)=qd (a+b) (D:Int):=by
 unfold qd;rw[H0,H0,H0,<- Rat.add_mul,IP]
theorem vV{D:Nat}(h:0<D){a:Int}(l:a<b):qd a (D:Int)<qd b (D:Int):=by
 have h0:=pc (a:=b-a) (b:=(D:Int)) (by omega) (by omega);have e:=iY h a (b-a);rw[show a+(b-a)=b by omega]at e
 have le:qd a (D:Int)<=qd b (D:Int):=by
  rw[<- e];have:=Rat.add_le_add_left (c:=qd a (D:Int)) |>.mpr h0
  rwa [Rat.add_zero]at this
 exact Rat.lt_of_le_of_ne le fun z=>by have:=mD h z;omega
theorem sT{D:Nat}(h:0<D)(c:Int):1-qd c (D:Int)=qd ((D:Int)-c) (D:Int):=by
 have e1:qd (D:Int) (D:Int)=1:=by
  unfold qd
  have hz:((D:Int):Rat)≠0:=fun z=>by
   have z2:(D:Int)=0:=by exact_mod_cast z
   omega
  rw[H0];exact Rat.mul_inv_cancel _ hz
 have e2:=iY h ((D:Int)-c) c;rw[show((D:Int)-c)+c=D by omega,e1]at e2;generalize qd ((D:Int)-c) (D:Int)=x at *;generalize qd c (D:Int)=y at *
 grind
theorem Ct.Cnts.key[DecidableEq α]{xs m:List (α×Int)}(h:Ct.Cnts xs m)(k:α):k∈m.map (·.1)↔k∈xs.map (·.1):=by
 rw[Ct.getC_mem,h.val];by_cases c:k∈xs.map (·.1)
 · rw[if_pos c];exact⟨fun _=>c,fun _=>⟨_,rfl⟩⟩
 · rw[if_neg c];exact⟨fun⟨_,e⟩=>(by cases e),fun e=>absurd e c⟩
section
variable{s:Rat}{N u v:Int}{qs:List (Int×Int)}
theorem iP(s:Rat)(N u v:Int):triG s N u v=[(Gap.pt s.num s.den u,N-u),((s.den:Int)-Gap.pt s.num s.den v,N-v),(Gap.pt s.num s.den u+((s.den:Int)-Gap.pt s.num s.den v),u+v-N)].map fun z=>(qd z.1 s.den,z.2):=by
 have h:0<s.den:=s.den_pos;have e:(1:Rat)-CY s v=qd ((s.den:Int)-Gap.pt s.num s.den v) s.den:=sT h _;unfold triG;rw[e,show CY s u=qd (Gap.pt s.num s.den u) s.den from rfl,iY h];rfl
theorem lQ(hz:Gap.Nb s.num s.den N u v)(d:Int):Ct.total ((triG s N u v).filter fun z=>decide (0<z.2)) (qd d s.den)=(if Gap.pt s.num s.den u=d then N-u else 0)+(if(s.den:Int)-Gap.pt s.num s.den v=d then N-v else 0)+(if Gap.pt s.num s.den u+((s.den:Int)-Gap.pt s.num s.den v)=d then u+v-N else 0):=by
 obtain⟨u0,u1,v0,v1,few,_⟩:=hz;have h:0<s.den:=s.den_pos;have iff:∀a:Int,(qd a s.den=qd d s.den)=(a=d):=fun a=>propext ⟨mD h,fun e=>by rw[e]⟩;rw[iP];have p1:0<N-u:=by omega
 have p2:0<N-v:=by omega
 have fp:∀(z:Rat×Int)(l:List (Rat×Int)),0<z.2->K5 (fun z=>decide (0<z.2)) (z::l)=z::K5 (fun z=>decide (0<z.2)) l:=fun z l h=>JK (decide_eq_true h);have fn:∀(z:Rat×Int)(l:List (Rat×Int)),¬0<z.2->K5 (fun z=>decide (0<z.2)) (z::l)=K5 (fun z=>decide (0<z.2)) l:=fun z l h=>JL (by simpa using h);simp only[Er,FV];rw[fp (_,N-u) _ p1,fp (_,N-v) _ p2];by_cases p3:0<u+v-N
 · rw[fp (_,u+v-N) _ p3,List.filter_nil];simp only[Ct.total,Er,FV,Fd,Io,iff];omega
 · have e3:u+v-N=0:=by omega
   rw[fn (_,u+v-N) _ p3,List.filter_nil,e3,ite_self];simp only[Ct.total,Er,FV,Fd,Io,iff];omega
theorem sg(hz:Gap.Nb s.num s.den N u v)(r:Rat):r∈((triG s N u v).filter fun z=>decide (0<z.2)).map (·.1)↔∃d,r=qd d s.den/\∃n:Nat,(n:Int)<N/\d=Gap.gpN s.num s.den u v N n:=by
 obtain⟨u0,u1,v0,v1,few,_⟩:=hz;rw[iP];have p1:0<N-u:=by omega
 have p2:0<N-v:=by omega
 have g1:∀n:Int,n+u<N->Gap.gpN s.num s.den u v N n=Gap.pt s.num s.den u:=fun n c=>if_pos c;have g2:∀n:Int,v<=n->Gap.gpN s.num s.den u v N n=(s.den:Int)-Gap.pt s.num s.den v:=fun n c=>by unfold Gap.gpN;rw[if_neg (by omega),if_pos c]
 have g3:∀n:Int,¬n+u<N->¬v<=n->Gap.gpN s.num s.den u v N n=Gap.pt s.num s.den u+((s.den:Int)-Gap.pt s.num s.den v):=fun n c c'=>by unfold Gap.gpN;rw[if_neg c,if_neg c']
 rw[EV];constructor
 · rintro⟨z,mz,rfl⟩;rw[G4]at mz;obtain⟨mz,pz⟩:=mz;have pz:=of_decide_eq_true pz;simp only[Er,FV,Ev,FE,or_false]at mz;rcases mz with rfl|rfl|rfl
   · exact⟨_,rfl,0,by omega,(g1 _ (by omega)).symm⟩
   · exact⟨_,rfl,v.toNat,by omega,(g2 _ (by omega)).symm⟩
   · have pz:0<u+v-N:=pz;exact⟨_,rfl,(N-u).toNat,by omega,(g3 _ (by omega) (by omega)).symm⟩
 · rintro⟨d,rfl,n,hn,rfl⟩;by_cases c1:(n:Int)+u<N
   · rw[g1 _ c1];exact⟨(_,N-u),G4.mpr ⟨Ee,decide_eq_true p1⟩,rfl⟩
   · by_cases c2:v<=(n:Int)
     · rw[g2 _ c2];exact⟨(_,N-v),G4.mpr ⟨D7 _ Ee,decide_eq_true p2⟩,rfl⟩
     · rw[g3 _ c1 c2];exact⟨(_,u+v-N),G4.mpr ⟨D7 _ (D7 _ Ee),decide_eq_true (show 0<u+v-N by omega)⟩,rfl⟩
end
theorem ub{q v n:Int}(hq:0<q)(hg:EM p q=1)(hN:N<=q)(h:Gap.Ex p q N u v)(hf:N<=u+v)(n0:0<=n)(nN:n<N):((Gap.nxN u v N n-n)*p)%q=Gap.gpN p q u v N n:=by
 obtain⟨_,h2⟩:=Gap.next_ok hq hg hN h hf n0 nN;have bn:=Gap.pt_bd (p:=p) (n:=n) hq;rcases h2 with⟨e,e0,eg⟩|⟨ne,e,g0,_⟩
 · have vp:=Gap.pt_pos (p:=p) (n:=v) hq hg h.v0 (by have:=h.vN;omega);rw[<- e]at vp;rw[e0,eg];have z:=Gap.pt_sub1 (p:=p) (q:=q) (m:=0) (n:=n) (by rw[Gap.pt_zero];omega) (by rw[Gap.pt_zero];omega);rw[Gap.pt_zero]at z;show Gap.pt p q (0-n)=_;rw[z];omega
 · have bx:=Gap.pt_bd (p:=p) (n:=Gap.nxN u v N n) hq;have z:=Gap.pt_sub (p:=p) (q:=q) (m:=Gap.nxN u v N n) (n:=n) (by omega) (by omega);show Gap.pt p q (Gap.nxN u v N n-n)=_;rw[z];omega
theorem pY{q v n j:Int}(hq:0<q)(hg:EM p q=1)(hN:N<=q)(h:Gap.Ex p q N u v)(hf:N<=u+v)(n0:0<=n)(nN:n<N)(j0:0<=j)(jN:j<N) :
 ¬(0<((j*p)%q-n*p)%q/\((j*p)%q-n*p)%q<Gap.gpN p q u v N n):=by
 obtain⟨_,h2⟩:=Gap.next_ok hq hg hN h hf n0 nN;have bn:=Gap.pt_bd (p:=p) (n:=n) hq;have bj:=Gap.pt_bd (p:=p) (n:=j) hq
 have e1:((j*p)%q-n*p)%q=(Gap.pt p q j-Gap.pt p q n)%q:=by
  have e:=Gap.pt_eq p q n;show(Gap.pt p q j-n*p)%q=_;rw[show Gap.pt p q j-n*p=(Gap.pt p q j-Gap.pt p q n) + -(n*p / q)*q by rw[Int.neg_mul];omega,Int.add_mul_emod_self_right]
 rw[e1];have lo:Gap.pt p q n<=Gap.pt p q j->(Gap.pt p q j-Gap.pt p q n)%q=Gap.pt p q j-Gap.pt p q n:=fun l=>Jx (by omega) (by omega)
 have hi:Gap.pt p q j<Gap.pt p q n->(Gap.pt p q j-Gap.pt p q n)%q=Gap.pt p q j-Gap.pt p q n+q:=fun l=>by
  rw[<- Int.add_emod_right];exact Jx (by omega) (by omega)
 rcases h2 with⟨e,_,eg⟩|⟨_,e,g0,nx⟩
 · have top:Gap.pt p q j<=Gap.pt p q n:=by
     rcases Fv j0 with a|a
     · rw[e];exact h.hi j a jN
     · rw[<- a,Gap.pt_zero];omega
   rintro⟨a,b⟩;rcases Fv top with l|l
   · rw[hi l]at b;omega
   · rw[l]at a;simp at a
 · rintro⟨a,b⟩;rcases Gs (Gap.pt p q n) (Gap.pt p q j)with l|l
   · rw[lo (by omega)]at b;have:=nx j j0 jN l;omega
   · rcases Fv l with l|l
     · rw[hi l]at b;have bx:=Gap.pt_bd (p:=p) (n:=Gap.nxN u v N n) hq;omega
     · rw[l]at a;simp at a
noncomputable def CH(s r:Rat):Int:=r.num*((s.den:Int) / (r.den:Int))
theorem nh(s:Rat)(d:Int):CH s (qd d s.den)=d/\(s.den:Int)%((qd d s.den).den:Int)=0/\((qd d s.den).den:Int)<=s.den:=by
 have hb:0<(s.den:Int):=by have:=s.den_pos;omega
 have e:=ie hb (a:=d)
 have hg:0<(EM d s.den:Int):=by
  have:=G3 d (show(s.den:Int)≠0 by omega);omega
 unfold qO at e;unfold fr at e;simp only[EY,Eu,Gh,and_true]at e;obtain⟨e1,e2⟩:=e;rw[EI _ (by omega)]at e1 e2;have da:(EM d s.den:Int)∣d:=Int.gcd_dvd_left ..;have db:(EM d s.den:Int)∣s.den:=Int.gcd_dvd_right ..;unfold CH;rw[<- e1,<- e2];generalize (EM d s.den:Int)=g at *;generalize (s.den:Int)=D at *;obtain⟨x,rfl⟩:=da;obtain⟨y,rfl⟩:=db;have y0:0<y:=HB hb hg;rw[HC _ (by omega),HC _ (by omega),Int.mul_ediv_cancel _ (by omega)];refine⟨GW _ _,Int.mul_emod_left _ _,?_⟩;have:1*y<=g*y:=Eh (by omega) (by omega);omega
theorem lR{f:Rat->Int}:∀(xs:List (Rat×Int))(rs:List Rat),rs.Nodup->(∀z∈xs,z.1∈rs)->(rs.map fun r=>f r*Ct.total xs r).sum=(xs.map fun z=>f z.1*z.2).sum
 | [],rs,_,_=>by
   have:∀rs:List Rat,(rs.map fun r=>f r*Ct.total [] r).sum=0:=fun rs=>by
    induction rs with
    | nil=>rfl
    | cons r rs ih=>rw[Er,Fd,ih];show f r*0+0=0;omega
   rw[this];rfl
 | z::xs,rs,nd,h=>by
   have ih:=lR (f:=f) xs rs nd fun y m=>h y (D7 _ m);rw[Er,Fd,<- ih]
   have key:∀rs:List Rat,rs.Nodup->(rs.map fun r=>f r*Ct.total (z::xs) r).sum=(if z.1∈rs then f z.1*z.2 else 0)+(rs.map fun r=>f r*Ct.total xs r).sum:=by
    intro rs
    induction rs with
    | nil=>intro _;rfl
    | cons r rs ih =>
      intro nd;obtain⟨n1,n2⟩:=F_.mp nd;rw[Er,Fd,Er,Fd,ih n2]
      have et:Ct.total (z::xs) r=(if z.1=r then z.2 else 0)+Ct.total xs r:=by
       show List.sum (_::_)=_;rw[Fd];rfl
      rw[et,Int.mul_add];by_cases c:z.1=r
      · rw[if_pos c,if_neg (by rw[c];exact n1),if_pos (by rw[c];exact Ee),c];omega
      · rw[if_neg c];by_cases c2:z.1∈rs
        · rw[if_pos c2,if_pos (D7 _ c2)];omega
        · rw[if_neg c2,if_neg (fun m=>(Ev.mp m).elim c c2)];omega
   rw[key rs nd,if_pos (h z Ee)]
theorem j8{f:Rat->Int}:∀xs:List (Rat×Int),(∀z∈xs,0<=z.2)->((xs.filter fun z=>decide (0<z.2)).map fun z=>f z.1*z.2).sum=(xs.map fun z=>f z.1*z.2).sum
 | [],_=>rfl
 | z::xs,h=>by
   have ih:=j8 (f:=f) xs fun y m=>h y (D7 _ m);by_cases c:0<z.2
   · rw[JK (p:=fun z:Rat×Int=>decide (0<z.2)) (decide_eq_true c),Er,Er,Fd,Fd,ih]
   · have:=h z Ee;rw[JL (p:=fun z:Rat×Int=>decide (0<z.2)) (by simpa using c),Er,Fd,ih,show z.2=0 by omega,Int.mul_zero];omega
section
variable{s:Rat}{N u v:Int}{rs:List Rat}
structure GpR (s:Rat) (N:Int) (u v:Int) (rs:List Rat):Prop where
 len1:1<=rs.length
 len3:rs.length<=3
 cnt:∀r∈rs,∃c:Int,(Ct.getC (gaG s N u v) r).getD 0=c/\0<=c/\c<=N+N+N
 sum:(rs.map fun r=>(Ct.getC (gaG s N u v) r).getD 0).sum=N
 dv:∀r∈rs,(s.den:Int)%(r.den:Int)=0/\(r.den:Int)<=s.den/\0<=CH s r/\CH s r<=2*s.den/\0<=r.num
 top:(rs.map fun r=>CH s r*(Ct.getC (gaG s N u v) r).getD 0).sum=s.den
 up:(rs.map (CH s)).Pairwise (· < ·)
 three:rs.length=3->∃a b c,rs.map (CH s)=[a,b,c]/\c=a+b
 here:∀n:Int,0<=n->n<N->Gap.gpN s.num s.den u v N n∈rs.map (CH s)
theorem wO(hg:EM s.num s.den=1)(hN:N<=s.den)(h2:2<=N)(hz:Gap.Nb s.num s.den N u v)(hr:dw ((gaG s N u v).map (·.1)) rs):GpR s N u v rs:=by
 have hd:0<s.den:=s.den_pos;have hq:0<(s.den:Int):=by omega
 have c1:=wR s N u v;have ex:=Gap.ex_of_nb hq hg hN hz;have pa:=Gap.pt_pos (p:=s.num) (n:=u) hq hg ex.u0 (by have:=ex.uN;omega);have pv:=Gap.pt_pos (p:=s.num) (n:=v) hq hg ex.v0 (by have:=ex.vN;omega);have ba:=Gap.pt_bd (p:=s.num) (n:=u) hq;have bv:=Gap.pt_bd (p:=s.num) (n:=v) hq;have rd:v*Gap.pt s.num s.den u+u*((s.den:Int)-Gap.pt s.num s.den v)=s.den:=hz.round;have key:∀r,r∈rs↔∃d,r=qd d s.den/\∃n:Nat,(n:Int)<N/\d=Gap.gpN s.num s.den u v N n:=fun r=>by rw[hr.2,c1.key,sg hz]
 have gp3:∀n,Gap.gpN s.num s.den u v N n=Gap.pt s.num s.den u\/Gap.gpN s.num s.den u v N n=(s.den:Int)-Gap.pt s.num s.den v\/Gap.gpN s.num s.den u v N n=Gap.pt s.num s.den u+((s.den:Int)-Gap.pt s.num s.den v):=fun n=>by
  unfold Gap.gpN;split
  · exact .inl rfl
  · split
    · exact .inr (.inl rfl)
    · exact .inr (.inr rfl)
 have ln3:∀r∈rs,CH s r=Gap.pt s.num s.den u\/CH s r=(s.den:Int)-Gap.pt s.num s.den v\/CH s r=Gap.pt s.num s.den u+((s.den:Int)-Gap.pt s.num s.den v):=fun r mr=>by
  obtain⟨d,rfl,n,_,e⟩:=(key r).mp mr;rw[(nh s d).1,e];exact gp3 n
 have ml:∀r∈rs,r=qd (CH s r) s.den:=fun r mr=>by
  obtain⟨d,rfl,_⟩:=(key r).mp mr;rw[(nh s d).1]
 have nd:rs.Nodup:=hr.1.imp fun{a b}(l:a<b)=>fun e=>by subst e;exact absurd l (JG)
 have up:(rs.map (CH s)).Pairwise (· < ·):=by
  refine Ib.mpr (hr.1.imp_of_mem fun{a b} ma mb l=>?_);rcases Gv (CH s a) (CH s b)with x|x|x
  · exact x
  · rw[ml a ma,ml b mb,x]at l;exact absurd l (JG)
  · have:=vV hd x;rw[<- ml a ma,<- ml b mb]at this;exact absurd (Rat.le_of_lt this) (Rat.not_le.mpr l)
 have l3:rs.length<=3:=by
  have:=Fu nd fun q h=>(hr.2 q).mp h;rw[Eb]at this;exact FG this (nX s N u v)
 have cn:∀r∈rs,(Ct.getC (gaG s N u v) r).getD 0=Ct.total ((triG s N u v).filter fun z=>decide (0<z.2)) r:=fun r mr=>by
  rw[c1.val,if_pos ((c1.key r).mp ((hr.2 r).mp mr))];rfl
 have nn:∀z∈triG s N u v,0<=z.2:=fun z mz=>by
  have e1:=hz.uN;have e2:=hz.vN;have e3:=hz.few;simp only[triG,Ev,FE,or_false]at mz;rcases mz with rfl|rfl|rfl
  · show 0<=N-u;omega
  · show 0<=N-v;omega
  · show 0<=u+v-N;omega
 have sums:∀f:Rat->Int,(rs.map fun r=>f r*(Ct.getC (gaG s N u v) r).getD 0).sum=((triG s N u v).map fun z=>f z.1*z.2).sum:=fun f=>by
  rw[Ht fun r mr=>by rw[cn r mr],lR _ rs nd fun z mz=>(hr.2 z.1).mpr ((c1.key z.1).mpr (EV.mpr ⟨z,mz,rfl⟩)),j8 _ nn]
 have h0:=(key (qd (Gap.gpN s.num s.den u v N ((0:Nat):Int)) s.den)).mpr ⟨_,rfl,0,by omega,rfl⟩;refine⟨JX h0,l3,fun r mr=>⟨_,rfl,?_⟩,?_,fun r mr=>?_,?_,up,fun e=>?_,fun n n0 nN=>?_⟩
 · rw[cn r mr,ml r mr,lQ hz];have e1:=hz.uN;have e2:=hz.vN;have e3:=hz.few;have e4:=hz.u0;have e5:=hz.v0;constructor
   · split<;>split<;>split<;>omega
   · split<;>split<;>split<;>omega
 · have:=sums fun _=>1;rw[Ht fun r mr=>LM _]at this;rw[this];unfold triG;simp only[Er,FV,Fd,Io,LM];omega
 · obtain⟨d,e,_⟩:=(key r).mp mr;have q:=nh s d;rw[<- e]at q;have w:=ln3 r mr
   have nr:0<=r.num:=by
    have a1:(0:Int)<=d:=by rcases w with w|w|w<;>omega
    have:=pc (a:=d) hq a1;rw[<- e]at this;exact Rat.num_nonneg.mpr this
   refine⟨q.2.1,q.2.2,?_,?_,nr⟩
   · rcases w with w|w|w<;>omega
   · rcases w with w|w|w<;>omega
 · rw[sums];rw[iP];simp only[Er,FV,Fd,Io,(nh s _).1];generalize Gap.pt s.num s.den u=a at *;generalize (s.den:Int)-Gap.pt s.num s.den v=b at *;rw[<- rd]
   grind
 · obtain⟨x,y,z,rfl⟩:∃x y z,rs=[x,y,z]:=by
     rcases rs with _|⟨x,_|⟨y,_|⟨z,_|⟨t,rs⟩⟩⟩⟩<;>simp at e;exact⟨x,y,z,rfl⟩
   refine⟨_,_,_,rfl,?_⟩;have w1:=ln3 x (by simp);have w2:=ln3 y (by simp);have w3:=ln3 z (by simp);simp only[Er,FV,HR,Ev,FE,or_false,forall_eq_or_imp,forall_eq]at up;obtain⟨⟨u1,u2⟩,u3,_⟩:=up;have b0:0<(s.den:Int)-Gap.pt s.num s.den v:=by omega
   generalize Gap.pt s.num s.den u=a at *;generalize (s.den:Int)-Gap.pt s.num s.den v=b at *;omega
 · obtain⟨k,rfl⟩:=Go n0;exact EV.mpr ⟨_,(key _).mpr ⟨_,rfl,k,nN,rfl⟩,(nh s _).1⟩
end
theorem qw:∀{xs ys:List Int},xs.Pairwise (· < ·)->ys.Pairwise (· < ·)->(∀x,x∈xs↔x∈ys)->xs=ys
 | [],[],_,_,_=>rfl
 | [],y::ys,_,_,h=>by have:=(h y).mpr Ee;cases this
 | x::xs,[],_,_,h=>by have:=(h x).mp Ee;cases this
 | x::xs,y::ys,h1,h2,h=>by
   obtain⟨a1,a2⟩:=HR.mp h1;obtain⟨b1,b2⟩:=HR.mp h2
   have e:x=y:=by
    rcases Ev.mp ((h x).mp Ee)with e|m
    · exact e
    · rcases Ev.mp ((h y).mpr Ee)with e|m'
      · exact e.symm
      · have:=b1 x m;have:=a1 y m';omega
   subst e;congr 1;refine qw a2 b2 fun z=>?_;constructor
   · intro m;rcases Ev.mp ((h z).mp (D7 _ m))with e|m'
     · subst e;have:=a1 z m;omega
     · exact m'
   · intro m;rcases Ev.mp ((h z).mpr (D7 _ m))with e|m'
     · subst e;have:=b1 z m;omega
     · exact m'
noncomputable def CW(z:Rat×Int):D2:=.tuple [fr z.1,.int z.2]
theorem zf{xs ys:List (Rat×Int)}:xs.map CW=ys.map CW↔xs=ys:=by
 constructor
 · intro h
   exact(List.map_inj_right (fun x y e=>by
    simp only[CW,EY,Eu,Gh,and_true,gB]at e
    exact Prod.ext e.1 e.2)).mp h
 · rintro rfl;rfl
structure GpZ (s:Rat) (N:Int) (zs:List (Rat×Int)):Prop where
 len1:1<=zs.length
 len3:zs.length<=3
 cnt:∀z∈zs,0<=z.2/\z.2<=N+N+N
 sum:(zs.map (·.2)).sum=N
 dv:∀z∈zs,(s.den:Int)%(z.1.den:Int)=0/\(z.1.den:Int)<=s.den/\0<=CH s z.1/\CH s z.1<=2*s.den/\0<=z.1.num
 top:(zs.map fun z=>CH s z.1*z.2).sum=s.den
 up:(zs.map fun z=>CH s z.1).Pairwise (· < ·)
 three:zs.length=3->∃a b c,(zs.map fun z=>CH s z.1)=[a,b,c]/\c=a+b
noncomputable def Bl(s:Rat)(N u v:Int)(rs:List Rat):List (Rat×Int):=rs.map fun r=>(r,(Ct.getC (gaG s N u v) r).getD 0)
theorem GpR.z{s:Rat}{N u v:Int}{rs:List Rat}(g:GpR s N u v rs):GpZ s N (Bl s N u v rs):=by
 obtain⟨a,b,c,d,e,f,h,i,_⟩:=g;unfold Bl;refine⟨by rw[Eb];exact a,by rw[Eb];exact b,fun z mz=>?_,by rw[Fa];exact d,fun z mz=>?_,by rw[Fa];exact f,by rw[Fa];exact h,fun q=>by rw[Fa];rw[Eb]at q;exact i q⟩
 · obtain⟨r,mr,rfl⟩:=EV.mp mz;obtain⟨_,rfl,k1,k2⟩:=c r mr;exact⟨k1,k2⟩
 · obtain⟨r,mr,rfl⟩:=EV.mp mz;exact e r mr
theorem qT(s:Rat)(N u v:Int)(rs:List Rat):rs.map (uG (gaG s N u v))=(Bl s N u v rs).map CW:=by unfold Bl;rw[Fa];rfl
theorem qP(s:Rat)(N u v:Int)(rs:List Rat):((Bl s N u v rs).map fun z=>CH s z.1)=rs.map (CH s):=by unfold Bl;rw[Fa];rfl
theorem mZ{f:Rat×Int->Int}:∀(xs:List (Rat×Int))(t:Int),xs.foldl (fun t z=>t+f z) t=t+(xs.map f).sum
 | [],t=>by rw[FV,Io,Ly];rfl
 | x::xs,t=>by rw[List.foldl_cons,mZ xs,Er,Fd,Int.add_assoc]
theorem pG{q v u' v':Int}(hq:0<q)(hg:EM p q=1)(hN:N<=q)(h:Gap.Nb p q N u v)(h':Gap.Nb p q N u' v'):u'=u/\v'=v:=(Gap.nb_one hq hg hN (Gap.ex_of_nb hq hg hN h)).mp h'
theorem nP:∀f fd,Fun K "__init__" "NoPaper.__init__" (inClass (top 3) 0) f fd->FnOk P w K mg base DS 1 f fd ["self", "path", "word"] (uD K "path" "word"):=by
 intro f fd F;refine F.ok (k:=0) (N:=["self", "path", "word"]) ⟨rfl,rfl,rfl,by decide +kernel,rfl,by decide +kernel,by decide +kernel⟩ (fun vs H Q E h=>?_) fun cdv A outer s H vs Q E hr h=>⟨_,aT (yX (cR (i:=0) rfl (.inl rfl)) (cR (i:=1) rfl (.inl rfl)) rfl) (bZ (yW (cR (i:=0) rfl (.inl rfl)) (cR (i:=2) rfl (.inl rfl)) rfl)),?_⟩
 · obtain⟨a,C,y,z,e,_⟩:=h;subst e;rfl
 · obtain⟨a,C,y,z,e,xc,na,nb,ea,k⟩:=h;subst e;exact⟨y,rfl,.ref a,rfl,a,C,rfl,xc,na,ea,fun dx hd ne=>⟨z,rfl,.ref a,rfl,a,C,dx,_,rfl,xc,nb,by rw[upd_ne (GM ne),ak],ak,ne,(by show 1<=10;decide),by rw[cT];exact k dx hd ne⟩⟩
noncomputable def aB:List W->(D2->Prop)->XQ->Prop:=fun ws Q R=>∃(s:Rat)(N:Int)(d:D2),ws=[.d (fr s),.d (.int N),.d d]/\(∃B,dA s B/\B<=10^9/\N<=10^9)/\(∀z,Cw s N d=some z->R "NoPaper" [("word", .str z),("path", .tuple [])])/\(Cw s N d=none->Q (.bool true))
theorem aB.mono:∀ws (Q Q':D2->Prop) (R R':XQ),(∀d,Q d->Q' d)->(∀c fs,R c fs->R' c fs)->aB ws Q R->aB ws Q' R':=fun _ _ _ _ _ h1 h2 ⟨s,N,d,e_,p_,a_,b_⟩=>⟨s,N,d,e_,p_,fun z h=>h2 _ _ (a_ z h),fun h=>h1 _ (b_ h)⟩
theorem aB.len:∀ws (Q:D2->Prop) (R:XQ),aB ws Q R->ws.length=3:=fun _ _ _ ⟨_,_,_,e_,_⟩=>by subst e_;rfl
theorem cW:FnScope ["step", "many", "thing", "u", "v"] ["step", "many", "thing"] (defScope (top 23)):=⟨rfl,rfl,rfl,by decide +kernel,rfl,by decide +kernel,by decide +kernel⟩
theorem dE_lets_neighbours(Fn:FnIn K mg "lets_neighbours" (top 23) ["step", "many", "thing"])(Z:Bz mg)(d_is_pair:∀rl,Dfn P w K mg base rl "is_pair" ["many", "thing"] 3 bP)(d_plus:∀rl,Dfn P w K mg base rl "plus" ["one", "other"] 3 dh)(d_times:∀rl,Dfn P w K mg base rl "times" ["one", "other"] 3 cA)(d_gap_above:∀rl,Dfn P w K mg base rl "gap_above" ["step", "u"] 5 aY)(d_gap_below:∀rl,Dfn P w K mg base rl "gap_below" ["step", "v"] 5 aX)(gl_ONE:GlD K mg "ONE" (pr 1 1))(xo_:∃C,XTwo P w K mg base "NoPaper" "path" "word" C):DfnE P w K mg base rl "lets_neighbours" ["step", "many", "thing"] 6 aB:=by
 have sc:=cW;obtain⟨C_,xo⟩:=xo_;refine DfnE.of Fn sc aB.mono aB.len (fun cdv A outer s H E hr hxe=>uk hxe (hr.mono (by decide)) xo (cQ (dM (am (d_is_pair _) (hr.mono (by decide)) (aa (vn 1) (aa (vn 2) ac))))) (aa (cw ac) (aa mE ac)) (xt (lA (vn 2) (fF (n:=2) rfl (bh (aA 3 sc.nd) (bh (aA 4 sc.nd) dC)))) (uk hxe (hr.mono (by decide)) xo (bA fC lC (aQ _) (v_add (vn 3) (vn 4)) (vn 1)) (aa (cw ac) (aa mE ac)) (uk hxe (hr.mono (by decide)) xo (bA (dR hr.units) cp (aQ _) (am (d_plus _) (hr.mono (by decide)) (aa (am (d_times _) (hr.mono (by decide)) (aa (cw (aa (vn 4) (aa ae ac))) (aa (am (d_gap_above _) (hr.mono (by decide)) (aa (vn 0) (aa (vn 3) ac))) ac))) (aa (am (d_times _) (hr.mono (by decide)) (aa (cw (aa (vn 3) (aa ae ac))) (aa (am (d_gap_below _) (hr.mono (by decide)) (aa (vn 0) (aa (vn 4) ac))) ac))) ac))) (jC gl_ONE)) (aa (cw ac) (aa mE ac)) (Bi (al (av b5))))))) ?_;rintro ws Q R ⟨s,N,d,rfl,⟨B,h1,hB,hN⟩,hR,hQ⟩
 cases hp:Cp N d with
 | false=>exact lv (.tuple []) (.str "shape") (by simp_arith only[aj,ah,bP.eq,dh.eq,cA.eq,aY.eq,aX.eq,hp]) (by simp_arith only[aj,ah]) (hR _ (qL hp))
 | true =>
   obtain⟨u,v,rfl,u0,u1,v0,v1⟩:=yY.mp hp;rw[qM hp]at hR hQ;refine lw (by simp_arith only[aj,ah,bP.eq,dh.eq,cA.eq,aY.eq,aX.eq,hp]) (uJ (ρ':=[some (.d (fr s)),some (.d (.int N)),some (.d (.tuple [.int u,.int v])),some (.d (.int u)),some (.d (.int v))]) (by(simp_arith only[aj,ah])<;>rfl) ?_);by_cases c1:u+v<N
   · rw[if_pos c1]at hR;exact lv (.tuple []) (.str "few") (by simp_arith only[aj,ah,c1]) (by simp_arith only[aj,ah]) (hR _ rfl)
   · rw[if_neg c1]at hR hQ;refine lw (by simp_arith only[aj,ah,c1]) ?_;have hs:∃B,dA s B/\B<=10^9:=⟨B,h1,hB⟩;have hu:u.natAbs<2^600:=D9 (show u.natAbs<2^30 by omega) (Ez (by decide) (by decide));have hv:v.natAbs<2^600:=D9 (show v.natAbs<2^30 by omega) (Ez (by decide) (by decide));have iu:Cm 30 (u:Rat):=ir (by omega) (by decide);have iv:Cm 30 (v:Rat):=ir (by omega) (by decide);have eu:Il [.int u,.int 1]=fr (u:Rat):=rfl;have ev:Il [.int v,.int 1]=fr (v:Rat):=rfl;have g1:=kY h1 hB u;have g2:Cm 100 (1-CY s v):=(qF Ay (kY h1 hB v)).mono (by decide);have m1:=jS iv g1;have m2:=jS iu g2;have s1:Cm 2000 (u:Rat):=iu.mono (by decide);have s2:Cm 2000 (v:Rat):=iv.mono (by decide);have s3:Cm 2000 (CY s u):=g1.mono (by decide);have s4:Cm 2000 (1-CY s v):=g2.mono (by decide);have s5:Cm 2000 ((v:Rat)*CY s u):=m1.mono (by decide);have s6:Cm 2000 ((u:Rat)*(1-CY s v)):=m2.mono (by decide);by_cases c2:v*ptQ s u+u*((s.den:Int)-ptQ s v)=s.den
     · rw[if_pos c2]at hQ;have e:decide ((v:Rat)*CY s u+(u:Rat)*(1-CY s v)=1)=true:=decide_eq_true ((hJ s u v).mpr c2);refine lw (by simp_arith only[aj,ah,DX,bP.eq,dh.eq,cA.eq,aY.eq,aX.eq,eu,ev,e,qX,gZ]) (uK (aF ?_));simp_arith only[aj,ah];exact aI (hQ rfl)
     · rw[if_neg c2]at hR;have e:decide ((v:Rat)*CY s u+(u:Rat)*(1-CY s v)=1)=false:=decide_eq_false (mt (hJ s u v).mp c2);exact lv (.tuple []) (.str "round") (by simp_arith only[aj,ah,DX,bP.eq,dh.eq,cA.eq,aY.eq,aX.eq,eu,ev,e,qX,gZ]) (by simp_arith only[aj,ah]) (hR _ rfl)
theorem yT{a:Int}(h1:0<a)(h2:a<b)(h3:b<=m):dA (qd a b) m:=by
 have hb:0<b:=by omega
 have e:=ie hb (a:=a)
 have hg:0<(EM a b:Int):=by
  have:=G3 a (show b≠0 by omega);omega
 unfold qO at e;unfold fr at e;simp only[EY,Eu,Gh,and_true]at e;obtain⟨e1,e2⟩:=e;rw[EI _ (by omega)]at e1 e2;have da:(EM a b:Int)∣a:=Int.gcd_dvd_left ..;have db:(EM a b:Int)∣b:=Int.gcd_dvd_right ..;generalize (EM a b:Int)=g at *;obtain⟨x,rfl⟩:=da;obtain⟨y,rfl⟩:=db;rw[HC _ (by omega)]at e1 e2;have x0:0<x:=HB h1 hg;have y0:0<y:=HB hb hg;have xy:x<y:=GJ h2 (by omega);refine⟨by omega,by omega,?_⟩;have:1*y<=g*y:=Eh (by omega) (by omega);omega
noncomputable def bE:List W->(D2->Prop)->Prop:=fun ws Q=>∃(i j:Int),ws=[.d (.int i),.d (.int j)]/\((0<=i)/\(0<=j))/\Q (.int (EM i j:Nat))
theorem bE.mono:∀ws (Q Q':D2->Prop),(∀d,Q d->Q' d)->bE ws Q->bE ws Q':=fun _ _ _ h_=>Eo fun _=>Eo fun _=>Ed (Ed (h_ _))
theorem bE.len:∀ws (Q:D2->Prop),bE ws Q->ws.length=2:=fun _ _ h_=>by obtain⟨_,_,e_,_⟩:=h_;subst e_;rfl
theorem bE.eq(i j:Int)(hi:0<=i)(hj:0<=j):bE [.d (.int i),.d (.int j)]=VL.ret (.int (EM i j:Nat):D2):=by
 refine af fun Q=>⟨?_,fun q_=>⟨i,j,rfl,⟨hi,hj⟩,q_⟩⟩;rintro⟨i',j',e_,_,q_⟩;simp_arith only[and_true]at e_;obtain⟨rfl,rfl⟩:=e_;exact q_
theorem iX:FnScope ["_law_one", "_law_other"] ["_law_one", "_law_other"] (defScope (top 31)):=⟨rfl,rfl,rfl,by decide +kernel,rfl,by decide +kernel,by decide +kernel⟩
theorem d__law_gcd(Fn:FnIn K mg "_law_gcd" (top 31) ["_law_one", "_law_other"])(Z:Bz mg)    : Dfn P w K mg base rl "_law_gcd" ["_law_one", "_law_other"] 1 bE:=by
 have sc:=iX
 refine Dfn.of Fn sc (bE.mono) (bE.len) (fun cdv A outer s H E hr=>(ai (eE [] FU (bA kP oV (aQ _) (vn 1) ae) (al (jx 0 1 rfl sc.nd (aa (vn 1) (aa (v_mod (vn 0) (vn 1)) ac)))))
  (al (av (vn 0))))) ?_
 rintro ws Q ⟨i,j,rfl,⟨hi,hj⟩,hQ⟩;refine aF ?_;simp_arith only[ah];refine fY (σ:=Int×Int) (fun s=>[some (.d (.int s.1)),some (.d (.int s.2))]) (fun s=>decide (0<s.2)) (fun s=>(s.2,s.1.fmod s.2)) (fun s=>s.2.natAbs) (fun s=>0<=s.1/\0<=s.2/\EM s.1 s.2=EM i j) (i,j) rfl ⟨hi,hj,rfl⟩ ?_ ?_ ?_
 · intro s _;simp_arith only[ah]
 · rintro⟨x,y⟩ ⟨x0,y0,e⟩ c;have c1:0<y:=by simpa using c
   have hc:y≠0:=by omega
   refine⟨⟨y0,Fz _ c1,by rw[gw];exact e⟩,c7 hc,_,by(simp_arith only[aj,ah])<;>rfl,rfl⟩
 · rintro⟨x,y⟩ ⟨x0,y0,e⟩ c
   have c1 : y = 0 := by have:¬0<y:=by simpa using c
                         have:0<=y:=y0;omega
   subst c1;have x0:0<=x:=x0;have e:EM x 0=EM i j:=e;simp_arith only[ah];rw[Int.gcd_zero_right]at e;have:x=((EM i j:Nat):Int):=by omega
   rw[this];exact aI hQ
noncomputable def bo:List W->(D2->Prop)->Prop:=fun ws Q=>∃(a b:Int),ws=[.d (.int a),.d (.int b)]/\((0<b)/\(b.natAbs<2^8000))/\Q (fr (qd a b))
theorem bo.mono:∀ws (Q Q':D2->Prop),(∀d,Q d->Q' d)->bo ws Q->bo ws Q':=fun _ _ _ h_=>Eo fun _=>Eo fun _=>Ed (Ed (h_ _))
theorem bo.len:∀ws (Q:D2->Prop),bo ws Q->ws.length=2:=fun _ _ h_=>by obtain⟨_,_,e_,_⟩:=h_;subst e_;rfl
theorem bo.eq(a b:Int)(hb:0<b)(hz:b.natAbs<2^8000):bo [.d (.int a),.d (.int b)]=VL.ret (fr (qd a b):D2):=by
 refine af fun Q=>⟨?_,fun q_=>⟨a,b,rfl,⟨hb,hz⟩,q_⟩⟩;rintro⟨a',b',e_,_,q_⟩;simp_arith only[and_true]at e_;obtain⟨rfl,rfl⟩:=e_;exact q_
theorem g9:FnScope ["_law_top", "_law_bottom", "_law_common"] ["_law_top", "_law_bottom"] (defScope (top 32)):=⟨rfl,rfl,rfl,by decide +kernel,rfl,by decide +kernel,by decide +kernel⟩
theorem d__law_frac(Fn:FnIn K mg "_law_frac" (top 32) ["_law_top", "_law_bottom"])(Z:Bz mg)(d__law_gcd:∀rl,Dfn P w K mg base rl "_law_gcd" ["_law_one", "_law_other"] 1 bE)   : Dfn P w K mg base rl "_law_frac" ["_law_top", "_law_bottom"] 2 bo:=by
 have sc:=g9
 refine Dfn.of Fn sc (bo.mono) (bo.len) (fun cdv A outer s H E hr=>(ai (aC 2 sc.nd (am (d__law_gcd _) (hr.mono (by decide)) (aa (vb Z.abs_ (aa (vn 0) ac)) (aa (vn 1) ac))))
  (al (av (cw (aa (v_div (vn 0) (vn 2)) (aa (v_div (vn 1) (vn 2)) ac))))))) ?_
 rintro ws Q ⟨a,b,rfl,⟨hb,hz⟩,hQ⟩;refine aF ?_;have e:EM (if a<0 then -a else a) b=EM a b:=by split<;>simp[EM]
 have c1:cu a (EM a b:Int):=gA hb hz _;have c2:cu b (EM a b:Int):=gA hb hz _;have a0:0<=(if a<0 then -a else a):=by split<;>omega
 simp_arith only[aj,ah,bE.eq,e];rw[ie hb];exact aI hQ
noncomputable def aO:List W->(D2->Prop)->Prop:=fun ws Q=>∃(m:Int),ws=[.reel,.d (.int m)]/\((2<=m)/\(m<=10^9))/\∀s:Rat,(dA s m)->Q (fr s)
theorem aO.mono:∀ws (Q Q':D2->Prop),(∀d,Q d->Q' d)->aO ws Q->aO ws Q':=fun _ _ _ h_=>Eo fun _=>Ed (Ed fun q_ o_ ho_=>h_ _ (q_ o_ ho_))
theorem aO.len:∀ws (Q:D2->Prop),aO ws Q->ws.length=2:=fun _ _ h_=>by obtain⟨_,e_,_⟩:=h_;subst e_;rfl
theorem aO.eq(m:Int)(h2:2<=m)(h9:m<=10^9):aO [.reel,.d (.int m)]=C5 (anyM fun s:Rat=>dA s m) fun s=>VL.ret (fr s:D2):=by
 refine af fun Q=>⟨?_,fun q_=>⟨m,rfl,⟨h2,h9⟩,q_⟩⟩;rintro⟨m',e_,_,q_⟩;simp_arith only[and_true]at e_;obtain rfl:=e_;exact q_
theorem eG:FnScope ["_law_feed_here", "_law_most", "_law_bottom", "_law_near"] ["_law_feed_here", "_law_most"] (defScope (top 33)):=⟨rfl,rfl,rfl,by decide +kernel,rfl,by decide +kernel,by decide +kernel⟩
theorem d__law_step_of(Fn:FnIn K mg "_law_step_of" (top 33) ["_law_feed_here", "_law_most"])(Z:Bz mg)(d__law_frac:∀rl,Dfn P w K mg base rl "_law_frac" ["_law_top", "_law_bottom"] 2 bo)(d__law_draw:∀rl,Dfn P w K mg base rl "_law_draw" ["_law_feed_here", "_law_many"] 2 eK)   : Dfn P w K mg base rl "_law_step_of" ["_law_feed_here", "_law_most"] 3 aO:=by
 have sc:=eG
 refine Dfn.of Fn sc (aO.mono) (aO.len) (fun cdv A outer s H E hr=>(ai (aC 2 sc.nd (v_add ae (am (d__law_draw _) (hr.mono (by decide)) (aa (vn 0) (aa (v_sub (vn 1) ae) ac)))))
  (ai (aC 3 sc.nd (bf (oW (aa (v_add ae (am (d__law_draw _) (hr.mono (by decide)) (aa (vn 0) (aa (v_sub (vn 2) ae) ac)))) (aa (v_div (v_mul (vn 2) ae) ae) (aa (v_sub (vn 2) ae) (aa ae ac))))) (am (d__law_draw _) (hr.mono (by decide)) (aa (vn 0) (aa ae ac)))))
  (al (av (am (d__law_frac _) (hr.mono (by decide)) (aa (va Z.max_ (aa ae (aa (vn 3) ac))) (aa (vn 2) ac)))))))) ?_
 rintro ws Q ⟨m,rfl,⟨h2,h9⟩,hQ⟩;refine aF ?_;simp_arith only[aj,ah,p__law_draw.eq]
 (with_reducible (first|refine ay fun b hb=>?_|refine aN fun b hb=>?_))
 try simp_arith only[aj,ah,p__law_draw.eq]
 (with_reducible (first|refine ay fun a ha=>?_|refine aN fun a ha=>?_))
 have cm:aZ (2+b) 377:=.rt (by decide);have cd:cu ((2+b)*377) 610:=cu.of (by decide) (by decide)
 try simp_arith only[aj,ah,p__law_draw.eq]
 (with_reducible (first|refine ay fun k hk=>?_|refine aN fun k hk=>?_))
 refine B8 (fQ (xs:=[1+a,((2+b)*377).fdiv 610,2+b-1,1]) (enc:=Et) (fun z:Int=>z<2+b) rfl hk.1 (by simpa using hk.2) ?_ fun z hz=>?_)
 · intro z mz;have:((2+b)*377).fdiv 610=((2+b)*377) / 610:=EI _ (by decide);simp only[Ev,FE,or_false]at mz;omega
 have hz0:max 1 z<2+b:=by omega
 have hz1:0<max 1 z:=by omega
 have hb1:(2+b).natAbs<2^8000:=D9 (show(2+b).natAbs<2^31 by omega) (Ez (by decide) (by decide));simp_arith only[aj,ah,bo.eq];exact aI (hQ _ (yT hz1 hz0 (by omega)))
noncomputable def aL:List W->(D2->Prop)->Prop:=fun ws Q=>∃(s:Rat)(N:Int)(d:D2),ws=[.d (fr s),.d (.int N),.d d]/\((∃B,dA s B/\B<=10^9/\N<=10^9))/\Q (.bool (Cw s N d).isNone)
theorem aL.mono:∀ws (Q Q':D2->Prop),(∀d,Q d->Q' d)->aL ws Q->aL ws Q':=fun _ _ _ h_=>Eo fun _=>Eo fun _=>Eo fun _=>Ed (Ed (h_ _))
theorem aL.len:∀ws (Q:D2->Prop),aL ws Q->ws.length=3:=fun _ _ h_=>by obtain⟨_,_,_,e_,_⟩:=h_;subst e_;rfl
theorem aL.eq(s:Rat)(N:Int)(d:D2)(hs:∃B,dA s B/\B<=10^9/\N<=10^9):aL [.d (fr s),.d (.int N),.d d]=VL.ret (.bool (Cw s N d).isNone:D2):=by
 refine af fun Q=>⟨?_,fun q_=>⟨s,N,d,rfl,hs,q_⟩⟩;rintro⟨s',N',d',e_,_,q_⟩;simp_arith only[gB,cJ,cK,bT,bM,cM]at e_;obtain⟨rfl,rfl,rfl⟩:=e_;exact q_
theorem fB:FnScope ["_law_step", "_law_many", "_law_thing", "_law_let"] ["_law_step", "_law_many", "_law_thing"] (defScope (top 34)):=⟨rfl,rfl,rfl,by decide +kernel,rfl,by decide +kernel,by decide +kernel⟩
theorem d__law_is_let(Fn:FnIn K mg "_law_is_let" (top 34) ["_law_step", "_law_many", "_law_thing"])(Z:Bz mg)(dE_lets_neighbours:∀rl,DfnE P w K mg base rl "lets_neighbours" ["step", "many", "thing"] 6 aB)(xc_:XCl2 K mg "NoPaper" "path" "word" "NoPaper" "NoPaper.__init__" (inClass (top 3) 0) ["self", "path", "word"] []):Dfn P w K mg base rl "_law_is_let" ["_law_step", "_law_many", "_law_thing"] 7 aL:=by
 have sc:=fB;obtain⟨C,B,f,fd,Cs,ns,mC,mB,M,na,nb,ov,_⟩:=xc_.ex;have un:∀C',Ha K ED "NoPaper" = some (some (.ref C'))->C'=C:=fun C' e=>by rw[ns]at e;cases e;rfl
 have x4:∀c'∈(["NoPaper"]:List Str),∀C',Ha K ED c'=some (some (.ref C'))->XOver K C' B:=fun c' hc C' e=>by
  cases Gf.mp hc;cases un C' e;exact ov
 refine Dfn.of Fn sc aL.mono aL.len (fun cdv A outer s H E hr=>ai (jw 3 sc.nd b5) (ai (rE (B:=B) (ts:=xL 3 (vC (.bool false))) rfl rfl mB x4
  (fun pn XE E' hx=>uj 3 hx sc.nd (dE_lets_neighbours _) (hr.mono (by decide)) (aa (vn 0) (aa (vn 1) (aa (vn 2) ac))))
  (fun a=>al (jw 3 sc.nd b5)))
  (al (av (vn 3))))) ?_
 rintro ws Q ⟨s,N,d,rfl,hs,hQ⟩;refine⟨rfl,?_⟩;dsimp only[yn,vd];show ju _ _ _ _ _ _;refine oQ (ws:=[.d (fr s),.d (.int N),.d d]) ?_ rfl ⟨s,N,d,rfl,hs,fun z e=>⟨Gf.mpr rfl,?_⟩,fun e=>⟨true,rfl,_,rfl,_,rfl,?_⟩⟩
 · simp_arith only[aj,ah]
 · rw[e]at hQ;exact⟨rfl,_,rfl,_,rfl,hQ⟩
 · rw[e]at hQ;exact hQ
noncomputable def aw:List W->(D2->Prop)->Prop:=fun ws Q=>∃(s:Rat)(N:Int)(zs:List (Rat×Int)),ws=[.d (fr s),.d (.int N),.d (.tuple (zs.map CW))]/\((∃B,dA s B/\B<=10^9)/\(N<=s.den)/\(GpZ s N zs))/\Q (.bool true)
theorem aw.mono:∀ws (Q Q':D2->Prop),(∀d,Q d->Q' d)->aw ws Q->aw ws Q':=fun _ _ _ h_=>Eo fun _=>Eo fun _=>Eo fun _=>Ed (Ed (h_ _))
theorem aw.len:∀ws (Q:D2->Prop),aw ws Q->ws.length=3:=fun _ _ h_=>by obtain⟨_,_,_,e_,_⟩:=h_;subst e_;rfl
theorem aw.eq(s:Rat)(N:Int)(zs:List (Rat×Int))(hs:∃B,dA s B/\B<=10^9)(hN:N<=s.den)(gz:GpZ s N zs):aw [.d (fr s),.d (.int N),.d (.tuple (zs.map CW))]=VL.ret (.bool true:D2):=by
 refine af fun Q=>⟨?_,fun q_=>⟨s,N,zs,rfl,⟨hs,hN,gz⟩,q_⟩⟩;rintro⟨s',N',zs',e_,_,q_⟩;simp_arith only[gB,cJ,cK,bT,bM,cM,zf]at e_;obtain⟨rfl,rfl,rfl⟩:=e_;exact q_
theorem df:FnScope ["_law_step", "_law_many", "_law_found", "_law_top", "_law_above", "_law_under", "_law_often", "_law_lengths"] ["_law_step", "_law_many", "_law_found"] (defScope (top 35)):=⟨rfl,rfl,rfl,by decide +kernel,rfl,by decide +kernel,by decide +kernel⟩
theorem d__law_gaps_right(Fn:FnIn K mg "_law_gaps_right" (top 35) ["_law_step", "_law_many", "_law_found"])(Z:Bz mg)    : Dfn P w K mg base rl "_law_gaps_right" ["_law_step", "_law_many", "_law_found"] 1 aw:=by
 have sc:=df
 refine Dfn.of Fn sc (aw.mono) (aw.len) (fun cdv A outer s H E hr=>(ai (bY (DB.pb (u4 (cQ (d7 kO kO ae (rN Z.len_ (aa (vn 2) ac)) ae)) (qr (bA (dR hr.units) cp (aQ _) (v_sum Z.sum_ (aa (cD ["_law_pair"] [none] rfl (dL (vn 2)) (fun _=>(aA 0 (show G0 (["_law_pair"]:List Str) by decide +kernel))) (fun _=>cP) (fun _=>(bf (vn 0) ae))) ac)) (vn 1))))) (al (av b5)) bw)
  (ai (aC 3 sc.nd ae)
  (ai (dB [4,5,6] FU rfl (dL (vn 2)) (fF (n:=2) rfl (bh (fF (n:=2) rfl (bh (aA 4 sc.nd) (bh (aA 5 sc.nd) dC))) (bh (aA 6 sc.nd) dC))) (ai (bY (bA (dR hr.units) cp (aQ _) (v_mod (bf (vn 0) ae) (vn 5)) ae) (al (av b5)) bw)
  (al (aC 3 sc.nd (v_add (vn 3) (v_mul (v_mul (vn 4) (v_div (bf (vn 0) ae) (vn 5))) (vn 6)))))))
  (ai (bY (bA (dR hr.units) cp (aQ _) (vn 3) (bf (vn 0) ae)) (al (av b5)) bw)
  (ai (b8 7 sc.nd ["_law_pair", "_law_step"] [none,some 0] rfl (dL (vn 2)) (fun _=>(aA 0 (show G0 (["_law_pair", "_law_step"]:List Str) by decide +kernel))) (fun _=>cP) (fun _=>(v_mul (bf (bf (vn 0) ae) ae) (v_div (bf (vn 1) ae) (bf (bf (vn 0) ae) ae)))))
  (al (av (v_and (oZ (jP hr.units) cp (aQ _) (vn 7) (lF rfl Z.sorted_ Z.set_ (aa (vn 7) ac))) (lH (v_or (oZ fC lC (aQ _) (rN Z.len_ (aa (vn 7) ac)) ae) (lH (oZ (jP hr.units) cp (aQ _) (bf (vn 7) ae) (v_add (bf (vn 7) ae) (bf (vn 7) ae))))))))))))))) ?_
 rintro ws Q ⟨s,N,zs,rfl,⟨hs,hN,gz⟩,hQ⟩;refine aF ?_;have sz:=E8;obtain⟨B,⟨h3,h4,h5⟩,hB⟩:=hs;have l1:=gz.len1;have l3:=gz.len3;have sm:=gz.sum;have c1:(1:Int)<=(zs.length:Int):=by omega
 have c2:(zs.length:Int)<=3:=by omega
 simp_arith only[aj,ah,DX,c1,c2];refine B9 (cC (xs:=zs) (enc:=CW) (fun z=>.int z.2) rfl ?_ (by omega) ?_)
 · intro z mz;simp_arith only[aj,ah,CK,CW]
 · have em:zs.map (fun z=>Et z.2)=(zs.map (·.2)).map Et:=by rw[Fa];rfl
   rw[em];simp_arith only[aj,ah,DV,DX,sm,beq_self_eq_true]
   have fx:∀z∈zs,cu (s.den:Int) (z.1.den:Int)/\(z.1.den:Int)≠0/\aZ z.1.num ((s.den:Int) / (z.1.den:Int))/\(s.den:Int).fdiv (z.1.den:Int)=(s.den:Int) / (z.1.den:Int)/\(s.den:Int).fmod (z.1.den:Int)=0/\aZ (z.1.num*((s.den:Int) / (z.1.den:Int))) z.2:=fun z mz=>by
    obtain⟨d1,d2,d3,d4,d5⟩:=gz.dv z mz;obtain⟨k1,k2⟩:=gz.cnt z mz;have dp:=z.1.den_pos;have q1:=JS (z.1.den:Int) (show 0<=(s.den:Int) by omega);have q2:=Kp (show 0<=(s.den:Int) by omega) (show 0<=(z.1.den:Int) by omega);exact⟨.of (by omega) (by omega),by omega,.rt (by omega),EI _ (by omega),by rw[IU _ (by omega)];exact d1,.rt (by omega)⟩
   refine n_ (xs:=zs) (enc:=CW) (fun t:Int=>[some (.d (fr s)),some (.d (.int N)),some (.d (.tuple (zs.map CW))),some (.d (.int t)),none,none,none,none]) (fun t z=>t+CH s z.1*z.2) 0 (fun _=>True) rfl rfl trivial ?_ ?_
   · rintro z mz t _;obtain⟨e1,e2,e3,e4,e5,e6⟩:=fx z mz;refine⟨trivial,_,by(simp_arith only[aj,ah,CW,sf,DX,e1,e2,e3,e4,e5,e6,beq_self_eq_true])<;>rfl,rfl⟩
   · have tp:=gz.top;rw[mZ,Int.zero_add,tp];simp_arith only[aj,ah,DX,beq_self_eq_true];refine B9 (cC (xs:=zs) (enc:=CW) (fun z=>.int (CH s z.1)) rfl ?_ (by omega) ?_)
     · intro z mz;obtain⟨e1,e2,e3,e4,e5,e6⟩:=fx z mz;simp_arith only[aj,ah,CK,CW,DX,e1,e2,e3,e4];rfl
     · have em2:zs.map (fun z=>Et (CH s z.1))=(zs.map fun z=>CH s z.1).map Et:=by rw[Fa];rfl
       rw[em2];have up:=gz.up;have th:=gz.three;have ll:(zs.map fun z=>CH s z.1).length=zs.length:=Eb _;generalize (zs.map fun z=>CH s z.1)=ls at *;have tl:ls.length<64:=by omega
       have el:zs.length=ls.length:=ll.symm;simp_arith only[aj,ah,DX,tQ,xD,tl]
       (with_reducible (first|refine ay fun ms hms=>?_|refine aN fun ms hms=>?_))
       cases qw up hms.1 fun x=>(hms.2 x).symm;by_cases c3:(ls.length:Int)<3
       · simp_arith only[aj,ah,j9,shaped_ints,decide_true,c3];exact aI hQ
       · obtain⟨a,b,c,e,ec⟩:=th (by omega);subst e;have e5:L2.atI ([Et a,.int b,.int c]) 0=some (.int a):=rfl;have e6:L2.atI ([Et a,.int b,.int c]) 1=some (.int b):=rfl;have e7:L2.atI ([Et a,.int b,.int c]) 2=some (.int c):=rfl;have s3:E4 (.list [Et a,.int b,.int c])=true:=shaped_ints [a,b,c];have s4:EU (.list [Et a,.int b,.int c]) (.list [Et a,.int b,.int c])=true:=(j9 [a,b,c] [a,b,c]).trans (decide_eq_true rfl);have s5:(c==a+b)=true:=by rw[ec];exact beq_self_eq_true _
         simp_arith only[aj,ah,s3,s4,s5,c3,e5,e6,e7];exact aI hQ
noncomputable def au:List W->(D2->Prop)->Prop:=fun ws Q=>∃(s:Rat)(N:Int)(ls:List Int),ws=[.reel,.d (fr s),.d (.int N),.d (.list (ls.map .int))]/\((∃B,dA s B/\B<=10^9)/\(2<=N)/\(N<=s.den)/\(∀u v,Gap.Nb s.num s.den N u v->∀n:Int,0<=n->n<N->Gap.gpN s.num s.den u v N n∈ls))/\Q (.bool true)
theorem au.mono:∀ws (Q Q':D2->Prop),(∀d,Q d->Q' d)->au ws Q->au ws Q':=fun _ _ _ h_=>Eo fun _=>Eo fun _=>Eo fun _=>Ed (Ed (h_ _))
theorem au.len:∀ws (Q:D2->Prop),au ws Q->ws.length=4:=fun _ _ h_=>by obtain⟨_,_,_,e_,_⟩:=h_;subst e_;rfl
theorem au.eq(s:Rat)(N:Int)(ls:List Int)(hs:∃B,dA s B/\B<=10^9)(h2:2<=N)(hN:N<=s.den)(hl:∀u v,Gap.Nb s.num s.den N u v->∀n:Int,0<=n->n<N->Gap.gpN s.num s.den u v N n∈ls):au [.reel,.d (fr s),.d (.int N),.d (.list (ls.map .int))]=VL.ret (.bool true:D2):=by
 refine af fun Q=>⟨?_,fun q_=>⟨s,N,ls,rfl,⟨hs,h2,hN,hl⟩,q_⟩⟩;rintro⟨s',N',ls',e_,_,q_⟩;simp_arith only[gB,cJ,cK,bT,bM,cM]at e_;obtain⟨rfl,rfl,rfl⟩:=e_;exact q_
theorem cV:FnScope ["_law_feed_here", "_law_step", "_law_many", "_law_lengths", "_law_here", "_law_some", "_law_turn", "_law_there", "_law_long"] ["_law_feed_here", "_law_step", "_law_many", "_law_lengths"] (defScope (top 36)):=⟨rfl,rfl,rfl,by decide +kernel,rfl,by decide +kernel,by decide +kernel⟩
theorem d__law_steps_right(Fn:FnIn K mg "_law_steps_right" (top 36) ["_law_feed_here", "_law_step", "_law_many", "_law_lengths"])(Z:Bz mg)(d__law_draw:∀rl,Dfn P w K mg base rl "_law_draw" ["_law_feed_here", "_law_many"] 2 eK)(d_next_of:∀rl,Dfn P w K mg base rl "next_of" ["step", "many", "n"] 3 bO)   : Dfn P w K mg base rl "_law_steps_right" ["_law_feed_here", "_law_step", "_law_many", "_law_lengths"] 4 au:=by
 have sc:=cV
 refine Dfn.of Fn sc (au.mono) (au.len) (fun cdv A outer s H E hr=>(ai (aC 4 sc.nd (am (d__law_draw _) (hr.mono (by decide)) (aa (vn 0) (aa (vn 2) ac))))
  (ai (b8 5 sc.nd ["_law_k", "_law_feed_here", "_law_many", "_law_step"] [none,some 0,some 2,some 1] rfl (c_ Z.range_ (aa ae ac)) (fun _=>(aA 0 (show G0 (["_law_k", "_law_feed_here", "_law_many", "_law_step"]:List Str) by decide +kernel))) (fun _=>cP) (fun _=>(v_mod (v_mul (am (d__law_draw _) (hr.mono (by decide)) (aa (vn 1) (aa (vn 2) ac))) (bf (vn 3) ae)) (bf (vn 3) ae))))
  (ai (dB [6,7,8] FU rfl (c_ Z.range_ (aa ae ac)) (aA 6 sc.nd) (ai (aC 7 sc.nd (am (d_next_of _) (hr.mono (by decide)) (aa (vn 1) (aa (vn 2) (aa (vn 4) ac)))))
  (ai (bY (cQ (d7 kO fC ae (vn 7) (vn 2))) (al (av b5)) bw)
  (ai (aC 8 sc.nd (v_mod (v_mul (v_sub (vn 7) (vn 4)) (bf (vn 1) ae)) (bf (vn 1) ae)))
  (ai (bY (bA (mQ hr.u65) uR (by with_unfolding_all rfl) (vn 8) (vn 3)) (al (av b5)) bw)
  (ai (bY (bA (dR hr.units) cp (aQ _) (cD ["_law_one", "_law_here", "_law_step", "_law_long"] [none,some 4,some 1,some 8] rfl (iO (vn 5)) (fun _=>(aA 0 (show G0 (["_law_one", "_law_here", "_law_step", "_law_long"]:List Str) by decide +kernel))) (fun _=>uM (d7 fC fC ae (v_mod (v_sub (vn 0) (v_mul (vn 1) (bf (vn 2) ae))) (bf (vn 2) ae)) (vn 3))) (fun _=>(vn 0))) (oW ac)) (al (av b5)) bw)
  (al (aC 4 sc.nd (vn 7)))))))))
  (al (av b5)))))) ?_
 rintro ws Q ⟨s,N,ls,rfl,⟨hs,h2,hN,hl⟩,hQ⟩;refine aF ?_;have sz:=E8;have hs':=hs;obtain⟨B,⟨h3,h4,h5⟩,hB⟩:=hs';have nz:(s.den:Int)≠0:=by omega
 have hq:0<(s.den:Int):=by omega
 have hg:=iw s;have N0:0<N:=by omega
 simp_arith only[aj,ah,p__law_draw.eq,DX]
 (with_reducible (first|refine ay fun h hh=>?_|refine aN fun h hh=>?_))
 try simp_arith only[aj,ah,p__law_draw.eq,DX]
 refine B9 (qh (fun d=>∃j:Int,0<=j/\j<N/\d = .int (ptQ s j)) ?_ (by decide) ?_)
 · intro k hk K hK;simp_arith only[aj,ah,CK,p__law_draw.eq,DX]
   (with_reducible (first|refine ay fun j hj=>?_|refine aN fun j hj=>?_))
   have c1:aZ j s.num:=.rt (by omega);have e1:(j*s.num).fmod (s.den:Int)=ptQ s j:=k6 _ _;simp_arith only[aj,ah,CK,p__law_draw.eq,DX,c1,e1,nz];exact hK _ ⟨j,hj.1,hj.2,rfl⟩
 · intro ds dl hd;simp_arith only[aj,ah,DX];refine nK (fun i ρ=>∃h:Int,0<=h/\h<N/\ρ=[some .reel,some (.d (fr s)),some (.d (.int N)),some (.d (.list (ls.map .int))),some (.d (.int h)),some (.d (.list ds)),none,none,none]) ⟨h,hh.1,hh.2,rfl⟩ ?_ ?_
   · rintro i hi ρ ⟨h,h0,hN',rfl⟩ K hK;simp_arith only[aj,ah,bO.eq,DX]
     (with_reducible (first|refine ay fun m hm=>?_|refine aN fun m hm=>?_))
     obtain⟨u,v,hz,rfl⟩:=hm;have ex:=Gap.ex_of_nb hq hg hN hz;obtain⟨⟨m0,m1⟩,_⟩:=Gap.next_ok hq hg hN ex hz.few h0 hN';have gl:=ub hq hg hN ex hz.few h0 hN';have mem:=hl u v hz h h0 hN';have c1:aZ (Gap.nxN u v N h-h) s.num:=.rt (by omega);have e1:((Gap.nxN u v N h-h)*s.num).fmod (s.den:Int)=Gap.gpN s.num s.den u v N h:=(k6 _ _).trans gl;have fre:=fun j j0 jN=>pY (j:=j) hq hg hN ex hz.few h0 hN' j0 jN;generalize Gap.nxN u v N h=m at *;generalize Gap.gpN s.num s.den u v N h=G at *;have cl:Gu (ls.map Et)=true:=c8 ls;have an:((ls.map Et).any fun z=>EU z (.int G))=true:=JQ.mpr ⟨.int G,EV.mpr ⟨G,mem,rfl⟩,by rw[eqv_ii];exact beq_self_eq_true _⟩;simp_arith only[aj,ah,DX,c1,e1,nz,m0,m1,cl,an];refine B9 (xx (xs:=ds) (enc:=id) (fun _=>none) (by rw[List.map_id]) ?_ (by rw[dl];decide) ?_)
     · intro d md;obtain⟨j,j0,jN,rfl⟩:=hd d md;have c2:aZ h s.num:=.rt (by omega);have fr':=fre j j0 jN;have e2:(ptQ s j-h*s.num).fmod (s.den:Int)=(j*s.num%s.den-h*s.num)%s.den:=k6 _ _;generalize (j*s.num%(s.den:Int)-h*s.num)%(s.den:Int)=X at *;by_cases a:0<X
       · have b:¬X<G:=fun b=>fr' ⟨a,b⟩;simp_arith only[aj,ah,CK,DX,id_eq,c2,e2,nz,a,b]
       · simp_arith only[aj,ah,CK,DX,id_eq,c2,e2,nz,a]
     · have fm:ds.filterMap (fun _=>(none:Option D2))=[]:=by
         clear dl hd
         induction ds with
         | nil=>rfl
         | cons d ds ih=>simpa using ih
       have ev:EU (.list []) (.list [])=true:=rfl;have sh:E4 (.list [])=true:=shaped_ints [];rw[fm];simp_arith only[aj,ah,DX,ev,sh];exact hK _ (ic ⟨m,m0,m1,rfl⟩)
   · rintro ρ ⟨h,h0,hN',rfl⟩;simp_arith only[aj,ah];exact aI hQ
noncomputable def aE:List W->(D2->Prop)->Prop:=fun ws Q=>∃(s:Rat),ws=[.reel,.d (fr s)]/\((∃B,dA s B/\B<=10^9))/\Q (.bool true)
theorem aE.mono:∀ws (Q Q':D2->Prop),(∀d,Q d->Q' d)->aE ws Q->aE ws Q':=fun _ _ _ h_=>Eo fun _=>Ed (Ed (h_ _))
theorem aE.len:∀ws (Q:D2->Prop),aE ws Q->ws.length=2:=fun _ _ h_=>by obtain⟨_,e_,_⟩:=h_;subst e_;rfl
theorem aE.eq(s:Rat)(hs:∃B,dA s B/\B<=10^9):aE [.reel,.d (fr s)]=VL.ret (.bool true:D2):=by
 refine af fun Q=>⟨?_,fun q_=>⟨s,rfl,hs,q_⟩⟩;rintro⟨s',e_,_,q_⟩;simp_arith only[gB,cJ,cK,bT,bM,cM]at e_;obtain rfl:=e_;exact q_
theorem dE:FnScope ["_law_feed_here", "_law_step", "_law_many", "_law_found", "_law_lengths"] ["_law_feed_here", "_law_step"] (defScope (top 37)):=⟨rfl,rfl,rfl,by decide +kernel,rfl,by decide +kernel,by decide +kernel⟩
theorem d__law_far_right(Fn:FnIn K mg "_law_far_right" (top 37) ["_law_feed_here", "_law_step"])(Z:Bz mg)(d_gaps:∀rl,Dfn P w K mg base rl "gaps" ["step", "many"] 6 dQ)(d__law_is_let:∀rl,Dfn P w K mg base rl "_law_is_let" ["_law_step", "_law_many", "_law_thing"] 7 aL)(d__law_draw:∀rl,Dfn P w K mg base rl "_law_draw" ["_law_feed_here", "_law_many"] 2 eK)(d__law_gaps_right:∀rl,Dfn P w K mg base rl "_law_gaps_right" ["_law_step", "_law_many", "_law_found"] 1 aw)(d__law_steps_right:∀rl,Dfn P w K mg base rl "_law_steps_right" ["_law_feed_here", "_law_step", "_law_many", "_law_lengths"] 4 au)(d_neighbours:∀rl,Dfn P w K mg base rl "neighbours" ["step", "many"] 2 aG)   : Dfn P w K mg base rl "_law_far_right" ["_law_feed_here", "_law_step"] 8 aE:=by
 have sc:=dE
 refine Dfn.of Fn sc (aE.mono) (aE.len) (fun cdv A outer s H E hr=>(ai (aC 2 sc.nd (v_add ae (am (d__law_draw _) (hr.mono (by decide)) (aa (vn 0) (aa (v_sub (gR Z.min_ (aa (bf (vn 1) ae) (aa (v_pow ae ae) ac))) ae) ac)))))
  (ai (aC 3 sc.nd (am (d_gaps _) (hr.mono (by decide)) (aa (vn 1) (aa (vn 2) ac))))
  (ai (bY (cQ (dM (am (d__law_gaps_right _) (hr.mono (by decide)) (aa (vn 1) (aa (vn 2) (aa (vn 3) ac)))))) (al (av b5)) bw)
  (ai (b8 4 sc.nd ["_law_pair", "_law_step"] [none,some 1] rfl (dL (vn 3)) (fun _=>(aA 0 (show G0 (["_law_pair", "_law_step"]:List Str) by decide +kernel))) (fun _=>cP) (fun _=>(v_mul (bf (bf (vn 0) ae) ae) (v_div (bf (vn 1) ae) (bf (bf (vn 0) ae) ae)))))
  (ai (bY (cQ (dM (am (d__law_steps_right _) (hr.mono (by decide)) (aa (vn 0) (aa (vn 1) (aa (vn 2) (aa (vn 4) ac))))))) (al (av b5)) bw)
  (al (av (am (d__law_is_let _) (hr.mono (by decide)) (aa (vn 1) (aa (vn 2) (aa (am (d_neighbours _) (hr.mono (by decide)) (aa (vn 1) (aa (vn 2) ac))) ac)))))))))))) ?_
 rintro ws Q ⟨s,rfl,hs,hQ⟩;refine aF ?_;have sz:=E8;have hs':=hs;obtain⟨B,⟨h3,h4,h5⟩,hB⟩:=hs';have hg:=iw s;have hq:0<(s.den:Int):=by omega
 have cp6:xI 10 6:=⟨by decide,by decide,by decide⟩;have e6:(10:Int)^LO 6=1000000:=by decide
 have dm1:0<min (s.den:Int) 1000000-1:=by omega
 have dm2:min (s.den:Int) 1000000-1<2^60:=by omega
 simp_arith only[aj,ah,p__law_draw.eq,DX,cp6,e6]
 (with_reducible (first|refine ay fun b hb=>?_|refine aN fun b hb=>?_))
 have N2:2<=2+b:=by omega
 have NN:2+b<=s.den:=by omega
 have N9:2+b<=10^9:=by omega
 generalize 2+b=N at N2 NN N9 ⊢;simp_arith only[aj,ah,dQ.eq,DX]
 (with_reducible (first|refine ay fun z hz=>?_|refine aN fun z hz=>?_))
 obtain⟨u,v,rs⟩:=z;obtain⟨hz,hr⟩:=hz;have hz:Gap.Nb s.num s.den N u v:=hz;have hr:dw ((gaG s N u v).map (·.1)) rs:=hr;have gp:=wO hg NN N2 hz hr;have gz:=gp.z;have lz:(Bl s N u v rs).length<=3:=gz.len3;have eg:=qT s N u v rs
 have hL:∀u v,Gap.Nb s.num s.den N u v->∀n:Int,0<=n->n<N->Gap.gpN s.num s.den u v N n∈rs.map (CH s):=fun u' v' hz' n n0 nN=>by
  obtain⟨q1,q2⟩:=pG hq hg NN hz hz';subst q1 q2;exact gp.here n n0 nN
 simp_arith only[aj,ah,eg,aw.eq,DX];refine B9 (cC (xs:=Bl s N u v rs) (enc:=CW) (fun z=>.int (CH s z.1)) rfl ?_ (by omega) ?_)
 · intro z mz;obtain⟨d1,d2,d3,d4,d5⟩:=gz.dv z mz;have dp:=z.1.den_pos;have q1:=JS (z.1.den:Int) (show 0<=(s.den:Int) by omega);have q2:=Kp (show 0<=(s.den:Int) by omega) (show 0<=(z.1.den:Int) by omega);have e1:cu (s.den:Int) (z.1.den:Int):=.of (by omega) (by omega);have e2:(z.1.den:Int)≠0:=by omega
   have e3:aZ z.1.num ((s.den:Int) / (z.1.den:Int)):=.rt (by omega);have e4:(s.den:Int).fdiv (z.1.den:Int)=(s.den:Int) / (z.1.den:Int):=EI _ (by omega);simp_arith only[aj,ah,CK,CW,DX,e1,e2,e3,e4];rfl
 have em2:(Bl s N u v rs).map (fun z=>Et (CH s z.1))=(rs.map (CH s)).map Et:=by rw[<- qP s N u v rs,Fa];rfl
 rw[em2];simp_arith only[aj,ah,au.eq,aG.eq,DX]
 (with_reducible (first|refine ay fun y hy=>?_|refine aN fun y hy=>?_))
 obtain⟨u2,v2⟩:=y;have hy:Gap.Nb s.num s.den N u2 v2:=hy;have hl:(Cw s N (.tuple [.int u2,.int v2])).isNone=true:=by rw[Hn];exact pE.mpr ⟨u2,v2,rfl,hy⟩
 have st9:∃B,dA s B/\B<=10^9/\N<=10^9:=⟨B,⟨h3,h4,h5⟩,hB,N9⟩;simp_arith only[aj,ah,aL.eq,hl,DX];exact aI hQ
theorem tT{s:Rat}{v x y:Int}(hq:0<(s.den:Int))(hg:EM s.num s.den=1)(hN:N<=s.den)(hz:Gap.Nb s.num s.den N u v):(Cw s N (.tuple [.int x,.int y])).isNone=decide (x=u/\y=v):=by
 rw[HH,Hn,pE,decide_eq_true_iff];constructor
 · rintro⟨a,b,e,nb⟩;simp only[EY,Eu,Gh,and_true]at e;obtain⟨rfl,rfl⟩:=e;exact pG hq hg hN hz nb
 · rintro⟨rfl,rfl⟩;exact⟨x,y,rfl,hz⟩
theorem uh(a b c d:Int):EU (.tuple [.int a,.int b]) (.tuple [.int c,.int d])=decide (a=c/\b=d):=by
 by_cases h1:a=c<;>by_cases h2:b=d<;>simp[EU,JF,h1,h2]
theorem fK(a b:Int):E4 (.tuple [.int a,.int b])=true:=rfl
theorem vM:FnScope ["_law_script", "_law_feed_here", "_law_turn", "_law_step", "_law_many", "_law_found", "_law_lengths", "_law_right", "_law_other", "_law_some", "_law_thing", "_law_low", "_law_high", "_law_k", "_law_n"] ["_law_script"] (defScope (top 38)):=⟨rfl,rfl,rfl,by decide +kernel,rfl,by decide +kernel,by decide +kernel⟩
theorem pP(Z:Bz mg)(d__law_feed:DfnR P w K mg base "_law_feed" ["_law_script"] 1 xR)(d__law_step_of:∀rl,Dfn P w K mg base rl "_law_step_of" ["_law_feed_here", "_law_most"] 3 aO)(d_gaps:∀rl,Dfn P w K mg base rl "gaps" ["step", "many"] 6 dQ)(d_neighbours:∀rl,Dfn P w K mg base rl "neighbours" ["step", "many"] 2 aG)(d__law_draw:∀rl,Dfn P w K mg base rl "_law_draw" ["_law_feed_here", "_law_many"] 2 eK)(d__law_gaps_right:∀rl,Dfn P w K mg base rl "_law_gaps_right" ["_law_step", "_law_many", "_law_found"] 1 aw)(d__law_steps_right:∀rl,Dfn P w K mg base rl "_law_steps_right" ["_law_feed_here", "_law_step", "_law_many", "_law_lengths"] 4 au)(d__law_is_let:∀rl,Dfn P w K mg base rl "_law_is_let" ["_law_step", "_law_many", "_law_thing"] 7 aL)(d__law_far_right:∀rl,Dfn P w K mg base rl "_law_far_right" ["_law_feed_here", "_law_step"] 8 aE)(F:Fun K "law" "law" (top 38) f fd):FnOk P w K mg base DS 10 f fd ["_law_script"] (fJ K):=by
 have sc:=vM
 refine tL F sc (fun cdv A outer s H E hr=>(rG 1 d__law_feed (hr.mono (by decide)) sc.nd (aa (vn 0) ac) (fun r=>(ai (dB [2,3,4,5,6,7,8,9,10,11,12,13,14] FU rfl (c_ Z.range_ (aa ae ac)) (aA 2 sc.nd) (ai (aC 3 sc.nd (am (d__law_step_of _) (hr.mono (by decide)) (aa (vn 1) (aa (bf (oW (aa (v_pow ae ae) (aa (v_pow ae ae) (aa ae ac)))) (am (d__law_draw _) (hr.mono (by decide)) (aa (vn 1) (aa ae ac)))) ac))))
  (ai (aC 4 sc.nd (v_add ae (am (d__law_draw _) (hr.mono (by decide)) (aa (vn 1) (aa (v_sub (gR Z.min_ (aa (bf (vn 3) ae) (aa ae ac))) ae) ac)))))
  (ai (aC 5 sc.nd (am (d_gaps _) (hr.mono (by decide)) (aa (vn 3) (aa (vn 4) ac))))
  (ai (bY (cQ (dM (am (d__law_gaps_right _) (hr.mono (by decide)) (aa (vn 3) (aa (vn 4) (aa (vn 5) ac)))))) (al (av b5)) bw)
  (ai (b8 6 sc.nd ["_law_pair", "_law_step"] [none,some 3] rfl (dL (vn 5)) (fun _=>(aA 0 (show G0 (["_law_pair", "_law_step"]:List Str) by decide +kernel))) (fun _=>cP) (fun _=>(v_mul (bf (bf (vn 0) ae) ae) (v_div (bf (vn 1) ae) (bf (bf (vn 0) ae) ae)))))
  (ai (bY (cQ (dM (am (d__law_steps_right _) (hr.mono (by decide)) (aa (vn 1) (aa (vn 3) (aa (vn 4) (aa (vn 6) ac))))))) (al (av b5)) bw)
  (ai (aC 7 sc.nd (am (d_neighbours _) (hr.mono (by decide)) (aa (vn 3) (aa (vn 4) ac))))
  (ai (aC 8 sc.nd (v_add ae (am (d__law_draw _) (hr.mono (by decide)) (aa (vn 1) (aa (v_sub (vn 4) ae) ac)))))
  (ai (jw 9 sc.nd (oW (aa (vn 7) (aa (am (d_neighbours _) (hr.mono (by decide)) (aa (vn 3) (aa (vn 8) ac))) (aa (u9 (vn 7)) (aa (cw (aa (bf (vn 7) ae) (aa (v_sub (vn 4) ae) ac))) ac))))))
  (ai (uQ 9 (aa (cw (aa (u8 Z.sum_ (aa (vn 7) ac)) (aa (bf (vn 7) ae) ac))) ac))
  (ai (uP 9 (dB [10,11,12,13,14] FU rfl (iO (vn 9)) (aA 10 sc.nd) (al (bY (dM (am (d__law_is_let _) (hr.mono (by decide)) (aa (vn 3) (aa (vn 4) (aa (vn 10) ac))))) (ai (aC 11 sc.nd (v_mod (v_mul (bf (vn 10) ae) (bf (vn 3) ae)) (bf (vn 3) ae)))
  (ai (aC 12 sc.nd (v_mod (v_mul (bf (vn 10) ae) (bf (vn 3) ae)) (bf (vn 3) ae)))
  (ai (dB [13,14] FU rfl (c_ Z.range_ (aa ae ac)) (aA 13 sc.nd) (ai (aC 14 sc.nd (v_add ae (am (d__law_draw _) (hr.mono (by decide)) (aa (vn 1) (aa (v_sub (vn 4) ae) ac)))))
  (al (bY (cQ (d7 kO kO (vn 11) (v_mod (v_mul (vn 14) (bf (vn 3) ae)) (bf (vn 3) ae)) (vn 12))) (al (av b5)) bw))))
  (al (bY (bA (dR hr.units) cp (aQ _) (vn 10) (vn 7)) (al (av b5)) bw))))) (al (bY (bA (jP hr.units) cp (aQ _) (vn 10) (vn 7)) (al (av b5)) bw))))))
  (al (bY (cQ (dM (am (d__law_far_right _) (hr.mono (by decide)) (aa (vn 1) (aa (vn 3) ac))))) (al (av b5)) bw))))))))))))))
  (al (av b5)))))) ?_
 intro ns hn;have ps:=xR.eq hn;have sz:=E8;have cp6:xI 10 6:=⟨by decide,by decide,by decide⟩;have e6:(10:Int)^LO 6=1000000:=by decide
 have cp9:xI 10 9:=⟨by decide,by decide,by decide⟩;have e9:(10:Int)^LO 9=1000000000:=by decide
 simp_arith only[aj,ah,ps];refine j_ ?_ ?_
 · intro i hi K hK;simp_arith only[aj,ah,p__law_draw.eq,cp9,e9,cp6,e6]
   (with_reducible (first|refine ay fun a ha=>?_|refine aN fun a ha=>?_))
   refine B8 (fQ (xs:=[1000000000,1000000,3000]) (enc:=Et) (fun m:Int=>2<=m/\m<=10^9) rfl ha.1 ha.2 (by decide) ?_);rintro mo ⟨mo2,mo9⟩;simp_arith only[aj,ah,aO.eq]
   (with_reducible (first|refine ay fun s hs=>?_|refine aN fun s hs=>?_))
   obtain⟨h3,h4,h5⟩:=hs;have hs:∃B,dA s B/\B<=10^9:=⟨mo,⟨h3,h4,h5⟩,mo9⟩;have hg:=iw s;have hq:0<(s.den:Int):=by omega
   have dm1:0<min (s.den:Int) 3000-1:=by omega
   have dm2:min (s.den:Int) 3000-1<2^60:=by omega
   simp_arith only[aj,ah,p__law_draw.eq,DX]
   (with_reducible (first|refine ay fun b hb=>?_|refine aN fun b hb=>?_))
   have N2:2<=2+b:=by omega
   have NN:2+b<=s.den:=by omega
   have N9:2+b<=3000:=by omega
   generalize 2+b=N at N2 NN N9 ⊢;simp_arith only[aj,ah,dQ.eq,DX]
   (with_reducible (first|refine ay fun z hz=>?_|refine aN fun z hz=>?_))
   obtain⟨u,v,rs⟩:=z;obtain⟨hz,hr⟩:=hz;have hz:Gap.Nb s.num s.den N u v:=hz;have hr:dw ((gaG s N u v).map (·.1)) rs:=hr;have gp:=wO hg NN N2 hz hr;have gz:=gp.z;have lz:(Bl s N u v rs).length<=3:=gz.len3;have eg:=qT s N u v rs
   have hL:∀u v,Gap.Nb s.num s.den N u v->∀n:Int,0<=n->n<N->Gap.gpN s.num s.den u v N n∈rs.map (CH s):=fun u' v' hz' n n0 nN=>by
    obtain⟨q1,q2⟩:=pG hq hg NN hz hz';subst q1 q2;exact gp.here n n0 nN
   simp_arith only[aj,ah,eg,aw.eq,DX];refine B9 (cC (xs:=Bl s N u v rs) (enc:=CW) (fun z=>.int (CH s z.1)) rfl ?_ (by omega) ?_)
   · intro z mz;obtain⟨d1,d2,d3,d4,d5⟩:=gz.dv z mz;have dp:=z.1.den_pos;have q1:=JS (z.1.den:Int) (show 0<=(s.den:Int) by omega);have q2:=Kp (show 0<=(s.den:Int) by omega) (show 0<=(z.1.den:Int) by omega);have e1:cu (s.den:Int) (z.1.den:Int):=.of (by omega) (by omega);have e2:(z.1.den:Int)≠0:=by omega
     have e3:aZ z.1.num ((s.den:Int) / (z.1.den:Int)):=.rt (by omega);have e4:(s.den:Int).fdiv (z.1.den:Int)=(s.den:Int) / (z.1.den:Int):=EI _ (by omega);simp_arith only[aj,ah,CK,CW,DX,e1,e2,e3,e4];rfl
   have em2:(Bl s N u v rs).map (fun z=>Et (CH s z.1))=(rs.map (CH s)).map Et:=by rw[<- qP s N u v rs,Fa];rfl
   rw[em2];simp_arith only[aj,ah,au.eq,aG.eq,DX]
   (with_reducible (first|refine ay fun y hy=>?_|refine aN fun y hy=>?_))
   obtain⟨u2,v2⟩:=y;obtain⟨q1,q2⟩:=pG hq hg NN hz hy;have q1:u2=u:=q1;have q2:v2=v:=q2;subst q1 q2;have u0:=hz.u0;have v0:=hz.v0;have uN:=hz.uN;have vN:=hz.vN;have dm3:0<N-1:=by omega
   have dm4:N-1<2^60:=by omega
   simp_arith only[aj,ah,p__law_draw.eq,DX]
   (with_reducible (first|refine ay fun c hc=>?_|refine aN fun c hc=>?_))
   have M2:2<=2+c:=by omega
   have MN:2+c<=s.den:=by omega
   generalize 2+c=M at M2 MN ⊢;simp_arith only[aj,ah,aG.eq,DX]
   (with_reducible (first|refine ay fun y hy2=>?_|refine aN fun y hy2=>?_))
   obtain⟨U,V⟩:=y;have hy2:Gap.Nb s.num s.den M U V:=hy2;have eS:nL (.tuple [Et u2,.int v2])=some [u2,v2]:=rfl;have e5:[u2,v2].sum=u2+v2:=by rw[Fd,Fd,Io,Ly]
   have eR:[Et u2,Et v2].reverse=[.int v2,.int u2]:=rfl;have ex:=Gap.ex_of_nb hq hg NN hz;simp_arith only[aj,ah,tP,eS,e5,eR,DX];refine ui (xs:=[(u2,v2),(U,V),(v2,u2),(u2,N-1),(u2+v2,v2)]) (enc:=CO) rfl ?_ ?_
   · rintro⟨x,y⟩ mx K2 hK2;have li:=tT (x:=x) (y:=y) hq hg NN hz;have ev:=uh x y u2 v2;have sh:=fK x y;have sh2:=fK u2 v2;have st9:∃B,dA s B/\B<=10^9/\N<=10^9:=⟨mo,⟨h3,h4,h5⟩,mo9,by omega⟩;have nz:(s.den:Int)≠0:=by omega
     by_cases c1:x=u2/\y=v2
     · have li:(Cw s N (.tuple [.int x,.int y])).isNone=true:=li.trans (decide_eq_true c1);have ev:EU (.tuple [.int x,.int y]) (.tuple [.int u2,.int v2])=true:=ev.trans (decide_eq_true c1);obtain⟨rfl,rfl⟩:=c1;have m1:aZ x s.num:=.rt (by omega);have m2:aZ y s.num:=.rt (by omega);have e1:(x*s.num).fmod (s.den:Int)=ptQ s x:=k6 _ _;have e2:(y*s.num).fmod (s.den:Int)=ptQ s y:=k6 _ _;simp_arith only[aj,ah,aL.eq,CO,li,m1,m2,e1,e2,nz,DX];refine j_ ?_ ?_
       · intro k hk K3 hK3;simp_arith only[aj,ah,p__law_draw.eq,DX]
         (with_reducible (first|refine ay fun n hn2=>?_|refine aN fun n hn2=>?_))
         have lo:=ex.lo (1+n) (by omega) (by omega);have hi:=ex.hi (1+n) (by omega) (by omega);have m3:aZ (1+n) s.num:=.rt (by omega);have e3:((1+n)*s.num).fmod (s.den:Int)=ptQ s (1+n):=k6 _ _;have lo:ptQ s x<=ptQ s (1+n):=lo;have hi:ptQ s (1+n)<=ptQ s y:=hi;simp_arith only[aj,ah,m3,e3,nz,lo,hi,DX];exact hK3 _ (ic rfl)
       · simp_arith only[aj,ah,ev,sh,sh2,DX];exact hK2 _ (ic rfl)
     · have li:(Cw s N (.tuple [.int x,.int y])).isNone=false:=li.trans (decide_eq_false c1);have ev:EU (.tuple [.int x,.int y]) (.tuple [.int u2,.int v2])=false:=ev.trans (decide_eq_false c1);simp_arith only[aj,ah,aL.eq,CO,li,ev,sh,sh2,DX];exact hK2 _ (ic rfl)
   · simp_arith only[aj,ah,aE.eq,DX];exact hK _ (ic rfl)
 · simp_arith only[aj,ah];exact tW
structure Txt (K:Gr) (mg:Str->Option D4):Prop where
 bz:Bz mg
 f__law_feed:FnIn K mg "_law_feed" (top 29) ["_law_script"]
 f__law_draw:FnIn K mg "_law_draw" (top 30) ["_law_feed_here", "_law_many"]
 f_common_divisor:FnIn K mg "common_divisor" (top 9) ["one", "other"]
 f_fraction:FnIn K mg "fraction" (top 10) ["top", "bottom"]
 f_plus:FnIn K mg "plus" (top 11) ["one", "other"]
 f_less:FnIn K mg "less" (top 12) ["one", "other"]
 f_times:FnIn K mg "times" (top 13) ["one", "other"]
 f_wrapped:FnIn K mg "wrapped" (top 15) ["one"]
 f_is_whole:FnIn K mg "is_whole" (top 7) ["thing"]
 f_is_place:FnIn K mg "is_place" (top 8) ["thing", "many"]
 f_step_number:FnIn K mg "step_number" (top 18) ["start", "step", "n"]
 f_gap_above:FnIn K mg "gap_above" (top 21) ["step", "u"]
 f_gap_below:FnIn K mg "gap_below" (top 22) ["step", "v"]
 f_is_pair:FnIn K mg "is_pair" (top 20) ["many", "thing"]
 f_in_size:FnIn K mg "in_size" (top 16) ["some"]
 f_rounded_up:FnIn K mg "rounded_up" (top 14) ["top", "bottom"]
 f_neighbours:FnIn K mg "neighbours" (top 25) ["step", "many"]
 f_next_of:FnIn K mg "next_of" (top 26) ["step", "many", "n"]
 f_gaps:FnIn K mg "gaps" (top 27) ["step", "many"]
 f__law_gcd:FnIn K mg "_law_gcd" (top 31) ["_law_one", "_law_other"]
 f__law_frac:FnIn K mg "_law_frac" (top 32) ["_law_top", "_law_bottom"]
 f__law_step_of:FnIn K mg "_law_step_of" (top 33) ["_law_feed_here", "_law_most"]
 f__law_is_let:FnIn K mg "_law_is_let" (top 34) ["_law_step", "_law_many", "_law_thing"]
 f__law_gaps_right:FnIn K mg "_law_gaps_right" (top 35) ["_law_step", "_law_many", "_law_found"]
 f__law_steps_right:FnIn K mg "_law_steps_right" (top 36) ["_law_feed_here", "_law_step", "_law_many", "_law_lengths"]
 f__law_far_right:FnIn K mg "_law_far_right" (top 37) ["_law_feed_here", "_law_step"]
 f_lets_neighbours:FnIn K mg "lets_neighbours" (top 23) ["step", "many", "thing"]
 g_ZERO:GlD K mg "ZERO" (pr 0 1)
 g_ONE:GlD K mg "ONE" (pr 1 1)
 x_NoPaper:XCl2 K mg "NoPaper" "path" "word" "NoPaper" "NoPaper.__init__" (inClass (top 3) 0) ["self", "path", "word"] []
theorem wv(F:Fun K "law" "law" (top 38) f fd)(T:Txt K mg)  : FnOk P w K mg base DS 10 f fd ["_law_script"] (fJ K):=by
 have d__law_feed:DfnR P w K mg base "_law_feed" ["_law_script"] 1 xR:=K52.d__law_feed T.f__law_feed T.bz   ;have d__law_draw:∀rl,Dfn P w K mg base rl "_law_draw" ["_law_feed_here", "_law_many"] 2 eK:=fun rl=>K52.d__law_draw T.f__law_draw T.bz   ;have d_common_divisor:∀rl,Dfn P w K mg base rl "common_divisor" ["one", "other"] 1 aD:=fun rl=>K52.d_common_divisor T.f_common_divisor T.bz   ;have d_fraction:∀rl,Dfn P w K mg base rl "fraction" ["top", "bottom"] 2 bc:=fun rl=>K52.d_fraction T.f_fraction T.bz d_common_divisor  ;have d_plus:∀rl,Dfn P w K mg base rl "plus" ["one", "other"] 3 dh:=fun rl=>K52.d_plus T.f_plus T.bz d_fraction  ;have d_less:∀rl,Dfn P w K mg base rl "less" ["one", "other"] 3 eN:=fun rl=>K52.d_less T.f_less T.bz d_fraction  ;have d_times:∀rl,Dfn P w K mg base rl "times" ["one", "other"] 3 cA:=fun rl=>K52.d_times T.f_times T.bz d_fraction  ;have d_wrapped:∀rl,Dfn P w K mg base rl "wrapped" ["one"] 1 bN:=fun rl=>K52.d_wrapped T.f_wrapped T.bz   ;have d_is_whole:∀rl,Dfn P w K mg base rl "is_whole" ["thing"] 1 bC:=fun rl=>K52.d_is_whole T.f_is_whole T.bz   ;have d_is_place:∀rl,Dfn P w K mg base rl "is_place" ["thing", "many"] 2 bD:=fun rl=>K52.d_is_place T.f_is_place T.bz d_is_whole  ;have d_step_number:∀rl,Dfn P w K mg base rl "step_number" ["start", "step", "n"] 4 aK:=fun rl=>K52.d_step_number T.f_step_number T.bz d_wrapped d_plus d_times  ;have d_gap_above:∀rl,Dfn P w K mg base rl "gap_above" ["step", "u"] 5 aY:=fun rl=>K52.d_gap_above T.f_gap_above T.bz d_step_number T.g_ZERO ;have d_gap_below:∀rl,Dfn P w K mg base rl "gap_below" ["step", "v"] 5 aX:=fun rl=>K52.d_gap_below T.f_gap_below T.bz d_less d_step_number T.g_ONE T.g_ZERO ;have d_is_pair:∀rl,Dfn P w K mg base rl "is_pair" ["many", "thing"] 3 bP:=fun rl=>K52.d_is_pair T.f_is_pair T.bz d_is_place  ;have d_in_size:∀rl,Dfn P w K mg base rl "in_size" ["some"] 1 bQ:=fun rl=>K52.d_in_size T.f_in_size T.bz   ;have d_rounded_up:∀rl,Dfn P w K mg base rl "rounded_up" ["top", "bottom"] 1 aW:=fun rl=>K52.d_rounded_up T.f_rounded_up T.bz   ;have d_neighbours:∀rl,Dfn P w K mg base rl "neighbours" ["step", "many"] 2 aG:=fun rl=>K52.d_neighbours T.f_neighbours T.bz d_rounded_up  ;have d_next_of:∀rl,Dfn P w K mg base rl "next_of" ["step", "many", "n"] 3 bO:=fun rl=>K52.d_next_of T.f_next_of T.bz d_neighbours  ;have d_gaps:∀rl,Dfn P w K mg base rl "gaps" ["step", "many"] 6 dQ:=fun rl=>K52.d_gaps T.f_gaps T.bz d_neighbours d_gap_above d_gap_below d_plus d_in_size  ;have d__law_gcd:∀rl,Dfn P w K mg base rl "_law_gcd" ["_law_one", "_law_other"] 1 bE:=fun rl=>K52.d__law_gcd T.f__law_gcd T.bz   ;have d__law_frac:∀rl,Dfn P w K mg base rl "_law_frac" ["_law_top", "_law_bottom"] 2 bo:=fun rl=>K52.d__law_frac T.f__law_frac T.bz d__law_gcd  ;have d__law_step_of:∀rl,Dfn P w K mg base rl "_law_step_of" ["_law_feed_here", "_law_most"] 3 aO:=fun rl=>K52.d__law_step_of T.f__law_step_of T.bz d__law_frac d__law_draw  ;have dE_lets_neighbours:∀rl,DfnE P w K mg base rl "lets_neighbours" ["step", "many", "thing"] 6 aB:=fun rl=>K52.dE_lets_neighbours T.f_lets_neighbours T.bz d_is_pair d_plus d_times d_gap_above d_gap_below T.g_ONE  (T.x_NoPaper.two nP)
 have d__law_is_let:∀rl,Dfn P w K mg base rl "_law_is_let" ["_law_step", "_law_many", "_law_thing"] 7 aL:=fun rl=>K52.d__law_is_let T.f__law_is_let T.bz dE_lets_neighbours T.x_NoPaper;have d__law_gaps_right:∀rl,Dfn P w K mg base rl "_law_gaps_right" ["_law_step", "_law_many", "_law_found"] 1 aw:=fun rl=>K52.d__law_gaps_right T.f__law_gaps_right T.bz   ;have d__law_steps_right:∀rl,Dfn P w K mg base rl "_law_steps_right" ["_law_feed_here", "_law_step", "_law_many", "_law_lengths"] 4 au:=fun rl=>K52.d__law_steps_right T.f__law_steps_right T.bz d__law_draw d_next_of  ;have d__law_far_right:∀rl,Dfn P w K mg base rl "_law_far_right" ["_law_feed_here", "_law_step"] 8 aE:=fun rl=>K52.d__law_far_right T.f__law_far_right T.bz d_gaps d__law_is_let d__law_draw d__law_gaps_right d__law_steps_right d_neighbours  ;exact pP T.bz d__law_feed d__law_step_of d_gaps d_neighbours d__law_draw d__law_gaps_right d__law_steps_right d__law_is_let d__law_far_right   F
end
theorem us_0(hl:us.length=0):us=[]:=List.eq_nil_of_length_eq_zero hl
theorem Aq(hl:us.length=1):∃a0,us=[a0]:=by
 cases us with
 | nil=>cases hl
 | cons a0 t=>cases us_0 (Kq hl);exact⟨a0,rfl⟩
theorem Ap(hl:us.length=2):∃a0 a1,us=[a0,a1]:=by
 cases us with
 | nil=>cases hl
 | cons a0 t=>obtain⟨a1,rfl⟩:=Aq (Kq hl);exact⟨a0,a1,rfl⟩
theorem yA(hl:us.length=3):∃a0 a1 a2,us=[a0,a1,a2]:=by
 cases us with
 | nil=>cases hl
 | cons a0 t=>obtain⟨a1,a2,rfl⟩:=Ap (Kq hl);exact⟨a0,a1,a2,rfl⟩
theorem AW(hl:us.length=4):∃a0 a1 a2 a3,us=[a0,a1,a2,a3]:=by
 cases us with
 | nil=>cases hl
 | cons a0 t=>obtain⟨a1,a2,a3,rfl⟩:=yA (Kq hl);exact⟨a0,a1,a2,a3,rfl⟩
noncomputable def FF(K:Gr)(x:Str)(st:Stmt):Prop:=∃(f:Addr)(oc kV dc pm cd ct:D4)(od an:Option Addr)(sl:Array (Option D4)),Ha K ED x=some (some (.ref f))/\K.lookup f=some ⟨oc,od,.func (Jd x x (defArgs st) (defBody st) (defScope st) .none kV dc pm an cd ct),sl⟩/\Jm K cd x=true/\Jn K (.ref f)=true
theorem ff_mk{K:Gr}{st:Stmt}{oc kV dc pm cd ct:D4}{od an:Option Addr}{sl:Array (Option D4)}(a:Ha K ED x=some (some (.ref f)))(l:K.lookup f=some ⟨oc,od,.func (Jd x x (defArgs st) (defBody st) (defScope st) .none kV dc pm an cd ct),sl⟩)(c:Jm K cd x=true)(k:Jn K (.ref f)=true):FF K x st:=⟨f,oc,kV,dc,pm,cd,ct,od,an,sl,a,l,c,k⟩
theorem aR{K:Gr}(X:K.In h)(G:h.Ns ED mg){st:Stmt}(q:FF K x st)(hb:∀(kV doc pm:D4)(an:Option Addr)(cdv ct:D4)(us:List D4),us.length=ps.length->bindArgs (Jd x x (defArgs st) (defBody st) (defScope st) .none kV doc pm an cdv ct) ⟨us,[]⟩=pure (ps.zip us):=by intro _ _ _ _ _ _ us hl;first|(cases us_0 hl;exact rfl)|(obtain⟨_,rfl⟩:=Aq hl;exact rfl)|(obtain⟨_,_,rfl⟩:=Ap hl;exact rfl)|(obtain⟨_,_,_,rfl⟩:=yA hl;exact rfl)|(obtain⟨_,_,_,_,rfl⟩:=AW hl;exact rfl)):FnIn K mg x st ps:=by
 obtain⟨f,_,_,_,_,_,_,_,_,_,a,l,c,k⟩:=q;exact⟨⟨f,_,JM X G a,iy l c k,(iy l c k).binds hb⟩⟩
abbrev NI(K:Gr)(x:Str)(f:Addr):Prop:=Ha K ED x=some (some (.ref f))
abbrev NZ(K:Gr)(x:Str):Prop:=Ha K ED x=some none
abbrev LK(K:Gr)(x:Str)(st:Stmt)(f:Addr)(oc:D4)(od:Option Addr)(kV dc pm:D4)(an:Option Addr)(cd ct:D4)(sl:Array (Option D4)):Prop:=K.lookup f=some ⟨oc,od,.func (Jd x x (defArgs st) (defBody st) (defScope st) .none kV dc pm an cd ct),sl⟩
theorem all_mk{l:Kr}{K:Gr}{fa:Addr}(X:K.In h)(G:h.Ns ED mg)(hfa:mg "law" = some (.ref fa))
 {f28:Addr}{od28 an28:Option Addr}{sl28:Array (Option D4)}{oc28 kV28 dc28 pm28 cd28 ct28:D4}{xC_NoPaper xB_NoPaper xF_NoPaper  : Addr}{xod_NoPaper xan_NoPaper:Option Addr}{xsl_NoPaper:Array (Option D4)}{xoc_NoPaper xkV_NoPaper xdc_NoPaper xpm_NoPaper xcd_NoPaper xct_NoPaper:D4}
 (f1:FF K "_law_feed" (top 29))(f2:FF K "_law_draw" (top 30))(f3:FF K "common_divisor" (top 9))(f4:FF K "fraction" (top 10))(f5:FF K "plus" (top 11))(f6:FF K "less" (top 12))(f7:FF K "times" (top 13))(f8:FF K "wrapped" (top 15))(f9:FF K "is_whole" (top 7))(f10:FF K "is_place" (top 8))(f11:FF K "step_number" (top 18))(f12:FF K "gap_above" (top 21))(f13:FF K "gap_below" (top 22))(f14:FF K "is_pair" (top 20))(f15:FF K "in_size" (top 16))(f16:FF K "rounded_up" (top 14))(f17:FF K "neighbours" (top 25))(f18:FF K "next_of" (top 26))(f19:FF K "gaps" (top 27))(f20:FF K "_law_gcd" (top 31))(f21:FF K "_law_frac" (top 32))(f22:FF K "_law_step_of" (top 33))(f23:FF K "_law_is_let" (top 34))(f24:FF K "_law_gaps_right" (top 35))(f25:FF K "_law_steps_right" (top 36))(f26:FF K "_law_far_right" (top 37))(f27:FF K "lets_neighbours" (top 23))(a28:NI K "law" f28)(l28:LK K "law" (top 38) f28 oc28 od28 kV28 dc28 pm28 an28 cd28 ct28 sl28)(c28:Jm K cd28 "law" = true)(k28:Jn K (.ref f28)=true)
 (z_int:NZ K "int")(z_bool:NZ K "bool")(z_str:NZ K "str")(z_list:NZ K "list")(z_tuple:NZ K "tuple")(z_dict:NZ K "dict")(z_isinstance:NZ K "isinstance")(z_len:NZ K "len")(z_abs:NZ K "abs")(z_repr:NZ K "repr")(z_range:NZ K "range")(z_all:NZ K "all")(z_any:NZ K "any")(z_sum:NZ K "sum")(z_min:NZ K "min")(z_max:NZ K "max")(z_sorted:NZ K "sorted")(z_zip:NZ K "zip")(z_enumerate:NZ K "enumerate")(z_reversed:NZ K "reversed")(z_divmod:NZ K "divmod")(z_set:NZ K "set")(g_ZERO:GlK K "ZERO" (pr 0 1))(g_ONE:GlK K "ONE" (pr 1 1))(xa_NoPaper:Ha K ED "NoPaper" = some (some (.ref xC_NoPaper)))(xb_NoPaper:Ha K ED "NoPaper" = some (some (.ref xB_NoPaper)))(xi_NoPaper:PySem.W.findIn K (.ref xC_NoPaper) "__init__" = some (some (.ref xF_NoPaper)))(xl_NoPaper:K.lookup xF_NoPaper=some ⟨xoc_NoPaper,xod_NoPaper,.func (Jd "__init__" "NoPaper.__init__" (defArgs (inClass (top 3) 0)) (defBody (inClass (top 3) 0)) (defScope (inClass (top 3) 0)) .none xkV_NoPaper xdc_NoPaper xpm_NoPaper xan_NoPaper xcd_NoPaper xct_NoPaper),xsl_NoPaper⟩)(xd_NoPaper:Jm K xcd_NoPaper "NoPaper.__init__" = true)(xk_NoPaper:Jn K (.ref xF_NoPaper)=true)(xv_NoPaper:NZ K "ValueError")(xx_NoPaper:(yf K xC_NoPaper xB_NoPaper xF_NoPaper "path" []&&(PySem.W.findIn K (.ref xC_NoPaper) "word" == some none))=true) :
 ∃fd:Gz,(∀(s:D6)(v:D4),LG s fd ⟨[v],[]⟩ [("_law_script", v)])/\∀base:Heap,K.In base->base.Ns ED mg->FnOk l.prog w K mg base DS 10 fa fd ["_law_script"] (fJ K):=by
 have e:=hfa.symm.trans (JM X G a28);cases e;have B:Bz mg:=⟨Em X G z_int,Em X G z_bool,Em X G z_str,Em X G z_list,Em X G z_tuple,Em X G z_dict,Em X G z_isinstance,Em X G z_len,Em X G z_abs,Em X G z_repr,Em X G z_range,Em X G z_all,Em X G z_any,Em X G z_sum,Em X G z_min,Em X G z_max,Em X G z_sorted,Em X G z_zip,Em X G z_enumerate,Em X G z_reversed,Em X G z_divmod,Em X G z_set⟩;have T:Txt K mg:=⟨B,(aR X G f1),(aR X G f2),(aR X G f3),(aR X G f4),(aR X G f5),(aR X G f6),(aR X G f7),(aR X G f8),(aR X G f9),(aR X G f10),(aR X G f11),(aR X G f12),(aR X G f13),(aR X G f14),(aR X G f15),(aR X G f16),(aR X G f17),(aR X G f18),(aR X G f19),(aR X G f20),(aR X G f21),(aR X G f22),(aR X G f23),(aR X G f24),(aR X G f25),(aR X G f26),(aR X G f27),g_ZERO.of X G,g_ONE.of X G,.mk' xa_NoPaper (JM X G xa_NoPaper) (JM X G xb_NoPaper) xi_NoPaper (iy (st:=(inClass (top 3) 0)) xl_NoPaper xd_NoPaper xk_NoPaper) ((iy (st:=(inClass (top 3) 0)) xl_NoPaper xd_NoPaper xk_NoPaper).binds (ps:=["self", "path", "word"]) fun _ _ _ _ _ _ us hl=>(by obtain⟨_,_,_,rfl⟩:=yA hl;exact rfl)) .nil (Em X G xv_NoPaper) xx_NoPaper⟩;have FL:=iy (st:=top 38) l28 c28 k28;exact⟨_,fun s v=>.of_eq rfl,fun base _ _=>wv FL T ⟩
theorem walk{l:Kr}{q:Ei}{YP:EK->Heap->Prop}{d:DefRec}{K:LQ->Gr}(hn:l.most=some 63)(hdf:d.params.defaults=[])
 (hY:∀(w:EK)(h:Heap),YP w h->(K w.params).In h)
 (F:∀(w:EK)(mg:Str->Option D4)(fa:Addr)(h:Heap),(K w.params).In h->h.Ns ED mg->mg d.name=some (.ref fa) ->
  ∃fd:Gz,(∀(s:D6)(u:D4),LG s fd ⟨[u],[]⟩ [("_law_script", u)])/\∀base:Heap,(K w.params).In base->base.Ns ED mg->FnOk l.prog w (K w.params) mg base DS 10 fa fd ["_law_script"] (fJ (K w.params))) :
 PySem.W.WalkO q loose XP YP l.row.toRowW d [] (fun f vs=>PySem.call f vs) :=
 L2.walk_of (n:=63) (k:=10) (x := "_law_script") (CX:=fun _=>DS) (sp:=fun w=>fJ (K w.params)) hn (by decide) hdf ⟨rfl,by decide,by decide,rfl⟩ hY F (fun _ _ a ns hl _ hS=>⟨a,ns,rfl,hS,hl,fun _=>rfl⟩) fun _ _ _ _ _ z=>z
end K52
noncomputable def PySem.W.Fast.tw16763985191206846516:PySem.Params->Gr:=K52.heapK
theorem PySem.W.Fast.te16763985191206846516:K52.heapK=PySem.W.Fast.tw16763985191206846516:=rfl
open PySem PySem.W PyProof.Rows
set_option maxRecDepth 100000 in
set_option maxHeartbeats 0 in
theorem PySem.Challenge.cw_evenpoints_k52_whole_neighbours_of_many_holds : PySem.Challenge.rw_evenpoints_k52_whole_neighbours_of_many.Holds := by
 refine(congrArg Kr.Holds K52.rw_eq).mpr ?_
 w_on;o_law
 refine holds_open (loose:=[]) (XP:=XL K52.zview []) (YP:=Hook.says (kHook K52.heapK K52.heapA K52.heapE)) K52.zleft
  (Hook.of _) (Hook.keeps _) (fun s e=>xl_of s (Ea.mp e).1)
  XL.keeps (by rfl) (by rfl) (by rfl) (fun s e=>recFacts_of (Ea.mp e).2) (by rfl)
  (by first|assumption|decide +kernel) (by decide +kernel) ⟨rfl,rfl,rfl,rfl,rfl,by decide +kernel⟩ ?hw ?hc
 (case hw=>w_witness2)
 k_fill
 refine K52.walk (l:=K52.rwN) rfl rfl (fun w h Y=>PySem.W.kIn_of (as:=K52.heapA) (e:=K52.heapE) Y) ?F
 case F =>
  intro w mg fa h KX G hmg
  refine' K52.all_mk KX G hmg ?f1 ?f2 ?f3 ?f4 ?f5 ?f6 ?f7 ?f8 ?f9 ?f10 ?f11 ?f12 ?f13 ?f14 ?f15 ?f16 ?f17 ?f18 ?f19 ?f20 ?f21 ?f22 ?f23 ?f24 ?f25 ?f26 ?f27 ?a28 ?l28 ?c28 ?k28 ?zint ?zbool ?zstr ?zlist ?ztuple ?zdict ?zisinstance ?zlen ?zabs ?zrepr ?zrange ?zall ?zany ?zsum ?zmin ?zmax ?zsorted ?zzip ?zenumerate ?zreversed ?zdivmod ?zset ?gZERO ?gONE  ?xa_NoPaper ?xb_NoPaper ?xi_NoPaper ?xl_NoPaper ?xd_NoPaper ?xk_NoPaper ?xv_NoPaper ?xx_NoPaper
  all_goals (try (refine' K52.ff_mk ?a ?l ?c ?k;(case a=>k_is);(case l=>k_is);(case c=>k_is);(case k=>k_is)))
  all_goals (try change _=_)
  (case a28=>k_is);(case l28=>k_is);(case c28=>k_is);(case k28=>k_is)
  (case zint=>k_is)
  (case zbool=>k_is)
  (case zstr=>k_is)
  (case zlist=>k_is)
  (case ztuple=>k_is)
  (case zdict=>k_is)
  (case zisinstance=>k_is)
  (case zlen=>k_is)
  (case zabs=>k_is)
  (case zrepr=>k_is)
  (case zrange=>k_is)
  (case zall=>k_is)
  (case zany=>k_is)
  (case zsum=>k_is)
  (case zmin=>k_is)
  (case zmax=>k_is)
  (case zsorted=>k_is)
  (case zzip=>k_is)
  (case zenumerate=>k_is)
  (case zreversed=>k_is)
  (case zdivmod=>k_is)
  (case zset=>k_is)
  (case gZERO=>refine' L2.VL.GlK.pair ?h1 ?h2;(case h1=>k_is);(case h2=>k_is))
  (case gONE=>refine' L2.VL.GlK.pair ?h1 ?h2;(case h1=>k_is);(case h2=>k_is))
  (case xa_NoPaper=>k_is)
  (case xb_NoPaper=>k_is)
  (case xi_NoPaper=>k_is)
  (case xl_NoPaper=>k_is)
  (case xd_NoPaper=>k_is)
  (case xk_NoPaper=>k_is)
  (case xv_NoPaper=>k_is)
  (case xx_NoPaper=>kernel_rfl)
