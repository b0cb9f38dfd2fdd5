import PyProof.Rows.All
import Wide.All
import OpenK.AllK
import Wide.FinOn
import Lean
import PyProof.EqAt
import PyProof.EqKinds
import PyProof.TupleCall
import KE.KDictSum
import KE.KMinKey
import PyProof.Rows.CallKwBuiltin
import PyProof.SumWalkG
import PyProof.WalksMore
import PyProof.AutoSeq1
import PySem.Challenge.RW_evenpoints_k23_square_misses
set_option compiler.extract_closed false
set_option bootstrap.genMatcherCode false
set_option Elab.async false
set_option linter.all false
set_option maxRecDepth 100000
set_option maxHeartbeats 4000000
open And renaming intro->DG, imp_right->D0
open Array renaming length_toList->DU, getElem?_toList->Fw, getElem?_eq_getElem->FW, getElem?_eq_none->GV, getD->Il, toList_push->Jl, replicate->Ka, toList_extract->Kk, mk->Lc
open Bool renaming and_eq_true_iff->D2, false_ne_true->D9, or_eq_true_iff->EA, false_eq_true->GW, not_true->G9, false_and->Ha, eq_iff_iff->Ip, true_and->KR
open Classical renaming choose_spec->DW, choose->FK
open Exists renaming imp->Es
open False renaming elim->Fq
open ForInStep renaming yield->Ir
open Iff renaming rfl->Jz
open Int renaming toNat_natCast->Eh, gcd->Et, eq_ofNat_of_zero_le->EF, pow_succ->Fa, natAbs_mul->Fj, fdiv_eq_ediv_of_nonneg->Fp, fmod_nonneg_of_pos->FQ, zero_add->F0, natAbs_natCast->Ga, mul_pos->Gc, natAbs_dvd_natAbs->Gx, pow_zero->GM, gcd_pos_of_ne_zero_right->GX, le_of_dvd->G_, fmod_lt_of_pos->Hz, mul_comm->HU, ediv_le_self->H0, mul_assoc->Ij, dvd_trans->Ik, pow_pos->Iw, natCast_mul->Iy, natCast_add->IE, one_mul->IF, ediv_nonneg->IG, mul_lt_mul_of_pos_right->IH, gcd_zero_right->IS, lt_of_le_of_lt->IT, mul_le_mul->Ja, mul_nonneg->Jb, natAbs_add_le->Jj, mul_ediv_cancel_left->Jk, toNat->Jm, mul_one->Jq, le_refl->Jw, natCast_dvd_natCast->JE, dvd_of_emod_eq_zero->JF, fmod_add_mul_fdiv->J4, le_of_lt->J5
open List renaming mem_cons_of_mem->DL, length_map->DO, getElem?_eq_getElem->DP, mem_cons_self->DS, replicate->DT, length_cons->DX, size_toArray->DZ, getD_eq_getElem?_getD->D1, take_of_length_le->D6, length_append->D7, range->D8, mem_append_right->Ea, getElem?_eq_some_iff->Ec, getElem?_set_ne->Ee, getElem?_set_self->Eg, take_succ_eq_append_getElem->Ej, getElem_mem->Ep, mem_singleton->Er, mem_map->Ev, map_cons->Ew, getElem?_map->Ez, replicate_succ->EK, getElem_map->EN, mem_cons->EO, map_congr_left->ER, length_take->EU, lookup_cons->EV, mem_append->EW, length_range->EX, of_mem_zip->E2, map_append->E3, length_zip->E4, getElem?_set->E5, Nodup->E7, map_map->Ff, mem_range->Fg, nodup_cons->FB, foldl_cons->FE, getElem_zip->FM, flatMap_cons->FT, drop_eq_getElem_cons->FU, append_nil->FY, all_eq_true->Gb, mem_of_getElem?->Gf, flatten_cons->Gn, mem_iff_getElem->GA, append_assoc->GH, find?_cons->GJ, length_nil->GK, filterMap_cons->GN, length_drop->GQ, drop_length->GR, getElem_range->GY, length_replicate->G1, getElem?_append_left->Hb, getElem_of_mem->Hi, eq_of_mem_replicate->Hs, drop_of_length_le->HC, foldl_nil->HK, map_nil->HP, isEmpty_nil->HY, mem_of_mem_take->Ic, forIn_cons->Is, getElem?_append_right->IJ, filterMap_map->IP, pairwise_cons->IR, set_comm->Jp, getElem?_replicate->Jr, any_cons->Ju, cons_append->JH, ext_getElem->JL, not_mem_nil->JM, mem_flatMap->JN, filterMap_eq_map'->JR, range_succ_eq_map->JS, length_singleton->J0, take_append_drop->J_, length_filter_le->Kc, mem_append_left->Ki, pairwise_append->Kl, drop_zero->Ko, nodup_nil->Kp, flatMap_append->KC, length_flatMap->KG, Pairwise->KQ, Perm->Lz
open List.Nodup renaming length_le_of_subset->FZ
open List.Perm renaming refl->HM
open List.cons renaming injEq->ED
open Nat renaming le_refl->DQ, lt_of_lt_of_le->DR, pow_le_pow_right->D4, zero_le->Ei, ne_of_lt->EB, le_trans->EC, lt_irrefl->E_, mul_le_mul->FA, lt_of_le_of_lt->FG, not_lt_zero->Gp, pow_succ->GL, mul_comm->G3, min_eq_left->G4, le_of_succ_le->G8, min_eq_right->Hh, add_mul->Hj, lt_or_ge->Hr, exists_eq_add_of_le->HA, ne_of_gt->HN, le_add_right->HX, mul_le_mul_right->Ie, mul_le_mul_left->Iv, pow_add->Iz, sub_zero->IQ, mul_assoc->JB, lt_succ_self->JJ, mul_lt_mul''->JK, le_mul_of_pos_left->JT, le_of_lt->JW, zero_add->J6, mul_ne_zero->J8, pow_lt_pow_right->Km, mul_add->Ky, add_mod->Kz, mul_mod->KA, pow_le_pow_left->KF, mod_lt->K3, pow_zero->K8, min_self->K_, Coprime->Lr, pow_pos->Ls, one_mul->Lv
open Nat.succ renaming inj->Lb
open Ne renaming symm->Im
open Option renaming map_eq_some_iff->FN, isSome_iff_exists->GF
open Option.some renaming inj->Eu
open Or renaming inr->EZ, inl->FP
open PyProof.Rows renaming slot_tuple_getitem->EH, assignInOrder_cons->Gs, callWith_type1->GZ, IntsAre->HW, assignInOrder_nil->Jc, subscriptTail_builtinR->JO, envOfC->JY, AllBare->Ku, subscriptTail->KP, seqObj->Lu
open PySem renaming PyData->DH, wpAny_bind->DI, Value->DJ, wpAny_pure->DK, Shared->DM, starEach->DY, wpAny->Eb, Program->Ef, model->Ek, foldedSetIterable->Ey, wpAny_newObj_type->EG, sizeLine_eq->EI, mainGlobals->EJ, wpAny_mono->EL, World->EM, wpAny_callSpecial?_slot->EQ, Around->ES, mem_of_lookup->EY, Paired->E8, wpAny_call_entry->Fh, SetTable->Fm, wpAny_field->FC, cellsFrom->FO, backTo->Ge, wpAny_holding->Gg, wpAny_standAt->Gh, letOwnedTupleGo->Go, swapsWith->Gr, wpAny_setField_rec->Gw, wpAny_seqItems->Gz, assignEach->GC, wpAny_passesOwn->GD, codeAny->GE, binaryOp->GO, FuncData->GP, wpAny_askSetting->GS, compareOp->G0, swapsWithSole->G6, swappedStores->G7, sysModules->Hk, bootBuiltins->Hl, wpAny_rule->Hm, codeAny_mono->Hn, wpAny_comprehension_free->Hq, behindInMarks->Hu, NameKind->Hv, wpAny_pyIter_list->HD, sliceBounds->HE, wpAny_setState_of->HH, wpAny_bindName->HI, wpAny_setField->HJ, assign->H_, wpAny_updateSeq_pair->Ia, assignInOrder->Ig, bindName->Ih, attributeBase->Ii, wpAny_execs_nil->Io, IsPair->Ix, codeAny_builtin->IB, wpAny_setEntries_of->IC, pyNext->IM, wpAny_Call_Name_kw->IN, intKind->IU, Keyword->IV, intBits_le_iff->IW, newFunctionEnv->IZ, firstArgMember->I_, wpAny_sequenceKey->Jd, holding->Jo, getItem->Js, keywordEach->Jt, wpAny_onRaise->Jx, wpAny_attempt->Jy, noFill_tuple_add->JG, wpAny_isInstance->JI, codeAny_compStart_list->JQ, importedModules->JU, standAt->JX, wpAny_typeOf->JZ, theTreesLotGoes->J1, codeAny_of_tree->J7, builtinLookup_eq_fast->Kb, wpAny_loadName_local->Kj, rawInt->Kn, isSubtype_type->Kq, wpAny_loadName_cell->Kv, subscripted->Kw, wpAny_of_eq->Kx, tupleKind->KJ, PassesOwn->KL, pyIter->KM, seq_tuple_add->KN, IsPart->KO, cLine->KW, call_meets->KY, valueAt->KZ, callerA->K0, IsZip->K1, concat_meets->K5, seqIndex_neg->K6, codeAny_loop->K7, Operator->Ld, backToKw->Lf, compTurn->Lg, hashInt->Lh, sizeLine_eq->Lj, BindsTo->Lk, seqIndex_of->Ll, pushCells->Lm, noteFrame->Ln, wpAny_noted->Lo, wpAny_letGo->Lq, Params->Lw, atKey->Ly
open PySem.Around renaming under_plainId->Ib
open PySem.Builtin.Int renaming intBits->Iq
open PySem.Builtin.List renaming listTooLong->GI, listLengthHint->ID
open PySem.Builtin.Slice renaming slicePlaces->Gy, sliceAdjust->Hd, sliceApplied->IK
open PySem.Builtin.SmallTypes renaming nextOf->Ex, ownedTupleIsFree->Fu, ownedTupleHandOut->Hf
open PySem.Builtin.Tuple renaming tupleExact->GG, tupleItemsOf->IL
open PySem.Calls renaming Name_function_global->II
open PySem.F renaming args_tuple_add_2->Ho, entry_tuple_add->Hw, slot_tuple_add->HB, slot_list_append->Jg, type_list_append->Jh, plainAttrs_list->Jv
open PySem.Flow renaming next->Li
open PySem.Heap renaming get?_push_of_some->DN, lt_size->DV, get?_push_size->D3, size_push->Fi, SameBut->FJ, get?_update_self->Gu, get?_update_other->GU, ExtBut->Lp
open PySem.Heap.SameBut renaming update->FS
open PySem.NameKind renaming free->ET, cell->Gi
open PySem.Obj renaming data_mapFields->Gv, isFreed_of_fields->HR, mapSeq->Je, cls_mapFields->Ji, putSet->Kh
open PySem.Paired renaming length->Ht
open PySem.PassesOwn renaming never->EE
open PySem.PyData renaming int->D5, canLayAll0->E6, tuple->Fb, depthAll->FH, eqv->FR, canLay0->Gk, leavesShort->Hy, bool->HF, depth->HQ, showable->Iu, bulkAll->I0, leavesShortAll->J3
open PySem.PyData.int renaming injEq->HZ
open PySem.PyData.tuple renaming injEq->F_
open PySem.SeqAt renaming shaped->E9, canLay_of_shaped->JP
open PySem.SetTable renaming below->Ed, bits->Fo, insertAt->Fv, runEnd->FI, leap->FV, grown->Hg, turns->HL, fill->JC, fits->KS, layClean->K4
open PySem.SetTable.below renaming go->HG
open PySem.SetTable.layClean renaming free->Gq
open PySem.SetTable.probe renaming go->Fz
open PySem.SetTable.sizeAbove renaming go->G5
open PySem.Str renaming ofString->Gj
open PySem.Value renaming ref->GB, none->GT, isInt->Jn, int->JV, str->KI, bool->KU
open PySem.W renaming mg_none_of->D_, boot_heap->Ft, Frag->Gm, nsIn->Kd, fnOf->Ke, OpenLaw->Kf, boot_drawn->Kg, codeIn->Kr, keepIn->Ks, boot_toks->KH, OpenLaw->Lx
open PySem.pickOrder renaming go->K9
open Rat renaming intCast_mul->Fd, pow_succ->HV, intCast_sub->IA, normalize->JA, one_mul->JD, intCast_add->J9, mul_one->KE, pow_zero->La
open Sum renaming inr->FX, inl->Kt
open True renaming intro->Jf
open PySem PySem.Spec PyProof.Rows
variable{loose N:List Str}{α:Type}{m t' i j n:Nat}{xs xs':List DH}{us:List DJ}{a b it f r:Addr}{P:Ef}{w:EM}{h h':Heap}{x qual:Str}{A:ES}{E rows:List (List Int)}{u:DJ}{Q:DJ->DM->Prop}{s:DM}{pins:List (Addr×Obj)}{tg iter:Expr}{pos' px:Pos}{fp:List Addr}{fd:GP}{ps:List (List Rat)}{mg:Str->Option DJ}{scope:Scope}{ns:List Int}{XP:(Str->Option DJ)->Heap->Prop}{d:DH}{n':Nat×List Int}{xss:List (List DH)}{q:Rat}{owner:Array (Option Nat)}{p:List Rat}
theorem æa(h:True:=by rfl):True:=trivial
theorem æb(h:True:=by decide):True:=trivial
theorem æc(h:True:=by first|exact FP rfl|exact EZ (FP rfl)|exact EZ (EZ rfl)):True:=trivial
theorem æd(h:True:=by intro _;rfl):True:=trivial
theorem æe(h:True:=by first|exact FP rfl|exact EZ rfl):True:=trivial
theorem æf(h:True:=by first|exact .inl rfl|exact .inr rfl):True:=trivial
theorem æg(h:True:=by first|exact .inl rfl|exact .inr rfl|assumption):True:=trivial
theorem æh(h:True:=by exact fun _ _=>rfl):True:=trivial
theorem æi(h:True:=by intro _ _;rfl):True:=trivial
noncomputable section
namespace L2
open PySem
noncomputable def tq(s:Stmt)(j:Nat):Stmt:=match s with
 | .ClassDef _ _ _ body _ _ _ _ _ _ _=>body.getD j (.Pass ⟨0,0,0,0⟩)
 | _=>.Pass ⟨0,0,0,0⟩
noncomputable def defArgs(s:Stmt):Arguments:=match s with
 | .FunctionDef _ a _ _ _ _ _ _ _ _=>a
 | _=>{posonlyargs:=[],args:=[],vararg:=none,kwonlyargs:=[],kw_defaults:=[],kwarg:=none,defaults:=[]}
noncomputable def defBody(s:Stmt):List Stmt:=match s with
 | .FunctionDef _ _ b _ _ _ _ _ _ _=>b
 | _=>[]
noncomputable def defScope(s:Stmt):Scope:=match s with
 | .FunctionDef _ _ _ _ _ _ sc _ _ _=>sc
 | _=>{kind:=.function,names:=[],isGenerator:=false,isCoroutine:=false}
end L2
namespace L2.TT
open PySem PySem.W
noncomputable def Cr(tb:String->Option Builtin)(p:Ef)(w:EM)(m:Nat)(ann:Option DJ):Nat->SharedT->Thread->Option SharedT
 | 0,_,_=>none
 | n+1,s,t=>match through t with
   | true=>some s
   | false=>match stepOk m ann t with
     | false=>none
     | true=>match stepT (denote tb) p w s t with
       | some r=>Cr tb p w m ann n r.1 r.2
       | none=>none
theorem qB{tb:String->Option Builtin}{p:Ef}{w:EM}{m:Nat}{ann:Option DJ}:∀{n:Nat}{s s':SharedT}{t:Thread},Cr tb p w m ann n s t=some s'->topRun tb p w m ann n s.abs t=some s'.abs
 | 0,_,_,_,h=>by cases h
 | n+1,s,s',t,h=>by
   unfold Cr at h;unfold topRun
   cases he:through t with
   | true=>rw[he]at h;cases h;rfl
   | false =>
     rw[he]at h
     cases hk:stepOk m ann t with
     | false=>rw[hk]at h;cases h
     | true =>
       rw[hk]at h
       cases hs:stepT (denote tb) p w s t with
       | none=>rw[hs]at h;cases h
       | some r=>rw[hs]at h;rw[stepT_spec hs];exact qB h
noncomputable def bt(os:List Obj):Nat->Nat->Nat->BT
 | 0,_,_=>.nil
 | f+1,a,b=>match os[b]? with
   | some o=>.node o (bt os f (2*a) (a+b)) (bt os f (2*a) (2*a+b))
   | none=>.nil
theorem boot_abs(P:Lw):absHeap (bt (Ft P).objs.toList 12 1 0) (Ft P).objs.size (Ft P).life=Ft P:=by kernel_rfl
abbrev v8(p q:Ef)(loose:List Str)(Xt:DM->Bool){α:Type}(Yf:DM->α)(h₀:Heap)(s:DM) :=
 (staticsOk (JU p.main.body) h₀ s.heap&&namesBound p s.heap&&gensDone s&&laidKept h₀ s.heap,openSeen q loose (JU p.main.body) Xt true s,Yf s)
theorem left_of{p q:Ef}{Xt:DM->Bool}{Yf:DM->α}{Ya:EM->α}{N M:Nat}{ann:Option DJ}
 (e:opening p=plainProg p.main.scope.names)(hN:Nat.ble 600 N=true)(f:∀s,fenceModules? p s=some s)(le:Nat.ble M N=true)
 (size:∀w:EM,((Ft w.params).isNs EJ,(Ft w.params).objs.size,(Ft w.params).nsMap EJ "__annotations__")=(true,m,ann))
 (run:∀(w:EM)(os:OsState),(Cr treeTable p w m ann M ⟨bt (Ft w.params).objs.toList 12 1 0,(Ft w.params).objs.size,(Ft w.params).life,Lc [],Kg,KH,os⟩ (topStub p)).map (fun s=>v8 p q loose Xt Yf (Ft w.params) s.abs)=some (true,openGood q loose,Ya w)) :
 LeftO p q loose Xt Yf Ya N:=fun w=>by
 obtain⟨⟨h,gs,d,k,os⟩,eo,e'⟩:=FN.mp (boot_open e hN f w);obtain⟨rfl,rfl,rfl,rfl⟩:h=Ft w.params/\gs=Lc []/\d=Kg/\k=KH:=by simpa using e'
 obtain⟨z1,z2,z3⟩:_/\_/\_:=by simpa only[Prod.mk.injEq]using size w
 obtain⟨s',r,l⟩:=FN.mp (run w os);obtain⟨l1,l2,l3⟩:_/\_/\_:=by simpa only[v8,Prod.mk.injEq]using l
 have r:=qB r
 have hb:SharedT.abs ⟨bt (Ft w.params).objs.toList 12 1 0,(Ft w.params).objs.size,(Ft w.params).life,Lc [],Kg,KH,os⟩=⟨Ft w.params,Lc [],Kg,KH,os⟩:=by
  show DM.mk (absHeap _ _ _) _ _ _ _=_;rw[boot_abs]
 rw[hb]at r;have r:=topRun_mono (N-M) _ _ _ _ r;rw[show M+(N-M)=N by have:=Nat.le_of_ble_eq_true le;omega]at r
 have t:topFrom treeTable p w N ⟨Ft w.params,Lc [],Kg,KH,os⟩=some s'.abs:=by
  unfold topFrom;dsimp only;rw[z1,z2,z3,r];show(match staticsOk (JU p.main.body) (Ft w.params) s'.abs.heap&&namesBound p s'.abs.heap&&gensDone s'.abs&&laidKept (Ft w.params) s'.abs.heap with|true=>_|false=>_)=_;rw[l1]
 unfold openEnds;rw[eo];show(topFrom treeTable p w N _).map _=_;rw[t];exact congrArg some (Prod.ext l2 l3)
end L2.TT
namespace K23
open PySem
def BB(i:Nat):Stmt:=PySem.Challenge.pw_evenpoints_k23_square_misses.main.body.getD i (.Pass ⟨0,0,0,0⟩)
end K23
noncomputable def PySem.W.Fast.tw5519027281303487696:PySem.Program:=PySem.Challenge.pw_evenpoints_k23_square_misses
theorem PySem.W.Fast.te5519027281303487696:PySem.Challenge.pw_evenpoints_k23_square_misses=PySem.W.Fast.tw5519027281303487696:=rfl
namespace K23
open PySem PySem.W L2
def A9:Stmt:=BB 0
def A8:Stmt:=BB 1
def A7:Stmt:=BB 2
def A6:Stmt:=BB 3
def A5:Stmt:=BB 4
def A4:Stmt:=BB 5
def A3:Stmt:=BB 6
def A2:Stmt:=BB 7
def A1:Stmt:=BB 8
def A0:Stmt:=BB 9
def zy:Stmt:=BB 10
def zx:Stmt:=BB 11
def zw:Stmt:=BB 12
def zu:Stmt:=BB 13
def Ak:Stmt:=BB 14
def zr:Stmt:=BB 15
def Aj:Stmt:=BB 16
def zq:Stmt:=BB 17
def zp:Stmt:=BB 18
def zo:Stmt:=BB 19
def zn:Stmt:=BB 20
def Ai:Stmt:=BB 21
def zm:Stmt:=BB 22
def zk:Stmt:=BB 23
def zj:Stmt:=BB 24
def zi:Stmt:=BB 25
def zh:Stmt:=BB 26
def zg:Stmt:=BB 27
def zf:Stmt:=BB 28
def ze:Stmt:=BB 29
def zd:Stmt:=BB 30
def zc:Stmt:=BB 31
def zb:Stmt:=BB 32
def BZ:Ef:={PySem.Challenge.pw_evenpoints_k23_square_misses with main:={PySem.Challenge.pw_evenpoints_k23_square_misses.main with body:=[A9,A8,A7,A6,A5,A4,A3,A2,A1,A0,zy,zx,zw,zu,Ak,zr,Aj,zq,zp,zo,zn,Ai,zm,zk,zj,zi,zh,zg,zf,ze,zd,zc,zb]}}
def rwN:Lx:={PySem.Challenge.rw_evenpoints_k23_square_misses with prog:=BZ}
noncomputable def zview:Ef:={PySem.Challenge.pw_evenpoints_k23_square_misses with main:={PySem.Challenge.pw_evenpoints_k23_square_misses.main with body:=[A8,A7,A5,A4,A3,A2,A1,A0,zy,zx,zw,zu,zr,zq,zp,zo,zn,zm,zk,zj,zi,zh,zg,zf,ze,zd,zc,zb]}}
theorem rw_eq:PySem.Challenge.rw_evenpoints_k23_square_misses=rwN:=rfl
noncomputable def Bg(P:Lw)(x:Str)(t:Nat)(v:DJ):DictEntry:=⟨DH.keyHash P x,.str x t,v⟩
noncomputable def Bf(n q:Str)(s:Stmt)(pm cd:DJ):Obj:=⟨.type "function", none,.func (fnOf n q (defArgs s) (defBody s) (defScope s) .none .none .none pm none cd .none),#[]⟩
noncomputable def Bi(n q:Str)(a b c:Nat)(l x y:Int)(r:Nat)(z:Int)(r2:Nat)(v1 v2 v3:DJ)(r3:Nat)(u:Int)(c2:Nat):Obj:=⟨.type "code", none,.fields #[.str n a,.str q b,.str "/claim/cut.py" c,.int l 0,.int x 0,.int 0 0,.int 0 0,.int y 0,.ref r,.bool true,.int z 0,.ref r2,v1,v2,v3,.ref r3,.int u 0,.int l 0,.str "/claim/cut.py" c2],#[]⟩
noncomputable def Bd:DJ:=.str "evenpoints.errors" 187
noncomputable def Bc:DJ:=.str "evenpoints.fractions" 232
noncomputable def Bb:DJ:=.str "evenpoints.points" 309
noncomputable def Ba:DJ:=.str "evenpoints.squares" 318
noncomputable def A_:DJ:=.str "law_evenpoints_k23_square_misses" 344
abbrev Be(n:Str):=Bf n n
abbrev Bh(n:Str):=Bi n n
noncomputable def heapK(P:Lw):Frag :=
 (nat_lit 2,(.mk .none none (.dict #[] 0) #[])) ::
 (nat_lit 3,(.mk (.type "dict") none (.dict #[Bg P "__name__" 165 (.str "law_evenpoints_k23_square_misses" 344),Bg P "__doc__" 166 .none,Bg P "__package__" 167 .none,Bg P "__loader__" 168 (.builtin "__main__.__loader__#opaque"),Bg P "__spec__" 169 .none,Bg P "__annotations__" 170 (.ref 6),Bg P "__builtins__" 171 (.ref 4),Bg P "__file__" 173 (.str "/claim/cut.py" 172),Bg P "__cached__" 174 .none,Bg P "EvenError" 206 (.ref 24),Bg P "Nought" 231 (.ref 44),Bg P "ONE" 236 (.ref 47),Bg P "common_divisor" 244 (.ref 54),Bg P "fraction" 253 (.ref 61),Bg P "plus" 261 (.ref 68),Bg P "less" 269 (.ref 75),Bg P "times" 277 (.ref 82),Bg P "sum_of" 283 (.ref 87),Bg P "product_of" 292 (.ref 94),Bg P "is_below" 300 (.ref 101),Bg P "greater" 308 (.ref 108),Bg P "sides_of" 317 (.ref 115),Bg P "room_above" 325 (.ref 120),Bg P "room_above_both" 331 (.ref 125),Bg P "square_miss" 337 (.ref 130),Bg P "square_without" 343 (.ref 135),Bg P "_law_feed" 352 (.ref 142),Bg P "_law_draw" 364 (.ref 149),Bg P "_law_frac" 374 (.ref 156),Bg P "_law_small_number" 385 (.ref 163),Bg P "_law_small_points" 391 (.ref 168),Bg P "_law_shared" 399 (.ref 175),Bg P "_law_bottom" 409 (.ref 182),Bg P "_law_patches" 415 (.ref 187),Bg P "_law_none_above" 421 (.ref 192),Bg P "_law_square" 427 (.ref 197),Bg P "law" 433 (.ref 202)] 37) #[])) ::
 (nat_lit 6,(.mk (.type "dict") none (.dict #[] 0) #[])) ::
 (nat_lit 15,(.mk (.type "tuple") none (.seq #[(.type "ValueError")] 0) #[])) ::
 (nat_lit 22,(.mk (.type "tuple") none (.seq #[] 0) #[])) ::
 (nat_lit 23,(.mk (.type "dict") none (.dict #[Bg P "__module__" 196 (.str "evenpoints.errors" 187),Bg P "__firstlineno__" 200 (.int 2 199),Bg P "__static_attributes__" 201 (.ref 22),Bg P "__weakref__" 203 (.ref 25),Bg P "__doc__" 204 .none] 3) #[])) ::
 (nat_lit 24,(.mk (.type "type") none (.cls (.mk "EvenError" [(.type "ValueError")] [(.ref 24),(.type "ValueError"),(.type "Exception"),(.type "BaseException"),(.type "object")] 23 "EvenError" true [] [(.ref 44)] false none false)) #[(some (.ref 15)),none,(some (.str "EvenError" 189)),(some (.str "EvenError" 197)),(some (.builtin "ValueError.__new__")),(some (.bool true))])) ::
 (nat_lit 25,(.mk (.type "getset_descriptor") none (.fields #[(.str "__weakref__" 202),(.ref 24),(.builtin "ExceptionGroup.__weakref__"),.none]) #[])) ::
 (nat_lit 28,(.mk (.type "tuple") none (.seq #[(.ref 24)] 0) #[])) ::
 (nat_lit 40,Bi "__init__" "Nought.__init__" 219 220 221 6 2 3 35 181 36 .none (.ref 37) (.ref 38) 39 224 225) ::
 (nat_lit 41,Bf "__init__" "Nought.__init__" (tq (BB 2) 0) Bd (.ref 40)) ::
 (nat_lit 42,(.mk (.type "tuple") none (.seq #[(.str "word" 227)] 0) #[])) ::
 (nat_lit 43,(.mk (.type "dict") none (.dict #[Bg P "__module__" 214 (.str "evenpoints.errors" 187),Bg P "__firstlineno__" 218 (.int 4 217),Bg P "__init__" 226 (.ref 41),Bg P "__static_attributes__" 228 (.ref 42),Bg P "__doc__" 229 .none] 2) #[])) ::
 (nat_lit 44,(.mk (.type "type") none (.cls (.mk "Nought" [(.ref 24)] [(.ref 44),(.ref 24),(.type "ValueError"),(.type "Exception"),(.type "BaseException"),(.type "object")] 43 "Nought" true [] [] false none false)) #[(some (.ref 28)),none,(some (.str "Nought" 207)),(some (.str "Nought" 215)),(some (.builtin "ValueError.__new__")),(some (.bool true))])) ::
 (nat_lit 47,(.mk (.type "tuple") none (.seq #[(.int 1 234),(.int 1 235)] 0) #[])) ::
 (nat_lit 53,Bh "common_divisor" 237 238 239 10 2 3 48 181 49 .none (.ref 50) (.ref 51) 52 242 243) ::
 (nat_lit 54,Be "common_divisor" (BB 5) Bc (.ref 53)) ::
 (nat_lit 60,Bh "fraction" 245 246 247 14 2 3 55 181 56 .none (.ref 57) (.ref 58) 59 251 252) ::
 (nat_lit 61,Be "fraction" (BB 6) Bc (.ref 60)) ::
 (nat_lit 67,Bh "plus" 254 255 256 21 2 3 62 181 63 .none (.ref 64) (.ref 65) 66 259 260) ::
 (nat_lit 68,Be "plus" (BB 7) Bc (.ref 67)) ::
 (nat_lit 74,Bh "less" 262 263 264 23 2 3 69 181 70 .none (.ref 71) (.ref 72) 73 267 268) ::
 (nat_lit 75,Be "less" (BB 8) Bc (.ref 74)) ::
 (nat_lit 81,Bh "times" 270 271 272 25 2 3 76 181 77 .none (.ref 78) (.ref 79) 80 275 276) ::
 (nat_lit 82,Be "times" (BB 9) Bc (.ref 81)) ::
 (nat_lit 86,Bh "sum_of" 278 279 280 27 1 3 83 181 84 .none .none .none 85 281 282) ::
 (nat_lit 87,Be "sum_of" (BB 10) Bc (.ref 86)) ::
 (nat_lit 93,Bh "product_of" 284 285 286 32 1 3 88 181 89 .none (.ref 90) (.ref 91) 92 290 291) ::
 (nat_lit 94,Be "product_of" (BB 11) Bc (.ref 93)) ::
 (nat_lit 100,Bh "is_below" 293 294 295 37 2 3 95 181 96 .none (.ref 97) (.ref 98) 99 298 299) ::
 (nat_lit 101,Be "is_below" (BB 12) Bc (.ref 100)) ::
 (nat_lit 107,Bh "greater" 301 302 303 39 2 3 102 181 103 .none (.ref 104) (.ref 105) 106 306 307) ::
 (nat_lit 108,Be "greater" (BB 13) Bc (.ref 107)) ::
 (nat_lit 114,Bh "sides_of" 311 312 313 42 1 3 109 181 110 .none (.ref 111) (.ref 112) 113 315 316) ::
 (nat_lit 115,Be "sides_of" (BB 15) Bb (.ref 114)) ::
 (nat_lit 119,Bh "room_above" 320 321 322 45 1 3 116 181 117 .none .none .none 118 323 324) ::
 (nat_lit 120,Be "room_above" (BB 17) Ba (.ref 119)) ::
 (nat_lit 124,Bh "room_above_both" 326 327 328 47 2 3 121 181 122 .none .none .none 123 329 330) ::
 (nat_lit 125,Be "room_above_both" (BB 18) Ba (.ref 124)) ::
 (nat_lit 129,Bh "square_miss" 332 333 334 49 1 3 126 181 127 .none .none .none 128 335 336) ::
 (nat_lit 130,Be "square_miss" (BB 19) Ba (.ref 129)) ::
 (nat_lit 134,Bh "square_without" 338 339 340 56 1 3 131 181 132 .none .none .none 133 341 342) ::
 (nat_lit 135,Be "square_without" (BB 20) Ba (.ref 134)) ::
 (nat_lit 141,Bh "_law_feed" 346 347 348 59 1 3 136 181 137 .none (.ref 138) (.ref 139) 140 350 351) ::
 (nat_lit 142,Be "_law_feed" (BB 22) A_ (.ref 141)) ::
 (nat_lit 148,Bh "_law_draw" 353 354 355 61 2 3 143 181 144 .none (.ref 145) (.ref 146) 147 362 363) ::
 (nat_lit 149,Be "_law_draw" (BB 23) A_ (.ref 148)) ::
 (nat_lit 155,Bh "_law_frac" 365 366 367 78 2 3 150 181 151 .none (.ref 152) (.ref 153) 154 372 373) ::
 (nat_lit 156,Be "_law_frac" (BB 24) A_ (.ref 155)) ::
 (nat_lit 162,Bh "_law_small_number" 375 376 377 83 2 3 157 181 158 .none (.ref 159) (.ref 160) 161 383 384) ::
 (nat_lit 163,Be "_law_small_number" (BB 25) A_ (.ref 162)) ::
 (nat_lit 167,Bh "_law_small_points" 386 387 388 92 3 3 164 181 165 .none .none .none 166 389 390) ::
 (nat_lit 168,Be "_law_small_points" (BB 26) A_ (.ref 167)) ::
 (nat_lit 174,Bh "_law_shared" 392 393 394 103 2 3 169 181 170 .none (.ref 171) (.ref 172) 173 397 398) ::
 (nat_lit 175,Be "_law_shared" (BB 27) A_ (.ref 174)) ::
 (nat_lit 181,Bh "_law_bottom" 400 401 402 107 2 3 176 181 177 .none (.ref 178) (.ref 179) 180 407 408) ::
 (nat_lit 182,Be "_law_bottom" (BB 28) A_ (.ref 181)) ::
 (nat_lit 186,Bh "_law_patches" 410 411 412 112 1 3 183 181 184 .none .none .none 185 413 414) ::
 (nat_lit 187,Be "_law_patches" (BB 29) A_ (.ref 186)) ::
 (nat_lit 191,Bh "_law_none_above" 416 417 418 120 2 3 188 181 189 .none .none .none 190 419 420) ::
 (nat_lit 192,Be "_law_none_above" (BB 30) A_ (.ref 191)) ::
 (nat_lit 196,Bh "_law_square" 422 423 424 122 1 3 193 181 194 .none .none .none 195 425 426) ::
 (nat_lit 197,Be "_law_square" (BB 31) A_ (.ref 196)) ::
 (nat_lit 201,Bh "law" 428 429 430 150 1 3 198 181 199 .none .none .none 200 431 432) ::
 (nat_lit 202,Be "law" (BB 32) A_ (.ref 201))::[]
noncomputable def heapA:List Addr:=nat_lit 2::nat_lit 3::nat_lit 6::nat_lit 15::nat_lit 22::nat_lit 23::nat_lit 24::nat_lit 25::nat_lit 28::nat_lit 40::nat_lit 41::nat_lit 42::nat_lit 43::nat_lit 44::nat_lit 47::nat_lit 53::nat_lit 54::nat_lit 60::nat_lit 61::nat_lit 67::nat_lit 68::nat_lit 74::nat_lit 75::nat_lit 81::nat_lit 82::nat_lit 86::nat_lit 87::nat_lit 93::nat_lit 94::nat_lit 100::nat_lit 101::nat_lit 107::nat_lit 108::nat_lit 114::nat_lit 115::nat_lit 119::nat_lit 120::nat_lit 124::nat_lit 125::nat_lit 129::nat_lit 130::nat_lit 134::nat_lit 135::nat_lit 141::nat_lit 142::nat_lit 148::nat_lit 149::nat_lit 155::nat_lit 156::nat_lit 162::nat_lit 163::nat_lit 167::nat_lit 168::nat_lit 174::nat_lit 175::nat_lit 181::nat_lit 182::nat_lit 186::nat_lit 187::nat_lit 191::nat_lit 192::nat_lit 196::nat_lit 197::nat_lit 201::nat_lit 202::[]
theorem heapE:∀P,heapA=(heapK P).map (·.1):=fun _=>rfl
theorem xn:∀w:EM,((Ft w.params).isNs EJ,(Ft w.params).objs.size,(Ft w.params).nsMap EJ "__annotations__")=(true,11,some (.ref 6)):=fun w=>by kernel_rfl
set_option maxHeartbeats 0 in
theorem zleft:LeftO BZ zview [] (fun s=>xlAt zview [] s&&recOk (RowW.records rwN.row.toRowW) s) (Hook.obs (kHook heapK heapA heapE)) (Hook.val (kHook heapK heapA heapE)) 3144 :=
 L2.TT.left_of (M:=3144) (by kernel_rfl) rfl (fun s=>by kernel_rfl) rfl xn fun w os=>by kernel_rfl
end K23
namespace L2
abbrev Di:=Sum Int Str
noncomputable def kJ:Di->DJ->Bool
 | .inl k,v=>Jn k v
 | .inr x,v=>DJ.isStrOf x v
noncomputable def AM(w:EM):Di->Int
 | .inl k=>Lh k
 | .inr x=>hashStr w x
theorem aU:∀{k:Di}{v:DJ},kJ k v=true->(∃i t,k=Kt i/\v=JV i t)\/(∃x t,k=FX x/\v=KI x t)
 | .inl i,v,h=>by
   obtain⟨t,e⟩:=DJ.isInt_shape (k:=i) (v:=v) h
   exact .inl ⟨i,t,rfl,e⟩
 | .inr x,v,h=>by
   obtain⟨t,e⟩:=DJ.isStrOf_shape (x:=x) (v:=v) h;exact .inr ⟨x,t,rfl,e⟩
theorem mJ(i:Int)(t:Tok):kJ (.inl i) (.int i t)=true:=by simp[kJ,Jn]
theorem mI(x:Str)(t:Tok):kJ (.inr x) (.str x t)=true:=by simp[kJ,DJ.isStrOf]
theorem wd(a b:Int):decide ((Kt a:Di)=Kt b)=(a==b):=by
 by_cases e:a=b
 · subst e;simp
 · have h:¬(Kt a:Di)=Kt b:=fun q=>e (Kt.inj q);rw[decide_eq_false h];exact(beq_eq_false_iff_ne.mpr e).symm
theorem wa(a b:Str):decide ((FX a:Di)=FX b)=decide (a=b):=by
 by_cases e:a=b
 · subst e;simp
 · have h:¬(FX a:Di)=FX b:=fun q=>e (FX.inj q);rw[decide_eq_false h,decide_eq_false e]
theorem wc(a:Int)(b:Str):decide ((Kt a:Di)=FX b)=false:=decide_eq_false (fun q=>nomatch q)
theorem wb(a:Str)(b:Int):decide ((FX a:Di)=Kt b)=false:=decide_eq_false (fun q=>nomatch q)
noncomputable def bm(prog:Ef)(w:EM):PySem.KeyKind prog w Di where
 is:=kJ
 hash:=AM w
 inj:=fun v a b ha hb=>by
  rcases aU ha with⟨i,t,rfl,rfl⟩|⟨x,t,rfl,rfl⟩
  · rcases aU hb with⟨j,u,rfl,e⟩|⟨y,u,rfl,e⟩
    · injection e with e1 _;rw[e1]
    · exact nomatch e
  · rcases aU hb with⟨j,u,rfl,e⟩|⟨y,u,rfl,e⟩
    · exact nomatch e
    · injection e with e1 _;rw[e1]
 byValue:=fun k v h=>by
   rcases aU h with⟨i,t,rfl,rfl⟩|⟨x,t,rfl,rfl⟩<;>rfl
 pyHash:=fun hv h=>by
  rcases aU hv with⟨i,t,rfl,rfl⟩|⟨x,t,rfl,rfl⟩
  · exact wpAny_pyHash_int h
  · exact wpAny_pyHash_str h
 eqBool:=fun hu hv h=>by
  rcases aU hu with⟨i,t,rfl,rfl⟩|⟨x,t,rfl,rfl⟩
  · rcases aU hv with⟨j,u,rfl,rfl⟩|⟨y,u,rfl,rfl⟩
    · rw[wd]at h;exact wpAny_eqBool_int h
    · rw[wc]at h;exact SeqAt.EqAt.int_str i t y u _ _ _ _ h
  · rcases aU hv with⟨j,u,rfl,rfl⟩|⟨y,u,rfl,rfl⟩
    · rw[wb]at h;exact SeqAt.EqAt.str_int x t j u _ _ _ _ h
    · rw[wa]at h;exact wpAny_eqBool_str h
 «strs»:=fun k x t v h=>by
  rcases aU h with⟨i,u,rfl,e⟩|⟨y,u,rfl,e⟩
  · exact nomatch e
  · injection e with e1 _
    subst e1;cases v<;>rfl
theorem i4(prog:Ef)(w:EM)(i:Int)(t:Tok):(bm prog w).is (.inl i) (.int i t)=true:=mJ i t
theorem i3(prog:Ef)(w:EM)(x:Str)(t:Tok):(bm prog w).is (.inr x) (.str x t)=true:=mI x t
inductive V where
 | non|bl (b:Bool)|int (i:Int)|str (x:Str)|byt (b:Array UInt8)|flt (b:UInt64)|ref (a:Addr)|ty (n:String)
 deriving DecidableEq
noncomputable def RelV:V->DJ->Prop
 | .non,u=>u=GT
 | .bl b,u=>u=KU b
 | .int i,u=>∃t,u=JV i t
 | .str x,u=>∃t,u=KI x t
 | .byt b,u=>∃t,u=DJ.bytes b t
 | .flt b,u=>∃t,u=DJ.float b t
 | .ref a,u=>u=GB a
 | .ty n,u=>u=DJ.type n
abbrev bP:List V->List DJ->Prop:=E8 RelV
theorem bP.length{xs:List V}(r:bP xs us):xs.length=us.length:=Ht r
theorem bP.get:∀{xs:List V}{us:List DJ}{i:Nat}{x:V},bP xs us->xs[i]?=some x->∃u,us[i]?=some u/\RelV x u
 | _,_,_,_,.nil,e=>by simp at e
 | _,_,0,_,.cons r _,e=>by simp at e;subst e;exact⟨_,rfl,r⟩
 | _,_,i+1,x,.cons _ t,e=>by
   obtain⟨u,h1,h2⟩:=bP.get (i:=i) (x:=x) t (by simpa using e);exact⟨u,by simpa using h1,h2⟩
theorem bP.set{x:V}{u:DJ}(r:RelV x u):∀{xs:List V}{us:List DJ}(i:Nat),bP xs us->bP (xs.set i x) (us.set i u)
 | _,_,_,.nil=>.nil
 | _,_,0,.cons _ t=>.cons r t
 | _,_,i+1,.cons q t=>.cons q (bP.set r i t)
theorem bP.append:∀{xs ys:List V}{us ws:List DJ},bP xs us->bP ys ws->bP (xs++ys) (us++ws)
 | _,_,_,_,.nil,s=>s
 | _,_,_,_,.cons r t,s=>.cons r (bP.append t s)
theorem bP.take:∀{xs:List V}{us:List DJ}(n:Nat),bP xs us->bP (xs.take n) (us.take n)
 | _,_,0,_=>.nil
 | _,_,_+1,.nil=>.nil
 | _,_,n+1,.cons r t=>.cons r (bP.take n t)
theorem bP.drop:∀{xs:List V}{us:List DJ}(n:Nat),bP xs us->bP (xs.drop n) (us.drop n)
 | _,_,0,r=>r
 | _,_,_+1,.nil=>.nil
 | _,_,n+1,.cons _ t=>bP.drop n t
noncomputable def tX:Option V->Option DJ->Prop
 | some v,some u=>RelV v u
 | none,none=>True
 | _,_=>False
noncomputable def KV{κ:Type}:List (κ×V)->List (κ×DJ)->Prop:=E8 fun(p:κ×V)(q:κ×DJ)=>p.1=q.1/\RelV p.2 q.2
noncomputable def kV:Di->V
 | .inl i=>.int i
 | .inr x=>.str x
inductive HO where
 | lst (xs:List V)
 | tup (xs:List V)
 | dK (kvs:List (Di×V))|dT (kvs:List (List Di×V))
 | set (S:Int->Bool) (n:Nat)
 | ins (C dx:Addr) (fs:List (Str×V))
 | own (x:Addr)
 | xd (fs:List (Str×V))
 | met (f x:Addr)
 | rng (lo hi:Int)
 | frz (o:Obj) (u:HO)
 | tbl (ps:Array DJ)
 | ext (φ:Heap->Prop)
abbrev Hp:=Addr->Option HO
noncomputable def Bt(H:Hp)(a:Addr)(o:HO):Hp:=fun b=>if b=a then some o else H b
theorem al{H:Hp}{o:HO}:Bt H a o a=some o:=by unfold Bt;rw[if_pos rfl]
theorem ai{H:Hp}{o:HO}(h:b≠a):Bt H a o b=H b:=by unfold Bt;rw[if_neg h]
theorem ye{H:Hp}{o u:HO}(h:H a=some o)(h':H b=some u)(d:o≠u):a≠b:=by
 intro e;subst e;rw[h]at h';exact d (Eu h')
theorem aH{H:Hp}{o:HO}(h:H a=some o)(h':H b=none):a≠b:=by
 intro e;subst e;rw[h]at h';cases h'
section
variable(P:Ef)(w:EM)
noncomputable def nT(h:Heap)(a:Addr)(items:Array DJ):Prop:=∃o,h.get? a=some o/\o.cls = .type "tuple" /\ (∃n,o.data = .seq items n)/\o.dict=none
theorem nT.tup{h:Heap}{a:Addr}{items:Array DJ}(x:nT h a items):IsTup h a items:=let ⟨o,e1,e2,e3,_⟩:=x;⟨o,e1,e2,e3⟩
theorem nT.new(h:Heap)(items:Array DJ):nT (h.push {cls:=.type "tuple", data:=.seq items}) h.objs.size items:=⟨_,D3 _ rfl,rfl,⟨_,rfl⟩,rfl⟩
noncomputable def ce(H:Hp)(h:Heap)(a:Addr):HO->Prop
 | .lst xs=>xs.length<=sizeLine/\∃(its:List DJ)(n:Nat),bP xs its/\h.get? a=some {cls:=.type "list", data:=.seq its.toArray n}
 | .tup xs=>xs.length<=sizeLine/\∃its:List DJ,bP xs its/\nT h a its.toArray
 | .dK kvs=>kvs.length<=sizeLine/\(a==Hk)=false/\∃vs,KV kvs vs/\h.DictOf (bm P w) a vs
 | .dT kvs=>kvs.length<=sizeLine/\(a==Hk)=false/\∃xs:List (List Di×Addr×DJ),
     E8 (fun(p:List Di×V)(q:List Di×Addr×DJ)=>p.1=q.1/\H q.2.1=some (.tup (p.1.map kV))/\RelV p.2 q.2.2) kvs xs /\
     ∃o es ep,h.get? a=some o/\o.ExactDict/\o.data = .dict es ep/\es.toList=xs.map (entryOfKey (KJ (bm P w)))/\(xs.map (·.1)).Nodup
 | .set S n=>h.SetOf (IU P w) a S n
 | .ins C dx fs=>H dx=some (.own a)/\fs.length<=1000/\dx≠a/\h.get? a=some (W.instObj C dx) /\
     ∃mA,h.Ns1 dx mA/\(∀f,tX (fs.lookup f) (mA f))/\PySem.Within mA (fs.map (·.1))
 | .own _=>∃o,h.get? a=some o
 | .xd fs=>∃mA,h.Ns1 a mA/\∀f,tX (fs.lookup f) (mA f)
 | .rng lo hi=>∃t u v,h.get? a=some {cls:=.type "range", data:=.fields #[.int lo t,.int hi u,.int 1 v]}
 | .frz o u=>h.get? a=some o/\ce H h a u
 | .tbl ps=>h.get? a=some {cls:=.none,data:=.fields ps}
 | .met f x=>h.get? a=some (W.methodObj (.ref f) (.ref x))
 | .ext φ=>φ h/\(∃o,h.get? a=some o)/\∀h1 h2:Heap,φ h1->(∀o,h1.get? a=some o->h2.get? a=some o)->φ h2
noncomputable def Dx(H:Hp)(h:Heap):Prop:=∀a o,H a=some o->ce P w H h a o
end
section
variable{P:Ef}{w:EM}{H H':Hp}{h h':Heap}{a:Addr}{o:HO}
theorem ce.lt(x:ce P w H h a o):a<h.objs.size:=by
 cases o with
 | lst xs=>obtain⟨_,_,_,_,e⟩:=x;exact DV e
 | tup xs=>obtain⟨_,_,_,p⟩:=x;exact p.tup.lt
 | dK kvs=>obtain⟨_,_,_,_,o,_,_,e,_⟩:=x;exact DV e
 | dT kvs=>obtain⟨_,_,_,_,o,_,_,e,_⟩:=x;exact DV e
 | set S n=>obtain⟨o,_,_,_,e,_⟩:=x;exact DV e
 | ins C dx fs=>obtain⟨_,_,_,e,_⟩:=x;exact DV e
 | own y=>obtain⟨_,e⟩:=x;exact DV e
 | xd fs=>obtain⟨_,⟨_,_,_,e,_⟩,_⟩:=x;exact DV e
 | rng lo hi=>obtain⟨_,_,_,e⟩:=x;exact DV e
 | frz ob u=>obtain⟨e,_⟩:=x;exact DV e
 | tbl ps=>exact DV (show h.get? a=some _ from x)
 | met f y=>exact DV (show h.get? a=some _ from x)
 | ext φ=>obtain⟨_,⟨_,e⟩,_⟩:=x;exact DV e
theorem E8.mapP{α β:Type}{F G:α->β->Prop}:∀{l₁:List α}{l₂:List β},E8 F l₁ l₂->(∀a b,F a b->G a b)->E8 G l₁ l₂
 | _,_,.nil,_=>.nil
 | _,_,.cons r t,f=>.cons (f _ _ r) (E8.mapP t f)
theorem ce.stay(x:ce P w H h a o)(k:∀b u,(b=a\/H b=some (.own a))->h.get? b=some u->h'.get? b=some u)
 (ho:∀b,H b=some (.own a)->H' b=some (.own a))(ht:∀b xs,H b=some (.tup xs)->H' b=some (.tup xs)):ce P w H' h' a o:=by
 induction o with
 | lst xs=>obtain⟨z,its,n,r,e⟩:=x;exact⟨z,its,n,r,k _ _ (.inl rfl) e⟩
 | tup xs=>obtain⟨z,its,r,ob,e,c⟩:=x;exact⟨z,its,r,ob,k _ _ (.inl rfl) e,c⟩
 | dK kvs=>obtain⟨z,y,vs,r,ob,es,ep,e,c⟩:=x;exact⟨z,y,vs,r,ob,es,ep,k _ _ (.inl rfl) e,c⟩
 | dT kvs =>
   obtain⟨z,y,xs,r,ob,es,ep,e,c⟩:=x
   exact⟨z,y,xs,E8.mapP r fun p q z=>⟨z.1,ht _ _ z.2.1,z.2.2⟩,ob,es,ep,k _ _ (.inl rfl) e,c⟩
 | set S n=>obtain⟨ob,es,ep,t,e,c⟩:=x;exact⟨ob,es,ep,t,k _ _ (.inl rfl) e,c⟩
 | ins C dx fs =>
   obtain⟨d,z,ne,e,mA,⟨od,es,ep,e2,c⟩,r⟩:=x
   exact⟨ho _ d,z,ne,k _ _ (.inl rfl) e,mA,⟨od,es,ep,k _ _ (.inr d) e2,c⟩,r⟩
 | own y=>obtain⟨ob,e⟩:=x;exact⟨ob,k _ _ (.inl rfl) e⟩
 | xd fs=>obtain⟨mA,⟨od,es,ep,e,c⟩,r⟩:=x;exact⟨mA,⟨od,es,ep,k _ _ (.inl rfl) e,c⟩,r⟩
 | rng lo hi=>obtain⟨t,u,v,e⟩:=x;exact⟨t,u,v,k _ _ (.inl rfl) e⟩
 | frz ob u ih=>obtain⟨e,q⟩:=x;exact⟨k _ _ (.inl rfl) e,ih q⟩
 | tbl ps =>
   have e:h.get? a=some {cls:=.none,data:=.fields ps}:=x;show h'.get? a=some {cls:=.none,data:=.fields ps}
   exact k a _ (.inl rfl) e
 | met f y =>
   have e:h.get? a=some (W.methodObj (.ref f) (.ref y)):=x;show h'.get? a=some (W.methodObj (.ref f) (.ref y))
   exact k a _ (.inl rfl) e
 | ext φ=>obtain⟨p,⟨o,e⟩,st⟩:=x;exact⟨st _ _ p fun o q=>k _ _ (.inl rfl) q,⟨o,k _ _ (.inl rfl) e⟩,st⟩
theorem Dx.lt(x:Dx P w H h)(e:H a=some o):a<h.objs.size:=(x a o e).lt
theorem Dx.fresh(x:Dx P w H h)(e:h.objs.size<=a):H a=none:=by
 cases q:H a with
 | none=>rfl
 | some u=>exact absurd (DR (x.lt q) e) (E_ _)
theorem Dx.kept(x:Dx P w H h)(k:∀b u,h.get? b=some u->h'.get? b=some u):Dx P w H h':=fun a o e =>
 (x a o e).stay (fun b u _ q=>k b u q) (fun _ q=>q) fun _ _ q=>q
theorem Dx.laid(x:Dx P w H h)(k:∀b u,h.get? b=some u->h'.get? b=some u)(hp:h.objs.size<=a)(new:ce P w (Bt H a o) h' a o):Dx P w (Bt H a o) h':=fun b u e=>by
 have hn:=x.fresh hp;by_cases hb:b=a
 · subst hb;rw[al]at e;cases e;exact new
 · rw[ai hb]at e;exact(x b u e).stay (fun c v _ q=>k c v q) (fun c q=>by rw[ai (aH q hn)];exact q) fun c xs q=>by rw[ai (aH q hn)];exact q
end
noncomputable def Rd(H:Hp)(a:Addr)(u:HO):Prop:=H a=some u\/∃o,H a=some (.frz o u)
theorem Rd.ok{H:Hp}{u:HO}(r:Rd H a u)(x:Dx P w H h):ce P w H h a u:=by
 rcases r with r|⟨o,r⟩
 · exact x a u r
 · obtain⟨_,q⟩:=x a _ r;exact q
noncomputable def Df:Option HO->Prop
 | some (.lst _)=>True
 | some (.dK _)=>True
 | some (.dT _)=>True
 | some (.set _ _)=>True
 | some (.ins _ _ _)=>True
 | some (.ext _)=>True
 | _=>False
section
variable{P:Ef}{w:EM}{H:Hp}{h h':Heap}{x e:Addr}{o':HO}
theorem Dx.write(ok:Dx P w H h)(mu:Df (H x))(he:e=x\/H e=some (.own x))(k:∀b u,b≠e->h.get? b=some u->h'.get? b=some u)(heo:∃u,h'.get? e=some u)
 (new:ce P w (Bt H x o') h' x o'):Dx P w (Bt H x o') h':=fun b u q=>by
 have nown:∀c y,H c=some (.own y)->c≠x:=fun c y r z=>by subst z;rw[r]at mu;exact mu
 have ntup:∀c xs,H c=some (.tup xs)->c≠x:=fun c xs r z=>by subst z;rw[r]at mu;exact mu
 by_cases hb:b=x
 · subst hb;rw[al]at q;cases q;exact new
 · rw[ai hb]at q;by_cases hbe:b=e
   · have q':H b=some (.own x):=by
       rcases he with z|z
       · exact absurd (hbe.trans z) hb
       · rw[hbe];exact z
     rw[q]at q';cases q';obtain⟨v,hv⟩:=heo;exact⟨v,by rw[hbe];exact hv⟩
   · refine(ok b u q).stay (fun c v hc r=>k c v ?_ r) (fun c r=>by rw[ai (nown c b r)];exact r) fun c xs r=>by rw[ai (ntup c xs r)];exact r
     rcases hc with rfl|hc
     · exact hbe
     · rintro rfl;rcases he with z|z
       · exact nown c b hc z
       · rw[hc]at z;cases z;exact hb rfl
end
structure Un (fs ex:List Addr) (H H':Hp) (h h':Heap):Prop where
 keep:∀b o,h.get? b=some o->H b=none->b∉fs->b∉ex->h'.get? b=some o
 slot:∀b o,h.get? b=some o->H b=none->b∈fs->b∉ex->∃sl,h'.get? b=some {o with slots:=sl}
 free:∀b o,h.get? b=some o->H b=none->b∉ex->H' b=none
 there:∀b o,h.get? b=some o->b∉ex->∃o',h'.get? b=some o'
 tups:∀b xs,H b=some (.tup xs)->H' b=some (.tup xs)
 frzs:∀b o u,H b=some (.frz o u)->H' b=some (.frz o u)
 tbls:∀b ps,H b=some (.tbl ps)->∃more,H' b=some (.tbl (ps++more))
section
variable{fs fs' ex ex':List Addr}{H H1 H2:Hp}{h h1 h2 h':Heap}{a x e:Addr}{o:HO}
theorem Un.any(u:Un fs ex H H1 h h1){ob:Obj}(q:h.get? b=some ob)(n:H b=none)(hx:b∉ex):∃sl,h1.get? b=some {ob with slots:=sl}:=by
 by_cases hb:b∈fs
 · exact u.slot b ob q n hb hx
 · exact⟨ob.slots,u.keep b ob q n hb hx⟩
theorem Un.kept(k:∀b u,h.get? b=some u->h'.get? b=some u):Un fs ex H H h h' :=
 ⟨fun b ob q _ _ _=>k b ob q,fun b ob q _ _ _=>⟨ob.slots,k b ob q⟩,fun _ _ _ n _=>n,fun b ob q _=>⟨ob,k b ob q⟩,fun _ _ q=>q,fun _ _ _ q=>q,fun _ ps q=>⟨#[],by rw[q];simp⟩⟩
theorem Un.refl:Un fs ex H H h h:=Un.kept fun _ _ q=>q
theorem Un.laid(k:∀b u,h.get? b=some u->h'.get? b=some u)(hp:h.objs.size<=a)(hn:H a=none):Un fs ex H (Bt H a o) h h' where
 keep:=fun b u q _ _ _=>k b u q
 slot:=fun b u q _ _ _=>⟨u.slots,k b u q⟩
 free:=fun b u q n _=>by rw[ai (EB (DR (DV q) hp))];exact n
 there:=fun b u q _=>⟨u,k b u q⟩
 tups:=fun b xs q=>by rw[ai (aH q hn)];exact q
 frzs:=fun b u xs q=>by rw[ai (aH q hn)];exact q
 tbls:=fun b ps q=>⟨#[],by rw[ai (aH q hn),q];simp⟩
theorem Un.write(mu:Df (H x))(he:e=x\/H e=some (.own x))(k:∀b u,b≠e->h.get? b=some u->h'.get? b=some u)(heo:∃u,h'.get? e=some u):Un fs ex H (Bt H x o) h h':=by
 have hx:∀b,H b=none->b≠x:=fun b n z=>by subst z;rw[n]at mu;exact mu
 have hb:∀b,H b=none->b≠e:=fun b n z=>by
  subst z;rcases he with r|r
  · exact hx b n r
  · rw[n]at r;cases r
 have hm:∀b u,H b=some u->¬Df (some u)->b≠x:=fun b u q nm z=>by subst z;rw[q]at mu;exact nm mu
 refine⟨fun b u q n _ _=>k b u (hb b n) q,fun b u q n _ _=>⟨u.slots,k b u (hb b n) q⟩,fun b u q n _=>by rw[ai (hx b n)];exact n,fun b u q _=>?_,
  fun b xs q=>by rw[ai (hm b _ q fun z=>z)];exact q,fun b u xs q=>by rw[ai (hm b _ q fun z=>z)];exact q,fun b ps q=>⟨#[],by rw[ai (hm b _ q fun z=>z),q];simp⟩⟩
 by_cases hbe:b=e
 · subst hbe;exact heo
 · exact⟨u,k b u hbe q⟩
end
noncomputable def BA(h:Heap)(H:Hp):List Addr:=(D8 h.objs.size).filter fun a=>(H a).isSome
noncomputable def pq(h:Heap)(H:Hp):Heap:=W.hideAll h (BA h H)
theorem mW(h:Heap)(H:Hp):(pq h H).objs.size=h.objs.size:=W.hideAll_size _ _
theorem po{H:Hp}{o:Obj}(e:h.get? b=some o)(n:H b=none):(pq h H).get? b=some o :=
 W.hideAll_get _ e fun hm=>by
  have q:(H b).isSome=true:=(List.mem_filter.mp hm).2;rw[n]at q;simp at q
theorem sO{H:Hp}{o:Obj}(e:(pq h H).get? b=some o):h.get? b=some o/\H b=none:=by
 have e':h.get? b=some o:=W.of_hideAll (BA h H) e;refine⟨e',?_⟩
 cases q:H b with
 | none=>rfl
 | some x =>
   have hm:b∈BA h H:=List.mem_filter.mpr ⟨Fg.mpr (DV e'),by simp[q]⟩;have z:(pq h H).get? b=none:=W.hideAll_none (BA h H) hm;rw[z]at e;cases e
noncomputable def tR(g h:Heap)(L:Addr):List (Addr×Obj):=(D8 h.objs.size).filterMap fun a=>if a=L\/(g.get? a).isSome=true then none else(h.get? a).map fun o=>(a,o)
noncomputable def rest(g h:Heap)(L d:Addr):List (Addr×Obj):=(tR g h L).filter fun p=>decide (p.1≠d)
structure Mod (K:W.Frag) (mg:Str->Option DJ) (base:Heap):Prop where
 kin:K.In base
 glob:base.Ns EJ mg
 blt:∃mb,base.Ns builtinsNs mb/\∀x:Str,x ≠ "__name__" -> mb x=Hl x
 nolimit:base.NoLimit
structure Cx where
 prog:Ef
 w:EM
 K:W.Frag
 mg:Str->Option DJ
 base:Heap
 A:ES
 N:List Str
 s₀:DM
 H₀:Hp
 env:Env
 outer:List Env
 stack:List Env
 ex:List Addr
 fn:Str->Bool
 calm:Bool
 pn:List (Addr×Obj)
 xe:DJ->DM->Prop
noncomputable def frs(l:List Env):List Addr:=l.filterMap (·.frame)
abbrev Cx.fs(X:Cx):List Addr:=frs X.outer
noncomputable def CF(sc:Scope)(x:Str):Prop:=sc.names.lookup x=some .local\/sc.names.lookup x=some .cell\/sc.names.lookup x=some .free
noncomputable def Loc(sc:Scope)(x:Str):Prop:=sc.names.lookup x=some .local\/sc.names.lookup x=some .cell
noncomputable def Look(env:Env)(h:Heap)(m:Str->Option DJ)(x:Str)(u:DJ):Prop :=
 (env.kindOf x=some .local/\m x=some u)\/((env.kindOf x=some .cell\/env.kindOf x=some .free)/\∃c,env.cells.lookup x=some c/\h.IsCell c (some u))
structure Cx.Ok (X:Cx):Prop where
 mod:Mod X.K X.mg X.base
 kind:X.env.scope.kind = .function
 glob:X.env.globals=EJ
 blt:X.env.builtins=builtinsNs
 above:X.s₀.heap.objs.size<=X.env.locals
 inj:∀x y c,X.env.cells.lookup x=some c->X.env.cells.lookup y=some c->x=y
 has:∀x,(X.env.kindOf x=some .cell\/X.env.kindOf x=some .free)->∃c,X.env.cells.lookup x=some c
 cab:∀x c,X.fn x=true->X.env.cells.lookup x=some c->X.s₀.heap.objs.size<=c
 hd:X.calm=true->X.A.handled=none
 frames:X.A.frames=some X.stack
 stk:X.stack=X.outer\/(X.stack=X.env::X.outer/\X.env.frame=some X.env.locals)
 exf:∀b∈X.ex,b≠X.env.locals/\∀x c,X.env.cells.lookup x=some c->c≠b
 bs:∀b o,X.base.get? b=some o->X.s₀.heap.get? b=some o/\X.H₀ b=none
 bsz:X.base.objs.size<=X.s₀.heap.objs.size
 noex:∀b o,X.base.get? b=some o->b∉X.ex
 exfs:∀b∈X.ex,b∉X.fs
 funs:X.s₀.heap.FunFrames X.base X.outer
 frf:∀b∈X.fs,X.H₀ b=none
structure Inv (X:Cx) (pins:List (Addr×Obj)) (σ:List (Option V)) (H:Hp) (s:DM):Prop where
 ok:X.Ok
 os:s.os=X.s₀.os
 bare:Ku s.gens
 base:Un X.fs X.ex X.H₀ H X.s₀.heap s.heap
 loc:∃m,s.heap.Ns X.env.locals m/\∀(i:Nat)(x:Str)(v:V),X.N[i]?=some x->σ[i]?=some (some v)->CF X.env.scope x->∃u,RelV v u/\Look X.env s.heap m x u
 cell:∀x c,X.env.cells.lookup x=some c->∃v,s.heap.IsCell c v
 free:H X.env.locals=none
 freeC:∀x c,X.env.cells.lookup x=some c->H c=none
 pin:∀p∈X.pn++pins,s.heap.get? p.1=some p.2/\H p.1=none/\p.1≠X.env.locals/\p.1∉X.fs/\∀v,p.2.data ≠ .cell v
 hok:Dx X.prog X.w H s.heap
 len:σ.length=X.N.length
section
variable{X:Cx}{pins:List (Addr×Obj)}{σ:List (Option V)}{H H':Hp}{s:DM}{h':Heap}
theorem Cx.Ok.nofr(ok:X.Ok){o:Obj}(e:X.base.get? b=some o):b∉X.fs:=fun hb=>by
 have:=(ok.funs.mem hb).1;rw[e]at this;cases this
theorem Inv.bs(I:Inv X pins σ H s):∀b o,X.base.get? b=some o->s.heap.get? b=some o/\H b=none:=fun b o e =>
 ⟨I.base.keep b o (I.ok.bs b o e).1 (I.ok.bs b o e).2 (I.ok.nofr e) (I.ok.noex b o e),I.base.free b o (I.ok.bs b o e).1 (I.ok.bs b o e).2 (I.ok.noex b o e)⟩
theorem Inv.bk(I:Inv X pins σ H s):∀b o,X.base.get? b=some o->s.heap.get? b=some o:=fun b o e=>(I.bs b o e).1
theorem Inv.mod(I:Inv X pins σ H s):Mod X.K X.mg X.base:=I.ok.mod
theorem Inv.kIn(I:Inv X pins σ H s):X.K.In s.heap:=I.ok.mod.kin.keeps I.bk
theorem Inv.lt(I:Inv X pins σ H s):X.env.locals<s.heap.objs.size:=let ⟨_,hn,_⟩:=I.loc;hn.lt
theorem Inv.sz(I:Inv X pins σ H s):X.s₀.heap.objs.size<=s.heap.objs.size:=EC I.ok.above (JW I.lt)
theorem Inv.nofs(I:Inv X pins σ H s)(h:s.heap.objs.size<=a):a∉X.fs:=fun hb=>by
 obtain⟨_,o,ho,_⟩:=I.ok.funs.mem hb;exact absurd (DR (DV ho) (EC I.sz h)) (E_ _)
theorem Inv.cne(I:Inv X pins σ H s):∀x c,X.env.cells.lookup x=some c->c≠X.env.locals:=fun x c e z=>by
 obtain⟨v,o,ho,hd⟩:=I.cell x c e;obtain⟨m,⟨o',es,ep,ho',hd',_⟩,_⟩:=I.loc;rw[z,ho']at ho;cases ho;rw[hd']at hd;cases hd
theorem Inv.funs(I:Inv X pins σ H s):s.heap.FunFrames X.base X.outer:=by
 have all:∀(l:List Env),(∀b∈frs l,b∈X.fs)->X.s₀.heap.FunFrames X.base l->s.heap.FunFrames X.base l:=by
  intro l
  induction l with
  | nil=>intro _ _;trivial
  | cons env r ih =>
    intro hs hl;obtain⟨hk,⟨L,o,hf,hn,ho,hd⟩,hr⟩:=hl;have hL:L∈X.fs:=hs L (by unfold frs;rw[GN,hf];exact DS);obtain⟨sl,e⟩:=I.base.slot L o ho (I.ok.frf L hL) hL fun z=>I.ok.exfs L z hL;exact⟨hk,⟨L,_,hf,hn,e,hd⟩,ih (fun b hb=>hs b (by unfold frs;rw[GN,hf];exact DL _ hb)) hr⟩
 exact all X.outer (fun _ hb=>hb) I.ok.funs
theorem Inv.stack(I:Inv X pins σ H s):s.heap.FunFrames X.base X.stack:=by
 rcases I.ok.stk with e|⟨e,hf⟩
 · rw[e];exact I.funs
 · rw[e];obtain⟨m,hn,_⟩:=I.loc;refine .cons (by rw[I.ok.kind];decide) hf hn ?_ I.funs;exact Heap.get?_none_of_le (EC I.ok.bsz I.ok.above)
theorem Inv.stkSub(I:Inv X pins σ H s):∀b∈frs X.stack,b∈X.env.locals::X.fs:=fun b hb=>by
 rcases I.ok.stk with e|⟨e,hf⟩
 · rw[e]at hb;exact DL _ hb
 · rw[e]at hb;unfold frs at hb;rw[GN,hf]at hb;exact hb
theorem Inv.stkFree(I:Inv X pins σ H s):∀b∈frs X.stack,H b=none:=fun b hb=>by
 rcases EO.mp (I.stkSub b hb)with e|hb
 · rw[e];exact I.free
 · obtain⟨_,o,ho,_⟩:=I.ok.funs.mem hb;exact I.base.free b o ho (I.ok.frf b hb) fun z=>I.ok.exfs b z hb
theorem Inv.step{g':Array GenState}{d':Drawn}{ch:List Addr}(I:Inv X pins σ H s)
 (hch:∀b∈ch,(b∈X.ex\/X.s₀.heap.objs.size<=b)/\b≠X.env.locals/\(∀x c,X.env.cells.lookup x=some c->c≠b)/\∀p∈X.pn++pins,p.1≠b)
 (keep:∀b o,b≠X.env.locals->b∉X.fs->b∉ch->s.heap.get? b=some o->H b=none->h'.get? b=some o)
 (slot:∀b o,b≠X.env.locals->b∈X.fs->b∉ch->s.heap.get? b=some o->H b=none->∃sl,h'.get? b=some {o with slots:=sl})(free:∀b o,b∉ch->s.heap.get? b=some o->H b=none->H' b=none)
 (there:∀b o,b∉ch->s.heap.get? b=some o->∃o',h'.get? b=some o')
 (tups:∀b xs,H b=some (.tup xs)->H' b=some (.tup xs))(frzs:∀b o u,H b=some (.frz o u)->H' b=some (.frz o u))(tbls:∀b ps,H b=some (.tbl ps)->∃more,H' b=some (.tbl (ps++more)))
 (ns:∀m,s.heap.Ns X.env.locals m->h'.Ns X.env.locals m)(hok:Dx X.prog X.w H' h')(hg:Ku g') :
 Inv X pins σ H' {s with heap:=h',gens:=g',drawn:=d',toks:=t' }:=by
 have neL:∀b o,X.s₀.heap.get? b=some o->b≠X.env.locals:=fun b o e=>EB (DR (DV e) I.ok.above)
 have neC:∀b o,X.s₀.heap.get? b=some o->b∉X.ex->b∉ch:=fun b o e hx hb=>by
  rcases(hch b hb).1 with z|z
  · exact hx z
  · exact absurd (DR (DV e) z) (E_ _)
 have cellK:∀x c,X.env.cells.lookup x=some c->∀v,s.heap.IsCell c v->h'.IsCell c v:=fun x c e v ⟨o,ho,hd⟩=>by
  have nch:c∉ch:=fun z=>(hch c z).2.2.1 x c e rfl;by_cases hc:c∈X.fs
  · obtain⟨sl,q⟩:=slot c o (I.cne x c e) hc nch ho (I.freeC x c e);exact⟨_,q,hd⟩
  · exact⟨o,keep c o (I.cne x c e) hc nch ho (I.freeC x c e),hd⟩
 refine⟨I.ok,I.os,hg,⟨fun b o e n hb hx=>?_,fun b o e n hb hx=>?_,fun b o e n hx=>?_,fun b o e hx=>?_,fun b xs e=>tups b xs (I.base.tups b xs e),fun b o xs e=>frzs b o xs (I.base.frzs b o xs e),fun b ps e=>?_⟩,?_,fun x c e=>?_,?_,fun x c e=>?_,fun p hp=>?_,hok,I.len⟩
 · exact keep b o (neL b o e) hb (neC b o e hx) (I.base.keep b o e n hb hx) (I.base.free b o e n hx)
 · obtain⟨sl,e1⟩:=I.base.slot b o e n hb hx;obtain⟨sl',e2⟩:=slot b _ (neL b o e) hb (neC b o e hx) e1 (I.base.free b o e n hx);exact⟨sl',e2⟩
 · obtain⟨o',e1⟩:=I.base.there b o e hx;exact free b o' (neC b o e hx) e1 (I.base.free b o e n hx)
 · obtain⟨o',e1⟩:=I.base.there b o e hx;exact there b o' (neC b o e hx) e1
 · obtain⟨m1,e1⟩:=I.base.tbls b ps e;obtain⟨m2,e2⟩:=tbls b _ e1;exact⟨m1++m2,by rw[e2,Array.append_assoc]⟩
 · obtain⟨m,hn,hl⟩:=I.loc;refine⟨m,ns m hn,fun i x v e1 e2 e3=>?_⟩;obtain⟨u,r,l⟩:=hl i x v e1 e2 e3;refine⟨u,r,?_⟩;rcases l with l|⟨k,c,e,z⟩
   · exact .inl l
   · exact .inr ⟨k,c,e,cellK x c e _ z⟩
 · obtain⟨v,z⟩:=I.cell x c e;exact⟨v,cellK x c e v z⟩
 · obtain⟨m,⟨o,_,_,ho,_⟩,_⟩:=I.loc;exact free _ o (fun z=>(hch _ z).2.1 rfl) ho I.free
 · obtain⟨v,o,ho,hd⟩:=I.cell x c e;exact free c o (fun z=>(hch c z).2.2.1 x c e rfl) ho (I.freeC x c e)
 · obtain⟨e,n,ne,nf,d⟩:=I.pin p hp;have nch:p.1∉ch:=fun z=>(hch p.1 z).2.2.2 p hp rfl;exact⟨keep p.1 p.2 ne nf nch e n,free p.1 p.2 nch e n,ne,nf,d⟩
theorem Inv.un(I:Inv X pins σ H s)(u:Un X.fs [] H H' s.heap h')(hok:Dx X.prog X.w H' h'):Inv X pins σ H' {s with heap:=h',toks:=t' }:=by
 obtain⟨m,⟨o,es,ep,ho,r⟩,_⟩:=id I.loc;obtain⟨sl,hL⟩:=u.any ho I.free (by simp)
 exact I.step (g':=s.gens) (d':=s.drawn) (ch:=[]) (fun _ z=>nomatch z) (fun b o _ hb _ e n=>u.keep b o e n hb (by simp)) (fun b o _ hb _ e n=>u.slot b o e n hb (by simp)) (fun b o _ e n=>u.free b o e n (by simp)) (fun b o _ e=>u.there b o e (by simp)) u.tups u.frzs u.tbls (fun m' hm=>by
  obtain⟨o',es',ep',ho',r'⟩:=hm;rw[ho]at ho';cases ho'
  exact⟨_,es',ep',hL,r'⟩) hok I.bare
theorem Inv.call{g':Array GenState}{d':Drawn}{ch:List Addr}(I:Inv X pins σ H s)(u:Un (frs X.stack) ch H H' s.heap h')(hok:Dx X.prog X.w H' h')(hg:Ku g')
 (hch:∀b∈ch,(b∈X.ex\/X.s₀.heap.objs.size<=b)/\b≠X.env.locals/\(∀x c,X.env.cells.lookup x=some c->c≠b)/\∀p∈X.pn++pins,p.1≠b) :
 Inv X pins σ H' {s with heap:=h',gens:=g',drawn:=d',toks:=t' }:=by
 obtain⟨m,⟨o,es,ep,ho,r⟩,_⟩:=id I.loc;obtain⟨sl,hL⟩:=u.any ho I.free fun z=>(hch _ z).2.1 rfl
 exact I.step (ch:=ch) hch (fun b o hL hb hc e n=>u.keep b o e n (fun z=>(EO.mp (I.stkSub b z)).elim hL hb) hc) (fun b o _ _ hc e n=>u.any e n hc) (fun b o hc e n=>u.free b o e n hc) (fun b o hc e=>u.there b o e hc) u.tups u.frzs u.tbls (fun m' hm=>by
  obtain⟨o',es',ep',ho',r'⟩:=hm;rw[ho]at ho';cases ho'
  exact⟨_,es',ep',hL,r'⟩) hok hg
theorem Inv.turned(I:Inv X pins σ H s)(k:∀b o,b≠it->s.heap.get? b=some o->h'.get? b=some o)(hn:H it=none)(hL:it≠X.env.locals)
 (h1:it∈X.ex\/X.s₀.heap.objs.size<=it)(h2:∀x c,X.env.cells.lookup x=some c->c≠it)(h3:∀p∈X.pn++pins,p.1≠it):Inv X pins σ H {s with heap:=h',toks:=t' }:=by
 have nit:∀b u,H b=some u->b≠it:=fun b u e z=>by rw[z,hn]at e;cases e
 refine I.step (g':=s.gens) (d':=s.drawn) (ch:=[it]) (fun b hb=>?_) (fun b o _ _ hc e _=>k b o (fun z=>hc (by simp[z])) e) (fun b o _ _ hc e _=>⟨o.slots,k b o (fun z=>hc (by simp[z])) e⟩) (fun _ _ _ _ n=>n)
  (fun b o hc e=>⟨o,k b o (fun z=>hc (by simp[z])) e⟩) (fun _ _ e=>e) (fun _ _ _ e=>e) (fun b ps e=>⟨#[],by rw[e];simp⟩) (fun m hm=>?_) (fun b u e=>?_) I.bare
 · have e:b=it:=by simpa using hb
   subst e;exact⟨h1,hL,h2,h3⟩
 · obtain⟨o,es,ep,ho,r⟩:=hm;exact⟨o,es,ep,k _ o (Im hL) ho,r⟩
 · refine(I.hok b u e).stay (fun c v hc q=>k c v ?_ q) (fun _ q=>q) fun _ _ q=>q;rcases hc with z|z
   · rw[z];exact nit b u e
   · exact nit c _ z
theorem Inv.tok(I:Inv X pins σ H s)(t:Nat):Inv X pins σ H {s with toks:=t}:=I.un (h':=s.heap) (t':=t) Un.refl I.hok
theorem Inv.kept{t':Nat}(I:Inv X pins σ H s)(k:∀b u,s.heap.get? b=some u->h'.get? b=some u):Inv X pins σ H {s with heap:=h',toks:=t' }:=I.un (Un.kept k) (I.hok.kept k)
theorem Inv.laid{a:Addr}{o:HO}{t':Nat}(I:Inv X pins σ H s)(k:∀b u,s.heap.get? b=some u->h'.get? b=some u)(hp:s.heap.objs.size<=a)(new:ce X.prog X.w (Bt H a o) h' a o) :
 Inv X pins σ (Bt H a o) {s with heap:=h',toks:=t' }:=I.un (Un.laid k hp (I.hok.fresh hp)) (I.hok.laid k hp new)
theorem Inv.write{x e:Addr}{o:HO}{t':Nat}(I:Inv X pins σ H s)(mu:Df (H x))(he:e=x\/H e=some (.own x))(k:∀b u,b≠e->s.heap.get? b=some u->h'.get? b=some u)(heo:∃u,h'.get? e=some u)
 (new:ce X.prog X.w (Bt H x o) h' x o):Inv X pins σ (Bt H x o) {s with heap:=h',toks:=t' }:=I.un (Un.write mu he k heo) (I.hok.write mu he k heo new)
theorem Inv.pins_of{pins':List (Addr×Obj)}(I:Inv X pins σ H s)(h:∀p∈pins',s.heap.get? p.1=some p.2/\H p.1=none/\p.1≠X.env.locals/\p.1∉X.fs/\∀v,p.2.data ≠ .cell v):Inv X pins' σ H s :=
 ⟨I.ok,I.os,I.bare,I.base,I.loc,I.cell,I.free,I.freeC,fun p hp=>(EW.mp hp).elim (fun z=>I.pin p (Ki _ z)) (h p),I.hok,I.len⟩
theorem jJ(hN:N.Nodup)(a:N[i]?=some x)(b:N[j]?=some x):i=j:=by
 obtain⟨h1,e1⟩:=Ec.mp a;obtain⟨h2,e2⟩:=Ec.mp b;exact(List.getElem_inj hN).mp (e1.trans e2.symm)
theorem gZ{M:Model}{E:DJ->DM->Prop}{v:V}{Q:Unit->DM->Prop}(I:Inv X pins σ H s)(hN:X.N.Nodup)(hi:X.N[i]?=some x)(hx:Loc X.env.scope x)(r:RelV v u)
 (h:∀s',Inv X pins (σ.set i (some v)) H s'->(∃a,FJ a s.heap s'.heap/\(a=X.env.locals\/X.env.cells.lookup x=some a))->Q () s')(hf:autoParam (X.fn x=true\/X.env.scope.names.lookup x=some .local) æg._auto_1):Eb M A (storeName X.env x u) Q E s:=by
 obtain⟨m,hn,hl⟩:=id I.loc;have hcls:(X.env.scope.kind == .class||(X.env.scope.kind == .module&&X.env.locals != X.env.globals))=false:=by rw[I.ok.kind];rfl
 have hiσ:i<σ.length:=by rw[I.len];exact(Ec.mp hi).1
 have cne:=I.cne
 have tracked:∀{a:Addr}{h':Heap},(∃o,s.heap.get? a=some o/\H a=none)->FJ a s.heap h'->Dx X.prog X.w H h':=fun{a h'} ha hs b ob e=>by
  obtain⟨_,_,hfree⟩:=ha;refine(I.hok b ob e).stay (fun c w' hc q=>(hs.2 c ?_).trans q) (fun _ q=>q) fun _ _ q=>q;rintro rfl;rcases hc with rfl|hc
  · rw[hfree]at e;cases e
  · rw[hfree]at hc;cases hc
 rcases hx with hk|hk
 · refine wpAny_storeName_local hk hn (fun h' hn' hs=>?_) hcls;obtain⟨oL,_,_,hoL,_⟩:=id hn;refine h _ ⟨I.ok,I.os,I.bare,⟨fun b o e n hb hx=>?_,fun b o e n hb hx=>?_,I.base.free,fun b o e hx=>?_,I.base.tups,I.base.frzs,I.base.tbls⟩,⟨_,hn',fun j y v' e1 e2 e3=>?_⟩,fun y c e=>?_,I.free,I.freeC,fun p hp=>?_,tracked ⟨oL,hoL,I.free⟩ hs,by simpa using I.len⟩ ⟨_,hs,.inl rfl⟩
   · exact(hs.2 b (EB (DR (DV e) I.ok.above))).trans (I.base.keep b o e n hb hx)
   · obtain⟨sl,e1⟩:=I.base.slot b o e n hb hx;exact⟨sl,(hs.2 b (EB (DR (DV e) I.ok.above))).trans e1⟩
   · obtain⟨o',e1⟩:=I.base.there b o e hx;exact⟨o',(hs.2 b (EB (DR (DV e) I.ok.above))).trans e1⟩
   · by_cases hj:j=i
     · subst hj;rw[hi]at e1;cases e1;rw[Eg hiσ]at e2;cases e2;exact⟨u,r,.inl ⟨hk,by simp⟩⟩
     · rw[Ee (Im hj)]at e2;obtain⟨u',r',q⟩:=hl j y v' e1 e2 e3;refine⟨u',r',?_⟩;rcases q with⟨k,e⟩|⟨k,c,e,z⟩
       · refine .inl ⟨k,?_⟩;have:y≠x:=fun e=>hj (jJ hN e1 (e▸hi));simp[this,e]
       · exact .inr ⟨k,c,e,z.sameBut hs (cne y c e)⟩
   · obtain⟨w',z⟩:=I.cell y c e;exact⟨w',z.sameBut hs (cne y c e)⟩
   · obtain⟨e,n,ne,nf,d⟩:=I.pin p hp;exact⟨(hs.2 p.1 ne).trans e,n,ne,nf,d⟩
 · have hfn:X.fn x=true:=by
     rcases hf with z|z
     · exact z
     · rw[z]at hk;cases hk
   obtain⟨c,hc⟩:=I.ok.has x (.inl hk);obtain⟨w',z⟩:=I.cell x c hc;refine wpAny_storeName_cell I.ok.kind hk hc z (fun h' hc' hs=>?_);obtain⟨oc,hoc,hocd⟩:=id z;refine h {s with heap:=h' } ⟨I.ok,I.os,I.bare,⟨fun b o e n hb hx=>?_,fun b o e n hb hx=>?_,I.base.free,fun b o e hx=>?_,I.base.tups,I.base.frzs,I.base.tbls⟩,⟨m,hn.sameBut hs (Im (cne x c hc)),fun j y v' e1 e2 e3=>?_⟩,fun y c' e=>?_,I.free,I.freeC,fun p hp=>?_,tracked ⟨oc,hoc,I.freeC x c hc⟩ hs,by simpa using I.len⟩ ⟨c,hs,.inr hc⟩
   · exact(hs.2 b (EB (DR (DV e) (I.ok.cab x c hfn hc)))).trans (I.base.keep b o e n hb hx)
   · obtain⟨sl,e1⟩:=I.base.slot b o e n hb hx;exact⟨sl,(hs.2 b (EB (DR (DV e) (I.ok.cab x c hfn hc)))).trans e1⟩
   · obtain⟨o',e1⟩:=I.base.there b o e hx;exact⟨o',(hs.2 b (EB (DR (DV e) (I.ok.cab x c hfn hc)))).trans e1⟩
   · by_cases hj:j=i
     · subst hj;rw[hi]at e1;cases e1;rw[Eg hiσ]at e2;cases e2;exact⟨u,r,.inr ⟨.inl hk,c,hc,hc'⟩⟩
     · rw[Ee (Im hj)]at e2;obtain⟨u',r',q⟩:=hl j y v' e1 e2 e3;refine⟨u',r',?_⟩;rcases q with q|⟨k,c',e,z'⟩
       · exact .inl q
       · refine .inr ⟨k,c',e,z'.sameBut hs ?_⟩;rintro rfl;exact hj (jJ hN e1 (I.ok.inj _ _ _ e hc▸hi))
   · by_cases hcc:c'=c
     · subst hcc;exact⟨_,hc'⟩
     · obtain⟨w2,z2⟩:=I.cell y c' e;exact⟨w2,z2.sameBut hs hcc⟩
   · obtain⟨e,n,ne,nf,d⟩:=I.pin p hp;refine⟨(hs.2 p.1 ?_).trans e,n,ne,nf,d⟩;intro q;rw[q,hoc]at e;have q':oc=p.2:=Eu e;exact d w' (by rw[<- q'];exact hocd)
theorem bS{M:Model}{E:DJ->DM->Prop}{v:V}{Q:Unit->DM->Prop}(I:Inv X pins σ H s)(hN:X.N.Nodup)(hi:X.N[i]?=some x)(hx:Loc X.env.scope x)(r:RelV v u)
 (h:∀s',Inv X pins (σ.set i (some v)) H s'->Q () s')(hf:autoParam (X.fn x=true\/X.env.scope.names.lookup x=some .local) æg._auto_1):Eb M A (storeName X.env x u) Q E s :=
 gZ I hN hi hx r (fun s' I' _=>h s' I') hf
end
abbrev XK:=DJ->Option Addr->Hp->Prop
abbrev St:=List (Option V)
abbrev VK:=V->Hp->Prop
abbrev TE:=St->Hp->VK->Prop
abbrev TT:=St->Hp->(Bool->Hp->Prop)->Prop
abbrev TA:=St->Hp->(List V->Hp->Prop)->Prop
structure Ends where
 nx:St->Hp->Prop
 rt:VK
 bk:St->Hp->Prop:=fun _ _=>False
 ct:St->Hp->Prop:=fun _ _=>False
abbrev TS:=Ends->St->Hp->Prop
noncomputable def EP(X:Cx)(pins:List (Addr×Obj))(σ:St)(Q:VK)(u:DJ)(s':DM):Prop:=∃v H',Inv X pins σ H' s'/\RelV v u/\Q v H'
noncomputable def TP(X:Cx)(pins:List (Addr×Obj))(σ:St)(Q:Bool->Hp->Prop)(b:Bool)(s':DM):Prop:=∃H',Inv X pins σ H' s'/\Q b H'
noncomputable def AP(X:Cx)(pins:List (Addr×Obj))(σ:St)(Q:List V->Hp->Prop)(us:List DJ)(s':DM):Prop:=∃vs H',Inv X pins σ H' s'/\bP vs us/\Q vs H'
noncomputable def SP(X:Cx)(pins:List (Addr×Obj))(D:Ends)(f:Flow)(s':DM):Prop :=
 match f with
 | .next=>∃σ' H',Inv X pins σ' H' s'/\D.nx σ' H'
 | .brk=>∃σ' H',Inv X pins σ' H' s'/\D.bk σ' H'
 | .cont=>∃σ' H',Inv X pins σ' H' s'/\D.ct σ' H'
 | .ret u=>∃v σ' H',Inv X pins σ' H' s'/\RelV v u/\D.rt v H'
noncomputable def PE(X:Cx)(e:Expr)(t:TE):Prop :=
 ∀(pins:List (Addr×Obj))(s:DM)(σ:St)(H:Hp)(Q:VK),Inv X pins σ H s->t σ H Q->Eb (Ek X.prog X.w) X.A (eval e X.env) (EP X pins σ Q) X.xe s
noncomputable def PT(X:Cx)(e:Expr)(t:TT):Prop :=
 ∀(pins:List (Addr×Obj))(s:DM)(σ:St)(H:Hp)(Q:Bool->Hp->Prop),Inv X pins σ H s->t σ H Q->Eb (Ek X.prog X.w) X.A (isTrue e X.env (eval e X.env)) (TP X pins σ Q) X.xe s
noncomputable def PW(X:Cx)(e:Expr)(t:TT):Prop :=
 ∀(whole:Sem DJ)(pins:List (Addr×Obj))(s:DM)(σ:St)(H:Hp)(Q:Bool->Hp->Prop),Inv X pins σ H s->t σ H Q->Eb (Ek X.prog X.w) X.A (isTrue e X.env whole) (TP X pins σ Q) X.xe s
theorem PW.pt{X:Cx}{e:Expr}{t:TT}(h:PW X e t):PT X e t:=h _
noncomputable def PA(X:Cx)(es:List Expr)(t:TA):Prop :=
 ∀(pos:Pos)(pins:List (Addr×Obj))(s:DM)(σ:St)(H:Hp)(Q:List V->Hp->Prop),Inv X pins σ H s->t σ H Q->Eb (Ek X.prog X.w) X.A (spliced (Ge pos (DY es X.env))) (AP X pins σ Q) X.xe s
noncomputable def PS(X:Cx)(st:Stmt)(t:TS):Prop :=
 ∀(pins:List (Addr×Obj))(s:DM)(σ:St)(H:Hp)(D:Ends),Inv X pins σ H s->t D σ H->Eb (Ek X.prog X.w) X.A (exec st X.env) (SP X pins D) X.xe s
noncomputable def C3(X:Cx)(st:List Stmt)(t:TS):Prop :=
 ∀(pins:List (Addr×Obj))(s:DM)(σ:St)(H:Hp)(D:Ends),Inv X pins σ H s->t D σ H->Eb (Ek X.prog X.w) X.A (execs st X.env) (SP X pins D) X.xe s
theorem BD{t:Sem α}{Q Q':α->DM->Prop}{M:Model}{E:DJ->DM->Prop}(h:Eb M A t Q E s)(hQ:∀a s,Q a s->Q' a s):Eb M A t Q' E s:=EL h hQ fun _ _ x=>x
section
variable{X:Cx}
noncomputable def xI(i:Nat):TE:=fun σ H Q=>∃v,σ[i]?=some (some v)/\Q v H
noncomputable def tC(v:V):TE:=fun _ H Q=>Q v H
theorem b_{pos:Pos}(hN:X.N[i]?=some x)(hv:CF X.env.scope x)(hd:autoParam ((x==("__debug__" : Str))=false) æb._auto_1)(hcd:autoParam ((x==("__classdict__" : Str))=false) æb._auto_1):PE X (.Name x pos) (xI i):=by
 intro pins s σ H Q I h;obtain⟨v,e,h⟩:=h;obtain⟨m,hn,hl⟩:=I.loc;obtain⟨u,r,l⟩:=hl i x v hN e hv;have fin:EP X pins σ Q u s:=⟨v,H,I,r,h⟩;rcases l with⟨hk,hm⟩|⟨hk,c,hc,hcell⟩
 · exact wpAny_Name (Kj I.ok.kind hk hn hm fin) hd
 · rcases hk with hk|hk
   · exact wpAny_Name (Kv I.ok.kind hk hc hcell fin) hd
   · exact wpAny_Name (wpAny_loadName_free I.ok.kind hk hc hcell fin hcd) hd
theorem jE{i j pos}:PE X (.Constant (.int i) j pos) (tC (.int i)):=fun _ _ _ H _ I h=>wpAny_Constant_int ⟨.int i,H,I.tok _,⟨_,rfl⟩,h⟩
theorem yb{b j pos}:PE X (.Constant (.bool b) j pos) (tC (.bl b)):=fun _ _ _ H _ I h=>Constant_bool ⟨.bl b,H,I,rfl,h⟩
theorem eN{x j pos}:PE X (.Constant (.str x) j pos) (tC (.str x)):=fun _ _ _ H _ I h=>Calls.Constant_str ⟨.str x,H,I.tok _,⟨_,rfl⟩,h⟩
noncomputable def Gl(X:Cx)(x:Str):Prop:=X.env.kindOf x=some .globalImplicit
theorem mE{E:DJ->DM->Prop}{σ:St}{H:Hp}{pos:Pos}(I:Inv X pins σ H s)(hg:Gl X x)(hm:X.mg x=some u)(h:Q u s)
 (hd:autoParam ((x==("__debug__" : Str))=false) æb._auto_1):Eb (Ek X.prog X.w) X.A (eval (.Name x pos) X.env) Q E s :=
 II I.ok.kind hg (Calls.loadGlobal_global (by rw[I.ok.glob];exact I.mod.glob.keeps I.bk) hm h) hd
theorem jO{E:DJ->DM->Prop}{σ:St}{H:Hp}{pos:Pos}(I:Inv X pins σ H s)(hg:Gl X x)(hm:X.mg x=none)(hv:Hl x=some u)(h:Q u s)
 (hn:autoParam (x ≠ "__name__") æb._auto_1)(hd:autoParam ((x==("__debug__" : Str))=false) æb._auto_1):Eb (Ek X.prog X.w) X.A (eval (.Name x pos) X.env) Q E s:=by
 obtain⟨mb,h1,h2⟩:=I.mod.blt;exact II I.ok.kind hg (Calls.loadGlobal_builtin (by rw[I.ok.glob];exact I.mod.glob.keeps I.bk) hm (by rw[I.ok.blt];exact h1.keeps I.bk) ((h2 x hn).trans hv) h) hd
theorem sB{v:V}{pos:Pos}(hg:Gl X x)(hm:X.mg x=some u)(r:RelV v u)(hd:autoParam ((x==("__debug__" : Str))=false) æb._auto_1):PE X (.Name x pos) (tC v) :=
 fun _ _ _ H _ I h=>mE I hg hm ⟨v,H,I,r,h⟩ hd
variable{a b:Expr}{ta tb:TE}{pos:Pos}
noncomputable def tB(t:TE):TT:=fun σ H Q=>t σ H fun x H1=>∃c,x = .bl c/\Q c H1
theorem vF{e:Expr}{t:TE}(h:PE X e t)(he:autoParam (∀whole,isTrue e X.env whole=(do let v <- whole;JX e.pos;Jo [v] (truthy v))) æd._auto_1):PT X e (tB t):=by
 intro pins s σ H Q I hw;refine isTrue_plain (BD (h pins s σ H _ I hw) fun v s1 ⟨x,H1,I1,r1,q1⟩=>?_) (he _);obtain⟨d,rfl,q⟩:=q1;cases r1;exact wpAny_truthy_bool ⟨H1,I1,q⟩
variable{tA tB':TT}{rest:List Expr}
noncomputable def AA(t u:TT):TT:=fun σ H Q=>t σ H fun c H1=>if c=true then u σ H1 Q else Q false H1
theorem rZ(ha:PT X a tA):PW X (.BoolOp .And [a] pos) tA:=by
 intro wh pins s σ H Q I h;refine isTrue_and (BD (ha pins s σ H Q I h) fun c s1 e=>?_)
 cases c with
 | true=>exact isTrue_and_nil e
 | false=>exact e
theorem vD(ha:PT X a tA)(hb:PW X (.BoolOp .And (b::rest) pos) tB'):PW X (.BoolOp .And (a::b::rest) pos) (AA tA tB'):=by
 intro wh pins s σ H Q I h;refine isTrue_and (BD (ha pins s σ H _ I h) fun c s1 ⟨H1,I1,q1⟩=>?_)
 cases c with
 | true=>exact hb wh pins s1 σ H1 Q I1 q1
 | false=>exact⟨H1,I1,q1⟩
noncomputable def BI(t:TT)(ta tb:TE):TE:=fun σ H Q=>t σ H fun c H1=>if c=true then ta σ H1 Q else tb σ H1 Q
theorem oK{c:Expr}(hc:PT X c tA)(ha:PE X a ta)(hb:PE X b tb):PE X (.IfExp c a b pos) (BI tA ta tb):=by
 intro pins s σ H Q I h;refine wpAny_IfExp (BD (hc pins s σ H _ I h) fun d s1 ⟨H1,I1,q1⟩=>?_)
 cases d with
 | true=>exact ha pins s1 σ H1 Q I1 q1
 | false=>exact hb pins s1 σ H1 Q I1 q1
end
noncomputable def CS(K:W.Frag)(H:Hp)(a:Addr)(xs:List V):Prop :=
 Rd H a (.lst xs) \/
  ∃(o:Obj)(its:Array DJ)(n:Nat),K.lookup a=some o/\o.cls = .type "list" /\ o.dict=none/\o.data = .seq its n/\its.size<=sizeLine/\bP xs its.toList
noncomputable def CQ(K:W.Frag)(H:Hp)(a:Addr)(xs:List V):Prop :=
 Rd H a (.tup xs) \/
  ∃(o:Obj)(its:Array DJ)(n:Nat),K.lookup a=some o/\o.cls = .type "tuple" /\ o.data = .seq its n/\its.size<=sizeLine/\bP xs its.toList/\o.dict=none
noncomputable def AY:DJ->Option V
 | .none=>some .non
 | .bool b=>some (.bl b)
 | .int i _=>some (.int i)
 | .str x _=>some (.str x)
 | .bytes b _=>some (.byt b)
 | .float b _=>some (.flt b)
 | .ref a=>some (.ref a)
 | .type n=>some (.ty n)
 | _=>none
theorem RelV.abs{x:V}(r:RelV x u):AY u=some x:=by
 cases x with
 | non=>cases r;rfl
 | bl _=>cases r;rfl
 | int _=>obtain⟨t,rfl⟩:=r;rfl
 | str _=>obtain⟨t,rfl⟩:=r;rfl
 | byt _=>obtain⟨t,rfl⟩:=r;rfl
 | flt _=>obtain⟨t,rfl⟩:=r;rfl
 | ref _=>cases r;rfl
 | ty _=>cases r;rfl
theorem RelV.inj{x y:V}(r:RelV x u)(q:RelV y u):x=y:=Eu (r.abs.symm.trans q.abs)
theorem bP.inj:∀{xs ys:List V}{us:List DJ},bP xs us->bP ys us->xs=ys
 | _,_,_,.nil,.nil=>rfl
 | _,_,_,.cons r t,.cons r' t'=>by rw[r.inj r',bP.inj t t']
section
variable{X:Cx}{pins:List (Addr×Obj)}{σ:St}{H:Hp}{s:DM}{a:Addr}{xs ys:List V}
theorem Inv.list(I:Inv X pins σ H s)(h:CS X.K H a xs):∃its:List DJ,bP xs its/\PlainL s.heap a its.toArray/\xs.length<=sizeLine:=by
 rcases h with h|⟨o,its,n,hk,hc,hd,hs,hz,r⟩
 · obtain⟨z,its,n,r,e⟩:=h.ok I.hok;exact⟨its,r,⟨_,n,e,rfl,rfl,rfl⟩,z⟩
 · refine⟨its.toList,r,⟨o,n,I.kIn a o hk,hc,hd,by simpa using hs⟩,?_⟩;have e:=r.length;simp only[DU]at e;omega
theorem Inv.tuple(I:Inv X pins σ H s)(h:CQ X.K H a xs):∃its:List DJ,bP xs its/\IsTup s.heap a its.toArray/\xs.length<=sizeLine:=by
 rcases h with h|⟨o,its,n,hk,hc,hs,hz,r,hd⟩
 · obtain⟨z,its,r,p⟩:=h.ok I.hok;exact⟨its,r,p.tup,z⟩
 · refine⟨its.toList,r,⟨o,I.kIn a o hk,hc,n,by simpa using hs⟩,?_⟩;have e:=r.length;simp only[DU]at e;omega
theorem Inv.list_inj(I:Inv X pins σ H s)(h:CS X.K H a xs)(h':CS X.K H a ys):xs=ys:=by
 obtain⟨its,r,⟨o,n,e,_,_,d⟩,_⟩:=I.list h;obtain⟨its',r',⟨o',n',e',_,_,d'⟩,_⟩:=I.list h';rw[e]at e';cases e';rw[d]at d'
 injection d' with d1 _
 have:its=its':=by simpa using congrArg Array.toList d1
 subst this;exact r.inj r'
theorem Inv.tupleD(I:Inv X pins σ H s)(h:CQ X.K H a xs):∃ob,s.heap.get? a=some ob/\ob.cls = .type "tuple" /\ ob.dict=none:=by
 rcases h with h|⟨o,its,n,hk,hc,hs,hz,r,hd⟩
 · obtain⟨z,its,r,⟨o,e1,e2,_,e3⟩⟩:=h.ok I.hok;exact⟨o,e1,e2,e3⟩
 · exact⟨o,I.kIn a o hk,hc,hd⟩
theorem Inv.tuple_inj(I:Inv X pins σ H s)(h:CQ X.K H a xs)(h':CQ X.K H a ys):xs=ys:=by
 obtain⟨its,r,⟨o,e,_,n,d⟩,_⟩:=I.tuple h;obtain⟨its',r',⟨o',e',_,n',d'⟩,_⟩:=I.tuple h';rw[e]at e';cases e';rw[d]at d'
 injection d' with d1 _
 have:its=its':=by simpa using congrArg Array.toList d1
 subst this;exact r.inj r'
end
abbrev Cx.wish(X:Cx)(E:DJ->DM->Prop):Cx:={X with xe:=E}
abbrev Cx.nox(X:Cx):Cx:=X.wish fun _ _=>False
theorem Cx.Ok.wish{X:Cx}(ok:X.Ok)(E:DJ->DM->Prop):(X.wish E).Ok :=
 ⟨ok.mod,ok.kind,ok.glob,ok.blt,ok.above,ok.inj,ok.has,ok.cab,ok.hd,ok.frames,ok.stk,ok.exf,ok.bs,ok.bsz,ok.noex,ok.exfs,ok.funs,ok.frf⟩
theorem Cx.Ok.unwish{X:Cx}{E:DJ->DM->Prop}(ok:(X.wish E).Ok):X.Ok :=
 ⟨ok.mod,ok.kind,ok.glob,ok.blt,ok.above,ok.inj,ok.has,ok.cab,ok.hd,ok.frames,ok.stk,ok.exf,ok.bs,ok.bsz,ok.noex,ok.exfs,ok.funs,ok.frf⟩
section
variable{X:Cx}{pins:List (Addr×Obj)}{σ:St}{H:Hp}{s:DM}{E:DJ->DM->Prop}
theorem Inv.wish(I:Inv X pins σ H s)(E:DJ->DM->Prop):Inv (X.wish E) pins σ H s:=⟨I.ok.wish E,I.os,I.bare,I.base,I.loc,I.cell,I.free,I.freeC,I.pin,I.hok,I.len⟩
theorem Inv.unwish(I:Inv (X.wish E) pins σ H s):Inv X pins σ H s:=⟨I.ok.unwish,I.os,I.bare,I.base,I.loc,I.cell,I.free,I.freeC,I.pin,I.hok,I.len⟩
theorem SP.unwish{D:Ends}{f:Flow}{s':DM}(h:SP (X.wish E) pins D f s'):SP X pins D f s':=by
 cases f with
 | next=>obtain⟨σ',H',I,q⟩:=h;exact⟨σ',H',I.unwish,q⟩
 | brk=>obtain⟨σ',H',I,q⟩:=h;exact⟨σ',H',I.unwish,q⟩
 | cont=>obtain⟨σ',H',I,q⟩:=h;exact⟨σ',H',I.unwish,q⟩
 | ret u=>obtain⟨v,σ',H',I,r,q⟩:=h;exact⟨v,σ',H',I.unwish,r,q⟩
theorem C3.nox{st:List Stmt}{t:TS}(h:C3 X.nox st t):C3 X st t:=fun pins s σ H D I hw =>
 EL (h pins s σ H D (I.wish _) hw) (fun _ _ q=>q.unwish) fun _ _ z=>Fq z
end
section
variable{X:Cx}{st:Stmt}{rest:List Stmt}{t u:TS}{e:Expr}{te:TE}{pos:Pos}
noncomputable def xM:TS:=fun D σ H=>D.nx σ H
noncomputable def At(t u:TS):TS:=fun D σ H=>t {D with nx:=u D} σ H
theorem lO:C3 X [] xM:=fun _ _ σ H _ I h=>Io ⟨σ,H,I,h⟩
theorem dX(h1:PS X st t)(h2:C3 X rest u):C3 X (st::rest) (At t u):=by
 intro pins s σ H D I h;refine wpAny_execs_cons (BD (h1 pins s σ H {D with nx:=u D} I h) fun f s1 q=>?_)
 cases f with
 | next =>
   obtain⟨σ',H',I',q⟩:=q
   exact h2 pins s1 σ' H' D I' q
 | ret v=>exact q
 | brk=>exact q
 | cont=>exact q
theorem lN(h1:PS X st t):C3 X [st] t:=by
 intro pins s σ H D I h;refine wpAny_execs_cons (BD (h1 pins s σ H D I h) fun f s1 q=>?_)
 cases f with
 | next=>exact Io q
 | ret v=>exact q
 | brk=>exact q
 | cont=>exact q
theorem Inv.quiet{σ:St}{H:Hp}(I:Inv X pins σ H s):interactive X.env=false:=by simp[interactive,I.ok.kind]
noncomputable def xN(te:TE):TS:=fun D σ H=>te σ H fun _ H1=>D.nx σ H1
theorem lP(he:PE X e te)(hs:autoParam (Gr e none pos.line X.env=pure false) æa._auto_1):PS X (.Expr e pos) (xN te):=by
 intro pins s σ H D I h;exact wpAny_Expr_any (BD (he pins s σ H _ I h) fun v s1 ⟨x,H1,I1,r1,q1⟩=>⟨σ,H1,I1,q1⟩) I.quiet hs
noncomputable def Au(te:TE):TS:=fun D σ H=>te σ H D.rt
theorem ql(he:PE X e te):PS X (.Return (some e) pos) (Au te):=by
 intro pins s σ H D I h;exact wpAny_Return_some (BD (he pins s σ H _ I h) fun v s1 ⟨x,H1,I1,r1,q1⟩=>⟨x,σ,H1,I1,r1,q1⟩)
noncomputable def Ax(c:TT)(t u:TS):TS:=fun D σ H=>c σ H fun b H1=>if b=true then t D σ H1 else u D σ H1
theorem x6{c:Expr}{a b:List Stmt}{tc:TT}(hc:PT X c tc)(ha:C3 X a t)(hb:C3 X b u):PS X (.If c a b pos) (Ax tc t u):=by
 intro pins s σ H D I h;refine wpAny_If (BD (hc pins s σ H _ I h) fun d s1 ⟨H1,I1,q1⟩=>?_)
 cases d with
 | true=>exact ha pins s1 σ H1 D I1 q1
 | false=>exact hb pins s1 σ H1 D I1 q1
noncomputable def uO:TS:=fun _ _ _=>False
theorem oH:PS X st uO:=fun _ _ _ _ _ _ h=>h.elim
end
abbrev TG:=V->St->Hp->(St->Hp->Prop)->Prop
abbrev CP:=List V->St->Hp->(St->Hp->Prop)->Prop
noncomputable def PG(X:Cx)(target:Expr)(t:TG):Prop :=
 ∀ (pins:List (Addr×Obj))(s:DM)(σ:St)(H:Hp)(v:V)(u:DJ)(Q:St->Hp->Prop),Inv X pins σ H s->RelV v u->t v σ H Q ->
   Eb (Ek X.prog X.w) X.A (H_ target X.env u) (fun _ s'=>∃σ' H',Inv X pins σ' H' s'/\Q σ' H') X.xe s
noncomputable def Da(X:Cx)(ts:List Expr)(t:CP):Prop :=
 ∀ (pins:List (Addr×Obj))(s:DM)(σ:St)(H:Hp)(vs:List V)(us:List DJ)(Q:St->Hp->Prop),Inv X pins σ H s->bP vs us->t vs σ H Q ->
   Eb (Ek X.prog X.w) X.A (Ig ((GC ts X.env).map (·.2)) us) (fun _ s'=>∃σ' H',Inv X pins σ' H' s'/\Q σ' H') X.xe s
abbrev yK:=V->V->V->Hp->(Hp->Prop)->Prop
noncomputable def Ae(X:Cx)(t:yK):Prop :=
 ∀ (pins:List (Addr×Obj))(s:DM)(σ:St)(H:Hp)(o i v:V)(ov iv u:DJ)(Q:Hp->Prop),Inv X pins σ H s->RelV o ov->RelV i iv->RelV v u->t o i v H Q ->
   Eb (Ek X.prog X.w) X.A (setItem ov iv u) (fun _ s'=>∃H',Inv X pins σ H' s'/\Q H') X.xe s
abbrev CN:=V->V->Hp->VK->Prop
noncomputable def C8(X:Cx)(op:Ld)(t:CN):Prop :=
 ∀ (pins:List (Addr×Obj))(s:DM)(σ:St)(H:Hp)(x y:V)(v u:DJ)(Q:VK),Inv X pins σ H s->RelV x v->RelV y u->t x y H Q ->
   Eb (Ek X.prog X.w) X.A (inplaceOp op v u) (EP X pins σ Q) X.xe s
section
variable{X:Cx}{pos:Pos}
noncomputable def pG(i:Nat):TG:=fun v σ H Q=>Q (σ.set i (some v)) H
theorem sy(hN:X.N.Nodup)(hi:X.N[i]?=some x)(hx:Loc X.env.scope x)(hf:autoParam (X.fn x=true\/X.env.scope.names.lookup x=some .local) æg._auto_1):PG X (.Name x pos) (pG i):=by
 intro pins s σ H v u Q I r h;exact wpAny_assign_Name (bS I hN hi hx r (fun s' I'=>⟨_,H,I',h⟩) hf)
noncomputable def AT:CP:=fun vs σ H Q=>vs=[]/\Q σ H
noncomputable def yB(t:TG)(u:CP):CP:=fun vs σ H Q=>∃v r,vs=v::r/\t v σ H fun σ' H'=>u r σ' H' Q
theorem sx:Da X [] AT:=by
 intro pins s σ H vs us Q I r h;obtain⟨e,h⟩:=h;subst e;cases r;exact Jc ⟨σ,H,I,h⟩
theorem oJ{e:Expr}{es:List Expr}{t:TG}{u:CP}(h1:PG X e t)(h2:Da X es u)
 (hs:autoParam ((GC (e::es) X.env).map (·.2)=H_ e X.env::(GC es X.env).map (·.2)) æa._auto_1):Da X (e::es) (yB t u):=by
 intro pins s σ H vs us Q I r h;obtain⟨v,vr,e1,h⟩:=h;subst e1
 cases r with
 | cons r rr =>
   rw[hs];refine Gs (BD (h1 pins s σ H _ _ _ I r h) fun _ s1 ⟨σ1,H1,I1,q1⟩=>?_);exact h2 pins s1 σ1 H1 _ _ Q I1 rr q1
noncomputable def AR(K:W.Frag)(n:Nat)(t:CP):TG:=fun v σ H Q=>∃a xs,v = .ref a/\CQ K H a xs/\xs.length=n/\t xs σ H Q
theorem vL{es:List Expr}{k:Nat}{t:CP}(hc:X.calm=true)(h:Da X es t)
 (hn:autoParam ((GC es X.env).length=n) æa._auto_1)(hst:autoParam ((GC es X.env).findIdx? (·.1)=none) æa._auto_1):PG X (.Tuple es k pos) (AR X.K n t):=by
 intro pins s σ H v u Q I r hw;obtain⟨a,xs,e1,hq,hl,hw⟩:=hw;subst e1;cases r;obtain⟨its,rv,ht,hz⟩:=I.tuple hq;refine assign_Tuple_tuple (I.ok.hd hc) ht (by simp[hn,<- hl,rv.length]) hst fun h' hx=>?_;have I1:Inv X pins σ H {s with heap:=h' }:=I.kept (t':=s.toks) fun b o e=>hx b o (EB (DV e)) e;exact h pins _ σ H xs _ Q I1 (by simpa using rv) hw
noncomputable def AS(to ti:TE)(t:yK):TG:=fun v σ H Q=>to σ H fun o H1=>ti σ H1 fun i H2=>t o i v H2 fun H3=>Q σ H3
theorem vM{o i:Expr}{to ti:TE}{t:yK}(ho:PE X o to)(hi:PE X i ti)(hs:Ae X t)
 (ha:autoParam (∀v,H_ (.Subscript o i pos) X.env v=(do
  let ov <- Jo [v] (eval o X.env)
  let iv <- Jo [v,ov] (eval i X.env)
  JX pos
  Jo [v,ov,iv] (setItem ov iv v)
  release [v,ov,iv] [])) æd._auto_1):PG X (.Subscript o i pos) (AS to ti t):=by
 intro pins s σ H v u Q I r h;rw[ha];refine DI (Gg (BD (ho pins s σ H _ I h) fun ov s1 ⟨x,H1,I1,r1,q1⟩=>?_));refine DI (Gg (BD (hi pins s1 σ H1 _ I1 q1) fun iv s2 ⟨y,H2,I2,r2,q2⟩=>?_));refine DI (Gh (DI (Gg (BD (hs pins s2 σ H2 x y v ov iv u _ I2 r1 r2 r q2) fun _ s3 ⟨H3,I3,q3⟩=>?_))));exact wpAny_release ⟨σ,H3,I3,q3⟩
noncomputable def xQ(te:TE)(g:TG):TS:=fun D σ H=>te σ H fun x H1=>g x σ H1 D.nx
theorem qq{e:Expr}{te:TE}{g:TG}(he:PE X e te)(hg:PG X tg g)(hs:autoParam (G6 [tg] e pos.line X.env=pure false) æa._auto_1)(hw:autoParam (G7 [tg] e X.env=pure none) æa._auto_1)
 (h1:autoParam ((GC [tg] X.env).map (·.2)=[H_ tg X.env]) æa._auto_1):PS X (.Assign [tg] e pos) (xQ te g):=by
 intro pins s σ H D I h;refine wpAny_Assign_stores (BD (he pins s σ H _ I h) fun v s1 ⟨x,H1,I1,r1,q1⟩=>?_) hs hw;rw[h1];exact BD (hg pins s1 σ H1 x v _ I1 r1 q1) fun _ s2 q=>q
theorem ig{e:Expr}{te:TE}(hN:X.N.Nodup)(hi:X.N[i]?=some x)(hx:Loc X.env.scope x)(he:PE X e te)(hs:autoParam (Gr e (some (.Name x pos')) pos.line X.env=pure false) æa._auto_1)(hf:autoParam (X.fn x=true\/X.env.scope.names.lookup x=some .local) æg._auto_1) :
 PS X (.Assign [.Name x pos'] e pos) (xQ te (pG i)):=by
 intro pins s σ H D I h;refine wpAny_Assign_Name (BD (he pins s σ H _ I h) fun v s1 ⟨y,H1,I1,r1,q1⟩=>?_) hs;exact bS I1 hN hi hx r1 (fun s2 I2=>⟨_,H1,I2,q1⟩) hf
noncomputable def Av(i j:Nat)(ta:TA):TS:=fun D σ H=>ta σ H fun vs H1=>∃v w,vs=[v,w]/\D.nx ((σ.set i (some v)).set j (some w)) H1
theorem vG{y:Str}{a b:Expr}{ta:TA}{py pt:Pos}{kt k2 pt2}(hc:X.calm=true)(hN:X.N.Nodup)(hi:X.N[i]?=some x)(hj:X.N[j]?=some y)(hij:i≠j)
 (hx:X.env.scope.names.lookup x=some .local)(hy:X.env.scope.names.lookup y=some .local)(ha:PA X [a,b] ta)
 (hw:G7 [.Tuple [.Name x px,.Name y py] kt pt] (.Tuple [a,b] k2 pt2) X.env=pure (some [x,y]))
 (hs:autoParam (G6 [.Tuple [.Name x px,.Name y py] kt pt] (.Tuple [a,b] k2 pt2) pos.line X.env=pure false) æa._auto_1) :
 PS X (.Assign [.Tuple [.Name x px,.Name y py] kt pt] (.Tuple [a,b] k2 pt2) pos) (Av i j ta):=by
 intro pins s σ H D I h;rw[exec_Assign_arm];refine DI (Gh ?_);rw[hs];refine DI (DK ?_);rw[if_neg (by decide)];refine DI (Tuple_ (BD (ha _ pins s σ H _ I h) fun us s1 ⟨vs,H1,I1,r1,q1⟩=>?_));obtain⟨v,w,e1,q1⟩:=q1;subst e1
 obtain⟨u1,u2,rfl,rv,rw'⟩:∃u1 u2,us=[u1,u2]/\RelV v u1/\RelV w u2:=by
  cases r1 with
  | cons p q =>
    cases q with
    | cons p' q' =>
      cases q';exact⟨_,_,rfl,p,p'⟩
 refine EG ?_ (by show 2<=sizeLine;decide);have I2:Inv X pins σ H1 {s1 with heap:=s1.heap.push {cls:=.type "tuple", data:=.seq [u1,u2].toArray}}:=I1.kept (t':=s1.toks) fun b o e=>DN _ e;rw[hw];refine DI (DK ?_);show Eb (Ek X.prog X.w) X.A (do rule "assign.swapped-stores"; let items <- unpackItems (.ref s1.heap.objs.size) 2 none;Ig [fun v=>Ih X.env y v,fun v=>Ih X.env x v] items.reverse;pure Li) _ _ _;refine DI (Hm (DI (unpackItems_tuple (items:=#[u1,u2]) (I.ok.hd hc) (IsTup.new s1.heap _) fun h' hx'=>?_)));have I3:=I2.kept (h':=h') (t':=s1.toks) fun b o e=>hx' b o (EB (DV e)) e;show Eb _ _ (Ig [fun v=>Ih X.env y v,fun v=>Ih X.env x v] [u2,u1] >>= fun _=>pure Li) _ _ _;refine DI (Gs (HI (bS I3 hN hj (.inl hy) rw' (fun s2 I4=>?_) (.inr hy))));refine Gs (HI (bS I4 hN hi (.inl hx) rv (fun s3 I5=>Jc (DK ?_)) (.inr hx)));rw[Jp _ _ (Im hij)]at I5;exact⟨_,H1,I5,q1⟩
noncomputable def Az(i:Nat)(te:TE)(ti:CN):TS:=fun D σ H=>∃x,σ[i]?=some (some x)/\te σ H fun y H1=>ti x y H1 fun z H2=>D.nx (σ.set i (some z)) H2
theorem vH{e:Expr}{te:TE}{op:Ld}{ti:CN}(hN:X.N.Nodup)(hi:X.N[i]?=some x)(hx:Loc X.env.scope x)(he:PE X e te)(ho:C8 X op ti)(hf:autoParam (X.fn x=true\/X.env.scope.names.lookup x=some .local) æg._auto_1) :
 PS X (.AugAssign (.Name x pos') op e pos) (Az i te ti):=by
 intro pins s σ H D I h;obtain⟨v,e1,h⟩:=h;obtain⟨m,hn,hl⟩:=I.loc;have vis:CF X.env.scope x:=by rcases hx with k|k;exact .inl k;exact .inr (.inl k)
 obtain⟨u,r,l⟩:=hl i x v hi e1 vis;refine wpAny_AugAssign_Name ?_
 have go:Eb (Ek X.prog X.w) X.A (eval e X.env) (fun w s₂=>Eb (Ek X.prog X.w) X.A (inplaceOp op u w) (fun r s₃=>Eb (Ek X.prog X.w) X.A (storeName X.env x r) (fun _=>SP X pins D .next) X.xe s₃) X.xe s₂) X.xe s:=by
  refine BD (he pins s σ H _ I h) fun w s1 ⟨y,H1,I1,r1,q1⟩=>?_;refine BD (ho pins s1 σ H1 v y u w _ I1 r r1 q1) fun z s2 ⟨zv,H2,I2,r2,q2⟩=>?_;exact bS I2 hN hi hx r2 (fun s3 I3=>⟨_,H2,I3,q2⟩) hf
 rcases l with⟨hk,hm⟩|⟨hk,c,hc,hcell⟩
 · exact Kj I.ok.kind hk hn hm go
 · rcases hk with hk|hk
   · exact Kv I.ok.kind hk hc hcell go
   · rcases hx with k|k
     · have:X.env.scope.names.lookup x=some .free:=hk;rw[k]at this;cases this
     · have:X.env.scope.names.lookup x=some .free:=hk;rw[k]at this;cases this
end
section
variable{X:Cx}{pos:Pos}
noncomputable def uN(c:TT)(tb:TS):TS:=fun D σ H=>∃W:Nat->St->Hp->Prop,(∃m,W m σ H)/\∀m σ H,W m σ H ->
 c σ H fun b H1=>if b=true then ∃N:St->Hp->Prop,(∀σ' H',N σ' H'->∃m',m'<m/\W m' σ' H')/\tb {D with nx:=N,ct:=N,bk:=D.nx} σ H1 else D.nx σ H1
theorem oG{c:Expr}{body:List Stmt}{tc:TT}{tb:TS}(hp:KL (Ek X.prog X.w) X.A X.env X.xe)(hc:PT X c tc)(hb:C3 X body tb):PS X (.While c body [] pos) (uN tc tb):=by
 intro pins s σ H D I h;obtain⟨W,⟨m0,w0⟩,turn⟩:=h;refine wpAny_While (codeAny_whileLoop (fun n s'=>∃σ' H',Inv X pins σ' H' s'/\W n σ' H') ?_ m0 ⟨σ,H,I,w0⟩);rintro n s1 ⟨σ1,H1,I1,w1⟩;refine GD hp (BD (hc pins s1 σ1 H1 _ I1 (turn n σ1 H1 w1)) fun b s2 ⟨H2,I2,q2⟩=>?_)
 cases b with
 | true =>
   obtain⟨N,hN,q2⟩:=q2;rw[if_pos rfl];refine GD hp (BD (hb pins s2 σ1 H2 _ I2 q2) fun f s3 q3=>?_)
   cases f with
   | next =>
     obtain⟨σ3,H3,I3,n3⟩:=q3;obtain⟨m',hm,w3⟩:=hN σ3 H3 n3
     exact⟨m',hm,σ3,H3,I3,w3⟩
   | cont =>
     obtain⟨σ3,H3,I3,n3⟩:=q3;obtain⟨m',hm,w3⟩:=hN σ3 H3 n3
     exact⟨m',hm,σ3,H3,I3,w3⟩
   | brk=>exact q3
   | ret v=>exact q3
 | false =>
   rw[if_neg D9];exact Io ⟨σ1,H2,I2,q2⟩
end
structure It where
 go:Nat->Hp->Prop
 yld:Nat->Hp->V->Hp->Prop
 stop:Nat->Hp->Prop
noncomputable def ke(X:Cx)(pins:List (Addr×Obj))(H:Hp)(b:Addr):Prop :=
 H b=none/\b≠X.env.locals/\b∉X.fs/\(b∈X.ex\/X.s₀.heap.objs.size<=b)/\(∀x c,X.env.cells.lookup x=some c->c≠b)/\∀p∈X.pn++pins,p.1≠b
theorem Inv.fpOk{X:Cx}{σ:St}{H H':Hp}(I:Inv X pins σ H s)(hb:s.heap.objs.size<=b)(hn:H' b=none):ke X pins H' b:=by
 refine⟨hn,HN (DR I.lt hb),I.nofs hb,.inr (EC I.sz hb),fun x c e z=>?_,fun p hp z=>?_⟩
 · obtain⟨v,q⟩:=I.cell x c e;exact absurd (DR q.lt (by rw[z];exact hb)) (E_ _)
 · exact absurd (DR (DV (I.pin p hp).1) (by rw[z];exact hb)) (E_ _)
structure Turn (P:Ef) (w:EM) (K:W.Frag) (tg:Expr) (J:It) (fp:List Addr) (it:Addr) (tn:Nat->Heap->Prop):Prop where
 mem:it∈fp
 obj:∀i h,tn i h->∀b∈fp,∃o,h.get? b=some o/\∀v,o.data ≠ .cell v
 keep:∀i h h',tn i h->(∀b∈fp,∀o,h.get? b=some o->h'.get? b=some o)->tn i h'
 item:∀(X:Cx),X.prog=P->X.w=w->X.K=K->X.calm=true->∀(i:Nat)(pins:List (Addr×Obj))(s:DM)(σ:St)(H:Hp)(E:DJ->DM->Prop),Inv X pins σ H s->(∀b∈fp,ke X pins H b)->tn i s.heap->J.go i H ->
  Eb (Ek P w) X.A (IM (.ref it)) (fun r s1=>∃u,r=some u /\
   Eb (Ek P w) X.A (Go tg (.ref it) u) (fun _ s2=>∃x H',Inv X pins σ H' s2/\RelV x u/\J.yld i H x H'/\tn (i+1) s2.heap/\∀b∈fp,H' b=none) E s1) E s
 done:∀(X:Cx),X.prog=P->X.w=w->X.K=K->X.calm=true->∀(i:Nat)(pins:List (Addr×Obj))(s:DM)(σ:St)(H:Hp)(E:DJ->DM->Prop),Inv X pins σ H s->(∀b∈fp,ke X pins H b)->tn i s.heap->J.stop i H ->
  Eb (Ek P w) X.A (IM (.ref it)) (fun r s1=>r=none/\Inv X pins σ H s1) E s
 self:∀(A:ES)(i:Nat)(s:DM)(Q:DJ->DM->Prop)(E:DJ->DM->Prop),tn i s.heap->Q (.ref it) s->Eb (Ek P w) A (KM (.ref it)) Q E s
abbrev TI:=St->Hp->(It->Hp->Prop)->Prop
noncomputable def C_(X:Cx)(pins:List (Addr×Obj))(σ:St)(tg:Expr)(R:It->Hp->Prop)(itv:DJ)(s2:DM):Prop :=
 ∃(it:Addr)(fp:List Addr)(tn:Nat->Heap->Prop)(J:It)(H':Hp),itv = .ref it/\Inv X pins σ H' s2/\Turn X.prog X.w X.K tg J fp it tn/\tn 0 s2.heap/\(∀b∈fp,ke X pins H' b)/\R J H'
noncomputable def PI(X:Cx)(tg iter:Expr)(wi:TI):Prop :=
 ∀ (pins:List (Addr×Obj))(s:DM)(σ:St)(H:Hp)(R:It->Hp->Prop),Inv X pins σ H s->wi σ H R ->
   Eb (Ek X.prog X.w) X.A (eval iter X.env) (fun v s1=>Eb (Ek X.prog X.w) X.A (KM v) (C_ X pins σ tg R) X.xe s1) X.xe s
theorem tE{M:Model}{E:DJ->DM->Prop}{o:Obj}{n:String}{vs:Array DJ}{Q:Unit->DM->Prop}(ho:s.heap.get? it=some o)(hc:o.cls = .type n)(hd:o.data = .fields vs)
 (hn:["enumerate", "zip", "dict_itemiterator", "dict_reverseitemiterator", "odict_iterator", "itertools.zip_longest", "itertools.pairwise"].contains n=false)(hQ:Q () s):Eb M A (Go tg (.ref it) u) Q E s:=by
 unfold Go
 cases tg<;>first
  | exact DK hQ
  | (cases u<;>first
      | exact DK hQ
      | (refine DI (wpAny_load ho ?_)
         rw[hc,hd];show Eb M A (if(["enumerate", "zip", "dict_itemiterator", "dict_reverseitemiterator", "odict_iterator", "itertools.zip_longest", "itertools.pairwise"].contains n&&vs[0]?==some (Kn _))=true then _ else _) Q E s;rw[if_neg (by intro h;rw[hn,Ha]at h;cases h)]
         exact DK hQ))
noncomputable def Ds(K:W.Frag)(a:Addr):It :=
 ⟨fun i H=>∃xs x,CS K H a xs/\xs[i]?=some x,fun i H x H'=>H'=H/\∀xs,CS K H a xs->xs[i]?=some x,fun i H=>∃xs,CS K H a xs/\xs.length<=i⟩
noncomputable def Dp(K:W.Frag)(a:Addr):It :=
 ⟨fun i H=>∃xs x,CQ K H a xs/\xs[i]?=some x,fun i H x H'=>H'=H/\∀xs,CQ K H a xs->xs[i]?=some x,fun i H=>∃xs,CQ K H a xs/\xs.length<=i⟩
noncomputable def Dr(lo:Int)(n:Nat):It:=⟨fun i _=>i<n,fun i H x H'=>H'=H/\x = .int (lo+i),fun i _=>n<=i⟩
theorem la{K:W.Frag}(a it:Addr):Turn P w K tg (Ds K a) [it] it (fun i h=>h.IsListIter it a i) where
 mem:=by simp
 obj:=fun i h st b hb=>by
  have e:b=it:=by simpa using hb
  subst e;obtain⟨o,e,c,d⟩:=st;exact⟨o,e,fun v z=>by rw[d]at z;cases z⟩
 keep:=fun i h h' st k=>st.at fun o e=>k it (by simp) o e
 item:=by
  intro X hP hw hK hc i pins s σ H E I hf st hg;subst hP hw hK;obtain⟨xs,x,hq,hx⟩:=hg;obtain⟨its,rv,p,hz⟩:=I.list hq;obtain⟨u,hu,ru⟩:=rv.get hx;obtain⟨f0,f1,f2,f3,f4,f5⟩:=hf it (by simp);refine wpAny_pyNext_list_item st p.isList (x:=u) (by simpa using hu) fun h' st' sb=>?_;have I1:Inv X pins σ H {s with heap:=h' }:=I.turned (t':=s.toks) (fun b o hb e=>(sb.2 b hb).trans e) f0 f1 f3 f4 f5;obtain⟨o,e,c,d⟩:=id st';exact⟨u,rfl,tE (s:={s with heap:=h' }) e c d (by decide) ⟨x,H,I1,ru,⟨rfl,fun ys hy=>by rw[I.list_inj hy hq];exact hx⟩,st',fun b hb=>(hf b hb).1⟩⟩
 done:=by
  intro X hP hw hK hc i pins s σ H E I hf st hg;subst hP hw hK;obtain⟨xs,hq,hx⟩:=hg;obtain⟨its,rv,p,hz⟩:=I.list hq;obtain⟨f0,f1,f2,f3,f4,f5⟩:=hf it (by simp);have hl:=rv.length;exact wpAny_pyNext_list_end (I.ok.hd hc) st p.isList (by simp;omega) fun h' eb=>⟨rfl,I.turned (t':=s.toks) (fun b o hb e=>eb b o hb e) f0 f1 f3 f4 f5⟩
 self:=fun _ _ _ _ _ st h=>wpAny_pyIter_listiter st h
theorem km{K:W.Frag}(a it:Addr):Turn P w K tg (Dp K a) [it] it (fun i h=>h.IsTupleIter it a i) where
 mem:=by simp
 obj:=fun i h st b hb=>by
  have e:b=it:=by simpa using hb
  subst e;obtain⟨o,e,c,d⟩:=st;exact⟨o,e,fun v z=>by rw[d]at z;cases z⟩
 keep:=fun i h h' st k=>st.at fun o e=>k it (by simp) o e
 item:=by
  intro X hP hw hK hc i pins s σ H E I hf st hg;subst hP hw hK;obtain⟨xs,x,hq,hx⟩:=hg;obtain⟨its,rv,p,hz⟩:=I.tuple hq;obtain⟨u,hu,ru⟩:=rv.get hx;obtain⟨f0,f1,f2,f3,f4,f5⟩:=hf it (by simp);refine wpAny_pyNext_tuple_item st (show s.heap.IsTuple a its.toArray from p) (x:=u) (by simpa using hu) fun h' st' sb=>?_;have I1:Inv X pins σ H {s with heap:=h' }:=I.turned (t':=s.toks) (fun b o hb e=>(sb.2 b hb).trans e) f0 f1 f3 f4 f5;obtain⟨o,e,c,d⟩:=id st';exact⟨u,rfl,tE (s:={s with heap:=h' }) e c d (by decide) ⟨x,H,I1,ru,⟨rfl,fun ys hy=>by rw[I.tuple_inj hy hq];exact hx⟩,st',fun b hb=>(hf b hb).1⟩⟩
 done:=by
  intro X hP hw hK hc i pins s σ H E I hf st hg;subst hP hw hK;obtain⟨xs,hq,hx⟩:=hg;obtain⟨its,rv,p,hz⟩:=I.tuple hq;obtain⟨f0,f1,f2,f3,f4,f5⟩:=hf it (by simp);have hl:=rv.length;exact wpAny_pyNext_tuple_end (I.ok.hd hc) st (show s.heap.IsTuple a its.toArray from p) (by simp;omega) fun h' eb=>⟨rfl,I.turned (t':=s.toks) (fun b o hb e=>eb b o hb e) f0 f1 f3 f4 f5⟩
 self:=fun _ _ _ _ _ st h=>wpAny_pyIter_tupleiter st h
theorem ko{K:W.Frag}(it:Addr)(lo:Int)(n:Nat):Turn P w K tg (Dr lo n) [it] it (fun i h=>IsRangeIter h it (lo+(i:Nat)*1) ((n:Int)-(i:Nat)) 1) where
 mem:=by simp
 obj:=fun i h st b hb=>by
  have e:b=it:=by simpa using hb
  subst e
  exact⟨_,st,fun v z=>by
   have z':Data.fields _=Data.cell v:=z
   cases z'⟩
 keep:=fun i h h' st k=>k it (by simp) _ st
 item:=by
  intro X hP hw hK hc i pins s σ H E I hf st hg;subst hP hw hK;obtain⟨f0,f1,f2,f3,f4,f5⟩:=hf it (by simp);have W:=Walks.range (prog:=X.prog) (w:=X.w) (I.ok.hd hc) it lo 1 n;refine W.item i s _ _ hg st fun v h' tk hv st' kk=>?_;obtain⟨t,rfl⟩:=hv;have I1:Inv X pins σ H {s with heap:=h',toks:=tk}:=I.turned (fun b o hb e=>kk b o (by simpa using hb) e) f0 f1 f3 f4 f5;refine⟨_,rfl,tE (s:={s with heap:=h',toks:=tk}) (n := "range_iterator") st' rfl rfl (by decide) ⟨.int (lo+i),H,I1,⟨t,?_⟩,⟨rfl,rfl⟩,st',fun b hb=>(hf b hb).1⟩⟩;rw[Jq]
 done:=by
  intro X hP hw hK hc i pins s σ H E I hf st hg;subst hP hw hK;obtain⟨f0,f1,f2,f3,f4,f5⟩:=hf it (by simp);exact wpAny_pyNext_range_end (I.ok.hd hc) st (by have:n<=i:=hg;omega) fun h' eb=>⟨rfl,I.turned (t':=s.toks) (fun b o hb e=>eb b o hb e) f0 f1 f3 f4 f5⟩
 self:=fun _ _ _ _ _ st h=>wpAny_pyIter_rangeiter st h
section
variable{X:Cx}{tg:Expr}
noncomputable def yq(K:W.Frag)(tl:TE):TI:=fun σ H R=>tl σ H fun x H1=>∃a,x = .ref a/\(∃xs,CS K H1 a xs)/\R (Ds K a) H1
noncomputable def AO(K:W.Frag)(tl:TE):TI:=fun σ H R=>tl σ H fun x H1=>∃a,x = .ref a/\(∃xs,CQ K H1 a xs)/\R (Dp K a) H1
theorem sv{l:Expr}{tl:TE}(hl:PE X l tl):PI X tg l (yq X.K tl):=by
 intro pins s σ H R I h;refine BD (hl pins s σ H _ I h) fun v s1 ⟨x,H1,I1,r1,q1⟩=>?_;obtain⟨a,e,⟨xs,hq⟩,q⟩:=q1;subst e;cases r1;obtain⟨its,rv,p,hz⟩:=I1.list hq;refine HD p.isList ?_;refine⟨s1.heap.objs.size,[s1.heap.objs.size],_,_,H1,rfl,I1.kept (t':=s1.toks) fun b o e=>DN _ e,la a _,⟨_,D3 _ rfl,rfl,rfl⟩,fun b hb=>?_,q⟩;have e:b=s1.heap.objs.size:=by simpa using hb
 subst e;exact I1.fpOk (DQ _) (I1.hok.fresh (DQ _))
theorem vK{l:Expr}{tl:TE}(hl:PE X l tl):PI X tg l (AO X.K tl):=by
 intro pins s σ H R I h;refine BD (hl pins s σ H _ I h) fun v s1 ⟨x,H1,I1,r1,q1⟩=>?_;obtain⟨a,e,⟨xs,hq⟩,q⟩:=q1;subst e;cases r1;obtain⟨its,rv,p,hz⟩:=I1.tuple hq;refine wpAny_pyIter_tuple (show s1.heap.IsTuple a its.toArray from p) ?_;refine⟨s1.heap.objs.size,[s1.heap.objs.size],_,_,H1,rfl,I1.kept (t':=s1.toks) fun b o e=>DN _ e,km a _,⟨_,D3 _ rfl,rfl,rfl⟩,fun b hb=>?_,q⟩;have e:b=s1.heap.objs.size:=by simpa using hb
 subst e;exact I1.fpOk (DQ _) (I1.hok.fresh (DQ _))
theorem oF{σ:St}{H:Hp}{R:It->Hp->Prop}{E:DJ->DM->Prop}{lo hi:Int}{t u v:Tok}{tk:Nat}(I:Inv X pins σ H s)(h1 : -(2^62)<=lo)(h2:lo<2^62)(h3 : -(2^62)<=hi)(h4:hi<2^62)
 (q:R (Dr lo (hi-lo).toNat) H):Eb (Ek X.prog X.w) X.A (KM (.ref s.heap.objs.size)) (C_ X pins σ tg R) E {s with heap:=s.heap.push {cls:=.type "range", data:=.fields #[.int lo t,.int hi u,.int 1 v]},toks:=tk}:=by
 refine wpAny_pyIter_range (IsRange.new ..) (small_one h1 h2 h3 h4) ?_;have I1:Inv X pins σ H {s with heap:=s.heap.push {cls:=.type "range", data:=.fields #[.int lo t,.int hi u,.int 1 v]},toks:=tk}:=I.kept fun b o e=>DN _ e
 refine⟨(s.heap.push {cls:=.type "range", data:=.fields #[.int lo t,.int hi u,.int 1 v]}).objs.size,[(s.heap.push {cls:=.type "range", data:=.fields #[.int lo t,.int hi u,.int 1 v]}).objs.size],_,_,H,rfl,
  I1.kept (t':=tk) fun b o e=>DN _ e,ko _ lo (hi-lo).toNat,?_,fun b hb=>?_,q⟩
 · have e1:lo+((0:Nat):Int)*1=lo:=by simp
   have e2:(((hi-lo).toNat:Nat):Int)-((0:Nat):Int)=Builtin.Range.rangeSize lo hi 1:=by rw[rangeSize_one];split<;>omega
   show IsRangeIter _ _ (lo+((0:Nat):Int)*1) ((((hi-lo).toNat:Nat):Int)-((0:Nat):Int)) 1;rw[e1,e2];exact D3 _ rfl
 · have e:b=(s.heap.push {cls:=.type "range", data:=.fields #[.int lo t,.int hi u,.int 1 v]}).objs.size:=by simpa using hb
   subst e;exact I1.fpOk (DQ _) (I1.hok.fresh (DQ _))
noncomputable def yp(ta:TA):TI:=fun σ H R=>ta σ H fun vs H1=>∃j:Int,vs=[.int j] /\ -(2^62)<=j/\j<2^62/\R (Dr 0 j.toNat) H1
theorem lS{a:Expr}{ta:TA}{p pos:Pos}(hg:Gl X "range")(hm:X.mg "range" = none)(ha:PA X [a] ta)(hs:autoParam (DY [a] X.env=[(false,eval a X.env)]) æa._auto_1):PI X tg (.Call (.Name "range" p) [a] [] pos) (yp ta):=by
 intro pins s σ H R I h;refine Call_ (jO I hg hm boot_range (GZ (BD (ha pos pins s σ H _ I h) fun us s1 ⟨vs,H1,I1,r1,q1⟩=>?_) hs rfl));obtain⟨j,e,q1,q2,q⟩:=q1;subst e
 cases r1 with
 | cons r rr =>
   cases rr;obtain⟨t,rfl⟩:=r;exact call_range_1 (oF I1 (by omega) (by omega) q1 q2 (by simpa using q))
noncomputable def Ay(wi:TI)(g:TG)(tb:TS):TS:=fun D σ H=>wi σ H fun J H1=>∃W:Nat->Nat->St->Hp->Prop,(∃m,W 0 m σ H1)/\∀i m σ H,W i m σ H ->
 (J.stop i H/\D.nx σ H)\/(J.go i H/\∃N:St->Hp->Prop,(∀σ' H',N σ' H'->∃m',m'<m/\W (i+1) m' σ' H')/\∀x H',J.yld i H x H'->g x σ H' fun σ2 H2=>tb {D with nx:=N,ct:=N,bk:=D.nx} σ2 H2)
noncomputable def eK(fp:List Addr)(h:Heap):List (Addr×Obj):=fp.filterMap fun b=>(h.get? b).map fun o=>(b,o)
theorem br{o:Obj}(hb:b∈fp)(e:h.get? b=some o):(b,o)∈eK fp h:=List.mem_filterMap.mpr ⟨b,hb,by rw[e];rfl⟩
theorem l5{p:Addr×Obj}(hp:p∈eK fp h):p.1∈fp/\h.get? p.1=some p.2:=by
 obtain⟨b,hb,e⟩:=List.mem_filterMap.mp hp
 cases q:h.get? b with
 | none=>rw[q]at e;cases e
 | some o =>
   rw[q]at e;have e':(b,o)=p:=Eu e;subst e';exact⟨hb,q⟩
theorem Inv.pinned{σ:St}{H:Hp}(I:Inv X pins σ H s)(hf:∀b∈fp,ke X pins H b)(ho:∀b∈fp,∃o,s.heap.get? b=some o/\∀v,o.data ≠ .cell v):Inv X (pins++eK fp s.heap) σ H s :=
 I.pins_of fun p hp=>(EW.mp hp).elim (fun z=>I.pin p (Ea _ z)) fun z=>by
  obtain⟨hb,e⟩:=l5 z;obtain⟨f0,f1,f2,_⟩:=hf p.1 hb;obtain⟨o,e',d⟩:=ho p.1 hb;rw[e]at e';cases e';exact⟨e,f0,f1,f2,d⟩
theorem Inv.unpinned{pl:List (Addr×Obj)}{σ:St}{H:Hp}(I:Inv X (pins++pl) σ H s):Inv X pins σ H s:=I.pins_of fun p hp=>I.pin p (Ea _ (Ki _ hp))
theorem qo{body:List Stmt}{wi:TI}{g:TG}{tb:TS}{pos:Pos}(hp:KL (Ek X.prog X.w) X.A X.env X.xe)(hc:X.calm=true)(hi:PI X tg iter wi)(hg:PG X tg g)(hb:C3 X body tb)
 (hs:autoParam (∀x,Ey iter X.env x=pure x) æd._auto_1):PS X (.For tg iter body [] pos) (Ay wi g tb):=by
 intro pins s σ H D I h;refine wpAny_For (BD (hi pins s σ H _ I h) fun v s1 h1=>BD h1 fun itv s2 h2=>?_) hs;obtain⟨it,fp,tn,J,H2,e,I2,T,st2,f2,W,⟨m0,w0⟩,turn⟩:=h2;subst e;have stat:∀{H':Hp},(∀b∈fp,H' b=none)->∀b∈fp,ke X pins H' b:=fun hn b hb=>⟨hn b hb,(f2 b hb).2⟩;refine codeAny_forLoop_any (fun n s'=>∃i σ' H',Inv X pins σ' H' s'/\tn i s'.heap/\(∀b∈fp,H' b=none)/\W i n σ' H') ?_ m0 ⟨0,σ,H2,I2,st2,fun b hb=>(f2 b hb).1,w0⟩;rintro n s3 ⟨i,σ3,H3,I3,st3,fr3,w3⟩;rcases turn i n σ3 H3 w3 with⟨stop,qn⟩|⟨go,N,hN,step⟩
 · refine GD hp (BD (T.done X rfl rfl rfl hc i pins s3 σ3 H3 X.xe I3 (stat fr3) st3 stop) fun r s4 ⟨hr,I4⟩=>?_);subst hr;exact Io ⟨σ3,H3,I4,qn⟩
 · refine GD hp (BD (T.item X rfl rfl rfl hc i pins s3 σ3 H3 X.xe I3 (stat fr3) st3 go) fun r s4 ⟨u,hr,h4⟩=>?_);subst hr;refine GD hp (BD h4 fun _ s5 ⟨x,H5,I5,r5,y5,st5,fr5⟩=>?_);have I5':=I5.pinned (stat fr5) (T.obj _ _ st5);refine GD hp (BD (hg _ s5 σ3 H5 x u _ I5' r5 (step x H5 y5)) fun _ s6 ⟨σ6,H6,I6,q6⟩=>?_);refine GD hp (BD (hb _ s6 σ6 H6 _ I6 q6) fun f s7 q7=>?_)
   have again:∀{σ7:St}{H7:Hp},Inv X (pins++eK fp s5.heap) σ7 H7 s7->N σ7 H7->∃m,m<n/\∃i σ' H',Inv X pins σ' H' s7/\tn i s7.heap/\(∀b∈fp,H' b=none)/\W i m σ' H':=fun{σ7 H7} I7 n7=>by
    obtain⟨m',hm,w7⟩:=hN σ7 H7 n7;refine⟨m',hm,i+1,σ7,H7,I7.unpinned,T.keep _ _ _ st5 fun b hb o e=>(I7.pin (b,o) (Ea _ (Ea _ (br hb e)))).1,fun b hb=>?_,w7⟩;obtain⟨o,e,d⟩:=T.obj _ _ st5 b hb;exact(I7.pin (b,o) (Ea _ (Ea _ (br hb e)))).2.1
   cases f with
   | next=>obtain⟨σ7,H7,I7,n7⟩:=q7;exact again I7 n7
   | cont=>obtain⟨σ7,H7,I7,n7⟩:=q7;exact again I7 n7
   | brk=>obtain⟨σ7,H7,I7,q7⟩:=q7;exact⟨σ7,H7,I7.unpinned,q7⟩
   | ret v=>obtain⟨x7,σ7,H7,I7,r7,q7⟩:=q7;exact⟨x7,σ7,H7,I7.unpinned,r7,q7⟩
end
abbrev R2:=V->V->Hp->VK->Prop
noncomputable def De(X:Cx)(f:DJ->DJ->Sem DJ)(r:R2):Prop :=
 ∀ (pins:List (Addr×Obj))(s:DM)(σ:St)(H:Hp)(x y:V)(v u:DJ)(Q:VK),Inv X pins σ H s->RelV x v->RelV y u->r x y H Q ->
   Eb (Ek X.prog X.w) X.A (f v u) (EP X pins σ Q) X.xe s
noncomputable def CH(X:Cx)(f:DJ->Sem DJ)(r:V->Hp->VK->Prop):Prop :=
 ∀ (pins:List (Addr×Obj))(s:DM)(σ:St)(H:Hp)(x:V)(v:DJ)(Q:VK),Inv X pins σ H s->RelV x v->r x H Q ->
   Eb (Ek X.prog X.w) X.A (f v) (EP X pins σ Q) X.xe s
noncomputable def dS(X:Cx)(f:DJ)(r:List V->Hp->VK->Prop):Prop :=
 ∀ (pins:List (Addr×Obj))(s:DM)(σ:St)(H:Hp)(xs:List V)(us:List DJ)(Q:VK),Inv X pins σ H s->bP xs us->r xs H Q ->
   Eb (Ek X.prog X.w) X.A (call f us) (EP X pins σ Q) X.xe s
noncomputable def BG(r:R2)(ta tb:TE):TE:=fun σ H Q=>ta σ H fun x H1=>tb σ H1 fun y H2=>r x y H2 Q
noncomputable def BE(r:V->Hp->VK->Prop)(ta:TE):TE:=fun σ H Q=>ta σ H fun x H1=>r x H1 Q
noncomputable def rI(C:Int->Int->Prop)(g:Int->Int->V):R2:=fun x y H Q=>∃i j,x = .int i/\y = .int j/\C i j/\Q (g i j) H
noncomputable def BW(g:Int->Int->V):R2:=fun x y H Q=>∃i j,x = .int i/\y = .int j/\Q (g i j) H
noncomputable def rU(g:Int->V):V->Hp->VK->Prop:=fun x H Q=>∃i,x = .int i/\Q (g i) H
section
variable{X:Cx}{a b c:Expr}{ta tb tc:TE}{pos:Pos}
theorem yI(ha:PE X a ta)(hb:PE X b tb){σ:St}{H:Hp}{R:V->V->Hp->Prop}(I:Inv X pins σ H s)
 (h:ta σ H fun x H1=>tb σ H1 fun y H2=>R x y H2){f:DJ->DJ->Sem DJ}
 (hf:∀v u s2 x y H2,Inv X pins σ H2 s2->RelV x v->RelV y u->R x y H2->Eb (Ek X.prog X.w) X.A (f v u) Q X.xe s2) :
 Eb (Ek X.prog X.w) X.A (eval a X.env) (fun v s₁=>Eb (Ek X.prog X.w) X.A (eval b X.env) (fun u s₂=>Eb (Ek X.prog X.w) X.A (f v u) Q X.xe s₂) X.xe s₁) X.xe s:=by
 refine BD (ha pins s σ H _ I h) fun v s1 ⟨x,H1,I1,r1,q1⟩=>?_;refine BD (hb pins s1 σ H1 _ I1 q1) fun u s2 ⟨y,H2,I2,r2,q2⟩=>?_;exact hf v u s2 x y H2 I2 r1 r2 q2
theorem ya{op:Ld}{r:R2}(ho:De X (GO op) r)(ha:PE X a ta)(hb:PE X b tb):PE X (.BinOp a op b pos) (BG r ta tb):=by
 intro pins s σ H Q I h;exact wpAny_BinOp (yI ha hb I h fun v u s2 x y H2 I2 rx ry q=>ho pins s2 σ H2 x y v u Q I2 rx ry q)
theorem x_{op:UnaryOp}{r:V->Hp->VK->Prop}(ho:CH X (unaryOp op) r)(ha:PE X a ta):PE X (.UnaryOp op a pos) (BE r ta):=by
 intro pins s σ H Q I h;exact UnaryOp_ (BD (ha pins s σ H _ I h) fun v s1 ⟨x,H1,I1,r1,q1⟩=>ho pins s1 σ H1 x v Q I1 r1 q1)
theorem B6{f:DJ->DJ->Sem DJ}{C:Int->Int->Prop}{g:Int->Int->Int}
 (rule:∀(i j:Int)(t u:Tok)(s:DM)(Q:DJ->DM->Prop)(E:DJ->DM->Prop),C i j->Q (.int (g i j) s.toks) {s with toks:=s.toks+1}->Eb (Ek X.prog X.w) X.A (f (.int i t) (.int j u)) Q E s) :
 De X f (rI C fun i j=>.int (g i j)):=by
 intro pins s σ H x y v u Q I rx ry h;obtain⟨i,j,rfl,rfl,hc,q⟩:=h;obtain⟨t,rfl⟩:=rx;obtain⟨t',rfl⟩:=ry;exact rule i j t t' s _ _ hc ⟨.int (g i j),H,I.tok _,⟨_,rfl⟩,q⟩
theorem zT{f:DJ->DJ->Sem DJ}{g:Int->Int->Int}
 (rule:∀(i j:Int)(t u:Tok)(s:DM)(Q:DJ->DM->Prop)(E:DJ->DM->Prop),Q (.int (g i j) s.toks) {s with toks:=s.toks+1}->Eb (Ek X.prog X.w) X.A (f (.int i t) (.int j u)) Q E s) :
 De X f (BW fun i j=>.int (g i j)):=by
 intro pins s σ H x y v u Q I rx ry h;obtain⟨i,j,rfl,rfl,q⟩:=h;obtain⟨t,rfl⟩:=rx;obtain⟨t',rfl⟩:=ry;exact rule i j t t' s _ _ ⟨.int (g i j),H,I.tok _,⟨_,rfl⟩,q⟩
theorem wY{f:DJ->DJ->Sem DJ}{g:Int->Int->Bool}
 (rule:∀(i j:Int)(t u:Tok)(s:DM)(Q:DJ->DM->Prop)(E:DJ->DM->Prop),Q (.bool (g i j)) s->Eb (Ek X.prog X.w) X.A (f (.int i t) (.int j u)) Q E s) :
 De X f (BW fun i j=>.bl (g i j)):=by
 intro pins s σ H x y v u Q I rx ry h;obtain⟨i,j,rfl,rfl,q⟩:=h;obtain⟨t,rfl⟩:=rx;obtain⟨t',rfl⟩:=ry;exact rule i j t t' s _ _ ⟨.bl (g i j),H,I,rfl,q⟩
noncomputable def Ah(i j:Int):Prop:=0<=j/\j<=1000000/\i.natAbs<2^64
theorem vV:De X (GO .Add) (BW fun i j=>.int (i+j)):=zT fun _ _ _ _ _ _ _ q=>add_int q
theorem vR:De X (GO .Sub) (BW fun i j=>.int (i-j)):=zT fun _ _ _ _ _ _ _ q=>sub_int q
theorem sJ:De X (GO .Mod) (rI (fun _ j=>j≠0) fun i j=>.int (i.fmod j)):=B6 fun _ _ _ _ _ _ _ hc q=>mod_int' hc q
theorem vT:De X (GO .Pow) (rI Ah fun i j=>.int (i^j.toNat)):=B6 fun _ _ _ _ _ _ _ hc q=>pow_int_small hc.1 hc.2.1 hc.2.2 q
theorem Bv{f:DJ->Sem DJ}{g:Int->Int}
 (rule:∀(i:Int)(t:Tok)(s:DM)(Q:DJ->DM->Prop)(E:DJ->DM->Prop),Q (.int (g i) s.toks) {s with toks:=s.toks+1}->Eb (Ek X.prog X.w) X.A (f (.int i t)) Q E s) :
 CH X f (rU fun i=>.int (g i)):=by
 intro pins s σ H x v Q I rx h;obtain⟨i,rfl,q⟩:=h;obtain⟨t,rfl⟩:=rx;exact rule i t s _ _ ⟨.int (g i),H,I.tok _,⟨_,rfl⟩,q⟩
theorem uE:CH X (unaryOp .USub) (rU fun i=>.int (-i)):=Bv fun _ _ _ _ _ q=>neg_int q
end
noncomputable def AC:V->V->Bool
 | .non,.non=>true | .non,.int _=>true | .int _,.non=>true | .non,.bl _=>true | .bl _,.non=>true | .non,.str _=>true | .str _,.non=>true
 | .int _,.int _=>true | .bl _,.bl _=>true | .str _,.str _=>true | .byt _,.byt _=>true
 | .int _,.str _=>true | .str _,.int _=>true | .bl _,.str _=>true | .str _,.bl _=>true
 | _,_=>false
noncomputable def BU:R2:=fun x y H Q=>AC x y=true/\Q (.bl (!decide (x=y))) H
theorem tK{i j:Int}:decide (V.int i=V.int j)=(i==j):=by
 rw[Ip];simp
theorem wI{i j:Bool}:decide (V.bl i=V.bl j)=(i==j):=by
 rw[Ip];simp
theorem tJ{i j:Str}:decide (V.str i=V.str j)=(i==j):=by
 rw[Ip];simp
theorem tL{i j:Array UInt8}:decide (V.byt i=V.byt j)=(i.toList==j.toList):=by
 rw[Ip];cases i;cases j;simp
section
variable{X:Cx}{a b c:Expr}{ta tb tc:TE}{pos:Pos}
theorem bR{σ:St}{H:Hp}{Q:VK}{k k':Bool}(I:Inv X pins σ H s)(q:Q (.bl k) H)(e:k=k'):EP X pins σ Q (.bool k') s:=by
 subst e;exact⟨.bl k,H,I,rfl,q⟩
theorem sG:De X (G0 .NotEq) BU:=by
 intro pins s σ H x y v u Q I rx ry h;obtain⟨hs,q⟩:=h
 cases x with
 | non =>
   cases rx
   cases y with
   | non=>cases ry;exact PySem.EqNone.ne_none_none (bR I q (by simp))
   | bl j=>cases ry;exact PySem.EqNone.ne_none_bool (bR I q (by simp))
   | int j=>obtain⟨t',rfl⟩:=ry;exact PySem.EqNone.ne_none_int (bR I q (by simp))
   | str j=>obtain⟨t',rfl⟩:=ry;exact PySem.EqNone.ne_none_str (bR I q (by simp))
   | _=>exact absurd (show false=true from hs) D9
 | bl i =>
   cases rx
   cases y with
   | non=>cases ry;exact PySem.EqNone.ne_bool_none (bR I q (by simp))
   | bl j=>cases ry;exact ne_bool (bR I q (congrArg not wI))
   | str j=>obtain⟨t',rfl⟩:=ry;exact PySem.EqMixed.ne_bool_str (bR I q (by simp))
   | _=>exact absurd (show false=true from hs) D9
 | int i =>
   obtain⟨t,rfl⟩:=rx
   cases y with
   | non=>cases ry;exact PySem.EqNone.ne_int_none (bR I q (by simp))
   | int j=>obtain⟨t',rfl⟩:=ry;exact ne_int (bR I q (congrArg not tK))
   | str j=>obtain⟨t',rfl⟩:=ry;exact PySem.EqMixed.ne_int_str (bR I q (by simp))
   | _=>exact absurd (show false=true from hs) D9
 | str i =>
   obtain⟨t,rfl⟩:=rx
   cases y with
   | non=>cases ry;exact PySem.EqNone.ne_str_none (bR I q (by simp))
   | bl j=>cases ry;exact PySem.EqMixed.ne_str_bool (bR I q (by simp))
   | int j=>obtain⟨t',rfl⟩:=ry;exact PySem.EqMixed.ne_str_int (bR I q (by simp))
   | str j=>obtain⟨t',rfl⟩:=ry;exact ne_str (bR I q (congrArg not tJ))
   | _=>exact absurd (show false=true from hs) D9
 | byt i =>
   obtain⟨t,rfl⟩:=rx
   cases y with
   | byt j=>obtain⟨t',rfl⟩:=ry;exact W.ne_bytes (bR I q (congrArg not tL))
   | _=>exact absurd (show false=true from hs) D9
 | _=>cases y<;>exact absurd (show false=true from hs) D9
theorem oM:De X (G0 .Lt) (BW fun i j=>.bl (decide (i<j))):=wY fun _ _ _ _ _ _ _ q=>lt_int q
theorem yc:De X (G0 .LtE) (BW fun i j=>.bl (decide (i<=j))):=wY fun _ _ _ _ _ _ _ q=>le_int q
theorem oN:De X (G0 .Gt) (BW fun i j=>.bl (decide (j<i))):=wY fun _ _ _ _ _ _ _ q=>gt_int q
theorem yd:De X (G0 .GtE) (BW fun i j=>.bl (decide (j<=i))):=wY fun _ _ _ _ _ _ _ q=>ge_int q
theorem bA(b:Expr){op:CmpOp}(h:autoParam (op ≠ .In) æb._auto_1)(h2:autoParam (op ≠ .NotIn) æb._auto_1):Hu op b=false:=by
 have e1:(op==CmpOp.In)=false:=by cases op<;>first|rfl|exact absurd rfl h
 have e2:(op==CmpOp.NotIn)=false:=by cases op<;>first|rfl|exact absurd rfl h2
 cases b<;>simp[Hu,e1,e2]
theorem sD{op:CmpOp}{r:R2}(ho:De X (G0 op) r)(ha:PE X a ta)(hb:PE X b tb)(hm:Hu op b=false):PE X (.Compare a [op] [b] pos) (BG r ta tb):=by
 intro pins s σ H Q I h;exact wpAny_Compare1 (yI ha hb I h fun v u s2 x y H2 I2 rx ry q=>ho pins s2 σ H2 x y v u Q I2 rx ry q) hm
noncomputable def xJ(t:TE):TT:=fun σ H Q=>t σ H fun x H'=>∃k,x = .bl k/\Q k H'
theorem sd{op:CmpOp}{r:R2}(ho:De X (G0 op) r)(ha:PE X a ta)(hb:PE X b tb)(hm:Hu op b=false):PT X (.Compare a [op] [b] pos) (xJ (BG r ta tb)):=by
 intro pins s σ H Q I h
 refine wpAny_isTrue_Compare1 (BD (ha pins s σ H _ I h) fun v s1 ⟨x,H1,I1,r1,q1⟩=>BD (hb pins s1 σ H1 _ I1 q1) fun u s2 ⟨y,H2,I2,r2,q2⟩ =>
  BD (ho pins s2 σ H2 x y v u _ I2 r1 r2 q2) fun c s3 ⟨z,H3,I3,r3,k,e,q3⟩=>?_) hm
 subst e;cases r3;exact wpAny_truthy_bool ⟨H3,I3,q3⟩
theorem io:(sizeLine:Nat)<2^63:=by rw[Lj];decide
theorem vals1{x:V}(r:bP [x] us):∃u,us=[u]/\RelV x u:=by
 cases r with
 | cons r1 r2=>cases r2;exact⟨_,rfl,r1⟩
theorem pU:dS X (.builtin "abs") (fun xs H Q=>∃i,xs=[.int i]/\Q (.int (if i<0 then -i else i)) H):=by
 intro pins s σ H xs us Q I r h;obtain⟨i,rfl,q⟩:=h;obtain⟨u,rfl,t,rfl⟩:=vals1 r;exact call_abs_int fun u tk=>⟨.int (if i<0 then -i else i),H,I.tok _,⟨_,rfl⟩,q⟩
end
section
variable{prog:Ef}{w:EM}{A:ES}{E:DJ->DM->Prop}{s:DM}{K:W.Frag}{x dx C f:Addr}{mA:Str->Option DJ}{name:Str}{v:DJ}
end
theorem tX.some_of{v:V}{o:Option DJ}(r:tX (some v) o):∃u,o=some u/\RelV v u:=by
 cases o with
 | none=>exact(show False from r).elim
 | some u=>exact⟨u,rfl,r⟩
section
variable{P:Ef}{w:EM}{H H':Hp}{h h':Heap}{a C dx:Addr}{fs fs':List (Str×V)}
end
section
variable{X:Cx}{pins:List (Addr×Obj)}{σ:St}{H:Hp}{s:DM}{a C dx:Addr}{fs:List (Str×V)}{f:Str}{v:V}{A:ES}{E:DJ->DM->Prop}
end
section
variable{X:Cx}{o e value:Expr}{f:Str}{pos pos' tpos:Pos}{ta tv:TE}
end
section
variable{X:Cx}{pins:List (Addr×Obj)}{σ:St}{H:Hp}{s:DM}{A:ES}{E:DJ->DM->Prop}{Q:DJ->DM->Prop}{c:DJ}{b:Bool}
end
structure Room (k:Nat) (A:ES):Prop where
 hd:A.handled=none
 dp:A.depth+3*k+5<recursionLimit
 un:A.units+16*k+200<KW
 gd:A.guards=some []
theorem Room.mono{k:Nat}(r:Room k A)(h:j<=k):Room j A:=⟨r.hd,by have:=r.dp;omega,by have:=r.un;omega,r.gd⟩
theorem Room.deeper{k:Nat}(r:Room (k+1) A)(env:Env):Room k (A.deeper env) :=
 ⟨r.hd,by have:=r.dp;show A.depth+1+3*k+5<_;omega,by have:=r.un;show A.units+3+16*k+200<_;omega,r.gd⟩
theorem Room.depth{k:Nat}(r:Room k A):A.depth<recursionLimit:=by have:=r.dp;omega
theorem Room.units{k:Nat}(r:Room k A):A.units+64<KW:=by have:=r.un;omega
noncomputable def zJ:TA:=fun _ H Q=>Q [] H
noncomputable def uQ(ta:TE)(tr:TA):TA:=fun σ H Q=>ta σ H fun x H1=>tr σ H1 fun xs H2=>Q (x::xs) H2
section
variable{X:Cx}{e:Expr}{es:List Expr}{te:TE}{t:TA}{pos:Pos}
theorem jG:PA X [] zJ:=fun _ _ _ _ H Q I h=>Calls.spliced_nil ⟨[],H,I,.nil,h⟩
theorem eP(ha:PE X e te)(hr:PA X es t)(hs:autoParam (DY (e::es) X.env=(false,eval e X.env)::DY es X.env) æa._auto_1):PA X (e::es) (uQ te t):=by
 intro pos pins s σ H Q I h;rw[hs];show Eb _ _ (spliced ((false,eval e X.env)::Ge pos (DY es X.env))) _ _ s;refine Calls.spliced_cons (BD (ha pins s σ H _ I h) fun u s1 ⟨x,H1,I1,r1,q1⟩=>?_);exact BD (hr pos pins s1 σ H1 _ I1 q1) fun us s2 ⟨xs,H2,I2,r2,q2⟩=>⟨x::xs,H2,I2,.cons r1 r2,q2⟩
noncomputable def As(t:TA):TE:=fun σ H Q=>t σ H fun xs H1=>xs.length<=sizeLine/\∀p,H1 p=none->Q (.ref p) (Bt H1 p (.tup xs))
noncomputable def Aw(t:TA):TE:=fun σ H Q=>t σ H fun xs H1=>xs.length<=sizeLine/\∀p,H1 p=none->Q (.ref p) (Bt H1 p (.lst xs))
theorem vN{x1}(h:PA X es t):PE X (.Tuple es x1 pos) (As t):=by
 intro pins s σ H Q I hq;refine wpAny_Tuple_spliced (BD (h pos pins s σ H _ I hq) fun us s1 ⟨xs,H1,I1,r,z,q⟩=>⟨by rw[<- r.length];exact z,?_⟩);have hf:H1 s1.heap.objs.size=none:=I1.hok.fresh (DQ _);refine⟨.ref s1.heap.objs.size,Bt H1 s1.heap.objs.size (.tup xs),I1.laid (t':=s1.toks) (fun b u e=>DN _ e) (DQ _) ?_,rfl,q _ hf⟩;exact⟨z,us,r,nT.new _ _⟩
theorem vO(h:PA X es t):PE X (.List es pos) (Aw t):=by
 intro pins s σ H Q I hq;refine wpAny_List_spliced (BD (h pos pins s σ H _ I hq) fun us s1 ⟨xs,H1,I1,r,z,q⟩=>⟨by rw[<- r.length];exact z,?_⟩);have hf:H1 s1.heap.objs.size=none:=I1.hok.fresh (DQ _);refine⟨.ref s1.heap.objs.size,Bt H1 s1.heap.objs.size (.lst xs),I1.laid (t':=s1.toks) (fun b u e=>DN _ e) (DQ _) ?_,rfl,q _ hf⟩;exact⟨z,us,0,r,D3 _ rfl⟩
end
abbrev Sp:=List V->Hp->VK->XK->Prop
abbrev Dy:=List Env->Hp->DM->XK->DJ->DM->Prop
structure Env0 (P:Ef) (w:EM) (K:W.Frag) (mg:Str->Option DJ) (base:Heap) (A:ES) (outer:List Env) (s:DM) (H:Hp):Prop where
 frames:A.frames=some outer
 mod:Mod K mg base
 bs:∀b o,base.get? b=some o->s.heap.get? b=some o/\H b=none
 bsz:base.objs.size<=s.heap.objs.size
 funs:s.heap.FunFrames base outer
 frf:∀b∈frs outer,H b=none
 hok:Dx P w H s.heap
 bare:Ku s.gens
noncomputable def CE(outer:List Env)(P:Ef)(w:EM)(H:Hp)(s:DM)(Q:VK)(u:DJ)(s':DM):Prop :=
 ∃v H',s'.os=s.os/\Ku s'.gens/\Un (frs outer) [] H H' s.heap s'.heap/\Dx P w H' s'.heap/\RelV v u/\Q v H'
noncomputable def CR(CX:Dy)(outer:List Env)(P:Ef)(w:EM)(H:Hp)(s:DM)(Q:VK)(E:XK)(r:Result)(s':DM):Prop :=
 match r with
 | .ok (.ret u)=>CE outer P w H s Q u s'
 | .ok _=>False
 | .error e=>CX outer H s E e s'
structure FnOk (P:Ef) (w:EM) (K:W.Frag) (mg:Str->Option DJ) (base:Heap) (CX:Dy) (k:Nat) (f:Addr) (fd:GP) (ps:List Str) (sp:Sp):Prop where
 len:∀vs H Q E,sp vs H Q E->vs.length=ps.length
 run:∀(A:ES)(outer:List Env)(s:DM)(H:Hp)(args:Args)(us:List DJ)(vs:List V)(Q:VK)(E:XK),Room k A->Env0 P w K mg base A outer s H->Lk s fd args (ps.zip us)->bP vs us->sp vs H Q E ->
  GE (Ek P w) A (.call (.ref f) args) (CR CX outer P w H s Q E) s
section
variable{X:Cx}{pins:List (Addr×Obj)}{σ:St}{H:Hp}{s s':DM}
theorem Inv.env0(I:Inv X pins σ H s):Env0 X.prog X.w X.K X.mg X.base X.A X.stack s H :=
 ⟨I.ok.frames,I.ok.mod,I.bs,EC I.ok.bsz I.sz,I.stack,I.stkFree,I.hok,I.bare⟩
theorem Inv.after{Q:VK}(I:Inv X pins σ H s)(h:CE X.stack X.prog X.w H s Q u s'):EP X pins σ Q u s':=by
 obtain⟨v,H',os,bare,un,hok,r,q⟩:=h;obtain⟨hh,g,d,t,os'⟩:=s';obtain rfl:os'=s.os:=os;exact⟨v,H',I.call (h':=hh) (g':=g) (d':=d) (t':=t) (ch:=[]) un hok bare (fun b z=>absurd z (by simp)),r,q⟩
end
noncomputable def xP(sp:Sp)(dvs:List V)(E:XK)(t:TA):TE:=fun σ H Q=>t σ H fun vs H1=>sp (vs++dvs) H1 Q E
noncomputable def Binds(K:W.Frag)(fd:GP)(ps:List Str)(ds:List DJ):Prop :=
 ∀(s:DM)(us:List DJ),K.In s.heap->(us++ds).length=ps.length->Lk s fd ⟨us,[]⟩ (ps.zip (us++ds))
theorem Binds.all{K:W.Frag}{ps:List Str}(h:∀us:List DJ,us.length=ps.length->bindArgs fd ⟨us,[]⟩=pure (ps.zip us)):Binds K fd ps []:=fun s us _ hl=>by
 rw[FY]at hl ⊢;exact .of_eq (h us hl)
noncomputable def nQ(CX:Dy)(X:Cx)(E:XK):Prop:=∀(pins:List (Addr×Obj))(σ:St)(H:Hp)(s:DM)(e:DJ)(s':DM),Inv X pins σ H s->CX X.stack H s E e s'->X.xe e s'
section
variable{X:Cx}{CX:Dy}{k:Nat}{f C:Addr}{fd:GP}{ps:List Str}{sp:Sp}{dvs:List V}{ds:List DJ}{E:XK}{x m:Str}{p pos apos:Pos}{e o:Expr}{es:List Expr}{ta:TE}{t:TA}
theorem u_{σ:St}{H:Hp}{Q:VK}{vs:List V}(F:FnOk X.prog X.w X.K X.mg X.base CX k f fd ps sp)(hr:Room k X.A)(hb:Binds X.K fd ps ds)(hd:bP dvs ds)(hx:nQ CX X E)
 (I:Inv X pins σ H s)(r:bP vs us)(h:sp (vs++dvs) H Q E):Eb (Ek X.prog X.w) X.A (call (.ref f) us) (EP X pins σ Q) X.xe s:=by
 have r2:bP (vs++dvs) (us++ds):=r.append hd;have hl:(us++ds).length=ps.length:=by rw[<- r2.length];exact F.len _ _ _ _ h
 refine wpAny_call (Hn (F.run X.A X.stack s H ⟨us,[]⟩ (us++ds) (vs++dvs) Q E hr I.env0 (hb s us I.kIn hl) r2 h) fun r s' hq=>?_)
 cases r with
 | error e=>exact hx pins σ H s e s' I hq
 | ok fl =>
   cases fl with
   | ret u=>exact I.after hq
   | next=>exact Fq hq
   | brk=>exact Fq hq
   | cont=>exact Fq hq
theorem iW(F:FnOk X.prog X.w X.K X.mg X.base CX k f fd ps sp)(hr:Room k X.A)(hg:Gl X x)(hm:X.mg x=some (.ref f))(hk:W.keepIn X.K (.ref f)=true)(hb:Binds X.K fd ps ds)(hd:bP dvs ds)(hx:nQ CX X E)
 (ha:PA X (e::es) t)(hdb:autoParam ((x==("__debug__" : Str))=false) æb._auto_1)(he:autoParam (DY (e::es) X.env=(false,eval e X.env)::DY es X.env) æa._auto_1)(hpl:autoParam ((Ge pos (DY es X.env)).any (·.1)=false) æa._auto_1) :
 PE X (.Call (.Name x p) (e::es) [] pos) (xP sp dvs E t):=by
 intro pins s σ H Q I h;refine IN (mE I hg hm ?_ hdb);refine W.callWith_K (h₀:=X.base) I.ok.mod.kin hk (BD (ha pos pins s σ H _ I h) fun us s1 ⟨vs,H1,I1,r,q⟩=>⟨I1.kIn,?_⟩) he hpl;exact u_ F hr hb hd hx I1 r q
end
section
variable{X:Cx}{CX:Dy}{k:Nat}{f C:Addr}{fd:GP}{ps ks:List Str}{sp:Sp}{E:XK}{x m:Str}{p pos apos kpos:Pos}{e o:Expr}{es:List Expr}{kws:List IV}{te ta:TE}{t tk:TA}{nm:Option Str}
variable{g:List DJ->List DJ->List DJ}{gV:List V->List V->List V}
end
structure FnScope (N P:List Str) (sc:Scope):Prop where
 kind:sc.kind = .function
 co:sc.isCoroutine=false
 gen:sc.isGenerator=false
 nd:N.Nodup
 pre:N.take P.length=P
 par:∀x∈P,sc.names.lookup x=some .local\/sc.names.lookup x=some .cell
 nofree:∀y∈sc.names,y.2 ≠ .free
theorem iC{kindOf:Str->Option Hv}{x:Str}:∀{binds:List (Str×DJ)}{m:Str->Option DJ},(∀v,(x,v)∉binds)->bindL kindOf binds m x=m x
 | [],_,_=>rfl
 | (n,v)::r,m,h=>by
   unfold bindL;rw[iC fun w hw=>h w (DL _ hw)];split
   · have:x≠n:=by rintro rfl;exact h v DS
     simp[this]
   · rfl
theorem iE{kindOf:Str->Option Hv}{x:Str}:∀{binds:List (Str×DJ)}{m:Str->Option DJ},(∀v,(x,v)∉binds)->bindC kindOf binds m x=m x
 | [],_,_=>rfl
 | (n,v)::r,m,h=>by
   unfold bindC;rw[iE fun w hw=>h w (DL _ hw)];split
   · rfl
   · have:x≠n:=by rintro rfl;exact h v DS
     simp[this]
theorem iD{kindOf:Str->Option Hv}{x:Str}{v:DJ}:∀{P:List Str}{vs:List DJ}{i:Nat}{m:Str->Option DJ},P.Nodup->P[i]?=some x->vs[i]?=some v->kindOf x=some .local ->
 bindL kindOf (P.zip vs) m x=some v
 | [],_,_,_,_,h,_,_=>by simp at h
 | _::_,[],_,_,_,_,h,_=>by simp at h
 | p::P,w::vs,0,m,nd,h1,h2,hk=>by
   simp at h1 h2;subst h1;subst h2;show bindL kindOf ((p,w)::P.zip vs) m p=_;unfold bindL;rw[iC fun v hv=>(FB.mp nd).1 (E2 hv).1,if_pos hk]
   simp
 | p::P,w::vs,i+1,m,nd,h1,h2,hk=>by
   show bindL kindOf ((p,w)::P.zip vs) m x=_;unfold bindL;exact iD (i:=i) (FB.mp nd).2 (by simpa using h1) (by simpa using h2) hk
theorem iF{kindOf:Str->Option Hv}{x:Str}{v:DJ}:∀{P:List Str}{vs:List DJ}{i:Nat}{m:Str->Option DJ},P.Nodup->P[i]?=some x->vs[i]?=some v->kindOf x≠some .local ->
 bindC kindOf (P.zip vs) m x=some v
 | [],_,_,_,_,h,_,_=>by simp at h
 | _::_,[],_,_,_,_,h,_=>by simp at h
 | p::P,w::vs,0,m,nd,h1,h2,hk=>by
   simp at h1 h2;subst h1;subst h2;show bindC kindOf ((p,w)::P.zip vs) m p=_;unfold bindC;rw[iE fun v hv=>(FB.mp nd).1 (E2 hv).1,if_neg hk]
   simp
 | p::P,w::vs,i+1,m,nd,h1,h2,hk=>by
   show bindC kindOf ((p,w)::P.zip vs) m x=_;unfold bindC;exact iF (i:=i) (FB.mp nd).2 (by simpa using h1) (by simpa using h2) hk
noncomputable def start(N:List Str)(vs:List V):St:=vs.map some++DT (N.length-vs.length) none
noncomputable def nV(CX:Dy)(P:Ef)(w:EM)(K:W.Frag)(mg:Str->Option DJ)(base:Heap)(N:List Str)(qual:Str)(scope:Scope)(f:Addr)(cd:DJ)(A:ES)(outer:List Env)(s:DM)(H:Hp)(E:XK):Cx where
 prog:=P
 w:=w
 K:=K
 mg:=mg
 base:=base
 A:=A.deeper (JY qual scope s.heap.objs.size f cd)
 N:=N
 s₀:=s
 H₀:=H
 env:=JY qual scope s.heap.objs.size f cd
 outer:=outer
 stack:=JY qual scope s.heap.objs.size f cd::outer
 ex:=[]
 calm:=true
 fn:=fun _=>true
 pn:=[]
 xe:=fun e s'=>Eb (Ek P w) (A.deeper (JY qual scope s.heap.objs.size f cd)) (leaving (JY qual scope s.heap.objs.size f cd) e) (fun _ s''=>CX outer H s E e s'') (fun e' s''=>CX outer H s E e' s'') s'
theorem j8{sc:Scope}(h:sc.names.lookup x=some .cell):∃c,(FO n sc.names []).lookup x=some c:=by
 have q:=W.cellsFrom_some sc.names n [] (.inl h);exact GF.mp q
theorem mR{CX:Dy}{K:W.Frag}{base:Heap}{ps:List Str}{cd:DJ}{outer:List Env}{s1:DM}{H:Hp}{E:XK}{vs:List V}
 (S:FnScope N ps scope)(hd:A.handled=none)(e0:Env0 P w K mg base A outer s H)(hl:vs.length=ps.length)(r:bP vs us)
 (x:InCallC s s.heap.objs.size (bindL (JY qual scope s.heap.objs.size f cd).kindOf (ps.zip us) fun _=>none) (FO (s.heap.objs.size+1) scope.names []) (bindC (JY qual scope s.heap.objs.size f cd).kindOf (ps.zip us) fun _=>none) s1) :
 Inv (nV CX P w K mg base N qual scope f cd A outer s H E) [] (start N vs) H s1:=by
 have hpl:ps.length<=N.length:=by have:=congrArg List.length S.pre;rw[EU]at this;omega
 obtain⟨h1,tk,rfl,hk⟩:=x.done;have noA:∀b:Addr,b∉(nV CX P w K mg base N qual scope f cd A outer s H E).ex:=fun b z=>absurd (show b∈([]:List Addr)from z) (by simp)
 refine⟨⟨e0.mod,S.kind,rfl,rfl,DQ _,fun y z c h1 h2=>?_,fun y hy=>?_,fun y c _ h=>?_,fun _=>hd,ES.frames_deeper e0.frames,.inr ⟨rfl,rfl⟩,fun b z=>absurd z (noA b),e0.bs,e0.bsz,fun b _ _=>noA b,fun b z=>absurd z (noA b),e0.funs,e0.frf⟩,
  rfl,e0.bare,Un.kept hk,⟨_,x.toInCall.ns,fun i y v h1 h2 h3=>?_⟩,fun y c h=>⟨_,x.cell y c h⟩,e0.hok.fresh (DQ _),fun y c h=>?_,fun p hp=>absurd (show p∈([]:List (Addr×Obj))from hp) (by simp),e0.hok.kept hk,?_⟩
 · exact name_of_addr x.apart (EY h1) (EY h2)
 · have hy:scope.names.lookup y=some .cell\/scope.names.lookup y=some .free:=hy;rcases hy with hy|hy
   · exact j8 hy
   · exact absurd rfl (S.nofree _ (EY hy))
 · exact JW (x.above y c (EY h))
 · have hi:i<vs.length:=by
     unfold start at h2;by_cases hi:i<vs.length
     · exact hi
     · rw[IJ (by simpa using hi)]at h2;rw[Jr]at h2;split at h2<;>cases h2
   have ha:vs[i]?=some v:=by
    unfold start at h2;rw[Hb (by simpa using hi),Ez]at h2
    cases e:vs[i]? with
    | none=>rw[e]at h2;cases h2
    | some a=>rw[e]at h2;cases h2;rfl
   obtain⟨u,hu,rv⟩:=r.get ha
   have hp:ps[i]?=some y:=by
    rw[<- S.pre,List.getElem?_take_of_lt (by omega)];exact h1
   have ndP:ps.Nodup:=by rw[<- S.pre];exact S.nd.sublist (List.take_sublist _ _)
   refine⟨u,rv,?_⟩;rcases S.par y (Gf hp)with k|k
   · exact .inl ⟨k,iD ndP hp hu k⟩
   · obtain⟨c,e⟩:=j8 (n:=s.heap.objs.size+1) k;refine .inr ⟨.inl k,c,e,?_⟩;have q:=x.cell y c e;rw[iF ndP hp hu (by show scope.names.lookup y≠_;rw[k];decide)]at q;exact q
 · exact e0.hok.fresh (JW (x.above y c (EY h)))
 · unfold start;show _=N.length;rw[D7,DO,G1];omega
theorem yE{CX:Dy}{K:W.Frag}{base:Heap}{k:Nat}{name:Str}{params:Arguments}{body:List Stmt}{dV kV doc pm cdv ct oc:DJ}{an od:Option Addr}
 {osl:Array (Option DJ)}{ps:List Str}{sp:Sp}(lk:K.lookup f=some ⟨oc,od,.func (W.fnOf name qual params body scope dV kV doc pm an cdv ct),osl⟩)(hcd:W.codeIn K cdv qual=true)(S:FnScope N ps scope)
 (len:∀vs H Q E,sp vs H Q E->vs.length=ps.length)
 (hbody:∀(A:ES)(outer:List Env)(s:DM)(H:Hp)(vs:List V)(Q:VK)(E:XK),Room k (A.deeper (JY qual scope s.heap.objs.size f cdv))->sp vs H Q E ->
  ∃t,C3 (nV CX P w K mg base N qual scope f cdv A outer s H E) body t/\t {nx:=fun _ H'=>Q .non H',rt:=Q} (start N vs) H) :
 FnOk P w K mg base CX (k+1) f (W.fnOf name qual params body scope dV kV doc pm an cdv ct) ps sp:=by
 refine⟨len,fun A outer s H args us vs Q E hr e0 hb r hsp=>?_⟩;have hl:=len _ _ _ _ hsp;have KX:K.In s.heap:=e0.mod.kin.keeps fun b o e=>(e0.bs b o e).1;have lim:s.heap.NoLimit:=e0.mod.nolimit.keeps fun b o e=>(e0.bs b o e).1
 have hkind:∀y∈ps.zip us,scope.names.lookup y.1=some .local\/(scope.names.lookup y.1=some .cell/\((FO (s.heap.objs.size+1) scope.names []).lookup y.1).isSome=true):=fun⟨n,v⟩ hy=>by
  rcases S.par n (E2 hy).1 with q|q
  · exact .inl q
  · exact .inr ⟨q,W.cellsFrom_some _ _ _ (.inl q)⟩
 refine codeAny_call_function hr.depth (KX _ _ lk) rfl S.co S.gen rfl (W.codeRec_of KX hcd) (hb _ _ _ _ ?_);refine wpAny_newFunctionEnv_cells S.kind hkind fun env he s1 x=>?_;subst he;refine⟨lim.keeps x.toInCall.keep,codeAny_func ?_⟩;obtain⟨t,ht,hq⟩:=hbody A outer s H vs Q E (hr.deeper _) hsp;have I:Inv (nV CX P w K mg base N qual scope f cdv A outer s H E) [] (start N vs) H s1:=mR S hr.hd e0 hl r x;refine EL (ht [] s1 (start N vs) H _ I hq) (fun fl s' hs=>?_) fun e s' hs=>hs
 have fin:∀{σ':St}{H':Hp}{v:V}{u:DJ},Inv (nV CX P w K mg base N qual scope f cdv A outer s H E) [] σ' H' s'->RelV v u->Q v H'->CE outer P w H s Q u s' :=
  fun{σ' H' v u} J rv q=>⟨v,H',J.os,J.bare,J.base,J.hok,rv,q⟩
 cases fl with
 | ret u =>
   obtain⟨v,σ',H',J,rv,q⟩:=hs
   exact fin J rv q
 | next =>
   obtain⟨σ',H',J,q⟩:=hs
   exact fin (v:=V.non) (u:=GT) J rfl q
 | brk =>
   obtain⟨_,_,_,q⟩:=hs
   exact Fq q
 | cont =>
   obtain⟨_,_,_,q⟩:=hs;exact Fq q
section
variable{X:Cx}{x:Str}{p pos:Pos}{e:Expr}{es:List Expr}{t:TA}{id T:String}{r:List V->Hp->VK->Prop}
noncomputable def BJ(r:List V->Hp->VK->Prop)(t:TA):TE:=fun σ H Q=>t σ H fun vs H1=>r vs H1 Q
theorem jF(hc:dS X (.builtin id) r)(hg:Gl X x)(hm:X.mg x=none)(hv:Hl x=some (.builtin id))(ha:PA X (e::es) t)(hn:autoParam (x ≠ "__name__") æb._auto_1)(hdb:autoParam ((x==("__debug__" : Str))=false) æb._auto_1)
 (he:autoParam (DY (e::es) X.env=(false,eval e X.env)::DY es X.env) æa._auto_1)(hpl:autoParam ((Ge pos (DY es X.env)).any (·.1)=false) æa._auto_1):PE X (.Call (.Name x p) (e::es) [] pos) (BJ r t):=by
 intro pins s σ H Q I h;refine IN (jO I hg hm hv ?_ hn hdb);exact PyProof.Rows.callWith_builtin1 (BD (ha pos pins s σ H _ I h) fun us s1 ⟨vs,H1,I1,r1,q1⟩=>hc pins s1 σ H1 vs us Q I1 r1 q1) he hpl
theorem ii(hc:dS X (.type T) r)(hg:Gl X x)(hm:X.mg x=none)(hv:Hl x=some (.type T))(ha:PA X (e::es) t)(hn:autoParam (x ≠ "__name__") æb._auto_1)(hdb:autoParam ((x==("__debug__" : Str))=false) æb._auto_1)
 (he:autoParam (DY (e::es) X.env=(false,eval e X.env)::DY es X.env) æa._auto_1)(hpl:autoParam ((Ge pos (DY es X.env)).any (·.1)=false) æa._auto_1):PE X (.Call (.Name x p) (e::es) [] pos) (BJ r t):=by
 intro pins s σ H Q I h;refine IN (jO I hg hm hv ?_ hn hdb);exact GZ (BD (ha pos pins s σ H _ I h) fun us s1 ⟨vs,H1,I1,r1,q1⟩=>hc pins s1 σ H1 vs us Q I1 r1 q1) he hpl
end
end L2
variable{H H' F F' F₀ H₀:L2.Hp}{v:L2.V}{X:L2.Cx}{σ:L2.St}{vs:List L2.V}{kvs:List (List L2.Di×L2.V)}
namespace HT
open PySem PyProof.Rows
section
open PySem.SeqAt
open PySem.AutoSeq1 (wpAny_loadPart')
open PySem.MeetsSeq PySem.MeetsSeq2 PySem.MeetsSeq3
end
section
variable{prog:Ef}{w:EM}{A:ES}{E:DJ->DM->Prop}{s:DM}
theorem cat_tup{t:Addr}{vs ws:List DJ}(ht:IsTup s.heap t vs.toArray)(hb:IsTup s.heap b ws.toArray)(hv:vs≠[])
 (h1:ws=[]->Q (.ref t) s)(h2:ws≠[]->Q (.ref s.heap.objs.size) {s with heap:=s.heap.push {cls:=.type "tuple", data:=.seq (vs++ws).toArray}})
 (hsz:vs.length+ws.length<=sizeLine):Eb (Ek prog w) A (GO .Add (.ref t) (.ref b)) Q E s:=by
 obtain⟨⟨cls,dd,data,sl⟩,ho,hc,n,hd⟩:=id ht;obtain⟨⟨cls2,dd2,data2,sl2⟩,ho2,hc2,n2,hd2⟩:=id hb;simp only at hc hd hc2 hd2;subst hc hd hc2 hd2;have e:vs.toArray++ws.toArray=(vs++ws).toArray:=by simp
 by_cases hw:ws=[]
 · exact K5 ⟨_,ho,rfl⟩ ⟨_,ho2,rfl⟩ JG KN HB Hw (Ho _ _)
     (tuple_addW1 t b vs.toArray ws.toArray n n2 dd dd2 sl sl2 (by simpa using hv) (by simp[hw])) ⟨ho,ho2,h1 hw⟩
 · refine K5 ⟨_,ho,rfl⟩ ⟨_,ho2,rfl⟩ JG KN HB Hw (Ho _ _)
     (tuple_addW2 t b vs.toArray ws.toArray n n2 dd dd2 sl sl2 (by simpa using hv) (by simpa using hw) (by rw[DZ,DZ];exact hsz)) ⟨ho,ho2,?_⟩
   rw[e];exact h2 hw
noncomputable def sIx(n d:Nat):Option Int->Nat
 | none=>d
 | some v=>if v<0 then(v+(n:Int)).toNat else min v.toNat n
theorem sIx_none(n d:Nat):sIx n d none=d:=rfl
theorem sIx_nat(n d k:Nat):sIx n d (some (k:Int))=min k n:=by
 show(if(k:Int)<0 then((k:Int)+(n:Int)).toNat else min (k:Int).toNat n)=min k n;rw[if_neg (by omega),Eh]
theorem u9(n d:Nat)(hd:d<=n)(o:Option Int):sIx n d o<=n:=by
 cases o with
 | none=>exact hd
 | some v =>
   show(if v<0 then(v+(n:Int)).toNat else min v.toNat n)<=n;by_cases hv:v<0
   · rw[if_pos hv];omega
   · rw[if_neg hv];exact Nat.min_le_right _ _
theorem nG(v:Int)(n d:Nat):(if v<0 then max (v+(n:Int)) 0 else min v (n:Int))=((sIx n d (some v):Nat):Int):=by
 show(if v<0 then max (v+(n:Int)) 0 else min v (n:Int))=(((if v<0 then(v+(n:Int)).toNat else min v.toNat n):Nat):Int);by_cases hv:v<0
 · simp only[if_pos hv];omega
 · simp only[if_neg hv];omega
theorem kN(lo hi:Option Int)(n:Nat):Hd lo hi 1 (n:Int)=(((sIx n 0 lo:Nat):Int),((sIx n n hi:Nat):Int)):=by
 have h1:¬((1:Int)<0):=by omega
 unfold Hd;simp only[h1,if_false];refine Prod.ext ?_ ?_
 · cases lo with
   | none=>rfl
   | some v=>exact nG v n 0
 · cases hi with
   | none=>rfl
   | some v=>exact nG v n n
theorem kD(i j:Nat):Gy (i:Int) (j:Int) 1=j-i:=by
 unfold Gy;have h1:(1:Int)>0:=by omega
 simp only[h1,if_true,Int.ediv_one];split<;>omega
theorem fR{v:DJ}{o:Option Int}{Q:Option Int->DM->Prop}(p:KO v o)(h:Q o s):Eb (Ek prog w) A (Builtin.Slice.slicePartIndex v) Q E s:=by
 cases p with
 | none=>exact slicePart_none h
 | int i t=>exact slicePart_int h
theorem sliceApplied_gen{sl:Addr}{vl vu:DJ}{lo hi:Option Int}{Q:Int×Int×Nat->DM->Prop}(hs:s.heap.IsSliceOf sl vl vu .none)(pl:KO vl lo)(pu:KO vu hi)
 (h:Q (((sIx n 0 lo:Nat):Int),1,sIx n n hi-sIx n 0 lo) s):Eb (Ek prog w) A (IK (.ref sl) (pure (n:Int))) Q E s:=by
 obtain⟨os,hos,hcs,hds⟩:=id hs;unfold IK Builtin.Slice.sliceFields;refine DI (DI (FC hos hds (x:=vl) rfl (DI (FC hos hds (x:=vu) rfl (DI (FC hos hds (x:=.none) rfl (DK ?_)))))));refine DI (slicePart_none ?_);show Eb _ _ (if((1:Int)==0)=true then _ else _) _ _ s;rw[if_neg (by decide)];refine DI (fR pl (DI (fR pu (DI (DK ?_)))));show Eb _ _ (match Hd lo hi 1 (n:Int)with|(lo,hi)=>pure (lo,(1:Int),Gy lo hi 1)) _ _ s;rw[kN lo hi n];show Eb _ _ (pure (((sIx n 0 lo:Nat):Int),(1:Int),Gy ((sIx n 0 lo:Nat):Int) ((sIx n n hi:Nat):Int) 1)) _ _ s;rw[kD];exact DK h
theorem oI(xs:Array DJ)(i k:Nat):((D8 k).filterMap fun(m:Nat)=>xs[((i:Int)+(m:Int)*1).toNat]?).toArray=((xs.toList.drop i).take k).toArray:=by
 have e:(fun(m:Nat)=>xs[((i:Int)+(m:Int)*1).toNat]?)=fun m=>xs[i+m]?:=by
  funext m;have:((i:Int)+(m:Int)*1).toNat=i+m:=by omega
  rw[this]
 rw[e];have:=pick_run xs i k;rw[IP]at this;have e2:((fun x=>xs[x]?) ∘ fun x=>i+x)=fun m=>xs[i+m]?:=rfl;rw[e2]at this;rw[this]
theorem getItem_tuple_cut{t sl:Addr}{items:Array DJ}{vl vu:DJ}{lo hi:Option Int}(ht:IsTup s.heap t items)(hs:s.heap.IsSliceOf sl vl vu .none)(pl:KO vl lo)(pu:KO vu hi)
 (hw:¬(sIx items.size 0 lo=0/\sIx items.size items.size hi=items.size))
 (h:Q (.ref s.heap.objs.size) {s with heap:=s.heap.push {cls:=.type "tuple", data:=.seq ((items.toList.drop (sIx items.size 0 lo)).take (sIx items.size items.size hi-sIx items.size 0 lo)).toArray}})
 (hsz:items.size<=sizeLine):Eb (Ek prog w) A (Js (.ref t) (.ref sl)) Q E s:=by
 have htake:sizeOk (.seq ((items.toList.drop (sIx items.size 0 lo)).take (sIx items.size items.size hi-sIx items.size 0 lo)).toArray):=by
  show((items.toList.drop (sIx items.size 0 lo)).take (sIx items.size items.size hi-sIx items.size 0 lo)).toArray.size<=sizeLine;rw[DZ,EU,GQ,DU];omega
 have hj:sIx items.size items.size hi<=items.size:=u9 _ _ (DQ _) hi;obtain⟨os,hos,hcs,hds⟩:=id hs;have hTs:s.TypeIs (.ref sl) "slice" := ⟨os,hos,hcs⟩;unfold Js
 try with_reducible refine Gg ?_
 first|refine DI (DK ?_)|skip
 refine DI (Jd ht.typeIs (by decide) ?_)
 refine DI (EQ (name:=Gj "__getitem__") ht.typeIs EH
  (Fh EH ht.typeIs entry_tuple_getitem ?_ (args_tuple_getitem _ _)))
 show Eb _ _ (IL (.ref t) >>= _) _ _ s;refine DI (tupleItemsOf_ ht ?_);refine DI (JZ hTs ?_);rw[if_pos (by decide)];refine DI (sliceApplied_gen hs pl pu ?_)
 have hno:¬((((sIx items.size 0 lo:Nat):Int)==0&&(1:Int)==1&&(sIx items.size items.size hi-sIx items.size 0 lo)==items.size)=true):=by
  intro q;rw[Bool.and_eq_true,Bool.and_eq_true]at q;have q1:((sIx items.size 0 lo:Nat):Int)=0:=eq_of_beq q.1.1;have q2:sIx items.size items.size hi-sIx items.size 0 lo=items.size:=eq_of_beq q.2;exact hw ⟨by omega,by omega⟩
 show Eb _ _ (if(((sIx items.size 0 lo:Nat):Int)==0&&(1:Int)==1&&(sIx items.size items.size hi-sIx items.size 0 lo)==items.size)=true then _ else _) _ _ s;rw[if_neg hno,oI]
 first
  | exact DI (m:=GG _) (EG (DK ⟨_,rfl,DK h⟩) htake)
  | exact DI (m:=GG _) (EG (DI (DK (DK ⟨_,rfl,DK h⟩))) htake)
  | exact DI (DI (m:=GG _) (EG (DK (DK ⟨_,rfl,DK h⟩)) htake))
  | exact DI (DI (m:=GG _) (EG (DK ⟨_,rfl,DK h⟩) htake))
end
end HT
namespace L2
abbrev TO:=St->Hp->(Option Int->Hp->Prop)->Prop
noncomputable def PO(X:Cx)(e:Option Expr)(t:TO):Prop :=
 ∀ (pins:List (Addr×Obj))(s:DM)(σ:St)(H:Hp)(Q:Option Int->Hp->Prop),Inv X pins σ H s->t σ H Q ->
   Eb (Ek X.prog X.w) X.A (evalPart e X.env) (fun u s'=>∃o H',Inv X pins σ H' s'/\KO u o/\Q o H') X.xe s
noncomputable def rC:TO:=fun _ H Q=>Q none H
noncomputable def xK(t:TE):TO:=fun σ H Q=>t σ H fun x H1=>∃i,x = .int i/\Q (some i) H1
theorem intsAre_of:∀{us:List DJ},bP (ns.map V.int) us->HW us ns:=by
 induction ns with
 | nil=>intro us r;rw[HP]at r;cases r;exact .nil
 | cons n ns ih =>
   intro us r;rw[Ew]at r
   cases r with
   | cons r1 r2 =>
     obtain⟨t,e⟩:=r1;subst e;exact .cons n t (ih r2)
section
variable{X:Cx}{e:Expr}{te:TE}{lo hi:Option Expr}{tl th:TO}{pos p2:Pos}
theorem su:PO X none rC:=by
 intro pins s σ H Q I h;rw[evalPart_none];exact DK ⟨none,H,I,.none,h⟩
theorem sr(h:PE X e te):PO X (some e) (xK te):=by
 intro pins s σ H Q I hw;rw[evalPart_some];refine BD (h pins s σ H _ I hw) fun u s1 ⟨x,H1,I1,r1,q1⟩=>?_;obtain⟨i,rfl,q⟩:=q1;obtain⟨t,rfl⟩:=r1;exact⟨some i,H1,I1,.int i t,q⟩
noncomputable def CV(X:Cx)(r:V->Option Int->Option Int->Hp->VK->Prop):Prop :=
 ∀ (pins:List (Addr×Obj))(s:DM)(σ:St)(H:Hp)(x:V)(v vl vu:DJ)(lo hi:Option Int)(sl:Addr)(Q:VK),Inv X pins σ H s->RelV x v->s.heap.IsSliceOf sl vl vu .none->KO vl lo->KO vu hi->r x lo hi H Q ->
   ∃T id,typeLookup (.type T) "__getitem__" = pure (some (.builtin id))/\s.TypeIs v T/\Eb (Ek X.prog X.w) X.A (Js v (.ref sl)) (EP X pins σ Q) X.xe s
noncomputable def BF(r:V->Option Int->Option Int->Hp->VK->Prop)(te:TE)(tl th:TO):TE:=fun σ H Q=>te σ H fun x H1=>tl σ H1 fun l H2=>th σ H2 fun u H3=>r x l u H3 Q
theorem jC{r:V->Option Int->Option Int->Hp->VK->Prop}(hr:CV X r)(he:PE X e te)(hl:PO X lo tl)(hu:PO X hi th):PE X (.Subscript e (.Slice lo hi none p2) pos) (BF r te tl th):=by
 intro pins s σ H Q I h;refine Subscript_ (BD (he pins s σ H _ I h) fun v s1 ⟨x,H1,I1,r1,q1⟩=>?_);refine wpAny_Slice (BD (hl pins s1 σ H1 _ I1 q1) fun vl s2 ⟨l,H2,I2,pl,q2⟩=>BD (hu pins s2 σ H2 _ I2 q2) fun vu s3 ⟨u,H3,I3,pu,q3⟩=>?_);rw[evalPart_none];refine DK ?_;have I4:Inv X pins σ H3 {s3 with heap:=s3.heap.push {cls:=.type "slice", data:=.fields #[vl,vu,.none]}}:=I3.kept (t':=s3.toks) fun b ob q=>DN _ q;obtain⟨T,id,hT,ht,hg⟩:=hr pins {s3 with heap:=s3.heap.push {cls:=.type "slice", data:=.fields #[vl,vu,.none]}} σ H3 x v vl vu l u s3.heap.objs.size Q I4 r1 (Heap.IsSliceOf.new ..) pl pu q3;show Eb (Ek X.prog X.w) X.A (KP e (.Slice lo hi none p2) v (.ref s3.heap.objs.size)) (EP X pins σ Q) X.xe {s3 with heap:=s3.heap.push {cls:=.type "slice", data:=.fields #[vl,vu,.none]}};exact tail_any (ops:=[.ref s3.heap.objs.size,v]) ht hT hg (by with_unfolding_all rfl)
noncomputable def pO(xs:List V)(lo hi:Option Int):List V:=(xs.drop (HT.sIx xs.length 0 lo)).take (HT.sIx xs.length xs.length hi-HT.sIx xs.length 0 lo)
theorem e8(xs:List V)(lo hi:Option Int):(pO xs lo hi).length<=xs.length:=by
 unfold pO;rw[EU,GQ];omega
noncomputable def zL(K:W.Frag):V->Option Int->Option Int->Hp->VK->Prop:=fun x lo hi H Q=>∃a xs,x = .ref a/\CQ K H a xs /\
 ¬(HT.sIx xs.length 0 lo=0/\HT.sIx xs.length xs.length hi=xs.length)/\∀p,H p=none->Q (.ref p) (Bt H p (.tup (pO xs lo hi)))
theorem uV:CV X (zL X.K):=by
 intro pins s σ H x v vl vu lo hi sl Q I rx hs pl pu h;obtain⟨a,xs,rfl,hx,hw,q⟩:=h;cases rx;obtain⟨its,r,ht,hz⟩:=I.tuple hx;have hlen:its.toArray.size=xs.length:=by rw[DZ];exact r.length.symm
 refine⟨"tuple", _,EH.lookup,ht.typeIs,?_⟩;refine HT.getItem_tuple_cut ht hs pl pu (by rw[hlen];exact hw) ?_ (by rw[hlen];exact hz);rw[hlen];refine⟨.ref s.heap.objs.size,_,I.laid (t':=s.toks) (o:=.tup (pO xs lo hi)) (fun b ob q=>DN _ q) (DQ _) ?_,rfl,q _ (I.hok.fresh (DQ _))⟩;exact⟨EC (e8 xs lo hi) hz,_,(r.drop (HT.sIx xs.length 0 lo)).take (HT.sIx xs.length xs.length hi-HT.sIx xs.length 0 lo),nT.new _ _⟩
noncomputable def rW(K:W.Frag):R2:=fun x y H Q=>∃a b xs ys,x = .ref a/\y = .ref b/\CQ K H a xs/\CQ K H b ys/\xs≠[]/\xs.length+ys.length<=sizeLine /\
 (ys=[]->Q (.ref a) H)/\(ys≠[]->∀p,H p=none->Q (.ref p) (Bt H p (.tup (xs++ys))))
theorem bP.nil_iff{xs:List V}(r:bP xs us):us=[]↔xs=[]:=by
 cases r with
 | nil=>simp
 | cons _ _=>simp
theorem sK:De X (GO .Add) (rW X.K):=by
 intro pins s σ H x y v u Q I rx ry h;obtain⟨a,b,xs,ys,rfl,rfl,ha,hb,hx,hz,q1,q2⟩:=h;cases rx;cases ry;obtain⟨its,r1,p1,_⟩:=I.tuple ha;obtain⟨its2,r2,p2,_⟩:=I.tuple hb;refine HT.cat_tup p1 p2 (fun z=>hx (r1.nil_iff.mp z)) (fun z=>⟨.ref a,H,I,rfl,q1 (r2.nil_iff.mp z)⟩) (fun z=>?_) (by rw[<- r1.length,<- r2.length];exact hz);refine⟨.ref s.heap.objs.size,_,I.laid (t':=s.toks) (o:=.tup (xs++ys)) (fun b ob q=>DN _ q) (DQ _) ?_,rfl,q2 (fun w=>z (r2.nil_iff.mpr w)) _ (I.hok.fresh (DQ _))⟩;exact⟨by rw[D7];exact hz,_,r1.append r2,nT.new _ _⟩
end
noncomputable def ixN(n:Nat)(i:Int):Option Nat:=if 0<=i then(if i<n then some i.toNat else none)else if -(n:Int)<=i then some (i+n).toNat else none
noncomputable def atI{α:Type}(xs:List α)(i:Int):Option α:=(ixN xs.length i).bind fun j=>xs[j]?
theorem mL{i:Int}(h:ixN n i=some j):seqIndex? i n=some j/\j<n /\ -(n:Int)<=i/\i<n:=by
 unfold ixN at h;by_cases h0:0<=i
 · rw[if_pos h0]at h;by_cases h1:i<n
   · rw[if_pos h1]at h;have e:i.toNat=j:=Eu h;exact⟨by rw[Ll h0 h1,e],by omega,by omega,h1⟩
   · rw[if_neg h1]at h;cases h
 · rw[if_neg h0]at h;by_cases h1 : -(n:Int)<=i
   · rw[if_pos h1]at h;have e:(i+n).toNat=j:=Eu h;exact⟨by rw[K6 (by omega) h1,e],by omega,h1,by omega⟩
   · rw[if_neg h1]at h;cases h
theorem jb{xs:List α}{i:Int}{v:α}(h:atI xs i=some v):∃j,seqIndex? i xs.length=some j/\xs[j]?=some v/\j<xs.length /\ -(xs.length:Int)<=i/\i<xs.length:=by
 unfold atI at h
 cases e:ixN xs.length i with
 | none=>rw[e]at h;cases h
 | some j =>
   rw[e]at h;obtain⟨h1,h2,h3,h4⟩:=mL e;exact⟨j,h1,h,h2,h3,h4⟩
theorem fg{xs:List α}{v:α}(h:xs[j]?=some v):atI xs (j:Int)=some v:=by
 have hj:j<xs.length:=(Ec.mp h).1
 have e:ixN xs.length (j:Int)=some j:=by
  unfold ixN;rw[if_pos (by omega),if_pos (by omega)];simp
 unfold atI;rw[e];exact h
noncomputable def gT(b:Expr):Prop:=∀o i,Kw b false o i=operate [o,i] (Js o i)
noncomputable def Dn(X:Cx)(r:R2):Prop :=
 ∀ (value slice:Expr)(pins:List (Addr×Obj))(s:DM)(σ:St)(H:Hp)(x y:V)(v u:DJ)(Q:VK),Inv X pins σ H s->RelV x v->RelV y u->r x y H Q ->
   Kw slice false v u=operate [v,u] (Js v u)->Eb (Ek X.prog X.w) X.A (KP value slice v u) (EP X pins σ Q) X.xe s
noncomputable def Dg(X:Cx)(id:String)(r:V->List V->Hp->VK->Prop):Prop :=
 ∀ (pins:List (Addr×Obj))(s:DM)(σ:St)(H:Hp)(x:V)(xs:List V)(v:DJ)(us:List DJ)(Q:VK),Inv X pins σ H s->RelV x v->bP xs us->r x xs H Q ->
   Eb (Ek X.prog X.w) X.A (call (.builtin id) (v::us)) (EP X pins σ Q) X.xe s
section
variable{X:Cx}{a b:Expr}{ta tb:TE}{pos:Pos}
theorem Dn.or{r r':R2}(h:Dn X r)(h':Dn X r'):Dn X (fun x y H Q=>r x y H Q\/r' x y H Q):=by
 intro value slice pins s σ H x y v u Q I rx ry q hs;rcases q with q|q
 · exact h value slice pins s σ H x y v u Q I rx ry q hs
 · exact h' value slice pins s σ H x y v u Q I rx ry q hs
theorem sA{r:R2}(hr:Dn X r)(ha:PE X a ta)(hb:PE X b tb)(hs:gT b):PE X (.Subscript a b pos) (BG r ta tb):=by
 intro pins s σ H Q I h;exact Subscript_ (yI ha hb I h fun v u s2 x y H2 I2 rx ry q=>hr a b pins s2 σ H2 x y v u Q I2 rx ry q (hs _ _))
noncomputable def zP(K:W.Frag):R2:=fun x y H Q=>∃p xs i v,x = .ref p/\y = .int i/\CS K H p xs/\atI xs i=some v/\Q v H
noncomputable def zN(K:W.Frag):R2:=fun x y H Q=>∃p xs i v,x = .ref p/\y = .int i/\CQ K H p xs/\atI xs i=some v/\Q v H
noncomputable def zO:R2:=fun x y H Q=>∃z i c,x = .str z/\y = .int i/\z.length<=sizeLine/\atI z.cps.toList i=some c/\Q (.str ⟨#[c]⟩) H
theorem yo:Dn X (zP X.K):=by
 intro value slice pins s σ H x y v u Q I rx ry h hs;obtain⟨p,xs,i,z,rfl,rfl,hq,he,q⟩:=h;cases rx;obtain⟨t,rfl⟩:=ry;obtain⟨its,r,pl,hz⟩:=I.list hq;obtain⟨j,h1,h2,h3,h4,h5⟩:=jb he;obtain⟨w,ew,rw'⟩:=r.get h2;have hl:=r.length;have hn:=io;have fin:EP X pins σ Q w s:=⟨z,H,I,rw',q⟩;by_cases h0:0<=i
 · have hj:i.toNat=j:=by
     rw[Ll h0 h5]at h1;exact Eu h1
   exact item_listR pl.isList h0 (by omega) (by rw[hj];simpa using ew) fin hs
 · have hj:(i+(its.toArray.size:Int)).toNat=j:=by
     rw[K6 (by omega) h4]at h1;rw[DZ,<- hl];exact Eu h1
   exact JO (x:=w) pl.isList.typeIs slot_list_getitem.lookup
    (wpAny_getItem_list_neg (Q:=fun r s'=>r=w/\EP X pins σ Q r s') pl.isList (by omega) (by rw[DZ]<;>omega) (by omega) (by rw[hj];simpa using ew) ⟨rfl,fin⟩) hs
theorem zW:Dn X (zN X.K):=by
 intro value slice pins s σ H x y v u Q I rx ry h hs;obtain⟨p,xs,i,z,rfl,rfl,hq,he,q⟩:=h;cases rx;obtain⟨t,rfl⟩:=ry;obtain⟨its,r,pl,hz⟩:=I.tuple hq;obtain⟨j,h1,h2,h3,h4,h5⟩:=jb he;obtain⟨w,ew,rw'⟩:=r.get h2;have hl:=r.length;have hn:=io;have fin:EP X pins σ Q w s:=⟨z,H,I,rw',q⟩
 exact JO (x:=w) pl.typeIs slot_tuple_getitem.lookup
  (getItem_tuple (j:=j) (Q:=fun r s'=>r=w/\EP X pins σ Q r s') pl (by omega) (by omega) (by rw[DZ,<- hl];exact h1) (by simpa using ew) ⟨rfl,fin⟩) hs
theorem we:Dn X zO:=by
 intro value slice pins s σ H x y v u Q I rx ry h hs;obtain⟨z,i,c,rfl,rfl,hz,he,q⟩:=h;obtain⟨t,rfl⟩:=rx;obtain⟨t',rfl⟩:=ry;obtain⟨j,h1,h2,h3,h4,h5⟩:=jb he;have hl:z.cps.toList.length=z.length:=by simp[Str.length]
 rw[hl]at h1 h4 h5;have hn:=io
 exact tail_any (typeIs_str s z t) slot_str_getitem.lookup (getItem_str (c:=c) (by
  have e1:decide (i < -(2^63:Int))=false:=decide_eq_false (by omega);have e2:decide (i ≥ 2^63)=false:=decide_eq_false (by omega)
  rw[e1,e2,Bool.or_false]) (by rw[h1];simpa using h2) ⟨.str ⟨#[c]⟩,H,I.tok _,⟨_,rfl⟩,q⟩) hs
noncomputable def BV(K:W.Frag):R2:=fun x y H Q=>zP K x y H Q\/zN K x y H Q\/zO x y H Q
theorem mK:Dn X (BV X.K):=yo.or (zW.or we)
theorem kG(its:List DJ)(n j:Nat)(u:DJ):Je (·.setIfInBounds j u) {cls:=.type "list", data:=.seq its.toArray n}={cls:=.type "list", data:=.seq (its.set j u).toArray n}:=by
 simp[Je]
theorem Inv.lst{pins:List (Addr×Obj)}{σ:St}{H:Hp}{s:DM}{p:Addr}{xs:List V}(I:Inv X pins σ H s)(h:H p=some (.lst xs)) :
 ∃(its:List DJ)(n:Nat),bP xs its/\s.heap.get? p=some {cls:=.type "list", data:=.seq its.toArray n}/\xs.length<=sizeLine:=by
 obtain⟨z,its,n,r,e⟩:=I.hok p _ h;exact⟨its,n,r,e,z⟩
theorem Inv.lstUpd{p:Addr}{xs ys:List V}{its its':List DJ}{n':Nat}{f:Obj->Obj}(I:Inv X pins σ H s)(h:H p=some (.lst xs))
 (ho:s.heap.get? p=some {cls:=.type "list", data:=.seq its.toArray n})(hf:f {cls:=.type "list", data:=.seq its.toArray n}={cls:=.type "list", data:=.seq its'.toArray n' })(r:bP ys its')(hz:ys.length<=sizeLine)(t:Nat) :
 Inv X pins σ (Bt H p (.lst ys)) {s with heap:=s.heap.update p f,toks:=t}:=by
 have e:(s.heap.update p f).get? p=some {cls:=.type "list", data:=.seq its'.toArray n' }:=by
  rw[Gu f ho (by rw[hf]<;>rfl),hf]
 refine I.write (x:=p) (e:=p) (by rw[h];trivial) (.inl rfl) (fun b u hb q=>(GU _ _ (Im hb)).trans q) ⟨_,e⟩ ?_;exact⟨hz,its',n',r,e⟩
noncomputable def xV:V->V->V->Hp->(Hp->Prop)->Prop:=fun o i v H Q=>∃p xs k j,o = .ref p/\i = .int k/\H p=some (.lst xs)/\ixN xs.length k=some j/\Q (Bt H p (.lst (xs.set j v)))
theorem oB:Ae X xV:=by
 intro pins s σ H o i v ov iv u Q I ro ri rv h;obtain⟨p,xs,k,j,rfl,rfl,hp,hj,q⟩:=h;cases ro;obtain⟨t,rfl⟩:=ri;obtain⟨its,n,r,ho,hz⟩:=I.lst hp;obtain⟨h1,h2,h3,h4⟩:=mL hj;have hl:=r.length;have hn:=io
 have I':Inv X pins σ (Bt H p (.lst (xs.set j v))) {s with heap:=s.heap.update p (Je (·.setIfInBounds j u))} :=
  I.lstUpd hp ho (kG its n j u) (r.set rv j) (by rw[List.length_set];exact hz) s.toks
 by_cases h0:0<=k
 · have hk:k.toNat=j:=by
     rw[Ll h0 h4]at h1;exact Eu h1
   exact W.ki_setAt ho h0 (by omega) (by rw[DZ,<- hl];exact h4) (by rw[hk];exact⟨_,I',q⟩)
 · have hk:(k+(its.toArray.size:Int)).toNat=j:=by
     rw[K6 (by omega) h3]at h1;rw[DZ,<- hl];exact Eu h1
   exact W.ki_setBack ho (by omega) (by rw[DZ,<- hl];exact h3) (by omega) (by rw[hk];exact⟨_,I',q⟩)
theorem hC(lo hi:Option Int)(n:Nat):(HE lo hi none n).1=((HT.sIx n 0 lo:Nat):Int)/\(HE lo hi none n).2.1=((HT.sIx n n hi:Nat):Int)/\(HE lo hi none n).2.2=1:=by
 refine⟨?_,?_,rfl⟩
 · cases lo with
   | none=>simp[HE,HT.sIx]
   | some i =>
     simp only[HE,HT.sIx,Option.getD_none,show(1:Int)>0 by decide,if_true];by_cases h:i<0
     · simp only[h,if_true]<;>omega
     · simp only[h,if_false]<;>omega
 · cases hi with
   | none=>simp[HE,HT.sIx]
   | some i =>
     simp only[HE,HT.sIx,Option.getD_none,show(1:Int)>0 by decide,if_true];by_cases h:i<0
     · simp only[h,if_true]<;>omega
     · simp only[h,if_false]<;>omega
theorem gv(its:List DJ)(lo hi:Option Int):slicePick its.toArray lo hi none=((its.drop (HT.sIx its.length 0 lo)).take (HT.sIx its.length its.length hi-HT.sIx its.length 0 lo)).toArray:=by
 obtain⟨h1,h2,h3⟩:=hC lo hi its.toArray.size;unfold slicePick;rw[h1,h2,h3];simp only[sliceRange_one,pick_run,DZ]<;>rfl
noncomputable def AE(K:W.Frag):V->Option Int->Option Int->Hp->VK->Prop:=fun x lo hi H Q=>∃a xs,x = .ref a/\CS K H a xs/\∀p,H p=none->Q (.ref p) (Bt H p (.lst (pO xs lo hi)))
theorem rK:CV X (AE X.K):=by
 intro pins s σ H x v vl vu lo hi sl Q I rx hs pl pu h;obtain⟨a,xs,rfl,hx,q⟩:=h;cases rx;obtain⟨its,r,ht,hz⟩:=I.list hx;have hlen:=r.length;refine⟨"list", _,slot_list_getitem.lookup,ht.isList.typeIs,?_⟩;refine wpAny_getItem_list_slice ht.isList hs pl pu .none (by simp) ?_ (by rw[DZ]<;>omega);rw[gv,<- hlen];refine⟨.ref s.heap.objs.size,_,I.laid (t':=s.toks) (o:=.lst (pO xs lo hi)) (fun b ob q=>DN _ q) (DQ _) ?_,rfl,q _ (I.hok.fresh (DQ _))⟩;exact⟨EC (e8 xs lo hi) hz,_,0,(r.drop (HT.sIx xs.length 0 lo)).take (HT.sIx xs.length xs.length hi-HT.sIx xs.length 0 lo),D3 _ rfl⟩
theorem iB:dS X (.builtin "len") (fun xs H Q=>∃p ys,xs=[.ref p]/\(CS X.K H p ys\/CQ X.K H p ys)/\Q (.int ys.length) H):=by
 intro pins s σ H xs us Q I r h;obtain⟨p,ys,rfl,hq,q⟩:=h;obtain⟨u,rfl,rx⟩:=vals1 r;cases rx;have hn:=io;rcases hq with hq|hq
 · obtain⟨its,r',pl,hz⟩:=I.list hq;have hlen:=r'.length;exact Calls.call_len_list pl.isList (by simp only[DZ]<;>omega) ⟨.int ys.length,H,I.tok _,⟨s.toks+1,by rw[DZ,hlen]⟩,q⟩
 · obtain⟨its,r',pl,hz⟩:=I.tuple hq;have hlen:=r'.length;exact len_tuple pl (by simp only[DZ]<;>omega) ⟨.int ys.length,H,I.tok _,⟨s.toks+1,by rw[DZ,hlen]⟩,q⟩
theorem iz:dS X (.type "list") (fun xs H Q=>∃p ys,xs=[.ref p]/\(CS X.K H p ys\/CQ X.K H p ys)/\∀l,H l=none->Q (.ref l) (Bt H l (.lst ys))):=by
 intro pins s σ H xs us Q I r h;obtain⟨p,ys,rfl,hq,q⟩:=h;obtain⟨u,rfl,rx⟩:=vals1 r;cases rx
 have fin:∀(its:List DJ),bP ys its->ys.length<=sizeLine->∀(h':Heap)(c':Nat),(∀b o',s.heap.get? b=some o'->h'.get? b=some o') ->
  h'.get? s.heap.objs.size=some {cls:=.type "list", dict:=none,data:=.seq its.toArray c',slots:=#[]}->EP X pins σ Q (.ref s.heap.objs.size) {s with heap:=h' }:=fun its r' hz h' c' kp e =>
  ⟨.ref s.heap.objs.size,_,I.laid (t':=s.toks) kp (DQ _) (show ce X.prog X.w _ h' _ (.lst ys)from⟨hz,its,c',r',e⟩),rfl,q _ (I.hok.fresh (DQ _))⟩
 rcases hq with hq|hq
 · obtain⟨its,r',pl,hz⟩:=I.list hq;have hlen:=r'.length;obtain⟨o,ho,hc,n,hd⟩:=pl.isList;exact call_list_seq p (.inl rfl) ho hc hd (fun h' c' kp e=>fin its r' hz h' c' kp e) (by simp only[DZ]<;>omega)
 · obtain⟨its,r',pl,hz⟩:=I.tuple hq;have hlen:=r'.length;obtain⟨o,ho,hc,n,hd⟩:=pl;exact call_list_seq p (.inr rfl) ho hc hd (fun h' c' kp e=>fin its r' hz h' c' kp e) (by simp only[DZ]<;>omega)
theorem gQ:dS X (.type "tuple") (fun xs H Q=>∃p ys,xs=[.ref p]/\((CS X.K H p ys/\∀l,H l=none->Q (.ref l) (Bt H l (.tup ys)))\/(CQ X.K H p ys/\Q (.ref p) H))):=by
 intro pins s σ H xs us Q I r h;obtain⟨p,ys,rfl,h⟩:=h;obtain⟨u,rfl,rx⟩:=vals1 r;cases rx;rcases h with⟨hq,q⟩|⟨hq,q⟩
 · obtain⟨its,r',pl,hz⟩:=I.list hq;have hlen:=r'.length;refine call_tuple_list pl.isList (fun h' kp=>?_) (by simp only[DZ]<;>omega);have I1:Inv X pins σ H {s with heap:=h' }:=I.kept (t':=s.toks) kp
   have I2:Inv X pins σ (Bt H h'.objs.size (.tup ys)) {s with heap:=h'.push {cls:=.type "tuple", data:=.seq its.toArray}} :=
    I1.laid (t':=s.toks) (fun b o e=>DN _ e) (DQ _) (show ce X.prog X.w _ _ _ (.tup ys)from⟨hz,its,r',nT.new _ _⟩)
   exact⟨.ref h'.objs.size,_,I2,rfl,q _ (I1.hok.fresh (DQ _))⟩
 · obtain⟨its,r',pl,hz⟩:=I.tuple hq;exact call_tuple_same pl ⟨.ref p,H,I,rfl,q⟩
noncomputable def Bw(K:W.Frag)(T:String)(x:V)(H:Hp):Prop:=match x with
 | .str _=>T = "str"
 | .int _=>T = "int"
 | .ref p=>(T = "list" /\ ∃xs,CS K H p xs)\/(T = "tuple" /\ ∃xs,CQ K H p xs) \/
     (T = "dict" /\ ((∃kvs,H p=some (.dK kvs))\/∃kvs,H p=some (.dT kvs)))\/(T = "set" /\ ∃S n,H p=some (.set S n))
 | _=>False
theorem uF{T:String}{x:V}{v:DJ}(I:Inv X pins σ H s)(r:RelV x v)(ty:Bw X.K T x H) :
 s.TypeIs v T/\∀a,v = .ref a->∃ob,s.heap.get? a=some ob/\ob.dict=none:=by
 cases x with
 | str z =>
   obtain⟨t,rfl⟩:=r;cases(show T = "str" from ty)
   exact⟨typeIs_str s z t,fun _ e=>nomatch e⟩
 | int i =>
   obtain⟨t,rfl⟩:=r;cases(show T = "int" from ty)
   exact⟨typeIs_int s i t,fun _ e=>nomatch e⟩
 | ref p =>
   cases r;rcases ty with⟨rfl,xs,hq⟩|⟨rfl,xs,hq⟩|⟨rfl,hk⟩|⟨rfl,S,n,hk⟩
   · obtain⟨its,_,pl,_⟩:=I.list hq;refine⟨pl.isList.typeIs,fun a e=>?_⟩;cases e;obtain⟨o,n,e,c,hd,_⟩:=pl;exact⟨o,e,hd⟩
   · obtain⟨o,e1,e2,e3⟩:=I.tupleD hq;refine⟨⟨o,e1,e2⟩,fun a e=>?_⟩;cases e;exact⟨o,e1,e3⟩
   · have z:∃o,s.heap.get? p=some o/\o.ExactDict:=by
       rcases hk with⟨kvs,hk⟩|⟨kvs,hk⟩
       · obtain⟨_,_,_,_,o,_,_,e,ex,_⟩:=I.hok p _ hk;exact⟨o,e,ex⟩
       · obtain⟨_,_,_,_,o,_,_,e,ex,_⟩:=I.hok p _ hk;exact⟨o,e,ex⟩
     obtain⟨o,e,ex⟩:=z;refine⟨⟨o,e,ex.1⟩,fun a e2=>?_⟩;cases e2;exact⟨o,e,ex.2.1⟩
   · obtain⟨o,_,_,_,e,ex,_⟩:=I.hok p _ hk;refine⟨⟨o,e,ex.1⟩,fun a e2=>?_⟩;cases e2
     exact⟨o,e,ex.2.1⟩
 | _=>exact Fq ty
noncomputable def BK(K:W.Frag)(T:String)(r:V->List V->Hp->VK->Prop)(to:TE)(t:TA):TE:=fun σ H Q=>to σ H fun x H1=>Bw K T x H1/\t σ H1 fun xs H2=>r x xs H2 Q
variable{o e:Expr}{es:List Expr}{to:TE}{t:TA}{name:Str}{apos cpos:Pos}{T id:String}{r:V->List V->Hp->VK->Prop}
theorem vP(pa:PlainAttrs T)(slot:Slot T name id)(hty:typeOf (.builtin id)=pure (.type "method_descriptor"))(hm:Dg X id r)(ho:PE X o to)(ha:PA X (e::es) t)
 (hbase:autoParam (Ii o name X.env (eval o X.env)=eval o X.env) æa._auto_1)
 (hfew:autoParam (((Ge cpos (DY (e::es) X.env)).all (fun x=>!x.1)&&(Lf cpos (Jt [] X.env)).all (fun x=>x.1.isSome)
  && decide ((e::es).length+([]:List IV).length+(if([]:List IV).isEmpty then 0 else 1)<30))=true) æa._auto_1)
 (hline:autoParam ((apos.endLine==cpos.line)=true) æa._auto_1)(hs:autoParam (DY (e::es) X.env=(false,eval e X.env)::DY es X.env) æa._auto_1)(hplain:autoParam ((Ge cpos (DY es X.env)).any (·.1)=false) æa._auto_1) :
 PE X (.Call (.Attribute o name apos) (e::es) [] cpos) (BK X.K T r to t):=by
 intro pins s σ H Q I h;refine wpAny_Call_method_late hbase hfew hline rfl (BD (ho pins s σ H _ I h) fun v s1 ⟨x,H1,I1,r1,ty,q1⟩=>?_);obtain⟨h1,h2⟩:=uF I1 r1 ty;refine⟨T,id,pa,slot,hty,h1,h2,?_⟩;have hA:=ha cpos pins s1 σ H1 _ I1 q1;rw[hs]at hA ⊢;refine Calls.callWith_builtin (by show(false||(Ge cpos (DY es X.env)).any (·.1))=false;rw[hplain]<;>rfl) (Calls.evalArgs_plain ?_);exact BD hA fun us s2 ⟨vs,H2,I2,r2,q2⟩=>hm pins s2 σ H2 x vs v us Q I2 r1 r2 q2
end
noncomputable def Dh(X:Cx)(id:String)(r:V->List V->Hp->VK->Prop):Prop :=
 ∀ (pins:List (Addr×Obj))(s:DM)(σ:St)(H:Hp)(x:V)(xs:List V)(v:DJ)(us:List DJ)(Q:VK),Inv X pins σ H s->RelV x v->bP xs us->r x xs H Q ->
   Eb (Ek X.prog X.w) X.A (call (.builtin id) (v::us)) (EP X pins σ Q) X.xe s
theorem bP.one:∀{x:V}{us:List DJ},bP [x] us->∃u,us=[u]/\RelV x u
 | _,_,.cons r .nil=>⟨_,rfl,r⟩
theorem bP.rep{xs:List V}{us:List DJ}(h:bP xs us):∀k:Nat,bP (DT k xs).flatten (DT k us).flatten
 | 0=>.nil
 | k+1=>by
   rw[EK,EK,Gn,Gn];exact bP.append h (bP.rep h k)
theorem foldl_rep(its:List DJ):∀(k:Nat)(acc:List DJ),
 List.foldl (fun x1 x2=>x1++x2) acc.toArray (DT k its.toArray)=(acc++(DT k its).flatten).toArray
 | 0,acc=>by simp
 | k+1,acc=>by
   have e:acc.toArray++its.toArray=(acc++its).toArray:=by simp
   have e2:(acc++its)++(DT k its).flatten=acc++(DT (k+1) its).flatten:=by
    rw[EK,Gn,GH]
   rw[<- e2,<- foldl_rep its k (acc++its),<- e,EK,FE]
section
variable{X:Cx}{pins:List (Addr×Obj)}{σ:St}{H:Hp}{s:DM}{l b:Addr}{xs ys zs:List V}
theorem Inv.lset{its its':List DJ}{f:Array DJ->Array DJ}(I:Inv X pins σ H s)(hH:H l=some (.lst xs))
 (e:s.heap.get? l=some {cls:=.type "list", data:=.seq its.toArray n})(hf:f its.toArray=its'.toArray)(hv:bP ys its')(hz:ys.length<=sizeLine) :
 Inv X pins σ (Bt H l (.lst ys)) {s with heap:=s.heap.update l (Je f),toks:=t' }:=by
 have q:=PySem.IsL.update e f;rw[hf]at q;refine I.write (x:=l) (e:=l) (by rw[hH];exact trivial) (.inl rfl) (fun b' u hb hu=>(GU s.heap (Je f) (Im hb)).trans hu) ⟨_,q⟩ ?_;exact⟨hz,its',_,hv,q⟩
theorem Inv.lnew{its:List DJ}(I:Inv X pins σ H s)(hv:bP ys its)(hz:ys.length<=sizeLine) :
 Inv X pins σ (Bt H s.heap.objs.size (.lst ys)) {s with heap:=s.heap.push {cls:=.type "list", data:=.seq its.toArray},toks:=t' } :=
 I.laid (fun _ _ q=>DN _ q) (DQ _) ⟨hz,its,0,hv,D3 _ rfl⟩
theorem Inv.fresh(I:Inv X pins σ H s):H s.heap.objs.size=none:=I.hok.fresh (DQ _)
theorem Inv.lstM(I:Inv X pins σ H s)(hH:H l=some (.lst xs)):xs.length<=sizeLine/\∃(its:List DJ)(n:Nat),bP xs its/\xs.length=its.length/\s.heap.get? l=some {cls:=.type "list", data:=.seq its.toArray n}:=by
 obtain⟨z,its,n,r,e⟩:=I.hok l _ hH;exact⟨z,its,n,r,r.length,e⟩
theorem jI(h:n<=sizeLine):GI n=false:=by
 unfold GI;exact decide_eq_false (by omega)
end
section
variable{X:Cx}
noncomputable def lH:V->List V->Hp->VK->Prop:=fun x vs H Q=>∃l xs y,x = .ref l/\vs=[y]/\H l=some (.lst xs)/\xs.length<sizeLine/\Q .non (Bt H l (.lst (xs++[y])))
theorem c6:Dh X "list.append" lH:=by
 intro pins s σ H x vs v us Q I rx rv h;obtain⟨l,xs,y,rfl,rfl,hH,hz,q⟩:=h;cases rx;obtain⟨u,rfl,ru⟩:=rv.one;obtain⟨z,its,n,r,hl,e⟩:=I.lstM hH;refine KY F.slot_list_append ⟨_,e,rfl⟩ F.entry_list_append (F.args_list_append_2 _ _) (PySem.list_append l its.toArray n u (by rw[DZ];omega)) ⟨e,?_⟩;refine⟨.non,_,I.lset (its':=its++[u]) hH e (by simp) (r.append (.cons ru .nil)) ?_,rfl,q⟩;rw[D7,J0];omega
noncomputable def lG:V->List V->Hp->VK->Prop:=fun x vs H Q=>∃l b xs zs,x = .ref l/\vs=[.ref b]/\H l=some (.lst xs)/\H b=some (.lst zs)/\xs.length+zs.length<=sizeLine/\Q .non (Bt H l (.lst (xs++zs)))
theorem l9:Dh X "list.extend" lG:=by
 intro pins s σ H x vs v us Q I rx rv h;obtain⟨l,b,xs,zs,rfl,rfl,hH,hB,hz,q⟩:=h;cases rx;obtain⟨u,rfl,ru⟩:=rv.one;cases ru;obtain⟨z,its,n,r,hl,e⟩:=I.lstM hH;obtain⟨z2,its2,n2,r2,hl2,e2⟩:=I.lstM hB;have hsz:its.toArray.size+its2.toArray.size<=sizeLine:=by rw[DZ,DZ];omega
 have hlong:¬(!its.toArray.isEmpty&&GI (its.toArray.size+its2.toArray.size))=true:=by
  rw[jI hsz,Bool.and_false];exact D9
 refine KY F.slot_list_extend ⟨_,e,rfl⟩ F.entry_list_extend (F.args_list_extend_2 _ _)
  (AutoSeq1.list_extend_list_list_0 l its.toArray n b its2.toArray n2 hlong (by rw[DZ];omega) (by omega)) ⟨e,e2,?_⟩
 refine⟨.non,_,I.lset (its':=its++its2) hH e (by simp) (r.append r2) ?_,rfl,q⟩;rw[D7];omega
noncomputable def zR:R2:=fun x y H Q=>∃l b xs zs,x = .ref l/\y = .ref b/\H l=some (.lst xs)/\H b=some (.lst zs)/\xs.length+zs.length<=sizeLine/\∀p,H p=none->Q (.ref p) (Bt H p (.lst (xs++zs)))
theorem vU:De X (GO .Add) zR:=by
 intro pins s σ H x y v u Q I rx ry h;obtain⟨l,b,xs,zs,rfl,rfl,hH,hB,hz,q⟩:=h;cases rx;cases ry;obtain⟨z,its,n,r,hl,e⟩:=I.lstM hH;obtain⟨z2,its2,n2,r2,hl2,e2⟩:=I.lstM hB;refine PySem.P.add_list e e2 ?_ (by rw[DZ,DZ];omega);have ea:its.toArray++its2.toArray=(its++its2).toArray:=by simp
 rw[ea];exact⟨.ref _,_,I.lnew (t':=s.toks) (r.append r2) (by rw[D7];omega),rfl,q _ I.fresh⟩
noncomputable def zM:R2:=fun x y H Q=>∃l k xs,x = .ref l/\y = .int k/\H l=some (.lst xs) /\ -(2^63)<=k/\k<2^63/\xs.length*k.toNat<=sizeLine /\
 ∀p,H p=none->Q (.ref p) (Bt H p (.lst (DT k.toNat xs).flatten))
theorem sY(xs:List α)(k:Nat):(DT k xs).flatten.length=k*xs.length:=by
 induction k with
 | zero=>simp
 | succ k ih=>rw[EK,Gn,D7,ih,Nat.succ_mul,Nat.add_comm]
theorem vS:De X (GO .Mult) zM:=by
 intro pins s σ H x y v u Q I rx ry h;obtain⟨l,k,xs,rfl,rfl,hH,h1,h2,hz,q⟩:=h;cases rx;obtain⟨t,rfl⟩:=ry;obtain⟨z,its,n,r,hl,e⟩:=I.lstM hH;have hlen:its.toArray.size*k.toNat<=sizeLine:=by rw[DZ,<- hl];exact hz
 have hcap:¬its.toArray.size*k.toNat>(2^63-1) / 8:=by
  have:(sizeLine:Nat)<=(2^63-1) / 8:=by decide
  omega
 have hfit:¬(!Builtin.List.listFitsIndex k)=true:=by
  rw[fitsIndex_both h1 h2];exact D9
 have hlong:¬GI (its.toArray.size*k.toNat)=true:=by
  rw[jI hlen];exact D9
 have hnew:List.foldl (fun x1 x2=>x1++x2) #[] (DT (if its.toArray.isEmpty=true then 0 else k.toNat) its.toArray)=(DT k.toNat its).flatten.toArray:=by
  have f0:∀m:Nat,List.foldl (fun x1 x2=>x1++x2) #[] (DT m its.toArray)=(DT m its).flatten.toArray:=fun m=>by
   have:=foldl_rep its m [];rw[List.nil_append]at this;exact this
  rw[f0]
  cases its with
  | nil=>simp
  | cons a r'=>rw[if_neg (by simp)]
 refine wpAny_binaryOp_repeat_ref (T := "list") (U := "int") (by decide) ⟨_,e,rfl⟩ (fun s'=>typeIs_int s' k t) noFill_list_mul F.fills_int_mul F.slot_int_rmul repeat_list F.slot_int_index.lookup
  (KY F.slot_int_rmul (typeIs_int s k t) F.entry_int_rmul (F.args_int_rmul_2 _ _) (int___rmul___int_list k t l its.toArray n)
   ⟨e,rfl,⟨_,e,rfl⟩,KY F.slot_list_mul ⟨_,e,rfl⟩ F.entry_list_mul (F.args_list_mul_2 _ _) (AutoListH.list___mul___list_int_3 l its.toArray n k t hfit hcap hlong) ⟨e,?_⟩⟩)
 rw[hnew];exact⟨.ref _,_,I.lnew (t':=s.toks) (r.rep k.toNat) (by rw[sY,G3];exact hz),rfl,q _ I.fresh⟩
end
section
variable{prog:Ef}{w:EM}{A:ES}{E:DJ->DM->Prop}{s:DM}
end
section
variable{X:Cx}
end
section
variable{κ:Type}[DecidableEq κ]
noncomputable def gt(kvs:List (κ×V))(k:κ):Option V:=(kvs.find? fun kv=>decide (kv.1=k)).map (·.2)
noncomputable def dQ(kvs:List (κ×V))(k:κ)(v:V):List (κ×V) :=
 if(kvs.any fun kv=>decide (kv.1=k))=true then kvs.map (fun kv=>if kv.1=k then(kv.1,v)else kv)else kvs++[(k,v)]
theorem cg{p:κ×V}{r:List (κ×V)}{k:κ}(e:p.1=k):gt (p::r) k=some p.2:=by simp[gt,GJ,e]
theorem gr{p:κ×V}{r:List (κ×V)}{k:κ}(e:¬p.1=k):gt (p::r) k=gt r k:=by simp[gt,GJ,e]
theorem ji(k:κ):∀kvs:List (κ×V),(kvs.any fun kv=>decide (kv.1=k))=(gt kvs k).isSome
 | []=>rfl
 | p::r=>by
   rw[Ju];by_cases e:p.1=k
   · simp only[cg e,decide_eq_true e,Bool.true_or,Option.isSome_some]
   · rw[gr e,decide_eq_false e,Bool.false_or];exact ji k r
theorem cQ(kvs:List (κ×V))(k:κ)(v:V):(dQ kvs k v).length<=kvs.length+1:=by
 unfold dQ;split
 · rw[DO];omega
 · rw[D7,DX,GK];omega
theorem tX.isSome_eq{o:Option V}{u:Option DJ}(r:tX o u):o.isSome=u.isSome:=by
 cases o with
 | none=>cases u with
   | none=>rfl
   | some _=>exact(show False from r).elim
 | some _=>cases u with
   | none=>exact(show False from r).elim
   | some _=>rfl
theorem KV.val{kvs:List (κ×V)}{vs:List (κ×DJ)}(r:KV kvs vs)(k:κ):tX (gt kvs k) (KZ vs k):=by
 unfold KV at r
 induction r with
 | nil=>exact Jf
 | @cons p q ps qs h t ih =>
   obtain⟨h1,h2⟩:=h;by_cases e:p.1=k
   · have e':q.1=k:=h1.symm.trans e;have b:KZ (q::qs) k=some q.2:=by simp[KZ,GJ,e']
     rw[cg e,b];exact h2
   · have e':¬q.1=k:=fun z=>e (h1.trans z);have b:KZ (q::qs) k=KZ qs k:=by simp[KZ,GJ,e']
     rw[gr e,b];exact ih
theorem KV.any{kvs:List (κ×V)}{vs:List (κ×DJ)}(r:KV kvs vs)(k:κ):(kvs.any fun kv=>decide (kv.1=k))=vs.any fun kv=>decide (kv.1=k):=by
 unfold KV at r
 induction r with
 | nil=>rfl
 | cons h t ih=>rw[Ju,Ju,ih,h.1]
theorem KV.repl{kvs:List (κ×V)}{vs:List (κ×DJ)}(r:KV kvs vs)(k:κ){y:V}(ry:RelV y u) :
 KV (kvs.map fun kv=>if kv.1=k then(kv.1,y)else kv) (vs.map fun kv=>if kv.1=k then(kv.1,u)else kv):=by
 unfold KV at r ⊢
 induction r with
 | nil=>exact .nil
 | @cons p q ps qs h t ih =>
   rw[Ew,Ew];refine .cons ?_ ih;obtain⟨h1,h2⟩:=h;by_cases e:p.1=k
   · rw[if_pos e,if_pos (h1.symm.trans e)];exact⟨h1,ry⟩
   · rw[if_neg e,if_neg (fun z=>e (h1.trans z))];exact⟨h1,h2⟩
theorem KV.put{kvs:List (κ×V)}{vs:List (κ×DJ)}(r:KV kvs vs)(k:κ){y:V}(ry:RelV y u):KV (dQ kvs k y) (stored vs k u):=by
 unfold dQ stored;rw[r.any k];by_cases e:(vs.any fun kv=>decide (kv.1=k))=true
 · rw[if_pos e,if_pos e];exact r.repl k ry
 · rw[if_neg e,if_neg e];exact E8.snoc r ⟨rfl,ry⟩
theorem KV.length{kvs:List (κ×V)}{vs:List (κ×DJ)}(r:KV kvs vs):kvs.length=vs.length:=Ht r
end
theorem oZ{k:Di}(r:RelV (kV k) u):(bm P w).is k u=true:=by
 cases k with
 | inl i=>obtain⟨t,e⟩:=(show ∃t,u=JV i t from r);subst e;exact i4 P w i t
 | inr x=>obtain⟨t,e⟩:=(show ∃t,u=KI x t from r);subst e;exact i3 P w x t
theorem ip{P:Ef}{w:EM}:∀{ks:List Di}{us:List DJ},bP (ks.map kV) us->ItemsAre (bm P w) ks us
 | [],_,r=>by rw[HP]at r;cases r;exact .nil
 | k::ks,_,r=>by
   rw[Ew]at r
   cases r with
   | cons h t=>exact .cons (oZ h) (ip t)
abbrev KT(H:Hp):List (List Di×V)->List (List Di×Addr×DJ)->Prop:=E8 fun p q=>p.1=q.1/\H q.2.1=some (.tup (p.1.map kV))/\RelV p.2 q.2.2
theorem KT.val{xs:List (List Di×Addr×DJ)}(r:KT H kvs xs)(k:List Di):tX (gt kvs k) ((Ly xs k).map (·.2)):=by
 induction r with
 | nil=>exact Jf
 | @cons p q ps qs h t ih =>
   obtain⟨h1,_,h2⟩:=h;by_cases e:p.1=k
   · have e':q.1=k:=h1.symm.trans e;have b:Ly (q::qs) k=some q.2:=by simp[Ly,GJ,e']
     rw[cg e,b];exact h2
   · have e':¬q.1=k:=fun z=>e (h1.trans z);have b:Ly (q::qs) k=Ly qs k:=by simp[Ly,GJ,e']
     rw[gr e,b];exact ih
theorem KT.repl{xs:List (List Di×Addr×DJ)}(r:KT H kvs xs)(k:List Di){y:V}(ry:RelV y u) :
 KT H (kvs.map fun kv=>if kv.1=k then(kv.1,y)else kv) (xs.map (putAt k u)):=by
 induction r with
 | nil=>exact .nil
 | @cons p q ps qs h t ih =>
   rw[Ew,Ew];refine .cons ?_ ih;obtain⟨h1,h2,h3⟩:=h;unfold putAt;by_cases e:p.1=k
   · rw[if_pos e,if_pos (h1.symm.trans e)];exact⟨h1,h2,ry⟩
   · rw[if_neg e,if_neg (fun z=>e (h1.trans z))];exact⟨h1,h2,h3⟩
theorem KT.put{xs:List (List Di×Addr×DJ)}(r:KT H kvs xs)(k:List Di){y:V}(hb:H b=some (.tup (k.map kV)))(ry:RelV y u) :
 KT H (dQ kvs k y) (storedH xs k b u):=by
 have e:(kvs.any fun kv=>decide (kv.1=k))=(Ly xs k).isSome:=by
  rw[ji,(r.val k).isSome_eq,Option.isSome_map]
 unfold dQ storedH;rw[e];by_cases q:(Ly xs k).isSome=true
 · rw[if_pos q,if_pos q];exact r.repl k ry
 · rw[if_neg q,if_neg q];exact E8.snoc r ⟨rfl,hb,ry⟩
theorem KT.keeps{xs:List (List Di×Addr×DJ)}(r:KT H kvs xs)(ht:∀b ys,H b=some (.tup ys)->H' b=some (.tup ys)):KT H' kvs xs :=
 E8.mapP r fun _ _ z=>⟨z.1,ht _ _ z.2.1,z.2.2⟩
section
variable{P:Ef}{w:EM}{H:Hp}{h:Heap}{a:Addr}
theorem vp{u:HO}(ok:Dx P w H h)(e:Rd H a u):ce P w H h a u:=e.ok ok
theorem tI{kvs:List (Di×V)}(ok:Dx P w H h)(e:Rd H a (.dK kvs)):kvs.length<=sizeLine/\(a==Hk)=false/\∃vs,KV kvs vs/\h.DictOf (bm P w) a vs :=
 show ce P w H h a (.dK kvs)from vp ok e
theorem wH{kvs:List (Di×V)}(ok:Dx P w H h)(e:H a=some (.dK kvs)):kvs.length<=sizeLine/\(a==Hk)=false/\∃vs,KV kvs vs/\h.DictOf (bm P w) a vs:=tI ok (.inl e)
theorem mH{ks:List Di}(ok:Dx P w H h)(e:H a=some (.tup (ks.map kV))):(KJ (bm P w)).is h ks a:=by
 obtain⟨_,its,r,o,h1,h2,⟨n,h3⟩,_⟩:=(show ce P w H h a (.tup (ks.map kV))from ok a _ e);exact⟨o,its.toArray,n,h1,h2,h3,by simpa using ip r⟩
theorem tH(ok:Dx P w H h)(e:Rd H a (.dT kvs)):kvs.length<=sizeLine/\(a==Hk)=false /\
 ∃xs,KT H kvs xs/\h.DictOfH (KJ (bm P w)) a xs:=by
 obtain⟨z,y,xs,r,o,es,ep,h1,h2,h3,h4,h5⟩:=(show ce P w H h a (.dT kvs)from vp ok e);refine⟨z,y,xs,r,o,es,ep,h1,h2,h3,h4,fun x hx=>?_,h5⟩
 have all:∀{l:List (List Di×V)}{m:List (List Di×Addr×DJ)},KT H l m->∀x∈m,(KJ (bm P w)).is h x.1 x.2.1:=by
  intro l m q
  induction q with
  | nil=>intro x hx;exact nomatch hx
  | @cons p q ps qs hq t ih =>
    intro x hx;rcases EO.mp hx with e|hx
    · subst e;exact mH ok (by rw[<- hq.1];exact hq.2.1)
    · exact ih x hx
 exact all r x hx
theorem yG(ok:Dx P w H h)(e:H a=some (.dT kvs)):kvs.length<=sizeLine/\(a==Hk)=false /\
 ∃xs,KT H kvs xs/\h.DictOfH (KJ (bm P w)) a xs:=tH ok (.inl e)
end
noncomputable def xm(H:Hp)(a:Addr)(y:V)(r:Option V):Prop :=
 (∃kvs k,Rd H a (.dK kvs)/\y=kV k/\r=gt kvs k)\/∃kvs k b,Rd H a (.dT kvs)/\y = .ref b/\H b=some (.tup (k.map kV))/\r=gt kvs k
noncomputable def yO(H:Hp)(a:Addr)(y v:V)(H':Hp):Prop :=
 (∃kvs k,H a=some (.dK kvs)/\y=kV k/\kvs.length<sizeLine/\H'=Bt H a (.dK (dQ kvs k v))) \/
 ∃kvs k b,H a=some (.dT kvs)/\y = .ref b/\H b=some (.tup (k.map kV))/\kvs.length<sizeLine/\H'=Bt H a (.dT (dQ kvs k v))
theorem xm.k{H:Hp}{a:Addr}{kvs:List (Di×V)}{k:Di}(e:H a=some (.dK kvs)):xm H a (kV k) (gt kvs k):=.inl ⟨kvs,k,.inl e,rfl,rfl⟩
theorem yO.k{H:Hp}{a:Addr}{kvs:List (Di×V)}{k:Di}{v:V}(e:H a=some (.dK kvs))(hl:kvs.length<sizeLine):yO H a (kV k) v (Bt H a (.dK (dQ kvs k v))):=.inl ⟨kvs,k,e,rfl,hl,rfl⟩
section
variable{X:Cx}{pins:List (Addr×Obj)}{σ:St}{H:Hp}{s:DM}{a:Addr}{y v:V}{u r:DJ}{o:Option V}{A:ES}{E:DJ->DM->Prop}
theorem Inv.big(I:Inv X pins σ H s):Hk<s.heap.objs.size:=by
 have h:EJ<s.heap.objs.size:=(I.mod.glob.keeps I.bk).lt;exact Nat.lt_trans (by decide) h
theorem ny(hu:A.units+1<KW)(I:Inv X pins σ H s)(g:xm H a y (some v))(ry:RelV y u)(h:∀w' s',Inv X pins σ H s'->RelV v w'->Q w' s') :
 Eb (Ek X.prog X.w) A (Js (.ref a) u) Q E s:=by
 rcases g with⟨kvs,k,e,ey,l⟩|⟨kvs,k,b,e,ey,eb,l⟩
 · subst ey;obtain⟨z,hd,vs,rel,dd⟩:=tI I.hok e;obtain⟨w',hw,rw'⟩:=tX.some_of (v:=v) (o:=KZ vs k) (by rw[l];exact rel.val k);exact wpAny_getItem_of (oZ ry) dd.mapOf hw (h w' _ (I.tok _) rw')
 · subst ey;cases(show u=GB b from ry);obtain⟨z,hd,xs,rel,dd⟩:=tH I.hok e;obtain⟨w',hw,rw'⟩:=tX.some_of (v:=v) (o:=(Ly xs k).map (·.2)) (by rw[l];exact rel.val k);obtain⟨p,hp,hp2⟩:=FN.mp hw;refine wpAny_getItem_heap (tupleKind_room_in1 hu) (mH I.hok eb) dd hp ?_;rw[hp2];exact h w' _ (I.tok _) rw'
theorem i7{ob:HO}(I:Inv X pins σ H s)(mu:Df (H a))(hs:FJ a s.heap h')(he:∃q,h'.get? a=some q)(new:ce X.prog X.w (Bt H a ob) h' a ob) :
 Inv X pins σ (Bt H a ob) {s with heap:=h',toks:=t' } :=
 I.write (x:=a) (e:=a) mu (.inl rfl) (fun b q hb z=>(hs.2 b hb).trans z) he new
theorem dk_new{kvs:List (Di×V)}{vs:List (Di×DJ)}(z:kvs.length<=sizeLine)(hd:(a==Hk)=false)(rel:KV kvs vs)(dd:h'.DictOf (bm P w) a vs) :
 ce P w H' h' a (.dK kvs):=⟨z,hd,vs,rel,dd⟩
theorem nw{Q:Unit->DM->Prop}(hu:A.units+1<KW)(I:Inv X pins σ H s)(g:yO H a y v H')(ry:RelV y u)(rv:RelV v r)(h:∀s',Inv X pins σ H' s'->Q () s') :
 Eb (Ek X.prog X.w) A (setItem (.ref a) u r) Q E s:=by
 rcases g with⟨kvs,k,e,ey,l,eH⟩|⟨kvs,k,b,e,ey,eb,l,eH⟩
 · subst ey eH;obtain⟨z,hd,vs,rel,dd⟩:=wH I.hok e;have hz:vs.length<=sizeLine:=by rw[<- rel.length];exact z
   have hl:(dQ kvs k v).length<=sizeLine:=by have:=cQ kvs k v;omega
   refine wpAny_setItem_pairs (hsz:=hz) (oZ ry) dd fun h' dd' hs=>h _ ?_;have he:∃q,h'.get? a=some q:=let ⟨q,_,_,hq,_⟩:=dd';⟨q,hq⟩
   exact i7 I (by rw[e];exact Jf) hs he (dk_new hl hd (rel.put k rv) dd')
 · subst ey eH;cases(show u=GB b from ry);obtain⟨z,hd,xs,rel,dd⟩:=yG I.hok e;have hz:xs.length<=sizeLine:=by rw[<- Ht rel];exact z
   have hl:(dQ kvs k v).length<=sizeLine:=by have:=cQ kvs k v;omega
   refine wpAny_setItem_heap (hsz:=hz) (tupleKind_room_in1 hu) (mH I.hok eb) dd fun h' dd' hs=>h _ ?_;obtain⟨q,es,ep,hq,h2,h3,h4,_,h5⟩:=dd';refine i7 I (by rw[e];exact Jf) hs ⟨q,hq⟩ ⟨hl,hd,_,(rel.put k eb rv).keeps fun c ys ec=>?_,q,es,ep,hq,h2,h3,h4,h5⟩;rw[ai (ye ec e (fun z=>nomatch z))];exact ec
end
section
variable{X:Cx}{pins:List (Addr×Obj)}{σ:St}{H:Hp}{s:DM}{a:Addr}{kvs:List (Di×V)}{k:Di}{u:DJ}{A:ES}{E:DJ->DM->Prop}
end
noncomputable def xl(i:Expr):Prop:=∀ov iv,Kw i false ov iv=operate [ov,iv] (Js ov iv)
theorem rF{prog:Ef}{E:DJ->DM->Prop}{env:Env}{value slice:Expr}{pos:Pos}{T id:String}
 (hl:typeLookup (.type T) "__getitem__" = pure (some (.builtin id)))(hs:xl slice)
 (h:Eb (Ek prog w) A (eval value env) (fun o s₁=>Eb (Ek prog w) A (eval slice env) (fun i s₂=>s₂.TypeIs o T/\Eb (Ek prog w) A (Js o i) Q E s₂) E s₁) E s) :
 Eb (Ek prog w) A (eval (.Subscript value slice pos) env) Q E s:=by
 refine Subscript_ (EL h (fun o s₁ h₁=>EL h₁ (fun i s₂ h₂=>?_) fun _ _ x=>x) fun _ _ x=>x);obtain⟨hT,h₂⟩:=h₂;unfold KP;refine DI ?_;rw[getitemInPython_of_ne hT.not_modules];refine DI (wpAny_specialOf hT hl ?_)
 have fin:Eb (Ek prog w) A (Kw slice false o i) (fun r s₃=>Eb (Ek prog w) A (letTemporaryGo value o r >>= fun _=>pure r) Q E s₃) E s₂:=by
  rw[hs o i];exact wpAny_operating (EL h₂ (fun r s₃ h₃=>DI (wpAny_letTemporaryGo (DK h₃))) fun _ _ x=>x)
 first
  | exact DK (DI fin)
  | exact DI (DK (DI fin))
  | exact DI fin
theorem i6{y:V}{o:Option V}(I:Inv X pins σ H s)(g:xm H a y o):s.TypeIs (.ref a) "dict" := by
 rcases g with⟨kvs,k,e,_,_⟩|⟨kvs,k,b,e,_,_,_⟩
 · obtain⟨_,_,vs,_,dd⟩:=tI I.hok e;exact dd.typeIs
 · obtain⟨_,_,xs,_,dd⟩:=tH I.hok e;exact dd.typeIs
noncomputable def uP(td ty:TE):TE:=fun σ H Q=>td σ H fun x H1=>ty σ H1 fun y H2=>∃a v,x = .ref a/\xm H2 a y (some v)/\Q v H2
noncomputable def xU(td ty tv:TE):TS:=fun D σ H=>tv σ H fun v H1=>td σ H1 fun x H2=>ty σ H2 fun y H3=>∃a H4,x = .ref a/\yO H3 a y v H4/\D.nx σ H4
section
variable{X:Cx}{o i e value:Expr}{pos pos' tpos:Pos}{td ty tv:TE}
theorem lU(hu:X.A.units+1<KW)(ho:PE X o td)(hi:PE X i ty)(hs:xl i):PE X (.Subscript o i pos) (uP td ty):=by
 intro pins s σ H Q I h;refine rF PySem.F.slot_dict_getitem.lookup hs (BD (ho pins s σ H _ I h) fun u s1 ⟨x,H1,I1,rx,q1⟩=>BD (hi pins s1 σ H1 _ I1 q1) fun iv s2 ⟨y,H2,I2,ry,a,v,ex,g,q2⟩=>?_);subst ex;obtain rfl:u=GB a:=rx;exact⟨i6 I2 g,ny hu I2 g ry fun w' s3 I3 rw'=>⟨v,H2,I3,rw',q2⟩⟩
theorem si(hu:X.A.units+1<KW)(ho:PE X o td)(hi:PE X i ty)(hv:PE X value tv)(hs:Gr value (some (.Subscript o i pos')) pos.line X.env=pure false) :
 PS X (.Assign [.Subscript o i pos'] value pos) (xU td ty tv):=by
 intro pins s σ H D I h;refine wpAny_Assign_Subscript (BD (hv pins s σ H _ I h) fun r s1 ⟨v,H1,I1,rv,q1⟩=>BD (ho pins s1 σ H1 _ I1 q1) fun u s2 ⟨x,H2,I2,rx,q2⟩=>BD (hi pins s2 σ H2 _ I2 q2) fun iv s3 ⟨y,H3,I3,ry,a,H4,ex,g,q3⟩=>?_) hs;subst ex;obtain rfl:u=GB a:=rx;exact nw hu I3 g ry rv fun s4 I4=>⟨σ,H4,I4,q3⟩
end
theorem pN(h:Heap)(hb:Hk<h.objs.size):ce P w H (h.push {cls:=.type "dict", data:=.dict #[]}) h.objs.size (.dK []) :=
 ⟨Ei _,beq_eq_false_iff_ne.mpr (Im (EB hb)),[],.nil,Heap.DictOf.new h⟩
section
variable{X:Cx}{pos:Pos}
end
noncomputable def lg:List (TE×TE)->St->Hp->(List (V×V)->Hp->Prop)->Prop
 | [],_,H,Q=>Q [] H
 | (tk,tv)::r,σ,H,Q=>tk σ H fun x H1=>tv σ H1 fun y H2=>lg r σ H2 fun ps H3=>Q ((x,y)::ps) H3
abbrev VV:List (V×V)->List (DJ×DJ)->Prop:=E8 fun p q=>RelV p.1 q.1/\RelV p.2 q.2
noncomputable def C7(X:Cx)(pos:Pos)(keys:List (Option Expr))(values:List Expr)(trs:List (TE×TE)):Prop :=
 ∀ (pins:List (Addr×Obj))(s:DM)(σ:St)(H:Hp)(Q:List (V×V)->Hp->Prop),Inv X pins σ H s->lg trs σ H Q ->
   Eb (Ek X.prog X.w) X.A (evalPairs (pairTrees keys values X.env pos)) (fun vs s'=>∃ps H',Inv X pins σ H' s'/\VV ps vs/\Q ps H') X.xe s
theorem sj{pos:Pos}:C7 X pos [] [] []:=fun pins s σ H Q I h=>pairTrees_nil_walk ⟨[],H,I,.nil,h⟩
theorem d3{pos:Pos}{k v:Expr}{ks:List (Option Expr)}{vs:List Expr}{tk tv:TE}{trs:List (TE×TE)}(hk:PE X k tk)(hv:PE X v tv)(hr:C7 X pos ks vs trs) :
 C7 X pos (some k::ks) (v::vs) ((tk,tv)::trs):=fun pins s σ H Q I h =>
 pairTrees_cons_walk (BD (hk pins s σ H _ I h) fun u s1 ⟨x,H1,I1,rx,q1⟩=>BD (hv pins s1 σ H1 _ I1 q1) fun w2 s2 ⟨y,H2,I2,ry,q2⟩ =>
  BD (hr pins s2 σ H2 _ I2 q2) fun ws s3 ⟨ps,H3,I3,rel,q3⟩=>⟨(x,y)::ps,H3,I3,.cons ⟨rx,ry⟩ rel,q3⟩)
noncomputable def eS(kvs more:List (Di×V)):List (Di×V):=more.foldl (fun acc kv=>dQ acc kv.1 kv.2) kvs
theorem KV.merge:∀{more:List (Di×V)}{rs:List (Di×DJ)}{kvs:List (Di×V)}{vs:List (Di×DJ)},KV more rs->KV kvs vs->KV (eS kvs more) (merged vs rs):=by
 intro more rs kvs vs r;unfold KV at r
 induction r generalizing kvs vs with
 | nil=>intro q;exact q
 | @cons p q ps qs h t ih =>
   intro r0
   have e:KV (dQ kvs p.1 p.2) (stored vs q.1 q.2):=by
    have:=r0.put p.1 h.2;rw[<- h.1];exact this
   exact ih e
theorem c9:∀(more kvs:List (Di×V)),(eS kvs more).length<=kvs.length+more.length
 | [],kvs=>by show kvs.length<=kvs.length+0;omega
 | p::r,kvs=>by
   have h1:=c9 r (dQ kvs p.1 p.2);have h2:=cQ kvs p.1 p.2;show(eS (dQ kvs p.1 p.2) r).length<=_;rw[DX];omega
theorem gb{P:Ef}{w:EM}:∀{kvs:List (Di×V)}{ws:List (DJ×DJ)},VV (kvs.map fun kv=>(kV kv.1,kv.2)) ws->∃rs,Carries (bm P w) ws rs/\KV kvs rs
 | [],_,r=>by rw[HP]at r;cases r;exact⟨[],Jf,.nil⟩
 | p::kvs,_,r=>by
   rw[Ew]at r
   cases r with
   | @cons a b as bs h t =>
     obtain⟨rs,c,q⟩:=gb (P:=P) (w:=w) t;obtain⟨b1,b2⟩:=b;exact⟨(p.1,b2)::rs,⟨oZ h.1,rfl,c⟩,.cons ⟨rfl,h.2⟩ q⟩
noncomputable def xO(trs:List (TE×TE)):TE:=fun σ H Q=>∀p,H p=none->lg trs σ (Bt H p (.dK [])) fun ps H2=>H2 p=some (.dK [])/\∃kvs:List (Di×V),ps=kvs.map (fun kv=>(kV kv.1,kv.2))/\kvs.length<=15/\Q (.ref p) (Bt H2 p (.dK (eS [] kvs)))
theorem sC{pos:Pos}{keys:List (Option Expr)}{values:List Expr}{trs:List (TE×TE)}(h:C7 X pos keys values trs)(hall:keys.all (·.isSome)=true)(hl:keys.length=values.length)(h0:keys≠[])
 (h15:keys.length<=15):PE X (.Dict keys values pos) (xO trs):=by
 intro pins s σ H Q I q;have hn:=I.hok.fresh (DQ s.heap.objs.size);have I1:=I.laid (a:=s.heap.objs.size) (o:=.dK []) (h':=s.heap.push {cls:=.type "dict", data:=.dict #[]}) (t':=s.toks) (fun _ _ q=>DN _ q) (DQ _) (pN s.heap I.big);refine wpAny_Dict_walk (knd:=bm X.prog X.w) hall hl h0 h15 (BD (h pins _ σ _ _ I1 (q _ hn)) fun ws s2 ⟨ps,H2,I2,rel,e,kvs,ep,lk,q2⟩=>?_);subst ep;obtain⟨rs,c,rk⟩:=gb (P:=X.prog) (w:=X.w) rel;obtain⟨z,hd,vs0,r0,dd⟩:=wH I2.hok e;cases r0;refine⟨rs,c,dd,fun h' dd' hs=>⟨.ref s.heap.objs.size,_,?_,rfl,q2⟩⟩
 have hz:(eS [] kvs).length<=sizeLine:=by
  have h1:=c9 kvs [];rw[GK]at h1;rw[Lj];omega
 have he:∃q,h'.get? s.heap.objs.size=some q:=let ⟨q,_,_,hq,_⟩:=dd';⟨q,hq⟩
 exact i7 I2 (by rw[e];exact Jf) hs he (dk_new hz hd (rk.merge .nil) dd')
section
variable{X:Cx}{pins:List (Addr×Obj)}{σ:St}{H:Hp}{s:DM}{a:Addr}{y d:V}{u r:DJ}{o:Option V}{A:ES}{E:DJ->DM->Prop}
end
section
variable{X:Cx}{o e f:Expr}{apos cpos:Pos}{td ty tx:TE}
end
section
variable{X:Cx}{pins:List (Addr×Obj)}{σ:St}{H:Hp}{s:DM}{a:Addr}{kvs:List (Di×V)}{A:ES}{E:DJ->DM->Prop}
end
section
variable{X:Cx}{pins:List (Addr×Obj)}{σ:St}{H:Hp}{s:DM}{a:Addr}{y:V}{u:DJ}{A:ES}{E:DJ->DM->Prop}
end
end L2
namespace Att
open PySem PySem.W PySem.Calls PyProof.Rows
theorem eY{P:Lw}:∀(ns:List Int)(vs:List DJ),WellAll P h vs (ns.map WData.int)->HW vs ns:=by
 intro ns
 induction ns with
 | nil =>
   intro vs w;rw[HP]at w;cases w
   exact .nil
 | cons n ns ih =>
   intro vs w;rw[Ew]at w
   cases w with
   | cons a b =>
     cases a;exact .cons _ _ (ih _ b)
theorem ly{l:Lx}(hn:l.most=some n){P:Lw}{args:List WData}{vals:List DJ}
 (hpre:l.row.toRowW.claim.pre args=true)(hwl:WellAll P h vals args) :
 ∃a vs ns,vals=[GB a]/\args=[WData.list (ns.map WData.int)]/\h.get? a=some {cls:=.type "list", data:=.seq vs.toArray}/\HW vs ns/\ns.length<=n:=by
 have hsh:WShape.hasAll [] args [.list .int]=true:=(pre_splitW hpre).1;have hc:l.pre.holds [] {args:=args}=true:=(pre_splitW hpre).2;obtain⟨d,r,rfl,h1,h2⟩:=hasAllW_cons hsh;obtain rfl:=hasAllW_nil h2;obtain⟨xs,rfl,h3⟩:=hasW_list h1;obtain⟨ns,rfl⟩:=items_int h3
 have hlen:ns.length<=n:=by
  unfold Lx.pre at hc
  have h4:(WTm.not (.lt (.lit (.int (n:Int))) (.len (.arg 0)))).holds [] {args:=[.list (ns.map .int)]}=true:=by
   have h4:=(holds_andW hc).1;rw[hn]at h4;exact h4
  have h5:=condW_of h4 (w_not (w_lt w_lit (w_len_list (w_arg rfl))));rw[DO]at h5;refine Nat.le_of_not_lt fun q=>?_;have q':(n:Int)<((ns.length:Nat):Int):=by omega
  first
   | (rw[decide_eq_true q']at h5;exact absurd h5 (by decide))
   | (simp at h5;omega)
 cases hwl with
 | cons w1 w2 =>
   cases w2
   cases w1 with
   | list ho hall=>exact⟨_,_,ns,rfl,rfl,ho,eY ns _ hall,hlen⟩
theorem lR(l:Lx)(args:List WData):l.row.toRowW.claim.post args (.bool true) args=true :=
 postW_of (r:=l.row.toRowW) (X:=(true==true))
  (show WShape.has [] (.bool true) .bool=true by first|rfl|decide|simp[WShape.has,WShape.arms,WShape.armsAll])
  (show(WTm.eq .res (.lit (.bool true))).value [] {args:=args,res:=some (.bool true),after:=args}=some (.bool (true==true))from w_eq_bool (w_res rfl) w_lit) rfl
theorem attach_call{l:Lx}{q:Ef}{YP:EM->Heap->Prop}{d:DefRec}
 (hn:l.most=some n)(hdf:d.params.defaults=[])
 (call:∀(w:EM)(s₀ s₁:DM)(mg mb:Str->Option DJ)(fa:Addr)(o:Obj)(pm cd doc:DJ)(a:Addr)(vs:List DJ)(ns:List Int),
  Ground q loose [] XP w s₀ mg mb s₁.heap->YP w s₁.heap ->
  s₁.heap.get? fa=some o->o.data = .func (docDef d.name d.params d.body d.scope pm cd doc)->s₁.heap.CodeRec cd d.name->mg d.name=some (.ref fa) ->
  s₁.heap.get? a=some {cls:=.type "list", data:=.seq vs.toArray}->HW vs ns->ns.length<=n->s₁.gens = #[] ->
  GE (Ek l.prog w) K0 (.call (.ref fa) ⟨[.ref a],[]⟩) (fun r s'=>r = .ok (.ret (.bool true))/\OldK s₁.heap s'.heap/\s'.os=s₁.os/\Ku s'.gens) s₁) :
 WalkO q loose XP YP l.row.toRowW d [] (fun f vs=>PySem.call f vs):=by
 intro w s₀ s₁ mg mb G Y fa o pm cd doc dV kV ho hd hcd hD hmg hg args vals as hpre hlay hrd hwl hlo;obtain rfl:dV = .none:=Dflts.none hD hdf;obtain rfl:kV = .none:=Dflts.noKw hD;obtain⟨a,vs,ns,rfl,rfl,hobj,hints,hlen⟩:=ly hn hpre hwl;refine enter_call (Hn (call w s₀ s₁ mg mb fa o pm cd doc a vs ns G Y ho (fd_plain hd) hcd hmg hobj hints hlen hg) fun r s' hq=>?_);obtain⟨rfl,h2,h3,h4⟩:=hq;exact⟨.inl ⟨.bool true,.bool true,[],rfl,fun _=>rfl,.bool true,lR l _,fun _=>⟨KQ.nil,fun _ hm=>(nomatch hm)⟩⟩,h2,h3,h4⟩
section
variable{prog:Ef}{w:EM}{A:ES}{E:DJ->DM->Prop}{s:DM}{K:Frag}
end
end Att
namespace L2
theorem gX:∀{vs:List DJ}{ns:List Int},HW vs ns->bP (ns.map V.int) vs
 | _,_,.nil=>.nil
 | _,_,.cons n t h=>.cons ⟨t,rfl⟩ (gX h)
noncomputable def yL(H:Hp):Prop:=∀b,H b=none\/∃o xs,H b=some (.frz o (.lst xs))
theorem oX{K:W.Frag}{mb:Str->Option DJ}{CX:Dy}{k:Nat}{fa:Addr}{sp:Sp}{s₁:DM}{vs:List DJ}
 (KX:K.In s₁.heap)(hns:s₁.heap.Ns EJ mg)(hb:s₁.heap.Ns builtinsNs mb)(hbb:∀x:Str,x ≠ "__name__" -> mb x=Hl x)(hlim:s₁.heap.NoLimit)(hg:s₁.gens = #[])
 (ha:s₁.heap.get? a=some {cls:=.type "list", data:=.seq vs.toArray})(hi:HW vs ns)(hl:ns.length<=sizeLine)(hr:Room k K0)
 (F:∀base:Heap,K.In base->base.Ns EJ mg->FnOk P w K mg base CX k fa fd [x] sp)(hbind:∀(s:DM)(u:DJ),Lk s fd ⟨[u],[]⟩ [(x,u)])
 (hsp:∀H:Hp,yL H->CS K H a (ns.map V.int)->sp [.ref a] H (fun v _=>v = .bl true) fun _ _ _=>False)
 (hCX:∀H e s',CX [] H s₁ (fun _ _ _=>False) e s'->False) :
 GE (Ek P w) K0 (.call (.ref fa) ⟨[.ref a],[]⟩) (fun r s'=>r = .ok (.ret (.bool true))/\OldK s₁.heap s'.heap/\s'.os=s₁.os/\Ku s'.gens) s₁:=by
 have rv:=gX hi;have lenV:=hi.length
 have core:∀H:Hp,yL H->CS K H a (ns.map V.int)->Dx P w H s₁.heap->(∀b,H b≠none->b=a)->(H a≠none->K.lookup a=none) ->
  GE (Ek P w) K0 (.call (.ref fa) ⟨[.ref a],[]⟩) (fun r s'=>r = .ok (.ret (.bool true))/\OldK s₁.heap s'.heap/\s'.os=s₁.os/\Ku s'.gens) s₁:=by
  intro H hO hS hok hA hK;have base_of:∀{b:Addr}{o:Obj},s₁.heap.get? b=some o->H b=none->(pq s₁.heap H).get? b=some o:=fun e n=>po e n
  have noA:∀{b:Addr}{o:Obj}{es:Array DictEntry}{ep:Nat},s₁.heap.get? b=some o->o.data = .dict es ep->H b=none:=fun{b o es ep} e d=>by
   cases q:H b with
   | none=>rfl
   | some u =>
     have e':b=a:=hA b (by rw[q];simp);subst e';rw[ha]at e;cases e;have d':Data.seq vs.toArray _=Data.dict es ep:=d;cases d'
  have nsK:∀{b:Addr}{m:Str->Option DJ},s₁.heap.Ns b m->(pq s₁.heap H).Ns b m:=fun{b m} ⟨o,es,ep,e,d,r⟩=>⟨o,es,ep,base_of e (noA e d),d,r⟩
  have hKb:K.In (pq s₁.heap H):=fun b o e=>base_of (KX b o e) (by
   cases q:H b with
   | none=>rfl
   | some u =>
     have e':b=a:=hA b (by rw[q];simp);subst e'
     rw[hK (by rw[q];simp)]at e;cases e)
  have hM:Mod K mg (pq s₁.heap H):=⟨hKb,nsK hns,⟨mb,nsK hb,hbb⟩,let ⟨mc,h1,h2⟩:=hlim;⟨mc,nsK h1,h2⟩⟩;have e0:Env0 P w K mg (pq s₁.heap H) K0 [] s₁ H:=⟨rfl,hM,fun b o e=>sO e,Nat.le_of_eq (mW _ _),trivial,fun b hb=>absurd (show b∈([]:List Addr)from hb) (by simp),hok,.of_eq hg⟩;refine Hn ((F _ hKb (nsK hns)).run K0 [] s₁ H ⟨[.ref a],[]⟩ [.ref a] [.ref a] _ _ hr e0 (hbind s₁ (.ref a)) (.cons rfl .nil) (hsp H hO hS)) fun r s' h=>?_
  cases r with
  | error e=>exact(hCX H e s' h).elim
  | ok fl =>
    cases fl with
    | next=>exact Fq h
    | brk=>exact Fq h
    | cont=>exact Fq h
    | ret u =>
      obtain⟨v,H',os,bare,un,hok',r',q⟩:=h;have q':v = .bl true:=q;subst q';obtain rfl:u=KU true:=r';refine⟨rfl,OldK.of_keep fun b o e=>?_,os,bare⟩
      cases q:H b with
      | none=>exact un.keep b o e q (by intro z;exact absurd (show b∈([]:List Addr)from z) (by simp)) (by simp)
      | some u =>
        rcases hO b with z|⟨ob,xs,z⟩
        · rw[q]at z;cases z
        · have z2:=un.frzs b ob _ z;obtain⟨e1,_⟩:=hok b _ z;obtain⟨e2,_⟩:=hok' b _ z2;rw[e]at e1;cases e1;exact e2
 cases hk:K.lookup a with
 | some o =>
   have e:=KX a o hk;rw[ha]at e;cases e
   refine core (fun _=>none) (fun _=>.inl rfl) (.inr ⟨_,vs.toArray,_,hk,rfl,rfl,rfl,by rw[DZ,lenV];exact hl,by simpa using rv⟩) (fun b u z=>by have z':(none:Option HO)=some u:=z;cases z') (fun b z=>absurd rfl z) fun z=>absurd rfl z
 | none =>
   refine core (fun b=>if b=a then some (.frz {cls:=.type "list", data:=.seq vs.toArray} (.lst (ns.map V.int)))else none) (fun b=>?_) (.inl (.inr ⟨{cls:=.type "list", data:=.seq vs.toArray},if_pos rfl⟩)) (fun b u z=>?_) (fun b z=>?_) fun _=>hk
   · by_cases hb:b=a
     · exact .inr ⟨_,_,if_pos hb⟩
     · exact .inl (if_neg hb)
   · by_cases hb:b=a
     · have z':=(if_pos hb).symm.trans z;cases z';subst hb;exact⟨ha,by rw[DO];exact hl,vs,_,rv,ha⟩
     · have z':=(if_neg hb).symm.trans z;cases z'
   · by_cases hb:b=a
     · exact hb
     · exact absurd (if_neg hb) z
theorem walk_of{l:W.OpenLaw}{k:Nat}{q:Ef}{YP:EM->Heap->Prop}{d:DefRec}{K:Lw->W.Frag}{CX:EM->Dy}{sp:EM->Sp}
 (hn:l.most=some n)(hn2:n<=sizeLine)(hdf:d.params.defaults=[])(hr:Room k K0)
 (hY:∀(w:EM)(h:Heap),YP w h->(K w.params).In h)
 (F:∀(w:EM)(mg:Str->Option DJ)(fa:Addr)(h:Heap),(K w.params).In h->h.Ns EJ mg->mg d.name=some (.ref fa) ->
  ∃ fd:GP,(∀(s:DM)(u:DJ),Lk s fd ⟨[u],[]⟩ [(x,u)]) /\
    ∀base:Heap,(K w.params).In base->base.Ns EJ mg->FnOk l.prog w (K w.params) mg base (CX w) k fa fd [x] (sp w))
 (hsp:∀(w:EM)(H:Hp)(a:Addr)(ns:List Int),ns.length<=n->yL H->CS (K w.params) H a (ns.map V.int)->sp w [.ref a] H (fun v _=>v = .bl true) fun _ _ _=>False)
 (hCX:∀(w:EM)(H:Hp)(s:DM)(e:DJ)(s':DM),CX w [] H s (fun _ _ _=>False) e s'->False) :
 W.WalkO q loose XP YP l.row.toRowW d [] (fun f vs=>PySem.call f vs):=by
 refine Att.attach_call hn hdf fun w s₀ s₁ mg mb fa o pm cd doc a vs ns G Y ho hd hcd hmg hobj hints hlen hg=>?_;have KX:=hY w _ Y;obtain⟨fd,hb,hF⟩:=F w mg fa _ KX G.T.g hmg;exact oX KX G.T.g G.T.b G.T.builtins G.T.nolimit hg hobj hints (EC hlen hn2) hr hF hb (fun H hO hS=>hsp w H a ns hlen hO hS) fun H e s'=>hCX w H s₁ e s'
abbrev Dz:Dy:=fun _ _ _ _ _ _=>False
abbrev E0:XK:=fun _ _ _=>False
theorem sE:nQ Dz X E0:=fun _ _ _ _ _ _ _ h=>h.elim
structure Fun (K:W.Frag) (x qual:Str) (st:Stmt) (f:Addr) (fd:GP):Prop where
 ex:∃(oc:DJ)(od:Option Addr)(kV doc pm:DJ)(an:Option Addr)(cdv ct:DJ)(osl:Array (Option DJ)),
  fd=W.fnOf x qual (defArgs st) (defBody st) (defScope st) .none kV doc pm an cdv ct/\K.lookup f=some ⟨oc,od,.func fd,osl⟩/\W.codeIn K cdv qual=true
 kp:W.keepIn K (.ref f)=true
section
variable{P:Ef}{w:EM}{K:W.Frag}{mg:Str->Option DJ}{base:Heap}
theorem Fun.ok{st:Stmt}{ps:List Str}{k:Nat}{sp:Sp}(F:Fun K x qual st f fd)(S:FnScope N ps (defScope st))(len:∀vs H Q E,sp vs H Q E->vs.length=ps.length)
 (hbody:∀(cdv:DJ)(A:ES)(outer:List Env)(s:DM)(H:Hp)(vs:List V)(Q:VK)(E:XK),Room k (A.deeper (JY qual (defScope st) s.heap.objs.size f cdv))->sp vs H Q E ->
  ∃t,C3 (nV Dz P w K mg base N qual (defScope st) f cdv A outer s H E).nox (defBody st) t/\t {nx:=fun _ H'=>Q .non H',rt:=Q} (start N vs) H):FnOk P w K mg base Dz (k+1) f fd ps sp:=by
 obtain⟨oc,od,kV,doc,pm,an,cdv,ct,osl,rfl,lk,hcd⟩:=F.ex;refine yE lk hcd S len fun A outer s H vs Q E hr hsp=>?_;obtain⟨t,h,q⟩:=hbody cdv A outer s H vs Q E hr hsp;exact⟨t,h.nox,q⟩
theorem Fun.binds{st:Stmt}{ps:List Str}(F:Fun K x qual st f fd)
 (h:∀(kV doc pm:DJ)(an:Option Addr)(cdv ct:DJ)(us:List DJ),us.length=ps.length->bindArgs (W.fnOf x qual (defArgs st) (defBody st) (defScope st) .none kV doc pm an cdv ct) ⟨us,[]⟩=pure (ps.zip us)):Binds K fd ps []:=by
 obtain⟨oc,od,kV,doc,pm,an,cdv,ct,osl,rfl,lk,hcd⟩:=F.ex;exact .all (h kV doc pm an cdv ct)
theorem m_{st:Stmt}{oc:DJ}{od an:Option Addr}{osl:Array (Option DJ)}{kV doc pm cdv ct:DJ}(l:K.lookup f=some ⟨oc,od,.func (W.fnOf x qual (defArgs st) (defBody st) (defScope st) .none kV doc pm an cdv ct),osl⟩)
 (c:W.codeIn K cdv qual=true)(k:W.keepIn K (.ref f)=true):Fun K x qual st f (W.fnOf x qual (defArgs st) (defBody st) (defScope st) .none kV doc pm an cdv ct):=⟨⟨oc,od,kV,doc,pm,an,cdv,ct,osl,rfl,l,c⟩,k⟩
end
theorem tw{k:Nat}(hr:Room k A):A.units+1<KW:=FG (Nat.add_le_add_left (by decide:1<=64) _) hr.units
theorem lu(h:n<=1000):n<sizeLine:=FG h (by decide)
section
variable{X:Cx}
theorem pv(i:Nat){pos:Pos}(hN:autoParam (X.N[i]?=some x) æa._auto_1)(hv:autoParam (CF X.env.scope x) æc._auto_1)(hd:autoParam ((x==("__debug__" : Str))=false) æb._auto_1)
 (hcd:autoParam ((x==("__classdict__" : Str))=false) æb._auto_1):PE X (.Name x pos) (xI i):=b_ hN hv hd hcd
end
noncomputable def bf(H H':Hp):Prop:=∀b o,H b=some o->H' b=some o
theorem bf.refl(H:Hp):bf H H:=fun _ _ h=>h
theorem bf.trans{H1 H2:Hp}(a:bf H H1)(b:bf H1 H2):bf H H2:=fun c o h=>b c o (a c o h)
theorem bf.free(e:bf H H'){l:Addr}(h:H' l=Option.none):H l=Option.none:=by
 cases q:H l with
 | none=>rfl
 | some o =>
   rw[e l o q]at h;cases h
section
variable{X:Cx}
end
section
variable{κ:Type}[DecidableEq κ]
end
end L2
namespace L2.VL
structure RlT where
 a:Option Addr
 b:Nat×List Int
abbrev RlT.no:RlT:=⟨none,(0,[])⟩
abbrev RlT.at'(r:Addr)(b:Nat×List Int):RlT:=⟨some r,b⟩
noncomputable def RO(c:Nat×List Int)(F:Hp)(o:HO):Prop:=∃(a l t:Int),o = .dK [(FX "cells", .ref c.1),(FX "at", .int a),(FX "left", .int l),(FX "turn", .int t)]/\F c.1=some (.lst (c.2.map V.int))/\c.2.length<=63/\0<=a/\0<=l/\0<=t
theorem RO.mono{c:Nat×List Int}{o:HO}(s:bf F F')(h:RO c F o):RO c F' o:=by
 obtain⟨a,l,t,e,q,r⟩:=h;exact⟨a,l,t,e,s _ _ q,r⟩
mutual
inductive Rep (K:W.Frag) (F:Hp):V->DH->Prop
 | non:Rep K F .non .none
 | bl (b:Bool):Rep K F (.bl b) (.bool b)
 | int (i:Int):Rep K F (.int i) (.int i)
 | str (x:Str):Rep K F (.str x) (.str x)
 | tup {a:Addr} {vs:List V} {ds:List DH}:CQ K F a vs->Reps K F vs ds->Rep K F (.ref a) (.tuple ds)
 | lst {a:Addr} {vs:List V} {ds:List DH}:F a=some (.lst vs)->Reps K F vs ds->Rep K F (.ref a) (.list ds)
inductive Reps (K:W.Frag) (F:Hp):List V->List DH->Prop
 | nil:Reps K F [] []
 | cons {v:V} {d:DH} {vs:List V} {ds:List DH}:Rep K F v d->Reps K F vs ds->Reps K F (v::vs) (d::ds)
end
theorem dz{K:W.Frag}{xs:List V}(e:bf H H')(h:CQ K H a xs):CQ K H' a xs:=by
 rcases h with(h|⟨o,h⟩)|h
 · exact .inl (.inl (e _ _ h))
 · exact .inl (.inr ⟨o,e _ _ h⟩)
 · exact .inr h
theorem oD{K:W.Frag}{xs:List V}(e:bf H H')(h:CS K H a xs):CS K H' a xs:=by
 rcases h with(h|⟨o,h⟩)|h
 · exact .inl (.inl (e _ _ h))
 · exact .inl (.inr ⟨o,e _ _ h⟩)
 · exact .inr h
mutual
theorem Rep.mono{K:W.Frag}{F F':Hp}(s:bf F F'):∀{v:V}{d:DH},Rep K F v d->Rep K F' v d
 | _,_,.non=>.non
 | _,_,.bl b=>.bl b
 | _,_,.int i=>.int i
 | _,_,.str x=>.str x
 | _,_,.tup h r=>.tup (dz s h) (Reps.mono s r)
 | _,_,.lst h r=>.lst (s _ _ h) (Reps.mono s r)
theorem Reps.mono{K:W.Frag}{F F':Hp}(s:bf F F'):∀{vs:List V}{ds:List DH},Reps K F vs ds->Reps K F' vs ds
 | _,_,.nil=>.nil
 | _,_,.cons h r=>.cons (Rep.mono s h) (Reps.mono s r)
end
theorem Reps.length{K:W.Frag}{F:Hp}:∀{vs:List V}{ds:List DH},Reps K F vs ds->vs.length=ds.length
 | _,_,.nil=>rfl
 | _,_,.cons _ r=>by simp[Reps.length r]
theorem Reps.get{K:W.Frag}{F:Hp}:∀{vs:List V}{ds:List DH}{i:Nat}{d:DH},Reps K F vs ds->ds[i]?=some d->∃v,vs[i]?=some v/\Rep K F v d
 | _,_,_,_,.nil,e=>by simp at e
 | _,_,0,_,.cons h _,e=>by simp at e;subst e;exact⟨_,rfl,h⟩
 | _,_,i+1,d,.cons _ r,e=>by
   obtain⟨v,h1,h2⟩:=Reps.get (i:=i) (d:=d) r (by simpa using e);exact⟨v,by simpa using h1,h2⟩
theorem Reps.append{K:W.Frag}{F:Hp}:∀{vs us:List V}{ds es:List DH},Reps K F vs ds->Reps K F us es->Reps K F (vs++us) (ds++es)
 | _,_,_,_,.nil,s=>s
 | _,_,_,_,.cons h r,s=>.cons h (Reps.append r s)
theorem Reps.snoc{K:W.Frag}{ds:List DH}(r:Reps K F vs ds)(h:Rep K F v d):Reps K F (vs++[v]) (ds++[d]):=r.append (.cons h .nil)
theorem Reps.take{K:W.Frag}{F:Hp}:∀{vs:List V}{ds:List DH}(n:Nat),Reps K F vs ds->Reps K F (vs.take n) (ds.take n)
 | _,_,0,_=>.nil
 | _,_,_+1,.nil=>.nil
 | _,_,n+1,.cons h r=>.cons h (Reps.take n r)
theorem Reps.drop{K:W.Frag}{F:Hp}:∀{vs:List V}{ds:List DH}(n:Nat),Reps K F vs ds->Reps K F (vs.drop n) (ds.drop n)
 | _,_,0,r=>r
 | _,_,_+1,.nil=>.nil
 | _,_,n+1,.cons _ r=>Reps.drop n r
theorem Reps.nil_iff{K:W.Frag}(h:Reps K F vs []):vs=[]:=by cases h;rfl
mutual
theorem Rep.reads{X:Cx}{pins:List (Addr×Obj)}{σ:St}{H F:Hp}{s:DM}(I:Inv X pins σ H s)(sub:bf F H):∀{v:V}{d:DH},Rep X.K F v d->∀u,RelV v u->∃as,Reads s.heap u d as
 | _,_,.non,u,r=>by cases(show u=GT from r);exact⟨_,.none⟩
 | _,_,.bl b,u,r=>by cases(show u=KU b from r);exact⟨_,.bool b⟩
 | _,_,.int i,u,r=>by obtain⟨t,q⟩:=(show ∃t,u=JV i t from r);cases q;exact⟨_,.int i t⟩
 | _,_,.str x,u,r=>by obtain⟨t,q⟩:=(show ∃t,u=KI x t from r);cases q;exact⟨_,.str x t⟩
 | _,_,.tup (a:=a) h q,u,r=>by
   cases(show u=GB a from r);obtain⟨its,rv,⟨o,h1,h2,n,h3⟩,hz⟩:=I.tuple (dz sub h);obtain⟨as,ra⟩:=Reps.reads I sub q its rv
   exact⟨_,.tuple h1 h2 h3 (by simpa using ra)⟩
 | _,_,.lst (a:=a) h q,u,r=>by
   cases(show u=GB a from r);obtain⟨its,rv,p,hz⟩:=I.list (.inl (.inl (sub _ _ h)));obtain⟨o,h1,h2,n,h3⟩:=p.isList;obtain⟨as,ra⟩:=Reps.reads I sub q its rv;exact⟨_,.list h1 h2 h3 (by simpa using ra)⟩
theorem Reps.reads{X:Cx}{pins:List (Addr×Obj)}{σ:St}{H F:Hp}{s:DM}(I:Inv X pins σ H s)(sub:bf F H):∀{vs:List V}{ds:List DH},Reps X.K F vs ds->∀us,bP vs us->∃as,ReadsAll s.heap us ds as
 | _,_,.nil,us,r=>by cases r;exact⟨_,.nil⟩
 | _,_,.cons h q,us,r=>by
   cases r with
   | cons r1 r2 =>
     obtain⟨as,a1⟩:=Rep.reads I sub h _ r1;obtain⟨bs,a2⟩:=Reps.reads I sub q _ r2;exact⟨_,.cons a1 a2⟩
end
structure ReelOk (b:Nat×List Int) (F H:Hp) (r:Addr):Prop where
 ex:∃o,H r=some o/\RO b F o
noncomputable def CY(rl:RlT)(F H:Hp):Prop:=∀r,rl.a=some r->F r=none/\ReelOk rl.b F H r
theorem CY.live{rl:RlT}(h:CY rl F H)(e:rl.a=some r):∃o,H r=some o:=by
 obtain⟨_,⟨o,q,_⟩⟩:=h r e;exact⟨_,q⟩
structure Grow (rl:RlT) (F H F' H':Hp):Prop where
 same:∀b o,H b=some o->rl.a≠some b->H' b=some o
 fs:bf F F'
 sub:bf F' H'
 old:∀b o,H b=some o->F' b=F b
 reel:CY rl F' H'
theorem Grow.refl{rl:RlT}{F H:Hp}(s:bf F H)(r:CY rl F H):Grow rl F H F H:=⟨fun _ _ e _=>e,.refl F,s,fun _ _ _=>rfl,r⟩
theorem Grow.live{rl:RlT}{F H F' H':Hp}(g:Grow rl F H F' H'){b:Addr}{o:HO}(e:H b=some o):∃o',H' b=some o':=by
 by_cases h:rl.a=some b
 · exact g.reel.live h
 · exact⟨o,g.same b o e h⟩
theorem Grow.trans{rl:RlT}{F H F1 H1 F2 H2:Hp}(a:Grow rl F H F1 H1)(b:Grow rl F1 H1 F2 H2):Grow rl F H F2 H2 :=
 ⟨fun c o e n=>b.same c o (a.same c o e n) n,a.fs.trans b.fs,b.sub,fun c o e=>by obtain⟨o',e'⟩:=a.live e;rw[b.old c o' e',a.old c o e],b.reel⟩
theorem Grow.freeB{rl:RlT}(g:Grow rl F H F' H')(e:H' b=none):H b=none:=by
 cases q:H b with
 | none=>rfl
 | some o=>obtain⟨o',e'⟩:=g.live q;rw[e]at e';cases e'
theorem Grow.laid{rl:RlT}{o:HO}(s:bf F H)(r:CY rl F H)(n:H a=none):Grow rl F H F (Bt H a o):=by
 have ne:∀b u,H b=some u->b≠a:=fun b u e=>aH e n;refine⟨fun b u e _=>by rw[ai (ne b u e)];exact e,.refl F,fun b u e=>by rw[ai (ne b u (s b u e))];exact s b u e,fun _ _ _=>rfl,fun q e=>?_⟩;obtain⟨z,⟨u,h1,h2⟩⟩:=r q e;exact⟨z,⟨u,by rw[ai (ne _ _ h1)];exact h1,h2⟩⟩
theorem Grow.data{rl:RlT}{o:HO}(s:bf F H)(r:CY rl F H)(n:H a=none):Grow rl F H (Bt F a o) (Bt H a o):=by
 have ne:∀b u,H b=some u->b≠a:=fun b u e=>aH e n;have neF:∀b u,F b=some u->b≠a:=fun b u e=>ne b u (s b u e);refine⟨fun b u e _=>by rw[ai (ne b u e)];exact e,fun b u e=>by rw[ai (neF b u e)];exact e,fun b u e=>?_,fun b u e=>by rw[ai (ne b u e)],fun q e=>?_⟩
 · by_cases hb:b=a
   · subst hb;rw[al]at e ⊢;exact e
   · rw[ai hb]at e ⊢;exact s b u e
 · obtain⟨z,⟨u,h1,h2⟩⟩:=r q e;exact⟨by rw[ai (ne _ _ h1)];exact z,⟨u,by rw[ai (ne _ _ h1)];exact h1,RO.mono (fun b u e=>by rw[ai (neF b u e)];exact e) h2⟩⟩
theorem Grow.freeze{rl:RlT}{F1 H1:Hp}{o:HO}(g:Grow rl F H F1 H1)(n:H a=none)(e:H1 a=some o)(f:F1 a=none)(hr:rl.a≠some a):Grow rl F H (Bt F1 a o) H1:=by
 have neF:∀b u,F1 b=some u->b≠a:=fun b u q z=>by subst z;rw[f]at q;cases q
 refine⟨g.same,fun b u q=>by rw[ai (neF b u (g.fs b u q))];exact g.fs b u q,fun b u q=>?_,fun b u q=>by rw[ai (aH q n)];exact g.old b u q,fun q z=>?_⟩
 · by_cases hb:b=a
   · subst hb;rw[al]at q;rw[e];exact q
   · rw[ai hb]at q;exact g.sub b u q
 · obtain⟨z1,⟨u,h1,h2⟩⟩:=g.reel q z;exact⟨by rw[ai (fun y=>hr (by rw[<- y];exact z))];exact z1,⟨u,h1,RO.mono (fun b u e=>by rw[ai (neF b u e)];exact e) h2⟩⟩
inductive W where
 | d (x:DH)
 | ml (xs:List DH)
 | pk (xs:List DH)
 | reel
 | vv (v:V)
 | md (kvs:List (List Di×DH))
 | mk (kvs:List (Di×DH))
 | nt (ds:List DH)
 | lk
 | sc (ns:List Int)
 | fd (kvs:List (Di×DH))
 | fw (kvs:List (Di×DH))
 | ft (kvs:List (List Di×DH))
 | xc (x:Str) (fs:List (Str×DH))
 | dp (kvs:List (Di×DH)) (x:DH)
noncomputable def W.dat:W->Option DH
 | .d x=>some x
 | .ml xs=>some (.list xs)
 | .pk xs=>some (.list xs)
 | .nt ds=>some (.tuple ds)
 | _=>none
noncomputable def W.peek:W->W
 | .ml xs=>.pk xs
 | .md _=>.lk
 | .mk _=>.lk
 | w=>w
noncomputable def W.own:W->Bool
 | .ml _=>true
 | .md _=>true
 | .mk _=>true
 | _=>false
abbrev KD(K:W.Frag)(F:Hp):List (List Di×V)->List (List Di×DH)->Prop:=E8 fun p q=>p.1=q.1/\Rep K F p.2 q.2
abbrev Dk(K:W.Frag)(F:Hp):List (Di×V)->List (Di×DH)->Prop:=E8 fun p q=>p.1=q.1/\Rep K F p.2 q.2
abbrev Dj(K:W.Frag)(F:Hp):List (Str×V)->List (Str×DH)->Prop:=E8 fun p q=>p.1=q.1/\Rep K F p.2 q.2
noncomputable def yN(e C dx:Addr):Heap->Prop:=fun h=>∃oe vs,h.get? e=some oe/\oe.cls = .ref C/\oe.dict=some dx/\oe.data = .fields vs
noncomputable def t4(K:W.Frag)(rl:RlT)(F H:Hp)(v:V)(kvs:List (List Di×DH)):Prop:=∃a us,v = .ref a/\F a=none/\rl.a≠some a/\H a=some (.dT us)/\KD K F us kvs
noncomputable def tZ(K:W.Frag)(rl:RlT)(F H:Hp)(v:V)(kvs:List (Di×DH)):Prop:=∃a us,v = .ref a/\F a=none/\rl.a≠some a/\H a=some (.dK us)/\Dk K F us kvs
noncomputable def gh(K:W.Frag)(rl:RlT)(F H:Hp)(v:V)(xs:List DH):Prop:=∃a vs,v = .ref a/\F a=none/\rl.a≠some a/\H a=some (.lst vs)/\Reps K F vs xs
noncomputable def cL(K:W.Frag)(rl:RlT)(F H:Hp)(v:V):W->Prop
 | .d x=>Rep K F v x
 | .ml xs=>gh K rl F H v xs
 | .pk xs=>gh K rl F H v xs
 | .reel=>∃r,rl.a=some r/\v = .ref r
 | .vv u=>v=u
 | .md kvs=>t4 K rl F H v kvs
 | .mk kvs=>tZ K rl F H v kvs
 | .nt ds=>∃a vs,v = .ref a/\F a=some (.tup vs)/\Reps K F vs ds
 | .lk=>True
 | .sc ns=>∃a,v = .ref a/\CS K F a (ns.map V.int)
 | .fd kvs=>∃a us,v = .ref a/\F a=some (.dK us)/\Dk K F us kvs
 | .fw kvs=>∃a us o,v = .ref a/\F a=some (.frz o (.dK us))/\Dk K F us kvs
 | .ft kvs=>∃a us o,v = .ref a/\F a=some (.frz o (.dT us))/\KD K F us kvs
 | .xc x fs=>∃e dx us C,v = .ref e/\W.nsIn K EJ x=some (some (.ref C))/\F e=some (.ext (yN e C dx))/\F dx=some (.xd us)/\Dj K F us fs
 | .dp kvs x=>∃a b us u o,v = .ref a/\F a=some (.tup [.ref b,u])/\F b=some (.frz o (.dK us))/\Dk K F us kvs/\Rep K F u x
theorem t4.grow{K:W.Frag}{rl:RlT}{kvs:List (List Di×DH)}(g:Grow rl F H F' H')(r:t4 K rl F H v kvs):t4 K rl F' H' v kvs:=by
 obtain⟨a,us,rfl,h1,h2,h3,h4⟩:=r;exact⟨a,us,rfl,by rw[g.old a _ h3];exact h1,h2,g.same a _ h3 h2,E8.mapP h4 fun _ _ z=>⟨z.1,z.2.mono g.fs⟩⟩
theorem tZ.grow{K:W.Frag}{rl:RlT}{kvs:List (Di×DH)}(g:Grow rl F H F' H')(r:tZ K rl F H v kvs):tZ K rl F' H' v kvs:=by
 obtain⟨a,us,rfl,h1,h2,h3,h4⟩:=r;exact⟨a,us,rfl,by rw[g.old a _ h3];exact h1,h2,g.same a _ h3 h2,E8.mapP h4 fun _ _ z=>⟨z.1,z.2.mono g.fs⟩⟩
theorem gh.grow{K:W.Frag}{rl:RlT}(g:Grow rl F H F' H')(r:gh K rl F H v xs):gh K rl F' H' v xs:=by
 obtain⟨a,vs,rfl,h1,h2,h3,h4⟩:=r;exact⟨a,vs,rfl,by rw[g.old a _ h3];exact h1,h2,g.same a _ h3 h2,h4.mono g.fs⟩
theorem cL.grow{K:W.Frag}{rl:RlT}{F H F' H':Hp}{v:V}{w:W}(g:Grow rl F H F' H')(r:cL K rl F H v w):cL K rl F' H' v w:=by
 cases w with
 | d x=>exact Rep.mono g.fs r
 | ml xs=>exact gh.grow g r
 | pk xs=>exact gh.grow g r
 | reel=>exact r
 | vv u=>exact r
 | md kvs=>exact t4.grow g r
 | mk kvs=>exact tZ.grow g r
 | nt ds=>obtain⟨a,vs,e,h,q⟩:=r;exact⟨a,vs,e,g.fs _ _ h,q.mono g.fs⟩
 | lk=>trivial
 | sc ns=>obtain⟨a,e,h⟩:=r;exact⟨a,e,oD g.fs h⟩
 | fd kvs=>obtain⟨a,us,e,h,q⟩:=r;exact⟨a,us,e,g.fs _ _ h,E8.mapP q fun _ _ z=>⟨z.1,z.2.mono g.fs⟩⟩
 | fw kvs=>obtain⟨a,us,o,e,h,q⟩:=r;exact⟨a,us,o,e,g.fs _ _ h,E8.mapP q fun _ _ z=>⟨z.1,z.2.mono g.fs⟩⟩
 | ft kvs=>obtain⟨a,us,o,e,h,q⟩:=r;exact⟨a,us,o,e,g.fs _ _ h,E8.mapP q fun _ _ z=>⟨z.1,z.2.mono g.fs⟩⟩
 | xc _ _=>obtain⟨a,dx,us,C,e,n,h1,h2,q⟩:=r;exact⟨a,dx,us,C,e,n,g.fs _ _ h1,g.fs _ _ h2,E8.mapP q fun _ _ z=>⟨z.1,z.2.mono g.fs⟩⟩
 | dp _ _=>obtain⟨a,b,us,u,o,e,h1,h2,q,z⟩:=r;exact⟨a,b,us,u,o,e,g.fs _ _ h1,g.fs _ _ h2,E8.mapP q fun _ _ z=>⟨z.1,z.2.mono g.fs⟩,z.mono g.fs⟩
theorem cL.peek{K:W.Frag}{rl:RlT}{w:W}(r:cL K rl F H v w):cL K rl F H v w.peek:=by cases w<;>first|exact r|trivial
theorem gh.rep{K:W.Frag}{rl:RlT}(s:bf F H)(r:gh K rl F H v xs):Rep K H v (.list xs):=by
 obtain⟨a,vs,rfl,h1,h2,h3,h4⟩:=r;exact .lst h3 (h4.mono s)
theorem cL.dat{K:W.Frag}{rl:RlT}{w:W}{x:DH}(s:bf F H)(r:cL K rl F H v w)(e:w.dat=some x):Rep K H v x:=by
 cases w with
 | d y=>cases e;exact Rep.mono s r
 | ml xs=>cases e;exact gh.rep s r
 | pk xs=>cases e;exact gh.rep s r
 | reel=>cases e
 | vv u=>cases e
 | md kvs=>cases e
 | mk kvs=>cases e
 | nt ds=>cases e;obtain⟨a,vs,rfl,h,q⟩:=r;exact .tup (.inl (.inl (s _ _ h))) (q.mono s)
 | lk=>cases e
 | sc _=>cases e
 | fd _=>cases e
 | fw _=>cases e
 | ft _=>cases e
 | xc _ _=>cases e
 | dp _ _=>cases e
theorem cL.items{K:W.Frag}{rl:RlT}{w:W}(s:bf F H)(r:cL K rl F H v w)(e:w.dat=some (.list xs)):∃a vs,v = .ref a/\CS K H a vs/\Reps K F vs xs:=by
 have own:gh K rl F H v xs->∃a vs,v = .ref a/\CS K H a vs/\Reps K F vs xs:=fun⟨a,vs,e1,_,_,e2,e3⟩=>⟨a,vs,e1,.inl (.inl e2),e3⟩
 cases w with
 | d y =>
   cases e
   cases(show Rep K F v (.list xs)from r)with
   | lst h q=>exact⟨_,_,rfl,.inl (.inl (s _ _ h)),q⟩
 | ml ys=>cases e;exact own r
 | pk ys=>cases e;exact own r
 | reel=>cases e
 | vv u=>cases e
 | md kvs=>cases e
 | mk kvs=>cases e
 | nt ds=>cases e
 | lk=>cases e
 | sc _=>cases e
 | fd _=>cases e
 | fw _=>cases e
 | ft _=>cases e
 | xc _ _=>cases e
 | dp _ _=>cases e
theorem cL.itemsT{K:W.Frag}{rl:RlT}{w:W}(s:bf F H)(r:cL K rl F H v w)(e:w.dat=some (.tuple xs)):∃a vs,v = .ref a/\CQ K H a vs/\Reps K F vs xs:=by
 cases w with
 | d y =>
   cases e
   cases(show Rep K F v (.tuple xs)from r)with
   | tup h q=>exact⟨_,_,rfl,dz s h,q⟩
 | ml ys=>cases e
 | pk ys=>cases e
 | reel=>cases e
 | vv u=>cases e
 | md kvs=>cases e
 | mk kvs=>cases e
 | nt ds=>cases e;obtain⟨a,vs,rfl,h,q⟩:=r;exact⟨a,vs,rfl,.inl (.inl (s _ _ h)),q⟩
 | lk=>cases e
 | sc _=>cases e
 | fd _=>cases e
 | fw _=>cases e
 | ft _=>cases e
 | xc _ _=>cases e
 | dp _ _=>cases e
noncomputable def dm(H:Hp)(v:V):W->Prop
 | .ml _=>∀a,v = .ref a->H a=none
 | .md _=>∀a,v = .ref a->H a=none
 | .mk _=>∀a,v = .ref a->H a=none
 | _=>True
theorem cL.live{K:W.Frag}{rl:RlT}{w:W}(r:cL K rl F H v w)(h:w.own=true):∃a o,v = .ref a/\H a=some o:=by
 cases w with
 | ml xs=>obtain⟨a,vs,e,_,_,hh,_⟩:=r;exact⟨a,_,e,hh⟩
 | md xs=>obtain⟨a,vs,e,_,_,hh,_⟩:=r;exact⟨a,_,e,hh⟩
 | mk xs=>obtain⟨a,vs,e,_,_,hh,_⟩:=r;exact⟨a,_,e,hh⟩
 | _=>cases h
theorem dm.none{w:W}(n:dm H v w)(h:w.own=true)(e:v = .ref a):H a=none:=by
 cases w with
 | ml xs=>exact n a e
 | md xs=>exact n a e
 | mk xs=>exact n a e
 | _=>cases h
abbrev En:=List (Option W)
structure VR (K:W.Frag) (rl:RlT) (F₀ H₀ F H:Hp) (σ:St) (ρ:En):Prop where
 g:Grow rl F₀ H₀ F H
 sl:∀(i:Nat) w,ρ[i]?=some (some w)->∃v,σ[i]?=some (some v)/\cL K rl F H v w/\dm H₀ v w
 ap:∀(i j:Nat)(x y:W) v,i≠j->ρ[i]?=some (some x)->ρ[j]?=some (some y)->x.own=true->y.own=true->σ[i]?=some (some v)->σ[j]?=some (some v)->False
 np:∀(i:Nat) xs,ρ[i]?≠some (some (W.pk xs))
 len:ρ.length=σ.length
section
variable{K:W.Frag}{rl:RlT}{F₀ H₀ F H F' H':Hp}{σ:St}{ρ:En}
theorem VR.sub(r:VR K rl F₀ H₀ F H σ ρ):bf F H:=r.g.sub
theorem VR.reel(r:VR K rl F₀ H₀ F H σ ρ):CY rl F H:=r.g.reel
theorem VR.grow(r:VR K rl F₀ H₀ F H σ ρ)(g:Grow rl F H F' H'):VR K rl F₀ H₀ F' H' σ ρ :=
 ⟨r.g.trans g,fun i w e=>let ⟨v,e1,e2,e3⟩:=r.sl i w e;⟨v,e1,e2.grow g,e3⟩,r.ap,r.np,r.len⟩
theorem VR.set(r:VR K rl F₀ H₀ F H σ ρ){H1 F1:Hp}(g:Grow rl F H F1 H1){w:W}(rw':cL K rl F1 H1 v w)(hn:dm H v w)(hp:∀xs,w ≠ .pk xs)(i:Nat):VR K rl F₀ H₀ F1 H1 (σ.set i (some v)) (ρ.set i (some w)):=by
 have r1:=r.grow g;refine⟨r1.g,fun j w' e=>?_,fun j k xs ys u hjk e1 e2 w1 w2 s1 s2=>?_,fun j xs z=>?_,by simp[r.len]⟩
 · by_cases hj:i=j
   · subst hj
     have hi:i<ρ.length:=by
      rw[E5]at e;by_cases hi:i<ρ.length
      · exact hi
      · simp[hi]at e
     rw[Eg hi]at e;cases e;refine⟨v,by rw[Eg (by rw[<- r.len];exact hi)],rw',?_⟩
     cases w with
     | ml xs=>exact fun a ea=>r.g.freeB (hn a ea)
     | d x=>trivial
     | pk xs=>trivial
     | reel=>trivial
     | vv u=>trivial
     | md xs=>exact fun a ea=>r.g.freeB (hn a ea)
     | mk xs=>exact fun a ea=>r.g.freeB (hn a ea)
     | nt ds=>trivial
     | lk=>trivial
     | sc _=>trivial
     | fd _=>trivial
     | fw _=>trivial
     | ft _=>trivial
     | xc _ _=>trivial
     | dp _ _=>trivial
   · rw[Ee hj]at e;obtain⟨u,h1,h2,h3⟩:=r1.sl j w' e;exact⟨u,by rw[Ee hj];exact h1,h2,h3⟩
 · have key:∀(k:Nat)(x y:W),ρ[k]?=some (some y)->some (some w)=some (some x)->x.own=true->y.own=true->σ[k]?=some (some v)->False:=fun k x y d2 e1 o1 o2 s2=>by
     cases e1;obtain⟨u',h1,h2,h3⟩:=r.sl k _ d2;rw[s2]at h1;cases h1;obtain⟨a,o,ea,hh⟩:=h2.live o2;rw[hn.none o1 ea]at hh;cases hh
   by_cases hj:i=j
   · subst hj;have hk:i≠k:=hjk
     have hi:i<ρ.length:=by
      rw[E5]at e1;by_cases hi:i<ρ.length
      · exact hi
      · simp[hi]at e1
     rw[Eg hi]at e1;rw[Ee hk]at e2 s2;rw[Eg (by rw[<- r.len];exact hi)]at s1;cases s1;exact key k xs ys e2 e1 w1 w2 s2
   · by_cases hk:i=k
     · subst hk
       have hi:i<ρ.length:=by
        rw[E5]at e2;by_cases hi:i<ρ.length
        · exact hi
        · simp[hi]at e2
       rw[Eg hi]at e2;rw[Ee hj]at e1 s1;rw[Eg (by rw[<- r.len];exact hi)]at s2;cases s2;exact key j ys xs e1 e2 w2 w1 s1
     · rw[Ee hj]at e1 s1;rw[Ee hk]at e2 s2;exact r.ap j k xs ys u hjk e1 e2 w1 w2 s1 s2
 · rw[E5]at z;split at z
   · split at z
     · exact hp xs (Eu (Eu z))
     · cases z
   · exact r.np j xs z
theorem VR.freeze(r:VR K rl F₀ H₀ F H σ ρ){i:Nat}{xs:List DH}(e:ρ[i]?=some (some (.ml xs))):∃F1,VR K rl F₀ H₀ F1 H σ (ρ.set i (some (.d (.list xs)))):=by
 obtain⟨v,h1,h2,h3⟩:=r.sl i _ e;obtain⟨a,vs,rfl,f,hr,hh,q⟩:=(show gh K rl F H v xs from h2);have hi:i<ρ.length:=(Ec.mp e).1;have neF:∀b u,F b=some u->b≠a:=fun b u q z=>by subst z;rw[f]at q;cases q
 have fsm:bf F (Bt F a (.lst vs)):=fun b u z=>by rw[ai (neF b u z)];exact z
 refine⟨Bt F a (.lst vs),r.g.freeze (h3 a rfl) hh f hr,fun j w e1=>?_,fun j k ys zs u hjk e1 e2 w1 w2 s1 s2=>?_,fun j ys z=>?_,by simp[r.len]⟩
 · by_cases hj:i=j
   · subst hj;rw[Eg hi]at e1;cases e1;exact⟨.ref a,h1,.lst al (q.mono fsm),trivial⟩
   · rw[Ee hj]at e1;obtain⟨u,g1,g2,g3⟩:=r.sl j w e1;refine⟨u,g1,?_,g3⟩
     have own:∀ys,(∀zs,w = .ml zs->ys=zs)->gh K rl F H u ys->(∃b,u = .ref b/\b≠a)->gh K rl (Bt F a (.lst vs)) H u ys:=fun ys _ ⟨b,us,eb,f1,f2,f3,f4⟩ ⟨b',eb',ne⟩=>by
      rw[eb]at eb';cases eb';exact⟨b,us,eb,by rw[ai ne];exact f1,f2,f3,f4.mono fsm⟩
     cases w with
     | d x=>exact Rep.mono fsm g2
     | reel=>exact g2
     | vv u=>exact g2
     | ml ys =>
       obtain⟨b,us,eb,f1,f2,f3,f4⟩:=(show gh K rl F H u ys from g2);have ne:b≠a:=fun z=>r.ap i j _ _ (.ref a) hj e e1 rfl rfl h1 (by rw[g1,eb,z])
       exact⟨b,us,eb,by rw[ai ne];exact f1,f2,f3,f4.mono fsm⟩
     | pk ys=>exact absurd e1 (r.np j ys)
     | md ys =>
       obtain⟨b,us,eb,f1,f2,f3,f4⟩:=(show t4 K rl F H u ys from g2);have ne:b≠a:=fun z=>r.ap i j _ _ (.ref a) hj e e1 rfl rfl h1 (by rw[g1,eb,z])
       exact⟨b,us,eb,by rw[ai ne];exact f1,f2,f3,E8.mapP f4 fun _ _ z=>⟨z.1,z.2.mono fsm⟩⟩
     | mk ys =>
       obtain⟨b,us,eb,f1,f2,f3,f4⟩:=(show tZ K rl F H u ys from g2);have ne:b≠a:=fun z=>r.ap i j _ _ (.ref a) hj e e1 rfl rfl h1 (by rw[g1,eb,z])
       exact⟨b,us,eb,by rw[ai ne];exact f1,f2,f3,E8.mapP f4 fun _ _ z=>⟨z.1,z.2.mono fsm⟩⟩
     | nt ds=>obtain⟨b,us,eb,f1,f2⟩:=g2;exact⟨b,us,eb,fsm _ _ f1,f2.mono fsm⟩
     | lk=>trivial
     | sc ns=>obtain⟨b,eb,f1⟩:=g2;exact⟨b,eb,oD fsm f1⟩
     | fd kvs=>obtain⟨b,us,eb,f1,f2⟩:=g2;exact⟨b,us,eb,fsm _ _ f1,E8.mapP f2 fun _ _ z=>⟨z.1,z.2.mono fsm⟩⟩
     | fw kvs=>obtain⟨b,us,o,eb,f1,f2⟩:=g2;exact⟨b,us,o,eb,fsm _ _ f1,E8.mapP f2 fun _ _ z=>⟨z.1,z.2.mono fsm⟩⟩
     | ft kvs=>obtain⟨b,us,o,eb,f1,f2⟩:=g2;exact⟨b,us,o,eb,fsm _ _ f1,E8.mapP f2 fun _ _ z=>⟨z.1,z.2.mono fsm⟩⟩
     | xc _ _=>obtain⟨b,dx,us,C,eb,n,f1,f3,f2⟩:=g2;exact⟨b,dx,us,C,eb,n,fsm _ _ f1,fsm _ _ f3,E8.mapP f2 fun _ _ z=>⟨z.1,z.2.mono fsm⟩⟩
     | dp _ _=>obtain⟨c,b,us,u,o,eb,f1,f3,f2,z⟩:=g2;exact⟨c,b,us,u,o,eb,fsm _ _ f1,fsm _ _ f3,E8.mapP f2 fun _ _ z=>⟨z.1,z.2.mono fsm⟩,z.mono fsm⟩
 · have nd:∀(j:Nat)(y:W),(ρ.set i (some (W.d (.list xs))))[j]?=some (some y)->y.own=true->ρ[j]?=some (some y):=fun j y z o=>by
     by_cases hj:i=j
     · subst hj;rw[Eg hi]at z;cases z;cases o
     · rw[Ee hj]at z;exact z
   exact r.ap j k ys zs u hjk (nd j ys e1 w1) (nd k zs e2 w2) w1 w2 s1 s2
 · rw[E5]at z;split at z
   · first|cases z|(split at z<;>cases z)
   · exact r.np j ys z
end
abbrev TV:=En->(W->Prop)->Prop
abbrev TB:=En->(Bool->Prop)->Prop
abbrev CJ:=En->(List W->Prop)->Prop
abbrev fu(K:W.Frag)(rl:RlT)(F H:Hp):List V->List W->Prop:=E8 (cL K rl F H)
noncomputable def PV(X:Cx)(rl:RlT)(e:Expr)(f:TV):Prop:=∃t,PE X e t/\∀{F₀ H₀ F H:Hp}{σ:St}{ρ:En},VR X.K rl F₀ H₀ F H σ ρ->∀(Qd:W->Prop)(Q:VK),f ρ Qd ->
 (∀v w F' H',Grow rl F H F' H'->cL X.K rl F' H' v w->dm H v w->Qd w->Q v H')->t σ H Q
noncomputable def PB(X:Cx)(rl:RlT)(e:Expr)(f:TB):Prop:=∃t,PT X e t/\∀{F₀ H₀ F H:Hp}{σ:St}{ρ:En},VR X.K rl F₀ H₀ F H σ ρ->∀(Qd:Bool->Prop)(Q:Bool->Hp->Prop),f ρ Qd ->
 (∀b F' H',Grow rl F H F' H'->Qd b->Q b H')->t σ H Q
noncomputable def CZ(X:Cx)(rl:RlT)(es:List Expr)(f:CJ):Prop:=∃t,PA X es t/\∀{F₀ H₀ F H:Hp}{σ:St}{ρ:En},VR X.K rl F₀ H₀ F H σ ρ->∀(Qd:List W->Prop)(Q:List V->Hp->Prop),f ρ Qd ->
 (∀vs ws F' H',Grow rl F H F' H'->fu X.K rl F' H' vs ws->Qd ws->Q vs H')->t σ H Q
noncomputable def W.fz:W->W
 | .ml xs=>.d (.list xs)
 | .nt ds=>.d (.tuple ds)
 | w=>w
theorem cL.fz{K:W.Frag}{rl:RlT}{F1 H1:Hp}{w:W}(g:Grow rl F H F1 H1)(r:cL K rl F1 H1 v w)(n:dm H v w):∃F2,Grow rl F H F2 H1/\bf F1 F2/\cL K rl F2 H1 v w.fz:=by
 cases w with
 | d x=>exact⟨F1,g,.refl _,r⟩
 | pk xs=>exact⟨F1,g,.refl _,r⟩
 | reel=>exact⟨F1,g,.refl _,r⟩
 | vv u=>exact⟨F1,g,.refl _,r⟩
 | md u=>exact⟨F1,g,.refl _,r⟩
 | mk u=>exact⟨F1,g,.refl _,r⟩
 | lk=>exact⟨F1,g,.refl _,r⟩
 | sc _=>exact⟨F1,g,.refl _,r⟩
 | fd _=>exact⟨F1,g,.refl _,r⟩
 | fw _=>exact⟨F1,g,.refl _,r⟩
 | ft _=>exact⟨F1,g,.refl _,r⟩
 | xc _ _=>exact⟨F1,g,.refl _,r⟩
 | dp _ _=>exact⟨F1,g,.refl _,r⟩
 | nt ds=>obtain⟨a,vs,rfl,h,q⟩:=r;exact⟨F1,g,.refl _,.tup (.inl (.inl h)) q⟩
 | ml xs =>
   obtain⟨a,vs,rfl,f,hr,hh,q⟩:=(show gh K rl F1 H1 v xs from r);have neF:∀b u,F1 b=some u->b≠a:=fun b u q z=>by subst z;rw[f]at q;cases q
   have fsm:bf F1 (Bt F1 a (.lst vs)):=fun b u z=>by rw[ai (neF b u z)];exact z
   exact⟨Bt F1 a (.lst vs),g.freeze (n a rfl) hh f hr,fsm,.lst al (q.mono fsm)⟩
section
variable{X:Cx}{rl:RlT}{a b e:Expr}{es:List Expr}{fa fb fc:TV}{fs:CJ}{pos p:Pos}
noncomputable def vC(x:DH):TV:=fun _ Q=>Q (.d x)
theorem gB{x:DH}(h:PE X e (tC v))(r:∀F,Rep X.K F v x):PV X rl e (vC x) :=
 ⟨_,h,fun R Qd Q q k=>k v (.d x) _ _ (Grow.refl R.sub R.reel) (r _) trivial q⟩
theorem ac{i:Int}{j pos}:PV X rl (.Constant (.int i) j pos) (vC (.int i)):=gB jE fun _=>.int i
theorem lK{i:Bool}{j pos}:PV X rl (.Constant (.bool i) j pos) (vC (.bool i)):=gB yb fun _=>.bl i
theorem r8{pos:Pos}(hm:X.mg x=some u)(r:RelV v u)(h:∀F,Rep X.K F v d)(hg:autoParam (Gl X x) æa._auto_1)(hd:autoParam ((x==("__debug__" : Str))=false) æb._auto_1):PV X rl (.Name x pos) (vC d) :=
 gB (sB hg hm r hd) h
noncomputable def dr(i:Nat):TV:=fun ρ Q=>∃w,ρ[i]?=some (some w)/\Q w.peek
theorem vn(i:Nat){pos:Pos}(hN:autoParam (X.N[i]?=some x) æa._auto_1)(hv:autoParam (CF X.env.scope x) æc._auto_1)(hd:autoParam ((x==("__debug__" : Str))=false) æb._auto_1)
 (hcd:autoParam ((x==("__classdict__" : Str))=false) æb._auto_1):PV X rl (.Name x pos) (dr i) :=
 ⟨_,b_ hN hv hd hcd,fun R Qd Q ⟨w,e,q⟩ k=>by
  obtain⟨v,e1,r,_⟩:=R.sl i w e;refine⟨v,e1,k v w.peek _ _ (Grow.refl R.sub R.reel) r.peek ?_ q⟩
  cases w<;>trivial⟩
noncomputable def iN:CJ:=fun _ Q=>Q []
noncomputable def aC(f:TV)(fs:CJ):CJ:=fun ρ Q=>f ρ fun w=>fs ρ fun ws=>Q (w.fz::ws)
theorem ab:CZ X rl [] iN:=⟨_,jG,fun R Qd Q q k=>k [] [] _ _ (Grow.refl R.sub R.reel) .nil q⟩
theorem aa(h1:PV X rl e fa)(h2:CZ X rl es fs)(hs:autoParam (DY (e::es) X.env=(false,eval e X.env)::DY es X.env) æa._auto_1):CZ X rl (e::es) (aC fa fs):=by
 obtain⟨t,p1,k1⟩:=h1;obtain⟨ts,p2,k2⟩:=h2;refine⟨_,eP p1 p2 hs,fun R Qd Q q k=>?_⟩;refine k1 R _ _ q fun v w F1 H1 g1 r1 n1 q1=>?_;obtain⟨F2,g2,s2,r2⟩:=cL.fz g1 r1 n1;refine k2 (R.grow g2) _ _ q1 fun vs ws F3 H3 g3 r3 q3=>?_;exact k (v::vs) (w.fz::ws) F3 H3 (g2.trans g3) (.cons (r2.grow g3) r3) q3
noncomputable def CG(X:Cx)(rl:RlT)(r:R2)(g:W->W->(W->Prop)->Prop):Prop:=∀{F H:Hp}{x y:V}{wx wy:W}(Qd:W->Prop)(Q:VK),bf F H->CY rl F H->cL X.K rl F H x wx->cL X.K rl F H y wy->g wx wy Qd ->
 (∀v w F' H',Grow rl F H F' H'->cL X.K rl F' H' v w->dm H v w->Qd w->Q v H')->r x y H Q
noncomputable def Bq(g:W->W->(W->Prop)->Prop)(fa fb:TV):TV:=fun ρ Q=>fa ρ fun x=>fb ρ fun y=>g x y Q
theorem kU{r:R2}{g:W->W->(W->Prop)->Prop}(vo:CG X rl r g)(ha:PV X rl a fa)(hb:PV X rl b fb){e:Expr}(hp:∀ta tb,PE X a ta->PE X b tb->PE X e (BG r ta tb)):PV X rl e (Bq g fa fb):=by
 obtain⟨ta,p1,k1⟩:=ha;obtain⟨tb,p2,k2⟩:=hb;refine⟨_,hp ta tb p1 p2,fun R Qd Q q k=>?_⟩;refine k1 R _ _ q fun v w F1 H1 g1 r1 n1 q1=>?_;refine k2 (R.grow g1) _ _ q1 fun v2 w2 F2 H2 g2 r2 n2 q2=>?_
 exact vo Qd Q g2.sub g2.reel (r1.grow g2) r2 q2 fun v3 w3 F3 H3 g3 r3 n3 q3=>k v3 w3 F3 H3 ((g1.trans g2).trans g3) r3 (by
  cases w3 with
  | ml xs=>exact fun a ea=>g1.freeB (g2.freeB (n3 a ea))
  | md xs=>exact fun a ea=>g1.freeB (g2.freeB (n3 a ea))
  | mk xs=>exact fun a ea=>g1.freeB (g2.freeB (n3 a ea))
  | nt _=>trivial
  | lk=>trivial
  | sc _=>trivial
  | fd _=>trivial
  | fw _=>trivial
  | ft _=>trivial
  | xc _ _=>trivial
  | dp _ _=>trivial
  | d _=>trivial
  | pk _=>trivial
  | reel=>trivial
  | vv _=>trivial) q3
theorem fG{op:Ld}{r:R2}{g:W->W->(W->Prop)->Prop}(ho:De X (GO op) r)(vo:CG X rl r g)(ha:PV X rl a fa)(hb:PV X rl b fb):PV X rl (.BinOp a op b pos) (Bq g fa fb) :=
 kU vo ha hb fun _ _ p1 p2=>ya ho p1 p2
noncomputable def gI(C:Int->Int->Prop)(g:Int->Int->DH):W->W->(W->Prop)->Prop:=fun x y Q=>∃i j,x = .d (.int i)/\y = .d (.int j)/\C i j/\Q (.d (g i j))
theorem aZ{K:W.Frag}{i:Int}(h:Rep K F v (.int i)):v = .int i:=by cases h;rfl
theorem eg{C:Int->Int->Prop}{g:Int->Int->V}{gd:Int->Int->DH}(h:∀K F i j,Rep K F (g i j) (gd i j)):CG X rl (rI C g) (gI C gd):=fun{F H x y wx wy} Qd Q s ra r1 r2 q k=>by
 obtain⟨i,j,rfl,rfl,c,q⟩:=q;exact⟨i,j,aZ r1,aZ r2,c,k _ (.d _) _ _ (Grow.refl s ra) (h _ _ i j) trivial q⟩
noncomputable def Cu(g:Int->Int->DH):W->W->(W->Prop)->Prop:=fun x y Q=>∃i j,x = .d (.int i)/\y = .d (.int j)/\Q (.d (g i j))
theorem cE{g:Int->Int->V}{gd:Int->Int->DH}(h:∀K F i j,Rep K F (g i j) (gd i j)):CG X rl (BW g) (Cu gd):=fun{F H x y wx wy} Qd Q s ra r1 r2 q k=>by
 obtain⟨i,j,rfl,rfl,q⟩:=q;exact⟨i,j,aZ r1,aZ r2,k _ (.d _) _ _ (Grow.refl s ra) (h _ _ i j) trivial q⟩
theorem v_add(ha:PV X rl a fa)(hb:PV X rl b fb):PV X rl (.BinOp a .Add b pos) (Bq (Cu fun i j=>.int (i+j)) fa fb):=fG vV (cE fun _ _ _ _=>.int _) ha hb
theorem v_sub(ha:PV X rl a fa)(hb:PV X rl b fb):PV X rl (.BinOp a .Sub b pos) (Bq (Cu fun i j=>.int (i-j)) fa fb):=fG vR (cE fun _ _ _ _=>.int _) ha hb
noncomputable def DB(i:Int):Prop:=i.natAbs<2^60000
theorem DB.bits{i:Int}(h:DB i):Iq i<=60000:=IW.mpr h
noncomputable def aA(i j:Int):Prop:=i.natAbs<2^64\/j.natAbs<2^64\/(DB i/\DB j)
theorem aA.lt{i j:Int}(h:i.natAbs<2^64):aA i j:=.inl h
theorem aA.rt{i j:Int}(h:j.natAbs<2^64):aA i j:=.inr (.inl h)
theorem aA.bb{i j:Int}(h:DB i)(h':DB j):aA i j:=.inr (.inr ⟨h,h'⟩)
theorem aA.ok{i j:Int}(h:aA i j):IntMulOk i j:=by
 rcases h with h|h|h
 · exact .of_left (IW.mpr h)
 · exact .of_right (IW.mpr h)
 · exact IntMulOk.of_le h.1.bits h.2.bits (by decide)
theorem sI:De X (GO .Mult) (rI aA fun i j=>.int (i*j)):=B6 fun _ _ _ _ _ _ _ hc q=>mul_int q hc.ok
theorem v_mul(ha:PV X rl a fa)(hb:PV X rl b fb):PV X rl (.BinOp a .Mult b pos) (Bq (gI aA fun i j=>.int (i*j)) fa fb):=fG sI (eg fun _ _ _ _=>.int _) ha hb
noncomputable def cU(_ j:Int):Prop:=j≠0/\j.natAbs<2^9000
theorem oO:De X (GO .FloorDiv) (rI cU fun i j=>.int (i.fdiv j)):=B6 fun _ j _ _ _ _ _ hc q=>floordiv_int hc.1 q (.inl (PyProof.noPylong_of_log2 ((Nat.log2_lt (by have:=hc.1;omega)).mpr hc.2)))
theorem v_div(ha:PV X rl a fa)(hb:PV X rl b fb):PV X rl (.BinOp a .FloorDiv b pos) (Bq (gI cU fun i j=>.int (i.fdiv j)) fa fb):=fG oO (eg fun _ _ _ _=>.int _) ha hb
theorem v_mod(ha:PV X rl a fa)(hb:PV X rl b fb):PV X rl (.BinOp a .Mod b pos) (Bq (gI (fun _ j=>j≠0) fun i j=>.int (i.fmod j)) fa fb):=fG sJ (eg fun _ _ _ _=>.int _) ha hb
theorem v_pow(ha:PV X rl a fa)(hb:PV X rl b fb):PV X rl (.BinOp a .Pow b pos) (Bq (gI Ah fun i j=>.int (i^j.toNat)) fa fb):=fG vT (eg fun _ _ _ _=>.int _) ha hb
noncomputable def xz(fa:TV):TV:=fun ρ Q=>fa ρ fun x=>∃i,x = .d (.int i)/\Q (.d (.int (-i)))
theorem xt(ha:PV X rl a fa):PV X rl (.UnaryOp .USub a pos) (xz fa):=by
 obtain⟨ta,p1,k1⟩:=ha;refine⟨_,x_ uE p1,fun R Qd Q q k=>k1 R _ _ q fun v w F1 H1 g1 r1 n1 ⟨i,ew,q1⟩=>?_⟩;subst ew;exact⟨i,aZ r1,k _ (.d _) F1 H1 g1 (.int _) trivial q1⟩
theorem rh{op:CmpOp}{r:R2}{g:W->W->(W->Prop)->Prop}(ho:De X (G0 op) r)(vo:CG X rl r g)(hm:Hu op b=false)(ha:PV X rl a fa)(hb:PV X rl b fb):PV X rl (.Compare a [op] [b] pos) (Bq g fa fb) :=
 kU vo ha hb fun _ _ p1 p2=>sD ho p1 p2 hm
noncomputable def om(f:TV):TB:=fun ρ Q=>f ρ fun w=>∃k,w = .d (.bool k)/\Q k
theorem lE{K:W.Frag}{i:Bool}(h:Rep K F v (.bool i)):v = .bl i:=by cases h;rfl
theorem bJ{op:CmpOp}{r:R2}{g:W->W->(W->Prop)->Prop}(ho:De X (G0 op) r)(vo:CG X rl r g)(hm:Hu op b=false)(ha:PV X rl a fa)(hb:PV X rl b fb):PB X rl (.Compare a [op] [b] pos) (om (Bq g fa fb)):=by
 obtain⟨ta,p1,k1⟩:=ha;obtain⟨tb,p2,k2⟩:=hb;refine⟨_,sd ho p1 p2 hm,fun R Qd Q q k=>?_⟩;refine k1 R _ _ q fun v w F1 H1 g1 r1 n1 q1=>?_;refine k2 (R.grow g1) _ _ q1 fun v2 w2 F2 H2 g2 r2 n2 q2=>?_;refine vo _ _ g2.sub g2.reel (r1.grow g2) r2 q2 fun v3 w3 F3 H3 g3 r3 n3 ⟨kb,ew,q3⟩=>?_;subst ew;exact⟨kb,lE r3,k kb F3 H3 ((g1.trans g2).trans g3) q3⟩
theorem pZ(ha:PV X rl e fa)(he:autoParam (∀whole,isTrue e X.env whole=(do let v <- whole;JX e.pos;Jo [v] (truthy v))) æd._auto_1):PB X rl e (om fa):=by
 obtain⟨ta,p1,k1⟩:=ha;refine⟨_,vF p1 he,fun R Qd Q q k=>k1 R _ _ q fun v w F1 H1 g1 r1 n1 ⟨kb,ew,q1⟩=>?_⟩;subst ew;exact⟨kb,lE r1,k kb F1 H1 g1 q1⟩
abbrev xh(p:Int->Int->Bool):=Cu fun i j=>.bool (p i j)
theorem nZ:CG X rl (BW fun i j=>.bl (decide (i<j))) (xh fun i j=>decide (i<j)):=cE fun _ _ _ _=>.bl _
theorem xp:CG X rl (BW fun i j=>.bl (decide (i<=j))) (xh fun i j=>decide (i<=j)):=cE fun _ _ _ _=>.bl _
theorem n6:CG X rl (BW fun i j=>.bl (decide (j<i))) (xh fun i j=>decide (j<i)):=cE fun _ _ _ _=>.bl _
theorem xr:CG X rl (BW fun i j=>.bl (decide (j<=i))) (xh fun i j=>decide (j<=i)):=cE fun _ _ _ _=>.bl _
noncomputable def xX(K:W.Frag)(neg:Bool):R2:=fun x y H Q=>∃dx dy,Rep K H x dx/\Rep K H y dy/\E9 dx=true/\E9 dy=true/\Q (.bl (if neg then !FR dx dy else FR dx dy)) H
theorem lZ(hu:X.A.units+64<KW):De X (G0 .Eq) (xX X.K false):=by
 intro pins s σ H x y v u Q I rx ry ⟨dx,dy,h1,h2,s1,s2,q⟩;obtain⟨as,a1⟩:=Rep.reads I (.refl H) h1 v rx;obtain⟨bs,a2⟩:=Rep.reads I (.refl H) h2 u ry;exact SeqAt.compareEq_shaped a1 a2 s1 s2 hu ⟨.bl _,H,I,rfl,q⟩
theorem lY(hu:X.A.units+64<KW):De X (G0 .NotEq) (xX X.K true):=by
 intro pins s σ H x y v u Q I rx ry ⟨dx,dy,h1,h2,s1,s2,q⟩;obtain⟨as,a1⟩:=Rep.reads I (.refl H) h1 v rx;obtain⟨bs,a2⟩:=Rep.reads I (.refl H) h2 u ry;exact SeqAt.compareNe_shaped a1 a2 s1 s2 hu ⟨.bl _,H,I,rfl,q⟩
noncomputable def yA(neg:Bool):W->W->(W->Prop)->Prop:=fun x y Q=>∃dx dy,x.dat=some dx/\y.dat=some dy/\E9 dx=true/\E9 dy=true/\Q (.d (.bool (if neg then !FR dx dy else FR dx dy)))
theorem fL{neg:Bool}:CG X rl (xX X.K neg) (yA neg):=fun{F H x y wx wy} Qd Q s ra r1 r2 q k=>by
 obtain⟨dx,dy,e1,e2,s1,s2,q⟩:=q;exact⟨dx,dy,r1.dat s e1,r2.dat s e2,s1,s2,k _ (.d _) _ _ (Grow.refl s ra) (.bl _) trivial q⟩
noncomputable def zQ(K:W.Frag)(neg:Bool):R2:=fun x y H Q=>∃dx ys,Rep K H x dx/\(Rep K H y (.list ys)\/Rep K H y (.tuple ys))/\E9 dx=true/\E6 ys=true/\Q (.bl (if neg then !(ys.any fun z=>FR z dx)else ys.any fun z=>FR z dx)) H
theorem mV{ys:List DH}(hu:A.units+65<KW)(h:E9 d=true):A.units+1+min (FH ys) d.depth<KW:=by
 have h1:=SeqAt.depth_of_shaped h;have h2:min (FH ys) d.depth<=d.depth:=Nat.min_le_right _ _;omega
theorem lX(hu:X.A.units+65<KW):De X (G0 .NotIn) (zQ X.K true):=by
 intro pins s σ H x y v u Q I rx ry ⟨dx,ys,h1,h2,s1,s2,q⟩;obtain⟨as,a1⟩:=Rep.reads I (.refl H) h1 v rx;rcases h2 with h2|h2
 · obtain⟨bs,a2⟩:=Rep.reads I (.refl H) h2 u ry;exact SeqAt.notIn_list_reads a2 a1 s2 (JP s1) (mV hu s1) ⟨.bl _,H,I,rfl,q⟩
 · obtain⟨bs,a2⟩:=Rep.reads I (.refl H) h2 u ry;exact SeqAt.notIn_tuple_reads a2 a1 s2 (JP s1) (mV hu s1) ⟨.bl _,H,I,rfl,q⟩
noncomputable def yx(neg:Bool):W->W->(W->Prop)->Prop:=fun x y Q=>∃dx ys,x.dat=some dx/\(y.dat=some (.list ys)\/y.dat=some (.tuple ys))/\E9 dx=true/\E6 ys=true/\Q (.d (.bool (if neg then !(ys.any fun z=>FR z dx)else ys.any fun z=>FR z dx)))
theorem uc{neg:Bool}:CG X rl (zQ X.K neg) (yx neg):=fun{F H x y wx wy} Qd Q s ra r1 r2 q k=>by
 obtain⟨dx,ys,e1,e2,s1,s2,q⟩:=q;exact⟨dx,ys,r1.dat s e1,e2.imp (fun e=>r2.dat s e) (fun e=>r2.dat s e),s1,s2,k _ (.d _) _ _ (Grow.refl s ra) (.bl _) trivial q⟩
noncomputable def xF(f g:TB):TB:=fun ρ Q=>f ρ fun b=>if b=true then g ρ Q else Q false
noncomputable def Bp(f g:TB):TB:=fun ρ Q=>f ρ fun b=>if b=true then Q true else g ρ Q
noncomputable def An(f:TB):TB:=fun ρ Q=>f ρ fun b=>Q (!b)
noncomputable def Dc(X:Cx)(rl:RlT)(e:Expr)(f:TB):Prop:=∃t,PW X e t/\∀{F₀ H₀ F H:Hp}{σ:St}{ρ:En},VR X.K rl F₀ H₀ F H σ ρ->∀(Qd:Bool->Prop)(Q:Bool->Hp->Prop),f ρ Qd ->
 (∀b F' H',Grow rl F H F' H'->Qd b->Q b H')->t σ H Q
variable{f g:TB}{rest:List Expr}
theorem Dc.pb(h:Dc X rl e f):PB X rl e f:=let ⟨t,p,k⟩:=h;⟨t,p.pt,k⟩
theorem kZ(ha:PB X rl a f):Dc X rl (.BoolOp .And [a] pos) f:=let ⟨t,p,k⟩:=ha;⟨t,rZ p,k⟩
theorem p4(ha:PB X rl a f)(hb:Dc X rl (.BoolOp .And (b::rest) pos) g):Dc X rl (.BoolOp .And (a::b::rest) pos) (xF f g):=by
 obtain⟨t,p,k⟩:=ha;obtain⟨t2,p2,k2⟩:=hb;refine⟨_,vD p p2,fun R Qd Q q h=>k R _ _ q fun c F1 H1 g1 q1=>?_⟩
 cases c with
 | true=>exact k2 (R.grow g1) _ _ q1 fun c F2 H2 g2 q2=>h c F2 H2 (g1.trans g2) q2
 | false=>exact h false F1 H1 g1 q1
noncomputable def uD(fa fb:TV):TV:=fun ρ Q=>fa ρ fun w=>∃c,w = .d (.bool c)/\if c=true then fb ρ Q else Q (.d (.bool false))
noncomputable def zF(fa fb:TV):TV:=fun ρ Q=>fa ρ fun w=>∃c,w = .d (.bool c)/\if c=true then Q (.d (.bool true))else fb ρ Q
noncomputable def uw(fa:TV):TV:=fun ρ Q=>fa ρ fun w=>∃c,w = .d (.bool c)/\Q (.d (.bool (!c)))
theorem dm.back{rl:RlT}{w:W}(g:Grow rl F H F' H')(n:dm H' v w):dm H v w:=by
 cases w with
 | ml xs=>exact fun a ea=>g.freeB (n a ea)
 | md xs=>exact fun a ea=>g.freeB (n a ea)
 | mk xs=>exact fun a ea=>g.freeB (n a ea)
 | nt _=>trivial
 | lk=>trivial
 | sc _=>trivial
 | fd _=>trivial
 | fw _=>trivial
 | ft _=>trivial
 | xc _ _=>trivial
 | dp _ _=>trivial
 | d _=>trivial
 | pk _=>trivial
 | reel=>trivial
 | vv _=>trivial
noncomputable def Bs(t:TB)(fa fb:TV):TV:=fun ρ Q=>t ρ fun c=>if c=true then fa ρ Q else fb ρ Q
theorem rf{c:Expr}(hc:PB X rl c f)(ha:PV X rl a fa)(hb:PV X rl b fb):PV X rl (.IfExp c a b pos) (Bs f fa fb):=by
 obtain⟨t,p,k⟩:=hc;obtain⟨t1,p1,k1⟩:=ha;obtain⟨t2,p2,k2⟩:=hb;refine⟨_,oK p p1 p2,fun R Qd Q q h=>k R _ _ q fun c F1 H1 g1 q1=>?_⟩
 cases c with
 | true=>exact k1 (R.grow g1) _ _ q1 fun v w F2 H2 g2 r2 n2 q2=>h v w F2 H2 (g1.trans g2) r2 (n2.back g1) q2
 | false=>exact k2 (R.grow g1) _ _ q1 fun v w F2 H2 g2 r2 n2 q2=>h v w F2 H2 (g1.trans g2) r2 (n2.back g1) q2
noncomputable def gO:List W->Option (List DH)
 | []=>some []
 | .d x::r=>(gO r).map (x :: ·)
 | _::_=>none
theorem cq{K:W.Frag}{F H:Hp}:∀{vs:List V}{ws:List W}{ds:List DH},fu K rl F H vs ws->gO ws=some ds->Reps K F vs ds
 | _,_,_,.nil,e=>by cases e;exact .nil
 | _,.d x::ws,ds,.cons r rs,e=>by
   have e:(gO ws).map (x :: ·)=some ds:=e
   cases q:gO ws with
   | none=>rw[q]at e;cases e
   | some es=>rw[q]at e;cases e;exact .cons r (cq rs q)
 | _,.ml x::ws,ds,.cons r rs,e=>by cases(show none=some ds from e)
 | _,.pk x::ws,ds,.cons r rs,e=>by cases(show none=some ds from e)
 | _,.reel::ws,ds,.cons r rs,e=>by cases(show none=some ds from e)
 | _,.vv u::ws,ds,.cons r rs,e=>by cases(show none=some ds from e)
 | _,.md u::ws,ds,.cons r rs,e=>by cases(show none=some ds from e)
 | _,.nt u::ws,ds,.cons r rs,e=>by cases(show none=some ds from e)
 | _,.lk::ws,ds,.cons r rs,e=>by cases(show none=some ds from e)
 | _,.sc _::ws,ds,.cons r rs,e=>by cases(show none=some ds from e)
 | _,.fd _::ws,ds,.cons r rs,e=>by cases(show none=some ds from e)
 | _,.xc _ _::ws,ds,.cons r rs,e=>by cases(show none=some ds from e)
 | _,.mk _::ws,ds,.cons r rs,e=>by cases(show none=some ds from e)
 | _,.fw _::ws,ds,.cons r rs,e=>by cases(show none=some ds from e)
 | _,.ft _::ws,ds,.cons r rs,e=>by cases(show none=some ds from e)
 | _,.dp _ _::ws,ds,.cons r rs,e=>by cases(show none=some ds from e)
noncomputable def xv(fs:CJ):TV:=fun ρ Q=>fs ρ fun ws=>∃ds,gO ws=some ds/\ds.length<=sizeLine/\Q (.d (.tuple ds))
noncomputable def wV(fs:CJ):TV:=fun ρ Q=>fs ρ fun ws=>∃ds,gO ws=some ds/\ds.length<=sizeLine/\Q (.ml ds)
theorem eA{x1}(h:CZ X rl es fs):PV X rl (.Tuple es x1 pos) (xv fs):=by
 obtain⟨t,p,k⟩:=h;refine⟨_,vN p,fun R Qd Q q h=>k R _ _ q fun vs ws F1 H1 g1 r1 ⟨ds,e1,z,q1⟩=>?_⟩;have rs:=cq r1 e1;refine⟨by rw[rs.length];exact z,fun p hp=>?_⟩;have g2:=g1.trans (Grow.data (a:=p) (o:=.tup vs) g1.sub g1.reel hp);exact h _ (.d (.tuple ds)) _ _ g2 (.tup (.inl (.inl al)) (rs.mono (Grow.data (o:=.tup vs) g1.sub g1.reel hp).fs)) trivial q1
theorem ck{K:W.Frag}{p:Addr}{ds:List DH}(s:bf F H)(ra:CY rl F H)(hp:H p=none)(rs:Reps K F vs ds):gh K rl F (Bt H p (.lst vs)) (.ref p) ds:=by
 refine⟨p,vs,rfl,s.free hp,fun e=>?_,al,rs⟩;obtain⟨o,q⟩:=ra.live e;rw[hp]at q;cases q
theorem cH(h:CZ X rl es fs):PV X rl (.List es pos) (wV fs):=by
 obtain⟨t,p,k⟩:=h;refine⟨_,vO p,fun R Qd Q q h=>k R _ _ q fun vs ws F1 H1 g1 r1 ⟨ds,e1,z,q1⟩=>?_⟩;have rs:=cq r1 e1;refine⟨by rw[rs.length];exact z,fun p hp=>?_⟩;exact h _ (.ml ds) _ _ (g1.trans (Grow.laid (a:=p) (o:=.lst vs) g1.sub g1.reel hp)) (ck g1.sub g1.reel hp rs) (fun a ea=>by cases ea;exact g1.freeB hp) q1
noncomputable def itemAt:DH->Int->Option DH
 | .list xs,i=>atI xs i
 | .tuple xs,i=>atI xs i
 | _,_=>none
theorem Reps.atI{K:W.Frag}{F:Hp}{vs:List V}{ds:List DH}{i:Int}{d:DH}(r:Reps K F vs ds)(e:L2.atI ds i=some d):∃v,L2.atI vs i=some v/\Rep K F v d:=by
 unfold L2.atI at e ⊢;rw[r.length]
 cases q:ixN ds.length i with
 | none=>rw[q]at e;cases e
 | some j =>
   rw[q]at e;exact r.get e
noncomputable def Cs:W->W->(W->Prop)->Prop:=fun x y Q=>∃dx i z,x.dat=some dx/\y = .d (.int i)/\itemAt dx i=some z/\Q (.d z)
theorem xq:CG X rl (BV X.K) Cs:=fun{F H x y wx wy} Qd Q s ra r1 r2 q k=>by
 obtain⟨dx,i,z,e1,rfl,e3,q⟩:=q;have ey:=aZ r2;subst ey
 cases dx with
 | list xs =>
   obtain⟨a,vs,rfl,sq,rs⟩:=r1.items s e1;obtain⟨v,e4,rz⟩:=Reps.atI rs e3
   exact .inl ⟨a,vs,i,v,rfl,rfl,sq,e4,k _ (.d _) _ _ (Grow.refl s ra) rz trivial q⟩
 | tuple xs =>
   obtain⟨a,vs,rfl,sq,rs⟩:=r1.itemsT s e1;obtain⟨v,e4,rz⟩:=Reps.atI rs e3
   exact .inr (.inl ⟨a,vs,i,v,rfl,rfl,sq,e4,k _ (.d _) _ _ (Grow.refl s ra) rz trivial q⟩)
 | none=>cases e3
 | bool b=>cases e3
 | int b=>cases e3
 | str b=>cases e3
 | dict b=>cases e3
theorem bK(ha:PV X rl a fa)(hb:PV X rl b fb)(hs:autoParam (gT b) æh._auto_1):PV X rl (.Subscript a b pos) (Bq Cs fa fb):=kU xq ha hb fun _ _ p1 p2=>sA mK p1 p2 hs
noncomputable def fJ(X:Cx)(rl:RlT)(r:List V->Hp->VK->Prop)(g:List W->(W->Prop)->Prop):Prop:=∀{F H:Hp}{vs:List V}{ws:List W}(Qd:W->Prop)(Q:VK),bf F H->CY rl F H->fu X.K rl F H vs ws->g ws Qd ->
 (∀v w F' H',Grow rl F H F' H'->cL X.K rl F' H' v w->dm H v w->Qd w->Q v H')->r vs H Q
noncomputable def eC(g:List W->(W->Prop)->Prop)(fs:CJ):TV:=fun ρ Q=>fs ρ fun ws=>g ws Q
theorem gq{r:List V->Hp->VK->Prop}{g:List W->(W->Prop)->Prop}{t:TA->TE}(vc:fJ X rl r g)(ha:CZ X rl es fs){e:Expr}(hp:∀ta,PA X es ta->PE X e (BJ r ta)):PV X rl e (eC g fs):=by
 obtain⟨ta,p1,k1⟩:=ha;refine⟨_,hp ta p1,fun R Qd Q q k=>k1 R _ _ q fun vs ws F1 H1 g1 r1 q1=>?_⟩;exact vc Qd Q g1.sub g1.reel r1 q1 fun v w F2 H2 g2 r2 n2 q2=>k v w F2 H2 (g1.trans g2) r2 (n2.back g1) q2
theorem gu{id:String}{r:List V->Hp->VK->Prop}{g:List W->(W->Prop)->Prop}(hc:dS X (.builtin id) r)(vc:fJ X rl r g)(hm:X.mg x=none)(hv:Hl x=some (.builtin id))(ha:CZ X rl (e::es) fs)(hg:autoParam (Gl X x) æa._auto_1)(hn:autoParam (x ≠ "__name__") æb._auto_1)(hdb:autoParam ((x==("__debug__" : Str))=false) æb._auto_1)
 (he:autoParam (DY (e::es) X.env=(false,eval e X.env)::DY es X.env) æa._auto_1)(hpl:autoParam ((Ge pos (DY es X.env)).any (·.1)=false) æa._auto_1):PV X rl (.Call (.Name x p) (e::es) [] pos) (eC g fs) :=
 gq (t:=fun _=>tC .non) vc ha fun _ p1=>jF hc hg hm hv p1 hn hdb he hpl
theorem jm{T:String}{r:List V->Hp->VK->Prop}{g:List W->(W->Prop)->Prop}(hc:dS X (.type T) r)(vc:fJ X rl r g)(hm:X.mg x=none)(hv:Hl x=some (.type T))(ha:CZ X rl (e::es) fs)(hg:autoParam (Gl X x) æa._auto_1)(hn:autoParam (x ≠ "__name__") æb._auto_1)(hdb:autoParam ((x==("__debug__" : Str))=false) æb._auto_1)
 (he:autoParam (DY (e::es) X.env=(false,eval e X.env)::DY es X.env) æa._auto_1)(hpl:autoParam ((Ge pos (DY es X.env)).any (·.1)=false) æa._auto_1):PV X rl (.Call (.Name x p) (e::es) [] pos) (eC g fs) :=
 gq (t:=fun _=>tC .non) vc ha fun _ p1=>ii hc hg hm hv p1 hn hdb he hpl
theorem qk{K:W.Frag}{w:W}(r:fu K rl F H vs [w]):∃v,vs=[v]/\cL K rl F H v w:=by
 cases r with
 | cons r1 r2=>cases r2;exact⟨_,rfl,r1⟩
theorem AD{K:W.Frag}{w w':W}(r:fu K rl F H vs [w,w']):∃v u,vs=[v,u]/\cL K rl F H v w/\cL K rl F H u w':=by
 cases r with
 | cons r1 r2 =>
   cases r2 with
   | cons r3 r4=>cases r4;exact⟨_,_,rfl,r1,r3⟩
noncomputable def xj:List W->(W->Prop)->Prop:=fun ws Q=>∃i,ws=[.d (.int i)]/\Q (.d (.int (if i<0 then -i else i)))
theorem uj:fJ X rl (fun xs H Q=>∃i,xs=[.int i]/\Q (.int (if i<0 then -i else i)) H) xj:=fun{F H vs ws} Qd Q s ra r ⟨i,ew,q⟩ k=>by
 subst ew;obtain⟨v,rfl,r1⟩:=qk r;have e:=aZ r1;subst e;exact⟨i,rfl,k _ (.d _) _ _ (Grow.refl s ra) (.int _) trivial q⟩
noncomputable def qy:DH->Option Nat
 | .list xs=>some xs.length
 | .tuple xs=>some xs.length
 | _=>none
noncomputable def xf:List W->(W->Prop)->Prop:=fun ws Q=>∃w d n,ws=[w]/\w.dat=some d/\qy d=some n/\Q (.d (.int n))
theorem ui:fJ X rl (fun xs H Q=>∃p ys,xs=[.ref p]/\(CS X.K H p ys\/CQ X.K H p ys)/\Q (.int ys.length) H) xf:=fun{F H vs ws} Qd Q s ra r ⟨w,d,n,ew,e1,e2,q⟩ k=>by
 subst ew;obtain⟨v,rfl,r1⟩:=qk r
 cases d with
 | list xs =>
   obtain⟨a,vs,rfl,sq,rs⟩:=r1.items s e1;cases e2
   exact⟨a,vs,rfl,.inl sq,k _ (.d _) _ _ (Grow.refl s ra) (by rw[rs.length];exact .int _) trivial q⟩
 | tuple xs =>
   obtain⟨a,vs,rfl,sq,rs⟩:=r1.itemsT s e1;cases e2
   exact⟨a,vs,rfl,.inr sq,k _ (.d _) _ _ (Grow.refl s ra) (by rw[rs.length];exact .int _) trivial q⟩
 | none=>cases e2
 | bool b=>cases e2
 | int b=>cases e2
 | str b=>cases e2
 | dict b=>cases e2
end
structure VEnds where
 nx:En->Prop
 rt:W->Prop
 bk:En->Prop:=fun _=>False
 ct:En->Prop:=fun _=>False
structure EndsOk (K:W.Frag) (rl:RlT) (F₀ H₀ Fs:Hp) (Dv:VEnds) (D:Ends):Prop where
 nx:∀F H σ ρ,bf Fs F->VR K rl F₀ H₀ F H σ ρ->Dv.nx ρ->D.nx σ H
 rt:∀v w F H,Grow rl F₀ H₀ F H->cL K rl F H v w->dm H₀ v w->Dv.rt w->D.rt v H
 bk:∀F H σ ρ,bf Fs F->VR K rl F₀ H₀ F H σ ρ->Dv.bk ρ->D.bk σ H
 ct:∀F H σ ρ,bf Fs F->VR K rl F₀ H₀ F H σ ρ->Dv.ct ρ->D.ct σ H
theorem EndsOk.on{K:W.Frag}{rl:RlT}{Fs:Hp}{Dv:VEnds}{D:Ends}(ok:EndsOk K rl F₀ H₀ Fs Dv D)(s:bf Fs F):EndsOk K rl F₀ H₀ F Dv D :=
 ⟨fun F1 H σ ρ s1=>ok.nx F1 H σ ρ (s.trans s1),ok.rt,fun F1 H σ ρ s1=>ok.bk F1 H σ ρ (s.trans s1),fun F1 H σ ρ s1=>ok.ct F1 H σ ρ (s.trans s1)⟩
abbrev CK:=VEnds->En->Prop
noncomputable def C5(X:Cx)(rl:RlT)(st:Stmt)(t:CK):Prop:=∃T,PS X st T/\∀{F₀ H₀ F H:Hp}{σ:St}{ρ:En},VR X.K rl F₀ H₀ F H σ ρ->∀Dv D,EndsOk X.K rl F₀ H₀ F Dv D->t Dv ρ->T D σ H
noncomputable def kd(X:Cx)(rl:RlT)(st:List Stmt)(t:CK):Prop:=∃T,C3 X st T/\∀{F₀ H₀ F H:Hp}{σ:St}{ρ:En},VR X.K rl F₀ H₀ F H σ ρ->∀Dv D,EndsOk X.K rl F₀ H₀ F Dv D->t Dv ρ->T D σ H
section
variable{X:Cx}{rl:RlT}{st:Stmt}{rest body:List Stmt}{t u:CK}{a b c e:Expr}{es:List Expr}{fa fb:TV}{fs:CJ}{f:TB}{pos p:Pos}
noncomputable def ux:CK:=fun D ρ=>D.nx ρ
noncomputable def zC(t u:CK):CK:=fun D ρ=>t {D with nx:=u D} ρ
theorem cu:kd X rl [] ux:=⟨_,lO,fun R Dv D ok q=>ok.nx _ _ _ _ (.refl _) R q⟩
theorem am(h:C5 X rl st t):kd X rl [st] t:=let ⟨T,p,k⟩:=h;⟨T,lN p,k⟩
theorem ah(h:C5 X rl st t)(h2:kd X rl rest u):kd X rl (st::rest) (zC t u):=by
 obtain⟨T,p,k⟩:=h;obtain⟨T2,p2,k2⟩:=h2;exact⟨_,dX p p2,fun R Dv D ok q=>k R {Dv with nx:=u Dv} {D with nx:=T2 D} ⟨fun F H σ ρ s' R' q'=>k2 R' Dv D (ok.on s') q',ok.rt,ok.bk,ok.ct⟩ q⟩
noncomputable def xC(fa:TV):CK:=fun D ρ=>fa ρ fun _=>D.nx ρ
noncomputable def zD(fa:TV):CK:=fun D ρ=>fa ρ D.rt
theorem aE(h:PV X rl e fa):C5 X rl (.Return (some e) pos) (zD fa):=by
 obtain⟨t,p,k⟩:=h;exact⟨_,ql p,fun R Dv D ok q=>k R _ _ q fun v w F1 H1 g1 r1 n1 q1=>ok.rt v w F1 H1 (R.g.trans g1) r1 (n1.back R.g) q1⟩
noncomputable def xy:CK:=fun D _=>D.rt (.d .none)
noncomputable def xA(f:TB)(t u:CK):CK:=fun D ρ=>f ρ fun b=>if b=true then t D ρ else u D ρ
theorem dP{A B:List Stmt}(hc:PB X rl c f)(ha:kd X rl A t)(hb:kd X rl B u):C5 X rl (.If c A B pos) (xA f t u):=by
 obtain⟨t0,p0,k0⟩:=hc;obtain⟨t1,p1,k1⟩:=ha;obtain⟨t2,p2,k2⟩:=hb;refine⟨_,x6 p0 p1 p2,fun R Dv D ok q=>k0 R _ _ q fun b F1 H1 g1 q1=>?_⟩
 cases b with
 | true=>exact k1 (R.grow g1) Dv D (ok.on g1.fs) q1
 | false=>exact k2 (R.grow g1) Dv D (ok.on g1.fs) q1
theorem nY:C5 X rl st (fun _ _=>False):=⟨_,oH,fun _ _ _ _ q=>q.elim⟩
noncomputable def W.isPk:W->Bool
 | .pk _=>true
 | _=>false
noncomputable def zB(i:Nat)(fa:TV):CK:=fun D ρ=>fa ρ fun w=>w.isPk=false/\D.nx (ρ.set i (some w))
theorem gU(i:Nat)(hN:X.N.Nodup)(he:PV X rl e fa)(hi:autoParam (X.N[i]?=some x) æa._auto_1)(hx:autoParam (Loc X.env.scope x) æe._auto_1)
 (hs:autoParam (Gr e (some (.Name x pos')) pos.line X.env=pure false) æa._auto_1)(hf:autoParam (X.fn x=true\/X.env.scope.names.lookup x=some .local) æf._auto_1) :
 C5 X rl (.Assign [.Name x pos'] e pos) (zB i fa):=by
 obtain⟨t,p,k⟩:=he;refine⟨_,ig hN hi hx p hs hf,fun R Dv D ok q=>k R _ _ q fun v w F1 H1 g1 r1 n1 ⟨hp,q1⟩=>?_⟩;exact ok.nx _ _ _ _ g1.fs (R.set g1 r1 n1 (fun xs z=>by subst z;cases hp) i) q1
noncomputable def jd(ρ:En):Prop:=∀(i:Nat)(w:W),ρ[i]?=some (some w)->w.own=false
theorem jd.set{ρ:En}(h:jd ρ)(i:Nat)(x:DH):jd (ρ.set i (some (.d x))):=fun j w z=>by
 rw[E5]at z;split at z
 · split at z
   · cases z;rfl
   · cases z
 · exact h j w z
abbrev CO:=DH->En->(En->Prop)->Prop
abbrev kQ:=List DH->En->(En->Prop)->Prop
noncomputable def Db(X:Cx)(rl:RlT)(tg:Expr)(g:CO):Prop:=∃G,PG X tg G/\∀{F₀ H₀ F H:Hp}{σ:St}{ρ:En},VR X.K rl F₀ H₀ F H σ ρ->∀(v:V)(x:DH)(Qd:En->Prop)(Q:St->Hp->Prop),Rep X.K F v x->g x ρ Qd ->
 (∀F' H' σ' ρ',Grow rl F H F' H'->(jd ρ->jd ρ')->VR X.K rl F₀ H₀ F' H' σ' ρ'->Qd ρ'->Q σ' H')->G v σ H Q
noncomputable def xk(X:Cx)(rl:RlT)(tgs:List Expr)(g:kQ):Prop:=∃G,Da X tgs G/\∀{F₀ H₀ F H:Hp}{σ:St}{ρ:En},VR X.K rl F₀ H₀ F H σ ρ->∀(vs:List V)(xs:List DH)(Qd:En->Prop)(Q:St->Hp->Prop),Reps X.K F vs xs->g xs ρ Qd ->
 (∀F' H' σ' ρ',Grow rl F H F' H'->(jd ρ->jd ρ')->VR X.K rl F₀ H₀ F' H' σ' ρ'->Qd ρ'->Q σ' H')->G vs σ H Q
noncomputable def pA(i:Nat):CO:=fun x ρ Q=>Q (ρ.set i (some (.d x)))
theorem ak(i:Nat)(hN:X.N.Nodup)(hi:autoParam (X.N[i]?=some x) æa._auto_1)(hx:autoParam (Loc X.env.scope x) æe._auto_1)(hf:autoParam (X.fn x=true\/X.env.scope.names.lookup x=some .local) æf._auto_1):Db X rl (.Name x pos) (pA i) :=
 ⟨_,sy hN hi hx hf,fun R v x Qd Q r q k=>k _ _ _ _ (Grow.refl R.sub R.reel) (fun n=>n.set i x) (R.set (w:=.d x) (Grow.refl R.sub R.reel) r trivial (fun _ z=>by cases z) i) q⟩
noncomputable def yt:kQ:=fun xs ρ Q=>xs=[]/\Q ρ
noncomputable def pB(g:CO)(gs:kQ):kQ:=fun xs ρ Q=>∃y r,xs=y::r/\g y ρ fun ρ'=>gs r ρ' Q
theorem dn:xk X rl [] yt:=⟨_,sx,fun R vs xs Qd Q r ⟨e,q⟩ k=>by subst e;exact⟨r.nil_iff,k _ _ _ _ (Grow.refl R.sub R.reel) (fun n=>n) R q⟩⟩
theorem be{g:CO}{gs:kQ}(h1:Db X rl e g)(h2:xk X rl es gs)(hs:autoParam ((GC (e::es) X.env).map (·.2)=H_ e X.env::(GC es X.env).map (·.2)) æa._auto_1):xk X rl (e::es) (pB g gs):=by
 obtain⟨G,p,k⟩:=h1;obtain⟨G2,p2,k2⟩:=h2;refine⟨_,oJ p p2 hs,fun R vs xs Qd Q r ⟨y,ys,ex,q⟩ h=>?_⟩;subst ex
 cases r with
 | cons r1 r2 =>
   refine⟨_,_,rfl,k R _ y _ _ r1 q fun F1 H1 σ1 ρ1 s1 n1 R1 q1=>?_⟩;exact k2 R1 _ ys _ _ (r2.mono s1.fs) q1 fun F2 H2 σ2 ρ2 s2 n2 R2 q2=>h F2 H2 σ2 ρ2 (s1.trans s2) (fun n=>n2 (n1 n)) R2 q2
noncomputable def yr(n:Nat)(gs:kQ):CO:=fun x ρ Q=>∃xs,x = .tuple xs/\xs.length=n/\gs xs ρ Q
theorem fN{kk:Nat}{gs:kQ}(hc:X.calm=true)(h:xk X rl es gs)(hn:autoParam ((GC es X.env).length=n) æa._auto_1)(hst:autoParam ((GC es X.env).findIdx? (·.1)=none) æa._auto_1):Db X rl (.Tuple es kk pos) (yr n gs):=by
 obtain⟨G,p,k⟩:=h;refine⟨_,vL hc p hn hst,fun R v x Qd Q r ⟨xs,ex,hl,q⟩ h=>?_⟩;subst ex
 cases r with
 | tup sq rs=>exact⟨_,_,rfl,dz R.sub sq,by rw[rs.length];exact hl,k R _ xs _ _ rs q h⟩
noncomputable def xE(fa:TV)(g:CO):CK:=fun D ρ=>fa ρ fun w=>∃x,w = .d x/\g x ρ D.nx
theorem pY{g:CO}(he:PV X rl e fa)(hg:Db X rl tg g)(hs:autoParam (G6 [tg] e pos.line X.env=pure false) æa._auto_1)(hw:autoParam (G7 [tg] e X.env=pure none) æa._auto_1)
 (h1:autoParam ((GC [tg] X.env).map (·.2)=[H_ tg X.env]) æa._auto_1):C5 X rl (.Assign [tg] e pos) (xE fa g):=by
 obtain⟨t,p,k⟩:=he;obtain⟨G,p2,k2⟩:=hg;refine⟨_,qq p p2 hs hw h1,fun R Dv D ok q=>k R _ _ q fun v w F1 H1 g1 r1 n1 ⟨x,ew,q1⟩=>?_⟩;subst ew;exact k2 (R.grow g1) v x _ _ r1 q1 fun F2 H2 σ2 ρ2 s2 n2 R2 q2=>ok.nx _ _ _ _ (g1.fs.trans s2.fs) R2 q2
noncomputable def zE(i j:Nat)(fs:CJ):CK:=fun D ρ=>fs ρ fun ws=>∃x y,gO ws=some [x,y]/\D.nx ((ρ.set i (some (.d x))).set j (some (.d y)))
theorem gW(i j:Nat){y:Str}{py pt:Pos}{kt k2 pt2}(hc:X.calm=true)(hN:X.N.Nodup)(ha:CZ X rl [a,b] fs)
 (hw:autoParam (G7 [.Tuple [.Name x px,.Name y py] kt pt] (.Tuple [a,b] k2 pt2) X.env=pure (some [x,y])) æa._auto_1)(hi:autoParam (X.N[i]?=some x) æa._auto_1)(hj:autoParam (X.N[j]?=some y) æa._auto_1)(hij:autoParam (i≠j) æb._auto_1)
 (hx:autoParam (X.env.scope.names.lookup x=some .local) æa._auto_1)(hy:autoParam (X.env.scope.names.lookup y=some .local) æa._auto_1)
 (hs:autoParam (G6 [.Tuple [.Name x px,.Name y py] kt pt] (.Tuple [a,b] k2 pt2) pos.line X.env=pure false) æa._auto_1) :
 C5 X rl (.Assign [.Tuple [.Name x px,.Name y py] kt pt] (.Tuple [a,b] k2 pt2) pos) (zE i j fs):=by
 obtain⟨t,p,k⟩:=ha;refine⟨_,vG hc hN hi hj hij hx hy p hw hs,fun R Dv D ok q=>k R _ _ q fun vs ws F1 H1 g1 r1 ⟨x,y,e1,q1⟩=>?_⟩;have rs:=cq r1 e1
 cases rs with
 | cons rx rs =>
   cases rs with
   | cons ry rs =>
     cases rs;have R1:=(R.grow g1).set (w:=.d x) (Grow.refl g1.sub g1.reel) rx trivial (fun _ z=>by cases z) i;exact⟨_,_,rfl,ok.nx _ _ _ _ g1.fs (R1.set (w:=.d y) (Grow.refl g1.sub g1.reel) ry trivial (fun _ z=>by cases z) j) q1⟩
structure VIt (K:W.Frag) (rl:RlT) (F:Hp) (J:It) (xs:List DH):Prop where
 go:∀i H x,xs[i]?=some x->bf F H->J.go i H
 stop:∀i H,xs.length<=i->bf F H->J.stop i H
 yld:∀i H v H' x F2,xs[i]?=some x->bf F F2->bf F2 H->CY rl F2 H->J.yld i H v H'->∃F3,Grow rl F2 H F3 H'/\Rep K F3 v x
theorem VIt.of{K:W.Frag}{rl:RlT}{J:It}(go:∀i H x,xs[i]?=some x->bf F H->J.go i H)(stop:∀i H,xs.length<=i->bf F H->J.stop i H)
 (yld:∀i H v H' x,xs[i]?=some x->bf F H->J.yld i H v H'->H'=H/\Rep K F v x):VIt K rl F J xs :=
 ⟨go,stop,fun i H v H' x F2 e s s2 ra y=>by
  obtain⟨e1,r⟩:=yld i H v H' x e (s.trans s2) y;subst e1
  exact⟨F2,Grow.refl s2 ra,r.mono s⟩⟩
noncomputable def C9(X:Cx)(rl:RlT)(tg iter:Expr)(fi:En->(List DH->Prop)->Prop):Prop:=∃wi,PI X tg iter wi/\∀{F₀ H₀ F H:Hp}{σ:St}{ρ:En},VR X.K rl F₀ H₀ F H σ ρ->∀(Qd:List DH->Prop)(R:It->Hp->Prop),fi ρ Qd ->
 (∀J xs F' H',Grow rl F H F' H'->VIt X.K rl F' J xs->Qd xs->R J H')->wi σ H R
end
section
variable{X:Cx}{rl:RlT}{st:Stmt}{rest body:List Stmt}{t u:CK}{a b c e:Expr}{es:List Expr}{fa fb:TV}{fs:CJ}{f:TB}{pos p:Pos}{tg:Expr}
noncomputable def xB(i:Nat)(t:CK):CK:=fun D ρ=>∃xs,ρ[i]?=some (some (.ml xs))/\t D (ρ.set i (some (.d (.list xs))))
theorem pK{K:W.Frag}{ρ:En}(r:VR K rl F₀ H₀ F H σ ρ)(e:ρ[i]?=some (some (.ml xs))):∃F1,bf F F1/\VR K rl F₀ H₀ F1 H σ (ρ.set i (some (.d (.list xs)))):=by
 obtain⟨v,h1,h2,h3⟩:=r.sl i _ e;obtain⟨a,vs,ev,f,hr,hh,q⟩:=(show gh K rl F H v xs from h2);obtain⟨F1,R1⟩:=r.freeze e;obtain⟨v',k1,k2,k3⟩:=R1.sl i _ (Eg (Ec.mp e).1);have neF:∀b u,F b=some u->b≠a:=fun b u q z=>by subst z;rw[f]at q;cases q
 have fsm:bf F (Bt F a (.lst vs)):=fun b u z=>by rw[ai (neF b u z)];exact z
 have hi:i<ρ.length:=(Ec.mp e).1;refine⟨Bt F a (.lst vs),fsm,r.g.freeze (h3 a ev) hh f hr,fun j w e1=>?_,R1.ap,R1.np,R1.len⟩;by_cases hj:i=j
 · subst hj;rw[Eg hi]at e1;cases e1;exact⟨v,h1,by rw[ev];exact .lst al (q.mono fsm),trivial⟩
 · rw[Ee hj]at e1;obtain⟨u,g1,g2,g3⟩:=r.sl j w e1;refine⟨u,g1,?_,g3⟩
   cases w with
   | d x=>exact Rep.mono fsm g2
   | reel=>exact g2
   | vv u=>exact g2
   | ml ys =>
     obtain⟨b,us,eb,f1,f2,f3,f4⟩:=(show gh K rl F H u ys from g2);have ne:b≠a:=fun z=>r.ap i j _ _ v hj e e1 rfl rfl h1 (by rw[g1,eb,z,ev])
     exact⟨b,us,eb,by rw[ai ne];exact f1,f2,f3,f4.mono fsm⟩
   | pk ys=>exact absurd e1 (r.np j ys)
   | md ys =>
     obtain⟨b,us,eb,f1,f2,f3,f4⟩:=(show t4 K rl F H u ys from g2);have ne:b≠a:=fun z=>r.ap i j _ _ v hj e e1 rfl rfl h1 (by rw[g1,eb,z,ev])
     exact⟨b,us,eb,by rw[ai ne];exact f1,f2,f3,E8.mapP f4 fun _ _ z=>⟨z.1,z.2.mono fsm⟩⟩
   | mk ys =>
     obtain⟨b,us,eb,f1,f2,f3,f4⟩:=(show tZ K rl F H u ys from g2);have ne:b≠a:=fun z=>r.ap i j _ _ v hj e e1 rfl rfl h1 (by rw[g1,eb,z,ev])
     exact⟨b,us,eb,by rw[ai ne];exact f1,f2,f3,E8.mapP f4 fun _ _ z=>⟨z.1,z.2.mono fsm⟩⟩
   | nt ds=>obtain⟨b,us,eb,f1,f2⟩:=g2;exact⟨b,us,eb,fsm _ _ f1,f2.mono fsm⟩
   | lk=>trivial
   | sc ns=>obtain⟨b,eb,f1⟩:=g2;exact⟨b,eb,oD fsm f1⟩
   | fd kvs=>obtain⟨b,us,eb,f1,f2⟩:=g2;exact⟨b,us,eb,fsm _ _ f1,E8.mapP f2 fun _ _ z=>⟨z.1,z.2.mono fsm⟩⟩
   | fw kvs=>obtain⟨b,us,o,eb,f1,f2⟩:=g2;exact⟨b,us,o,eb,fsm _ _ f1,E8.mapP f2 fun _ _ z=>⟨z.1,z.2.mono fsm⟩⟩
   | ft kvs=>obtain⟨b,us,o,eb,f1,f2⟩:=g2;exact⟨b,us,o,eb,fsm _ _ f1,E8.mapP f2 fun _ _ z=>⟨z.1,z.2.mono fsm⟩⟩
   | xc _ _=>obtain⟨b,dx,us,C,eb,n,f1,f3,f2⟩:=g2;exact⟨b,dx,us,C,eb,n,fsm _ _ f1,fsm _ _ f3,E8.mapP f2 fun _ _ z=>⟨z.1,z.2.mono fsm⟩⟩
   | dp _ _=>obtain⟨c,b,us,u,o,eb,f1,f3,f2,z⟩:=g2;exact⟨c,b,us,u,o,eb,fsm _ _ f1,fsm _ _ f3,E8.mapP f2 fun _ _ z=>⟨z.1,z.2.mono fsm⟩,z.mono fsm⟩
theorem jg(i:Nat)(h:C5 X rl st t):C5 X rl st (xB i t):=by
 obtain⟨T,p,k⟩:=h;refine⟨T,p,fun R Dv D ok ⟨xs,e,q⟩=>?_⟩;obtain⟨F1,s1,R1⟩:=pK R e;exact k R1 Dv D (ok.on s1) q
noncomputable def iL(fa:TV):En->(List DH->Prop)->Prop:=fun ρ Q=>fa ρ fun w=>∃xs,w.fz = .d (.list xs)/\Q xs
noncomputable def iT(fa:TV):En->(List DH->Prop)->Prop:=fun ρ Q=>fa ρ fun w=>∃xs,w.fz = .d (.tuple xs)/\Q xs
theorem bW{l:Expr}(hl:PV X rl l fa):C9 X rl tg l (iL fa):=by
 obtain⟨t,p,k⟩:=hl;refine⟨_,sv p,fun R Qd Q q h=>k R _ _ q fun v w F1 H1 g1 r1 n1 ⟨xs,ew,q1⟩=>?_⟩;obtain⟨F2,g2,s2,r2⟩:=cL.fz g1 r1 n1;rw[ew]at r2
 cases(show Rep X.K F2 v (.list xs)from r2)with
 | @lst a vs _ sq rs =>
   have sqH:∀H,bf F2 H->CS X.K H a vs:=fun H s=>.inl (.inl (s _ _ sq));refine⟨a,rfl,⟨vs,sqH H1 g2.sub⟩,h _ xs F2 H1 g2 (.of (fun i H x e s=>?_) (fun i H hl s=>⟨vs,sqH H s,by rw[rs.length];exact hl⟩) (fun i H v H' x e s y=>?_)) q1⟩
   · obtain⟨v,ev,_⟩:=rs.get e;exact⟨vs,v,sqH H s,ev⟩
   · obtain⟨e',hy⟩:=y;obtain⟨v',ev,rv⟩:=rs.get e;have:=hy vs (sqH H s);rw[ev]at this;cases this;exact⟨e',rv⟩
theorem fM{l:Expr}(hl:PV X rl l fa):C9 X rl tg l (iT fa):=by
 obtain⟨t,p,k⟩:=hl;refine⟨_,vK p,fun R Qd Q q h=>k R _ _ q fun v w F1 H1 g1 r1 n1 ⟨xs,ew,q1⟩=>?_⟩;obtain⟨F2,g2,s2,r2⟩:=cL.fz g1 r1 n1;rw[ew]at r2
 cases(show Rep X.K F2 v (.tuple xs)from r2)with
 | @tup a vs _ sq rs =>
   have sqH:∀H,bf F2 H->CQ X.K H a vs:=fun H s=>dz s sq;refine⟨a,rfl,⟨vs,sqH H1 g2.sub⟩,h _ xs F2 H1 g2 (.of (fun i H x e s=>?_) (fun i H hl s=>⟨vs,sqH H s,by rw[rs.length];exact hl⟩) (fun i H v H' x e s y=>?_)) q1⟩
   · obtain⟨v,ev,_⟩:=rs.get e;exact⟨vs,v,sqH H s,ev⟩
   · obtain⟨e',hy⟩:=y;obtain⟨v',ev,rv⟩:=rs.get e;have:=hy vs (sqH H s);rw[ev]at this;cases this;exact⟨e',rv⟩
noncomputable def aF(lo:Int)(n:Nat):List DH:=(D8 n).map fun(i:Nat)=>.int (lo+i)
theorem fT{lo:Int}{x:DH}(h:(aF lo n)[i]?=some x):i<n/\x = .int (lo+i):=by
 unfold aF at h;rw[Ez]at h;by_cases hi:i<n
 · rw[DP (by simpa using hi)]at h;simp at h;exact⟨hi,h.symm⟩
 · rw[List.getElem?_eq_none (by simpa using hi)]at h;cases h
theorem bw{lo:Int}:(aF lo n).length=n:=by simp[aF]
theorem kX{K:W.Frag}(lo:Int)(n:Nat):VIt K rl F (Dr lo n) (aF lo n) :=
 .of (fun i H x e s=>(fT e).1) (fun i H hl s=>by rw[bw]at hl;exact hl) (fun i H v H' x e s y=>by
  obtain⟨e1,e2⟩:=y;subst e2;rw[(fT e).2]
  exact⟨e1,.int _⟩)
noncomputable def Cp(fs:CJ):En->(List DH->Prop)->Prop:=fun ρ Q=>fs ρ fun ws=>∃j:Int,ws=[.d (.int j)]/\(-(2^62)<=j/\j<2^62)/\Q (aF 0 j.toNat)
noncomputable def Co(fs:CJ):En->(List DH->Prop)->Prop:=fun ρ Q=>fs ρ fun ws=>∃i j:Int,ws=[.d (.int i),.d (.int j)]/\(-(2^62)<=i/\i<2^62 /\ -(2^62)<=j/\j<2^62)/\Q (aF i (j-i).toNat)
theorem aN(hm:X.mg "range" = none)(ha:CZ X rl [a] fs)(hg:autoParam (Gl X "range") æa._auto_1)(hs:autoParam (DY [a] X.env=[(false,eval a X.env)]) æa._auto_1):C9 X rl tg (.Call (.Name "range" p) [a] [] pos) (Cp fs):=by
 obtain⟨t,p1,k⟩:=ha;refine⟨_,lS hg hm p1 hs,fun R Qd Q q h=>k R _ _ q fun vs ws F1 H1 g1 r1 ⟨j,ew,b,q1⟩=>?_⟩;subst ew;obtain⟨v,rfl,rv⟩:=qk r1;have e:=aZ rv;subst e;exact⟨j,rfl,b.1,b.2,h _ _ F1 H1 g1 (kX 0 _) q1⟩
theorem VR.own{K:W.Frag}{F₀ H₀ F H:Hp}{σ:St}{ρ:En}(r:VR K rl F₀ H₀ F H σ ρ){i:Nat}{xs ys:List DH}{a:Addr}{us:List V}(e:ρ[i]?=some (some (.ml xs)))(es:σ[i]?=some (some (.ref a)))(rs:Reps K F us ys) :
 VR K rl F₀ H₀ F (Bt H a (.lst us)) σ (ρ.set i (some (.ml ys))):=by
 obtain⟨v,h1,h2,h3⟩:=r.sl i _ e;rw[es]at h1;cases h1;obtain⟨a',vs,ev,f,hr,hh,q⟩:=(show gh K rl F H (.ref a) xs from h2);cases ev;have n0:H₀ a=none:=h3 a rfl;have hi:i<ρ.length:=(Ec.mp e).1;have neF:∀b u,F b=some u->b≠a:=fun b u q z=>by subst z;rw[f]at q;cases q
 have g:Grow rl F₀ H₀ F (Bt H a (.lst us)):=by
  refine⟨fun b o q1 n=>by rw[ai (aH q1 n0)];exact r.g.same b o q1 n,r.g.fs,fun b o q1=>by rw[ai (neF b o q1)];exact r.sub b o q1,r.g.old,fun y z=>?_⟩;obtain⟨z1,⟨u,h1,h2⟩⟩:=r.reel y z;exact⟨z1,⟨u,by rw[ai (fun q=>hr (by rw[<- q];exact z))];exact h1,h2⟩⟩
 refine⟨g,fun j w e1=>?_,fun j k ys' zs u hjk e1 e2 w1 w2 s1 s2=>?_,fun j ys' z=>?_,by simp[r.len]⟩
 · by_cases hj:i=j
   · subst hj;rw[Eg hi]at e1;cases e1;exact⟨_,es,⟨a,us,rfl,f,hr,al,rs⟩,h3⟩
   · rw[Ee hj]at e1;obtain⟨u,g1,g2,g3⟩:=r.sl j w e1;refine⟨u,g1,?_,g3⟩
     cases w with
     | d x=>exact g2
     | reel=>exact g2
     | vv u=>exact g2
     | ml zs =>
       obtain⟨b,us',eb,f1,f2,f3,f4⟩:=(show gh K rl F H u zs from g2);have ne:b≠a:=fun z=>r.ap i j _ _ (.ref a) hj e e1 rfl rfl es (by rw[g1,eb,z])
       exact⟨b,us',eb,f1,f2,by rw[ai ne];exact f3,f4⟩
     | pk zs=>exact absurd e1 (r.np j zs)
     | md zs =>
       obtain⟨b,us',eb,f1,f2,f3,f4⟩:=(show t4 K rl F H u zs from g2);have ne:b≠a:=fun z=>r.ap i j _ _ (.ref a) hj e e1 rfl rfl es (by rw[g1,eb,z])
       exact⟨b,us',eb,f1,f2,by rw[ai ne];exact f3,f4⟩
     | mk zs =>
       obtain⟨b,us',eb,f1,f2,f3,f4⟩:=(show tZ K rl F H u zs from g2);have ne:b≠a:=fun z=>r.ap i j _ _ (.ref a) hj e e1 rfl rfl es (by rw[g1,eb,z])
       exact⟨b,us',eb,f1,f2,by rw[ai ne];exact f3,f4⟩
     | nt ds=>exact g2
     | lk=>trivial
     | sc _=>exact g2
     | fd _=>exact g2
     | fw _=>exact g2
     | ft _=>exact g2
     | xc _ _=>exact g2
     | dp _ _=>exact g2
 · have nd:∀(j:Nat)(z:W),(ρ.set i (some (W.ml ys)))[j]?=some (some z)->z.own=true->∃z',ρ[j]?=some (some z')/\z'.own=true:=fun j zs z o=>by
     by_cases hj:i=j
     · subst hj;exact⟨_,e,rfl⟩
     · rw[Ee hj]at z;exact⟨zs,z,o⟩
   obtain⟨_,d1,o1⟩:=nd j _ e1 w1;obtain⟨_,d2,o2⟩:=nd k _ e2 w2;exact r.ap j k _ _ u hjk d1 d2 o1 o2 s1 s2
 · rw[E5]at z;split at z
   · first|cases z|(split at z<;>cases z)
   · exact r.np j ys' z
noncomputable def yJ(K:W.Frag)(rl:RlT)(r:V->List V->Hp->VK->Prop)(g:List DH->List W->(List DH->Prop)->Prop):Prop :=
 ∀ {F H:Hp}{a:Addr}{vs args:List V}{xs:List DH}{ws:List W}(Qn:List DH->Prop)(Q:VK),bf F H->H a=some (.lst vs)->Reps K F vs xs->fu K rl F H args ws->g xs ws Qn ->
   (∀us ys,Reps K F us ys->Qn ys->Q .non (Bt H a (.lst us)))->r (.ref a) args H Q
noncomputable def uz(i:Nat)(g:List DH->List W->(List DH->Prop)->Prop)(fs:CJ):CK:=fun D ρ=>∃xs,ρ[i]?=some (some (.ml xs))/\fs ρ fun ws=>g xs ws fun ys=>D.nx (ρ.set i (some (.ml ys)))
theorem pX(i:Nat){nm:Str}{id:String}{r:V->List V->Hp->VK->Prop}{g:List DH->List W->(List DH->Prop)->Prop}{apos cpos:Pos}(slot:Slot "list" nm id)(hty:typeOf (.builtin id)=pure (.type "method_descriptor"))(hm:Dg X id r)(vm:yJ X.K rl r g)(ha:CZ X rl (e::es) fs)
 (hN:autoParam (X.N[i]?=some x) æa._auto_1)(hv:autoParam (CF X.env.scope x) æc._auto_1)
 (hd:autoParam ((x==("__debug__" : Str))=false) æb._auto_1)(hcd:autoParam ((x==("__classdict__" : Str))=false) æb._auto_1)
 (hbase:autoParam (Ii (.Name x px) nm X.env (eval (.Name x px) X.env)=eval (.Name x px) X.env) æa._auto_1)
 (hfew:autoParam (((Ge cpos (DY (e::es) X.env)).all (fun x=>!x.1)&&(Lf cpos (Jt [] X.env)).all (fun x=>x.1.isSome)
  && decide ((e::es).length+([]:List IV).length+(if([]:List IV).isEmpty then 0 else 1)<30))=true) æa._auto_1)
 (hline:autoParam ((apos.endLine==cpos.line)=true) æa._auto_1)(hs:autoParam (DY (e::es) X.env=(false,eval e X.env)::DY es X.env) æa._auto_1)(hplain:autoParam ((Ge cpos (DY es X.env)).any (·.1)=false) æa._auto_1)
 (hsw:autoParam (Gr (.Call (.Attribute (.Name x px) nm apos) (e::es) [] cpos) none pos.line X.env=pure false) æa._auto_1) :
 C5 X rl (.Expr (.Call (.Attribute (.Name x px) nm apos) (e::es) [] cpos) pos) (uz i g fs):=by
 obtain⟨t,p1,k⟩:=ha;refine⟨_,lP (vP Jv slot hty hm (b_ hN hv hd hcd) p1 hbase hfew hline hs hplain) hsw,fun{F₀ H₀ F H σ ρ} R Dv D ok ⟨xs,e1,q⟩=>?_⟩;obtain⟨v,h1,h2,h3⟩:=R.sl i _ e1;obtain⟨a,vs,rfl,f,hr,hh,rs⟩:=(show gh X.K rl F H v xs from h2);refine⟨.ref a,h1,.inl ⟨rfl,vs,.inl (.inl hh)⟩,k R _ _ q fun args ws F1 H1 g1 r1 q1=>?_⟩;refine vm _ _ g1.sub (g1.same a _ hh hr) (rs.mono g1.fs) r1 q1 fun us ys r2 q2=>?_;exact ok.nx _ _ _ _ g1.fs ((R.grow g1).own e1 h1 r2) q2
noncomputable def xi:List DH->List W->(List DH->Prop)->Prop:=fun xs ws Q=>∃x,gO ws=some [x]/\xs.length<sizeLine/\Q (xs++[x])
theorem ue{K:W.Frag}:yJ K rl lH xi:=fun{F H a vs args xs ws} Qn Q s ha rs ra ⟨x,e,z,q⟩ k=>by
 have r2:=cq ra e
 cases r2 with
 | cons rx r3 =>
   cases r3;exact⟨a,vs,_,rfl,rfl,ha,by rw[rs.length];exact z,k _ _ (rs.snoc rx) q⟩
noncomputable def xg:List DH->List W->(List DH->Prop)->Prop:=fun xs ws Q=>∃ys,gO ws=some [.list ys]/\xs.length+ys.length<=sizeLine/\Q (xs++ys)
theorem ud{K:W.Frag}:yJ K rl lG xg:=fun{F H a vs args xs ws} Qn Q s ha rs ra ⟨ys,e,z,q⟩ k=>by
 have r2:=cq ra e
 cases r2 with
 | cons rx r3 =>
   cases r3
   cases rx with
   | lst hb ry=>exact⟨a,_,vs,_,rfl,rfl,ha,s _ _ hb,by rw[rs.length,ry.length];exact z,k _ _ (rs.append ry) q⟩
theorem kS(i:Nat){apos cpos:Pos}(ha:CZ X rl [e] fs)(hN:autoParam (X.N[i]?=some x) æa._auto_1)(hv:autoParam (CF X.env.scope x) æc._auto_1)
 (hd:autoParam ((x==("__debug__" : Str))=false) æb._auto_1)(hcd:autoParam ((x==("__classdict__" : Str))=false) æb._auto_1)
 (hbase:autoParam (Ii (.Name x px) "append" X.env (eval (.Name x px) X.env)=eval (.Name x px) X.env) æa._auto_1)
 (hfew:autoParam (((Ge cpos (DY [e] X.env)).all (fun x=>!x.1)&&(Lf cpos (Jt [] X.env)).all (fun x=>x.1.isSome)
  && decide (([e]).length+([]:List IV).length+(if([]:List IV).isEmpty then 0 else 1)<30))=true) æa._auto_1)
 (hline:autoParam ((apos.endLine==cpos.line)=true) æa._auto_1)(hs:autoParam (DY [e] X.env=(false,eval e X.env)::DY [] X.env) æa._auto_1)(hplain:autoParam ((Ge cpos (DY [] X.env)).any (·.1)=false) æa._auto_1)
 (hsw:autoParam (Gr (.Call (.Attribute (.Name x px) "append" apos) [e] [] cpos) none pos.line X.env=pure false) æa._auto_1) :
 C5 X rl (.Expr (.Call (.Attribute (.Name x px) "append" apos) [e] [] cpos) pos) (uz i xi fs) :=
 pX i Jg Jh c6 ue ha hN hv hd hcd hbase hfew hline hs hplain hsw
noncomputable def dH:W->Bool
 | .ml _=>false
 | .md _=>false
 | .mk _=>false
 | .pk _=>false
 | _=>true
noncomputable def Bk(K:W.Frag)(rl:RlT)(P:List W->(DH->Prop)->Prop):Sp:=fun vs H Q _=>∃F ws,bf F H/\CY rl F H/\fu K rl F H vs ws/\ws.all dH=true/\P ws fun d=>∀v F' H',Grow rl F H F' H'->Rep K F' v d->Q v H'
noncomputable def cN(N:List Str)(ws:List W):En:=ws.map some++DT (N.length-ws.length) none
theorem hZ{K:W.Frag}{F H:Hp}:∀{vs:List V}{ws:List W}{i:Nat}{w:W},fu K rl F H vs ws->ws[i]?=some w->∃v,vs[i]?=some v/\cL K rl F H v w
 | _,_,_,_,.nil,e=>by simp at e
 | _,_,0,_,.cons h _,e=>by simp at e;subst e;exact⟨_,rfl,h⟩
 | _,_,i+1,w,.cons _ r,e=>by
   obtain⟨v,h1,h2⟩:=hZ (i:=i) (w:=w) r (by simpa using e);exact⟨v,by simpa using h1,h2⟩
theorem g_{ws:List W}{w:W}(h:(cN N ws)[i]?=some (some w)):ws[i]?=some w:=by
 unfold cN at h;by_cases hi:i<ws.length
 · rw[Hb (by simpa using hi),Ez]at h
   cases q:ws[i]? with
   | none=>rw[q]at h;cases h
   | some x=>rw[q]at h;cases h;rfl
 · rw[IJ (by simpa using hi),Jr]at h;split at h<;>cases h
theorem gk{K:W.Frag}{ws:List W}(s:bf F H)(ra:CY rl F H)(r:fu K rl F H vs ws)(ok:ws.all dH=true):VR K rl F H F H (start N vs) (cN N ws):=by
 have hl:vs.length=ws.length:=Ht r;have no:∀(i:Nat) w,(cN N ws)[i]?=some (some w)->dH w=true:=fun i w e=>(Gb.mp ok) w (Gf (g_ e));refine⟨Grow.refl s ra,fun i w e=>?_,fun i j xs ys v _ e1 _ o _ _ _=>(by have:=no i _ e1;cases xs<;>first|exact Bool.noConfusion o|exact Bool.noConfusion this),fun i xs e=>(by have:=no i _ e;cases this),?_⟩
 · obtain⟨v,h1,h2⟩:=hZ r (g_ e);refine⟨v,?_,h2,?_⟩
   · unfold start;rw[Hb (by simpa using(Ec.mp h1).1),Ez,h1];rfl
   · have:=no i w e
     cases w with
     | ml xs=>cases this
     | md xs=>cases this
     | mk xs=>cases this
     | nt _=>trivial
     | lk=>trivial
     | sc _=>trivial
     | fd _=>trivial
     | fw _=>trivial
     | ft _=>trivial
     | xc _ _=>trivial
     | dp _ _=>trivial
     | d _=>trivial
     | pk _=>trivial
     | reel=>trivial
     | vv _=>trivial
 · unfold cN start;simp[hl]
noncomputable def ot(Q:DH->Prop):VEnds:=⟨fun _=>Q .none,fun w=>∃d,w.fz = .d d/\Q d,fun _=>False,fun _=>False⟩
theorem Bl{K:W.Frag}{base:Heap}{st:Stmt}{fa:Addr}{ps:List Str}{k:Nat}{Pd:List W->(DH->Prop)->Prop}{t:CK}
 (Fn:Fun K x qual st fa fd)(S:FnScope N ps (defScope st))(len:∀ws Q,Pd ws Q->ws.length=ps.length)
 (hbody:∀(cdv:DJ)(A:ES)(outer:List Env)(s:DM)(H:Hp)(E:XK),Room k (A.deeper (JY qual (defScope st) s.heap.objs.size fa cdv)) ->
  kd (nV Dz P w K mg base N qual (defScope st) fa cdv A outer s H E).nox rl (defBody st) t)
 (hread:∀ws Q,Pd ws Q->t (ot Q) (cN N ws)):FnOk P w K mg base Dz (k+1) fa fd ps (Bk K rl Pd):=by
 refine Fn.ok S (fun vs H Q E ⟨F,ws,_,_,r,_,q⟩=>(Ht r).trans (len ws _ q)) fun cdv A outer s H vs Q E hr h=>?_;obtain⟨F,ws,sm,ra,r,ok,q⟩:=h;obtain⟨T,p,kk⟩:=hbody cdv A outer s H E hr;refine⟨T,p,kk (gk sm ra r ok) (ot _) _ ⟨?_,?_,fun _ _ _ _ _ _ z=>Fq z,fun _ _ _ _ _ _ z=>Fq z⟩ (hread ws _ q)⟩
 · intro F1 H1 σ1 ρ1 _ R1 q1;exact q1 .non F1 H1 R1.g .non
 · rintro v w1 F1 H1 g1 r1 n1 ⟨d,ed,q1⟩;obtain⟨F2,g2,s2,r2⟩:=cL.fz g1 r1 n1;rw[ed]at r2;exact q1 v F2 H1 g2 r2
structure Dfn (P:Ef) (w:EM) (K:W.Frag) (mg:Str->Option DJ) (base:Heap) (rl:RlT) (x:Str) (ps:List Str) (k:Nat) (Pd:List W->(DH->Prop)->Prop):Prop where
 mono:∀ws Q Q',(∀d,Q d->Q' d)->Pd ws Q->Pd ws Q'
 ex:∃f fd,mg x=some (.ref f)/\W.keepIn K (.ref f)=true/\Binds K fd ps []/\FnOk P w K mg base Dz k f fd ps (Bk K rl Pd)
noncomputable def zz(Pd:List W->(DH->Prop)->Prop)(fs:CJ):TV:=fun ρ Q=>fs ρ fun ws=>ws.all dH=true/\Pd ws fun d=>Q (.d d)
theorem ar{ps:List Str}{k:Nat}{Pd:List W->(DH->Prop)->Prop}(D:Dfn X.prog X.w X.K X.mg X.base rl x ps k Pd)(hr:Room k X.A)(ha:CZ X rl (e::es) fs)(hg:autoParam (Gl X x) æa._auto_1)
 (hdb:autoParam ((x==("__debug__" : Str))=false) æb._auto_1)(he:autoParam (DY (e::es) X.env=(false,eval e X.env)::DY es X.env) æa._auto_1)(hpl:autoParam ((Ge pos (DY es X.env)).any (·.1)=false) æa._auto_1) :
 PV X rl (.Call (.Name x p) (e::es) [] pos) (zz Pd fs):=by
 obtain⟨f,fd,hm,hk,hb,F⟩:=D.ex;obtain⟨t,p1,kk⟩:=ha;refine⟨_,iW F hr hg hm hk hb .nil sE p1 hdb he hpl,fun R Qd Q q h=>kk R _ _ q fun vs ws F1 H1 g1 r1 ⟨ok,q1⟩=>?_⟩;refine⟨F1,ws,g1.sub,g1.reel,by rw[FY];exact r1,ok,?_⟩;exact D.mono ws _ _ (fun d qd v F2 H2 g2 r2=>h v (.d d) F2 H2 (g1.trans g2) r2 trivial qd) q1
end
end L2.VL
variable{rl:L2.VL.RlT}{ρ:L2.VL.En}{fi:L2.VL.En->(List DH->Prop)->Prop}
namespace L2
theorem dF{env:Env}:∀(names:List (Str×Hv))(acc:List (Str×Addr)),(∀x∈names,x.2 = .free->∃c,env.cells.lookup x.1=some c)->(∀x c,acc.lookup x=some c->env.cells.lookup x=some c) ->
 ∃ cl,(forIn names acc (fun(x:Str×Hv)(cs:List (Str×Addr))=>if(x.2==ET)=true then do let c <- cellOf env x.1;pure (Ir ((x.1,c)::cs))else pure (Ir cs)):Sem (List (Str×Addr)))=pure cl /\
   (∀x c,cl.lookup x=some c->env.cells.lookup x=some c)/\(∀x,(acc.lookup x).isSome=true->(cl.lookup x).isSome=true)/\∀x,(x,ET)∈names->(cl.lookup x).isSome=true
 | [],acc,_,h2=>⟨acc,rfl,h2,fun _ z=>z,fun _ z=>nomatch z⟩
 | (n,k)::r,acc,h1,h2=>by
   by_cases hk:k = .free
   · subst hk;obtain⟨c,hc⟩:=h1 (n,.free) DS rfl
     have h2':∀x c',((n,c)::acc).lookup x=some c'->env.cells.lookup x=some c':=fun x c' z=>by
      rw[EV]at z
      cases e:x==n with
      | true =>
        rw[e]at z;have e':x=n:=by simpa using e
        cases z;rw[e']
        exact hc
      | false =>
        rw[e]at z;exact h2 x c' z
     obtain⟨cl,e,g1,g2,g3⟩:=dF r ((n,c)::acc) (fun x hx=>h1 x (DL _ hx)) h2';refine⟨cl,?_,g1,fun x z=>g2 x ?_,fun x z=>?_⟩
     · rw[Is];simp only[beq_self_eq_true,if_true];have e0:cellOf env n=pure c:=by unfold cellOf;rw[hc]
       rw[e0,pure_bind,pure_bind];exact e
     · rw[EV];split
       · rfl
       · exact z
     · rcases EO.mp z with z|z
       · cases z;refine g2 _ ?_;rw[EV];simp
       · exact g3 x z
   · obtain⟨cl,e,g1,g2,g3⟩:=dF r acc (fun x hx=>h1 x (DL _ hx)) h2;refine⟨cl,?_,g1,g2,fun x z=>?_⟩
     · rw[Is];have hb:(k==ET)=false:=by simpa using hk
       simp only[hb,GW,if_false];rw[pure_bind];exact e
     · rcases EO.mp z with z|z
       · cases z;exact absurd rfl hk
       · exact g3 x z
theorem cT{env:Env}(h:∀x∈scope.names,x.2 = .free->∃c,env.cells.lookup x.1=some c) :
 ∃cl,closureFor scope env=pure cl/\(∀x c,cl.lookup x=some c->env.cells.lookup x=some c)/\∀x,(x,ET)∈scope.names->(cl.lookup x).isSome=true:=by
 obtain⟨cl,e,g1,_,g3⟩:=dF scope.names [] h (fun _ _ z=>by cases z);refine⟨cl,?_,g1,g3⟩;unfold closureFor
 first
  | exact e
  | (simp only[bind_pure];exact e)
theorem hX{env:Env}(h:(relabel scope env).names.lookup x=some .cell\/(relabel scope env).names.lookup x=some .free):(x,ET)∈scope.names\/(x,Gi)∈scope.names:=by
 have key:∀names:List (Str×Hv),∀k,(k = .cell\/k = .free) ->
  (names.map fun(n,k)=>if(k==ET&&env.scope.kind == .function&&env.kindOf n==some .cell)then(n,Gi)else(n,k)).lookup x=some k->(x,ET)∈names\/(x,Gi)∈names:=by
  intro names
  induction names with
  | nil=>intro k _ z;cases z
  | cons y r ih =>
    intro k hk z;obtain⟨n,kn⟩:=y;have step:((x,ET)∈r\/(x,Gi)∈r)->((x,ET)∈(n,kn)::r\/(x,Gi)∈(n,kn)::r):=fun z=>z.imp (DL _) (DL _);rw[Ew]at z;dsimp only at z;by_cases hc:(kn==ET&&env.scope.kind == .function&&env.kindOf n==some .cell)=true
    · rw[if_pos hc,EV]at z
      have hf:kn = .free:=by
       have:=(D2.mp (D2.mp hc).1).1;simpa using this
      cases e:x==n with
      | true =>
        have e':x=n:=by simpa using e
        rw[e',<- hf]
        exact .inl DS
      | false =>
        rw[e]at z;exact step (ih k hk z)
    · rw[if_neg hc,EV]at z
      cases e:x==n with
      | true =>
        rw[e]at z;have e':x=n:=by simpa using e
        cases z;rcases hk with hk|hk
        · rw[e',hk];exact .inr DS
        · rw[e',hk];exact .inl DS
      | false =>
        rw[e]at z;exact step (ih k hk z)
 rcases h with h|h
 · exact key scope.names .cell (.inl rfl) h
 · exact key scope.names .free (.inr rfl) h
theorem aV:∀(names:List (Str×Hv))(n:Nat)(acc:List (Str×Addr)),FO n names acc=FO n names []++acc
 | [],_,_=>rfl
 | (x,k)::r,n,acc=>by
   unfold FO;split
   · rw[aV r (n+1) ((x,n)::acc),aV r (n+1) [(x,n)],GH];rfl
   · exact aV r n acc
theorem cr{x:Str}{c:Addr}:∀{names:List (Str×Hv)}{n:Nat},(x,c)∈FO n names []->(x,Gi)∈names
 | (y,k)::r,n,h=>by
   unfold FO at h;split at h
   · rename_i hk;rw[aV]at h;rcases EW.mp h with h|h
     · exact DL _ (cr h)
     · simp at h;have:k = .cell:=by simpa using hk
       rw[h.1,this];exact DS
   · exact DL _ (cr h)
theorem dC{a b:List (Str×Addr)}:(a++b).lookup x=(a.lookup x).or (b.lookup x):=by
 induction a with
 | nil=>simp
 | cons y a ih =>
   obtain⟨n,c⟩:=y;rw[JH,EV,EV];cases x==n<;>simp[ih]
theorem iZ{M:Model}{E:DJ->DM->Prop}{globals:Addr}{cl:List (Str×Addr)}{o:Env}{Q:Env->DM->Prop}
 (hQ:Q {scope,locals:=s.heap.objs.size,globals,cells:=FO (s.heap.objs.size+1) scope.names cl,qual,func:=none,code:=o.code,frame:=o.frame,builtins:=o.builtins} {s with heap:=Lm (s.heap.push {cls:=.type "dict", data:=.dict #[]}) scope.names}) :
 Eb M A (IZ scope globals cl [] qual none .none (some o)) Q E s:=by
 simp only[IZ,Option.isSome_some,if_true];refine DI (wpAny_alloc ?_);refine DI (wpAny_layCells _ (fun name kind cells=>by cases hkc:kind==Gi<;>simp[hkc]) _ _ _ _ ?_);rw[show({s with heap:=s.heap.push {cls:=.type "dict", data:=.dict #[]}}:DM).heap.objs.size=s.heap.objs.size+1 from Fi ..];exact DI (DK (DK hQ))
noncomputable def bG(X:Cx)(N':List Str)(scope:Scope)(cl:List (Str×Addr))(fp:List Addr)(pn:List (Addr×Obj))(s:DM)(H:Hp):Cx :=
 {X with N:=N',s₀:=s,H₀:=H,env:={compEnvC scope cl s.heap.objs.size X.env with cells:=FO (s.heap.objs.size+1) scope.names cl},outer:=X.stack,ex:=fp,fn:=fun x=>scope.names.lookup x==some .cell,pn:=pn,xe:=fun _ _=>False}
abbrev dt(ifs:List Expr)(env:Env):Sem Bool:=forIn ifs true fun c r=>if r=true then do let ok <- isTrue c env (eval c env);pure (Ir ok)else pure (Ir r)
noncomputable def C1(X:Cx)(ifs:List Expr)(t:TT):Prop :=
 ∀(pins:List (Addr×Obj))(s:DM)(σ:St)(H:Hp)(Q:Bool->Hp->Prop),Inv X pins σ H s->t σ H Q->Eb (Ek X.prog X.w) X.A (dt ifs X.env) (TP X pins σ Q) X.xe s
theorem sa:C1 X [] (fun _ H Q=>Q true H):=fun _ _ _ H _ I h=>wpAny_tests_nil ⟨H,I,h⟩
theorem r_{c:Expr}{t:TT}(h:PT X c t):C1 X [c] t:=fun pins s σ H Q I hw=>wpAny_tests_one (h pins s σ H Q I hw)
theorem nE{prog:Ef}{R:Result->DM->Prop}{elt target:Expr}{ifs:List Expr}{pos:Pos}{it acc:DJ}{env:Env}(I:Nat->DM->Prop)
 (turn:∀n s,I n s->Eb (Ek prog w) A (IM it) (fun r s₁=>(r=none/\R (.ok .next) s₁)\/∃v,r=some v /\
  Eb (Ek prog w) A (Go target it v) (fun _ s₂=>Eb (Ek prog w) A (H_ target env v) (fun _ s₃=>Eb (Ek prog w) A (dt ifs env) (fun ok s₄ =>
   if ok=true then Eb (Ek prog w) A (eval elt env) (fun x s₅=>Eb (Ek prog w) A (call (.builtin "list.append") [acc,x]) (fun _ s₆=>∃m,m<n/\I m s₆) (fun _ _=>False) s₅) (fun _ _=>False) s₄
   else ∃m,m<n/\I m s₄) (fun _ _=>False) s₃) (fun _ _=>False) s₂) (fun _ _=>False) s₁) (fun _ _=>False) s)
 (n:Nat)(h:I n s):GE (Ek prog w) A (.compLoop (.ListComp elt [⟨target,iter,ifs,0⟩] scope pos) 0 it acc env) R s:=by
 refine K7 rfl I (fun n s hI=>?_) n h;show Eb _ A ((Lg (.ListComp elt [⟨target,iter,ifs,0⟩] scope pos) 0 it acc env).onRaise (fun x=>do Ln x env;J1 x)) _ _ s;refine Lo ?_;rw[compTurn_list];refine DI (Gh (DI (EL (turn n s hI) (fun r s₁ h₁=>?_) fun _ _ h'=>h'.elim)));rcases h₁ with⟨rfl,h₁⟩|⟨v,rfl,h₁⟩
 · exact DK h₁
 · refine DI (EL h₁ (fun _ s₂ h₂=>DI (EL h₂ (fun _ s₃ h₃=>DI (EL h₃ (fun ok s₄ h₄=>?_) fun _ _ z=>z.elim)) fun _ _ z=>z.elim)) fun _ _ z=>z.elim)
   cases ok with
   | false=>exact DK ⟨rfl,h₄⟩
   | true=>exact DI (DI (EL h₄ (fun x s₅ h₅=>DI (EL h₅ (fun _ s₆ h₆=>DK (DK ⟨rfl,h₆⟩)) fun _ _ z=>z.elim)) fun _ _ z=>z.elim))
noncomputable def nU(fr:List (Option Nat))(σ:St):St:=fr.map fun o=>o.bind fun j=>(σ[j]?).join
noncomputable def pM(fr:List (Option Nat))(N' N:List Str)(sc scX:Scope):Bool :=
 decide (fr.length=N'.length)&&(D8 fr.length).all fun i=>match fr[i]? with
  | some (some j)=>match N'[i]? with
    | some x=>decide (N[j]?=some x)&&decide (sc.names.lookup x=some .free)&&(decide (scX.names.lookup x=some .cell)||decide (scX.names.lookup x=some .free))
    | none=>false
  | _=>true
noncomputable def qg(sc scX:Scope):Bool :=
 decide (sc.kind = .function)&&sc.names.all fun y=>(decide (y.2 ≠ .cell)||decide (sc.names.lookup y.1=some .cell))&&(decide (y.2 ≠ .local)||decide (sc.names.lookup y.1=some .local)) &&
  (decide (y.2 ≠ .free)||(decide (scX.names.lookup y.1=some .cell)||decide (scX.names.lookup y.1=some .free)))
theorem pM.get{fr:List (Option Nat)}{N':List Str}{sc scX:Scope}(h:pM fr N' N sc scX=true):fr.length=N'.length/\∀(i j:Nat),fr[i]?=some (some j)->∃x,N'[i]?=some x/\N[j]?=some x/\sc.names.lookup x=some .free/\(scX.names.lookup x=some .cell\/scX.names.lookup x=some .free):=by
 unfold pM at h;obtain⟨h1,h2⟩:=D2.mp h;refine⟨of_decide_eq_true h1,fun i j e=>?_⟩;have hi:i<fr.length:=(Ec.mp e).1;have q:=Gb.mp h2 i (Fg.mpr hi);rw[e]at q;dsimp only at q
 cases en:N'[i]? with
 | none=>rw[en]at q;cases q
 | some x =>
   rw[en]at q;dsimp only at q;obtain⟨q1,q2⟩:=D2.mp q;obtain⟨q3,q4⟩:=D2.mp q1;exact⟨x,rfl,of_decide_eq_true q3,of_decide_eq_true q4,(EA.mp q2).imp of_decide_eq_true of_decide_eq_true⟩
theorem kH{k:Hv}:∀{names:List (Str×Hv)},names.lookup x=some k->(x,k)∈names:=fun h=>EY h
structure CompA where
 cl:List (Str×Addr)
 fp:List Addr
 pn:List (Addr×Obj)
 s:DM
 H:Hp
abbrev blk(X:Cx)(N':List Str)(scope:Scope)(y:CompA):Cx:=bG X N' scope y.cl y.fp y.pn y.s y.H
noncomputable def rE(wi:TI)(fr:List (Option Nat))(g:CompA->TG)(tt:CompA->TT)(te:CompA->TE):TE:=fun σ H Q=>wi σ H fun J H1=>∀D,H1 D=none->∃Wv:Nat->Nat->List V->St->Hp->Prop,(∃m,Wv 0 m [] (nU fr σ) (Bt H1 D (.lst []))) /\
 ∀ (z:CompA) i m acc σc H,Wv i m acc σc H->(J.stop i H/\Q (.ref D) H)\/(J.go i H/\∀x H',J.yld i H x H'->g z x σc H' fun σ2 H2=>tt z σ2 H2 fun b H3 =>
   if b=true then te z σ2 H3 fun y H4=>H4 D=some (.lst acc)/\acc.length<sizeLine/\∃m',m'<m/\Wv (i+1) m' (acc++[y]) σ2 (Bt H4 D (.lst (acc++[y])))else ∃m',m'<m/\Wv (i+1) m' acc σ2 H3)
theorem dJ{env:Env}:∀{names:List (Str×Hv)}{x:Str},names.lookup x=some .free ->
 (names.map fun(n,k)=>if(k==ET&&env.scope.kind == .function&&env.kindOf n==some .cell)then(n,Gi)else(n,k)).lookup x=some .cell \/
 (names.map fun(n,k)=>if(k==ET&&env.scope.kind == .function&&env.kindOf n==some .cell)then(n,Gi)else(n,k)).lookup x=some .free
 | [],_,h=>by simp at h
 | (n,k)::r,x,h=>by
   have ih:=@dJ env r x;rw[Ew];dsimp only
   cases hx:x==n with
   | true =>
     simp only[EV,hx]at h;cases h;by_cases hc:((ET==ET)&&env.scope.kind == .function&&env.kindOf n==some .cell)=true
     · rw[if_pos hc];simp[EV,hx]
     · rw[if_neg hc];simp[EV,hx]
   | false =>
     simp only[EV,hx]at h;by_cases hc:(k==ET&&env.scope.kind == .function&&env.kindOf n==some .cell)=true
     · rw[if_pos hc];simp only[EV,hx];exact ih h
     · rw[if_neg hc];simp only[EV,hx];exact ih h
theorem e9{ex:Expr}{H3:Hp}{s3:DM}{D:Addr}{tn:Nat->Heap->Prop}{J:It}{Q:VK}
 {cl:List (Str×Addr)}(N':List Str)(fr:List (Option Nat))(hc:X.calm=true)(hkind:scope.kind = .function)(hcell:∀y∈scope.names,y.2 = .cell->scope.names.lookup y.1=some .cell)
 (hfree:∀y∈scope.names,y.2 = .free->X.env.kindOf y.1=some .cell\/X.env.kindOf y.1=some .free)(frl:fr.length=N'.length)
 (frg:∀(i j:Nat),fr[i]?=some (some j)->∃x,N'[i]?=some x/\X.N[j]?=some x/\scope.names.lookup x=some .free/\(X.env.scope.names.lookup x=some .cell\/X.env.scope.names.lookup x=some .free))
 (cl1:∀x c,cl.lookup x=some c->X.env.cells.lookup x=some c)(cl2:∀x,(x,ET)∈scope.names->(cl.lookup x).isSome=true)
 (I3:Inv X pins σ H3 s3)(T:Turn X.prog X.w X.K tg J fp it tn)(tn3:tn 0 s3.heap)(fpD:∀b∈fp,H3 b=none)(fp3:∀b∈fp,b<s3.heap.objs.size)
 (fpk:∀b∈fp,b≠X.env.locals/\b∉X.fs/\(b∈X.ex\/X.s₀.heap.objs.size<=b)/\(∀x c,X.env.cells.lookup x=some c->c≠b)/\∀p∈X.pn++pins,p.1≠b)
 (loop:∀s',Inv (bG X N' scope cl fp (X.pn++pins) s3 H3) [] (nU fr σ) H3 s'->tn 0 s'.heap->(∀{H':Hp},(∀b∈fp,H' b=none)->∀b∈fp,ke (bG X N' scope cl fp (X.pn++pins) s3 H3) [] H' b) ->
  GE (Ek X.prog X.w) X.A (.compStart ex 0 (.ref it) (.ref D) (bG X N' scope cl fp (X.pn++pins) s3 H3).env) (fun r s5=>r = .ok .next/\∃σ5 H4,Inv (bG X N' scope cl fp (X.pn++pins) s3 H3) [] σ5 H4 s5/\Q (.ref D) H4) s')
 {Rp:Addr->Result->DM->Prop}(fin:∀s5 H4 m,s5.heap.Ns s3.heap.objs.size m->(∀h',FJ s3.heap.objs.size s5.heap h'->Inv X pins σ H4 {s5 with heap:=h' })->ke X pins H4 s3.heap.objs.size->Q (.ref D) H4->Rp s3.heap.objs.size (.ok .next) s5) :
 Eb (Ek X.prog X.w) X.A (IZ scope X.env.globals cl [] X.env.qual none .none (some X.env)) (fun cenv s₄ =>
  GE (Ek X.prog X.w) X.A (.compStart ex 0 (.ref it) (.ref D) {cenv with scope:=relabel scope X.env})
   (Rp cenv.locals) s₄) X.xe s3:=by
 refine iZ ?_;have ok:=cellsFrom_ok scope.names (s3.heap.push {cls:=.type "dict", data:=.dict #[]}) (s3.heap.objs.size+1) [] ⟨fun _ _ hm=>(nomatch hm),KQ.nil⟩ (by rw[Fi];exact DQ _);rw[Fi]at ok;have kp:∀b o,s3.heap.get? b=some o->(Lm (s3.heap.push {cls:=.type "dict", data:=.dict #[]}) scope.names).get? b=some o:=fun b o e=>pushCells_keeps _ _ b o (DN _ e);have hns₁:(Lm (s3.heap.push {cls:=.type "dict", data:=.dict #[]}) scope.names).Ns s3.heap.objs.size (fun _=>none):=(Heap.Ns.new s3.heap (.type "dict")).keeps (pushCells_keeps _ _);generalize Lm (s3.heap.push {cls:=.type "dict", data:=.dict #[]}) scope.names=h₁ at ok kp hns₁ ⊢
 have cs:∀x c,(FO (s3.heap.objs.size+1) scope.names cl).lookup x=some c->(FO (s3.heap.objs.size+1) scope.names []).lookup x=some c\/cl.lookup x=some c:=fun x c e=>by
  rw[aV,dC]at e
  cases q:(FO (s3.heap.objs.size+1) scope.names []).lookup x with
  | none=>rw[q]at e;exact .inr (by simpa using e)
  | some c'=>rw[q]at e;exact .inl (by simpa using e)
 have own:∀x c,(FO (s3.heap.objs.size+1) scope.names []).lookup x=some c->h₁.IsCell c none/\s3.heap.objs.size+1<=c:=fun x c e=>ok.empty x c (EY e)
 have clt:∀x c,cl.lookup x=some c->c<s3.heap.objs.size:=fun x c e=>by
  obtain⟨v,o,ho,_⟩:=I3.cell x c (cl1 x c e);exact DV ho
 have frn:∀x,scope.names.lookup x=some .free->(FO (s3.heap.objs.size+1) scope.names []).lookup x=none:=fun x e=>by
  cases q:(FO (s3.heap.objs.size+1) scope.names []).lookup x with
  | none=>rfl
  | some c =>
    have:=hcell (x,.cell) (cr (EY q)) rfl;rw[e]at this;cases this
 have notC:∀b o,s3.heap.get? b=some o->b≠s3.heap.objs.size:=fun b o e=>EB (DV e);have fpstk:∀b∈fp,b∉frs X.stack:=fun b hb z=>(EO.mp (I3.stkSub b z)).elim (fpk b hb).1 (fpk b hb).2.1;have cellK:∀c v,s3.heap.IsCell c v->h₁.IsCell c v:=fun c v ⟨o,ho,hd⟩=>⟨o,kp c o ho,hd⟩
 have IY:Inv (bG X N' scope cl fp (X.pn++pins) s3 H3) [] (nU fr σ) H3 {s3 with heap:=h₁}:=by
  refine⟨⟨I3.ok.mod,hkind,I3.ok.glob,I3.ok.blt,DQ _,fun x y c e1 e2=>?_,fun x hx=>?_,fun x c _ e=>?_,I3.ok.hd,I3.ok.frames,.inl rfl,
   fun b hb=>⟨EB (fp3 b hb),fun x c e=>?_⟩,I3.bs,EC I3.ok.bsz I3.sz,fun b o e hb=>?_,fun b hb=>fpstk b hb,I3.stack,I3.stkFree⟩,
   rfl,I3.bare,Un.kept kp,⟨_,hns₁,fun i x v e1 e2 e3=>?_⟩,fun x c e=>?_,I3.hok.fresh (DQ _),fun x c e=>?_,fun p hp=>?_,I3.hok.kept kp,?_⟩
  · rcases cs x c e1 with q1|q1<;>rcases cs y c e2 with q2|q2
    · exact name_of_addr ok.apart (EY q1) (EY q2)
    · exact absurd (DR (clt y c q2) (G8 (own x c q1).2)) (E_ _)
    · exact absurd (DR (clt x c q1) (G8 (own y c q2).2)) (E_ _)
    · exact I3.ok.inj x y c (cl1 x c q1) (cl1 y c q2)
  · refine GF.mp ?_;show((FO (s3.heap.objs.size+1) scope.names cl).lookup x).isSome=true;rcases hX hx with q|q
    · exact W.cellsFrom_some _ _ _ (.inr (cl2 x q))
    · exact W.cellsFrom_some _ _ _ (.inl (hcell _ q rfl))
  · rename_i hfn;rcases cs x c e with q|q
    · have:=(own x c q).2;show s3.heap.objs.size<=c;omega
    · have hfn:(scope.names.lookup x==some Gi)=true:=hfn;have hl:scope.names.lookup x=some .cell:=by simpa using hfn
      obtain⟨c',ec'⟩:=GF.mp (W.cellsFrom_some scope.names (s3.heap.objs.size+1) [] (.inl hl));have e':(FO (s3.heap.objs.size+1) scope.names cl).lookup x=some c:=e;rw[aV,dC,ec']at e';simp at e';subst e';exact G8 (own x c' ec').2
  · rcases cs x c e with q|q
    · exact fun z=>absurd (DR (fp3 b hb) (G8 (by rw[<- z];exact(own x c q).2))) (E_ _)
    · exact(fpk b hb).2.2.2.1 x c (cl1 x c q)
  · rcases(fpk b hb).2.2.1 with z|z
    · exact I3.ok.noex b o e z
    · exact absurd (DR (DV e) (EC I3.ok.bsz z)) (E_ _)
  · have e2':(fr[i]?).map (fun o=>o.bind fun j=>(σ[j]?).join)=some (some v):=by unfold nU at e2;rw[Ez]at e2;exact e2
    cases ef:fr[i]? with
    | none=>rw[ef]at e2';cases e2'
    | some o =>
      cases o with
      | none=>rw[ef]at e2';cases e2'
      | some j =>
        rw[ef]at e2';have e3':(σ[j]?).join=some v:=Eu e2'
        have e4:σ[j]?=some (some v):=by
         cases q:σ[j]? with
         | none=>rw[q]at e3';cases e3'
         | some z=>rw[q]at e3';cases e3';rfl
        obtain⟨x',n1,n2,n3,n4⟩:=frg i j ef;have ex:x'=x:=Eu (n1.symm.trans e1);subst ex;obtain⟨m,hn,hl⟩:=I3.loc;obtain⟨u,ru,lk⟩:=hl j x' v n2 e4 (n4.elim (fun z=>.inr (.inl z)) fun z=>.inr (.inr z));refine⟨u,ru,?_⟩;rcases lk with⟨kl,_⟩|⟨_,c,ec,hcl⟩
        · exact absurd (show X.env.scope.names.lookup x'=some .local from kl) (by rcases n4 with z|z<;>rw[z]<;>decide)
        · obtain⟨c',ec'⟩:=GF.mp (cl2 x' (kH n3));have:=cl1 x' c' ec';rw[ec]at this;cases this;refine .inr ⟨dJ n3,c,?_,cellK _ _ hcl⟩;show(FO (s3.heap.objs.size+1) scope.names cl).lookup x'=some c;rw[aV,dC,frn x' n3];simpa using ec'
  · rcases cs x c e with q|q
    · exact⟨_,(own x c q).1⟩
    · obtain⟨v,z⟩:=I3.cell x c (cl1 x c q);exact⟨v,cellK _ _ z⟩
  · rcases cs x c e with q|q
    · exact I3.hok.fresh (by have:=(own x c q).2;omega)
    · exact I3.freeC x c (cl1 x c q)
  · rw[FY]at hp;obtain⟨e,n,ne,nf,d⟩:=I3.pin p hp;exact⟨kp _ _ e,n,notC _ _ e,fun z=>(EO.mp (I3.stkSub p.1 z)).elim ne nf,d⟩
  · unfold nU;rw[DO];exact frl
 have stat:∀{H':Hp},(∀b∈fp,H' b=none)->∀b∈fp,ke (bG X N' scope cl fp (X.pn++pins) s3 H3) [] H' b:=fun hn b hb =>
  ⟨hn b hb,EB (fp3 b hb),fpstk b hb,.inl hb,fun x c e=>(by
   rcases cs x c e with q|q
   · exact fun z=>absurd (DR (fp3 b hb) (G8 (by rw[<- z];exact(own x c q).2))) (E_ _)
   · exact(fpk b hb).2.2.2.1 x c (cl1 x c q)),fun p hp=>by rw[FY]at hp;exact(fpk b hb).2.2.2.2 p hp⟩
 refine Hn (loop _ IY (T.keep _ _ _ tn3 fun b _ o e=>kp b o e) stat) fun r s5 ⟨hr,σ5,H4,I5,qn⟩=>?_;subst hr;obtain⟨m,hn,_⟩:=I5.loc;refine fin s5 H4 m hn (fun h' hs'=>?_) (I3.fpOk (DQ _) I5.free) qn;have k':∀b o,b≠s3.heap.objs.size->s5.heap.get? b=some o->h'.get? b=some o:=fun b o nb e=>hs'.extBut b o nb e;have u5:Un (frs X.stack) fp H3 H4 s3.heap s5.heap:=I5.base
 have un:Un (frs X.stack) fp H3 H4 s3.heap h' :=
  ⟨fun b o e n hb hx=>k' b o (notC b o e) (u5.keep b o e n hb hx),fun b o e n hb hx=>by obtain⟨sl,q⟩:=u5.slot b o e n hb hx;exact⟨sl,k' b _ (notC b o e) q⟩,u5.free,
   fun b o e hx=>by obtain⟨o',q⟩:=u5.there b o e hx;exact⟨o',k' b _ (notC b o e) q⟩,u5.tups,u5.frzs,u5.tbls⟩
 have nC:H4 s3.heap.objs.size=none:=I5.free
 have hok':Dx X.prog X.w H4 h':=fun b u e=>(I5.hok b u e).stay (fun c v hcv q=>k' c v (by
  rintro rfl;rcases hcv with z|z
  · rw[<- z]at e;rw[nC]at e;cases e
  · rw[nC]at z;cases z) q) (fun _ q=>q) fun _ _ q=>q
 obtain⟨hh,g5,d5,t5,os5⟩:=s5;have os':os5=s3.os:=I5.os;subst os';have I':=Inv.call (s:=s3) (h':=h') (g':=g5) (d':=d5) (t':=t5) (ch:=fp) I3 un hok' I5.bare (fun b hb=>⟨(fpk b hb).2.2.1,(fpk b hb).1,(fpk b hb).2.2.2.1,(fpk b hb).2.2.2.2⟩);exact I'
theorem ga{elt:Expr}{ifs:List Expr}{pos:Pos}{g:TG}{tt:TT}{te:TE}{H3:Hp}{s3:DM}{D:Addr}{tn:Nat->Heap->Prop}{J:It}{Q:VK}
 {cl:List (Str×Addr)}(N':List Str)(fr:List (Option Nat))(hc:X.calm=true)(hkind:scope.kind = .function)(hcell:∀y∈scope.names,y.2 = .cell->scope.names.lookup y.1=some .cell)
 (hfree:∀y∈scope.names,y.2 = .free->X.env.kindOf y.1=some .cell\/X.env.kindOf y.1=some .free)(frl:fr.length=N'.length)
 (frg:∀(i j:Nat),fr[i]?=some (some j)->∃x,N'[i]?=some x/\X.N[j]?=some x/\scope.names.lookup x=some .free/\(X.env.scope.names.lookup x=some .cell\/X.env.scope.names.lookup x=some .free))
 (cl1:∀x c,cl.lookup x=some c->X.env.cells.lookup x=some c)(cl2:∀x,(x,ET)∈scope.names->(cl.lookup x).isSome=true)
 (I3:Inv X pins σ H3 s3)(T:Turn X.prog X.w X.K tg J fp it tn)(tn3:tn 0 s3.heap)(fpD:∀b∈fp,H3 b=none)(fp3:∀b∈fp,b<s3.heap.objs.size)
 (fpk:∀b∈fp,b≠X.env.locals/\b∉X.fs/\(b∈X.ex\/X.s₀.heap.objs.size<=b)/\(∀x c,X.env.cells.lookup x=some c->c≠b)/\∀p∈X.pn++pins,p.1≠b)
 (hg:PG (bG X N' scope cl fp (X.pn++pins) s3 H3) tg g)(ht:C1 (bG X N' scope cl fp (X.pn++pins) s3 H3) ifs tt)(he:PE (bG X N' scope cl fp (X.pn++pins) s3 H3) elt te)
 {Wv:Nat->Nat->List V->St->Hp->Prop}{m0:Nat}(w0:Wv 0 m0 [] (nU fr σ) H3)
 (turn:∀i m acc σc H,Wv i m acc σc H->(J.stop i H/\Q (.ref D) H)\/(J.go i H/\∀x H',J.yld i H x H'->g x σc H' fun σ2 H2=>tt σ2 H2 fun b H3 =>
  if b=true then te σ2 H3 fun y H4=>H4 D=some (.lst acc)/\acc.length<sizeLine/\∃m',m'<m/\Wv (i+1) m' (acc++[y]) σ2 (Bt H4 D (.lst (acc++[y])))else ∃m',m'<m/\Wv (i+1) m' acc σ2 H3))
 {Rp:Addr->Result->DM->Prop}(fin:∀s5 H4 m,s5.heap.Ns s3.heap.objs.size m->(∀h',FJ s3.heap.objs.size s5.heap h'->Inv X pins σ H4 {s5 with heap:=h' })->ke X pins H4 s3.heap.objs.size->Q (.ref D) H4->Rp s3.heap.objs.size (.ok .next) s5) :
 Eb (Ek X.prog X.w) X.A (IZ scope X.env.globals cl [] X.env.qual none .none (some X.env)) (fun cenv s₄ =>
  GE (Ek X.prog X.w) X.A (.compStart (.ListComp elt [⟨tg,iter,ifs,0⟩] scope pos) 0 (.ref it) (.ref D) {cenv with scope:=relabel scope X.env})
   (Rp cenv.locals) s₄) X.xe s3:=by
 refine e9 N' fr hc hkind hcell hfree frl frg cl1 cl2 I3 T tn3 fpD fp3 fpk (fun s' IY tY stat=>?_) fin
 have loop:GE (Ek X.prog X.w) X.A (.compLoop (.ListComp elt [⟨tg,iter,ifs,0⟩] scope pos) 0 (.ref it) (.ref D) (bG X N' scope cl fp (X.pn++pins) s3 H3).env)
  (fun r s5=>r = .ok .next/\∃σ5 H4,Inv (bG X N' scope cl fp (X.pn++pins) s3 H3) [] σ5 H4 s5/\Q (.ref D) H4) s':=by
  refine nE (fun n s'=>∃i acc σ' H',Inv (bG X N' scope cl fp (X.pn++pins) s3 H3) [] σ' H' s'/\tn i s'.heap/\(∀b∈fp,H' b=none)/\Wv i n acc σ' H') ?_ m0
   ⟨0,[],_,_,IY,tY,fpD,w0⟩
  rintro n s4 ⟨i,acc,σ4,H4,I4,st4,fr4,w4⟩;rcases turn i n acc σ4 H4 w4 with⟨stop,qn⟩|⟨go,step⟩
  · exact BD (T.done (bG X N' scope cl fp (X.pn++pins) s3 H3) rfl rfl rfl hc i [] s4 σ4 H4 (fun _ _=>False) I4 (stat fr4) st4 stop) fun r s5 ⟨hr,I5⟩=>.inl ⟨hr,rfl,σ4,H4,I5,qn⟩
  · refine BD (T.item (bG X N' scope cl fp (X.pn++pins) s3 H3) rfl rfl rfl hc i [] s4 σ4 H4 (fun _ _=>False) I4 (stat fr4) st4 go) fun r s5 ⟨u,hr,h5⟩=>.inr ⟨u,hr,?_⟩;refine BD h5 fun _ s6 ⟨x,H6,I6,r6,y6,st6,fr6⟩=>?_;have I6':=I6.pinned (stat fr6) (T.obj _ _ st6)
    have again:∀{σ7:St}{H7:Hp}{s7:DM},Inv (bG X N' scope cl fp (X.pn++pins) s3 H3) ([]++eK fp s6.heap) σ7 H7 s7->∀{acc':List V}{m':Nat},m'<n->Wv (i+1) m' acc' σ7 H7 ->
     ∃m,m<n/\∃i acc σ' H',Inv (bG X N' scope cl fp (X.pn++pins) s3 H3) [] σ' H' s7/\tn i s7.heap/\(∀b∈fp,H' b=none)/\Wv i m acc σ' H':=fun{σ7 H7 s7} I7 {acc' m'} hm w7=>by
     refine⟨m',hm,i+1,acc',σ7,H7,I7.unpinned,T.keep _ _ _ st6 fun b hb o e=>(I7.pin (b,o) (Ea _ (Ea _ (br hb e)))).1,fun b hb=>?_,w7⟩;obtain⟨o,e,d⟩:=T.obj _ _ st6 b hb;exact(I7.pin (b,o) (Ea _ (Ea _ (br hb e)))).2.1
    refine BD (hg _ s6 σ4 H6 x u _ I6' r6 (step x H6 y6)) fun _ s7 ⟨σ7,H7,I7,q7⟩=>?_;refine BD (ht _ s7 σ7 H7 _ I7 q7) fun ok s8 ⟨H8,I8,q8⟩=>?_
    cases ok with
    | false =>
      rw[if_neg D9]at q8 ⊢;obtain⟨m',hm,w8⟩:=q8
      exact again I8 hm w8
    | true =>
      rw[if_pos rfl]at q8 ⊢;refine BD (he _ s8 σ7 H8 _ I8 q8) fun y s9 ⟨yv,H9,I9,r9,eD,hl,m',hm,w9⟩=>?_
      exact BD (c6 (X:=bG X N' scope cl fp (X.pn++pins) s3 H3) _ s9 σ7 H9 (.ref D) [yv] (.ref D) [y] (fun _ H'=>H'=Bt H9 D (.lst (acc++[yv]))) I9 rfl (.cons r9 .nil) ⟨D,acc,yv,rfl,rfl,eD,hl,rfl⟩)
       fun _ s10 ⟨_,H10,I10,_,e10⟩=>by subst e10;exact again I10 hm w9
 exact JQ loop (T.self X.A 0 _ _ _ tY loop)
section
variable{X:Cx}{elt tg iter:Expr}{ifs:List Expr}{scope:Scope}{pos:Pos}{wi:TI}{g:CompA->TG}{tt:CompA->TT}{te:CompA->TE}
theorem jD(N':List Str)(fr:List (Option Nat))(hc:X.calm=true)(hi:PI X tg iter wi)(hfr:pM fr N' X.N scope X.env.scope=true)(hsc:qg scope X.env.scope=true)
 (hg:∀y,PG (blk X N' scope y) tg (g y))(ht:∀y,C1 (blk X N' scope y) ifs (tt y))(he:∀y,PE (blk X N' scope y) elt (te y))
 (hs:autoParam (∀x,Ey iter X.env x=pure x) æd._auto_1):PE X (.ListComp elt [⟨tg,iter,ifs,0⟩] scope pos) (rE wi fr g tt te):=by
 intro pins s σ H Q I h;obtain⟨sk,sn⟩:=D2.mp hsc;have hkind:scope.kind = .function:=of_decide_eq_true sk;have hall:=Gb.mp sn
 have hcell:∀y∈scope.names,y.2 = .cell->scope.names.lookup y.1=some .cell:=fun y hy hl=>by
  rcases EA.mp (D2.mp (D2.mp (hall y hy)).1).1 with z|z
  · exact absurd hl (of_decide_eq_true z)
  · exact of_decide_eq_true z
 have hnames:∀y∈scope.names,y.2 = .local->scope.names.lookup y.1=some .local:=fun y hy hl=>by
  rcases EA.mp (D2.mp (D2.mp (hall y hy)).1).2 with z|z
  · exact absurd hl (of_decide_eq_true z)
  · exact of_decide_eq_true z
 have hfree:∀y∈scope.names,y.2 = .free->X.env.kindOf y.1=some .cell\/X.env.kindOf y.1=some .free:=fun y hy hl=>by
  rcases EA.mp (D2.mp (hall y hy)).2 with z|z
  · exact absurd hl (of_decide_eq_true z)
  · exact(EA.mp z).imp of_decide_eq_true of_decide_eq_true
 obtain⟨frl,frg⟩:=pM.get hfr;obtain⟨cl,hclos,cl1,cl2⟩:=cT (env:=X.env) (scope:=scope) fun y hy hl=>I.ok.has y.1 (hfree y hy hl);rw[eval_ListComp];refine Hq (use:=none) rfl hs hclos hkind hnames (BD (hi pins s σ H _ I h) fun v s1 h1=>BD h1 fun itv s2 h2=>?_);obtain⟨it,fp,tn,J,H2,e,I2,T,st2,f2,q2⟩:=h2;subst e;refine EG ?_;have hD:H2 s2.heap.objs.size=none:=I2.hok.fresh (DQ _)
 have I3:Inv X pins σ (Bt H2 s2.heap.objs.size (.lst [])) {s2 with heap:=s2.heap.push {cls:=.type "list", data:=.seq ([]:List DJ).toArray}} :=
  I2.laid (t':=s2.toks) (fun b u e=>DN _ e) (DQ _) ⟨by show 0<=sizeLine;exact Ei _,[],0,.nil,D3 _ rfl⟩
 obtain⟨Wv,⟨m0,w0⟩,turn⟩:=q2 _ hD;have tn3:tn 0 (s2.heap.push {cls:=.type "list", data:=.seq ([]:List DJ).toArray}):=T.keep _ _ _ st2 fun b _ o e=>DN _ e
 have fpD:∀b∈fp,(Bt H2 s2.heap.objs.size (.lst [])) b=none:=fun b hb=>by
  obtain⟨o,e,_⟩:=T.obj _ _ st2 b hb;rw[ai (EB (DV e))];exact(f2 b hb).1
 have fp3:∀b∈fp,b<(s2.heap.push {cls:=.type "list", data:=.seq ([]:List DJ).toArray}).objs.size:=fun b hb=>by
  obtain⟨o,e,_⟩:=T.obj _ _ tn3 b hb;exact DV e
 exact ga N' fr hc hkind hcell hfree frl frg cl1 cl2 I3 T tn3 fpD fp3 (fun b hb=>(f2 b hb).2) (hg ⟨cl,fp,X.pn++pins,_,_⟩) (ht ⟨cl,fp,X.pn++pins,_,_⟩) (he ⟨cl,fp,X.pn++pins,_,_⟩) w0 (turn ⟨cl,fp,X.pn++pins,_,_⟩)
  (Rp:=compPost (Ek X.prog X.w) X.A X.xe none (EP X pins σ Q) (.ref s2.heap.objs.size)) fun s5 H4 m hn k _ qn=>⟨m,hn,fun h' hs'=>⟨.ref _,H4,k h' hs',rfl,qn⟩⟩
theorem fU{b:Bool}{spos:Pos}{ix:Nat}(N':List Str)(fr:List (Option Nat))(hc:X.calm=true)(hi:PI X tg iter wi)(hfr:pM fr N' X.N scope X.env.scope=true)(hsc:qg scope X.env.scope=true)
 (hg:∀y,PG (blk X N' scope y) tg (g y))(ht:∀y,C1 (blk X N' scope y) ifs (tt y))(he:∀y,PE (blk X N' scope y) elt (te y))(hN:X.N.Nodup)(hix:X.N[ix]?=some x)(hx:Loc X.env.scope x)
 (hf:X.fn x=true\/X.env.scope.names.lookup x=some .local)(hsw:Gr (.ListComp elt [⟨tg,iter,ifs,0⟩] scope pos) (some (.Name x px)) spos.line X.env=pure b)
 (hs:∀x,Ey iter X.env x=pure x):PS X (.Assign [.Name x px] (.ListComp elt [⟨tg,iter,ifs,0⟩] scope pos) spos) (xQ (rE wi fr g tt te) (pG ix)):=by
 cases b with
 | false=>exact ig hN hix hx (jD N' fr hc hi hfr hsc hg ht he hs) hsw hf
 | true =>
 intro pins s σ H DD I h;obtain⟨sk,sn⟩:=D2.mp hsc;have hkind:scope.kind = .function:=of_decide_eq_true sk;have hall:=Gb.mp sn
 have hcell:∀y∈scope.names,y.2 = .cell->scope.names.lookup y.1=some .cell:=fun y hy hl=>by
  rcases EA.mp (D2.mp (D2.mp (hall y hy)).1).1 with z|z
  · exact absurd hl (of_decide_eq_true z)
  · exact of_decide_eq_true z
 have hnames:∀y∈scope.names,y.2 = .local->scope.names.lookup y.1=some .local:=fun y hy hl=>by
  rcases EA.mp (D2.mp (D2.mp (hall y hy)).1).2 with z|z
  · exact absurd hl (of_decide_eq_true z)
  · exact of_decide_eq_true z
 have hfree:∀y∈scope.names,y.2 = .free->X.env.kindOf y.1=some .cell\/X.env.kindOf y.1=some .free:=fun y hy hl=>by
  rcases EA.mp (D2.mp (hall y hy)).2 with z|z
  · exact absurd hl (of_decide_eq_true z)
  · exact(EA.mp z).imp of_decide_eq_true of_decide_eq_true
 obtain⟨frl,frg⟩:=pM.get hfr;obtain⟨cl,hclos,cl1,cl2⟩:=cT (env:=X.env) (scope:=scope) fun y hy hl=>I.ok.has y.1 (hfree y hy hl);rw[exec_Assign_Name_used _ _ _ _ hsw];refine DI (Gh (DI ?_));show Eb _ X.A (do let _ <- comprehension (.ListComp elt [⟨tg,iter,ifs,0⟩] scope pos) scope X.env _ (newList []) false (eval iter X.env) (some (H_ (.Name x px) X.env))) _ _ s
 refine DI (EL (Hq (use:=some (H_ (.Name x px) X.env)) (Q:=fun _ s'=>SP X pins DD .next s') rfl hs hclos hkind hnames
  (BD (hi pins s σ H _ I h) fun v s1 h1=>BD h1 fun itv s2 h2=>?_)) (fun _ s' hq=>DK (DK hq)) fun _ _ e=>e)
 obtain⟨it,fp,tn,J,H2,e,I2,T,st2,f2,q2⟩:=h2;subst e;refine EG ?_;have hD:H2 s2.heap.objs.size=none:=I2.hok.fresh (DQ _)
 have I3:Inv X pins σ (Bt H2 s2.heap.objs.size (.lst [])) {s2 with heap:=s2.heap.push {cls:=.type "list", data:=.seq ([]:List DJ).toArray}} :=
  I2.laid (t':=s2.toks) (fun b u e=>DN _ e) (DQ _) ⟨by show 0<=sizeLine;exact Ei _,[],0,.nil,D3 _ rfl⟩
 obtain⟨Wv,⟨m0,w0⟩,turn⟩:=q2 _ hD;have tn3:tn 0 (s2.heap.push {cls:=.type "list", data:=.seq ([]:List DJ).toArray}):=T.keep _ _ _ st2 fun b _ o e=>DN _ e
 have fpD:∀b∈fp,(Bt H2 s2.heap.objs.size (.lst [])) b=none:=fun b hb=>by
  obtain⟨o,e,_⟩:=T.obj _ _ st2 b hb;rw[ai (EB (DV e))];exact(f2 b hb).1
 have fp3:∀b∈fp,b<(s2.heap.push {cls:=.type "list", data:=.seq ([]:List DJ).toArray}).objs.size:=fun b hb=>by
  obtain⟨o,e,_⟩:=T.obj _ _ tn3 b hb;exact DV e
 refine ga (Q:=fun v H1=>pG ix v σ H1 DD.nx) N' fr hc hkind hcell hfree frl frg cl1 cl2 I3 T tn3 fpD fp3 (fun b hb=>(f2 b hb).2) (hg ⟨cl,fp,X.pn++pins,_,_⟩) (ht ⟨cl,fp,X.pn++pins,_,_⟩) (he ⟨cl,fp,X.pn++pins,_,_⟩) w0 (turn ⟨cl,fp,X.pn++pins,_,_⟩)
  (Rp:=compPost (Ek X.prog X.w) X.A X.xe (some (H_ (.Name x px) X.env)) (fun _ s'=>SP X pins DD .next s') (.ref s2.heap.objs.size)) fun s5 H4 m hn k fpo qn=>?_
 show Eb _ X.A (H_ (.Name x px) X.env (.ref s2.heap.objs.size)) _ _ s5;have I5:Inv X pins σ H4 s5:=k s5.heap (FJ.refl _ _);obtain⟨f0,f1,f2',f3,f4,f5⟩:=fpo;refine wpAny_assign_Name (gZ I5 hN hix hx (v:=.ref s2.heap.objs.size) rfl (fun s6 I6 sb=>?_) hf);obtain⟨a,sb,ha⟩:=sb
 have hne:(s2.heap.push {cls:=.type "list", data:=.seq ([]:List DJ).toArray}).objs.size≠a:=by
  rcases ha with rfl|ha
  · exact f1
  · exact fun z=>f4 x a ha z.symm
 refine⟨m,hn.at' fun o e=>sb.extBut _ o hne e,fun h' hs'=>?_⟩;exact⟨_,H4,I6.turned (t':=s6.toks) (fun b o hb e=>hs'.extBut b o hb e) f0 f1 f3 f4 f5,qn⟩
end
end L2
namespace L2.VL
noncomputable def W.cap:W->Option W
 | .d x=>some (.d x)
 | .reel=>some .reel
 | .vv u=>some (.vv u)
 | .sc ns=>some (.sc ns)
 | .fd kvs=>some (.fd kvs)
 | .fw kvs=>some (.fw kvs)
 | .ft kvs=>some (.ft kvs)
 | .xc x fs=>some (.xc x fs)
 | .dp kvs x=>some (.dp kvs x)
 | _=>none
noncomputable def d9(fr:List (Option Nat))(ρ:En):En:=fr.map fun o=>o.bind fun j=>((ρ[j]?).join).bind W.cap
noncomputable def nW(X:Cx)(rl:RlT)(ifs:List Expr)(f:TB):Prop:=∃t,C1 X ifs t/\∀{F₀ H₀ F H:Hp}{σ:St}{ρ:En},VR X.K rl F₀ H₀ F H σ ρ->∀(Qd:Bool->Prop)(Q:Bool->Hp->Prop),f ρ Qd ->
 (∀b F' H',Grow rl F H F' H'->Qd b->Q b H')->t σ H Q
theorem bD:nW X rl [] (fun _ Q=>Q true):=⟨_,sa,fun R Qd Q q k=>k true _ _ (Grow.refl R.sub R.reel) q⟩
theorem t_{c:Expr}{f:TB}(h:PB X rl c f):nW X rl [c] f:=let ⟨t,p,k⟩:=h;⟨t,r_ p,k⟩
theorem d8{fr:List (Option Nat)}{w:W}(h:(d9 fr ρ)[i]?=some (some w)):∃j w',fr[i]?=some (some j)/\ρ[j]?=some (some w')/\w'.cap=some w:=by
 unfold d9 at h;rw[Ez]at h
 cases ef:fr[i]? with
 | none=>rw[ef]at h;cases h
 | some o =>
   cases o with
   | none=>rw[ef]at h;cases h
   | some j =>
     rw[ef]at h;have h':((ρ[j]?).join).bind W.cap=some w:=Eu h
     cases q:ρ[j]? with
     | none=>rw[q]at h';cases h'
     | some o =>
       cases o with
       | none=>rw[q]at h';cases h'
       | some w'=>rw[q]at h';exact⟨j,w',rfl,q,h'⟩
theorem j9{w' w:W}(h:w'.cap=some w):w=w'/\w.own=false/\∀xs,w ≠ .pk xs:=by
 cases w'<;>cases h<;>exact⟨rfl,rfl,(fun _ z=>by cases z)⟩
theorem gn{K:W.Frag}{fr:List (Option Nat)}(R:VR K rl F₀ H₀ F H σ ρ)(g:Grow rl F H F H'):VR K rl F H F H' (nU fr σ) (d9 fr ρ):=by
 refine⟨g,fun i w e=>?_,fun i j xs ys v _ e1 _ o1 _ _ _=>?_,fun i xs e=>?_,by simp[nU,d9]⟩
 · obtain⟨j,w',e1,e2,e3⟩:=d8 e;obtain⟨rfl,n1,n2⟩:=j9 e3;obtain⟨v,s1,r1,_⟩:=R.sl j w e2;refine⟨v,?_,r1.grow g,?_⟩
   · unfold nU;rw[Ez,e1];show some ((σ[j]?).join)=_;rw[s1];rfl
   · cases w with
     | ml xs=>cases n1
     | md xs=>cases n1
     | mk xs=>cases n1
     | nt _=>trivial
     | lk=>trivial
     | sc _=>trivial
     | fd _=>trivial
     | fw _=>trivial
     | ft _=>trivial
     | xc _ _=>trivial
     | dp _ _=>trivial
     | d _=>trivial
     | pk _=>trivial
     | reel=>trivial
     | vv _=>trivial
 · obtain⟨_,_,_,_,e3⟩:=d8 e1;rw[(j9 e3).2.1]at o1;cases o1
 · obtain⟨_,_,_,_,e3⟩:=d8 e;exact absurd rfl ((j9 e3).2.2 xs)
theorem dB{fr:List (Option Nat)}:jd (d9 fr ρ):=fun i xs e=>by
 obtain⟨_,_,_,_,e3⟩:=d8 e;exact(j9 e3).2.1
theorem VR.other{K:W.Frag}(R:VR K rl F₀ H₀ F H σ ρ)(n:jd ρ){D:Addr}{o:HO}(h0:H₀ D=none)(f:F D=none)(hr:rl.a≠some D):VR K rl F₀ H₀ F (Bt H D o) σ ρ:=by
 have neF:∀b u,F b=some u->b≠D:=fun b u q z=>by subst z;rw[f]at q;cases q
 have g:Grow rl F₀ H₀ F (Bt H D o):=by
  refine⟨fun b o q1 n=>by rw[ai (aH q1 h0)];exact R.g.same b o q1 n,R.g.fs,fun b o q1=>by rw[ai (neF b o q1)];exact R.sub b o q1,R.g.old,fun y z=>?_⟩;obtain⟨z1,⟨u,h1,h2⟩⟩:=R.reel y z;exact⟨z1,⟨u,by rw[ai (fun q=>hr (by rw[<- q];exact z))];exact h1,h2⟩⟩
 refine⟨g,fun i w e=>?_,R.ap,R.np,R.len⟩;obtain⟨v,h1,h2,h3⟩:=R.sl i w e;refine⟨v,h1,?_,h3⟩
 cases w with
 | d x=>exact h2
 | reel=>exact h2
 | vv u=>exact h2
 | ml xs=>cases n i _ e
 | md xs=>cases n i _ e
 | mk xs=>cases n i _ e
 | nt ds=>exact h2
 | lk=>trivial
 | sc _=>exact h2
 | fd _=>exact h2
 | fw _=>exact h2
 | ft _=>exact h2
 | xc _ _=>exact h2
 | dp _ _=>exact h2
 | pk xs=>exact absurd e (R.np i xs)
section
variable{X:Cx}{rl:RlT}{elt tg iter:Expr}{ifs:List Expr}{scope:Scope}{pos:Pos}{fi:En->(List DH->Prop)->Prop}{g:CO}{ft:TB}{fe:TV}
end
mutual
def wR:DH->Prop
 | .none=>True
 | .bool _=>True
 | .int i=>i.natAbs<2^1900
 | .str x=>DH.strOk x=true
 | .list xs=>fy xs
 | .tuple xs=>fy xs
 | .dict _=>False
def fy:List DH->Prop
 | []=>True
 | x::xs=>wR x/\fy xs
end
theorem kI{k:Nat}(h:n<2^k)(hk:0<k):n.log2<k:=by
 by_cases h0:n=0
 · subst h0;simpa using hk
 · exact(Nat.log2_lt h0).mpr h
mutual
theorem wR.facts:∀d:DH,wR d->d.showable=true/\d.canLay0=true/\d.hasDict=false/\d.leavesShort 1921=true
 | .none,_=>⟨rfl,rfl,rfl,rfl⟩
 | .bool _,_=>⟨rfl,rfl,rfl,rfl⟩
 | .int i,h=>by
   have hl:i.natAbs.log2<1920:=kI (DR (show i.natAbs<2^1900 from h) (D4 (by decide) (by decide))) (by decide);refine⟨by simp[Iu,hl],rfl,rfl,?_⟩;simp only[Hy,decide_eq_true_eq]
   exact int_text_len_1921 hl
 | .str x,h=>by
   refine⟨rfl,(show Gk (.str x)=true by simp only[Gk];exact h),rfl,?_⟩;have h:x.cps.all (· < 0x110000)=true:=h;simp only[Hy];rw[Gb];intro c hc;have:=(Array.all_eq_true_iff_forall_mem.mp h) c (by simpa using hc);simp at this ⊢
   omega
 | .list xs,h=>by
   obtain⟨a,b,c,d⟩:=fy.facts xs h
   exact⟨by simpa[Iu]using a,by simpa[Gk]using b,by simpa[DH.hasDict]using c,by simpa[Hy]using d⟩
 | .tuple xs,h=>by
   obtain⟨a,b,c,d⟩:=fy.facts xs h
   exact⟨by simpa[Iu]using a,by simpa[Gk]using b,by simpa[DH.hasDict]using c,by simpa[Hy]using d⟩
 | .dict _,h=>Fq h
theorem fy.facts:∀xs:List DH,fy xs->DH.showableAll xs=true/\E6 xs=true/\DH.hasDictAll xs=false/\J3 1921 xs=true
 | [],_=>⟨rfl,rfl,rfl,rfl⟩
 | x::xs,h=>by
   obtain⟨a,b,c,d⟩:=wR.facts x h.1;obtain⟨a',b',c',d'⟩:=fy.facts xs h.2;exact⟨by simp[DH.showableAll,a,a'],by simp[E6,b,b'],by simp[DH.hasDictAll,c,c'],by simp[J3,d,d']⟩
end
noncomputable def CW(d:DH):Prop:=wR d/\d.depth<=60/\d.bulk<=8000
theorem CW.len(h:CW d):d.shown.length<=sizeLine:=by
 have q:=DH.shown_le_bulk 1921 (by decide) d (wR.facts d h.1).2.2.2;have:=h.2.2;have e:sizeLine=16777216:=by decide
 omega
section
variable{X:Cx}{rl:RlT}{a b e:Expr}{es:List Expr}{fa fb fc:TV}{fs:CJ}{pos p:Pos}
noncomputable def vq(K:W.Frag):List V->Hp->VK->Prop:=fun xs H Q=>∃x d,xs=[x]/\Rep K H x d/\CW d/\Q (.str d.shown) H
theorem nL(hgd:X.A.guards=some [])(hu:X.A.units+64<KW):dS X (.builtin "repr") (vq X.K):=by
 intro pins s σ H xs us Q I r ⟨x,d,ex,rx,sh,q⟩;subst ex;obtain⟨u,rfl,ru⟩:=vals1 r;have fin:∀tk h' , (∀b o,s.heap.get? b=some o->h'.get? b=some o)->∀t,EP X pins σ Q (.str d.shown t) {s with heap:=h',toks:=tk}:=fun tk h' k t=>⟨.str d.shown,H,I.kept k,⟨t,rfl⟩,q⟩;obtain⟨as,rd⟩:=Rep.reads I (.refl H) rx u ru;have hs:=(wR.facts d sh.1)
 cases rx with
 | non=>cases(show u=GT from ru);exact P.repr_of_none (fin _ _ (fun _ _ e=>e) _)
 | bl b=>cases(show u=KU b from ru);exact P.repr_of_bool (fin _ _ (fun _ _ e=>e) _)
 | int i =>
   obtain⟨t,e⟩:=(show ∃t,u=JV i t from ru);cases e
   exact P.repr_of_int (by simpa[Iu]using hs.1) (fin _ _ (fun _ _ e=>e) _)
 | str x =>
   obtain⟨t,e⟩:=(show ∃t,u=KI x t from ru);cases e
   exact P.repr_of_str (fin _ _ (fun _ _ e=>e) _) sh.len
 | tup sq rs =>
   cases(show u=GB _ from ru)
   exact repr_of_reads' rd hs.1 (DH.noDict_hsm hs.2.2.1) hgd (by have:=sh.2.1;omega) (fun _ _ e=>e) (fun h' t tk hk=>fin tk h' hk t) sh.len
 | lst sq rs =>
   cases(show u=GB _ from ru);exact repr_of_reads' rd hs.1 (DH.noDict_hsm hs.2.2.1) hgd (by have:=sh.2.1;omega) (fun _ _ e=>e) (fun h' t tk hk=>fin tk h' hk t) sh.len
noncomputable def pE:List W->(W->Prop)->Prop:=fun ws Q=>∃w d,ws=[w]/\w.dat=some d/\CW d/\Q (.d (.str d.shown))
theorem re:fJ X rl (vq X.K) pE:=fun{F H vs ws} Qd Q s ra r ⟨w,d,ew,e1,sh,q⟩ k=>by
 subst ew;obtain⟨v,rfl,r1⟩:=qk r;exact⟨v,d,rfl,r1.dat s e1,sh,k _ (.d _) _ _ (Grow.refl s ra) (.str _) trivial q⟩
theorem fO(hr:Room 0 X.A)(hm:X.mg "repr" = none)(ha:CZ X rl [e] fs)(hg:autoParam (Gl X "repr") æa._auto_1)(he:autoParam (DY [e] X.env=(false,eval e X.env)::DY [] X.env) æa._auto_1)(hpl:autoParam ((Ge pos (DY [] X.env)).any (·.1)=false) æa._auto_1) :
 PV X rl (.Call (.Name "repr" p) [e] [] pos) (eC pE fs):=gu (nL hr.gd hr.units) re hm (by first|rfl|exact boot_repr) ha hg (by decide) (by decide) he hpl
noncomputable def Bx:DH->String
 | .none => "NoneType"
 | .bool _ => "bool"
 | .int _ => "int"
 | .str _ => "str"
 | .list _ => "list"
 | .tuple _ => "tuple"
 | .dict _ => "dict"
noncomputable def wg(d:DH)(T:String):Bool:=Bx d==T||(Bx d == "bool" && T == "int")
noncomputable def zI(T:String):Bool:=["int", "bool", "str", "list", "tuple"].contains T
noncomputable def zZ:List W->(W->Prop)->Prop:=fun ws Q=>∃w d T,ws=[w,.vv (.ty T)]/\w.dat=some d/\zI T=true/\Q (.d (.bool (wg d T)))
theorem fB(hm:X.mg "len" = none)(ha:CZ X rl [a] fs)(hg:autoParam (Gl X "len") æa._auto_1)(he:autoParam (DY [a] X.env=(false,eval a X.env)::DY [] X.env) æa._auto_1)(hpl:autoParam ((Ge pos (DY [] X.env)).any (·.1)=false) æa._auto_1) :
 PV X rl (.Call (.Name "len" p) [a] [] pos) (eC xf fs):=gu iB ui hm boot_len ha hg (by decide) (by decide) he hpl
theorem um(hm:X.mg "abs" = none)(ha:CZ X rl [a] fs)(hg:autoParam (Gl X "abs") æa._auto_1)(he:autoParam (DY [a] X.env=(false,eval a X.env)::DY [] X.env) æa._auto_1)(hpl:autoParam ((Ge pos (DY [] X.env)).any (·.1)=false) æa._auto_1) :
 PV X rl (.Call (.Name "abs" p) [a] [] pos) (eC xj fs):=gu pU uj hm (by first|rfl|exact boot_abs) ha hg (by decide) (by decide) he hpl
noncomputable def wp:List W->(W->Prop)->Prop:=fun ws Q=>∃i,ws=[.d (.int i)]/\i.natAbs.log2<1920/\Q (.d (.str (toString i)))
end
structure FnIn (K:W.Frag) (mg:Str->Option DJ) (x:Str) (st:Stmt) (ps:List Str):Prop where
 ex:∃f fd,mg x=some (.ref f)/\Fun K x x st f fd/\Binds K fd ps []
structure Bz (mg:Str->Option DJ):Prop where
 int_:mg "int" = none
 bool_:mg "bool" = none
 str_:mg "str" = none
 list_:mg "list" = none
 tuple_:mg "tuple" = none
 dict_:mg "dict" = none
 isinstance_:mg "isinstance" = none
 len_:mg "len" = none
 abs_:mg "abs" = none
 repr_:mg "repr" = none
 range_:mg "range" = none
 all_:mg "all" = none
 any_:mg "any" = none
 sum_:mg "sum" = none
 min_:mg "min" = none
 max_:mg "max" = none
 sorted_:mg "sorted" = none
 zip_:mg "zip" = none
 enumerate_:mg "enumerate" = none
 reversed_:mg "reversed" = none
 divmod_:mg "divmod" = none
 set_:mg "set" = none
section
variable{P:Ef}{w:EM}{K:W.Frag}{mg:Str->Option DJ}{base:Heap}{rl:RlT}{x:Str}{st:Stmt}{N ps:List Str}{k:Nat}{Pd:List W->(DH->Prop)->Prop}{t:CK}
theorem Dfn.of(Fn:FnIn K mg x st ps)(S:FnScope N ps (defScope st))(mono:∀ws Q Q',(∀d,Q d->Q' d)->Pd ws Q->Pd ws Q')(len:∀ws Q,Pd ws Q->ws.length=ps.length)
 (hbody:∀{f:Addr}(cdv:DJ)(A:ES)(outer:List Env)(s:DM)(H:Hp)(E:XK),Room k (A.deeper (JY x (defScope st) s.heap.objs.size f cdv)) ->
  kd (nV Dz P w K mg base N x (defScope st) f cdv A outer s H E).nox rl (defBody st) t)
 (hread:∀ws Q,Pd ws Q->t (ot Q) (cN N ws)):Dfn P w K mg base rl x ps (k+1) Pd:=by
 obtain⟨f,fd,hm,F,hb⟩:=Fn.ex;exact⟨mono,f,fd,hm,F.kp,hb,Bl F S len hbody hread⟩
end
section
variable{X:Cx}{rl:RlT}{e:Expr}{es:List Expr}{fa fb fc:TV}{fs:CJ}{pos p:Pos}
theorem ua(i:Nat){apos cpos:Pos}(ha:CZ X rl [e] fs)(hN:autoParam (X.N[i]?=some x) æa._auto_1)(hv:autoParam (CF X.env.scope x) æc._auto_1)
 (hd:autoParam ((x==("__debug__" : Str))=false) æb._auto_1)(hcd:autoParam ((x==("__classdict__" : Str))=false) æb._auto_1)
 (hbase:autoParam (Ii (.Name x px) "extend" X.env (eval (.Name x px) X.env)=eval (.Name x px) X.env) æa._auto_1)
 (hfew:autoParam (((Ge cpos (DY [e] X.env)).all (fun x=>!x.1)&&(Lf cpos (Jt [] X.env)).all (fun x=>x.1.isSome)
  && decide (([e]).length+([]:List IV).length+(if([]:List IV).isEmpty then 0 else 1)<30))=true) æa._auto_1)
 (hline:autoParam ((apos.endLine==cpos.line)=true) æa._auto_1)(hs:autoParam (DY [e] X.env=(false,eval e X.env)::DY [] X.env) æa._auto_1)(hplain:autoParam ((Ge cpos (DY [] X.env)).any (·.1)=false) æa._auto_1)
 (hsw:autoParam (Gr (.Call (.Attribute (.Name x px) "extend" apos) [e] [] cpos) none pos.line X.env=pure false) æa._auto_1) :
 C5 X rl (.Expr (.Call (.Attribute (.Name x px) "extend" apos) [e] [] cpos) pos) (uz i xg fs) :=
 pX i PySem.F.slot_list_extend PySem.F.type_list_extend l9 ud ha hN hv hd hcd hbase hfew hline hs hplain hsw
end
theorem fz_d(x:DH):(W.d x).fz = .d x:=rfl
theorem fz_ml(x:List DH):(W.ml x).fz = .d (.list x):=rfl
theorem fz_pk(x:List DH):(W.pk x).fz = .pk x:=rfl
theorem fz_reel:W.reel.fz = .reel:=rfl
theorem fz_vv(x:V):(W.vv x).fz = .vv x:=rfl
theorem pk_d(x:DH):L2.VL.W.peek (.d x) = .d x:=rfl
theorem pk_ml(x:List DH):L2.VL.W.peek (.ml x) = .pk x:=rfl
theorem pk_reel:L2.VL.W.peek .reel = .reel:=rfl
theorem pk_vv(x:V):L2.VL.W.peek (.vv x) = .vv x:=rfl
theorem dat_d(x:DH):(W.d x).dat=some x:=rfl
theorem dat_ml(x:List DH):(W.ml x).dat=some (.list x):=rfl
theorem dat_pk(x:List DH):(W.pk x).dat=some (.list x):=rfl
theorem isPk_d(x:DH):(W.d x).isPk=false:=rfl
theorem isPk_ml(x:List DH):(W.ml x).isPk=false:=rfl
theorem isPk_reel:W.reel.isPk=false:=rfl
theorem dats_nil:gO []=some []:=rfl
theorem dats_d(x:DH)(r:List W):gO (.d x::r)=(gO r).map (x :: ·):=rfl
theorem arg_d(x:DH):dH (.d x)=true:=rfl
theorem arg_reel:dH .reel=true:=rfl
theorem item_l(xs:List DH)(i:Int):L2.VL.itemAt (.list xs) i=L2.atI xs i:=rfl
theorem item_t(xs:List DH)(i:Int):L2.VL.itemAt (.tuple xs) i=L2.atI xs i:=rfl
theorem len_l(xs:List DH):qy (.list xs)=some xs.length:=rfl
theorem len_t(xs:List DH):qy (.tuple xs)=some xs.length:=rfl
theorem at0{α:Type}(x:α)(r:List α):L2.atI (x::r) 0=some x:=by simp[L2.atI,L2.ixN]
theorem at1{α:Type}(x y:α)(r:List α):L2.atI (x::y::r) 1=some y:=by
 have:(1:Int)<((x::y::r).length:Int):=by simp;omega
 simp only[L2.atI,L2.ixN];rw[if_pos (by decide),if_pos this];rfl
theorem cS{x y:Int}(h:y≠0):(x.fmod y).natAbs<y.natAbs:=by
 rcases Int.lt_or_gt_of_ne h with hy|hy
 · have h1:=J4 x y
   have e:x.fmod y = -((-x).fmod (-y)):=by
    have:=Int.neg_fmod_neg x y;omega
   have p:0 < -y:=by omega
   have b1:=FQ (-x) p;have b2:=Hz (-x) p;omega
 · have b1:=FQ x hy;have b2:=Hz x hy;omega
theorem gK(x y:Int):Et y (x.fmod y)=Et x y:=by
 have e:x.fmod y=x+y*(-(x.fdiv y)):=by
  have:=J4 x y;rw[Int.mul_neg];omega
 rw[e,Int.gcd_add_mul_left_right];exact Int.gcd_comm y x
theorem eqv_ii(a b:Int):FR (.int a) (.int b)=(a==b):=by simp[FR]
theorem shaped_i(a:Int):E9 (.int a)=true:=rfl
theorem shaped_b(a:Bool):E9 (.bool a)=true:=rfl
noncomputable def gH(d:DH):Bool:=wg d "int" && !wg d "bool"
theorem qA:gH d=true↔∃i,d = .int i:=by
 cases d<;>simp[gH,wg,Bx]
theorem cU.of{i j:Int}(h:j≠0)(b:j.natAbs<2^64):cU i j:=⟨h,DR b (D4 (by decide) (by decide))⟩
theorem ff:∀ns:List Int,E6 (ns.map D5)=true
 | []=>rfl
 | n::ns=>by simp[E6,Gk,ff ns]
theorem f_:∀ns:List Int,FH (ns.map D5)=0
 | []=>rfl
 | n::ns=>by simp[FH,HQ,f_ ns]
theorem shaped_ints(ns:List Int):E9 (.list (ns.map .int))=true:=by simp[E9,Gk,HQ,ff,f_]
theorem tF{a b:Int}(h:b≠0):0<(Et a b:Int):=by
 have:=GX a h;omega
theorem wo{a b:Int}(h:b≠0):(Et a b)<=b.natAbs:=Nat.le_of_dvd (by omega) (Int.gcd_dvd_natAbs_right a b)
theorem tP{xs:List α}{k:Int}(h0:0<=k)(h1:k<(xs.length:Int)):∃z,L2.atI xs k=some z/\z∈xs:=by
 obtain⟨n,rfl⟩:=EF h0;have hn:n<xs.length:=by omega
 exact⟨xs[n],fg (DP hn),Ep hn⟩
theorem lD{K:W.Frag}{i:Str}(h:Rep K F v (.str i)):v = .str i:=by cases h;rfl
noncomputable def yy(neg:Bool):W->W->(W->Prop)->Prop:=fun x y Q=>∃a b:Str,x = .d (.str a)/\y = .d (.str b)/\Q (.d (.bool (if neg then !decide (a=b)else decide (a=b))))
theorem kW:CG X rl BU (yy true):=fun{F H x y wx wy} Qd Q s ra r1 r2 q k=>by
 obtain⟨a,b,rfl,rfl,q⟩:=q;have e1:=lD r1;have e2:=lD r2;subst e1 e2
 have e:decide (V.str a=V.str b)=decide (a=b):=by
  by_cases h:a=b
  · subst h;simp
  · rw[decide_eq_false h,decide_eq_false fun z=>h (by injection z)]
 exact⟨rfl,by rw[e];exact k _ (.d _) _ _ (Grow.refl s ra) (.bl _) trivial q⟩
section
variable{P:Ef}{w:EM}{K:W.Frag}{mg:Str->Option DJ}{base:Heap}{rl:RlT}{x:Str}{st:Stmt}{N ps:List Str}{k:Nat}{Pd:List W->(List DH->Prop)->Prop}{t:CK}
end
section
variable{X:Cx}{rl:RlT}{e:Expr}{es:List Expr}{fs:CJ}{pos p:Pos}
noncomputable def xu(Pd:List W->(List DH->Prop)->Prop)(fs:CJ):TV:=fun ρ Q=>fs ρ fun ws=>ws.all dH=true/\Pd ws fun xs=>Q (.ml xs)
theorem sf(X:Cx)(rest:List Stmt):C3 X rest (fun D σ H=>∀pins s,Inv X pins σ H s->Eb (Ek X.prog X.w) X.A (execs rest X.env) (SP X pins D) X.xe s):=fun pins s σ H D I h=>h pins s I
end
section
variable{X:Cx}{rl:RlT}{a b c e:Expr}{es:List Expr}{fa fb fc:TV}{fs:CJ}{pos p:Pos}
noncomputable def eE:DH->Option (List DH)
 | .list xs=>some xs
 | .tuple xs=>some xs
 | _=>none
theorem seq_l(xs:List DH):eE (.list xs)=some xs:=rfl
theorem seq_t(xs:List DH):eE (.tuple xs)=some xs:=rfl
theorem eE.of{o:Option DH}(h:o=some d)(e:eE d=some xs):o=some (.list xs)\/o=some (.tuple xs):=by
 cases d<;>cases e
 · exact .inl h
 · exact .inr h
noncomputable def pC:List W->(W->Prop)->Prop:=fun ws Q=>∃w d xs,ws=[w]/\w.dat=some d/\eE d=some xs/\Q (.d (.tuple xs))
theorem uf:fJ X rl (fun xs H Q=>∃p ys,xs=[.ref p]/\((CS X.K H p ys/\∀l,H l=none->Q (.ref l) (Bt H l (.tup ys)))\/(CQ X.K H p ys/\Q (.ref p) H))) pC:=fun{F H vs ws} Qd Q s ra r ⟨w,d,xs,ew,ed1,ed2,q⟩ k=>by
 have ed:=eE.of ed1 ed2;subst ew;obtain⟨v,rfl,r1⟩:=qk r;rcases ed with ed|ed
 · obtain⟨a,us,rfl,sq,rs⟩:=r1.items s ed;refine⟨a,us,rfl,.inl ⟨sq,fun l hl=>?_⟩⟩;have g:=Grow.data (a:=l) (o:=.tup us) s ra hl;exact k _ (.d (.tuple xs)) _ _ g (.tup (.inl (.inl al)) (rs.mono g.fs)) trivial q
 · cases w with
   | d y =>
     cases ed
     cases(show Rep X.K F v (.tuple xs)from r1)with
     | tup sq rs=>exact⟨_,_,rfl,.inr ⟨dz s sq,k _ (.d (.tuple xs)) _ _ (Grow.refl s ra) (.tup sq rs) trivial q⟩⟩
   | ml ys=>cases ed
   | pk ys=>cases ed
   | reel=>cases ed
   | vv u=>cases ed
   | md u=>cases ed
   | mk u=>cases ed
   | lk=>cases ed
   | sc _=>cases ed
   | fd _=>cases ed
   | fw _=>cases ed
   | ft _=>cases ed
   | xc _ _=>cases ed
   | dp _ _=>cases ed
   | nt ds =>
     cases ed;obtain⟨b,us,rfl,h,q'⟩:=r1;exact⟨_,_,rfl,.inr ⟨.inl (.inl (s _ _ h)),k _ (.d (.tuple xs)) _ _ (Grow.refl s ra) (.tup (.inl (.inl h)) q') trivial q⟩⟩
theorem iM(hm:X.mg "tuple" = none)(ha:CZ X rl [a] fs)(hg:autoParam (Gl X "tuple") æa._auto_1)(he:autoParam (DY [a] X.env=(false,eval a X.env)::DY [] X.env) æa._auto_1)(hpl:autoParam ((Ge pos (DY [] X.env)).any (·.1)=false) æa._auto_1) :
 PV X rl (.Call (.Name "tuple" p) [a] [] pos) (eC pC fs):=jm gQ uf hm (by rfl) ha hg (by decide) (by decide) he hpl
noncomputable def pH:List W->(W->Prop)->Prop:=fun ws Q=>∃w d xs,ws=[w]/\w.dat=some d/\eE d=some xs/\Q (.ml xs)
theorem uh:fJ X rl (fun xs H Q=>∃p ys,xs=[.ref p]/\(CS X.K H p ys\/CQ X.K H p ys)/\∀l,H l=none->Q (.ref l) (Bt H l (.lst ys))) pH:=fun{F H vs ws} Qd Q s ra r ⟨w,d,xs,ew,ed1,ed2,q⟩ k=>by
 have ed:=eE.of ed1 ed2;subst ew;obtain⟨v,rfl,r1⟩:=qk r;rcases ed with ed|ed
 · obtain⟨a,us,rfl,sq,rs⟩:=r1.items s ed;exact⟨a,us,rfl,.inl sq,fun l hl=>k _ (.ml xs) _ _ (Grow.laid s ra hl) (ck s ra hl rs) (fun a ea=>by cases ea;exact hl) q⟩
 · obtain⟨a,us,rfl,sq,rs⟩:=r1.itemsT s ed;exact⟨a,us,rfl,.inr sq,fun l hl=>k _ (.ml xs) _ _ (Grow.laid s ra hl) (ck s ra hl rs) (fun a ea=>by cases ea;exact hl) q⟩
theorem og(hm:X.mg "list" = none)(ha:CZ X rl [a] fs)(hg:autoParam (Gl X "list") æa._auto_1)(he:autoParam (DY [a] X.env=(false,eval a X.env)::DY [] X.env) æa._auto_1)(hpl:autoParam ((Ge pos (DY [] X.env)).any (·.1)=false) æa._auto_1) :
 PV X rl (.Call (.Name "list" p) [a] [] pos) (eC pH fs):=jm iz uh hm (by rfl) ha hg (by decide) (by decide) he hpl
noncomputable def xL(i j l:Nat)(ta:TA):TS:=fun D σ H=>ta σ H fun vs H1=>∃v w u,vs=[v,w,u]/\D.nx (((σ.set i (some v)).set j (some w)).set l (some u)) H1
theorem sg{l:Nat}{y z:Str}{ta:TA}{py pz pt:Pos}{kt k2 pt2}(hc:X.calm=true)(hN:X.N.Nodup)(hi:X.N[i]?=some x)(hj:X.N[j]?=some y)(hl:X.N[l]?=some z)(hij:i≠j)(hil:i≠l)(hjl:j≠l)
 (hx:X.env.scope.names.lookup x=some .local)(hy:X.env.scope.names.lookup y=some .local)(hz:X.env.scope.names.lookup z=some .local)(ha:PA X [a,b,c] ta)
 (hw:G7 [.Tuple [.Name x px,.Name y py,.Name z pz] kt pt] (.Tuple [a,b,c] k2 pt2) X.env=pure (some [x,y,z]))
 (hs:autoParam (G6 [.Tuple [.Name x px,.Name y py,.Name z pz] kt pt] (.Tuple [a,b,c] k2 pt2) pos.line X.env=pure false) æa._auto_1) :
 PS X (.Assign [.Tuple [.Name x px,.Name y py,.Name z pz] kt pt] (.Tuple [a,b,c] k2 pt2) pos) (xL i j l ta):=by
 intro pins s σ H D I h;rw[exec_Assign_arm];refine DI (Gh ?_);rw[hs];refine DI (DK ?_);rw[if_neg (by decide)];refine DI (Tuple_ (BD (ha _ pins s σ H _ I h) fun us s1 ⟨vs,H1,I1,r1,q1⟩=>?_));obtain⟨v,w,u,e1,q1⟩:=q1;subst e1
 obtain⟨u1,u2,u3,rfl,rv,rw',ru⟩:∃u1 u2 u3,us=[u1,u2,u3]/\RelV v u1/\RelV w u2/\RelV u u3:=by
  cases r1 with
  | cons p q =>
    cases q with
    | cons p' q' =>
      cases q' with
      | cons p'' q'' =>
        cases q'';exact⟨_,_,_,rfl,p,p',p''⟩
 refine EG ?_ (by show 3<=sizeLine;decide);have I2:Inv X pins σ H1 {s1 with heap:=s1.heap.push {cls:=.type "tuple", data:=.seq [u1,u2,u3].toArray}}:=I1.kept (t':=s1.toks) fun b o e=>DN _ e;rw[hw];refine DI (DK ?_);show Eb (Ek X.prog X.w) X.A (do rule "assign.swapped-stores"; let items <- unpackItems (.ref s1.heap.objs.size) 3 none;Ig [fun v=>Ih X.env z v,fun v=>Ih X.env y v,fun v=>Ih X.env x v] items.reverse;pure Li) _ _ _;refine DI (Hm (DI (unpackItems_tuple (items:=#[u1,u2,u3]) (I.ok.hd hc) (IsTup.new s1.heap _) fun h' hx'=>?_)));have I3:=I2.kept (h':=h') (t':=s1.toks) fun b o e=>hx' b o (EB (DV e)) e;show Eb _ _ (Ig [fun v=>Ih X.env z v,fun v=>Ih X.env y v,fun v=>Ih X.env x v] [u3,u2,u1] >>= fun _=>pure Li) _ _ _;refine DI (Gs (HI (bS I3 hN hl (.inl hz) ru (fun s2 I4=>?_) (.inr hz))));refine Gs (HI (bS I4 hN hj (.inl hy) rw' (fun s3 I5=>?_) (.inr hy)));refine Gs (HI (bS I5 hN hi (.inl hx) rv (fun s4 I6=>Jc (DK ?_)) (.inr hx)));rw[Jp _ _ (Im hij),Jp _ _ (Im hil),Jp _ _ (Im hjl)]at I6;exact⟨_,H1,I6,q1⟩
noncomputable def uv(i j l:Nat)(fs:CJ):CK:=fun D ρ=>fs ρ fun ws=>∃x y z,gO ws=some [x,y,z]/\D.nx (((ρ.set i (some (.d x))).set j (some (.d y))).set l (some (.d z)))
theorem qT(i j l:Nat){y z:Str}{py pz pt:Pos}{kt k2 pt2}(hc:X.calm=true)(hN:X.N.Nodup)(ha:CZ X rl [a,b,c] fs)
 (hw:autoParam (G7 [.Tuple [.Name x px,.Name y py,.Name z pz] kt pt] (.Tuple [a,b,c] k2 pt2) X.env=pure (some [x,y,z])) æa._auto_1)(hi:autoParam (X.N[i]?=some x) æa._auto_1)(hj:autoParam (X.N[j]?=some y) æa._auto_1)(hl:autoParam (X.N[l]?=some z) æa._auto_1)(hij:autoParam (i≠j) æb._auto_1)(hil:autoParam (i≠l) æb._auto_1)(hjl:autoParam (j≠l) æb._auto_1)
 (hx:autoParam (X.env.scope.names.lookup x=some .local) æa._auto_1)(hy:autoParam (X.env.scope.names.lookup y=some .local) æa._auto_1)(hz:autoParam (X.env.scope.names.lookup z=some .local) æa._auto_1)
 (hs:autoParam (G6 [.Tuple [.Name x px,.Name y py,.Name z pz] kt pt] (.Tuple [a,b,c] k2 pt2) pos.line X.env=pure false) æa._auto_1) :
 C5 X rl (.Assign [.Tuple [.Name x px,.Name y py,.Name z pz] kt pt] (.Tuple [a,b,c] k2 pt2) pos) (uv i j l fs):=by
 obtain⟨t,p,k⟩:=ha;refine⟨_,sg hc hN hi hj hl hij hil hjl hx hy hz p hw hs,fun R Dv D ok q=>k R _ _ q fun vs ws F1 H1 g1 r1 ⟨x,y,z,e1,q1⟩=>?_⟩;have rs:=cq r1 e1
 cases rs with
 | cons rx rs =>
   cases rs with
   | cons ry rs =>
     cases rs with
     | cons rz rs =>
       cases rs;have R1:=(R.grow g1).set (w:=.d x) (Grow.refl g1.sub g1.reel) rx trivial (fun _ z=>by cases z) i;have R2:=R1.set (w:=.d y) (Grow.refl g1.sub g1.reel) ry trivial (fun _ z=>by cases z) j;exact⟨_,_,_,rfl,ok.nx _ _ _ _ g1.fs (R2.set (w:=.d z) (Grow.refl g1.sub g1.reel) rz trivial (fun _ z=>by cases z) l) q1⟩
end
section
variable{X:Cx}{rl:RlT}
noncomputable def z_:W->W->(W->Prop)->Prop:=fun x y Q=>∃b c,x = .d (.bool b)/\y = .d (.bool c)/\Q (.d (.bool (b==c)))
end
section
variable{X:Cx}{rl:RlT}{a b c e:Expr}{es:List Expr}{fa fb fc:TV}{fs:CJ}{pos p p2:Pos}
noncomputable def Ct(f:Int->Int->DH):List W->(W->Prop)->Prop:=fun ws Q=>∃i j,ws=[.d (.int i),.d (.int j)]/\Q (.d (f i j))
noncomputable def mY:List W->(W->Prop)->Prop:=fun ws Q=>∃i j,ws=[.d (.int i),.d (.int j)]/\0<j/\j<1073741824/\Q (.d (.tuple [.int (i / j),.int (i%j)]))
noncomputable def ww:List W->(W->Prop)->Prop:=fun ws Q=>(∃i,ws=[.d (.int i)]/\Q (.d (.int i)))\/∃k:Bool,ws=[.d (.bool k)]/\Q (.d (.int (if k then 1 else 0)))
noncomputable def Cm(C:Int->Int->Prop)(f:Int->Int->Int):CN:=fun x y H Q=>∃i j,x = .int i/\y = .int j/\C i j/\Q (.int (f i j)) H
theorem tf:C8 X .Mult (Cm aA fun i j=>i*j):=by
 intro pins s σ H x y v u Q I r1 r2 h;obtain⟨i,j,e1,e2,hc,q⟩:=h;subst e1;subst e2;obtain⟨t,rfl⟩:=r1;obtain⟨t',rfl⟩:=r2;exact imul_int ⟨.int _,H,I.tok _,⟨_,rfl⟩,q⟩ hc.ok
noncomputable def xD(i:Nat)(C:Int->Int->Prop)(f:Int->Int->Int)(fa:TV):CK:=fun D ρ=>∃n,ρ[i]?=some (some (.d (.int n)))/\fa ρ fun w=>∃m,w = .d (.int m)/\C n m/\D.nx (ρ.set i (some (.d (.int (f n m)))))
theorem ub(i:Nat){op:Ld}{C:Int->Int->Prop}{f:Int->Int->Int}(hN:X.N.Nodup)(ho:C8 X op (Cm C f))(he:PV X rl e fa)(hi:autoParam (X.N[i]?=some x) æa._auto_1)(hx:autoParam (Loc X.env.scope x) æe._auto_1)
 (hf:autoParam (X.fn x=true\/X.env.scope.names.lookup x=some .local) æf._auto_1):C5 X rl (.AugAssign (.Name x pos') op e pos) (xD i C f fa):=by
 obtain⟨t,p,k⟩:=he;refine⟨_,vH hN hi hx p ho hf,fun R Dv D ok ⟨n,e1,q⟩=>?_⟩;obtain⟨v,s1,r1,_⟩:=R.sl i _ e1;have ev:=aZ r1;subst ev;refine⟨_,s1,k R _ _ q fun v w F1 H1 g1 r1 n1 ⟨m,ew,hc,q1⟩=>?_⟩;subst ew;have ev:=aZ r1;subst ev;exact⟨n,m,rfl,rfl,hc,ok.nx _ _ _ _ g1.fs (R.set g1 (v:=.int (f n m)) (w:=.d (.int (f n m))) (.int _) trivial (fun _ z=>by cases z) i) q1⟩
noncomputable def cutD(xs:List DH)(lo hi:Option Int):List DH:=(xs.drop (HT.sIx xs.length 0 lo)).take (HT.sIx xs.length xs.length hi-HT.sIx xs.length 0 lo)
theorem Reps.cut{K:W.Frag}{ds:List DH}(r:Reps K F vs ds)(lo hi:Option Int):Reps K F (pO vs lo hi) (cutD ds lo hi):=by
 unfold pO cutD;rw[r.length];exact(r.drop _).take _
abbrev CM:=En->(Option Int->Prop)->Prop
noncomputable def C0(X:Cx)(rl:RlT)(o:Option Expr)(f:CM):Prop:=∃t,PO X o t/\∀{F₀ H₀ F H:Hp}{σ:St}{ρ:En},VR X.K rl F₀ H₀ F H σ ρ->∀(Qd:Option Int->Prop)(Q:Option Int->Hp->Prop),f ρ Qd ->
 (∀o F' H',Grow rl F H F' H'->Qd o->Q o H')->t σ H Q
noncomputable def B7:CM:=fun _ Q=>Q none
noncomputable def B8(fa:TV):CM:=fun ρ Q=>fa ρ fun w=>∃i,w = .d (.int i)/\Q (some i)
theorem eu:C0 X rl none B7:=⟨_,su,fun R Qd Q q k=>k _ _ _ (Grow.refl R.sub R.reel) q⟩
theorem et(h:PV X rl e fa):C0 X rl (some e) (B8 fa):=by
 obtain⟨t,p,k⟩:=h;refine⟨_,sr p,fun R Qd Q q h=>k R _ _ q fun v w F1 H1 g1 r1 n1 ⟨i,ew,q1⟩=>?_⟩;subst ew;exact⟨i,aZ r1,h _ F1 H1 g1 q1⟩
noncomputable def zA(fa:TV)(fl fh:CM):TV:=fun ρ Q=>fa ρ fun w=>fl ρ fun l=>fh ρ fun h=>∃xs,w.dat=some (.list xs)/\Q (.ml (cutD xs l h))
noncomputable def pI:W->W->(W->Prop)->Prop:=fun x y Q=>∃xs ys,x.dat=some (.list xs)/\y.dat=some (.list ys)/\xs.length+ys.length<=sizeLine/\Q (.ml (xs++ys))
theorem cL.lst{K:W.Frag}{F H:Hp}{v:V}{w:W}{xs:List DH}(s:bf F H)(r:cL K rl F H v w)(e:w.dat=some (.list xs)):∃a vs,v = .ref a/\H a=some (.lst vs)/\Reps K F vs xs:=by
 have own:gh K rl F H v xs->∃a vs,v = .ref a/\H a=some (.lst vs)/\Reps K F vs xs:=fun⟨a,vs,e1,_,_,e2,e3⟩=>⟨a,vs,e1,e2,e3⟩
 cases w with
 | d y =>
   cases e
   cases(show Rep K F v (.list xs)from r)with
   | lst h q=>exact⟨_,_,rfl,s _ _ h,q⟩
 | ml ys=>cases e;exact own r
 | pk ys=>cases e;exact own r
 | reel=>cases e
 | vv u=>cases e
 | md u=>cases e
 | mk u=>cases e
 | nt u=>cases e
 | lk=>cases e
 | sc _=>cases e
 | fd _=>cases e
 | fw _=>cases e
 | ft _=>cases e
 | xc _ _=>cases e
 | dp _ _=>cases e
theorem qX:CG X rl zR pI:=fun{F H x y wx wy} Qd Q s ra r1 r2 q k=>by
 obtain⟨xs,ys,e1,e2,z,q⟩:=q;obtain⟨a,vs,rfl,h1,q1⟩:=r1.lst s e1;obtain⟨b,us,rfl,h2,q2⟩:=r2.lst s e2;refine⟨a,b,vs,us,rfl,rfl,h1,h2,by rw[q1.length,q2.length];exact z,fun p hp=>?_⟩;exact k _ (.ml _) _ _ (Grow.laid s ra hp) (ck s ra hp (q1.append q2)) (fun a ea=>by cases ea;exact hp) q
theorem ul(ha:PV X rl a fa)(hb:PV X rl b fb):PV X rl (.BinOp a .Add b pos) (Bq pI fa fb):=fG vU qX ha hb
noncomputable def uB(p p':Int->Int->Bool)(fa fb fc:TV):TV:=fun ρ Q=>fa ρ fun x=>fb ρ fun y=>∃i j,x = .d (.int i)/\y = .d (.int j) /\
 if p i j=true then fc ρ fun z=>∃k,z = .d (.int k)/\Q (.d (.bool (p' j k)))else Q (.d (.bool false))
structure GlD (K:W.Frag) (mg:Str->Option DJ) (x:Str) (d:DH):Prop where
 ex:∃v u,mg x=some u/\RelV v u/\∀F,Rep K F v d
theorem k5(G:GlD X.K X.mg x d)(hg:autoParam (Gl X x) æa._auto_1)(hd:autoParam ((x==("__debug__" : Str))=false) æb._auto_1):PV X rl (.Name x pos) (vC d):=by
 obtain⟨v,u,h1,h2,h3⟩:=G.ex;exact r8 h1 h2 h3 hg hd
structure GlK (K:W.Frag) (x:Str) (d:DH):Prop where
 ex:∃v u,W.nsIn K EJ x=some (some u)/\RelV v u/\∀F,Rep K F v d
theorem GlK.of{K:W.Frag}(k:GlK K x d)(Y:K.In h)(G:h.Ns EJ mg):GlD K mg x d:=by
 obtain⟨v,u,h1,h2,h3⟩:=k.ex;exact⟨v,u,W.mg_of Y G h1,h2,h3⟩
end
end L2.VL
namespace L2
section
variable{X:Cx}{a b:Expr}{ta:TA}{p q pos pos2:Pos}
end
end L2
namespace L2.VL
section
variable{X:Cx}{rl:RlT}{a b c e:Expr}{es:List Expr}{fa fb fc:TV}{fs:CJ}{pos pos2 p q:Pos}
noncomputable def Ao(fs:CJ):TV:=fun ρ Q=>fs ρ fun ws=>∃i j:Int,ws=[.d (.int i),.d (.int j)]/\(-(2^62)<=i/\i<2^62 /\ -(2^62)<=j/\j<2^62)/\(j-i).toNat<=2^24/\Q (.ml (aF i (j-i).toNat))
noncomputable def Ap(fs:CJ):TV:=fun ρ Q=>fs ρ fun ws=>∃j:Int,ws=[.d (.int j)]/\(-(2^62)<=j/\j<2^62)/\j.toNat<=2^24/\Q (.ml (aF 0 j.toNat))
noncomputable def k_(i j:Nat)(fa:TV):CK:=fun D ρ=>∃xs ys,ρ[i]?=some (some (.ml xs))/\ρ[j]?=some (some (.ml ys))/\fa ρ fun w=>∃k y,w = .d (.int k)/\0<=k/\k<(ys.length:Int)/\ys.length<2^62/\ys[k.toNat]?=some y/\xs.length<sizeLine /\
 D.nx ((ρ.set j (some (.ml (ys.eraseIdx k.toNat)))).set i (some (.ml (xs++[y]))))
end
theorem fZ{β:Type}{xs:List α}{f:β->α->β}{a:β}(h:i<xs.length):(xs.take (i+1)).foldl f a=f ((xs.take i).foldl f a) xs[i]:=by
 rw[Ej h,List.foldl_append];rfl
structure Sm (dp bk:Nat) (d:DH):Prop where
 nice:wR d
 dep:d.depth<=dp
 blk:d.bulk<=bk
theorem fX:∀{xs:List DH},(∀d∈xs,wR d)->fy xs
 | [],_=>trivial
 | x::xs,h=>⟨h x DS,fX fun d hd=>h d (DL _ hd)⟩
theorem eZ{k:Nat}:∀{xs:List DH},(∀d∈xs,d.depth<=k)->FH xs<=k+1
 | [],_=>by simp[FH]
 | x::xs,h=>by
   have h1:=h x DS;have h2:=eZ (k:=k) (xs:=xs) fun d hd=>h d (DL _ hd);simp only[FH];omega
theorem gc{k:Nat}:∀{xs:List DH},(∀d∈xs,d.bulk<=k)->I0 xs<=(k+1)*xs.length
 | [],_=>by simp[I0]
 | x::xs,h=>by
   have h1:=h x DS;have h2:=gc (k:=k) (xs:=xs) fun d hd=>h d (DL _ hd);simp only[I0,DX,Nat.mul_succ];omega
theorem Sm.seq{dp bk:Nat}(h:∀d∈xs,Sm dp bk d)(hl:xs.length<=n):Sm (dp+2) ((bk+1)*n) (.tuple xs)/\Sm (dp+2) ((bk+1)*n) (.list xs):=by
 have a:=fX fun d hd=>(h d hd).nice;have b:=eZ fun d hd=>(h d hd).dep;have c:I0 xs<=(bk+1)*n:=EC (gc fun d hd=>(h d hd).blk) (Iv _ hl);refine⟨⟨a,?_,c⟩,⟨a,?_,c⟩⟩<;>simp only[HQ]<;>omega
theorem Sm.shw{dp bk:Nat}(h:Sm dp bk d)(h1:dp<=60)(h2:bk<=8000):CW d:=⟨h.nice,by have:=h.dep;omega,by have:=h.blk;omega⟩
theorem Sm.mono{dp bk dp' bk':Nat}(h:Sm dp bk d)(h1:dp<=dp')(h2:bk<=bk'):Sm dp' bk' d:=⟨h.nice,EC h.dep h1,EC h.blk h2⟩
end L2.VL
namespace L2
section
variable{X:Cx}{tg e:Expr}{ta te:TE}{p p2 pos:Pos}
end
end L2
namespace L2.VL
section
variable{X:Cx}{rl:RlT}{a b c e tg:Expr}{es:List Expr}{fa fb fc:TV}{fs:CJ}{pos pos2 p p2 q:Pos}
noncomputable def ur(fa:TV):TV:=fun ρ Q=>fa ρ fun w=>∃xs,w.dat=some (.list xs)/\Q (.ml xs.reverse)
end
end L2.VL
namespace L2
section
variable{X:Cx}
end
end L2
namespace L2.VL
section
variable{X:Cx}{rl:RlT}{a b c e:Expr}{es:List Expr}{fa fb fc:TV}{fs:CJ}{pos p p2:Pos}
noncomputable def Aa(f:List Bool->Bool):List W->(W->Prop)->Prop:=fun ws Q=>∃(w:W)(bs:List Bool),ws=[w]/\w.dat=some (.list (bs.map .bool))/\Q (.d (.bool (f bs)))
end
end L2.VL
namespace L2.TM
section
variable{prog:Ef}{w:EM}{A:ES}{E:DJ->DM->Prop}{s:DM}{k:Int}{t:Tok}{l:Addr}{its:Array DJ}
end
end L2.TM
namespace L2
section
variable{X:Cx}
end
end L2
namespace L2.VL
section
variable{X:Cx}{rl:RlT}{a b c e:Expr}{es:List Expr}{fa fb fc:TV}{fs:CJ}{pos p p2:Pos}
noncomputable def wt:W->W->(W->Prop)->Prop:=fun x y Q=>∃xs k,x = .d (.tuple xs)/\y = .d (.int k)/\xs≠[]/\1<=k/\k<2^62/\xs.length*k.toNat<=sizeLine/\Q (.d (.tuple (DT k.toNat xs).flatten))
noncomputable def yC:W->W->(W->Prop)->Prop:=fun x y Q=>∃xs ys,x = .d (.tuple xs)/\y = .d (.tuple ys)/\xs≠[]/\xs.length+ys.length<=sizeLine/\Q (.d (.tuple (xs++ys)))
theorem qW:CG X rl (rW X.K) yC:=fun{F H x y wx wy} Qd Q s ra r1 r2 q k=>by
 obtain⟨xs,ys,rfl,rfl,hne,hz,q⟩:=q
 cases(show Rep X.K F x (.tuple xs)from r1)with
 | @tup a vs _ sq rs =>
   cases(show Rep X.K F y (.tuple ys)from r2)with
   | @tup b us _ sq2 rs2 =>
     refine⟨a,b,vs,us,rfl,rfl,dz s sq,dz s sq2,fun z=>hne ?_,by rw[rs.length,rs2.length];exact hz,fun e=>?_,fun e p hp=>?_⟩
     · subst z;cases rs;rfl
     · subst e;cases rs2;rw[FY]at q;exact k _ (.d (.tuple xs)) _ _ (Grow.refl s ra) (.tup sq rs) trivial q
     · have g:=Grow.data (a:=p) (o:=.tup (vs++us)) s ra hp;exact k _ (.d _) _ _ g (.tup (.inl (.inl al)) ((rs.append rs2).mono g.fs)) trivial q
end
end L2.VL
namespace L2
section
variable{X:Cx}
theorem Room.u65{k:Nat}(r:Room k A):A.units+65<KW:=by have:=r.un;omega
noncomputable def vw(K:W.Frag):R2:=fun x y H Q=>∃a b ys,x = .ref a/\y = .ref b/\CQ K H a []/\CQ K H b ys/\Q (.ref b) H
theorem sM:De X (GO .Add) (vw X.K):=by
 intro pins s σ H x y v u Q I rx ry h;obtain⟨a,b,ys,rfl,rfl,ha,hb,q⟩:=h;cases rx;cases ry;obtain⟨its,r1,p1,_⟩:=I.tuple ha;obtain⟨its2,r2,p2,_⟩:=I.tuple hb;cases r1;obtain⟨⟨c1,d1,e1,sl1⟩,ho,hc,n,hd⟩:=p1;obtain⟨⟨c2,d2,e2,sl2⟩,ho2,hc2,n2,hd2⟩:=p2;cases hc;cases hd;cases hc2;cases hd2
 exact K5 ⟨_,ho,rfl⟩ ⟨_,ho2,rfl⟩ JG KN HB Hw (Ho _ _)
  (tuple_addW0 a b _ its2.toArray n n2 d1 d2 sl1 sl2 rfl) ⟨ho,ho2,⟨.ref b,H,I,rfl,q⟩⟩
noncomputable def vt(K:W.Frag):R2:=fun x y H Q=>rW K x y H Q\/vw K x y H Q
theorem sL:De X (GO .Add) (vt X.K):=fun pins s σ H x y v u Q I rx ry h=>h.elim (sK pins s σ H x y v u Q I rx ry) (sM pins s σ H x y v u Q I rx ry)
section
variable{prog:Ef}{w:EM}{A:ES}{E:DJ->DM->Prop}{s:DM}
end
theorem ki{vs:List DJ}(h:HW vs ns):bP (ns.map V.int) vs:=by
 induction h with
 | nil=>exact .nil
 | cons n t r ih=>exact .cons ⟨t,rfl⟩ ih
end
end L2
namespace L2.VL
section
variable{X:Cx}{rl:RlT}{a b c e:Expr}{es:List Expr}{fa fb fc:TV}{fs:CJ}{pos p p2:Pos}
noncomputable def pJ:W->W->(W->Prop)->Prop:=fun x y Q=>∃xs ys,x = .d (.tuple xs)/\y = .d (.tuple ys)/\xs.length+ys.length<=sizeLine/\Q (.d (.tuple (xs++ys)))
theorem qY:CG X rl (vt X.K) pJ:=fun{F H x y wx wy} Qd Q s ra r1 r2 q k=>by
 obtain⟨xs,ys,rfl,rfl,hz,q⟩:=q;by_cases hx:xs=[]
 · subst hx
   cases(show Rep X.K F x (.tuple [])from r1)with
   | @tup a vs _ sq rs =>
     cases rs
     cases(show Rep X.K F y (.tuple ys)from r2)with
     | @tup b us _ sq2 rs2=>exact .inr ⟨a,b,us,rfl,rfl,dz s sq,dz s sq2,k _ (.d (.tuple ys)) _ _ (Grow.refl s ra) (.tup sq2 rs2) trivial q⟩
 · exact .inl (qW Qd Q s ra r1 r2 ⟨xs,ys,rfl,rfl,hx,hz,q⟩ k)
theorem jk(ha:PV X rl a fa)(hb:PV X rl b fb):PV X rl (.BinOp a .Add b pos) (Bq pJ fa fb):=fG sL qY ha hb
theorem cZ{K:W.Frag}{F:Hp}:∀{vs:List V}{ns:List Int},Reps K F vs (ns.map .int)->vs=ns.map V.int
 | _,[],h=>h.nil_iff
 | _,n::ns,.cons h r=>by rw[aZ h,cZ r];rfl
theorem jT{K:W.Frag}{F:Hp}:∀{ns:List Int},Reps K F (ns.map V.int) (ns.map .int)
 | []=>.nil
 | n::ns=>.cons (.int n) jT
noncomputable def wq:List W->(W->Prop)->Prop:=fun ws Q=>∃(ns:List Int),ws=[.d (.tuple (ns.map .int))]/\ns.length<64/\∀ns':List Int,ns'.Perm ns->ns'.Pairwise (· <= ·)->Q (.ml (ns'.map .int))
end
end L2.VL
namespace L2.TO
section
variable{prog:Ef}{w:EM}{A:ES}{E:DJ->DM->Prop}{s:DM}
end
end L2.TO
namespace L2
section
variable{X:Cx}{a b e:Expr}{ta:TA}{te:TE}{p p2 q pos pos2:Pos}
end
end L2
namespace L2.VL
section
variable{X:Cx}{rl:RlT}{a b c e:Expr}{es:List Expr}{fa fb fc:TV}{fs:CJ}{pos pos2 p q p2:Pos}
noncomputable def Am(fs:CJ):TV:=fun ρ Q=>fs ρ fun ws=>∃j:Int,ws=[.d (.int j)]/\(-(2^62)<=j/\j<2^62)/\j.toNat<=2^24/\Q (.d (.tuple (aF 0 j.toNat)))
noncomputable def uq(fa:TV):TV:=fun ρ Q=>fa ρ fun w=>∃xs,w = .d (.tuple xs)/\Q (.d (.tuple xs.reverse))
end
end L2.VL
namespace L2.TW
section
variable{prog:Ef}{w:EM}{A:ES}{E:DJ->DM->Prop}{s:DM}
theorem get_whole{t sl:Addr}{items:Array DJ}{vl vu:DJ}{lo hi:Option Int}(ht:IsTup s.heap t items)(hs:s.heap.IsSliceOf sl vl vu .none)(pl:KO vl lo)(pu:KO vu hi)
 (hw:HT.sIx items.size 0 lo=0/\HT.sIx items.size items.size hi=items.size)(h:Q (.ref t) s):Eb (Ek prog w) A (Js (.ref t) (.ref sl)) Q E s:=by
 have ty:s.TypeIs (.ref sl) "slice" := let ⟨o,h1,h2,_⟩:=hs;⟨o,h1,h2⟩
 have key:Eb (Ek prog w) A (call (.builtin "tuple.__getitem__") [.ref t,.ref sl]) Q E s:=by
  refine Fh EH ht.typeIs entry_tuple_getitem ?_ (args_tuple_getitem _ _);show Eb _ _ (IL (.ref t) >>= _) _ _ s;refine DI (tupleItemsOf_ ht (DI (JZ ty ?_)));rw[if_pos (by decide)];refine DI (HT.sliceApplied_gen hs pl pu ?_);rw[hw.1,hw.2,IQ];show Eb _ _ (if(((0:Nat):Int)==0&&(1:Int)==1&&items.size==items.size)=true then _ else _) _ _ s;rw[if_pos (by simp)];unfold Builtin.Tuple.tupleIsExact;refine DI (DI (JZ ht.typeIs (DK ?_)));rw[if_pos (by decide)];exact DI (Hm (DI (DK (DK ⟨_,rfl,h⟩))))
 unfold Js;try with_reducible refine Gg ?_
 first|exact DI (DK (DI (Jd ht.typeIs (by decide) (DI (EQ (name:=Gj "__getitem__") ht.typeIs EH (BD key fun v s' q=>DK q))))))|exact DI (Jd ht.typeIs (by decide) (DI (EQ (name:=Gj "__getitem__") ht.typeIs EH (BD key fun v s' q=>DK q))))
end
end L2.TW
namespace L2
section
variable{X:Cx}
noncomputable def AF(K:W.Frag):V->Option Int->Option Int->Hp->VK->Prop:=fun x lo hi H Q=>zL K x lo hi H Q\/∃a xs,x = .ref a/\CQ K H a xs/\(HT.sIx xs.length 0 lo=0/\HT.sIx xs.length xs.length hi=xs.length)/\Q (.ref a) H
theorem rJ:CV X (AF X.K):=by
 intro pins s σ H x v vl vu lo hi sl Q I rx hs pl pu h;rcases h with h|⟨a,xs,rfl,hx,hw,q⟩
 · exact uV pins s σ H x v vl vu lo hi sl Q I rx hs pl pu h
 · cases rx;obtain⟨its,r,ht,hz⟩:=I.tuple hx;have hlen:its.toArray.size=xs.length:=by rw[DZ];exact r.length.symm
   exact⟨"tuple", _,EH.lookup,ht.typeIs,TW.get_whole ht hs pl pu (by rw[hlen];exact hw) ⟨.ref a,H,I,rfl,q⟩⟩
end
end L2
namespace L2.VL
section
variable{X:Cx}{rl:RlT}{a b c e:Expr}{es:List Expr}{fa fb fc:TV}{fs:CJ}{pos p p2:Pos}
theorem nA{l u:Option Int}(h:HT.sIx xs.length 0 l=0/\HT.sIx xs.length xs.length u=xs.length):cutD xs l u=xs:=by
 unfold cutD;rw[h.1,h.2];simp
noncomputable def xx(fa:TV)(fl fh:CM):TV:=fun ρ Q=>fa ρ fun w=>fl ρ fun l=>fh ρ fun h=>∃xs,w = .d (.tuple xs)/\Q (.d (.tuple (cutD xs l h)))
theorem oa{lo hi:Option Expr}{fl fh:CM}(ha:PV X rl a fa)(hl:C0 X rl lo fl)(hh:C0 X rl hi fh):PV X rl (.Subscript a (.Slice lo hi none p2) pos) (xx fa fl fh):=by
 obtain⟨t,p,k⟩:=ha;obtain⟨tl,pl,kl⟩:=hl;obtain⟨th,ph,kh⟩:=hh;refine⟨_,jC rJ p pl ph,fun R Qd Q q h=>k R _ _ q fun v w F1 H1 g1 r1 n1 q1=>?_⟩;refine kl (R.grow g1) _ _ q1 fun l F2 H2 g2 q2=>kh ((R.grow g1).grow g2) _ _ q2 fun u F3 H3 g3 q3=>?_;obtain⟨xs,rfl,q3⟩:=q3;have r3:=(r1.grow g2).grow g3;have g:=(g1.trans g2).trans g3
 cases(show Rep X.K F3 v (.tuple xs)from r3)with
 | @tup a vs _ sq rs =>
   by_cases hw:HT.sIx xs.length 0 l=0/\HT.sIx xs.length xs.length u=xs.length
   · rw[nA hw]at q3;exact .inr ⟨a,vs,rfl,dz g3.sub sq,by rw[rs.length];exact hw,h _ (.d _) _ _ g (.tup sq rs) trivial q3⟩
   · refine .inl ⟨a,vs,rfl,dz g3.sub sq,by rw[rs.length];exact hw,fun p hp=>?_⟩;have g':=Grow.data (a:=p) (o:=.tup (pO vs l u)) g3.sub g3.reel hp;exact h _ (.d _) _ _ (g.trans g') (.tup (.inl (.inl al)) ((rs.cut l u).mono g'.fs)) trivial q3
end
end L2.VL
namespace L2
abbrev Ar(D:List (Str×Int)):List (DH×DH):=(D.map fun q=>(q.1,D5 q.2)).map fun q=>(DH.str q.1,q.2)
section
variable{X:Cx}{e:Expr}{ty:TE}{px apos cpos:Pos}
end
end L2
namespace L2.VL
section
variable{X:Cx}{rl:RlT}{a b c e:Expr}{es:List Expr}{fa fb fc:TV}{fs:CJ}{pos p p2 px apos cpos:Pos}
noncomputable def uM(D:List (Str×Int))(k:Str):DH:=(PySem.Spec.lookup (.str k) (Ar D)).getD .none
noncomputable def uo(D:List (Str×Int))(fk:TV):TV:=fun ρ Q=>fk ρ fun w=>∃k,w = .d (.str k)/\Q (.d (uM D k))
end
end L2.VL
set_option exponentiation.threshold 10000
namespace L2.VL
noncomputable def tU(a b:Int):DH:=.tuple [.int (a.fdiv (Et a b)),.int (b.fdiv (Et a b))]
theorem gL{a b:Int}(hb:0<b)(z:b.natAbs<2^8000)(i:Int):cU i (Et a b:Int):=by
 have h1:=tF (a:=a) (b:=b) (by omega);have h2:=wo (a:=a) (b:=b) (by omega);exact⟨by omega,FG (by omega) (DR z (D4 (by decide) (by decide)))⟩
noncomputable def wU(bs:List Int):Prop:=bs.length=4/\(∀b∈bs,2<=b/\b<=16)/\bs.Pairwise fun x y=>Et x y=1
instance (bs:List Int):Decidable (wU bs):=by unfold wU;infer_instance
theorem eG{d:Nat}{k:Int}(h:0<=k):HT.sIx n d (some k)=min k.toNat n:=by
 obtain⟨m,rfl⟩:=EF h;exact HT.sIx_nat n d m
theorem jY{k:Int}(h:0<=k):cutD xs (some k) none=xs.drop k.toNat:=by
 unfold cutD;rw[eG h,HT.sIx_none];by_cases hk:k.toNat<=xs.length
 · rw[G4 hk];exact D6 (by simp)
 · rw[Hh (by omega),GR,HC (by omega)];simp
theorem qG{k:Int}(h:0<=k):cutD xs none (some k)=xs.take k.toNat:=by
 unfold cutD;rw[eG h,HT.sIx_none,Ko,IQ];by_cases hk:k.toNat<=xs.length
 · rw[G4 hk]
 · rw[Hh (by omega),D6 (DQ _),D6 (by omega)]
noncomputable def pr(a b:Int):DH:=.tuple [.int a,.int b]
theorem kB{b:Int}(h:1<=b)(hij:i<=j):b^i<=b^j:=by
 induction hij with
 | refl=>exact Jw _
 | step _ ih =>
   rw[Fa];have:0<=b^i:=J5 (Iw (by omega))
   exact Int.le_trans ih (by
    rename_i m _;have hm:0<b^m:=Iw (by omega);have:=Int.mul_le_mul_of_nonneg_left h (J5 hm)
    omega)
theorem GlK.pair{K:W.Frag}{a b:Int}{p:Addr}{sl:Array (Option DJ)}{t u:Tok}(h1:W.nsIn K EJ x=some (some (.ref p)))
 (h2:K.lookup p=some ⟨.type "tuple", none,.seq #[.int a t,.int b u] n,sl⟩):GlK K x (pr a b):=by
 refine⟨.ref p,.ref p,h1,rfl,fun F=>.tup (vs:=[.int a,.int b]) (.inr ⟨_,_,n,h2,rfl,rfl,(by show 2<=sizeLine;decide),.cons ⟨t,rfl⟩ (.cons ⟨u,rfl⟩ .nil),rfl⟩) (.cons (.int a) (.cons (.int b) .nil))⟩
end L2.VL
set_option exponentiation.threshold 10000
namespace L2.VL
noncomputable def stepT(b:Int)(p:List Int)(t:Int)(a:Nat):Int:=t*b+p.getD a 0
noncomputable def Bv:DH->Int
 | .int i=>i
 | _=>0
section
variable{P:Ef}{w:EM}{K:W.Frag}{mg:Str->Option DJ}{base:Heap}{rl:RlT}{x:Str}{st:Stmt}{N ps:List Str}{k:Nat}{Pd:List W->(List DH->Prop)->Prop}{t:CK}
end
section
variable{X:Cx}{rl:RlT}{a b c e:Expr}{es:List Expr}{fa fb fc:TV}{fs:CJ}{pos p p2 px apos cpos:Pos}
end
end L2.VL
namespace L2.IX
section
variable{prog:Ef}{w:EM}{A:ES}{E:DJ->DM->Prop}{s:DM}
end
end L2.IX
namespace L2
section
variable{X:Cx}
end
end L2
namespace L2.VL
section
variable{X:Cx}{rl:RlT}{a b c e:Expr}{es:List Expr}{fa fb fc:TV}{fs:CJ}{pos p p2 px apos cpos:Pos}
noncomputable def iu:DH->Bool
 | .none=>true
 | _=>false
noncomputable def z9(neg:Bool):W->W->(W->Prop)->Prop:=fun x y Q=>∃d,x.dat=some d/\y = .d .none/\Q (.d (.bool (if neg then !iu d else iu d)))
noncomputable def pF:W->W->(W->Prop)->Prop:=fun x y Q=>∃xs k,x.dat=some (.list xs)/\y = .d (.int k) /\ -(2^63)<=k/\k<2^63/\xs.length*k.toNat<=sizeLine/\Q (.ml (DT k.toNat xs).flatten)
theorem vb{K:W.Frag}{F:Hp}{vs:List V}{ds:List DH}(r:Reps K F vs ds):∀n:Nat,Reps K F (DT n vs).flatten (DT n ds).flatten
 | 0=>.nil
 | n+1=>by rw[EK,EK,Gn,Gn];exact r.append (vb r n)
theorem qV:CG X rl zM pF:=fun{F H x y wx wy} Qd Q s ra r1 r2 q k=>by
 obtain⟨xs,n,e1,rfl,h1,h2,hz,q⟩:=q;have ey:=aZ r2;subst ey;obtain⟨a,vs,rfl,hh,rs⟩:=r1.lst s e1;refine⟨a,n,vs,rfl,rfl,hh,h1,h2,by rw[rs.length];exact hz,fun p hp=>?_⟩;exact k _ (.ml _) _ _ (Grow.laid s ra hp) (ck s ra hp (vb rs n.toNat)) (fun a ea=>by cases ea;exact hp) q
theorem p5(ha:PV X rl a fa)(hb:PV X rl b fb):PV X rl (.BinOp a .Mult b pos) (Bq pF fa fb):=fG vS qV ha hb
noncomputable def ut(i:Nat):CK:=fun D ρ=>∃xs,ρ[i]?=some (some (.ml xs))/\D.rt (.ml xs)
noncomputable def uC(i:Nat)(fa:TV):CK:=fun D ρ=>∃xs,ρ[i]?=some (some (.ml xs))/\fa ρ fun w=>∃ys,w.isPk=false/\w.dat=some (.list ys)/\xs.length+ys.length<=sizeLine/\D.nx (ρ.set i (some (.ml (xs++ys))))
end
end L2.VL
namespace L2.ZP
section
variable{prog:Ef}{w:EM}{A:ES}{E:DJ->DM->Prop}{s:DM}{it a:Addr}{k:Nat}{xs:Array DJ}{v:DJ}
theorem rA(st:s.heap.IsTupleIter it a k)(tu:s.heap.IsTuple a xs)(e:xs[k]?=some v)
 (q:∀g,g.IsTupleIter it a (k+1)->FJ it s.heap g->Q v {s with heap:=g}):Eb (Ek prog w) A (Ex (.ref it)) Q E s:=by
 have ty:=st.typeIs;obtain⟨o,oe,oc,od⟩:=st;obtain⟨l,le,_,_,ld⟩:=tu;unfold Ex;have sl:=F.slot_tuple_iterator_next;refine DI (EQ (name:=Gj "__next__") ty sl (Fh sl ty F.entry_tuple_iterator_next ?_ (F.args_tuple_iterator_next_1 _)));show Eb _ _ (do let z <- field (.ref it) 0;_) _ _ s;refine DI (FC oe od (x:=.ref a) rfl ?_);show Eb _ _ (ite ((GB a==GT)=true) _ _) _ _ s;rw[if_neg (show ¬(GB a == .none)=true by intro z;cases z)];show Eb _ _ (do let z <- field (.ref it) 1;_) _ _ s;refine DI (FC oe od (x:=.int k 0) rfl ?_);show Eb _ _ (do let z <- seqItems? (.ref a);_) _ _ s;refine DI (Gz le ld ?_);simp only[Eh,e];refine DI (HJ oe od (by simp) (DK ⟨v,rfl,DK (q _ ?_ (FS ..))⟩));refine⟨_,Gu _ oe (HR (Gv od _)),?_,?_⟩
 · exact(Ji ..).trans oc
 · rw[Gv od];simp[Kn]
theorem uJ(hd:A.handled=none)(st:s.heap.IsTupleIter it a k)(tu:s.heap.IsTuple a xs)(e:xs[k]?=none)
 (q:∀g x,Lp it s.heap g->(∃o,g.get? x=some o/\o.cls = .type "StopIteration")->E (.ref x) {s with heap:=g}):Eb (Ek prog w) A (Ex (.ref it)) Q E s:=by
 have ty:=st.typeIs;obtain⟨o,oe,oc,od⟩:=st;obtain⟨l,le,_,_,ld⟩:=tu;unfold Ex;have sl:=F.slot_tuple_iterator_next;refine DI (EQ (name:=Gj "__next__") ty sl (Fh sl ty F.entry_tuple_iterator_next ?_ (F.args_tuple_iterator_next_1 _)));show Eb _ _ (do let z <- field (.ref it) 0;_) _ _ s;refine DI (FC oe od (x:=.ref a) rfl ?_);show Eb _ _ (ite ((GB a==GT)=true) _ _) _ _ s;rw[if_neg (show ¬(GB a == .none)=true by intro z;cases z)];show Eb _ _ (do let z <- field (.ref it) 1;_) _ _ s;refine DI (FC oe od (x:=.int k 0) rfl ?_);show Eb _ _ (do let z <- seqItems? (.ref a);_) _ _ s;refine DI (Gz le ld ?_);simp only[Eh,e];refine DI (Hm (DI (HJ oe od (by simp) ?_)));show Eb _ _ (do let z <- newExc (.type "StopIteration") [];_) _ _ _;refine DI ?_;simp only[newExc,newTuple];refine DI (EG ?_ (by size_fits));refine DI (m:=I_ _ _) (Kx (a:=.none) (by first|rfl|(simp only[I_];rfl)) (EG ?_ (by size_fits)));simp only[raiseNew];refine DI (wpAny_handled ?_)
 first
  | rw[show A.in1.handled=none from hd]
  | rw[hd]
 refine DI (DK (wpAny_throw ?_));exact q _ _ (((FS ..).extBut.push _).push _) ⟨_,D3 _ rfl,rfl⟩
end
noncomputable def Dt(h:Heap)(it a:Addr)(xs:Array DJ)(k:Nat):Prop:=(h.IsListIter it a k/\h.IsList a xs)\/(h.IsTupleIter it a k/\h.IsTuple a xs)
section
variable{prog:Ef}{w:EM}{A:ES}{E:DJ->DM->Prop}{s:DM}{it a:Addr}{k:Nat}{xs:Array DJ}{v:DJ}
theorem Dt.item(st:Dt s.heap it a xs k)(ne:a≠it)(e:xs[k]?=some v)
 (q:∀g,Dt g it a xs (k+1)->FJ it s.heap g->Q v {s with heap:=g}):Eb (Ek prog w) A (Ex (.ref it)) Q E s:=by
 rcases st with⟨h1,h2⟩|⟨h1,h2⟩
 · exact wpAny_nextOf_list_item h1 h2 e fun g h3 h4=>q g (.inl ⟨h3,h2.extBut h4.extBut ne⟩) h4
 · exact rA h1 h2 e fun g h3 h4=>q g (.inr ⟨h3,h2.extBut h4.extBut ne⟩) h4
theorem Dt.fin(hd:A.handled=none)(st:Dt s.heap it a xs k)(e:xs[k]?=none)
 (q:∀g x,Lp it s.heap g->(∃o,g.get? x=some o/\o.cls = .type "StopIteration")->E (.ref x) {s with heap:=g}):Eb (Ek prog w) A (Ex (.ref it)) Q E s:=by
 rcases st with⟨h1,h2⟩|⟨h1,h2⟩
 · exact wpAny_nextOf_list_end hd h1 h2 e q
 · exact uJ hd h1 h2 e q
theorem Dt.keep(st:Dt h it a xs k)(e1:∀o,h.get? it=some o->h'.get? it=some o)(e2:∀o,h.get? a=some o->h'.get? a=some o):Dt h' it a xs k:=by
 rcases st with⟨⟨o,h1,r1⟩,⟨p,h2,r2⟩⟩|⟨⟨o,h1,r1⟩,⟨p,h2,r2⟩⟩
 · exact .inl ⟨⟨o,e1 _ h1,r1⟩,⟨p,e2 _ h2,r2⟩⟩
 · exact .inr ⟨⟨o,e1 _ h1,r1⟩,⟨p,e2 _ h2,r2⟩⟩
end
section
variable{prog:Ef}{w:EM}{A:ES}{E:DJ->DM->Prop}{s:DM}{z ti to i1 i2 a1 a2:Addr}{k1 k2:Nat}{xs ys:Array DJ}{x y p q:DJ}
theorem SameBut.keep(sb:FJ a h h')(ne:b≠a):∀o,h.get? b=some o->h'.get? b=some o:=fun o e=>sb.extBut _ _ ne e
theorem qO(D:ZipApart z ti to i1 i2 a1 a2)(oz:K1 s.heap z ti to .none)(oi:Ix s.heap ti (.ref i1) (.ref i2))(oo:Ix s.heap to p q)
 (s1:Dt s.heap i1 a1 xs k1)(s2:Dt s.heap i2 a2 ys k2)(ex:xs[k1]?=some x)(ey:ys[k2]?=some y)
 (done:∀g,K1 g z ti to (Kn s.heap.objs.size)->Ix g to x y->Dt g i1 a1 xs (k1+1)->Dt g i2 a2 ys (k2+1)->Ix g s.heap.objs.size x y->g.objs.size=s.heap.objs.size+1 ->
  (∀b o,b≠z->b≠to->b≠i1->b≠i2->s.heap.get? b=some o->g.get? b=some o)->Q (.ref s.heap.objs.size) {s with heap:=g}) :
 Eb (Ek prog w) A (Builtin.«zip.__next__» ⟨[.ref z],[]⟩) (fun r s'=>∃u,r = .done (.ret u)/\Q u s') E s:=by
 show Eb _ _ (do let c <- field (.ref z) 2;_) _ _ _;refine DI (FC oz rfl (x:=.bool false) rfl ?_);show Eb _ _ (do let c <- field (.ref z) 3;_) _ _ _;refine DI (FC oz rfl (x:=.ref ti) rfl ?_);refine DI (Gz oi rfl ?_);show Eb _ _ (do let c <- Fu (.ref z);_) _ _ _;refine DI ?_;unfold Fu;refine DI (FC oz rfl (x:=GT) rfl (DK ?_));simp only[if_true];refine DI (Hm (DI (FC oz rfl (x:=.ref to) rfl (DI (Gw oz (by simp) fun g1 z1 b1=>?_)))));have z1:K1 g1 z ti to .ellipsis:=z1;refine DI ?_;simp only[Is,List.forIn_nil,List.zipIdx_cons,List.zipIdx_nil];have s1a:Dt g1 i1 a1 xs k1:=s1.keep (SameBut.keep b1 D.i1z) (SameBut.keep b1 D.l1z);refine DI (DI (Jx ?_));show Eb _ _ (do let c <- Ex (.ref i1);_) _ _ _;refine DI (s1a.item D.l1i1 ex fun g2 s1b b2=>DK ?_);have o2:Ix g2 to p q:=b2.extBut _ _ D.TOi1 (b1.extBut _ _ D.TOz oo);refine DI (Gz o2 rfl (DI (Ia o2 fun g3 o3 b3=>?_)));have o3:Ix g3 to x q:=o3;refine DI (Lq (DK ?_));have s2a:Dt g3 i2 a2 ys k2:=((s2.keep (SameBut.keep b1 D.i2z) (SameBut.keep b1 D.l2z)).keep (SameBut.keep b2 D.i12.symm) (SameBut.keep b2 D.l2i1)).keep (SameBut.keep b3 D.TOi2.symm) (SameBut.keep b3 D.l2TO);refine DI (DI (Jx ?_));show Eb _ _ (do let c <- Ex (.ref i2);_) _ _ _;refine DI (s2a.item D.l2i2 ey fun g4 s2b b4=>DK ?_);have o4:Ix g4 to x q:=b4.extBut _ _ D.TOi2 o3;refine DI (Gz o4 rfl (DI (Ia o4 fun g5 o5 b5=>?_)));have o5:Ix g5 to x y:=o5;refine DI (Lq (DK (DK ?_)));refine DI (Gz o5 rfl (DI (wpAny_newTuple ?_)));have size:g5.objs.size=s.heap.objs.size:=by rw[b5.1,b4.1,b3.1,b2.1,b1.1]
 have z5:K1 g5 z ti to .ellipsis:=b5.extBut _ _ D.TOz.symm (b4.extBut _ _ D.i2z.symm (b3.extBut _ _ D.TOz.symm (b2.extBut _ _ D.i1z.symm z1)));have kp:∀b o,b≠z->b≠to->b≠i1->b≠i2->s.heap.get? b=some o->g5.get? b=some o:=fun b o n1 n2 n3 n4 e=>b5.extBut _ _ n2 (b4.extBut _ _ n4 (b3.extBut _ _ n2 (b2.extBut _ _ n3 (b1.extBut _ _ n1 e))));have s1c:Dt g5 i1 a1 xs (k1+1):=((s1b.keep (SameBut.keep b3 D.TOi1.symm) (SameBut.keep b3 D.l1TO)).keep (SameBut.keep b4 D.i12) (SameBut.keep b4 D.l1i2)).keep (SameBut.keep b5 D.TOi1.symm) (SameBut.keep b5 D.l1TO);have s2c:Dt g5 i2 a2 ys (k2+1):=s2b.keep (SameBut.keep b5 D.TOi2.symm) (SameBut.keep b5 D.l2TO);have zl:z<g5.objs.size:=DV z5;show Eb _ _ (do Hf (.ref z) (.ref g5.objs.size);_) _ _ _;refine DI ?_;unfold Hf;have z6:K1 (g5.push {cls:=.type "tuple", data:=.seq #[x,y]}) z ti to .ellipsis:=DN _ z5;refine DI (Gw z6 (by simp) fun g7 z7 b7=>?_);have z7:K1 g7 z ti to (Kn g5.objs.size):=z7;refine Gw z7 (by simp) fun g8 z8 b8=>?_;have z8:K1 g8 z ti to (Kn g5.objs.size):=z8;have up:∀b o,b≠z->g5.get? b=some o->g8.get? b=some o:=fun b o n e=>b8.extBut _ _ n (b7.extBut _ _ n (DN _ e));have t8:Ix g8 g5.objs.size x y:=b8.extBut _ _ (HN zl) (b7.extBut _ _ (HN zl) (D3 _ rfl));have l8:g8.objs.size=g5.objs.size+1:=by rw[b8.1,b7.1,Fi]
 rw[size]at z8 t8 l8;refine DK ⟨_,rfl,?_⟩;show Q (.ref g5.objs.size) _;rw[size];exact done g8 z8 (up _ _ D.TOz o5) (s1c.keep (fun o e=>up _ o D.i1z e) fun o e=>up _ o D.l1z e) (s2c.keep (fun o e=>up _ o D.i2z e) fun o e=>up _ o D.l2z e) t8 l8 fun b o n1 n2 n3 n4 e=>up b o n1 (kp b o n1 n2 n3 n4 e)
theorem t6{Q:Fin->DM->Prop}(hd:A.handled=none)(D:ZipApart z ti to i1 i2 a1 a2)(oz:K1 s.heap z ti to .none)(oi:Ix s.heap ti (.ref i1) (.ref i2))(oo:Ix s.heap to p q)
 (s1:Dt s.heap i1 a1 xs k1)(s2:Dt s.heap i2 a2 ys k2)(e:xs[k1]?=none\/ys[k2]?=none)
 (q':∀g x,(∀b o,b≠z->b≠to->b≠i1->b≠i2->s.heap.get? b=some o->g.get? b=some o)->(∃o,g.get? x=some o/\o.cls = .type "StopIteration")->E (.ref x) {s with heap:=g}) :
 Eb (Ek prog w) A (Builtin.«zip.__next__» ⟨[.ref z],[]⟩) Q E s:=by
 show Eb _ _ (do let c <- field (.ref z) 2;_) _ _ _;refine DI (FC oz rfl (x:=.bool false) rfl ?_);show Eb _ _ (do let c <- field (.ref z) 3;_) _ _ _;refine DI (FC oz rfl (x:=.ref ti) rfl ?_);refine DI (Gz oi rfl ?_);show Eb _ _ (do let c <- Fu (.ref z);_) _ _ _;refine DI ?_;unfold Fu;refine DI (FC oz rfl (x:=GT) rfl (DK ?_));simp only[if_true];refine DI (Hm (DI (FC oz rfl (x:=.ref to) rfl (DI (Gw oz (by simp) fun g1 z1 b1=>?_)))));have z1:K1 g1 z ti to .ellipsis:=z1;refine DI ?_;simp only[Is,List.forIn_nil,List.zipIdx_cons,List.zipIdx_nil];have s1a:Dt g1 i1 a1 xs k1:=s1.keep (SameBut.keep b1 D.i1z) (SameBut.keep b1 D.l1z);refine DI (DI (Jx ?_));show Eb _ _ (do let c <- Ex (.ref i1);_) _ _ _
 have last:∀(g g':Heap)(u:Addr)(o:Obj),g.get? u=some o->o.cls = .type "StopIteration" -> K1 g z ti to .ellipsis->FJ z g g'->∃o,g'.get? u=some o/\o.cls = .type "StopIteration" := fun g g' u o h1 h2 h3 sb=>by
  have ne:u≠z:=fun c=>by rw[c,h3]at h1;cases h1;simp at h2
  exact⟨o,sb.extBut _ _ ne h1,h2⟩
 cases ex:xs[k1]? with
 | none =>
   refine DI (s1a.fin hd ex fun g2 u b2 ⟨o,ou,oc⟩=>?_);have z2:K1 g2 z ti to .ellipsis:=b2 _ _ D.i1z.symm z1
   exact Gw z2 (by simp) fun g3 _ b3=>q' g3 u (fun b o n1 _ n3 _ e=>b3.extBut _ _ n1 (b2 _ _ n3 (b1.extBut _ _ n1 e))) (last g2 g3 u o ou oc z2 b3)
 | some x =>
   have ey:ys[k2]?=none:=e.elim (fun h=>by rw[ex]at h;cases h) id;refine DI (s1a.item D.l1i1 ex fun g2 s1b b2=>DK ?_);have o2:Ix g2 to p q:=b2.extBut _ _ D.TOi1 (b1.extBut _ _ D.TOz oo);refine DI (Gz o2 rfl (DI (Ia o2 fun g3 o3 b3=>?_)));refine DI (Lq (DK ?_));have s2a:Dt g3 i2 a2 ys k2:=((s2.keep (SameBut.keep b1 D.i2z) (SameBut.keep b1 D.l2z)).keep (SameBut.keep b2 D.i12.symm) (SameBut.keep b2 D.l2i1)).keep (SameBut.keep b3 D.TOi2.symm) (SameBut.keep b3 D.l2TO);refine DI (DI (Jx ?_));show Eb _ _ (do let c <- Ex (.ref i2);_) _ _ _;refine DI (s2a.fin hd ey fun g4 u b4 ⟨o,ou,oc⟩=>?_);have z4:K1 g4 z ti to .ellipsis:=b4 _ _ D.i2z.symm (b3.extBut _ _ D.TOz.symm (b2.extBut _ _ D.i1z.symm z1));exact Gw z4 (by simp) fun g5 _ b5=>q' g5 u (fun b o n1 n2 n3 n4 e=>b5.extBut _ _ n1 (b4 _ _ n4 (b3.extBut _ _ n2 (b2.extBut _ _ n3 (b1.extBut _ _ n1 e))))) (last g4 g5 u o ou oc z4 b5)
end
noncomputable def CU(b:Bool)(h:Heap)(a:Addr)(xs:Array DJ):Prop:=bif b then h.IsTuple a xs else h.IsList a xs
noncomputable def Cj(b:Bool):String:=bif b then "tuple_iterator" else "list_iterator"
theorem CU.push{b:Bool}{h:Heap}{a:Addr}{xs:Array DJ}(q:CU b h a xs)(o:Obj):CU b (h.push o) a xs:=by
 cases b with
 | true=>exact Heap.IsTuple.push q o
 | false=>exact Heap.IsList.push q o
section
variable{prog:Ef}{w:EM}{A:ES}{E:DJ->DM->Prop}{s:DM}{b b1 b2:Bool}{a a1 a2:Addr}{xs ys:Array DJ}
theorem wf(st:CU b s.heap a xs)(q:Q (.ref s.heap.objs.size) {s with heap:=s.heap.push {cls:=.type (Cj b),data:=.fields #[.ref a,.int 0 0]}}):Eb (Ek prog w) A (KM (.ref a)) Q E s:=by
 cases b with
 | true=>exact wpAny_pyIter_tuple st q
 | false=>exact HD st q
abbrev y1(h:Heap)(b1:Bool)(a1:Addr):Heap:=h.push {cls:=.type (Cj b1),data:=.fields #[.ref a1,.int 0 0]}
abbrev y2(h:Heap)(b1 b2:Bool)(a1 a2:Addr):Heap:=(y1 h b1 a1).push {cls:=.type (Cj b2),data:=.fields #[.ref a2,.int 0 0]}
abbrev y3(h:Heap)(b1 b2:Bool)(a1 a2:Addr):Heap:=(y2 h b1 b2 a1 a2).push {cls:=.type "tuple", data:=.seq #[.ref h.objs.size,.ref (y1 h b1 a1).objs.size]}
abbrev y4(h:Heap)(b1 b2:Bool)(a1 a2:Addr):Heap:=(y3 h b1 b2 a1 a2).push {cls:=.type "tuple", data:=.seq #[.none,.none]}
abbrev y5(h:Heap)(b1 b2:Bool)(a1 a2:Addr):Heap:=(y4 h b1 b2 a1 a2).push {cls:=.type "zip", data:=.fields #[.none,.bool false,.bool false,.ref (y2 h b1 b2 a1 a2).objs.size,.ref (y3 h b1 b2 a1 a2).objs.size]}
theorem qP(b1 b2:Bool)(a1 a2:Addr)(xs ys:Array DJ) :
 Meets (Builtin.«zip.__new__» ⟨[.type "zip", .ref a1,.ref a2],[]⟩) (fun _ R s=>CU b1 s.heap a1 xs/\CU b2 s.heap a2 ys/\R (.ok (.ret (.ref (y4 s.heap b1 b2 a1 a2).objs.size))) {s with heap:=y5 s.heap b1 b2 a1 a2}) :=
 .of_wp fun prog w A R s h=>by
  obtain⟨hp,g,d,tk,os⟩:=s;obtain⟨q1,q2,h⟩:=h;have hsub:=sub_zip;have k1:CU b1 (DM.heap ⟨hp,g,d,tk,os⟩) a1 xs:=q1;have k2:CU b2 (DM.heap ⟨hp.push {cls:=.type (Cj b1),data:=.fields #[.ref a1,.int 0 0]},g,d,tk,os⟩) a2 ys:=q2.push _
  wp_walk using wf k1,wf k2
  exact⟨_,rfl,h⟩
theorem pR(q1:CU b1 s.heap a1 xs)(q2:CU b2 s.heap a2 ys)
 (k:∀g,K1 g (s.heap.objs.size+4) (s.heap.objs.size+2) (s.heap.objs.size+3) .none->Ix g (s.heap.objs.size+2) (.ref s.heap.objs.size) (.ref (s.heap.objs.size+1))->Ix g (s.heap.objs.size+3) .none .none ->
  Dt g s.heap.objs.size a1 xs 0->Dt g (s.heap.objs.size+1) a2 ys 0->g.objs.size=s.heap.objs.size+5->(∀c o,s.heap.get? c=some o->g.get? c=some o)->Q (.ref (s.heap.objs.size+4)) {s with heap:=g}) :
 Eb (Ek prog w) A (call (.type "zip") [.ref a1,.ref a2]) Q E s:=by
 refine callType_new F.called_zip (by decide) (F.typeCall_zip_2 _ _) (F.newCall_zip_2 _ _) (fun u=>F.args_object_init_3 u _ _) F.entry_zip_new (qP b1 b2 a1 a2 xs ys) ⟨q1,q2,?_⟩;have n1:(y1 s.heap b1 a1).objs.size=s.heap.objs.size+1:=Fi ..;have n2:(y2 s.heap b1 b2 a1 a2).objs.size=s.heap.objs.size+2:=by rw[Fi,n1]
 have n3:(y3 s.heap b1 b2 a1 a2).objs.size=s.heap.objs.size+3:=by rw[Fi,n2]
 have n4:(y4 s.heap b1 b2 a1 a2).objs.size=s.heap.objs.size+4:=by rw[Fi,n3]
 have n5:(y5 s.heap b1 b2 a1 a2).objs.size=s.heap.objs.size+5:=by rw[Fi,n4]
 have pu:∀{h:Heap}{o u:Obj}{c:Addr},h.get? c=some u->(h.push o).get? c=some u:=fun e=>DN _ e;have kp:∀c o,s.heap.get? c=some o->(y5 s.heap b1 b2 a1 a2).get? c=some o:=fun c o e=>pu (pu (pu (pu (pu e))));have f5:(y5 s.heap b1 b2 a1 a2).get? (y4 s.heap b1 b2 a1 a2).objs.size=some _:=D3 _ rfl;have f4:(y5 s.heap b1 b2 a1 a2).get? (y3 s.heap b1 b2 a1 a2).objs.size=some _:=pu (D3 _ rfl);have f3:(y5 s.heap b1 b2 a1 a2).get? (y2 s.heap b1 b2 a1 a2).objs.size=some _:=pu (pu (D3 _ rfl));have f2:(y5 s.heap b1 b2 a1 a2).get? (y1 s.heap b1 a1).objs.size=some _:=pu (pu (pu (D3 _ rfl)));have f1:(y5 s.heap b1 b2 a1 a2).get? s.heap.objs.size=some _:=pu (pu (pu (pu (D3 _ rfl))));show _/\_;rw[n2,n3,n4]at f5;rw[n1,n2]at f3;rw[n3]at f4;rw[n1]at f2;rw[n4]
 have mk:∀{b:Bool}{i a:Addr}{zs:Array DJ},(y5 s.heap b1 b2 a1 a2).get? i=some {cls:=.type (Cj b),data:=.fields #[.ref a,.int 0 0]}->CU b s.heap a zs->Dt (y5 s.heap b1 b2 a1 a2) i a zs 0:=fun{b i a zs} e q=>by
  cases b with
  | true=>obtain⟨o,h1,h2⟩:=(show s.heap.IsTuple a zs from q);exact .inr ⟨⟨_,e,rfl,rfl⟩,⟨o,kp _ _ h1,h2⟩⟩
  | false=>obtain⟨o,h1,h2⟩:=(show s.heap.IsList a zs from q);exact .inl ⟨⟨_,e,rfl,rfl⟩,⟨o,kp _ _ h1,h2⟩⟩
 exact⟨⟨_,f5,rfl⟩,k _ f5 f3 f4 (mk f1 q1) (mk f2 q2) n5 kp⟩
end
end L2.ZP
namespace L2
open PySem PySem.Spec PyProof.Rows L2.ZP
theorem Inv.turnedL{ch:List Addr}(I:Inv X pins σ H s)(k:∀b o,b∉ch->s.heap.get? b=some o->h'.get? b=some o)(hn:∀b∈ch,ke X pins H b) :
 Inv X pins σ H {s with heap:=h',toks:=t' }:=by
 have nit:∀b u,H b=some u->b∉ch:=fun b u e z=>by rw[(hn b z).1]at e;cases e
 refine I.step (g':=s.gens) (d':=s.drawn) (ch:=ch) (fun b hb=>?_) (fun b o _ _ hc e _=>k b o hc e) (fun b o _ _ hc e _=>⟨o.slots,k b o hc e⟩) (fun _ _ _ _ n=>n) (fun b o hc e=>⟨o,k b o hc e⟩) (fun _ _ e=>e) (fun _ _ _ e=>e) (fun b ps e=>⟨#[],by rw[e];simp⟩) (fun m hm=>?_) (fun b u e=>?_) I.bare
 · obtain⟨_,h2,_,h4,h5,h6⟩:=hn b hb;exact⟨h4,h2,h5,h6⟩
 · obtain⟨o,es,ep,ho,r⟩:=hm;exact⟨o,es,ep,k _ o (fun z=>(hn _ z).2.1 rfl) ho,r⟩
 · refine(I.hok b u e).stay (fun c v hc q=>k c v ?_ q) (fun _ q=>q) fun _ _ q=>q;rcases hc with z|z
   · rw[z];exact nit b u e
   · exact nit c _ z
noncomputable def CT(b:Bool)(K:W.Frag)(H:Hp)(a:Addr)(xs:List V):Prop:=bif b then CQ K H a xs else CS K H a xs
theorem Inv.sqB{b:Bool}{xs:List V}(I:Inv X pins σ H s)(h:CT b X.K H a xs):∃its,bP xs its/\CU b s.heap a its.toArray:=by
 cases b with
 | true =>
   obtain⟨its,r,t,z⟩:=I.tuple h
   exact⟨its,r,t⟩
 | false =>
   obtain⟨its,r,p,z⟩:=I.list h;exact⟨its,r,p.isList⟩
theorem Inv.sqB_inj{b:Bool}{xs ys:List V}(I:Inv X pins σ H s)(h:CT b X.K H a xs)(h':CT b X.K H a ys):xs=ys:=by
 cases b with
 | true=>exact I.tuple_inj h h'
 | false=>exact I.list_inj h h'
noncomputable def Do(K:W.Frag)(b1 b2:Bool)(a1 a2:Addr):It :=
 ⟨fun i H=>∃xs ys x y,CT b1 K H a1 xs/\CT b2 K H a2 ys/\xs[i]?=some x/\ys[i]?=some y,
  fun i H v H'=>∃x y p,(∀xs,CT b1 K H a1 xs->xs[i]?=some x)/\(∀ys,CT b2 K H a2 ys->ys[i]?=some y)/\H p=none/\v = .ref p/\H'=Bt H p (.tup [x,y]),
  fun i H=>∃xs ys,CT b1 K H a1 xs/\CT b2 K H a2 ys/\(xs.length<=i\/ys.length<=i)⟩
noncomputable def Du(b:Bool)(h:Heap)(it a:Addr)(k:Nat):Prop:=bif b then h.IsTupleIter it a k else h.IsListIter it a k
theorem Du.it1{b:Bool}{k:Nat}{xs:Array DJ}(q:Du b h it a k)(r:CU b h a xs):Dt h it a xs k:=by
 cases b with
 | true=>exact .inr ⟨q,r⟩
 | false=>exact .inl ⟨q,r⟩
theorem Du.keep{b:Bool}{k:Nat}(q:Du b h it a k)(e:∀o,h.get? it=some o->h'.get? it=some o):Du b h' it a k:=by
 cases b with
 | true=>obtain⟨o,h1,r⟩:=(show h.IsTupleIter it a k from q);exact⟨o,e _ h1,r⟩
 | false=>obtain⟨o,h1,r⟩:=(show h.IsListIter it a k from q);exact⟨o,e _ h1,r⟩
theorem Du.obj{b:Bool}{k:Nat}(q:Du b h it a k):∃o,h.get? it=some o/\∀v,o.data ≠ .cell v:=by
 cases b with
 | true=>obtain⟨o,h1,_,d⟩:=(show h.IsTupleIter it a k from q);exact⟨o,h1,fun v z=>by rw[d]at z;cases z⟩
 | false=>obtain⟨o,h1,_,d⟩:=(show h.IsListIter it a k from q);exact⟨o,h1,fun v z=>by rw[d]at z;cases z⟩
theorem Dt.ir{b:Bool}{k:Nat}{xs:Array DJ}{h0:Heap}(q:Dt h it a xs k)(r:Du b h0 it a j)(s:CU b h a xs):Du b h it a k:=by
 cases b with
 | true =>
   rcases q with⟨_,⟨o,e,c,_⟩⟩|⟨q,_⟩
   · obtain⟨o',e',c',_⟩:=(show h.IsTuple a xs from s);rw[e]at e';cases e';rw[c]at c';injection c' with z;exact absurd z (by decide)
   · exact q
 | false =>
   rcases q with⟨q,_⟩|⟨_,⟨o,e,c,_⟩⟩
   · exact q
   · obtain⟨o',e',c',_⟩:=(show h.IsList a xs from s);rw[e]at e';cases e';rw[c]at c';injection c' with z;exact absurd z (by decide)
noncomputable def ZS(b1 b2:Bool)(z ti to i1 i2 a1 a2:Addr)(i:Nat)(h:Heap):Prop:=K1 h z ti to .none/\Ix h ti (.ref i1) (.ref i2)/\(∃p q,Ix h to p q)/\Du b1 h i1 a1 i/\Du b2 h i2 a2 i
theorem CU.of{b:Bool}{xs:Array DJ}(q:CU b h a xs)(e:∀o,h.get? a=some o->h'.get? a=some o):CU b h' a xs:=by
 cases b with
 | true=>obtain⟨o,h1,r⟩:=(show h.IsTuple a xs from q);exact⟨o,e _ h1,r⟩
 | false=>obtain⟨o,h1,r⟩:=(show h.IsList a xs from q);exact⟨o,e _ h1,r⟩
theorem ox{K:W.Frag}{elts:List Expr}{kt:Nat}{pt:Pos}(b1 b2:Bool)(z ti to i1 i2 a1 a2:Addr)(D:ZipApart z ti to i1 i2 a1 a2) :
 Turn P w K (.Tuple elts kt pt) (Do K b1 b2 a1 a2) [z,ti,to,i1,i2] z (ZS b1 b2 z ti to i1 i2 a1 a2) where
 mem:=by simp
 obj:=fun i h ⟨h1,h2,⟨p,q,h3⟩,h4,h5⟩ b hb=>by
  simp at hb;rcases hb with rfl|rfl|rfl|rfl|rfl
  · exact⟨_,h1,fun v c=>by cases c⟩
  · exact⟨_,h2,fun v c=>by cases c⟩
  · exact⟨_,h3,fun v c=>by cases c⟩
  · exact h4.obj
  · exact h5.obj
 keep:=fun i h h' ⟨h1,h2,⟨p,q,h3⟩,h4,h5⟩ k=>⟨k z (by simp) _ h1,k ti (by simp) _ h2,⟨p,q,k to (by simp) _ h3⟩,h4.keep fun o e=>k i1 (by simp) o e,h5.keep fun o e=>k i2 (by simp) o e⟩
 item:=by
  intro X hP hw hK hc i pins s σ H E I hf st hg;subst hP hw hK;obtain⟨h1,h2,⟨p,q,h3⟩,h4,h5⟩:=st;obtain⟨xs,ys,x,y,q1,q2,ex,ey⟩:=hg;obtain⟨its,r1,t1⟩:=I.sqB q1;obtain⟨jts,r2,t2⟩:=I.sqB q2;obtain⟨u,hu,ru⟩:=r1.get ex;obtain⟨v,hv,rv⟩:=r2.get ey;have ty:s.TypeIs (.ref z) "zip" := ⟨_,h1,rfl⟩;unfold IM
  refine DI (Jy (EQ (name:=Gj "__next__") ty F.slot_zip_next (Fh F.slot_zip_next ty F.entry_zip_next
   (qO D h1 h2 h3 (h4.it1 t1) (h5.it1 t2) (by simpa using hu) (by simpa using hv) fun g e1 e2 e3 e4 e5 e6 e7=>DK ?_) (F.args_zip_next_1 _))))
  have hz:s.heap.objs.size≠z:=HN (DV h1);refine⟨.ref s.heap.objs.size,rfl,wpAny_letOwnedTupleGo_zip e1 fun g' f1 fb=>?_⟩;have hp:H s.heap.objs.size=none:=I.hok.fresh (DQ _)
  have I1:Inv X pins σ (Bt H s.heap.objs.size (.tup [x,y])) {s with heap:=s.heap.push {cls:=.type "tuple", data:=.seq [u,v].toArray}} :=
   I.laid (t':=s.toks) (o:=.tup [x,y]) (fun b ob e=>DN _ e) (DQ _) ⟨(by show 2<=sizeLine;decide),[u,v],.cons ru (.cons rv .nil),nT.new _ _⟩
  have ne:∀b∈[z,ti,to,i1,i2],b≠s.heap.objs.size:=fun b hb e=>by
   simp at hb;rcases hb with rfl|rfl|rfl|rfl|rfl
   · exact hz e.symm
   · exact absurd (DV h2) (by rw[e];exact E_ _)
   · exact absurd (DV h3) (by rw[e];exact E_ _)
   · obtain⟨o,ho,_⟩:=h4.obj;exact absurd (DV ho) (by rw[e];exact E_ _)
   · obtain⟨o,ho,_⟩:=h5.obj;exact absurd (DV ho) (by rw[e];exact E_ _)
  have kg:∀b o,b∉[z,ti,to,i1,i2]->(s.heap.push {cls:=.type "tuple", data:=.seq [u,v].toArray}).get? b=some o->g'.get? b=some o:=fun b o hb e=>by
   simp at hb;obtain⟨n1,n2,n3,n4,n5⟩:=hb;refine fb.extBut _ _ n1 ?_;by_cases hbn:b=s.heap.objs.size
   · subst hbn;rw[D3 _ rfl]at e;cases e;exact e5
   · exact e7 b o n1 n3 n4 n5 (by rw[Heap.get?_push_ne _ _ _ hbn]at e;exact e)
  have fp1:∀b∈[z,ti,to,i1,i2],ke X pins (Bt H s.heap.objs.size (.tup [x,y])) b:=fun b hb=>by
   obtain⟨f0,fr⟩:=hf b hb;exact⟨by rw[ai (ne b hb)];exact f0,fr⟩
  have I2:Inv X pins σ (Bt H s.heap.objs.size (.tup [x,y])) {s with heap:=g' }:=I1.turnedL (t':=s.toks) kg fp1;have k8:∀b o,b≠z->g.get? b=some o->g'.get? b=some o:=fun b o n e=>fb.extBut _ _ n e;have t1':CU b1 g a1 its.toArray:=CU.of t1 fun o e=>e7 _ o D.l1z D.l1TO D.l1i1 D.l1i2 e;have t2':CU b2 g a2 jts.toArray:=CU.of t2 fun o e=>e7 _ o D.l2z D.l2TO D.l2i1 D.l2i2 e;refine⟨.ref s.heap.objs.size,_,I2,rfl,⟨x,y,_,fun xs' q'=>by rw[I.sqB_inj q' q1];exact ex,fun ys' q'=>by rw[I.sqB_inj q' q2];exact ey,hp,rfl,rfl⟩,⟨f1,k8 _ _ D.TIz (e7 _ _ D.TIz D.TITO D.TIi1 D.TIi2 h2),⟨_,_,k8 _ _ D.TOz e2⟩,(Dt.ir e3 h4 t1').keep fun o e=>k8 _ o D.i1z e,(Dt.ir e4 h5 t2').keep fun o e=>k8 _ o D.i2z e⟩,fun b hb=>(fp1 b hb).1⟩
 done:=by
  intro X hP hw hK hc i pins s σ H E I hf st hg;subst hP hw hK;obtain⟨h1,h2,⟨p,q,h3⟩,h4,h5⟩:=st;obtain⟨xs,ys,q1,q2,ex⟩:=hg;obtain⟨its,r1,t1⟩:=I.sqB q1;obtain⟨jts,r2,t2⟩:=I.sqB q2;have l1:=r1.length;have l2:=r2.length;have ty:s.TypeIs (.ref z) "zip" := ⟨_,h1,rfl⟩;unfold IM
  refine DI (Jy (EQ (name:=Gj "__next__") ty F.slot_zip_next (Fh F.slot_zip_next ty F.entry_zip_next
   (t6 (I.ok.hd hc) D h1 h2 h3 (h4.it1 t1) (h5.it1 t2) (by simp;omega) fun g e kg ⟨o,ho,hoc⟩=>?_) (F.args_zip_next_1 _))))
  refine DI (JI (T := "StopIteration") (b:=true) ⟨o,ho,hoc⟩ isSubtype_stop (DK ⟨rfl,?_⟩));exact I.turnedL (t':=s.toks) (fun b o hb e=>by simp at hb;exact kg b o hb.1 hb.2.2.1 hb.2.2.2.1 hb.2.2.2.2 e) hf
 self:=fun _ _ _ _ _ st h=>wpAny_pyIter_zip st.1 h
open PySem PySem.Spec PyProof.Rows L2.ZP
section
variable{X:Cx}{e1 e2:Expr}{ta:TA}{elts:List Expr}{kt:Nat}{pt p pos:Pos}
noncomputable def AN(K:W.Frag)(b1 b2:Bool)(t:TA):TI:=fun σ H R=>t σ H fun vs H1=>∃a1 a2 xs ys,vs=[.ref a1,.ref a2]/\CT b1 K H1 a1 xs/\CT b2 K H1 a2 ys/\R (Do K b1 b2 a1 a2) H1
theorem vJ(b1 b2:Bool)(hg:Gl X "zip")(hm:X.mg "zip" = none)(ha:PA X [e1,e2] ta)(hs:autoParam (DY [e1,e2] X.env=(false,eval e1 X.env)::DY [e2] X.env) æa._auto_1)(hpl:autoParam ((Ge pos (DY [e2] X.env)).any (·.1)=false) æa._auto_1) :
 PI X (.Tuple elts kt pt) (.Call (.Name "zip" p) [e1,e2] [] pos) (AN X.K b1 b2 ta):=by
 intro pins s σ H R I h;refine Call_ (jO I hg hm (by rfl) (GZ (BD (ha pos pins s σ H _ I h) fun us s1 ⟨vs,H1,I1,r1,q1⟩=>?_) hs hpl) (by decide) (by decide));obtain⟨a1,a2,xs,ys,ev,q1,q2,q⟩:=q1;subst ev
 cases r1 with
 | cons r rr =>
   cases rr with
   | cons r' rr =>
     cases rr;cases r;cases r';obtain⟨its,v1,t1⟩:=I1.sqB q1;obtain⟨jts,v2,t2⟩:=I1.sqB q2;refine pR t1 t2 fun g f1 f2 f3 f4 f5 f6 kp=>wpAny_pyIter_zip f1 ?_
     have lt1:a1<s1.heap.objs.size/\a2<s1.heap.objs.size:=by
      constructor
      · cases b1 with
        | true=>obtain⟨o,ho,_⟩:=(show s1.heap.IsTuple a1 _ from t1);exact DV ho
        | false=>obtain⟨o,ho,_⟩:=(show s1.heap.IsList a1 _ from t1);exact DV ho
      · cases b2 with
        | true=>obtain⟨o,ho,_⟩:=(show s1.heap.IsTuple a2 _ from t2);exact DV ho
        | false=>obtain⟨o,ho,_⟩:=(show s1.heap.IsList a2 _ from t2);exact DV ho
     obtain⟨l1,l2⟩:=lt1;have ap:∀{n c:Nat},c<n->∀k:Nat,c≠n+k:=fun h k e=>by omega
     have D:ZipApart (s1.heap.objs.size+4) (s1.heap.objs.size+2) (s1.heap.objs.size+3) s1.heap.objs.size (s1.heap.objs.size+1) a1 a2:=by
      generalize hN:s1.heap.objs.size=N at l1 l2;exact⟨by simp,by simp,by simp,by simp,by simp,by simp,by simp,by simp,by simp,by simp,ap l1 4,ap l1 3,ap l1 0,ap l1 1,ap l2 4,ap l2 3,ap l2 0,ap l2 1⟩
     have kg:∀b o,s1.heap.get? b=some o->g.get? b=some o:=kp;have I2:Inv X pins σ H1 {s1 with heap:=g}:=I1.kept (t':=s1.toks) kg
     have ir:∀{b:Bool}{it a:Addr}{zs:Array DJ},Dt g it a zs 0->CU b s1.heap a zs->Du b g it a 0:=fun{b it a zs} q r=>by
      have r':=CU.of r fun o e=>kg _ o e
      cases b with
      | true =>
        rcases q with⟨_,⟨o,e,c,_⟩⟩|⟨q,_⟩
        · obtain⟨o',e',c',_⟩:=(show g.IsTuple a zs from r');rw[e]at e';cases e';rw[c]at c';injection c' with z;exact absurd z (by decide)
        · exact q
      | false =>
        rcases q with⟨q,_⟩|⟨_,⟨o,e,c,_⟩⟩
        · exact q
        · obtain⟨o',e',c',_⟩:=(show g.IsList a zs from r');rw[e]at e';cases e';rw[c]at c';injection c' with z;exact absurd z (by decide)
     refine⟨_,[s1.heap.objs.size+4,s1.heap.objs.size+2,s1.heap.objs.size+3,s1.heap.objs.size,s1.heap.objs.size+1],_,_,H1,rfl,I2,ox b1 b2 _ _ _ _ _ a1 a2 D,⟨f1,f2,⟨_,_,f3⟩,ir f4 t1,ir f5 t2⟩,fun b hb=>?_,q⟩
     have hb':s1.heap.objs.size<=b:=by
      simp at hb;rcases hb with rfl|rfl|rfl|rfl|rfl
      · exact HX _ 4
      · exact HX _ 2
      · exact HX _ 3
      · exact DQ _
      · exact HX _ 1
     exact I1.fpOk hb' (I1.hok.fresh hb')
end
end L2
namespace L2.VL
section
variable{X:Cx}{rl:RlT}{a b:Expr}{elts:List Expr}{kt:Nat}{pt p pos:Pos}{fs:CJ}
noncomputable def kf(xs ys:List DH):List DH:=List.zipWith (fun x y=>.tuple [x,y]) xs ys
noncomputable def cK:DH->Bool
 | .tuple _=>true
 | _=>false
theorem qi{K:W.Frag}(r:Rep K F v d)(e:eE d=some xs):∃a vs,v = .ref a/\Reps K F vs xs/\∀H,bf F H->CT (cK d) K H a vs:=by
 cases r with
 | tup sq rs=>cases e;exact⟨_,_,rfl,rs,fun H s=>dz s sq⟩
 | lst h rs=>cases e;exact⟨_,_,rfl,rs,fun H s=>.inl (.inl (s _ _ h))⟩
 | non=>cases e
 | bl b=>cases e
 | int i=>cases e
 | str x=>cases e
theorem je{ys:List DH}(h:(kf xs ys)[i]?=some d):∃x y,xs[i]?=some x/\ys[i]?=some y/\d = .tuple [x,y]:=by
 unfold kf at h;rw[List.getElem?_zipWith]at h
 cases ex:xs[i]? with
 | none=>rw[ex]at h;cases h
 | some x =>
   cases ey:ys[i]? with
   | none=>rw[ex,ey]at h;cases h
   | some y=>rw[ex,ey]at h;cases h;exact⟨x,y,rfl,rfl,rfl⟩
theorem kY(b1 b2:Bool)(hm:X.mg "zip" = none)(ha:CZ X rl [a,b] fs)(hg:autoParam (Gl X "zip") æa._auto_1)(hs:autoParam (DY [a,b] X.env=(false,eval a X.env)::DY [b] X.env) æa._auto_1)(hpl:autoParam ((Ge pos (DY [b] X.env)).any (·.1)=false) æa._auto_1) :
 C9 X rl (.Tuple elts kt pt) (.Call (.Name "zip" p) [a,b] [] pos) (fun ρ Q=>fs ρ fun ws=>∃dx dy xs ys,ws=[.d dx,.d dy]/\eE dx=some xs/\eE dy=some ys/\cK dx=b1/\cK dy=b2/\Q (kf xs ys)):=by
 obtain⟨t,p1,k⟩:=ha;refine⟨_,vJ b1 b2 hg hm p1 hs hpl,fun R Qd Q q h=>k R _ _ q fun vs ws F1 H1 g1 r1 ⟨dx,dy,xs,ys,ew,e1,e2,kb1,kb2,q1⟩=>?_⟩;subst ew kb1 kb2;obtain⟨v,u,rfl,rv,ru⟩:=AD r1;obtain⟨a1,vs,rfl,rs,sq1⟩:=qi rv e1;obtain⟨a2,us,rfl,rt,sq2⟩:=qi ru e2;refine⟨a1,a2,vs,us,rfl,sq1 _ g1.sub,sq2 _ g1.sub,h _ (kf xs ys) F1 H1 g1 ⟨fun i H x e s=>?_,fun i H hl s=>?_,fun i H v H' x F2 e s s2 ra y=>?_⟩ q1⟩
 · obtain⟨x1,y1,ex,ey,_⟩:=je e;obtain⟨v1,ev1,_⟩:=rs.get ex;obtain⟨u1,eu1,_⟩:=rt.get ey;exact⟨vs,us,v1,u1,sq1 _ s,sq2 _ s,ev1,eu1⟩
 · refine⟨vs,us,sq1 _ s,sq2 _ s,?_⟩;unfold kf at hl;rw[List.length_zipWith]at hl;rw[rs.length,rt.length];omega
 · obtain⟨x1,y1,ex,ey,ed⟩:=je e;obtain⟨vx,vy,pp,hx,hy,hp,ev,eH⟩:=y;obtain⟨v1,ev1,rv1⟩:=rs.get ex;obtain⟨u1,eu1,ru1⟩:=rt.get ey;have h1:=hx vs (sq1 _ (s.trans s2));have h2:=hy us (sq2 _ (s.trans s2));rw[ev1]at h1;rw[eu1]at h2;cases h1;cases h2;subst ev eH ed;have g:=Grow.data (a:=pp) (o:=.tup [vx,vy]) s2 ra hp;exact⟨_,g,.tup (.inl (.inl al)) (.cons ((rv1.mono s).mono g.fs) (.cons ((ru1.mono s).mono g.fs) .nil))⟩
noncomputable def Cn(b1 b2:Bool)(fs:CJ):En->(List DH->Prop)->Prop:=fun ρ Q=>fs ρ fun ws=>∃dx dy xs ys,ws=[.d dx,.d dy]/\eE dx=some xs/\eE dy=some ys/\cK dx=b1/\cK dy=b2/\Q (kf xs ys)
theorem n8(hm:X.mg "zip" = none)(ha:CZ X rl [a,b] fs)(hg:autoParam (Gl X "zip") æa._auto_1)(hs:autoParam (DY [a,b] X.env=(false,eval a X.env)::DY [b] X.env) æa._auto_1)(hpl:autoParam ((Ge pos (DY [b] X.env)).any (·.1)=false) æa._auto_1) :
 C9 X rl (.Tuple elts kt pt) (.Call (.Name "zip" p) [a,b] [] pos) (Cn true true fs):=kY true true hm ha hg hs hpl
theorem n_(hm:X.mg "zip" = none)(ha:CZ X rl [a,b] fs)(hg:autoParam (Gl X "zip") æa._auto_1)(hs:autoParam (DY [a,b] X.env=(false,eval a X.env)::DY [b] X.env) æa._auto_1)(hpl:autoParam ((Ge pos (DY [b] X.env)).any (·.1)=false) æa._auto_1) :
 C9 X rl (.Tuple elts kt pt) (.Call (.Name "zip" p) [a,b] [] pos) (Cn true false fs):=kY true false hm ha hg hs hpl
theorem jh(hm:X.mg "zip" = none)(ha:CZ X rl [a,b] fs)(hg:autoParam (Gl X "zip") æa._auto_1)(hs:autoParam (DY [a,b] X.env=(false,eval a X.env)::DY [b] X.env) æa._auto_1)(hpl:autoParam ((Ge pos (DY [b] X.env)).any (·.1)=false) æa._auto_1) :
 C9 X rl (.Tuple elts kt pt) (.Call (.Name "zip" p) [a,b] [] pos) (Cn false false fs):=kY false false hm ha hg hs hpl
end
theorem nr{α:Sort u}{a b:α}(h:a=b):a=b:=h
abbrev Mo(α:Type):=(α->Prop)->Prop
noncomputable def ret{α:Type}(a:α):Mo α:=fun Q=>Q a
noncomputable def Cy{α β:Type}(m:Mo α)(f:α->Mo β):Mo β:=fun Q=>m fun a=>f a Q
noncomputable def Cq{α:Type}(P:Prop)(m:Mo α):Mo α:=fun Q=>P/\m Q
noncomputable def stk{α:Type}:Mo α:=fun _=>False
noncomputable def anyM{α:Type}(P:α->Prop):Mo α:=fun Q=>∀a,P a->Q a
noncomputable def aw{α β:Type}(o:Option α)(f:α->Mo β):Mo β:=match o with
 | some a=>f a
 | none=>stk
section
variable{α β γ:Type}
theorem bnd_ret(a:α)(f:α->Mo β):Cy (ret a) f=f a:=nr rfl
theorem bnd_bnd(m:Mo α)(f:α->Mo β)(g:β->Mo γ):Cy (Cy m f) g=Cy m fun a=>Cy (f a) g:=nr rfl
theorem bnd_grd(P:Prop)(m:Mo α)(f:α->Mo β):Cy (Cq P m) f=Cq P (Cy m f):=nr rfl
theorem bnd_stk(f:α->Mo β):Cy stk f=stk:=nr rfl
theorem bnd_ite(c:Prop)[Decidable c](a b:Mo α)(f:α->Mo β):Cy (if c then a else b) f=if c then Cy a f else Cy b f:=by split<;>rfl
theorem bnd_opt(o:Option α)(k:α->Mo β)(f:β->Mo γ):Cy (aw o k) f=aw o fun a=>Cy (k a) f:=by cases o<;>rfl
theorem opt_some(a:α)(k:α->Mo β):aw (some a) k=k a:=nr rfl
theorem opt_none(k:α->Mo β):aw none k=stk:=nr rfl
theorem aj{P:Prop}(h:P)(m:Mo α):Cq P m=m:=by funext Q;exact propext ⟨fun z=>z.2,fun z=>⟨h,z⟩⟩
theorem grd_T(m:Mo α):Cq True m=m:=aj trivial m
theorem dM(c:Prop)[Decidable c](a b:Mo α)(Q:α->Prop):(if c then a else b) Q=if c then a Q else b Q:=by split<;>rfl
theorem af{m n:Mo α}(h:∀Q,m Q↔n Q):m=n:=funext fun Q=>propext (h Q)
end
noncomputable def asI:W->Option Int
 | .d (.int i)=>some i
 | _=>none
noncomputable def asB:W->Option Bool
 | .d (.bool b)=>some b
 | _=>none
noncomputable def asS:W->Option Str
 | .d (.str b)=>some b
 | _=>none
noncomputable def asD:W->Option DH
 | .d x=>some x
 | _=>none
noncomputable def lstD:DH->Option (List DH)
 | .list xs=>some xs
 | _=>none
noncomputable def tupD:DH->Option (List DH)
 | .tuple xs=>some xs
 | _=>none
noncomputable def CD(w:W):Option (List DH):=w.dat.bind lstD
noncomputable def CA(w:W):Option (List DH):=(asD w).bind tupD
noncomputable def CC(w:W):Option (List DH):=w.dat.bind eE
noncomputable def BC:W->Option Int
 | .d (.int i)=>some i
 | .d (.bool b)=>some (if b then 1 else 0)
 | _=>none
noncomputable def isiT:W->Option String
 | .vv (.ty T)=>some T
 | _=>none
noncomputable def qL:List DH->Option (List Bool)
 | []=>some []
 | .bool b::r=>(qL r).map (b :: ·)
 | _=>none
noncomputable def fH:List DH->Option (List Int)
 | []=>some []
 | .int b::r=>(fH r).map (b :: ·)
 | _=>none
theorem blsD_map:∀bs:List Bool,qL (bs.map .bool)=some bs
 | []=>rfl
 | b::bs=>by show(qL (bs.map .bool)).map (b :: ·)=_;rw[blsD_map bs];rfl
theorem ja:∀{xs:List DH}{bs:List Bool},qL xs=some bs->xs=bs.map .bool
 | [],bs,h=>by cases h;rfl
 | .bool b::r,bs,h=>by
   have h:(qL r).map (b :: ·)=some bs:=h
   cases q:qL r with
   | none=>rw[q]at h;cases h
   | some cs=>rw[q]at h;cases h;rw[ja q];rfl
 | .none::_,_,h=>by cases h
 | .int _::_,_,h=>by cases h
 | .str _::_,_,h=>by cases h
 | .list _::_,_,h=>by cases h
 | .tuple _::_,_,h=>by cases h
 | .dict _::_,_,h=>by cases h
theorem bB:∀bs:List Int,fH (bs.map .int)=some bs
 | []=>rfl
 | b::bs=>by show(fH (bs.map .int)).map (b :: ·)=_;rw[bB bs];rfl
theorem d4:∀{xs:List DH}{bs:List Int},fH xs=some bs->xs=bs.map .int
 | [],bs,h=>by cases h;rfl
 | .int b::r,bs,h=>by
   have h:(fH r).map (b :: ·)=some bs:=h
   cases q:fH r with
   | none=>rw[q]at h;cases h
   | some cs=>rw[q]at h;cases h;rw[d4 q];rfl
 | .none::_,_,h=>by cases h
 | .bool _::_,_,h=>by cases h
 | .str _::_,_,h=>by cases h
 | .list _::_,_,h=>by cases h
 | .tuple _::_,_,h=>by cases h
 | .dict _::_,_,h=>by cases h
theorem asI_d(i:Int):asI (.d (.int i))=some i:=rfl
theorem asB_d(i:Bool):asB (.d (.bool i))=some i:=rfl
theorem asS_d(i:Str):asS (.d (.str i))=some i:=rfl
theorem asD_d(i:DH):asD (.d i)=some i:=rfl
theorem asT_d(x:DH):CA (.d x)=tupD x:=rfl
theorem asL_d(x:DH):CD (.d x)=lstD x:=rfl
theorem asL_ml(x:List DH):CD (.ml x)=some x:=rfl
theorem asL_pk(x:List DH):CD (.pk x)=some x:=rfl
theorem asQ_d(x:DH):CC (.d x)=eE x:=rfl
theorem asQ_ml(x:List DH):CC (.ml x)=some x:=rfl
theorem asQ_pk(x:List DH):CC (.pk x)=some x:=rfl
theorem lstD_l(x:List DH):lstD (.list x)=some x:=rfl
theorem tupD_t(x:List DH):tupD (.tuple x)=some x:=rfl
theorem toI_i(i:Int):BC (.d (.int i))=some i:=rfl
theorem toI_b(i:Bool):BC (.d (.bool i))=some (if i then 1 else 0):=rfl
theorem isiT_t(T:String):isiT (.vv (.ty T))=some T:=rfl
theorem bL{w:W}{i:Int}:asI w=some i↔w = .d (.int i):=by
 constructor
 · intro h;unfold asI at h;split at h<;>simp_all
 · rintro rfl;rfl
theorem fq{w:W}{i:Bool}:asB w=some i↔w = .d (.bool i):=by
 constructor
 · intro h;unfold asB at h;split at h<;>simp_all
 · rintro rfl;rfl
theorem qM{w:W}{i:Str}:asS w=some i↔w = .d (.str i):=by
 constructor
 · intro h;unfold asS at h;split at h<;>simp_all
 · rintro rfl;rfl
theorem iH{w:W}{i:DH}:asD w=some i↔w = .d i:=by
 constructor
 · intro h;unfold asD at h;split at h<;>simp_all
 · rintro rfl;rfl
theorem s_{w:W}{i:String}:isiT w=some i↔w = .vv (.ty i):=by
 constructor
 · intro h;unfold isiT at h;split at h<;>simp_all
 · rintro rfl;rfl
theorem sU{w:DH}{i:List DH}:lstD w=some i↔w = .list i:=by
 constructor
 · intro h;unfold lstD at h;split at h<;>simp_all
 · rintro rfl;rfl
theorem rq{w:DH}{i:List DH}:tupD w=some i↔w = .tuple i:=by
 constructor
 · intro h;unfold tupD at h;split at h<;>simp_all
 · rintro rfl;rfl
theorem ka{w:W}{i:List DH}:CA w=some i↔w = .d (.tuple i):=by
 constructor
 · intro h;unfold CA at h
   cases q:asD w with
   | none=>rw[q]at h;cases h
   | some x=>rw[q]at h;rw[iH.mp q,rq.mp h]
 · rintro rfl;rfl
theorem ge{w:W}{i:List DH}:CD w=some i↔w.dat=some (.list i):=by
 unfold CD;constructor
 · intro h
   cases q:w.dat with
   | none=>rw[q]at h;cases h
   | some x=>rw[q]at h;rw[sU.mp h]
 · intro h;rw[h];rfl
theorem ag{β:Type}{o:Option α}{k:α->Mo β}{Q:β->Prop}:aw o k Q↔∃a,o=some a/\k a Q:=by
 cases o with
 | none=>exact⟨fun z=>z.elim,fun⟨_,z,_⟩=>by cases z⟩
 | some a=>exact⟨fun z=>⟨a,rfl,z⟩,fun⟨_,e,z⟩=>by cases e;exact z⟩
section
variable{fa fb fc:TV}{fs:CJ}{f g:TB}{ρ:En}{t u:CK}
theorem m_vC(x:DH):vC x ρ=ret (.d x):=nr rfl
theorem bh(i:Nat):dr i ρ=aw ((ρ[i]?).join) fun w=>ret w.peek:=by
 refine af fun Q=>?_;rw[ag];constructor
 · rintro⟨w,e,q⟩;exact⟨w,by rw[e];rfl,q⟩
 · rintro⟨w,e,q⟩;refine⟨w,?_,q⟩
   cases h:ρ[i]? with
   | none=>rw[h]at e;cases e
   | some o=>rw[h]at e;cases o with
     | none=>cases e
     | some x=>cases e;rfl
theorem m_vOp(h:W->W->(W->Prop)->Prop):Bq h fa fb ρ=Cy (fa ρ) fun x=>Cy (fb ρ) fun y=>h x y:=nr rfl
theorem m_gI(C:Int->Int->Prop)(h:Int->Int->DH)(x y:W):gI C h x y=aw (asI x) fun i=>aw (asI y) fun j=>Cq (C i j) (ret (.d (h i j))):=by
 refine af fun Q=>?_;simp only[ag,bL,gI,Cq,ret];exact⟨fun⟨i,j,a,b,c,q⟩=>⟨i,a,j,b,c,q⟩,fun⟨i,a,j,b,c,q⟩=>⟨i,j,a,b,c,q⟩⟩
theorem m_gI0(h:Int->Int->DH)(x y:W):Cu h x y=aw (asI x) fun i=>aw (asI y) fun j=>ret (.d (h i j)):=by
 refine af fun Q=>?_;simp only[ag,bL,Cu,ret];exact⟨fun⟨i,j,a,b,q⟩=>⟨i,a,j,b,q⟩,fun⟨i,a,j,b,q⟩=>⟨i,j,a,b,q⟩⟩
theorem m_vNeg:xz fa ρ=Cy (fa ρ) fun x=>aw (asI x) fun i=>ret (.d (.int (-i))):=by
 refine af fun Q=>?_;simp only[xz,Cy,ag,bL,ret]
theorem m_vTest{f:TV}:om f ρ=Cy (f ρ) fun w=>aw (asB w) ret:=by
 refine af fun Q=>?_;simp only[om,Cy,ag,fq,ret]
theorem m_gEqD(neg:Bool)(x y:W):yA neg x y=aw x.dat fun dx=>aw y.dat fun dy=>Cq (E9 dx=true) (Cq (E9 dy=true) (ret (.d (.bool (if neg then !FR dx dy else FR dx dy))))):=by
 refine af fun Q=>?_;simp only[ag,yA,Cq,ret];exact⟨fun⟨i,j,a,b,c,d,q⟩=>⟨i,a,j,b,c,d,q⟩,fun⟨i,a,j,b,c,d,q⟩=>⟨i,j,a,b,c,d,q⟩⟩
theorem wN{w:W}{i:List DH}:CC w=some i↔(w.dat=some (.list i)\/w.dat=some (.tuple i)):=by
 unfold CC;constructor
 · intro h
   cases q:w.dat with
   | none=>rw[q]at h;cases h
   | some x=>rw[q]at h;exact eE.of (o:=some x) rfl h
 · rintro(h|h)<;>rw[h]<;>rfl
theorem m_gInD(neg:Bool)(x y:W):yx neg x y=aw x.dat fun dx=>aw (CC y) fun ys=>Cq (E9 dx=true) (Cq (E6 ys=true) (ret (.d (.bool (if neg then !(ys.any fun z=>FR z dx)else ys.any fun z=>FR z dx))))):=by
 refine af fun Q=>?_;simp only[ag,wN,yx,Cq,ret];exact⟨fun⟨i,j,a,b,c,d,q⟩=>⟨i,a,j,b,c,d,q⟩,fun⟨i,a,j,b,c,d,q⟩=>⟨i,j,a,b,c,d,q⟩⟩
theorem m_vAnd:xF f g ρ=Cy (f ρ) fun b=>if b=true then g ρ else ret false:=by
 refine af fun Q=>?_;simp only[xF,Cy,dM,ret]
theorem m_vOr:Bp f g ρ=Cy (f ρ) fun b=>if b=true then ret true else g ρ:=by
 refine af fun Q=>?_;simp only[Bp,Cy,dM,ret]
theorem m_vNot:An f ρ=Cy (f ρ) fun b=>ret (!b):=nr rfl
theorem m_vAndV:uD fa fb ρ=Cy (fa ρ) fun w=>aw (asB w) fun b=>if b=true then fb ρ else ret (.d (.bool false)):=by
 refine af fun Q=>?_;simp only[uD,Cy,ag,fq,dM,ret]
theorem m_vOrV:zF fa fb ρ=Cy (fa ρ) fun w=>aw (asB w) fun b=>if b=true then ret (.d (.bool true))else fb ρ:=by
 refine af fun Q=>?_;simp only[zF,Cy,ag,fq,dM,ret]
theorem m_vNotV:uw fa ρ=Cy (fa ρ) fun w=>aw (asB w) fun b=>ret (.d (.bool (!b))):=by
 refine af fun Q=>?_;simp only[uw,Cy,ag,fq,ret]
theorem m_vIf{t:TB}:Bs t fa fb ρ=Cy (t ρ) fun c=>if c=true then fa ρ else fb ρ:=by
 refine af fun Q=>?_;simp only[Bs,Cy,dM]
theorem m_vTup:xv fs ρ=Cy (fs ρ) fun ws=>aw (gO ws) fun ds=>Cq (ds.length<=sizeLine) (ret (.d (.tuple ds))):=by
 refine af fun Q=>?_;simp only[xv,Cy,ag,Cq,ret]
theorem m_vLst:wV fs ρ=Cy (fs ρ) fun ws=>aw (gO ws) fun ds=>Cq (ds.length<=sizeLine) (ret (.ml ds)):=by
 refine af fun Q=>?_;simp only[wV,Cy,ag,Cq,ret]
theorem m_gIx(x y:W):Cs x y=aw x.dat fun dx=>aw (asI y) fun i=>aw (itemAt dx i) fun z=>ret (.d z):=by
 refine af fun Q=>?_;simp only[Cs,ag,bL,ret];exact⟨fun⟨i,j,z,a,b,c,q⟩=>⟨i,a,j,b,z,c,q⟩,fun⟨i,a,j,b,z,c,q⟩=>⟨i,j,z,a,b,c,q⟩⟩
theorem m_vCall(h:List W->(W->Prop)->Prop):eC h fs ρ=Cy (fs ρ) h:=nr rfl
theorem m_gAbs(w:W):xj [w]=aw (asI w) fun i=>ret (.d (.int (if i<0 then -i else i))):=by
 refine af fun Q=>?_;simp only[xj,ag,bL,ret,ED,and_true]
theorem m_gLen(w:W):xf [w]=aw w.dat fun d=>aw (qy d) fun n=>ret (.d (.int n)):=by
 refine af fun Q=>?_;simp only[xf,ag,ret,ED,and_true];exact⟨fun⟨w',d,n,e,a,b,q⟩=>by subst e;exact⟨d,a,n,b,q⟩,fun⟨d,a,n,b,q⟩=>⟨w,d,n,rfl,a,b,q⟩⟩
theorem m_gRepr(w:W):pE [w]=aw w.dat fun d=>Cq (CW d) (ret (.d (.str d.shown))):=by
 refine af fun Q=>?_;simp only[pE,ag,ret,Cq,ED,and_true];exact⟨fun⟨w',d,e,a,b,q⟩=>by subst e;exact⟨d,a,b,q⟩,fun⟨d,a,b,q⟩=>⟨w,d,rfl,a,b,q⟩⟩
theorem m_gIsi(w v:W):zZ [w,v]=aw w.dat fun d=>aw (isiT v) fun T=>Cq (zI T=true) (ret (.d (.bool (wg d T)))):=by
 refine af fun Q=>?_;simp only[zZ,ag,s_,ret,Cq,ED,and_true];exact⟨fun⟨w',d,T,⟨e,e'⟩,a,b,q⟩=>by subst e;exact⟨d,a,T,e',b,q⟩,fun⟨d,a,T,e',b,q⟩=>⟨w,d,T,⟨rfl,e'⟩,a,b,q⟩⟩
theorem m_gStrI(w:W):wp [w]=aw (asI w) fun i=>Cq (i.natAbs.log2<1920) (ret (.d (.str (toString i)))):=by
 refine af fun Q=>?_;simp only[wp,ag,bL,ret,Cq,ED,and_true]
theorem m_gTupO(w:W):pC [w]=aw (CC w) fun xs=>ret (.d (.tuple xs)):=by
 refine af fun Q=>?_;simp only[pC,ag,ret,ED,and_true];constructor
 · rintro⟨w',d,xs,e,a,b,q⟩;subst e;exact⟨xs,by unfold CC;rw[a];exact b,q⟩
 · rintro⟨xs,e,q⟩;unfold CC at e
   cases h:w.dat with
   | none=>rw[h]at e;cases e
   | some d=>rw[h]at e;exact⟨w,d,xs,rfl,h,e,q⟩
theorem m_gLstO(w:W):pH [w]=aw (CC w) fun xs=>ret (.ml xs):=by
 refine af fun Q=>?_;simp only[pH,ag,ret,ED,and_true];constructor
 · rintro⟨w',d,xs,e,a,b,q⟩;subst e;exact⟨xs,by unfold CC;rw[a];exact b,q⟩
 · rintro⟨xs,e,q⟩;unfold CC at e
   cases h:w.dat with
   | none=>rw[h]at e;cases e
   | some d=>rw[h]at e;exact⟨w,d,xs,rfl,h,e,q⟩
theorem m_gIsB(x y:W):z_ x y=aw (asB x) fun i=>aw (asB y) fun j=>ret (.d (.bool (i==j))):=by
 refine af fun Q=>?_;simp only[ag,fq,z_,ret];exact⟨fun⟨i,j,a,b,q⟩=>⟨i,a,j,b,q⟩,fun⟨i,a,j,b,q⟩=>⟨i,j,a,b,q⟩⟩
theorem m_gIsN(neg:Bool)(x:W):z9 neg x (.d .none)=aw x.dat fun d=>ret (.d (.bool (if neg then !iu d else iu d))):=by
 refine af fun Q=>?_;simp only[ag,z9,ret,true_and]
theorem m_gI2(h:Int->Int->DH)(x y:W):Ct h [x,y]=aw (asI x) fun i=>aw (asI y) fun j=>ret (.d (h i j)):=by
 refine af fun Q=>?_;simp only[ag,bL,Ct,ret,ED,and_true];exact⟨fun⟨i,j,⟨a,b⟩,q⟩=>⟨i,a,j,b,q⟩,fun⟨i,a,j,b,q⟩=>⟨i,j,⟨a,b⟩,q⟩⟩
theorem m_gDivmod(x y:W):mY [x,y]=aw (asI x) fun i=>aw (asI y) fun j=>Cq (0<j) (Cq (j<1073741824) (ret (.d (.tuple [.int (i / j),.int (i%j)])))):=by
 refine af fun Q=>?_;simp only[ag,bL,mY,Cq,ret,ED,and_true];exact⟨fun⟨i,j,⟨a,b⟩,c,d,q⟩=>⟨i,a,j,b,c,d,q⟩,fun⟨i,a,j,b,c,d,q⟩=>⟨i,j,⟨a,b⟩,c,d,q⟩⟩
theorem uI{w:W}{i:Int}:BC w=some i↔(w = .d (.int i)\/∃b:Bool,w = .d (.bool b)/\i=if b then 1 else 0):=by
 constructor
 · intro h;unfold BC at h;split at h
   · cases h;exact .inl rfl
   · cases h;exact .inr ⟨_,rfl,rfl⟩
   · cases h
 · rintro(rfl|⟨b,rfl,rfl⟩)<;>rfl
theorem m_gInt1(w:W):ww [w]=aw (BC w) fun i=>ret (.d (.int i)):=by
 refine af fun Q=>?_;simp only[ag,uI,ww,ret,ED,and_true];constructor
 · rintro(⟨i,rfl,q⟩|⟨k,rfl,q⟩)
   · exact⟨i,.inl rfl,q⟩
   · exact⟨_,.inr ⟨k,rfl,rfl⟩,q⟩
 · rintro⟨i,rfl|⟨b,rfl,rfl⟩,q⟩
   · exact .inl ⟨i,rfl,q⟩
   · exact .inr ⟨b,rfl,q⟩
theorem m_oNo:B7 ρ=ret none:=nr rfl
theorem m_oIt:B8 fa ρ=Cy (fa ρ) fun w=>aw (asI w) fun i=>ret (some i):=by
 refine af fun Q=>?_;simp only[B8,Cy,ag,bL,ret]
theorem m_vSlL{fl fh:CM}:zA fa fl fh ρ=Cy (fa ρ) fun w=>Cy (fl ρ) fun l=>Cy (fh ρ) fun h=>aw (CD w) fun xs=>ret (.ml (cutD xs l h)):=by
 refine af fun Q=>?_;simp only[zA,Cy,ag,ge,ret]
theorem m_vSlA{fl fh:CM}:xx fa fl fh ρ=Cy (fa ρ) fun w=>Cy (fl ρ) fun l=>Cy (fh ρ) fun h=>aw (CA w) fun xs=>ret (.d (.tuple (cutD xs l h))):=by
 refine af fun Q=>?_;simp only[xx,Cy,ag,ka,ret]
theorem m_gCatD(x y:W):pI x y=aw (CD x) fun xs=>aw (CD y) fun ys=>Cq (xs.length+ys.length<=sizeLine) (ret (.ml (xs++ys))):=by
 refine af fun Q=>?_;simp only[pI,ag,ge,Cq,ret];exact⟨fun⟨i,j,a,b,c,q⟩=>⟨i,a,j,b,c,q⟩,fun⟨i,a,j,b,c,q⟩=>⟨i,j,a,b,c,q⟩⟩
theorem m_gCatA(x y:W):pJ x y=aw (CA x) fun xs=>aw (CA y) fun ys=>Cq (xs.length+ys.length<=sizeLine) (ret (.d (.tuple (xs++ys)))):=by
 refine af fun Q=>?_;simp only[pJ,ag,ka,Cq,ret];exact⟨fun⟨i,j,a,b,c,q⟩=>⟨i,a,j,b,c,q⟩,fun⟨i,a,j,b,c,q⟩=>⟨i,j,a,b,c,q⟩⟩
theorem m_vChain(p p':Int->Int->Bool):uB p p' fa fb fc ρ=Cy (fa ρ) fun x=>Cy (fb ρ) fun y=>aw (asI x) fun i=>aw (asI y) fun j=>if p i j=true then Cy (fc ρ) fun z=>aw (asI z) fun k=>ret (.d (.bool (p' j k)))else ret (.d (.bool false)):=by
 show(Cy (fa ρ) fun x=>Cy (fb ρ) fun y=>fun(Q:W->Prop)=>∃i j,x = .d (.int i)/\y = .d (.int j)/\if p i j=true then fc ρ fun z=>∃k,z = .d (.int k)/\Q (.d (.bool (p' j k)))else Q (.d (.bool false)))=_;congr 1;funext x;congr 1;funext y;refine af fun Q=>?_;simp only[Cy,ag,bL,ret,dM];exact⟨fun⟨i,j,a,b,q⟩=>⟨i,a,j,b,q⟩,fun⟨i,a,j,b,q⟩=>⟨i,j,a,b,q⟩⟩
theorem m_vLR1:Ap fs ρ=Cy (fs ρ) fun ws=>aw (ws.head?.bind asI) fun j=>Cq (ws.length=1) (Cq (-(2^62)<=j/\j<2^62) (Cq (j.toNat<=2^24) (ret (.ml (aF 0 j.toNat))))):=by
 show(Cy (fs ρ) fun ws=>fun(Q:W->Prop)=>∃j:Int,ws=[.d (.int j)]/\(-(2^62)<=j/\j<2^62)/\j.toNat<=2^24/\Q (.ml (aF 0 j.toNat)))=_;congr 1;funext ws;refine af fun Q=>?_;simp only[ag,Cq,ret];constructor
 · rintro⟨j,rfl,a,b,q⟩;exact⟨j,rfl,rfl,a,b,q⟩
 · rintro⟨j,e,l,a,b,q⟩
   match ws,l with
   | [w],_=>rw[show w = .d (.int j)from bL.mp e];exact⟨j,rfl,a,b,q⟩
theorem m_vTR1:Am fs ρ=Cy (fs ρ) fun ws=>aw (ws.head?.bind asI) fun j=>Cq (ws.length=1) (Cq (-(2^62)<=j/\j<2^62) (Cq (j.toNat<=2^24) (ret (.d (.tuple (aF 0 j.toNat)))))):=by
 show(Cy (fs ρ) fun ws=>fun(Q:W->Prop)=>∃j:Int,ws=[.d (.int j)]/\(-(2^62)<=j/\j<2^62)/\j.toNat<=2^24/\Q (.d (.tuple (aF 0 j.toNat))))=_;congr 1;funext ws;refine af fun Q=>?_;simp only[ag,Cq,ret];constructor
 · rintro⟨j,rfl,a,b,q⟩;exact⟨j,rfl,rfl,a,b,q⟩
 · rintro⟨j,e,l,a,b,q⟩
   match ws,l with
   | [w],_=>rw[show w = .d (.int j)from bL.mp e];exact⟨j,rfl,a,b,q⟩
noncomputable def By(ws:List W):Option (Int×Int):=match ws with
 | [a,b]=>(asI a).bind fun i=>(asI b).map fun j=>(i,j)
 | _=>none
theorem two_d(a b:Int):By [.d (.int a),.d (.int b)]=some (a,b):=rfl
theorem p7{ws:List W}{p:Int×Int}:By ws=some p↔ws=[.d (.int p.1),.d (.int p.2)]:=by
 constructor
 · intro h
   match ws with
   | []=>cases h
   | [_]=>cases h
   | _::_::_::_=>cases h
   | [a,b] =>
     have h:((asI a).bind fun i=>(asI b).map fun j=>(i,j))=some p:=h
     cases ha:asI a with
     | none=>rw[ha]at h;cases h
     | some i =>
       cases hb:asI b with
       | none=>rw[ha,hb]at h;cases h
       | some j=>rw[ha,hb]at h;cases h;rw[bL.mp ha,bL.mp hb]
 · rintro rfl;rfl
theorem m_vLR2:Ao fs ρ=Cy (fs ρ) fun ws=>aw (By ws) fun p=>Cq (-(2^62)<=p.1/\p.1<2^62 /\ -(2^62)<=p.2/\p.2<2^62) (Cq ((p.2-p.1).toNat<=2^24) (ret (.ml (aF p.1 (p.2-p.1).toNat)))):=by
 show(Cy (fs ρ) fun ws=>fun(Q:W->Prop)=>∃i j:Int,ws=[.d (.int i),.d (.int j)]/\(-(2^62)<=i/\i<2^62 /\ -(2^62)<=j/\j<2^62)/\(j-i).toNat<=2^24/\Q (.ml (aF i (j-i).toNat)))=_;congr 1;funext ws;refine af fun Q=>?_;simp only[ag,p7,Cq,ret];exact⟨fun⟨i,j,a,b,c,q⟩=>⟨(i,j),a,b,c,q⟩,fun⟨p,a,b,c,q⟩=>⟨p.1,p.2,a,b,c,q⟩⟩
theorem m_iL:iL fa ρ=Cy (fa ρ) fun w=>aw ((asD w.fz).bind lstD) ret:=by
 show(Cy (fa ρ) fun w=>fun(Q:List DH->Prop)=>∃xs,w.fz = .d (.list xs)/\Q xs)=_;congr 1;funext w;refine af fun Q=>?_;simp only[ag,ret];constructor
 · rintro⟨xs,e,q⟩;exact⟨xs,by rw[e];rfl,q⟩
 · rintro⟨xs,e,q⟩
   cases h:asD w.fz with
   | none=>rw[h]at e;cases e
   | some x=>rw[h]at e;rw[iH.mp h,sU.mp e];exact⟨xs,rfl,q⟩
theorem m_iT:iT fa ρ=Cy (fa ρ) fun w=>aw ((asD w.fz).bind tupD) ret:=by
 show(Cy (fa ρ) fun w=>fun(Q:List DH->Prop)=>∃xs,w.fz = .d (.tuple xs)/\Q xs)=_;congr 1;funext w;refine af fun Q=>?_;simp only[ag,ret];constructor
 · rintro⟨xs,e,q⟩;exact⟨xs,by rw[e];rfl,q⟩
 · rintro⟨xs,e,q⟩
   cases h:asD w.fz with
   | none=>rw[h]at e;cases e
   | some x=>rw[h]at e;rw[iH.mp h,rq.mp e];exact⟨xs,rfl,q⟩
theorem m_iR1:Cp fs ρ=Cy (fs ρ) fun ws=>aw (ws.head?.bind asI) fun j=>Cq (ws.length=1) (Cq (-(2^62)<=j/\j<2^62) (ret (aF 0 j.toNat))):=by
 show(Cy (fs ρ) fun ws=>fun(Q:List DH->Prop)=>∃j:Int,ws=[.d (.int j)]/\(-(2^62)<=j/\j<2^62)/\Q (aF 0 j.toNat))=_;congr 1;funext ws;refine af fun Q=>?_;simp only[ag,Cq,ret];constructor
 · rintro⟨j,rfl,a,q⟩;exact⟨j,rfl,rfl,a,q⟩
 · rintro⟨j,e,l,a,q⟩
   match ws,l with
   | [w],_=>rw[show w = .d (.int j)from bL.mp e];exact⟨j,rfl,a,q⟩
theorem m_iR2:Co fs ρ=Cy (fs ρ) fun ws=>aw (By ws) fun p=>Cq (-(2^62)<=p.1/\p.1<2^62 /\ -(2^62)<=p.2/\p.2<2^62) (ret (aF p.1 (p.2-p.1).toNat)):=by
 show(Cy (fs ρ) fun ws=>fun(Q:List DH->Prop)=>∃i j:Int,ws=[.d (.int i),.d (.int j)]/\(-(2^62)<=i/\i<2^62 /\ -(2^62)<=j/\j<2^62)/\Q (aF i (j-i).toNat))=_;congr 1;funext ws;refine af fun Q=>?_;simp only[ag,p7,Cq,ret];exact⟨fun⟨i,j,a,b,q⟩=>⟨(i,j),a,b,q⟩,fun⟨p,a,b,q⟩=>⟨p.1,p.2,a,b,q⟩⟩
noncomputable def xo(b1 b2:Bool)(ws:List W):Option (List DH):=match ws with
 | [.d x,.d y]=>if cK x=b1/\cK y=b2 then(eE x).bind fun xs=>(eE y).map fun ys=>kf xs ys else none
 | _=>none
theorem m_iZb(b1 b2:Bool):Cn b1 b2 fs ρ=Cy (fs ρ) fun ws=>aw (xo b1 b2 ws) ret:=by
 show(Cy (fs ρ) fun ws=>fun(Q:List DH->Prop)=>∃dx dy xs ys,ws=[.d dx,.d dy]/\eE dx=some xs/\eE dy=some ys/\cK dx=b1/\cK dy=b2/\Q (kf xs ys))=_;congr 1;funext ws;refine af fun Q=>?_;simp only[ag,ret];constructor
 · rintro⟨dx,dy,xs,ys,rfl,a,b,c,d,q⟩;exact⟨_,by show(if cK dx=b1/\cK dy=b2 then(eE dx).bind fun xs=>(eE dy).map fun ys=>kf xs ys else none)=_;rw[if_pos ⟨c,d⟩,a,b];rfl,q⟩
 · rintro⟨zs,e,q⟩;unfold xo at e;split at e
   · rename_i dx dy;split at e
     · rename_i c
       cases ha:eE dx with
       | none=>rw[ha]at e;cases e
       | some xs =>
         cases hb:eE dy with
         | none=>rw[ha,hb]at e;cases e
         | some ys=>rw[ha,hb]at e;cases e;exact⟨dx,dy,xs,ys,rfl,ha,hb,c.1,c.2,q⟩
     · cases e
   · cases e
theorem m_vUse(Pd:List W->(DH->Prop)->Prop):zz Pd fs ρ=Cy (fs ρ) fun ws=>Cq (ws.all dH=true) (Cy (Pd ws) fun d=>ret (.d d)):=nr rfl
theorem m_vUseL(Pd:List W->(List DH->Prop)->Prop):xu Pd fs ρ=Cy (fs ρ) fun ws=>Cq (ws.all dH=true) (Cy (Pd ws) fun d=>ret (.ml d)):=nr rfl
theorem m_gAll(h:List Bool->Bool)(w:W):Aa h [w]=aw ((CD w).bind qL) fun bs=>ret (.d (.bool (h bs))):=by
 refine af fun Q=>?_;simp only[Aa,ag,ret,ED,and_true];constructor
 · rintro⟨w',bs,rfl,e,q⟩;exact⟨bs,by rw[ge.mpr e];exact blsD_map bs,q⟩
 · rintro⟨bs,e,q⟩
   cases hl:CD w with
   | none=>rw[hl]at e;cases e
   | some xs=>rw[hl]at e;refine⟨w,bs,rfl,?_,q⟩;rw[<- ja e];exact ge.mp hl
theorem m_gRepT(x y:W):wt x y=aw (CA x) fun xs=>aw (asI y) fun k=>Cq (xs≠[]/\1<=k/\k<2^62/\xs.length*k.toNat<=sizeLine) (ret (.d (.tuple (DT k.toNat xs).flatten))):=by
 refine af fun Q=>?_;simp only[wt,ag,ka,bL,Cq,ret];exact⟨fun⟨i,j,a,b,c,d,e,f,q⟩=>⟨i,a,j,b,⟨c,d,e,f⟩,q⟩,fun⟨i,a,j,b,⟨c,d,e,f⟩,q⟩=>⟨i,j,a,b,c,d,e,f,q⟩⟩
theorem m_gRepL(x y:W):pF x y=aw (CD x) fun xs=>aw (asI y) fun k=>Cq (-(2^63)<=k/\k<2^63/\xs.length*k.toNat<=sizeLine) (ret (.ml (DT k.toNat xs).flatten)):=by
 refine af fun Q=>?_;simp only[pF,ag,ge,bL,Cq,ret];exact⟨fun⟨i,j,a,b,c,d,e,q⟩=>⟨i,a,j,b,⟨c,d,e⟩,q⟩,fun⟨i,a,j,b,⟨c,d,e⟩,q⟩=>⟨i,j,a,b,c,d,e,q⟩⟩
theorem m_vRevT:uq fa ρ=Cy (fa ρ) fun w=>aw (CA w) fun xs=>ret (.d (.tuple xs.reverse)):=by
 refine af fun Q=>?_;simp only[uq,Cy,ag,ka,ret]
theorem m_vRevL:ur fa ρ=Cy (fa ρ) fun w=>aw (CD w) fun xs=>ret (.ml xs.reverse):=by
 refine af fun Q=>?_;simp only[ur,Cy,ag,ge,ret]
theorem m_gEqS(neg:Bool)(x y:W):yy neg x y=aw (asS x) fun i=>aw (asS y) fun j=>ret (.d (.bool (if neg then !decide (i=j)else decide (i=j)))):=by
 refine af fun Q=>?_;simp only[ag,qM,yy,ret];exact⟨fun⟨i,j,a,b,q⟩=>⟨i,a,j,b,q⟩,fun⟨i,a,j,b,q⟩=>⟨i,j,a,b,q⟩⟩
theorem m_vTGet(D:List (Str×Int)):uo D fa ρ=Cy (fa ρ) fun w=>aw (asS w) fun k=>ret (.d (uM D k)):=by
 refine af fun Q=>?_;simp only[uo,Cy,ag,qM,ret]
noncomputable def Ad(w:W):Option (List Int):=(CA w).bind fH
theorem m_gSrtT(w:W):wq [w]=aw (Ad w) fun ns=>Cq (ns.length<64) (Cy (anyM fun ns':List Int=>ns'.Perm ns/\ns'.Pairwise (· <= ·)) fun ns'=>ret (.ml (ns'.map .int))):=by
 refine af fun Q=>?_;simp only[wq,ag,ret,Cq,Cy,anyM,ED,and_true];constructor
 · rintro⟨ns,rfl,a,q⟩;exact⟨ns,bB ns,a,fun n' ⟨h1,h2⟩=>q n' h1 h2⟩
 · rintro⟨ns,e,a,q⟩;unfold Ad at e
   cases hl:CA w with
   | none=>rw[hl]at e;cases e
   | some xs=>rw[hl]at e;exact⟨ns,by rw[ka.mp hl,<- d4 e],a,fun n' h1 h2=>q n' ⟨h1,h2⟩⟩
end
inductive Fl where
 | nx (ρ:En)|rt (w:W)|bk (ρ:En)|ct (ρ:En)
noncomputable def mS(t:CK)(ρ:En):Mo Fl:=fun Q=>t ⟨fun ρ=>Q (.nx ρ),fun w=>Q (.rt w),fun ρ=>Q (.bk ρ),fun ρ=>Q (.ct ρ)⟩ ρ
noncomputable def sq(m:Mo Fl)(k:En->Mo Fl):Mo Fl:=Cy m fun fl=>match fl with
 | .nx ρ=>k ρ
 | .rt w=>ret (.rt w)
 | .bk ρ=>ret (.bk ρ)
 | .ct ρ=>ret (.ct ρ)
noncomputable def wF(Q:DH->Prop):Fl->Prop
 | .nx _=>Q .none
 | .rt w=>∃d,w.fz = .d d/\Q d
 | _=>False
section
variable{fa fb fc:TV}{fs:CJ}{f g:TB}{ρ:En}{t u:CK}{k:En->Mo Fl}
theorem aG{Q:DH->Prop}(h:mS t ρ (wF Q)):t (ot Q) ρ:=h
theorem end_d(Q:DH->Prop)(d:DH):wF Q (.rt (.d d))=Q d:=propext ⟨fun⟨_,e,q⟩=>by cases e;exact q,fun q=>⟨d,rfl,q⟩⟩
theorem end_ml(Q:DH->Prop)(d:List DH):wF Q (.rt (.ml d))=Q (.list d):=propext ⟨fun⟨_,e,q⟩=>by cases e;exact q,fun q=>⟨_,rfl,q⟩⟩
theorem end_nx(Q:DH->Prop)(ρ:En):wF Q (.nx ρ)=Q .none:=nr rfl
theorem sq_nx:sq (ret (.nx ρ)) k=k ρ:=nr rfl
theorem sq_rt(w:W):sq (ret (.rt w)) k=ret (.rt w):=nr rfl
theorem sq_bk:sq (ret (.bk ρ)) k=ret (.bk ρ):=nr rfl
theorem sq_ct:sq (ret (.ct ρ)) k=ret (.ct ρ):=nr rfl
theorem sq_grd(P:Prop)(m:Mo Fl):sq (Cq P m) k=Cq P (sq m k):=nr rfl
theorem sq_stk:sq stk k=stk:=nr rfl
theorem sq_ite(c:Prop)[Decidable c](a b:Mo Fl):sq (if c then a else b) k=if c then sq a k else sq b k:=by split<;>rfl
theorem uU(o:Option α)(h:α->Mo Fl):sq (aw o h) k=aw o fun a=>sq (h a) k:=by cases o<;>rfl
theorem s_next:mS ux ρ=ret (.nx ρ):=nr rfl
theorem s_seq:mS (zC t u) ρ=sq (mS t ρ) (mS u):=by
 refine af fun Q=>?_;show t ⟨fun ρ=>u ⟨_,_,_,_⟩ ρ,_,_,_⟩ ρ↔_;exact Jz
theorem s_drop:mS (xC fa) ρ=Cy (fa ρ) fun _=>ret (.nx ρ):=nr rfl
theorem s_ret:mS (zD fa) ρ=Cy (fa ρ) fun w=>ret (.rt w):=nr rfl
theorem s_retN:mS xy ρ=ret (.rt (.d .none)):=nr rfl
theorem s_ifS:mS (xA f t u) ρ=Cy (f ρ) fun b=>if b=true then mS t ρ else mS u ρ:=by
 refine af fun Q=>?_;simp only[mS,xA,Cy,dM]
theorem s_set(i:Nat):mS (zB i fa) ρ=Cy (fa ρ) fun w=>Cq (w.isPk=false) (ret (.nx (ρ.set i (some w)))):=nr rfl
theorem s_never:mS (fun _ _=>False) ρ=stk:=nr rfl
theorem m_hName(i:Nat)(x:DH):pA i x ρ=ret (ρ.set i (some (.d x))):=nr rfl
theorem v4(xs:List DH):yt xs ρ=Cq (xs=[]) (ret ρ):=nr rfl
theorem sS{g:CO}{gs:kQ}(xs:List DH):pB g gs xs ρ=aw (match xs with | []=>none|y::r=>some (y,r)) fun p=>Cy (g p.1 ρ) fun ρ'=>gs p.2 ρ':=by
 refine af fun Q=>?_;simp only[ag,pB,Cy];constructor
 · rintro⟨y,r,rfl,q⟩;exact⟨(y,r),rfl,q⟩
 · rintro⟨p,e,q⟩
   cases xs with
   | nil=>cases e
   | cons y r=>cases e;exact⟨y,r,rfl,q⟩
theorem m_hCons_c{g:CO}{gs:kQ}(y:DH)(r:List DH):pB g gs (y::r) ρ=Cy (g y ρ) fun ρ'=>gs r ρ':=by rw[sS];rfl
theorem m_hNil_n:yt [] ρ=ret ρ:=by rw[v4,aj rfl]
theorem m_hTup(n:Nat){gs:kQ}(x:DH):yr n gs x ρ=aw (tupD x) fun xs=>Cq (xs.length=n) (gs xs ρ):=by
 refine af fun Q=>?_;simp only[ag,rq,yr,Cq]
theorem s_asg{g:CO}:mS (xE fa g) ρ=Cy (fa ρ) fun w=>aw (asD w) fun x=>Cy (g x ρ) fun ρ'=>ret (.nx ρ'):=by
 refine af fun Q=>?_;simp only[mS,xE,Cy,ag,iH,ret]
theorem s_par(i j:Nat):mS (zE i j fs) ρ=Cy (fs ρ) fun ws=>aw (gO ws) fun ds=>aw (match ds with | [x,y]=>some (x,y)|_=>none) fun p=>ret (.nx ((ρ.set i (some (.d p.1))).set j (some (.d p.2)))):=by
 show(Cy (fs ρ) fun ws=>fun(Q:Fl->Prop)=>∃x y,gO ws=some [x,y]/\Q (.nx ((ρ.set i (some (.d x))).set j (some (.d y)))))=_;congr 1;funext ws;refine af fun Q=>?_;simp only[ag,ret];constructor
 · rintro⟨x,y,e,q⟩;exact⟨_,e,(x,y),rfl,q⟩
 · rintro⟨ds,e,p,e2,q⟩;split at e2
   · cases e2;exact⟨_,_,e,q⟩
   · cases e2
theorem s_par3(i j l:Nat):mS (uv i j l fs) ρ=Cy (fs ρ) fun ws=>aw (gO ws) fun ds=>aw (match ds with | [x,y,z]=>some (x,y,z)|_=>none) fun p=>ret (.nx (((ρ.set i (some (.d p.1))).set j (some (.d p.2.1))).set l (some (.d p.2.2)))):=by
 show(Cy (fs ρ) fun ws=>fun(Q:Fl->Prop)=>∃x y z,gO ws=some [x,y,z]/\Q (.nx (((ρ.set i (some (.d x))).set j (some (.d y))).set l (some (.d z)))))=_;congr 1;funext ws;refine af fun Q=>?_;simp only[ag,ret];constructor
 · rintro⟨x,y,z,e,q⟩;exact⟨_,e,(x,y,z),rfl,q⟩
 · rintro⟨ds,e,p,e2,q⟩;split at e2
   · cases e2;exact⟨_,_,_,e,q⟩
   · cases e2
noncomputable def BQ(ρ:En)(i:Nat):Option Int:=((ρ[i]?).join).bind asI
noncomputable def asM:W->Option (List DH)
 | .ml xs=>some xs
 | _=>none
noncomputable def BP(ρ:En)(i:Nat):Option (List DH):=((ρ[i]?).join).bind asM
theorem asM_ml(xs:List DH):asM (.ml xs)=some xs:=rfl
theorem Ac{w:W}:asM w=some xs↔w = .ml xs:=by
 constructor
 · intro h;unfold asM at h;split at h<;>simp_all
 · rintro rfl;rfl
theorem fS:BP ρ i=some xs↔ρ[i]?=some (some (.ml xs)):=by
 unfold BP;constructor
 · intro h
   cases q:ρ[i]? with
   | none=>rw[q]at h;cases h
   | some o=>rw[q]at h;cases o with
     | none=>cases h
     | some w=>rw[Ac.mp h]
 · intro h;rw[h];rfl
theorem uX{n:Int}:BQ ρ i=some n↔ρ[i]?=some (some (.d (.int n))):=by
 unfold BQ;constructor
 · intro h
   cases q:ρ[i]? with
   | none=>rw[q]at h;cases h
   | some o=>rw[q]at h;cases o with
     | none=>cases h
     | some w=>rw[bL.mp h]
 · intro h;rw[h];rfl
theorem s_aug(i:Nat)(C:Int->Int->Prop)(h:Int->Int->Int):mS (xD i C h fa) ρ=aw (BQ ρ i) fun n=>Cy (fa ρ) fun w=>aw (asI w) fun m=>Cq (C n m) (ret (.nx (ρ.set i (some (.d (.int (h n m))))))):=by
 refine af fun Q=>?_;simp only[mS,xD,Cy,ag,uX,bL,Cq,ret]
theorem s_augL(i:Nat):mS (uC i fa) ρ=aw (BP ρ i) fun xs=>Cy (fa ρ) fun w=>aw (CD w) fun ys=>Cq (w.isPk=false) (Cq (xs.length+ys.length<=sizeLine) (ret (.nx (ρ.set i (some (.ml (xs++ys))))))):=by
 refine af fun Q=>?_;simp only[mS,uC,ag,fS];refine exists_congr fun xs=>and_congr_right fun _=>?_;show(fa ρ fun w=>∃ys,w.isPk=false/\w.dat=some (.list ys)/\_/\_)↔(fa ρ fun w=>_)
 have:(fun w:W=>∃ys,w.isPk=false/\w.dat=some (.list ys)/\xs.length+ys.length<=sizeLine/\Q (.nx (ρ.set i (some (.ml (xs++ys))))))=fun w=>(aw (CD w) fun ys=>Cq (w.isPk=false) (Cq (xs.length+ys.length<=sizeLine) (ret (.nx (ρ.set i (some (.ml (xs++ys)))))))) Q:=by
  funext w;refine propext ?_;rw[ag];simp only[ge,Cq,ret];exact⟨fun⟨ys,a,b,c,d⟩=>⟨ys,b,a,c,d⟩,fun⟨ys,b,a,c,d⟩=>⟨ys,a,b,c,d⟩⟩
 rw[this]
theorem s_frz(i:Nat):mS (xB i t) ρ=aw (BP ρ i) fun xs=>mS t (ρ.set i (some (.d (.list xs)))):=by
 refine af fun Q=>?_;simp only[mS,xB,ag,fS]
theorem s_mut(i:Nat)(h:List DH->List W->(List DH->Prop)->Prop):mS (uz i h fs) ρ=aw (BP ρ i) fun xs=>Cy (fs ρ) fun ws=>Cy (h xs ws) fun ys=>ret (.nx (ρ.set i (some (.ml ys)))):=by
 refine af fun Q=>?_;simp only[mS,uz,Cy,ag,fS,ret]
theorem m_gApp(xs:List DH)(w:W):xi xs [w]=aw (asD w) fun x=>Cq (xs.length<sizeLine) (ret (xs++[x])):=by
 refine af fun Q=>?_;simp only[xi,ag,iH,Cq,ret];constructor
 · rintro⟨x,e,a,q⟩;cases w<;>first|(cases e;exact⟨_,rfl,a,q⟩)|cases e
 · rintro⟨x,rfl,a,q⟩;exact⟨x,rfl,a,q⟩
theorem m_gExt(xs:List DH)(w:W):xg xs [w]=aw ((asD w).bind lstD) fun ys=>Cq (xs.length+ys.length<=sizeLine) (ret (xs++ys)):=by
 refine af fun Q=>?_;simp only[xg,ag,Cq,ret];constructor
 · rintro⟨x,e,a,q⟩;cases w<;>first|(cases e;exact⟨_,rfl,a,q⟩)|cases e
 · rintro⟨x,e,a,q⟩
   cases h:asD w with
   | none=>rw[h]at e;cases e
   | some d=>rw[h]at e;rw[iH.mp h,sU.mp e];exact⟨x,rfl,a,q⟩
theorem s_retO(i:Nat):mS (ut i) ρ=aw (BP ρ i) fun xs=>ret (.rt (.ml xs)):=by
 refine af fun Q=>?_;simp only[mS,ut,ag,fS,ret]
theorem s_appPop(i j:Nat):mS (k_ i j fa) ρ=aw (BP ρ i) fun xs=>aw (BP ρ j) fun ys=>Cy (fa ρ) fun w=>aw (asI w) fun k=>Cq (0<=k/\k<(ys.length:Int)/\ys.length<2^62) (aw (ys[k.toNat]?) fun y=>Cq (xs.length<sizeLine) (ret (.nx ((ρ.set j (some (.ml (ys.eraseIdx k.toNat)))).set i (some (.ml (xs++[y]))))))):=by
 refine af fun Q=>?_;simp only[mS,k_,ag,fS]
 have:∀xs ys:List DH,(fun w:W=>∃k y,w = .d (.int k)/\0<=k/\k<(ys.length:Int)/\ys.length<2^62/\ys[k.toNat]?=some y/\xs.length<sizeLine/\Q (.nx ((ρ.set j (some (.ml (ys.eraseIdx k.toNat)))).set i (some (.ml (xs++[y]))))))=fun w=>(aw (asI w) fun k=>Cq (0<=k/\k<(ys.length:Int)/\ys.length<2^62) (aw (ys[k.toNat]?) fun y=>Cq (xs.length<sizeLine) (ret (.nx ((ρ.set j (some (.ml (ys.eraseIdx k.toNat)))).set i (some (.ml (xs++[y])))))))) Q:=by
  intro xs ys;funext w;refine propext ?_;simp only[ag,bL,Cq,ret];exact⟨fun⟨k,y,a,b,c,d,e,f,q⟩=>⟨k,a,⟨b,c,d⟩,y,e,f,q⟩,fun⟨k,a,⟨b,c,d⟩,y,e,f,q⟩=>⟨k,y,a,b,c,d,e,f,q⟩⟩
 constructor
 · rintro⟨xs,ys,e1,e2,q⟩;refine⟨xs,e1,ys,e2,?_⟩;rw[this]at q;exact q
 · rintro⟨xs,e1,ys,e2,q⟩;refine⟨xs,ys,e1,e2,?_⟩;rw[this];exact q
end
noncomputable def Le(a b:En):Prop:=a.length=b.length/\∀(i:Nat) w,a[i]?=some (some w)->b[i]?=some (some w)
theorem Le.refl(a:En):Le a a:=⟨rfl,fun _ _ h=>h⟩
theorem Le.trans{a b c:En}(h:Le a b)(h':Le b c):Le a c:=⟨h.1.trans h'.1,fun i w e=>h'.2 i w (h.2 i w e)⟩
theorem le_nil:Le [] []=True:=propext ⟨fun _=>trivial,fun _=>Le.refl _⟩
theorem le_cn(x:Option W)(a b:En):Le (none::a) (x::b)=Le a b:=by
 refine propext ⟨fun h=>⟨by have:=h.1;simpa using this,fun i w e=>by have:=h.2 (i+1) w (by simpa using e);simpa using this⟩,fun h=>⟨by simp[h.1],fun i w e=>?_⟩⟩
 cases i with
 | zero=>simp at e
 | succ i=>simpa using h.2 i w (by simpa using e)
theorem le_cs(x:Option W)(a b:En):Le (x::a) (x::b)=Le a b:=by
 refine propext ⟨fun h=>⟨by have:=h.1;simpa using this,fun i w e=>by have:=h.2 (i+1) w (by simpa using e);simpa using this⟩,fun h=>⟨by simp[h.1],fun i w e=>?_⟩⟩
 cases i with
 | zero=>simpa using e
 | succ i=>simpa using h.2 i w (by simpa using e)
theorem VR.le{K:W.Frag}{ρ0:En}(R:VR K rl F₀ H₀ F H σ ρ)(h:Le ρ0 ρ):VR K rl F₀ H₀ F H σ ρ0 :=
 ⟨R.g,fun i w e=>R.sl i w (h.2 i w e),fun i j x y v n e1 e2=>R.ap i j x y v n (h.2 i x e1) (h.2 j y e2),fun i xs e=>R.np i xs (h.2 i _ e),h.1.trans R.len⟩
noncomputable def fo:List Nat->En->En
 | [],ρ=>ρ
 | i::l,ρ=>fo l (ρ.set i none)
theorem v_(ρ:En)(i:Nat):Le (ρ.set i none) ρ:=by
 refine⟨by simp,fun j w e=>?_⟩;rw[E5]at e;split at e
 · split at e
   · cases e
   · cases e
 · exact e
theorem gG:∀(l:List Nat)(ρ:En),Le (fo l ρ) ρ
 | [],ρ=>Le.refl ρ
 | i::l,ρ=>(gG l (ρ.set i none)).trans (v_ ρ i)
theorem fo_nil(ρ:En):fo [] ρ=ρ:=rfl
theorem fo_cons(i:Nat)(l:List Nat)(ρ:En):fo (i::l) ρ=fo l (ρ.set i none):=rfl
noncomputable def cA(fl:List Nat)(g:CO)(t:CK):List DH->CK
 | [],D,ρ=>D.nx ρ
 | x::xs,D,ρ=>g x ρ fun ρ2=>t {D with nx:=fun ρ'=>cA fl g t xs D (fo fl ρ'),ct:=fun ρ'=>cA fl g t xs D (fo fl ρ'),bk:=fun ρ'=>D.nx (fo fl ρ')} ρ2
noncomputable def uA(fl:List Nat)(fi:En->(List DH->Prop)->Prop)(g:CO)(t:CK):CK:=fun D ρ=>fi ρ fun xs=>cA fl g t xs D (fo fl ρ)
section
variable{X:Cx}{rl:RlT}{st:Stmt}{rest body:List Stmt}{t u:CK}{a b c e:Expr}{es:List Expr}{fa fb:TV}{fs:CJ}{f:TB}{pos p:Pos}
theorem bM(fl:List Nat){g:CO}(hp:KL (Ek X.prog X.w) X.A X.env X.xe)(hc:X.calm=true)(hi:C9 X rl tg iter fi)(hg:Db X rl tg g)(hb:kd X rl body t)
 (hs:autoParam (∀x,Ey iter X.env x=pure x) æd._auto_1):C5 X rl (.For tg iter body [] pos) (uA fl fi g t):=by
 obtain⟨wi,p0,k0⟩:=hi;obtain⟨G,p1,k1⟩:=hg;obtain⟨T,p2,k2⟩:=hb;refine⟨_,qo hp hc p0 p1 p2 hs,fun{F₀ H₀ F H σ ρ} R Dv D ok q=>k0 R _ _ q fun J xs F1 H1 g1 vi q1=>?_⟩;refine⟨fun i m σ H=>m=xs.length-i/\i<=xs.length/\∃F ρ,bf F1 F/\VR X.K rl F₀ H₀ F H σ ρ/\cA fl g t (xs.drop i) Dv ρ,⟨xs.length,by simp,Ei _,F1,fo fl ρ,.refl _,(R.grow g1).le (gG fl ρ),by simpa using q1⟩,?_⟩;rintro i m σ H ⟨rfl,hi,F2,ρ2,s2,R2,j2⟩;have sH:bf F1 H:=s2.trans R2.sub;by_cases hlt:i<xs.length
 · have ei:xs[i]?=some xs[i]:=by simp[hlt]
   rw[FU hlt]at j2;refine .inr ⟨vi.go i H _ ei sH,fun σ' H'=>∃F ρ,bf F1 F/\VR X.K rl F₀ H₀ F H' σ' ρ/\cA fl g t (xs.drop (i+1)) Dv ρ,fun σ' H' z=>⟨xs.length-(i+1),by omega,rfl,hlt,z⟩,fun v H' y=>?_⟩;obtain⟨Fy,gy,rv⟩:=vi.yld i H v H' _ F2 ei s2 R2.sub R2.reel y;refine k1 (R2.grow gy) v _ _ _ rv j2 fun F3 H3 σ3 ρ3 s3 n3 R3 q3=>?_;have s13:bf F1 F3:=s2.trans (gy.fs.trans s3.fs)
   exact k2 R3 {Dv with nx:=fun ρ'=>cA fl g t (xs.drop (i+1)) Dv (fo fl ρ'),ct:=fun ρ'=>cA fl g t (xs.drop (i+1)) Dv (fo fl ρ'),bk:=fun ρ'=>Dv.nx (fo fl ρ')} _
    ⟨fun F4 H4 σ4 ρ4 s4 R4 q4=>⟨F4,fo fl ρ4,s13.trans s4,R4.le (gG fl ρ4),q4⟩,ok.rt,fun F4 H4 σ4 ρ4 s4 R4 q4=>ok.nx _ _ _ _ (g1.fs.trans (s13.trans s4)) (R4.le (gG fl ρ4)) q4,fun F4 H4 σ4 ρ4 s4 R4 q4=>⟨F4,fo fl ρ4,s13.trans s4,R4.le (gG fl ρ4),q4⟩⟩ q3
 · have e:i=xs.length:=by omega
   subst e;rw[GR]at j2;exact .inl ⟨vi.stop _ H (DQ _) sH,ok.nx _ _ _ _ (g1.fs.trans s2) R2 j2⟩
noncomputable def Bm(fl:List Nat)(f:TB)(t:CK)(m:Nat):CK:=fun D ρ=>f ρ fun b=>if b=true then t {D with nx:=fun ρ'=>∃k,∃h:k<m,Bm fl f t k D (fo fl ρ'),ct:=fun ρ'=>∃k,∃h:k<m,Bm fl f t k D (fo fl ρ'),bk:=fun ρ'=>D.nx (fo fl ρ')} ρ else D.nx ρ
termination_by m
noncomputable def k6(fl:List Nat)(f:TB)(t:CK):CK:=fun D ρ=>∃m,Bm fl f t m D (fo fl ρ)
theorem p6(fl:List Nat)(f:TB)(t:CK)(m:Nat)(D:VEnds)(ρ:En):Bm fl f t m D ρ=f ρ fun b=>if b=true then t {D with nx:=fun ρ'=>∃k,∃h:k<m,Bm fl f t k D (fo fl ρ'),ct:=fun ρ'=>∃k,∃h:k<m,Bm fl f t k D (fo fl ρ'),bk:=fun ρ'=>D.nx (fo fl ρ')} ρ else D.nx ρ:=by
 conv=>lhs;unfold Bm
theorem d_(fl:List Nat)(hp:KL (Ek X.prog X.w) X.A X.env X.xe)(hc:PB X rl c f)(hb:kd X rl body t):C5 X rl (.While c body [] pos) (k6 fl f t):=by
 obtain⟨t0,p0,k0⟩:=hc;obtain⟨t1,p1,k1⟩:=hb;refine⟨_,oG hp p0 p1,fun{F₀ H₀ F H σ ρ} R Dv D ok q=>?_⟩;obtain⟨m,j0⟩:=q;refine⟨fun m σ' H'=>∃F' ρ',bf F F'/\VR X.K rl F₀ H₀ F' H' σ' ρ'/\Bm fl f t m Dv ρ',⟨m,F,fo fl ρ,.refl _,R.le (gG fl ρ),j0⟩,?_⟩;rintro m σ2 H2 ⟨F2,ρ2,s2,R2,j⟩;rw[p6]at j;refine k0 R2 _ _ j fun b F1 H1 g1 q1=>?_
 cases b with
 | false=>exact ok.nx _ _ _ _ (s2.trans g1.fs) (R2.grow g1) q1
 | true =>
   refine⟨fun σ' H'=>∃F' ρ',bf F F'/\VR X.K rl F₀ H₀ F' H' σ' ρ'/\∃m',m'<m/\Bm fl f t m' Dv ρ',fun σ' H' ⟨F',ρ',s',R',m',hm,j⟩=>⟨m',hm,F',ρ',s',R',j⟩,?_⟩
   exact k1 (R2.grow g1) {Dv with nx:=fun ρ'=>∃k,∃h:k<m,Bm fl f t k Dv (fo fl ρ'),ct:=fun ρ'=>∃k,∃h:k<m,Bm fl f t k Dv (fo fl ρ'),bk:=fun ρ'=>Dv.nx (fo fl ρ')} _
    ⟨fun F3 H3 σ3 ρ3 s3 R3 ⟨m',hm,q3⟩=>⟨F3,fo fl ρ3,(s2.trans g1.fs).trans s3,R3.le (gG fl ρ3),m',hm,q3⟩,ok.rt,fun F3 H3 σ3 ρ3 s3 R3 q3=>ok.nx _ _ _ _ ((s2.trans g1.fs).trans s3) (R3.le (gG fl ρ3)) q3,fun F3 H3 σ3 ρ3 s3 R3 ⟨m',hm,q3⟩=>⟨F3,fo fl ρ3,(s2.trans g1.fs).trans s3,R3.le (gG fl ρ3),m',hm,q3⟩⟩ q1
end
noncomputable def Ch(fl:List Nat)(k:En->Mo Fl):Fl->Mo Fl
 | .nx ρ=>k (fo fl ρ)
 | .ct ρ=>k (fo fl ρ)
 | .bk ρ=>ret (.nx (fo fl ρ))
 | .rt w=>ret (.rt w)
noncomputable def eU(fl:List Nat)(b:DH->En->Mo Fl):List DH->En->Mo Fl
 | [],ρ=>ret (.nx ρ)
 | x::xs,ρ=>Cy (b x ρ) (Ch fl (eU fl b xs))
theorem mC(fl:List Nat)(g:CO)(t:CK):∀(xs:List DH)(ρ:En),mS (cA fl g t xs) ρ=eU fl (fun x ρ=>Cy (g x ρ) (mS t)) xs ρ
 | [],ρ=>rfl
 | x::xs,ρ=>by
   refine af fun Q=>?_;show(g x ρ fun ρ2=>t ⟨fun ρ'=>mS (cA fl g t xs) (fo fl ρ') Q,fun w=>Q (.rt w),fun ρ'=>Q (.nx (fo fl ρ')),fun ρ'=>mS (cA fl g t xs) (fo fl ρ') Q⟩ ρ2)↔_;simp only[mC fl g t xs];exact Jz
noncomputable def Cz(g:CO)(t:CK):DH->En->Mo Fl:=fun x ρ=>Cy (g x ρ) (mS t)
theorem bdy_ap(g:CO)(t:CK)(x:DH)(ρ:En):Cz g t x ρ=Cy (g x ρ) (mS t):=nr rfl
theorem s_for(fl:List Nat)(fi:En->(List DH->Prop)->Prop)(g:CO)(t:CK)(ρ:En):mS (uA fl fi g t) ρ=Cy (fi ρ) fun xs=>eU fl (Cz g t) xs (fo fl ρ):=by
 refine af fun Q=>?_;show(fi ρ fun xs=>mS (cA fl g t xs) (fo fl ρ) Q)↔_;simp only[mC];exact Jz
noncomputable def Cg(fl:List Nat)(J:En->Prop)(Q:Fl->Prop):Fl->Prop
 | .nx ρ=>J (fo fl ρ)
 | .ct ρ=>J (fo fl ρ)
 | .bk ρ=>Q (.nx (fo fl ρ))
 | .rt w=>Q (.rt w)
section
variable{α σ:Type}{fl:List Nat}{b:DH->En->Mo Fl}
theorem jN(J:Nat->En->Prop){Q:Fl->Prop}:∀{xs:List DH}{ρ:En}(n:Nat),J n ρ->(∀i x ρ,xs[i]?=some x->J (n+i) ρ->∀k:Fl->Prop,(∀r,Cg fl (J (n+i+1)) Q r->k r)->b x ρ k)->(∀ρ,J (n+xs.length) ρ->Q (.nx ρ))->eU fl b xs ρ Q
 | [],ρ,n,h0,_,fin=>fin ρ h0
 | x::xs,ρ,n,h0,step,fin=>by
   refine step 0 x ρ rfl h0 (fun r=>Ch fl (eU fl b xs) r Q) fun r hr=>?_;have rc:∀ρ',J (n+1) ρ'->eU fl b xs ρ' Q:=fun ρ' h'=>jN J (n+1) h' (fun i y ρ e j k hk=>step (i+1) y ρ (by simpa using e) (by rw[show n+(i+1)=n+1+i by omega];exact j) k (by rw[show n+(i+1)+1=n+1+i+1 by omega];exact hk)) (fun ρ j=>fin ρ (by rw[DX,show n+(xs.length+1)=n+1+xs.length by omega];exact j))
   cases r with
   | nx ρ'=>exact rc _ hr
   | ct ρ'=>exact rc _ hr
   | bk ρ'=>exact hr
   | rt w=>exact hr
theorem mD{xs:List α}{enc:α->DH}{Q:Fl->Prop}(J:Nat->En->Prop)(h0:J 0 ρ)
 (step:∀i (h:i<xs.length) ρ,J i ρ->∀k:Fl->Prop,(∀r,Cg fl (J (i+1)) Q r->k r)->b (enc xs[i]) ρ k)(fin:∀ρ,J xs.length ρ->Q (.nx ρ)):eU fl b (xs.map enc) ρ Q:=by
 refine jN J 0 h0 (fun i x ρ e j k hk=>?_) (fun ρ j=>fin ρ (by simpa using j));have hi:i<xs.length:=by have:=(Ec.mp e).1;simpa using this
 rw[Ez,DP hi]at e;cases e;rw[J6]at j hk;exact step i hi ρ j k hk
theorem oT{lo:Int}{Q:Fl->Prop}(J:Nat->En->Prop)(h0:J 0 ρ)
 (step:∀i,i<n->∀ρ,J i ρ->∀k:Fl->Prop,(∀r,Cg fl (J (i+1)) Q r->k r)->b (.int (lo+i)) ρ k)(fin:∀ρ,J n ρ->Q (.nx ρ)):eU fl b (aF lo n) ρ Q:=by
 refine mD (xs:=D8 n) J h0 (fun i h ρ j k hk=>?_) (fun ρ j=>fin ρ (by simpa using j));rw[GY];exact step i (by simpa using h) ρ j k hk
end
noncomputable def fK(fl:List Nat)(f:TB)(t:CK)(ρ:En):Mo Fl:=fun Q=>∃m,mS (Bm fl f t m) ρ Q
theorem s_while(fl:List Nat)(f:TB)(t:CK)(ρ:En):mS (k6 fl f t) ρ=fK fl f t (fo fl ρ):=nr rfl
theorem nX(fl:List Nat)(f:TB)(t:CK)(m:Nat)(ρ:En):mS (Bm fl f t m) ρ=Cy (f ρ) fun b=>if b=true then Cy (mS t ρ) (Ch fl fun ρ'=>fun Q=>∃k,∃h:k<m,mS (Bm fl f t k) ρ' Q)else ret (.nx ρ):=by
 refine af fun Q=>?_;show Bm fl f t m _ ρ↔_;rw[p6];simp only[Cy,dM];exact Jz
theorem qR{fl:List Nat}{f:TB}{t:CK}(h:f ρ=ret false):fK fl f t ρ=ret (.nx ρ):=by
 refine af fun Q=>?_;constructor
 · rintro⟨m,q⟩;rw[nX,h,bnd_ret,if_neg (by decide)]at q;exact q
 · intro q;refine⟨0,?_⟩;rw[nX,h,bnd_ret,if_neg (by decide)];exact q
theorem qQ{fl:List Nat}{f:TB}{t:CK}{ρ':En}(h:f ρ=ret true)(h2:mS t ρ=ret (.nx ρ')):fK fl f t ρ=fK fl f t (fo fl ρ'):=by
 refine af fun Q=>?_;constructor
 · rintro⟨m,q⟩;rw[nX,h,bnd_ret,if_pos rfl,h2,bnd_ret]at q;obtain⟨k,_,q⟩:=q;exact⟨k,q⟩
 · rintro⟨m,q⟩;refine⟨m+1,?_⟩;rw[nX,h,bnd_ret,if_pos rfl,h2,bnd_ret];exact⟨m,JJ m,q⟩
theorem kR{σ:Type}{fl:List Nat}{f:TB}{t:CK}(st:σ->En)(c:σ->Bool)(nxt:σ->σ)(μ:σ->Nat)(I:σ->Prop)
 (hf:∀s,I s->f (st s)=ret (c s))(ht:∀s,I s->c s=true->I (nxt s)/\μ (nxt s)<μ s/\∃ρ',mS t (st s)=ret (.nx ρ')/\fo fl ρ'=st (nxt s))(s:σ)(hs:I s):∃s',I s'/\c s'=false/\fK fl f t (st s)=ret (.nx (st s')):=by
 induction hm:μ s using Nat.strongRecOn generalizing s with
 | ind n ih =>
   subst hm
   cases hc:c s with
   | false=>exact⟨s,hs,hc,qR (by rw[hf s hs,hc])⟩
   | true =>
     obtain⟨i1,m1,ρ',e1,e2⟩:=ht s hs hc;obtain⟨s',a,b,e⟩:=ih _ m1 (nxt s) i1 rfl;exact⟨s',a,b,by rw[qQ (by rw[hf s hs,hc]) e1,e2,e]⟩
noncomputable def k7(ρ0:En)(g:CO)(ft:TB)(fe:TV):List DH->List DH->(List DH->Prop)->Prop
 | [],acc,Q=>Q acc
 | x::xs,acc,Q=>g x ρ0 fun ρ2=>Le ρ0 ρ2/\ft ρ2 fun b=>if b=true then fe ρ2 fun w=>∃d,w.fz = .d d/\acc.length<sizeLine/\k7 ρ0 g ft fe xs (acc++[d]) Q else k7 ρ0 g ft fe xs acc Q
noncomputable def jn(fi:En->(List DH->Prop)->Prop)(fr:List (Option Nat))(g:CO)(ft:TB)(fe:TV):TV:=fun ρ Q=>fi ρ fun xs=>k7 (d9 fr ρ) g ft fe xs [] fun ds=>Q (.ml ds)
section
variable{X:Cx}{rl:RlT}{elt tg iter:Expr}{ifs:List Expr}{scope:Scope}{pos:Pos}{fi:En->(List DH->Prop)->Prop}{g:CO}{ft:TB}{fe:TV}
theorem jP{N':List Str}{wi:TI}(fr:List (Option Nat))(k0:∀{F₀ H₀ F H:Hp}{σ:St}{ρ:En},VR X.K rl F₀ H₀ F H σ ρ->∀(Qd:List DH->Prop)(R:It->Hp->Prop),fi ρ Qd ->
 (∀J xs F' H',Grow rl F H F' H'->VIt X.K rl F' J xs->Qd xs->R J H')->wi σ H R)
 (hg:∀y,Db (blk X N' scope y) rl tg g)(ht:∀y,nW (blk X N' scope y) rl ifs ft)(he:∀y,PV (blk X N' scope y) rl elt fe)
 (R:VR X.K rl F₀ H₀ F H σ ρ)(Qd:W->Prop)(Q:VK)(q:jn fi fr g ft fe ρ Qd)
 (k:∀v w F' H',Grow rl F H F' H'->cL X.K rl F' H' v w->dm H v w->Qd w->Q v H'):rE wi fr (fun y=>FK (hg y)) (fun y=>FK (ht y)) (fun y=>FK (he y)) σ H Q:=by
 refine k0 R _ _ q fun J xs F1 H1 g1 vi q1=>?_;intro D hD;have rD:rl.a≠some D:=fun e=>by obtain⟨o,z⟩:=g1.reel.live e;rw[hD]at z;cases z
 have FD:F1 D=none:=g1.sub.free hD;have gD:Grow rl F1 H1 F1 (Bt H1 D (.lst [])):=Grow.laid g1.sub g1.reel hD;have R1:=R.grow g1;have n0:jd (d9 fr ρ):=dB
 refine⟨fun i m acc σc Hc=>m=xs.length-i/\i<=xs.length/\∃Fc ds,VR X.K rl F1 H1 Fc Hc σc (d9 fr ρ)/\Hc D=some (.lst acc)/\Fc D=none/\Reps X.K Fc acc ds/\k7 (d9 fr ρ) g ft fe (xs.drop i) ds (fun ds=>Qd (.ml ds)),
  ⟨xs.length,by simp,Ei _,F1,[],gn R1 gD,al,FD,.nil,by simpa using q1⟩,?_⟩
 rintro z i m acc σc Hc ⟨rfl,hi,Fc,ds,Rc,hDc,fDc,rs,q2⟩;have sH:bf F1 Hc:=Rc.g.fs.trans Rc.sub;by_cases hlt:i<xs.length
 · have ei:xs[i]?=some xs[i]:=by simp[hlt]
   have ed:xs.drop i=xs[i]::xs.drop (i+1):=FU hlt;rw[ed]at q2;refine .inr ⟨vi.go i Hc _ ei sH,fun v H' y=>?_⟩;obtain⟨Fy,gy,rv⟩:=vi.yld i Hc v H' _ Fc ei Rc.g.fs Rc.sub Rc.reel y;refine(DW (hg z)).2 (Rc.grow gy) v _ _ _ rv q2 fun F3 H3 σ3 ρ3 g3 n3 R3 ⟨le3,q3⟩=>?_;refine(DW (ht z)).2 R3 _ _ q3 fun b F4 H4 g4 q4=>?_;have R4:=R3.grow g4;have g34:=(gy.trans g3).trans g4;have keepD:∀{Fx Hx:Hp},Grow rl Fc Hc Fx Hx->Hx D=some (.lst acc)/\Fx D=none:=fun gx=>⟨gx.same D _ hDc rD,by rw[gx.old D _ hDc];exact fDc⟩
   cases b with
   | false=>exact⟨xs.length-(i+1),by omega,rfl,hlt,F4,ds,R4.le le3,(keepD g34).1,(keepD g34).2,rs.mono g34.fs,q4⟩
   | true =>
     refine(DW (he z)).2 R4 _ _ q4 fun v5 w5 F5 H5 g5 r5 n5 ⟨d,ed5,hl,q5⟩=>?_;obtain⟨F6,g6,s6,r6⟩:=cL.fz g5 r5 n5;rw[ed5]at r6;have g36:=g34.trans g6;refine⟨(keepD g36).1,by rw[rs.length];exact hl,xs.length-(i+1),by omega,rfl,hlt,F6,ds++[d],((R4.grow g6).le le3).other n0 hD (keepD g36).2 rD,al,(keepD g36).2,(rs.mono g36.fs).snoc r6,q5⟩
 · have e:i=xs.length:=by omega
   subst e;rw[GR]at q2;refine .inl ⟨vi.stop _ Hc (DQ _) sH,k _ (.ml ds) Fc Hc (g1.trans Rc.g) ⟨D,acc,rfl,fDc,rD,hDc,rs⟩ (fun a ea=>by cases ea;exact g1.freeB hD) q2⟩
theorem bj(N':List Str)(fr:List (Option Nat))(hc:X.calm=true)(hi:C9 X rl tg iter fi)
 (hg:∀y,Db (blk X N' scope y) rl tg g)(ht:∀y,nW (blk X N' scope y) rl ifs ft)(he:∀y,PV (blk X N' scope y) rl elt fe)
 (hfr:autoParam (pM fr N' X.N scope X.env.scope=true) æa._auto_1)(hsc:autoParam (qg scope X.env.scope=true) æa._auto_1)
 (hs:autoParam (∀x,Ey iter X.env x=pure x) æd._auto_1):PV X rl (.ListComp elt [⟨tg,iter,ifs,0⟩] scope pos) (jn fi fr g ft fe):=by
 obtain⟨wi,p0,k0⟩:=hi;exact⟨_,jD N' fr hc p0 hfr hsc (fun y=>(DW (hg y)).1) (fun y=>(DW (ht y)).1) (fun y=>(DW (he y)).1) hs,fun R Qd Q q k=>jP fr k0 hg ht he R Qd Q q k⟩
end
noncomputable def Ck(ρ0:En)(g:CO)(ft:TB)(fe:TV)(x:DH):Mo (Option DH):=Cy (g x ρ0) fun ρ2=>Cq (Le ρ0 ρ2) (Cy (ft ρ2) fun b=>if b=true then Cy (fe ρ2) fun w=>aw (asD w.fz) fun d=>ret (some d)else ret none)
noncomputable def bO(b:DH->Mo (Option DH)):List DH->List DH->Mo (List DH)
 | [],acc=>ret acc
 | x::xs,acc=>Cy (b x) fun o=>match o with
   | some d=>Cq (acc.length<sizeLine) (bO b xs (acc++[d]))
   | none=>bO b xs acc
theorem i8(ρ0:En)(g:CO)(ft:TB)(fe:TV):∀(xs acc:List DH),k7 ρ0 g ft fe xs acc=bO (Ck ρ0 g ft fe) xs acc
 | [],acc=>rfl
 | x::xs,acc=>by
   refine af fun Q=>?_;show(g x ρ0 fun ρ2=>Le ρ0 ρ2/\ft ρ2 fun b=>if b=true then fe ρ2 fun w=>∃d,w.fz = .d d/\acc.length<sizeLine/\k7 ρ0 g ft fe xs (acc++[d]) Q else k7 ρ0 g ft fe xs acc Q)↔(Cy (Ck ρ0 g ft fe x) _) Q;simp only[i8 ρ0 g ft fe xs]
   have:∀(ρ2:En)(b:Bool),(if b=true then fe ρ2 fun w=>∃d,w.fz = .d d/\acc.length<sizeLine/\bO (Ck ρ0 g ft fe) xs (acc++[d]) Q else bO (Ck ρ0 g ft fe) xs acc Q)=(Cy (if b=true then Cy (fe ρ2) fun w=>aw (asD w.fz) fun d=>ret (some d)else ret none) fun o=>match o with
   | some d=>Cq (acc.length<sizeLine) (bO (Ck ρ0 g ft fe) xs (acc++[d]))
   | none=>bO (Ck ρ0 g ft fe) xs acc) Q:=by
     intro ρ2 b
     cases b with
     | false=>rfl
     | true =>
       rw[if_pos rfl,if_pos rfl];show _=fe ρ2 fun w=>_;congr 1;funext w;refine propext ?_;show _↔(Cy (aw (asD w.fz) fun d=>ret (some d)) _) Q;rw[bnd_opt,ag];simp only[iH];exact Jz
   simp only[this];exact Jz
theorem m_comp(fi:En->(List DH->Prop)->Prop)(fr:List (Option Nat))(g:CO)(ft:TB)(fe:TV)(ρ:En):jn fi fr g ft fe ρ=Cy (fi ρ) fun xs=>Cy (bO (Ck (d9 fr ρ) g ft fe) xs []) fun ds=>ret (.ml ds):=by
 refine af fun Q=>?_;show(fi ρ fun xs=>k7 (d9 fr ρ) g ft fe xs [] fun ds=>Q (.ml ds))↔_;simp only[i8];exact Jz
section
variable{α:Type}{b:DH->Mo (Option DH)}
theorem dg{enc:α->DH}(f:α->Option DH):∀(xs:List α)(acc:List DH),(∀x∈xs,b (enc x)=ret (f x))->acc.length+xs.length<=sizeLine->bO b (xs.map enc) acc=ret (acc++xs.filterMap f)
 | [],acc,_,_=>by simp[bO]
 | x::xs,acc,h,hl=>by
   show Cy (b (enc x)) _=_;rw[h x DS,bnd_ret];simp at hl
   cases e:f x with
   | none =>
     show bO b (xs.map enc) acc=_
     rw[dg f xs acc (fun y hy=>h y (DL _ hy)) (by omega),List.filterMap_cons_none e]
   | some d =>
     show Cq (acc.length<sizeLine) (bO b (xs.map enc) (acc++[d]))=_;rw[aj (by omega),dg f xs (acc++[d]) (fun y hy=>h y (DL _ hy)) (by simp;omega),List.filterMap_cons_some e];simp
theorem nF{xs:List α}{enc:α->DH}(f:α->Option DH)(h:∀x∈xs,b (enc x)=ret (f x))(hl:xs.length<=sizeLine):bO b (xs.map enc) []=ret (xs.filterMap f):=by
 have:=dg f xs [] h (by simpa using hl);simpa using this
theorem comp_map{xs:List α}{enc:α->DH}(f:α->DH)(h:∀x∈xs,b (enc x)=ret (some (f x)))(hl:xs.length<=sizeLine):bO b (xs.map enc) []=ret (xs.map f):=by
 rw[nF (fun x=>some (f x)) h hl,JR]
theorem nD{lo:Int}(f:Nat->DH)(h:∀j,j<n->b (.int (lo+j))=ret (some (f j)))(hl:n<=sizeLine):bO b (aF lo n) []=ret ((D8 n).map f) :=
 comp_map (xs:=D8 n) f (fun j hj=>h j (Fg.mp hj)) (by simpa using hl)
theorem dN{enc:α->DH}(R:α->DH->Prop){Q:List DH->Prop}:∀(xs:List α)(acc:List DH),(∀x∈xs,∀k:Option DH->Prop,(∀d,R x d->k (some d))->b (enc x) k)->acc.length+xs.length<=sizeLine->(∀ds,E8 R xs ds->Q (acc++ds))->bO b (xs.map enc) acc Q
 | [],acc,_,_,fin=>by have:=fin [] .nil;rw[FY]at this;exact this
 | x::xs,acc,h,hl,fin=>by
   simp at hl;refine h x DS _ fun d r=>?_;refine⟨by omega,dN R xs (acc++[d]) (fun y hy=>h y (DL _ hy)) (by simp;omega) fun ds ps=>?_⟩;have:=fin (d::ds) (.cons r ps);simpa using this
theorem pP{xs:List α}{enc:α->DH}(R:α->DH->Prop){Q:List DH->Prop}(h:∀x∈xs,∀k:Option DH->Prop,(∀d,R x d->k (some d))->b (enc x) k)(hl:xs.length<=sizeLine)(fin:∀ds,E8 R xs ds->Q ds):bO b (xs.map enc) [] Q :=
 dN R xs [] h (by simpa using hl) (by simpa using fin)
end
section
variable(c:Prop)[Decidable c]
theorem ite_nx(a b:En):(if c then ret (Fl.nx a)else ret (Fl.nx b))=ret (Fl.nx (if c then a else b)):=by split<;>rfl
theorem ite_rt(a b:W):(if c then ret (Fl.rt a)else ret (Fl.rt b))=ret (Fl.rt (if c then a else b)):=by split<;>rfl
theorem ite_retd(a b:DH):(if c then ret (W.d a)else ret (W.d b))=ret (W.d (if c then a else b)):=by split<;>rfl
theorem ite_retb(a b:Bool):(if c then ret a else ret b)=ret (if c then a else b):=by split<;>rfl
theorem ite_rets(a b:DH):(if c then ret (some a)else ret (some b))=ret (some (if c then a else b)):=by split<;>rfl
theorem ite_cons{α:Type}(x y:α)(l m:List α):(if c then x::l else y::m)=(if c then x else y)::(if c then l else m):=by split<;>rfl
theorem ite_some{α:Type}(x y:α):(if c then some x else some y)=some (if c then x else y):=by split<;>rfl
theorem ite_d(a b:DH):(if c then W.d a else W.d b)=W.d (if c then a else b):=by split<;>rfl
theorem ite_pi(a b:Int):(if c then D5 a else D5 b)=D5 (if c then a else b):=by split<;>rfl
theorem ite_pb(a b:Bool):(if c then HF a else HF b)=HF (if c then a else b):=by split<;>rfl
theorem itb_tt(b y:Bool):(if b=true then true else y)=(b||y):=by cases b<;>rfl
theorem itb_ff(b y:Bool):(if b=true then y else false)=(b&&y):=by cases b<;>rfl
theorem itb_ft(b y:Bool):(if b=true then false else y)=(!b&&y):=by cases b<;>rfl
theorem itb_tf(b y:Bool):(if b=true then y else true)=(!b||y):=by cases b<;>rfl
end
theorem ae(h:n<=1000):(n<=sizeLine)=True:=by have:=EI;exact propext ⟨fun _=>trivial,fun _=>by omega⟩
theorem tup2(x y:DH):(match [x,y]with | [x,y]=>some (x,y)|_=>none)=some (x,y):=rfl
theorem bnd_tt{α β:Type}(a:α)(f:α->Mo β):Cy (fun Q=>Q a) f=f a:=nr rfl
section
variable{α β:Type}
theorem aB{P:α->Prop}{f:α->Mo β}{Q:β->Prop}(h:∀a,P a->f a Q):Cy (anyM P) f Q:=h
theorem de{P:Prop}{m:Mo α}{Q:α->Prop}(h:P)(h':m Q):Cq P m Q:=⟨h,h'⟩
theorem c_{c:Prop}[Decidable c]{a b:Mo α}{Q:α->Prop}(h:c->a Q)(h':¬c->b Q):(if c then a else b) Q:=by split<;>simp_all
theorem o0{b:Bool}{x y:Mo α}{Q:α->Prop}(h:b=true->x Q)(h':b=false->y Q):(if b=true then x else y) Q:=by cases b<;>simp_all
end
theorem aQ{Q:DH->Prop}(h:Q d):ret (Fl.rt (.d d)) (wF Q):=⟨d,rfl,h⟩
section
variable{α:Type}{k:En->Mo Fl}{Q:Fl->Prop}
theorem BM{m:Mo α}{h:α->Mo Fl}(z:Cy m (fun a=>sq (h a) k) Q):sq (Cy m h) k Q:=z
theorem BL{o:Option α}{h:α->Mo Fl}(z:aw o (fun a=>sq (h a) k) Q):sq (aw o h) k Q:=by rw[uU];exact z
noncomputable def kc(k1 k2:En->Mo Fl):En->Mo Fl:=fun ρ=>sq (k1 ρ) k2
theorem kc_ap(k1 k2:En->Mo Fl)(ρ:En):kc k1 k2 ρ=sq (k1 ρ) k2:=nr rfl
theorem sq_sq(m:Mo Fl)(k1 k2:En->Mo Fl):sq (sq m k1) k2=sq m (kc k1 k2):=by
 refine af fun Q=>?_;show m _↔m _;have:∀fl:Fl,(sq (match fl with | .nx ρ=>k1 ρ | .rt w=>ret (.rt w) | .bk ρ=>ret (.bk ρ) | .ct ρ=>ret (.ct ρ)) k2) Q=(match fl with | .nx ρ=>kc k1 k2 ρ | .rt w=>ret (.rt w) | .bk ρ=>ret (.bk ρ) | .ct ρ=>ret (.ct ρ):Mo Fl) Q:=by intro fl;cases fl<;>rfl
 exact Iff.of_eq (congrArg m (funext this))
theorem aO{P:α->Prop}{f:α->Mo Fl}(z:∀a,P a->sq (f a) k Q):sq (Cy (anyM P) f) k Q:=z
end
theorem pk_sc(x:List Int):L2.VL.W.peek (.sc x) = .sc x:=rfl
theorem fz_sc(x:List Int):(W.sc x).fz = .sc x:=rfl
theorem arg_sc(x:List Int):dH (.sc x)=true:=rfl
theorem isPk_sc(x:List Int):(W.sc x).isPk=false:=rfl
section
variable{X:Cx}{rl:RlT}{a b c e:Expr}{es:List Expr}{fa fb fc:TV}{fs:CJ}{pos p p2:Pos}{ρ:En}
noncomputable def wv:List W->(W->Prop)->Prop:=fun ws Q=>∃ns,ws=[.sc ns]/\Q (.d (.int ns.length))
noncomputable def asSc:W->Option (List Int)
 | .sc ns=>some ns
 | _=>none
theorem asSc_s(ns:List Int):asSc (.sc ns)=some ns:=rfl
theorem jc{w:W}{i:List Int}:asSc w=some i↔w = .sc i:=by
 constructor
 · intro h;unfold asSc at h;split at h<;>simp_all
 · rintro rfl;rfl
theorem m_gLenS(w:W):wv [w]=aw (asSc w) fun ns=>ret (.d (.int ns.length)):=by
 refine af fun Q=>?_;simp only[wv,ag,jc,ret,ED,and_true]
noncomputable def zY:W->W->(W->Prop)->Prop:=fun x y Q=>∃ns i n,x = .sc ns/\y = .d (.int i)/\atI ns i=some n/\Q (.d (.int n))
theorem dG{β:Type}(f:α->β)(xs:List α)(i:Int):atI (xs.map f) i=(atI xs i).map f:=by
 unfold atI;rw[DO];cases ixN xs.length i<;>simp
theorem m_gIxS(x y:W):zY x y=aw (asSc x) fun ns=>aw (asI y) fun i=>aw (atI ns i) fun n=>ret (.d (.int n)):=by
 refine af fun Q=>?_;simp only[zY,ag,jc,bL,ret];exact⟨fun⟨i,j,z,a,b,c,q⟩=>⟨i,a,j,b,z,c,q⟩,fun⟨i,a,j,b,z,c,q⟩=>⟨i,j,z,a,b,c,q⟩⟩
theorem lC{K:W.Frag}{F:Hp}:∀ns:List Int,Reps K F (ns.map V.int) (ns.map D5)
 | []=>.nil
 | n::ns=>.cons (.int n) (lC ns)
noncomputable def xw(fa:TV)(fl fh:CM):TV:=fun ρ Q=>fa ρ fun w=>fl ρ fun l=>fh ρ fun h=>∃ns:List Int,w = .sc ns/\Q (.ml (cutD (ns.map .int) l h))
theorem uk{lo hi:Option Expr}{fl fh:CM}(ha:PV X rl a fa)(hl:C0 X rl lo fl)(hh:C0 X rl hi fh):PV X rl (.Subscript a (.Slice lo hi none p2) pos) (xw fa fl fh):=by
 obtain⟨t,p,k⟩:=ha;obtain⟨tl,pl,kl⟩:=hl;obtain⟨th,ph,kh⟩:=hh;refine⟨_,jC rK p pl ph,fun R Qd Q q h=>k R _ _ q fun v w F1 H1 g1 r1 n1 q1=>?_⟩;refine kl (R.grow g1) _ _ q1 fun l F2 H2 g2 q2=>kh ((R.grow g1).grow g2) _ _ q2 fun u F3 H3 g3 q3=>?_;obtain⟨ns,rfl,q3⟩:=q3;obtain⟨a,rfl,sq⟩:=(r1.grow g2).grow g3;have g:=(g1.trans g2).trans g3;exact⟨a,_,rfl,oD g3.sub sq,fun p hp=>h _ (.ml _) _ _ (g.trans (Grow.laid g3.sub g3.reel hp)) (ck g3.sub g3.reel hp ((lC ns).cut l u)) (fun a ea=>by cases ea;exact g.freeB hp) q3⟩
theorem m_vSlS{fl fh:CM}:xw fa fl fh ρ=Cy (fa ρ) fun w=>Cy (fl ρ) fun l=>Cy (fh ρ) fun h=>aw (asSc w) fun ns=>ret (.ml (cutD (ns.map .int) l h)):=by
 refine af fun Q=>?_;simp only[xw,Cy,ag,jc,ret]
end
noncomputable def BN(K:W.Frag)(pre:List W->Prop):Sp:=fun vs H Q _=>∃F ws,bf F H/\fu K RlT.no F H vs ws/\ws.all dH=true/\pre ws/\∀r n' F' H',H r=none->Grow RlT.no F H F' H'->CY (RlT.at' r n') F' H'->Q (.ref r) H'
structure DfnR (P:Ef) (w:EM) (K:W.Frag) (mg:Str->Option DJ) (base:Heap) (x:Str) (ps:List Str) (k:Nat) (pre:List W->Prop):Prop where
 ex:∃f fd,mg x=some (.ref f)/\W.keepIn K (.ref f)=true/\Binds K fd ps []/\FnOk P w K mg base Dz k f fd ps (BN K pre)
noncomputable def Ca:Option W->Option W
 | some .reel=>none
 | o=>o
noncomputable def nR(ρ:En):En:=ρ.map Ca
noncomputable def W.isR:W->Bool
 | .reel=>true
 | _=>false
noncomputable def uy(i:Nat)(pre:List W->Prop)(fs:CJ)(t:CK):CK:=fun D ρ=>fs ρ fun ws=>ws.all dH=true/\pre ws/\t ⟨fun ρ'=>D.nx (nR ρ'),fun w=>w.isR=false/\D.rt w,fun ρ'=>D.bk (nR ρ'),fun ρ'=>D.ct (nR ρ')⟩ (ρ.set i (some .reel))
theorem tD(g:Grow RlT.no F₀ H₀ F H)(ra:CY (RlT.at' r n') F H):Grow (RlT.at' r n') F₀ H₀ F H:=⟨fun b o e _=>g.same b o e (by simp),g.fs,g.sub,g.old,ra⟩
theorem jU(g:Grow (RlT.at' r n') F₀ H₀ F H)(n:H₀ r=none):Grow RlT.no F₀ H₀ F H:=⟨fun b o e _=>g.same b o e (fun z=>by cases z;rw[n]at e;cases e),g.fs,g.sub,g.old,fun _ z=>by cases z⟩
theorem vd{K:W.Frag}{w:W}(h:cL K RlT.no F H v w)(ne:∀a,w.own=true\/(∃xs,w = .pk xs)->v = .ref a->a≠r):cL K (RlT.at' r n') F H v w:=by
 cases w with
 | d x=>exact h
 | ml xs=>obtain⟨a,vs,e,f,_,g⟩:=h;exact⟨a,vs,e,f,fun z=>ne a (.inl rfl) e (by cases z;rfl),g⟩
 | pk xs=>obtain⟨a,vs,e,f,_,g⟩:=h;exact⟨a,vs,e,f,fun z=>ne a (.inr ⟨_,rfl⟩) e (by cases z;rfl),g⟩
 | reel=>obtain⟨_,z,_⟩:=h;cases z
 | vv u=>exact h
 | md kvs=>obtain⟨a,vs,e,f,_,g⟩:=h;exact⟨a,vs,e,f,fun z=>ne a (.inl rfl) e (by cases z;rfl),g⟩
 | mk kvs=>obtain⟨a,vs,e,f,_,g⟩:=h;exact⟨a,vs,e,f,fun z=>ne a (.inl rfl) e (by cases z;rfl),g⟩
 | nt ds=>exact h
 | lk=>trivial
 | sc ns=>exact h
 | fd _=>exact h
 | fw _=>exact h
 | ft _=>exact h
 | xc _ _=>exact h
 | dp _ _=>exact h
theorem lF{K:W.Frag}{w:W}(h:cL K (RlT.at' r n') F H v w)(n:w.isR=false):cL K RlT.no F H v w:=by
 cases w with
 | d x=>exact h
 | ml xs=>obtain⟨a,vs,e,f,_,g⟩:=h;exact⟨a,vs,e,f,by simp,g⟩
 | pk xs=>obtain⟨a,vs,e,f,_,g⟩:=h;exact⟨a,vs,e,f,by simp,g⟩
 | reel=>cases n
 | vv u=>exact h
 | md kvs=>obtain⟨a,vs,e,f,_,g⟩:=h;exact⟨a,vs,e,f,by simp,g⟩
 | mk kvs=>obtain⟨a,vs,e,f,_,g⟩:=h;exact⟨a,vs,e,f,by simp,g⟩
 | nt ds=>exact h
 | lk=>trivial
 | sc ns=>exact h
 | fd _=>exact h
 | fw _=>exact h
 | ft _=>exact h
 | xc _ _=>exact h
 | dp _ _=>exact h
theorem jK{w:W}(h:(nR ρ)[i]?=some (some w)):ρ[i]?=some (some w)/\w.isR=false:=by
 unfold nR at h;rw[Ez]at h
 cases e:ρ[i]? with
 | none=>rw[e]at h;cases h
 | some o =>
   rw[e]at h
   cases o with
   | none=>cases h
   | some u=>cases u<;>first|(cases h;exact⟨rfl,rfl⟩)|cases h
theorem VR.out{K:W.Frag}(R:VR K (RlT.at' r n') F₀ H₀ F H σ ρ)(n:H₀ r=none):VR K RlT.no F₀ H₀ F H σ (nR ρ):=by
 refine⟨jU R.g n,fun i w e=>?_,fun i j x y v hn e1 e2=>R.ap i j x y v hn (jK e1).1 (jK e2).1,fun i xs e=>R.np i xs (jK e).1,?_⟩
 · obtain⟨e1,e2⟩:=jK e;obtain⟨v,h1,h2,h3⟩:=R.sl i w e1;exact⟨v,h1,lF h2 e2,h3⟩
 · have:=R.len;simpa[nR]using this
theorem VR.into{K:W.Frag}(R:VR K RlT.no F₀ H₀ F H σ ρ)(n:H r=none)(g:Grow RlT.no F H F' H')(ra:CY (RlT.at' r n') F' H')(i:Nat):VR K (RlT.at' r n') F₀ H₀ F' H' (σ.set i (some (.ref r))) (ρ.set i (some .reel)):=by
 have R1:=R.grow g;refine⟨tD R1.g ra,fun j w e=>?_,fun j k x y v hn e1 e2 o1 o2 s1 s2=>?_,fun j xs e=>?_,by simp[R.len]⟩
 · by_cases hj:i=j
   · subst hj
     have hi:i<ρ.length:=by
      rw[E5]at e;by_cases hi:i<ρ.length
      · exact hi
      · simp[hi]at e
     rw[Eg hi]at e;cases e;exact⟨.ref r,by rw[Eg (by rw[<- R.len];exact hi)],⟨r,rfl,rfl⟩,trivial⟩
   · rw[Ee hj]at e;obtain⟨v,h1,h2,h3⟩:=R1.sl j w e;refine⟨v,by rw[Ee hj];exact h1,vd h2 fun a ow ea z=>?_,h3⟩;obtain⟨v0,h10,h20,_⟩:=R.sl j w e;rw[h1]at h10;cases h10;rcases ow with ow|⟨xs,rfl⟩
     · obtain⟨b,o,eb,hb⟩:=h20.live ow;rw[ea]at eb;cases eb;rw[z,n]at hb;cases hb
     · exact absurd e (R.np j xs)
 · have key:∀(m:Nat)(z:W),(ρ.set i (some W.reel))[m]?=some (some z)->z.own=true->i≠m/\ρ[m]?=some (some z):=fun m z e o=>by
     by_cases hm:i=m
     · subst hm;rw[E5]at e;split at e
       · split at e
         · cases e;cases o
         · cases e
       · exact absurd rfl (by assumption)
     · rw[Ee hm]at e;exact⟨hm,e⟩
   obtain⟨n1,d1⟩:=key j x e1 o1;obtain⟨n2,d2⟩:=key k y e2 o2;rw[Ee n1]at s1;rw[Ee n2]at s2;exact R1.ap j k x y v hn d1 d2 o1 o2 s1 s2
 · rw[E5]at e;split at e
   · split at e
     · cases e
     · cases e
   · exact R1.np j xs e
section
variable{X:Cx}{st:Stmt}{rest body:List Stmt}{t u:CK}{a b c e:Expr}{es:List Expr}{fa fb:TV}{fs:CJ}{pos p px cpos:Pos}{ρ:En}
theorem qU(i:Nat){f:Str}{ps:List Str}{k:Nat}{pre:List W->Prop}(D:DfnR X.prog X.w X.K X.mg X.base f ps k pre)(hr:Room k X.A)(hN:X.N.Nodup)(ha:CZ X RlT.no (e::es) fs)(hrest:∀r n',kd X (RlT.at' r n') rest t)
 (hi:autoParam (X.N[i]?=some x) æa._auto_1)(hx:autoParam (Loc X.env.scope x) æe._auto_1)(hg:autoParam (Gl X f) æa._auto_1)(hdb:autoParam ((f==("__debug__" : Str))=false) æb._auto_1)
 (he:autoParam (DY (e::es) X.env=(false,eval e X.env)::DY es X.env) æa._auto_1)(hpl:autoParam ((Ge cpos (DY es X.env)).any (·.1)=false) æa._auto_1)
 (hs:autoParam (Gr (.Call (.Name f p) (e::es) [] cpos) (some (.Name x px)) pos.line X.env=pure false) æa._auto_1)(hf:autoParam (X.fn x=true\/X.env.scope.names.lookup x=some .local) æf._auto_1) :
 kd X RlT.no (.Assign [.Name x px] (.Call (.Name f p) (e::es) [] cpos) pos::rest) (uy i pre fs t):=by
 obtain⟨fa,fd,hm,hk,hb,F⟩:=D.ex;obtain⟨ta,p1,k1⟩:=ha;refine⟨_,dX (ig hN hi hx (iW F hr hg hm hk hb .nil sE p1 hdb he hpl) hs hf) (sf X rest),fun{F₀ H₀ F H σ ρ} R Dv D ok q=>k1 R _ _ q fun vs ws F1 H1 g1 r1 ⟨ao,pw,q1⟩=>?_⟩;have R1:=R.grow g1;refine⟨F1,ws,g1.sub,by rw[FY];exact r1,ao,pw,fun r n' F2 H2 hr2 g2 ra=>?_⟩;intro pins s I;obtain⟨T,pT,kT⟩:=hrest r n';have h0:H₀ r=none:=R1.g.freeB hr2;refine pT pins s _ H2 D I (kT (R1.into hr2 g2 ra i) _ D ⟨fun F3 H3 σ3 ρ3 s3 R3 q3=>?_,fun v w F3 H3 g3 r3 n3 q3=>?_,fun F3 H3 σ3 ρ3 s3 R3 q3=>?_,fun F3 H3 σ3 ρ3 s3 R3 q3=>?_⟩ q1)
 · exact ok.nx F3 H3 σ3 _ (g1.fs.trans (g2.fs.trans s3)) (R3.out h0) q3
 · exact ok.rt v w F3 H3 (jU g3 h0) (lF r3 q3.1) n3 q3.2
 · exact ok.bk F3 H3 σ3 _ (g1.fs.trans (g2.fs.trans s3)) (R3.out h0) q3
 · exact ok.ct F3 H3 σ3 _ (g1.fs.trans (g2.fs.trans s3)) (R3.out h0) q3
end
noncomputable def Bu:Fl->Mo Fl
 | .nx ρ=>ret (.nx (nR ρ))
 | .rt w=>Cq (w.isR=false) (ret (.rt w))
 | .bk ρ=>ret (.bk (nR ρ))
 | .ct ρ=>ret (.ct (nR ρ))
theorem s_newR(i:Nat)(pre:List W->Prop)(fs:CJ)(t:CK)(ρ:En):mS (uy i pre fs t) ρ=Cy (fs ρ) fun ws=>Cq (ws.all dH=true) (Cq (pre ws) (Cy (mS t (ρ.set i (some .reel))) Bu)):=nr rfl
theorem nR_nil:nR []=[]:=rfl
theorem nR_r(l:En):nR (some .reel::l)=none::nR l:=rfl
theorem nR_n(l:En):nR (none::l)=none::nR l:=rfl
theorem nR_d(x:DH)(l:En):nR (some (.d x)::l)=some (.d x)::nR l:=rfl
theorem nR_ml(x:List DH)(l:En):nR (some (.ml x)::l)=some (.ml x)::nR l:=rfl
theorem nR_sc(x:List Int)(l:En):nR (some (.sc x)::l)=some (.sc x)::nR l:=rfl
noncomputable def fQ(K:W.Frag):Sp:=fun vs H Q _=>∃(a:Addr)(ns:List Int),vs=[.ref a]/\CS K H a (ns.map V.int)/\ns.length<=63/\∀H',Q (.bl true) H'
noncomputable def AL:VEnds:=⟨fun _=>False,fun w=>w = .d (.bool true),fun _=>False,fun _=>False⟩
noncomputable def tV:Fl->Prop
 | .rt w=>w = .d (.bool true)
 | _=>False
theorem un_law(m:Mo Fl):Cy m Bu tV=m tV:=by
 show m (fun fl=>Bu fl tV)=m tV;congr 1;funext fl
 cases fl with
 | rt w=>exact propext ⟨fun⟨_,h⟩=>h,fun h=>⟨by rw[show w = .d (.bool true)from h];rfl,h⟩⟩
 | _=>rfl
theorem sZ:ret (Fl.rt (.d (.bool true))) tV:=rfl
section
variable{P:Ef}{w:EM}{K:W.Frag}{mg:Str->Option DJ}{base:Heap}{st:Stmt}{N:List Str}{k:Nat}{t:CK}{x:Str}
theorem sN(F:Fun K "law" "law" st f fd)(S:FnScope N [x] (defScope st))
 (hbody:∀(cdv:DJ)(A:ES)(outer:List Env)(s:DM)(H:Hp)(E:XK),Room k (A.deeper (JY "law" (defScope st) s.heap.objs.size f cdv))->kd (nV Dz P w K mg base N "law" (defScope st) f cdv A outer s H E).nox RlT.no (defBody st) t)
 (hread:∀ns:List Int,ns.length<=63->mS t (cN N [.sc ns]) tV):FnOk P w K mg base Dz (k+1) f fd [x] (fQ K):=by
 refine F.ok S (fun vs H Q E h=>?_) (fun cdv A outer s H vs Q E hr h=>?_)
 · obtain⟨a,ns,rfl,_⟩:=h;rfl
 · obtain⟨a,ns,rfl,hS,hl,kq⟩:=h;obtain⟨T,p,kk⟩:=hbody cdv A outer s H E hr;have rw0:fu K RlT.no H H [.ref a] [.sc ns]:=.cons ⟨a,rfl,hS⟩ .nil;have R:VR K RlT.no H H H H (start N [.ref a]) (cN N [.sc ns]):=gk (.refl H) (fun _ z=>by cases z) rw0 rfl;refine⟨T,p,kk R AL _ ⟨fun _ _ _ _ _ _ z=>Fq z,?_,fun _ _ _ _ _ _ z=>Fq z,fun _ _ _ _ _ _ z=>Fq z⟩ (hread ns hl)⟩;rintro v w1 F1 H1 g1 r1 n1 z;have z:w1 = .d (.bool true):=z;subst z;have e:=lE r1;subst e;exact kq H1
end
noncomputable def rj(i:Nat)(fa:TV):CK:=fun D ρ=>fa ρ fun w=>∃d,w.fz = .d d/\D.nx (ρ.set i (some (.d d)))
section
variable{X:Cx}{rl:RlT}{st:Stmt}{rest body:List Stmt}{t u:CK}{a b c e:Expr}{es:List Expr}{fa fb:TV}{fs:CJ}{f:TB}{pos p:Pos}{ρ:En}
theorem aq(i:Nat)(hN:X.N.Nodup)(he:PV X rl e fa)(hi:autoParam (X.N[i]?=some x) æa._auto_1)(hx:autoParam (Loc X.env.scope x) æe._auto_1)
 (hs:autoParam (Gr e (some (.Name x pos')) pos.line X.env=pure false) æa._auto_1)(hf:autoParam (X.fn x=true\/X.env.scope.names.lookup x=some .local) æf._auto_1) :
 C5 X rl (.Assign [.Name x pos'] e pos) (rj i fa):=by
 obtain⟨t,p,k⟩:=he;refine⟨_,ig hN hi hx p hs hf,fun R Dv D ok q=>k R _ _ q fun v w F1 H1 g1 r1 n1 ⟨d,ed,q1⟩=>?_⟩;obtain⟨F2,g2,s2,r2⟩:=cL.fz g1 r1 n1;rw[ed]at r2;exact ok.nx _ _ _ _ g2.fs (R.set g2 r2 trivial (fun xs z=>by cases z) i) q1
theorem s_setZ(i:Nat):mS (rj i fa) ρ=Cy (fa ρ) fun w=>aw (asD w.fz) fun d=>ret (.nx (ρ.set i (some (.d d)))):=by
 show(Cy (fa ρ) fun w=>fun(Q:Fl->Prop)=>∃d,w.fz = .d d/\Q (.nx (ρ.set i (some (.d d)))))=_;congr 1;funext w;refine af fun Q=>?_;simp only[ag,iH,ret]
end
section
variable{X:Cx}{rl:RlT}{elt tg iter:Expr}{ifs:List Expr}{scope:Scope}{pos:Pos}{fi:En->(List DH->Prop)->Prop}{g:CO}{ft:TB}{fe:TV}
theorem cf(i:Nat){b:Bool}{spos:Pos}(hN:X.N.Nodup)(N':List Str)(fr:List (Option Nat))(hc:X.calm=true)(hi:C9 X rl tg iter fi)
 (hg:∀y,Db (blk X N' scope y) rl tg g)(ht:∀y,nW (blk X N' scope y) rl ifs ft)(he:∀y,PV (blk X N' scope y) rl elt fe)
 (hsw:autoParam (Gr (.ListComp elt [⟨tg,iter,ifs,0⟩] scope pos) (some (.Name x px)) spos.line X.env=pure b) æa._auto_1)
 (hix:autoParam (X.N[i]?=some x) æa._auto_1)(hx:autoParam (Loc X.env.scope x) æe._auto_1)(hf:autoParam (X.fn x=true\/X.env.scope.names.lookup x=some .local) æf._auto_1)
 (hfr:autoParam (pM fr N' X.N scope X.env.scope=true) æa._auto_1)(hsc:autoParam (qg scope X.env.scope=true) æa._auto_1)
 (hs:autoParam (∀x,Ey iter X.env x=pure x) æd._auto_1):C5 X rl (.Assign [.Name x px] (.ListComp elt [⟨tg,iter,ifs,0⟩] scope pos) spos) (rj i (jn fi fr g ft fe)):=by
 obtain⟨wi,p0,k0⟩:=hi;refine⟨_,fU N' fr hc p0 hfr hsc (fun y=>(DW (hg y)).1) (fun y=>(DW (ht y)).1) (fun y=>(DW (he y)).1) hN hix hx hf hsw hs,fun R Dv D ok q=>jP fr k0 hg ht he R _ _ q fun v w F1 H1 g1 r1 n1 ⟨d,ed,q1⟩=>?_⟩;obtain⟨F2,g2,s2,r2⟩:=cL.fz g1 r1 n1;rw[ed]at r2;exact ok.nx _ _ _ _ g2.fs (R.set g2 r2 trivial (fun xs z=>by cases z) i) q1
end
noncomputable def uH(xs:List Int):DH:=.tuple (xs.map .int)
noncomputable def tT(xs:List Int):DH:=.list (xs.map .int)
theorem cP:∀{xs ys:List Int},xs.map D5=ys.map D5↔xs=ys:=by
 intro xs ys;constructor
 · intro h;have:=congrArg fH h;rw[bB,bB]at this;exact Eu this
 · rintro rfl;rfl
theorem jo{xs ys:List Int}:uH xs=uH ys↔xs=ys:=by
 unfold uH;rw[F_,cP]
theorem oS{xs ys:List Int}:tT xs=tT ys↔xs=ys:=by
 unfold tT;rw[DH.list.injEq,cP]
theorem bu{α:Type}{f:α->DH}(h:∀a b,f a=f b↔a=b):∀{xs ys:List α},xs.map f=ys.map f↔xs=ys
 | [],[]=>by simp
 | [],_::_=>by simp
 | _::_,[]=>by simp
 | x::xs,y::ys=>by simp[h,bu h (xs:=xs) (ys:=ys)]
noncomputable def xG(xs:List (List Int)):DH:=.tuple (xs.map uH)
theorem oy{xs ys:List (List Int)}:xG xs=xG ys↔xs=ys:=by
 unfold xG;rw[F_,bu fun _ _=>jo]
section
variable{α σ:Type}{fl:List Nat}{b:DH->En->Mo Fl}{k:En->Mo Fl}{Q:Fl->Prop}{ρ:En}
theorem gi{f:TB}{t:CK}(st:σ->En)(c:σ->Bool)(nxt:σ->σ)(μ:σ->Nat)(I:σ->Prop)(s:σ)(h0:ρ=st s)(hs:I s)
 (hf:∀s,I s->f (st s)=ret (c s))(ht:∀s,I s->c s=true->I (nxt s)/\μ (nxt s)<μ s/\∃ρ',mS t (st s)=ret (.nx ρ')/\fo fl ρ'=st (nxt s))(fin:∀s,I s->c s=false->k (st s) Q):sq (fK fl f t ρ) k Q:=by
 subst h0;obtain⟨s',a,b,e⟩:=kR st c nxt μ I hf ht s hs;rw[e];exact fin s' a b
noncomputable def Cf(fl:List Nat)(J:En->Prop)(k:En->Mo Fl)(Q:Fl->Prop):Fl->Prop
 | .nx ρ=>J (fo fl ρ)
 | .ct ρ=>J (fo fl ρ)
 | .bk ρ=>k (fo fl ρ) Q
 | .rt w=>Q (.rt w)
theorem cb{J:En->Prop}{ρ:En}(h:J (fo fl ρ)):Cf fl J k Q (.nx ρ):=h
theorem da{xs:List α}{enc:α->DH}(J:Nat->En->Prop)(hx:xs'=xs.map enc)(h0:J 0 ρ)
 (step:∀i (h:i<xs.length) ρ,J i ρ->∀K:Fl->Prop,(∀r,Cf fl (J (i+1)) k Q r->K r)->b (enc xs[i]) ρ K)(fin:∀ρ,J xs.length ρ->k ρ Q):sq (eU fl b xs' ρ) k Q:=by
 subst hx;refine mD (Q:=fun r=>(match r with | .nx ρ=>k ρ | .rt w=>ret (.rt w) | .bk ρ=>ret (.bk ρ) | .ct ρ=>ret (.ct ρ):Mo Fl) Q) J h0 (fun i hi ρ j K hK=>step i hi ρ j K fun r hr=>hK r ?_) fin;cases r<;>exact hr
theorem mT{lo:Int}(J:Nat->En->Prop)(h0:J 0 ρ)
 (step:∀i,i<n->∀ρ,J i ρ->∀K:Fl->Prop,(∀r,Cf fl (J (i+1)) k Q r->K r)->b (.int (lo+i)) ρ K)(fin:∀ρ,J n ρ->k ρ Q):sq (eU fl b (aF lo n) ρ) k Q:=by
 refine oT (Q:=fun r=>(match r with | .nx ρ=>k ρ | .rt w=>ret (.rt w) | .bk ρ=>ret (.bk ρ) | .ct ρ=>ret (.ct ρ):Mo Fl) Q) J h0 (fun i hi ρ j K hK=>step i hi ρ j K fun r hr=>hK r ?_) fin;cases r<;>exact hr
theorem jX{lo:Int}(step:∀i,i<n->∀K:Fl->Prop,(∀r,Cf fl (fun ρ'=>ρ'=ρ) k Q r->K r)->b (.int (lo+i)) ρ K)(fin:k ρ Q):sq (eU fl b (aF lo n) ρ) k Q :=
 mT (fun _ ρ'=>ρ'=ρ) rfl (fun i h ρ' e K hK=>by subst e;exact step i h K hK) fun ρ' e=>by subst e;exact fin
end
theorem AV{m:Mo Fl}{Q:Fl->Prop}(h:sq m (fun ρ=>ret (.nx ρ)) Q):m Q:=by
 have e:(fun fl:Fl=>(match fl with | .nx ρ=>ret (.nx ρ) | .rt w=>ret (.rt w) | .bk ρ=>ret (.bk ρ) | .ct ρ=>ret (.ct ρ):Mo Fl) Q)=Q:=by
  funext fl;cases fl<;>rfl
 have h:m (fun fl:Fl=>(match fl with | .nx ρ=>ret (.nx ρ) | .rt w=>ret (.rt w) | .bk ρ=>ret (.bk ρ) | .ct ρ=>ret (.ct ρ):Mo Fl) Q):=h;rw[e]at h;exact h
section
variable{α β:Type}{b:DH->Mo (Option DH)}{k:List DH->Mo β}{Q:β->Prop}
theorem wK{xs:List α}{enc:α->DH}(f:α->Option DH)(hx:xs'=xs.map enc)(h:∀x∈xs,b (enc x)=ret (f x))(hl:xs.length<=sizeLine)(fin:k (xs.filterMap f) Q):Cy (bO b xs' []) k Q:=by
 subst hx;rw[nF f h hl];exact fin
theorem cD{xs:List α}{enc:α->DH}(f:α->DH)(hx:xs'=xs.map enc)(h:∀x∈xs,b (enc x)=ret (some (f x)))(hl:xs.length<=sizeLine)(fin:k (xs.map f) Q):Cy (bO b xs' []) k Q:=by
 subst hx;rw[comp_map f h hl];exact fin
theorem cG{lo:Int}(f:Nat->DH)(h:∀j,j<n->b (.int (lo+j))=ret (some (f j)))(hl:n<=sizeLine)(fin:k ((D8 n).map f) Q):Cy (bO b (aF lo n) []) k Q:=by
 rw[nD f h hl];exact fin
theorem tN{xs:List α}{enc:α->DH}(R:α->DH->Prop)(hx:xs'=xs.map enc)(h:∀x∈xs,∀K:Option DH->Prop,(∀d,R x d->K (some d))->b (enc x) K)(hl:xs.length<=sizeLine)(fin:∀ds,E8 R xs ds->k ds Q):Cy (bO b xs' []) k Q:=by
 subst hx;exact pP R h hl fin
end
section
variable{α β:Type}
theorem mo{i:Int}{k:DH->Mo β}{Q:β->Prop}(h0:0<=i)(h1:i<(xs.length:Int))(h:∀z∈xs,k z Q):aw (atI xs i) k Q:=by
 obtain⟨z,e,m⟩:=tP h0 h1;rw[e];exact h z m
theorem cF{xs:List α}{enc:α->DH}{i:Int}{k:DH->Mo β}{Q:β->Prop}(P:α->Prop)(hx:xs'=xs.map enc)(h0:0<=i)(h1:i<(xs.length:Int))(hP:∀z∈xs,P z)(h:∀z,P z->k (enc z) Q):aw (atI xs' i) k Q:=by
 subst hx;refine mo h0 (by simpa using h1) fun z mz=>?_;obtain⟨x,hx,rfl⟩:=Ev.mp mz;exact h x (hP x hx)
end
section
variable{X:Cx}{rl:RlT}{a b c o e:Expr}{es:List Expr}{fa fb:TV}{fs:CJ}{pos p apos cpos:Pos}{ρ:En}
noncomputable def Br(g:List DH->List W->(W->Prop)->Prop)(fa:TV)(fs:CJ):TV:=fun ρ Q=>fa ρ fun x=>∃xs,x.dat=some (.list xs)/\fs ρ fun ws=>g xs ws Q
theorem m_vML(g:List DH->List W->(W->Prop)->Prop):Br g fa fs ρ=Cy (fa ρ) fun x=>aw (CD x) fun xs=>Cy (fs ρ) fun ws=>g xs ws:=by
 show(Cy (fa ρ) fun x=>fun(Q:W->Prop)=>∃xs,x.dat=some (.list xs)/\fs ρ fun ws=>g xs ws Q)=_;congr 1;funext x;refine af fun Q=>?_;rw[ag];simp only[ge];exact Jz
noncomputable def mZ:List DH->List W->(W->Prop)->Prop:=fun xs ws Q=>∃(bs:List Bool)(k:Bool),xs=bs.map .bool/\ws=[.d (.bool k)]/\Q (.d (.int (bs.count k)))
theorem m_gCountB(xs:List DH)(w:W):mZ xs [w]=aw (qL xs) fun bs=>aw (asB w) fun k=>ret (.d (.int (bs.count k))):=by
 refine af fun Q=>?_;simp only[mZ,ag,fq,ret,ED,and_true];constructor
 · rintro⟨bs,k,rfl,e,q⟩;exact⟨bs,blsD_map bs,k,e,q⟩
 · rintro⟨bs,e,k,e',q⟩;exact⟨bs,k,ja e,e',q⟩
noncomputable def wu:W->W->(W->Prop)->Prop:=fun x y Q=>∃b c,x = .d (.bool b)/\y = .d (.bool c)/\Q (.d (.bool (b != c)))
theorem m_gNotB(x y:W):wu x y=aw (asB x) fun i=>aw (asB y) fun j=>ret (.d (.bool (i != j))):=by
 refine af fun Q=>?_;simp only[ag,fq,wu,ret];exact⟨fun⟨i,j,a,b,q⟩=>⟨i,a,j,b,q⟩,fun⟨i,a,j,b,q⟩=>⟨i,j,a,b,q⟩⟩
end
end L2.VL
namespace L2
section
variable{X:Cx}{pos:Pos}
end
end L2
namespace L2.VL
section
variable{X:Cx}{rl:RlT}{es:List Expr}{pos:Pos}{ρ:En}
noncomputable def zX(n:Nat)(gs:kQ):CO:=fun x ρ Q=>∃xs,x = .list xs/\xs.length=n/\gs xs ρ Q
theorem m_hLst(n:Nat){gs:kQ}(x:DH):zX n gs x ρ=aw (lstD x) fun xs=>Cq (xs.length=n) (gs xs ρ):=by
 refine af fun Q=>?_;simp only[ag,sU,zX,Cq]
end
section
variable{α:Type}{a0 a1 a2 a3 a4 a5 a6 a7 a8 a9 a10 a11 a12 a13 a14 a15 a16 a17 a18 a19 x y:α}{l:List α}
theorem gt0:(x::l)[0]?=some x:=nr rfl
theorem st0:(x::l).set 0 y=y::l:=nr rfl
theorem gt1:(a0::x::l)[1]?=some x:=nr rfl
theorem st1:(a0::x::l).set 1 y=a0::y::l:=nr rfl
theorem gt2:(a0::a1::x::l)[2]?=some x:=nr rfl
theorem st2:(a0::a1::x::l).set 2 y=a0::a1::y::l:=nr rfl
theorem gt3:(a0::a1::a2::x::l)[3]?=some x:=nr rfl
theorem st3:(a0::a1::a2::x::l).set 3 y=a0::a1::a2::y::l:=nr rfl
theorem gt4:(a0::a1::a2::a3::x::l)[4]?=some x:=nr rfl
theorem st4:(a0::a1::a2::a3::x::l).set 4 y=a0::a1::a2::a3::y::l:=nr rfl
theorem gt5:(a0::a1::a2::a3::a4::x::l)[5]?=some x:=nr rfl
theorem st5:(a0::a1::a2::a3::a4::x::l).set 5 y=a0::a1::a2::a3::a4::y::l:=nr rfl
theorem gt6:(a0::a1::a2::a3::a4::a5::x::l)[6]?=some x:=nr rfl
theorem st6:(a0::a1::a2::a3::a4::a5::x::l).set 6 y=a0::a1::a2::a3::a4::a5::y::l:=nr rfl
theorem gt7:(a0::a1::a2::a3::a4::a5::a6::x::l)[7]?=some x:=nr rfl
theorem st7:(a0::a1::a2::a3::a4::a5::a6::x::l).set 7 y=a0::a1::a2::a3::a4::a5::a6::y::l:=nr rfl
theorem gt8:(a0::a1::a2::a3::a4::a5::a6::a7::x::l)[8]?=some x:=nr rfl
theorem st8:(a0::a1::a2::a3::a4::a5::a6::a7::x::l).set 8 y=a0::a1::a2::a3::a4::a5::a6::a7::y::l:=nr rfl
theorem gt9:(a0::a1::a2::a3::a4::a5::a6::a7::a8::x::l)[9]?=some x:=nr rfl
theorem st9:(a0::a1::a2::a3::a4::a5::a6::a7::a8::x::l).set 9 y=a0::a1::a2::a3::a4::a5::a6::a7::a8::y::l:=nr rfl
theorem gt10:(a0::a1::a2::a3::a4::a5::a6::a7::a8::a9::x::l)[10]?=some x:=nr rfl
theorem st10:(a0::a1::a2::a3::a4::a5::a6::a7::a8::a9::x::l).set 10 y=a0::a1::a2::a3::a4::a5::a6::a7::a8::a9::y::l:=nr rfl
theorem gt11:(a0::a1::a2::a3::a4::a5::a6::a7::a8::a9::a10::x::l)[11]?=some x:=nr rfl
theorem st11:(a0::a1::a2::a3::a4::a5::a6::a7::a8::a9::a10::x::l).set 11 y=a0::a1::a2::a3::a4::a5::a6::a7::a8::a9::a10::y::l:=nr rfl
theorem gt12:(a0::a1::a2::a3::a4::a5::a6::a7::a8::a9::a10::a11::x::l)[12]?=some x:=nr rfl
theorem st12:(a0::a1::a2::a3::a4::a5::a6::a7::a8::a9::a10::a11::x::l).set 12 y=a0::a1::a2::a3::a4::a5::a6::a7::a8::a9::a10::a11::y::l:=nr rfl
theorem gt13:(a0::a1::a2::a3::a4::a5::a6::a7::a8::a9::a10::a11::a12::x::l)[13]?=some x:=nr rfl
theorem st13:(a0::a1::a2::a3::a4::a5::a6::a7::a8::a9::a10::a11::a12::x::l).set 13 y=a0::a1::a2::a3::a4::a5::a6::a7::a8::a9::a10::a11::a12::y::l:=nr rfl
theorem gt14:(a0::a1::a2::a3::a4::a5::a6::a7::a8::a9::a10::a11::a12::a13::x::l)[14]?=some x:=nr rfl
theorem st14:(a0::a1::a2::a3::a4::a5::a6::a7::a8::a9::a10::a11::a12::a13::x::l).set 14 y=a0::a1::a2::a3::a4::a5::a6::a7::a8::a9::a10::a11::a12::a13::y::l:=nr rfl
theorem gt15:(a0::a1::a2::a3::a4::a5::a6::a7::a8::a9::a10::a11::a12::a13::a14::x::l)[15]?=some x:=nr rfl
theorem st15:(a0::a1::a2::a3::a4::a5::a6::a7::a8::a9::a10::a11::a12::a13::a14::x::l).set 15 y=a0::a1::a2::a3::a4::a5::a6::a7::a8::a9::a10::a11::a12::a13::a14::y::l:=nr rfl
theorem gt16:(a0::a1::a2::a3::a4::a5::a6::a7::a8::a9::a10::a11::a12::a13::a14::a15::x::l)[16]?=some x:=nr rfl
theorem st16:(a0::a1::a2::a3::a4::a5::a6::a7::a8::a9::a10::a11::a12::a13::a14::a15::x::l).set 16 y=a0::a1::a2::a3::a4::a5::a6::a7::a8::a9::a10::a11::a12::a13::a14::a15::y::l:=nr rfl
theorem gt17:(a0::a1::a2::a3::a4::a5::a6::a7::a8::a9::a10::a11::a12::a13::a14::a15::a16::x::l)[17]?=some x:=nr rfl
theorem st17:(a0::a1::a2::a3::a4::a5::a6::a7::a8::a9::a10::a11::a12::a13::a14::a15::a16::x::l).set 17 y=a0::a1::a2::a3::a4::a5::a6::a7::a8::a9::a10::a11::a12::a13::a14::a15::a16::y::l:=nr rfl
theorem gt18:(a0::a1::a2::a3::a4::a5::a6::a7::a8::a9::a10::a11::a12::a13::a14::a15::a16::a17::x::l)[18]?=some x:=nr rfl
theorem st18:(a0::a1::a2::a3::a4::a5::a6::a7::a8::a9::a10::a11::a12::a13::a14::a15::a16::a17::x::l).set 18 y=a0::a1::a2::a3::a4::a5::a6::a7::a8::a9::a10::a11::a12::a13::a14::a15::a16::a17::y::l:=nr rfl
theorem gt19:(a0::a1::a2::a3::a4::a5::a6::a7::a8::a9::a10::a11::a12::a13::a14::a15::a16::a17::a18::x::l)[19]?=some x:=nr rfl
theorem st19:(a0::a1::a2::a3::a4::a5::a6::a7::a8::a9::a10::a11::a12::a13::a14::a15::a16::a17::a18::x::l).set 19 y=a0::a1::a2::a3::a4::a5::a6::a7::a8::a9::a10::a11::a12::a13::a14::a15::a16::a17::a18::y::l:=nr rfl
end
section
variable{a0 a1 a2 a3 a4 a5 a6 a7 a8 a9 a10 a11 a12 a13 a14 a15 a16 a17 a18 a19:Option W}{w:W}{l:En}
theorem vv0:dr 0 (some w::l)=ret w.peek:=(bh 0).trans rfl
theorem vv1:dr 1 (a0::some w::l)=ret w.peek:=(bh 1).trans rfl
theorem vv2:dr 2 (a0::a1::some w::l)=ret w.peek:=(bh 2).trans rfl
theorem vv3:dr 3 (a0::a1::a2::some w::l)=ret w.peek:=(bh 3).trans rfl
theorem vv4:dr 4 (a0::a1::a2::a3::some w::l)=ret w.peek:=(bh 4).trans rfl
theorem vv5:dr 5 (a0::a1::a2::a3::a4::some w::l)=ret w.peek:=(bh 5).trans rfl
theorem vv6:dr 6 (a0::a1::a2::a3::a4::a5::some w::l)=ret w.peek:=(bh 6).trans rfl
theorem vv7:dr 7 (a0::a1::a2::a3::a4::a5::a6::some w::l)=ret w.peek:=(bh 7).trans rfl
theorem vv8:dr 8 (a0::a1::a2::a3::a4::a5::a6::a7::some w::l)=ret w.peek:=(bh 8).trans rfl
theorem vv9:dr 9 (a0::a1::a2::a3::a4::a5::a6::a7::a8::some w::l)=ret w.peek:=(bh 9).trans rfl
theorem vv10:dr 10 (a0::a1::a2::a3::a4::a5::a6::a7::a8::a9::some w::l)=ret w.peek:=(bh 10).trans rfl
theorem vv11:dr 11 (a0::a1::a2::a3::a4::a5::a6::a7::a8::a9::a10::some w::l)=ret w.peek:=(bh 11).trans rfl
theorem vv12:dr 12 (a0::a1::a2::a3::a4::a5::a6::a7::a8::a9::a10::a11::some w::l)=ret w.peek:=(bh 12).trans rfl
theorem vv13:dr 13 (a0::a1::a2::a3::a4::a5::a6::a7::a8::a9::a10::a11::a12::some w::l)=ret w.peek:=(bh 13).trans rfl
theorem vv14:dr 14 (a0::a1::a2::a3::a4::a5::a6::a7::a8::a9::a10::a11::a12::a13::some w::l)=ret w.peek:=(bh 14).trans rfl
theorem vv15:dr 15 (a0::a1::a2::a3::a4::a5::a6::a7::a8::a9::a10::a11::a12::a13::a14::some w::l)=ret w.peek:=(bh 15).trans rfl
theorem vv16:dr 16 (a0::a1::a2::a3::a4::a5::a6::a7::a8::a9::a10::a11::a12::a13::a14::a15::some w::l)=ret w.peek:=(bh 16).trans rfl
theorem vv17:dr 17 (a0::a1::a2::a3::a4::a5::a6::a7::a8::a9::a10::a11::a12::a13::a14::a15::a16::some w::l)=ret w.peek:=(bh 17).trans rfl
theorem vv18:dr 18 (a0::a1::a2::a3::a4::a5::a6::a7::a8::a9::a10::a11::a12::a13::a14::a15::a16::a17::some w::l)=ret w.peek:=(bh 18).trans rfl
theorem vv19:dr 19 (a0::a1::a2::a3::a4::a5::a6::a7::a8::a9::a10::a11::a12::a13::a14::a15::a16::a17::a18::some w::l)=ret w.peek:=(bh 19).trans rfl
end
section
variable{f1 f2 f3 f4 f5 f6 f7 f8 f9:TV}{fs:CJ}{ρ:En}
theorem vk1:aC f1 iN ρ=Cy (f1 ρ) fun w1=>ret [w1.fz]:=nr rfl
theorem vk2:(aC f1 (aC f2 iN)) ρ=Cy (f1 ρ) fun w1=>Cy (f2 ρ) fun w2=>ret [w1.fz,w2.fz]:=nr rfl
theorem vk3:(aC f1 (aC f2 (aC f3 iN))) ρ=Cy (f1 ρ) fun w1=>Cy (f2 ρ) fun w2=>Cy (f3 ρ) fun w3=>ret [w1.fz,w2.fz,w3.fz]:=nr rfl
theorem vk4:(aC f1 (aC f2 (aC f3 (aC f4 iN)))) ρ=Cy (f1 ρ) fun w1=>Cy (f2 ρ) fun w2=>Cy (f3 ρ) fun w3=>Cy (f4 ρ) fun w4=>ret [w1.fz,w2.fz,w3.fz,w4.fz]:=nr rfl
theorem vk5:(aC f1 (aC f2 (aC f3 (aC f4 (aC f5 iN))))) ρ=Cy (f1 ρ) fun w1=>Cy (f2 ρ) fun w2=>Cy (f3 ρ) fun w3=>Cy (f4 ρ) fun w4=>Cy (f5 ρ) fun w5=>ret [w1.fz,w2.fz,w3.fz,w4.fz,w5.fz]:=nr rfl
theorem vk6:(aC f1 (aC f2 (aC f3 (aC f4 (aC f5 (aC f6 iN)))))) ρ=Cy (f1 ρ) fun w1=>Cy (f2 ρ) fun w2=>Cy (f3 ρ) fun w3=>Cy (f4 ρ) fun w4=>Cy (f5 ρ) fun w5=>Cy (f6 ρ) fun w6=>ret [w1.fz,w2.fz,w3.fz,w4.fz,w5.fz,w6.fz]:=nr rfl
theorem vk7:(aC f1 (aC f2 (aC f3 (aC f4 (aC f5 (aC f6 (aC f7 iN))))))) ρ=Cy (f1 ρ) fun w1=>Cy (f2 ρ) fun w2=>Cy (f3 ρ) fun w3=>Cy (f4 ρ) fun w4=>Cy (f5 ρ) fun w5=>Cy (f6 ρ) fun w6=>Cy (f7 ρ) fun w7=>ret [w1.fz,w2.fz,w3.fz,w4.fz,w5.fz,w6.fz,w7.fz]:=nr rfl
theorem vk8:(aC f1 (aC f2 (aC f3 (aC f4 (aC f5 (aC f6 (aC f7 (aC f8 iN)))))))) ρ=Cy (f1 ρ) fun w1=>Cy (f2 ρ) fun w2=>Cy (f3 ρ) fun w3=>Cy (f4 ρ) fun w4=>Cy (f5 ρ) fun w5=>Cy (f6 ρ) fun w6=>Cy (f7 ρ) fun w7=>Cy (f8 ρ) fun w8=>ret [w1.fz,w2.fz,w3.fz,w4.fz,w5.fz,w6.fz,w7.fz,w8.fz]:=nr rfl
theorem vk9:(aC f1 (aC f2 (aC f3 (aC f4 (aC f5 (aC f6 (aC f7 (aC f8 (aC f9 fs))))))))) ρ=Cy (f1 ρ) fun w1=>Cy (f2 ρ) fun w2=>Cy (f3 ρ) fun w3=>Cy (f4 ρ) fun w4=>Cy (f5 ρ) fun w5=>Cy (f6 ρ) fun w6=>Cy (f7 ρ) fun w7=>Cy (f8 ρ) fun w8=>Cy (aC f9 fs ρ) fun ws=>ret (w1.fz::w2.fz::w3.fz::w4.fz::w5.fz::w6.fz::w7.fz::w8.fz::ws):=nr rfl
theorem vk0:iN ρ=ret []:=nr rfl
end
noncomputable def yX:=DG @bnd_tt (DG @bnd_ret (DG @bnd_bnd (DG @bnd_grd (DG @bnd_stk (DG @bnd_ite (DG @bnd_opt (DG @opt_some (DG @opt_none (DG @grd_T (DG @sq_nx (DG @sq_rt (DG @sq_bk (DG @sq_ct (DG @sq_grd (DG @sq_stk (DG @sq_ite (DG @sq_sq (@kc_ap))))))))))))))))))
noncomputable def y7:=DG @ite_nx (DG @ite_rt (DG @ite_retd (DG @ite_retb (DG @ite_rets (DG @ite_cons (DG @ite_some (DG @ite_d (DG @ite_pi (DG @ite_pb (DG @itb_tt (DG @itb_ff (DG @itb_ft (DG @itb_tf (@ite_self.{1}))))))))))))))
noncomputable def za:=DG @m_vC (DG @m_vOp (DG @m_gI (DG @m_gI0 (DG @m_vNeg (DG @m_vTest (DG @m_gEqD (DG @m_gInD (DG @m_vAnd (DG @m_vOr (DG @m_vNot (DG @m_vAndV (DG @m_vOrV (DG @m_vNotV (DG @m_vIf (DG @m_vTup (DG @m_vLst (DG @m_gIx (DG @m_vCall (DG @m_gAbs (DG @m_gLen (DG @m_gRepr (DG @m_gIsi (@m_gStrI)))))))))))))))))))))))
noncomputable def y_:=DG @m_gTupO (DG @m_gLstO (DG @m_gIsB (DG @m_gIsN (DG @m_gI2 (DG @m_gDivmod (DG @m_gInt1 (DG @m_oNo (DG @m_oIt (DG @m_vSlL (DG @m_vSlA (DG @m_gCatD (DG @m_gCatA (DG @m_vChain (DG @m_vLR1 (DG @m_vLR2 (DG @m_vTR1 (DG @m_iL (DG @m_iT (DG @m_iR1 (DG @m_iR2 (DG @m_iZb (DG @m_vUse (@m_vUseL)))))))))))))))))))))))
noncomputable def y8:=DG @m_gAll (DG @m_gRepT (DG @m_gRepL (DG @m_vRevT (DG @m_vRevL (DG @m_gEqS (DG @m_vTGet (DG @m_gSrtT (DG @m_comp (DG @m_gLenS (DG @m_gIxS (DG @m_vSlS (DG @m_hLst (DG @m_vML (DG @m_gCountB (@m_gNotB)))))))))))))))
noncomputable def yQ:=DG @s_next (DG @s_seq (DG @s_drop (DG @s_ret (DG @s_retN (DG @s_ifS (DG @s_set (DG @s_setZ (DG @s_never (DG @s_asg (DG @s_par (DG @s_par3 (DG @s_aug (DG @s_augL (DG @s_frz (DG @s_mut (DG @s_retO (DG @s_appPop (DG @s_for (DG @bdy_ap (DG @s_while (DG @s_newR (DG @m_hName (@m_hNil_n)))))))))))))))))))))))
noncomputable def yP:=DG @m_hCons_c (DG @m_hTup (DG @m_gApp (@m_gExt)))
noncomputable def yT:=DG @pk_sc (DG @fz_sc (DG @arg_sc (DG @isPk_sc (DG @asI_d (DG @asB_d (DG @asS_d (DG @asD_d (DG @asT_d (DG @asL_d (DG @asL_ml (DG @asL_pk (DG @asQ_d (DG @asQ_ml (DG @asQ_pk (DG @lstD_l (DG @tupD_t (DG @toI_i (DG @toI_b (DG @isiT_t (DG @asM_ml (DG @asSc_s (DG @two_d (@fz_d)))))))))))))))))))))))
noncomputable def yS:=DG @fz_ml (DG @fz_pk (DG @fz_reel (DG @fz_vv (DG @pk_d (DG @pk_ml (DG @pk_reel (DG @pk_vv (DG @dat_d (DG @dat_ml (DG @dat_pk (DG @isPk_d (DG @isPk_ml (DG @isPk_reel (DG @dats_nil (DG @dats_d (DG @arg_d (DG @arg_reel (DG @item_l (DG @item_t (DG @len_l (DG @len_t (DG @seq_l (@seq_t)))))))))))))))))))))))
noncomputable def yR:=DG @at0 (DG @at1 (DG @blsD_map (DG @tup2 (DG @fo_nil (DG @fo_cons (DG @nR_nil (DG @nR_r (DG @nR_n (DG @nR_d (DG @nR_ml (DG @nR_sc (DG @le_nil (DG @le_cn (DG @le_cs (DG @end_d (DG @end_ml (DG @end_nx (@un_law))))))))))))))))))
noncomputable def yZ:=DG @Ew.{0,0} (DG @HP.{0,0} (DG @DX.{0} (DG @GK.{0} (DG @List.set_nil.{0} (DG @JH.{0} (DG @List.nil_append.{0} (DG @List.all_cons.{0} (DG @List.all_nil.{0} (DG @List.head?_cons.{0} (DG @Bool.and_true (DG @Option.some.injEq.{0} (DG @Option.map_some.{0,0} (DG @Option.bind_some.{0,0} (DG @Option.bind_none.{0,0} (DG @Option.join_some.{0} (DG @Option.join_none.{0} (DG @GW (DG @and_self (DG @and_true (DG @true_and (DG @shaped_i (DG @eqv_ii (@shaped_b)))))))))))))))))))))))
noncomputable def yY:=DG @KR (DG @Bool.and_self (DG @G9 (DG @Bool.not_false (DG @DO.{0,0} (DG @Eh (DG @Bool.true_eq_false (DG @decide_true (DG @decide_false (DG @List.isEmpty_cons.{0} (DG @HY.{0} (@List.isEmpty_map.{0,0})))))))))))
noncomputable def yW:=DG @gt0 (DG @gt1 (DG @gt2 (DG @gt3 (DG @gt4 (DG @gt5 (DG @gt6 (DG @gt7 (DG @gt8 (DG @gt9 (DG @gt10 (DG @gt11 (DG @gt12 (DG @gt13 (DG @gt14 (DG @gt15 (DG @gt16 (DG @gt17 (DG @gt18 (DG @gt19 (DG @st0 (DG @st1 (DG @st2 (@st3)))))))))))))))))))))))
noncomputable def yV:=DG @st4 (DG @st5 (DG @st6 (DG @st7 (DG @st8 (DG @st9 (DG @st10 (DG @st11 (DG @st12 (DG @st13 (DG @st14 (DG @st15 (DG @st16 (DG @st17 (DG @st18 (DG @st19 (DG @vv0 (DG @vv1 (DG @vv2 (DG @vv3 (DG @vv4 (DG @vv5 (DG @vv6 (@vv7)))))))))))))))))))))))
noncomputable def yU:=DG @vv8 (DG @vv9 (DG @vv10 (DG @vv11 (DG @vv12 (DG @vv13 (DG @vv14 (DG @vv15 (DG @vv16 (DG @vv17 (DG @vv18 (DG @vv19 (DG @vk0 (DG @vk1 (DG @vk2 (DG @vk3 (DG @vk4 (DG @vk5 (DG @vk6 (DG @vk7 (DG @vk8 (@vk9)))))))))))))))))))))
section
variable{α β:Type}
end
noncomputable def kC:Di:=FX "cells"
noncomputable def kA:Di:=FX "at"
noncomputable def kL:Di:=FX "left"
noncomputable def kT:Di:=FX "turn"
theorem yn:¬kC=kA:=by decide +kernel
theorem ym:¬kC=kL:=by decide +kernel
theorem yl:¬kC=kT:=by decide +kernel
theorem xa:¬kA=kL:=by decide +kernel
theorem w_:¬kA=kT:=by decide +kernel
theorem wZ:¬kL=kT:=by decide +kernel
noncomputable def aW(c:Addr)(a l t:Int):List (Di×V):=[(kC,.ref c),(kA,.int a),(kL,.int l),(kT,.int t)]
theorem bq{p:Di×V}{r:List (Di×V)}{k:Di}(e:¬p.1=k):gt (p::r) k=gt r k:=by
 unfold gt;rw[GJ];simp[e]
theorem vg(c:Addr)(a l t:Int):gt (aW c a l t) kC=some (.ref c):=cg rfl
theorem vj(c:Addr)(a l t:Int):gt (aW c a l t) kA=some (.int a):=by unfold aW;rw[bq yn];exact cg rfl
theorem vf(c:Addr)(a l t:Int):gt (aW c a l t) kL=some (.int l):=by unfold aW;rw[bq ym,bq xa];exact cg rfl
theorem ve(c:Addr)(a l t:Int):gt (aW c a l t) kT=some (.int t):=by unfold aW;rw[bq yl,bq w_,bq wZ];exact cg rfl
theorem B9{a b:Di}(h:¬a=b):¬b=a:=fun e=>h e.symm
theorem x5(c:Addr)(a l t n:Int):dQ (aW c a l t) kA (.int n)=aW c n l t:=by
 unfold dQ aW;rw[if_pos (by simp)];simp[yn,B9 xa,B9 w_]
theorem x4(c:Addr)(a l t n:Int):dQ (aW c a l t) kL (.int n)=aW c a n t:=by
 unfold dQ aW;rw[if_pos (by simp)];simp[ym,xa,B9 wZ]
theorem xZ(c:Addr)(a l t n:Int):dQ (aW c a l t) kT (.int n)=aW c a l n:=by
 unfold dQ aW;rw[if_pos (by simp)];simp[yl,w_,wZ]
theorem ReelOk.kv{c:Nat×List Int}(h:ReelOk c F H r):∃(a l t:Int),H r=some (.dK (aW c.1 a l t))/\F c.1=some (.lst (c.2.map V.int))/\c.2.length<=63/\0<=a/\0<=l/\0<=t:=by
 obtain⟨o,e,a,l,t,rfl,q⟩:=h.ex;exact⟨a,l,t,e,q⟩
theorem CY.put{K:W.Frag}{a l t:Int}(R:VR K rl F₀ H₀ F H σ ρ)(e:rl.a=some r)(h:F rl.b.1=some (.lst (rl.b.2.map V.int))/\rl.b.2.length<=63/\0<=a/\0<=l/\0<=t) :
 VR K rl F₀ H₀ F (Bt H r (.dK (aW rl.b.1 a l t))) σ ρ:=by
 have fr:F r=none:=(R.reel r e).1;have neF:∀b u,F b=some u->b≠r:=fun b u q z=>by subst z;rw[fr]at q;cases q
 have g:Grow rl F H F (Bt H r (.dK (aW rl.b.1 a l t))):=by
  refine⟨fun b o q n=>by rw[ai (fun z=>n (by rw[z];exact e))];exact q,.refl F,fun b o q=>by rw[ai (neF b o q)];exact R.sub b o q,fun _ _ _=>rfl,fun y z=>?_⟩;have:y=r:=Eu (z.symm.trans e);subst this;exact⟨fr,⟨_,al,a,l,t,rfl,h⟩⟩
 exact R.grow g
section
variable{X:Cx}{rl:RlT}{e:Expr}{fa:TV}{pos p p1 p2:Pos}
noncomputable def Bn(i:Nat):TV:=fun ρ Q=>ρ[i]?=some (some .reel)/\∀n:Int,0<=n->Q (.d (.int n))
noncomputable def Bo(cs:List Int)(i:Nat):TV:=fun ρ Q=>ρ[i]?=some (some .reel)/\(cs.length<=63->Q (.d (.list (cs.map .int))))
theorem eI{K:W.Frag}{F:Hp}:∀ns:List Int,Reps K F (ns.map V.int) (ns.map D5)
 | []=>.nil
 | n::ns=>.cons (.int n) (eI ns)
theorem eB{k:Str}{j}(hr:Room 0 X.A)(hk:(FX k:Di)=kA\/(FX k:Di)=kL\/(FX k:Di)=kT)(hN:autoParam (X.N[i]?=some x) æa._auto_1)(hv:autoParam (CF X.env.scope x) æc._auto_1)
 (hd:autoParam ((x==("__debug__" : Str))=false) æb._auto_1)(hcd:autoParam ((x==("__classdict__" : Str))=false) æb._auto_1)(hs:autoParam (xl (.Constant (.str k) j p2)) æh._auto_1):PV X rl (.Subscript (.Name x p1) (.Constant (.str k) j p2) pos) (Bn i):=by
 refine⟨_,lU (tw hr) (b_ hN hv hd hcd) eN hs,fun{F₀ H₀ F H σ ρ} R Qd Q ⟨e1,q⟩ h=>?_⟩;obtain⟨v,s1,⟨r,er,ev⟩,_⟩:=R.sl i _ e1;subst ev;obtain⟨_,ok⟩:=R.reel r er;obtain⟨a,l,t,hH,_,_,b1,b2,b3⟩:=ok.kv
 have go:∀n:Int,0<=n->gt (aW rl.b.1 a l t) (FX k)=some (.int n)->uP (xI i) (tC (.str k)) σ H Q:=fun n hn e=>by
  refine⟨.ref r,s1,r,.int n,rfl,?_,h _ (.d _) F H (Grow.refl R.sub R.reel) (.int n) trivial (q n hn)⟩;have g:=xm.k (k:=(FX k:Di)) hH;rw[e]at g;exact g
 rcases hk with hk|hk|hk
 · exact go a b1 (by rw[hk];exact vj rl.b.1 a l t)
 · exact go l b2 (by rw[hk];exact vf rl.b.1 a l t)
 · exact go t b3 (by rw[hk];exact ve rl.b.1 a l t)
theorem dU{j}(hr:Room 0 X.A)(hN:autoParam (X.N[i]?=some x) æa._auto_1)(hv:autoParam (CF X.env.scope x) æc._auto_1)
 (hd:autoParam ((x==("__debug__" : Str))=false) æb._auto_1)(hcd:autoParam ((x==("__classdict__" : Str))=false) æb._auto_1)(hs:autoParam (xl (.Constant (.str "cells") j p2)) æh._auto_1):PV X rl (.Subscript (.Name x p1) (.Constant (.str "cells") j p2) pos) (Bo rl.b.2 i):=by
 refine⟨_,lU (tw hr) (b_ hN hv hd hcd) eN hs,fun{F₀ H₀ F H σ ρ} R Qd Q ⟨e1,q⟩ h=>?_⟩;obtain⟨v,s1,⟨r,er,ev⟩,_⟩:=R.sl i _ e1;subst ev;obtain⟨_,ok⟩:=R.reel r er;obtain⟨a,l,t,hH,hc,hl,_⟩:=ok.kv;refine⟨.ref r,s1,r,.ref rl.b.1,rfl,?_,h _ (.d _) F H (Grow.refl R.sub R.reel) (Rep.lst hc (eI _)) trivial (q hl)⟩;have g:=xm.k (k:=kC) hH;rw[vg]at g;exact g
noncomputable def uu(i:Nat)(fa:TV):CK:=fun D ρ=>fa ρ fun w=>∃n,w = .d (.int n)/\0<=n/\ρ[i]?=some (some .reel)/\D.nx ρ
theorem gj{k:Str}{j}(hr:Room 0 X.A)(hk:(FX k:Di)=kA\/(FX k:Di)=kL\/(FX k:Di)=kT)(ha:PV X rl e fa)(hN:autoParam (X.N[i]?=some x) æa._auto_1)(hv:autoParam (CF X.env.scope x) æc._auto_1)
 (hd:autoParam ((x==("__debug__" : Str))=false) æb._auto_1)(hcd:autoParam ((x==("__classdict__" : Str))=false) æb._auto_1)(hsw:autoParam (Gr e (some (.Subscript (.Name x p1) (.Constant (.str k) j p2) pos')) pos.line X.env=pure false) æa._auto_1) :
 C5 X rl (.Assign [.Subscript (.Name x p1) (.Constant (.str k) j p2) pos'] e pos) (uu i fa):=by
 obtain⟨t,p3,kk⟩:=ha;refine⟨_,si (tw hr) (b_ hN hv hd hcd) eN p3 hsw,fun{F₀ H₀ F H σ ρ} R Dv D ok q=>kk R _ _ q fun v w F1 H1 g1 r1 n1 ⟨n,ew,hn,e1,q1⟩=>?_⟩;subst ew;have ev:=aZ r1;subst ev;have R1:=R.grow g1;obtain⟨v,s1,⟨r,er,ev⟩,_⟩:=R1.sl i _ e1;subst ev;obtain⟨_,okr⟩:=R1.reel r er;obtain⟨a,l,t,hH,hc,hl,b1,b2,b3⟩:=okr.kv;refine⟨.ref r,s1,r,_,rfl,yO.k (k:=(FX k:Di)) hH (lu (by show 4<=1000;decide)),?_⟩
 have go:∀a' l' t':Int,0<=a'->0<=l'->0<=t'->dQ (aW rl.b.1 a l t) (FX k) (.int n)=aW rl.b.1 a' l' t'->D.nx σ (Bt H1 r (.dK (dQ (aW rl.b.1 a l t) (FX k) (.int n)))):=fun a' l' t' x1 x2 x3 e=>by
  rw[e];exact ok.nx _ _ _ _ g1.fs (CY.put R1 er ⟨hc,hl,x1,x2,x3⟩) q1
 rcases hk with hk|hk|hk
 · exact go n l t hn b2 b3 (by rw[hk];exact x5 rl.b.1 a l t n)
 · exact go a n t b1 hn b3 (by rw[hk];exact x4 rl.b.1 a l t n)
 · exact go a l n b1 b2 hn (by rw[hk];exact xZ rl.b.1 a l t n)
end
theorem kF(c:Addr):eS [] [(kC,V.ref c),(kA,.int 0),(kL,.int 0),(kT,.int 0)]=aW c 0 0 0:=by
 unfold eS aW;simp only[FE,HK];have p0:dQ ([]:List (Di×V)) kC (V.ref c)=[(kC,V.ref c)]:=rfl;rw[p0];unfold dQ;simp[yn,ym,yl,xa,w_,wZ]
section
variable{X:Cx}{rl:RlT}{e:Expr}{fa:TV}{pos p p1 p2:Pos}{ρ:En}
noncomputable def CB:W->Option Unit
 | .reel=>some ()
 | _=>none
theorem cz:CB .reel=some ():=rfl
theorem zK:(((ρ[i]?).join).bind CB=some ())↔ρ[i]?=some (some .reel):=by
 constructor
 · intro h
   cases q:ρ[i]? with
   | none=>rw[q]at h;cases h
   | some o=>rw[q]at h;cases o with
     | none=>cases h
     | some w=>cases w<;>first|rfl|cases h
 · intro h;rw[h];rfl
theorem uW{β:Type}{k:Unit->Mo β}{Q:β->Prop}:aw (((ρ[i]?).join).bind CB) k Q↔ρ[i]?=some (some .reel)/\k () Q:=by
 rw[ag];exact⟨fun⟨u,a,q⟩=>⟨zK.mp a,q⟩,fun⟨a,q⟩=>⟨(),zK.mpr a,q⟩⟩
theorem cx(i:Nat):Bn i ρ=aw (((ρ[i]?).join).bind CB) fun _=>Cy (anyM fun n:Int=>0<=n) fun n=>ret (.d (.int n)):=af fun Q=>(Iff.intro (fun⟨a,q⟩=>uW.mpr ⟨a,fun n h=>q n h⟩) fun h=>⟨(uW.mp h).1,fun n hn=>(uW.mp h).2 n hn⟩)
theorem cy(cs:List Int)(i:Nat):Bo cs i ρ=aw (((ρ[i]?).join).bind CB) fun _=>Cy (anyM fun _:Unit=>cs.length<=63) fun _=>ret (.d (tT cs)):=af fun Q=>(Iff.intro (fun⟨a,q⟩=>uW.mpr ⟨a,fun _ h=>q h⟩) fun h=>⟨(uW.mp h).1,fun hn=>(uW.mp h).2 () hn⟩)
theorem bE(i:Nat):mS (uu i fa) ρ=Cy (fa ρ) fun w=>aw (asI w) fun n=>Cq (0<=n) (aw (((ρ[i]?).join).bind CB) fun _=>ret (.nx ρ)):=by
 show(Cy (fa ρ) fun w=>fun(Q:Fl->Prop)=>∃n,w = .d (.int n)/\0<=n/\ρ[i]?=some (some .reel)/\Q (.nx ρ))=_;congr 1;funext w;refine af fun Q=>?_;simp only[ag (o:=asI w),bL,Cq,uW,ret]
end
theorem bF(xs:List Int):qy (tT xs)=some xs.length:=by show some (xs.map D5).length=_;rw[DO]
theorem aX(xs:List Int)(i:Int):itemAt (tT xs) i=(atI xs i).map .int:=dG _ _ _
section
variable{X:Cx}{rl:RlT}{e:Expr}{fa:TV}{pos dpos q1 q2 q3 q4:Pos}{ρ:En}{j1 j2 j3 j4:Nat}{a b x y:Str}
end
end L2.VL
namespace L2
section
variable{X:Cx}{kx vx tg iter:Expr}{ifs:List Expr}{scope:Scope}{pos:Pos}{wi:TI}{g:CompA->TG}{tt:CompA->TT}{tk te:CompA->TE}
end
section
variable{prog:Ef}{w:EM}{A:ES}{E:DJ->DM->Prop}
end
section
variable{X:Cx}
end
end L2
namespace L2.VL
section
variable{K:W.Frag}{F:Hp}{us:List (Di×V)}{kvs:List (Di×DH)}
end
section
variable{X:Cx}{rl:RlT}{kx vx tg iter:Expr}{ifs:List Expr}{scope:Scope}{pos:Pos}{fi:En->(List DH->Prop)->Prop}{g:CO}{ft:TB}{fk fe:TV}
end
section
variable{α:Type}{b:DH->Mo (Option (Di×DH))}
end
section
variable{X:Cx}{rl:RlT}{a c e o i:Expr}{es:List Expr}{fa fb:TV}{fs:CJ}{pos p kpos:Pos}{ρ:En}
end
end L2.VL
namespace L2
end L2
namespace L2.VL
section
variable{X:Cx}{rl:RlT}{tg:Expr}{fa:TV}{ρ:En}
end
end L2.VL
namespace L2
variable{X:Cx}
end L2
namespace L2.VL
section
variable{X:Cx}{rl:RlT}{a e:Expr}{es:List Expr}{fs:CJ}{pos:Pos}
end
noncomputable def Dw(K:W.Frag)(rl:RlT)(H₀ F₁ H₁ F:Hp)(b:Addr)(xs:List DH):Prop:=∃vs,H₁ b=some (.lst vs)/\F₁ b=none/\rl.a≠some b/\H₀ b=none/\Reps K F vs xs
structure Cl (K:W.Frag) (rl:RlT) (F₀ H₀ F₁ H₁ F:Hp) (a:Addr) (as:List Addr) (xss:List (List DH)):Prop where
 g:Grow rl F₀ H₀ F₁ H₁
 ha:H₁ a=some (.lst (as.map V.ref))
 ra:rl.a≠some a
 nd:as.Nodup
 nm:a∉as
 inn:E8 (Dw K rl H₀ F₁ H₁ F) as xss
theorem Cl.mono{K:W.Frag}{rl:RlT}{F₀ H₀ F₁ H₁ F F':Hp}{a:Addr}{as:List Addr}{xss:List (List DH)}(c:Cl K rl F₀ H₀ F₁ H₁ F a as xss)(s:bf F F'):Cl K rl F₀ H₀ F₁ H₁ F' a as xss :=
 ⟨c.g,c.ha,c.ra,c.nd,c.nm,E8.mapP c.inn fun _ _ ⟨vs,h1,h2,h3,h4,h5⟩=>⟨vs,h1,h2,h3,h4,h5.mono s⟩⟩
theorem eO{α β:Type}{R:α->β->Prop}:∀{xs:List α}{ys:List β},E8 R xs ys->∀{n:Nat}{y:β},ys[n]?=some y->∃x,xs[n]?=some x/\R x y
 | _,_,.nil,n,y,e=>by simp at e
 | _,_,.cons r rs,0,y,e=>by simp at e;subst e;exact⟨_,rfl,r⟩
 | _,_,.cons r rs,n+1,y,e=>by simpa using eO rs (n:=n) (by simpa using e)
theorem ij{α β:Type}{R R':α->β->Prop}{x:α}(k:∀a b,a≠x->R a b->R' a b):∀{xs:List α}{ys:List β},E8 R xs ys->x∉xs->E8 R' xs ys
 | _,_,.nil,_=>.nil
 | _,_,.cons r rs,n=>.cons (k _ _ (fun z=>n (z▸DS)) r) (ij k rs fun z=>n (DL _ z))
theorem fV{α β:Type}{R R':α->β->Prop}{x:α}{y:β}(h:R' x y)(k:∀a b,a≠x->R a b->R' a b):∀{xs:List α}{ys:List β},E8 R xs ys->xs.Nodup->∀{n:Nat},xs[n]?=some x->E8 R' xs (ys.set n y)
 | _,_,.nil,_,n,e=>by simp at e
 | x0::xs,y0::ys,.cons r rs,nd,0,e=>by
   simp at e;subst e;rw[List.set_cons_zero]
   exact .cons h (ij k rs (FB.mp nd).1)
 | x0::xs,y0::ys,.cons r rs,nd,n+1,e=>by
   rw[List.set_cons_succ];have e':xs[n]?=some x:=by simpa using e
   exact .cons (k _ _ (fun z=>(FB.mp nd).1 (z▸Gf e')) r) (fV h k rs (FB.mp nd).2 e')
theorem cL.apart{K:W.Frag}{o:HO}{w:W}(r:cL K rl F H v w)(ne:w.own=true->v ≠ .ref b)(np:∀xs,w ≠ .pk xs):cL K rl F (Bt H b o) v w:=by
 cases w with
 | ml xs=>obtain⟨a,vs,e,h1,h2,h3,h4⟩:=r;exact⟨a,vs,e,h1,h2,by rw[ai (fun z=>ne rfl (by rw[e,z]))];exact h3,h4⟩
 | pk xs=>exact absurd rfl (np xs)
 | md kvs=>obtain⟨a,vs,e,h1,h2,h3,h4⟩:=r;exact⟨a,vs,e,h1,h2,by rw[ai (fun z=>ne rfl (by rw[e,z]))];exact h3,h4⟩
 | mk kvs=>obtain⟨a,vs,e,h1,h2,h3,h4⟩:=r;exact⟨a,vs,e,h1,h2,by rw[ai (fun z=>ne rfl (by rw[e,z]))];exact h3,h4⟩
 | _=>exact r
theorem VR.moved{K:W.Frag}{F₁ H₁:Hp}{o o':HO}(R:VR K rl F₁ H₁ F H σ ρ)(hb:H₁ b=some o)(fb:F₁ b=none)(rb:rl.a≠some b):VR K rl F₁ (Bt H₁ b o') F (Bt H b o') σ ρ:=by
 have f:F b=none:=by rw[R.g.old b _ hb];exact fb
 have neF:∀c u,F c=some u->c≠b:=fun c u q z=>by subst z;rw[f]at q;cases q
 have own:∀{v w},dm H₁ v w->w.own=true->v ≠ .ref b:=fun n ow z=>by have:=n.none ow z;rw[hb]at this;cases this
 refine⟨⟨fun c u q n=>?_,R.g.fs,fun c u q=>by rw[ai (neF c u q)];exact R.sub c u q,fun c u q=>?_,fun r er=>?_⟩,fun i w e=>?_,R.ap,R.np,R.len⟩
 · by_cases z:c=b
   · subst z;rw[al]at q ⊢;exact q
   · rw[ai z]at q ⊢;exact R.g.same c u q n
 · by_cases z:c=b
   · subst z;rw[f,fb]
   · rw[ai z]at q;exact R.g.old c u q
 · obtain⟨h1,⟨o2,h2,h3⟩⟩:=R.g.reel r er;exact⟨h1,⟨o2,by rw[ai (fun z=>rb (by rw[<- z];exact er))];exact h2,h3⟩⟩
 · obtain⟨v,h1,h2,h3⟩:=R.sl i w e;refine⟨v,h1,h2.apart (own h3) (fun xs z=>R.np i xs (z▸e)),?_⟩
   cases w with
   | ml xs=>exact fun a ea=>by rw[ai (fun z=>own h3 rfl (by rw[ea,z]))];exact h3 a ea
   | md xs=>exact fun a ea=>by rw[ai (fun z=>own h3 rfl (by rw[ea,z]))];exact h3 a ea
   | mk xs=>exact fun a ea=>by rw[ai (fun z=>own h3 rfl (by rw[ea,z]))];exact h3 a ea
   | _=>trivial
theorem Cl.moved{K:W.Frag}{F₁ H₁:Hp}{as:List Addr}(c:Cl K rl F₀ H₀ F₁ H₁ F a as xss)(e:as[n]?=some b)(fb:F₁ b=none)(rb:rl.a≠some b)(h0:H₀ b=none)(rs:Reps K F vs xs) :
 Cl K rl F₀ H₀ F₁ (Bt H₁ b (.lst vs)) F a as (xss.set n xs):=by
 have nb:∀d u,F₁ d=some u->d≠b:=fun d u q z=>by subst z;rw[fb]at q;cases q
 refine⟨⟨fun d u q m=>by rw[ai (aH q h0)];exact c.g.same d u q m,c.g.fs,fun d u q=>by rw[ai (nb d u q)];exact c.g.sub d u q,c.g.old,fun r er=>?_⟩,?_,c.ra,c.nd,c.nm,fV (R':=Dw K rl H₀ F₁ (Bt H₁ b (.lst vs)) F) (x:=b) ⟨vs,al,fb,rb,h0,rs⟩ (fun d ys nd ⟨us,h1,h2⟩=>⟨us,by rw[ai nd];exact h1,h2⟩) c.inn c.nd e⟩
 · obtain⟨h1,⟨o2,h2,h3⟩⟩:=c.g.reel r er;exact⟨h1,⟨o2,by rw[ai (fun z=>rb (by rw[<- z];exact er))];exact h2,h3⟩⟩
 · rw[ai (show a≠b from fun z=>by subst z;exact c.nm (Gf e))];exact c.ha
structure MEnds where
 nx:List (List DH)->En->Prop
 rt:W->Prop
structure EndsM (K:W.Frag) (rl:RlT) (F₀ H₀:Hp) (a:Addr) (as:List Addr) (Fs:Hp) (Dm:MEnds) (D:Ends):Prop where
 nx:∀F₁ H₁ F H σ ρ xss,bf Fs F->Cl K rl F₀ H₀ F₁ H₁ F a as xss->VR K rl F₁ H₁ F H σ ρ->Dm.nx xss ρ->D.nx σ H
 rt:∀v w F H,Grow rl F₀ H₀ F H->cL K rl F H v w->dm H₀ v w->Dm.rt w->D.rt v H
theorem EndsM.on{K:W.Frag}{as:List Addr}{Fs:Hp}{Dm:MEnds}{D:Ends}(ok:EndsM K rl F₀ H₀ a as Fs Dm D)(s:bf Fs F):EndsM K rl F₀ H₀ a as F Dm D :=
 ⟨fun F₁ H₁ F' H σ ρ xss s'=>ok.nx F₁ H₁ F' H σ ρ xss (s.trans s'),ok.rt⟩
abbrev CL:=Addr->MEnds->List (List DH)->En->Prop
noncomputable def C6(X:Cx)(rl:RlT)(st:Stmt)(t:CL):Prop:=∃T,PS X st T/\∀{F₀ H₀ F₁ H₁ F H:Hp}{σ:St}{ρ:En}{a:Addr}{as:List Addr}{xss:List (List DH)},Cl X.K rl F₀ H₀ F₁ H₁ F a as xss->VR X.K rl F₁ H₁ F H σ ρ->∀Dm D,EndsM X.K rl F₀ H₀ a as F Dm D->t a Dm xss ρ->T D σ H
noncomputable def wQ(X:Cx)(rl:RlT)(st:List Stmt)(t:CL):Prop:=∃T,C3 X st T/\∀{F₀ H₀ F₁ H₁ F H:Hp}{σ:St}{ρ:En}{a:Addr}{as:List Addr}{xss:List (List DH)},Cl X.K rl F₀ H₀ F₁ H₁ F a as xss->VR X.K rl F₁ H₁ F H σ ρ->∀Dm D,EndsM X.K rl F₀ H₀ a as F Dm D->t a Dm xss ρ->T D σ H
noncomputable def v7:CL:=fun _ Dm xss ρ=>Dm.nx xss ρ
noncomputable def zU(t u:CL):CL:=fun a Dm xss ρ=>t a {Dm with nx:=u a Dm} xss ρ
noncomputable def Cc(t:CK):CL:=fun _ Dm xss ρ=>t ⟨fun ρ'=>Dm.nx xss ρ',Dm.rt,fun _=>False,fun _=>False⟩ ρ
section
variable{X:Cx}{rl:RlT}{st:Stmt}{rest body:List Stmt}{t:CK}{u v:CL}{e:Expr}{fa:TV}{pos p:Pos}
theorem sR:wQ X rl [] v7:=⟨_,lO,fun C R Dm D ok q=>ok.nx _ _ _ _ _ _ _ (.refl _) C R q⟩
theorem c7(h:C6 X rl st u)(h2:wQ X rl rest v):wQ X rl (st::rest) (zU u v):=by
 obtain⟨T,p,k⟩:=h;obtain⟨T2,p2,k2⟩:=h2;exact⟨_,dX p p2,fun C R Dm D ok q=>k C R {Dm with nx:=v _ Dm} {D with nx:=T2 D} ⟨fun F₁ H₁ F' H' σ' ρ' xss' s' C' R' q'=>k2 C' R' Dm D (ok.on s') q',ok.rt⟩ q⟩
theorem vY(h:C5 X rl st t):C6 X rl st (Cc t):=by
 obtain⟨T,p,k⟩:=h;exact⟨T,p,fun C R Dm D ok q=>k R _ D ⟨fun F' H' σ' ρ' s R' q'=>ok.nx _ _ _ _ _ _ _ s (C.mono s) R' q',fun v w F' H' g r n q'=>ok.rt v w F' H' (C.g.trans g) r (dm.back C.g n) q',fun _ _ _ _ _ _ z=>Fq z,fun _ _ _ _ _ _ z=>Fq z⟩ q⟩
noncomputable def zV(fi:En->(List DH->Prop)->Prop)(g:CO)(t:CL):CL:=fun a Dm xss ρ=>fi ρ fun ys=>∃J:Nat->List (List DH)->En->Prop,J 0 xss ρ /\
 (∀i y xss ρ,ys[i]?=some y->J i xss ρ->g y ρ fun ρ2=>t a {Dm with nx:=J (i+1)} xss ρ2)/\∀xss ρ,J ys.length xss ρ->Dm.nx xss ρ
theorem v6{g:CO}(hp:KL (Ek X.prog X.w) X.A X.env X.xe)(hc:X.calm=true)(hi:C9 X rl tg iter fi)(hg:Db X rl tg g)(hb:wQ X rl body u)
 (hs:autoParam (∀x,Ey iter X.env x=pure x) æd._auto_1):C6 X rl (.For tg iter body [] pos) (zV fi g u):=by
 obtain⟨wi,p0,k0⟩:=hi;obtain⟨G,p1,k1⟩:=hg;obtain⟨T,p2,k2⟩:=hb;refine⟨_,qo hp hc p0 p1 p2 hs,fun{F₀ H₀ F₁ H₁ F H σ ρ a as xss} C R Dm D ok q=>k0 R _ _ q fun I xs F1 H1 g1 vi ⟨J,j0,turn,fin⟩=>?_⟩;refine⟨fun i m σ H=>m=xs.length-i/\i<=xs.length/\∃F₁ H₁ F ρ xss,bf F1 F/\Cl X.K rl F₀ H₀ F₁ H₁ F a as xss/\VR X.K rl F₁ H₁ F H σ ρ/\J i xss ρ,⟨xs.length,by simp,Ei _,F₁,H₁,F1,ρ,xss,.refl _,C.mono g1.fs,R.grow g1,j0⟩,?_⟩;rintro i m σ H ⟨rfl,hi,E₁,G₁,F2,ρ2,xs2,s2,C2,R2,j2⟩;have sH:bf F1 H:=s2.trans R2.sub;by_cases hlt:i<xs.length
 · have ei:xs[i]?=some xs[i]:=by simp[hlt]
   refine .inr ⟨vi.go i H _ ei sH,fun σ' H'=>∃F₁ H₁ F ρ xss,bf F1 F/\Cl X.K rl F₀ H₀ F₁ H₁ F a as xss/\VR X.K rl F₁ H₁ F H' σ' ρ/\J (i+1) xss ρ,fun σ' H' z=>⟨xs.length-(i+1),by omega,rfl,hlt,z⟩,fun v H' y=>?_⟩;obtain⟨Fy,gy,rv⟩:=vi.yld i H v H' _ F2 ei s2 R2.sub R2.reel y;refine k1 (R2.grow gy) v _ _ _ rv (turn i _ xs2 ρ2 ei j2) fun F3 H3 σ3 ρ3 s3 n3 R3 q3=>?_;have s13:bf F1 F3:=s2.trans (gy.fs.trans s3.fs);exact k2 (C2.mono (gy.fs.trans s3.fs)) R3 {Dm with nx:=J (i+1)} _ ⟨fun E' G' F4 H4 σ4 ρ4 xs4 s4 C4 R4 q4=>⟨E',G',F4,ρ4,xs4,s13.trans s4,C4,R4,q4⟩,ok.rt⟩ q3
 · have e:i=xs.length:=by omega
   subst e;exact .inl ⟨vi.stop _ H (DQ _) sH,ok.nx _ _ _ _ _ _ _ (g1.fs.trans s2) C2 R2 (fin _ _ j2)⟩
noncomputable def AK(ic ik ix:Nat):CL:=fun a Dm xss ρ=>ρ[ic]?=some (some (.vv (.ref a)))/\∃(n:Nat)(xs:List DH)(d:DH),ρ[ik]?=some (some (.d (.int n)))/\xss[n]?=some xs/\ρ[ix]?=some (some (.d d))/\xs.length<sizeLine/\Dm.nx (xss.set n (xs++[d])) ρ
theorem nO{as:List Addr}(e:as[n]?=some b):atI (as.map V.ref) (n:Int)=some (V.ref b):=by
 have hl:n<as.length:=(Ec.mp e).1;rw[dG];unfold atI;rw[show ixN as.length (n:Int)=some n by unfold ixN;simp;omega,Option.bind_some,e];rfl
theorem yi(ic ik ix:Nat){c k:Str}{pc pk p1 apos cpos:Pos} 
 (hc:autoParam (X.N[ic]?=some c) æa._auto_1)(vc:autoParam (CF X.env.scope c) æc._auto_1)(dc:autoParam ((c==("__debug__" : Str))=false) æb._auto_1)(ec:autoParam ((c==("__classdict__" : Str))=false) æb._auto_1)
 (hk:autoParam (X.N[ik]?=some k) æa._auto_1)(vk:autoParam (CF X.env.scope k) æc._auto_1)(dk:autoParam ((k==("__debug__" : Str))=false) æb._auto_1)(ek:autoParam ((k==("__classdict__" : Str))=false) æb._auto_1)
 (hx:autoParam (X.N[ix]?=some x) æa._auto_1)(vx:autoParam (CF X.env.scope x) æc._auto_1)(dx:autoParam ((x==("__debug__" : Str))=false) æb._auto_1)(ex:autoParam ((x==("__classdict__" : Str))=false) æb._auto_1)
 (hs:autoParam (gT (.Name k pk)) æh._auto_1)
 (hbase:autoParam (Ii (.Subscript (.Name c pc) (.Name k pk) p1) "append" X.env (eval (.Subscript (.Name c pc) (.Name k pk) p1) X.env)=eval (.Subscript (.Name c pc) (.Name k pk) p1) X.env) æa._auto_1)
 (hfew:autoParam (((Ge cpos (DY [.Name x px] X.env)).all (fun x=>!x.1)&&(Lf cpos (Jt [] X.env)).all (fun x=>x.1.isSome)
  && decide (([.Name x px]:List Expr).length+([]:List IV).length+(if([]:List IV).isEmpty then 0 else 1)<30))=true) æa._auto_1)
 (hline:autoParam ((apos.endLine==cpos.line)=true) æa._auto_1)(hst:autoParam (DY [.Name x px] X.env=(false,eval (.Name x px) X.env)::DY [] X.env) æa._auto_1)(hplain:autoParam ((Ge cpos (DY [] X.env)).any (·.1)=false) æa._auto_1)
 (hsw:autoParam (Gr (.Call (.Attribute (.Subscript (.Name c pc) (.Name k pk) p1) "append" apos) [.Name x px] [] cpos) none pos.line X.env=pure false) æa._auto_1) :
 C6 X rl (.Expr (.Call (.Attribute (.Subscript (.Name c pc) (.Name k pk) p1) "append" apos) [.Name x px] [] cpos) pos) (AK ic ik ix):=by
 refine⟨_,lP (vP Jv Jg Jh c6 (sA mK (b_ hc vc dc ec) (b_ hk vk dk ek) hs) (eP (b_ hx vx dx ex) jG hst) hbase hfew hline hst hplain) hsw,fun{F₀ H₀ F₁ H₁ F H σ ρ a as xss} C R Dm D ok ⟨e1,n,xs,d,e2,e3,e4,hl,q⟩=>?_⟩;obtain⟨v1,s1,rfl,_⟩:=R.sl ic _ e1;obtain⟨v2,s2,r2,_⟩:=R.sl ik _ e2;have ev2:=aZ r2;subst ev2;obtain⟨v3,s3,r3,_⟩:=R.sl ix _ e4;obtain⟨b,eb,vs,h1,h2,h3,h4,h5⟩:=eO C.inn e3;have ha:H a=some (.lst (as.map V.ref)):=R.g.same a _ C.ha C.ra;have hb:H b=some (.lst vs):=R.g.same b _ h1 h3;refine⟨_,s1,_,s2,.inl ⟨a,_,_,_,rfl,rfl,.inl (.inl ha),nO eb,.inl ⟨rfl,vs,.inl (.inl hb)⟩,_,s3,b,vs,_,rfl,rfl,hb,by rw[h5.length];exact hl,?_⟩⟩;exact ok.nx F₁ _ F _ σ ρ _ (.refl _) (C.moved eb h2 h3 h4 (h5.snoc r3)) (R.moved h1 h2 h3) q
end
theorem VR.here{K:W.Frag}(R:VR K rl F₀ H₀ F H σ ρ)(n:jd ρ):VR K rl F H F H σ ρ:=by
 refine⟨Grow.refl R.sub R.reel,fun i w e=>?_,R.ap,R.np,R.len⟩;obtain⟨v,h1,h2,_⟩:=R.sl i w e;have ow:=n i w e;refine⟨v,h1,h2,?_⟩
 cases w with
 | ml _=>cases ow
 | md _=>cases ow
 | mk _=>cases ow
 | _=>trivial
theorem fW{α β:Type}{R:α->β->Prop}{y:β}:∀{xs:List α},(∀x∈xs,R x y)->E8 R xs (DT xs.length y)
 | [],_=>.nil
 | x::xs,h=>by rw[DX,EK];exact .cons (h x DS) (fW fun z mz=>h z (DL _ mz))
section
variable{X:Cx}{rl:RlT}{rest:List Stmt}{u:CL}{tg iter:Expr}{scope:Scope}{fi:En->(List DH->Prop)->Prop}
noncomputable def Cd(ic:Nat)(fi:En->(List DH->Prop)->Prop)(fr:List (Option Nat))(u:CL):CK:=fun Dv ρ=>fi ρ fun xs=>jd ρ/\(∀x,Le (d9 fr ρ) ((d9 fr ρ).set 0 (some (.d x))))/\xs.length<=sizeLine/\∀a,u a ⟨fun _ _=>False,Dv.rt⟩ (DT xs.length []) (ρ.set ic (some (.vv (.ref a))))
theorem yf(ic:Nat){b:Bool}{spos lp pos:Pos}(hN:X.N.Nodup)(N':List Str)(fr:List (Option Nat))(hc:X.calm=true)(hi:C9 X rl tg iter fi)
 (hg:∀y,Db (blk X N' scope y) rl tg (pA 0))(hrest:wQ X rl rest u)
 (hsw:autoParam (Gr (.ListComp (.List [] lp) [⟨tg,iter,[],0⟩] scope pos) (some (.Name x px)) spos.line X.env=pure b) æa._auto_1)
 (hix:autoParam (X.N[ic]?=some x) æa._auto_1)(hx:autoParam (Loc X.env.scope x) æe._auto_1)(hf:autoParam (X.fn x=true\/X.env.scope.names.lookup x=some .local) æf._auto_1)
 (hfr:autoParam (pM fr N' X.N scope X.env.scope=true) æa._auto_1)(hsc:autoParam (qg scope X.env.scope=true) æa._auto_1)
 (hs:autoParam (∀x,Ey iter X.env x=pure x) æd._auto_1):kd X rl (.Assign [.Name x px] (.ListComp (.List [] lp) [⟨tg,iter,[],0⟩] scope pos) spos::rest) (Cd ic fi fr u):=by
 have ht:∀y,nW (blk X N' scope y) rl [] (fun _ Q=>Q true):=fun _=>bD;have he:∀y,PV (blk X N' scope y) rl (.List [] lp) (wV iN):=fun _=>cH ab;obtain⟨wi,p0,k0⟩:=hi;obtain⟨T2,p2,k2⟩:=hrest;refine⟨_,dX (fU N' fr hc p0 hfr hsc (fun y=>(DW (hg y)).1) (fun y=>(DW (ht y)).1) (fun y=>(DW (he y)).1) hN hix hx hf hsw hs) p2,fun{F₀ H₀ F H σ ρ} R Dv D ok q=>k0 R _ _ q fun J xs F1 H1 g1 vi ⟨nm,le,hz,q1⟩=>?_⟩;intro a hD;have rne:∀c,H1 c=none->rl.a≠some c:=fun c z e=>by obtain⟨o,y⟩:=g1.reel.live e;rw[z]at y;cases y
 have rD:=rne a hD;have FD:F1 a=none:=g1.sub.free hD;have gD:Grow rl F1 H1 F1 (Bt H1 a (.lst [])):=Grow.laid g1.sub g1.reel hD;have R1:=R.grow g1;have n0:jd (d9 fr ρ):=dB
 refine⟨fun i m acc σc Hc=>m=xs.length-i/\i<=xs.length/\∃Fc as,acc=as.map V.ref/\as.length=i/\as.Nodup/\a∉as/\(∀b∈as,H1 b=none/\Hc b=some (.lst [])/\Fc b=none)/\VR X.K rl F1 H1 Fc Hc σc (d9 fr ρ)/\Hc a=some (.lst acc)/\Fc a=none,
  ⟨xs.length,by simp,Ei _,F1,[],rfl,rfl,Kp,by simp,by simp,gn R1 gD,al,FD⟩,?_⟩
 rintro z i m acc σc Hc ⟨rfl,hi,Fc,as,rfl,hl,nd,na,hin,Rc,hac,fac⟩;have sH:bf F1 Hc:=Rc.g.fs.trans Rc.sub;by_cases hlt:i<xs.length
 · have ei:xs[i]?=some xs[i]:=by simp[hlt]
   refine .inr ⟨vi.go i Hc _ ei sH,fun v H' y=>?_⟩;obtain⟨Fy,gy,rv⟩:=vi.yld i Hc v H' _ Fc ei Rc.g.fs Rc.sub Rc.reel y;refine(DW (hg z)).2 (Rc.grow gy) v _ (fun ρ3=>Le (d9 fr ρ) ρ3) _ rv (le _) fun F3 H3 σ3 ρ3 g3 n3 R3 le3=>?_;refine(DW (ht z)).2 R3 (fun b=>b=true) _ rfl fun b F4 H4 g4 eb=>?_;subst eb;rw[if_pos rfl];have R4:=R3.grow g4;have g34:=(gy.trans g3).trans g4;refine(DW (he z)).2 R4 (fun w=>w = .ml []) _ ⟨[],rfl,Ei _,rfl⟩ fun v5 w5 F5 H5 g5 r5 n5 ew=>?_;subst ew;obtain⟨b,us,rfl,f5,rb,hb5,rs⟩:=(show gh X.K rl F5 H5 v5 []from r5);cases rs;have hb4:H4 b=none:=n5 b rfl;have g35:=g34.trans g5;have hb1:H1 b=none:=(Rc.g.trans g34).freeB hb4;have ne4:∀c o,Hc c=some o->rl.a≠some c->c≠b:=fun c o e n y=>by have:=g34.same c o e n;rw[y,hb4]at this;cases this
   have nba:a≠b:=ne4 a _ hac rD;have nb:b∉as:=fun mb=>ne4 b _ (hin b mb).2.1 (rne b hb1) rfl;refine⟨g35.same a _ hac rD,by rw[DO];omega,xs.length-(i+1),by omega,rfl,hlt,F5,as++[b],by rw[E3];rfl,by rw[D7,hl];rfl,?_,?_,fun c mc=>?_,((R4.grow g5).le le3).other n0 hD (by rw[g35.old a _ hac];exact fac) rD,al,by rw[g35.old a _ hac];exact fac⟩
   · refine List.nodup_append.mpr ⟨nd,by simp,fun c mc d md y=>?_⟩;cases Er.mp md;exact nb (y▸mc)
   · simp only[EW,Er,not_or];exact⟨na,nba⟩
   · rcases EW.mp mc with mc|mc
     · obtain⟨x1,x2,x3⟩:=hin c mc;have nc:c≠a:=fun y=>na (y▸mc);exact⟨x1,by rw[ai nc];exact g35.same c _ x2 (rne c x1),by rw[g35.old c _ x2];exact x3⟩
     · cases Er.mp mc;exact⟨hb1,by rw[ai nba.symm];exact hb5,f5⟩
 · have e:i=xs.length:=by omega
   subst e;refine .inl ⟨vi.stop _ Hc (DQ _) sH,?_⟩;have gg:Grow rl F₀ H₀ Fc Hc:=(R.g.trans g1).trans Rc.g;have Rn:=(R.grow (g1.trans Rc.g)).here nm
   have inn:E8 (Dw X.K rl H₀ Fc Hc Fc) as (DT xs.length []):=by
    rw[<- hl]
    exact fW fun b mb=>by
     obtain⟨x1,x2,x3⟩:=hin b mb;exact⟨[],x2,x3,rne b x1,(R.g.trans g1).freeB x1,.nil⟩
   exact k2 ⟨gg,hac,rD,nd,na,inn⟩ (Rn.set (Grow.refl Rn.sub Rn.reel) (w:=.vv (.ref a)) rfl trivial (fun _ y=>by cases y) ic) _ D ⟨fun _ _ _ _ _ _ _ _ _ _ y=>Fq y,ok.rt⟩ (q1 a)
end
theorem sP(h:ρ.all (fun o=>match o with|some w=>!w.own|none=>true)=true):jd ρ:=fun i w e=>by
 have:=Gb.mp h _ (Gf e);simpa using this
noncomputable def mQ(Dm:MEnds)(xss:List (List DH)):Fl->Prop
 | .nx ρ=>Dm.nx xss ρ
 | .rt w=>Dm.rt w
 | _=>False
theorem oQ{Dm:MEnds}(h:Dm.nx xss ρ):ret (Fl.nx ρ) (mQ Dm xss):=h
theorem yg{Dm:MEnds}{w:W}(h:Dm.rt w):ret (Fl.rt w) (mQ Dm xss):=h
theorem cB{t u:CL}{Dm:MEnds}(h:t a {Dm with nx:=u a Dm} xss ρ):zU t u a Dm xss ρ:=h
theorem wm{x:DH}{Q:En->Prop}(h:Q (ρ.set i (some (.d x)))):pA i x ρ Q:=h
theorem l_{g:CO}{t:CL}{Dm:MEnds}(h:fi ρ fun ys=>∃J:Nat->List (List DH)->En->Prop,J 0 xss ρ /\
 (∀i y xss ρ,ys[i]?=some y->J i xss ρ->g y ρ fun ρ2=>t a {Dm with nx:=J (i+1)} xss ρ2)/\∀xss ρ,J ys.length xss ρ->Dm.nx xss ρ):zV fi g t a Dm xss ρ:=h
theorem jL{Dm:MEnds}(h:Dm.nx xss ρ):v7 a Dm xss ρ:=h
theorem im{t:CK}{Dm:MEnds}(h:mS t ρ (mQ Dm xss)):Cc t a Dm xss ρ:=by
 have e:Cc t a Dm xss ρ=mS t ρ (mQ Dm xss):=rfl;rw[e];exact h
section
variable{X:Cx}{e1:Expr}{f1:TV}{pos dpos q1 q2 q3 q4 q5 q6 q7:Pos}{j1 j2 j3 j4 j5 j6 j7:Nat}
theorem nu{j1 j2 j3 j4 j5 j6 j7}(h1:PV X RlT.no e1 f1) :
 ∃ T,C3 X [.Return (some (.Dict [some (.Constant (.str "cells") j1 q1),some (.Constant (.str "at") j2 q2),some (.Constant (.str "left") j3 q3),some (.Constant (.str "turn") j6 q6)] [e1,.Constant (.int 0) j4 q4,.Constant (.int 0) j5 q5,.Constant (.int 0) j7 q7] dpos)) pos] T /\
   ∀ {F H:Hp}{σ:St}{ρ:En},VR X.K RlT.no F H F H σ ρ->∀D:Ends,(f1 ρ fun w=>∃ns:List Int,w = .ml (ns.map .int)/\ns.length<=63) ->
     (∀r n' F' H',H r=none->Grow RlT.no F H F' H'->CY (RlT.at' r n') F' H'->D.rt (.ref r) H')->T D σ H:=by
 obtain⟨g1,pe1,ke1⟩:=h1;refine⟨_,lN (ql (sC (d3 eN pe1 (d3 eN jE (d3 eN jE (d3 eN jE sj)))) rfl rfl (by intro z;cases z) (by show 4<=15;decide))),fun{F H σ ρ} R D q fin=>?_⟩;intro p hp;have gp:Grow RlT.no F H F (Bt H p (.dK [])):=Grow.laid R.sub R.reel hp;refine ke1 (R.grow gp) _ _ q fun v1 w1 F3 H3 g3 r1 n1 qc=>?_;obtain⟨ns,rfl,hl⟩:=qc;obtain⟨F4,g4,s4,r4⟩:=cL.fz (w:=.ml (ns.map .int)) g3 r1 n1;have r4:Rep X.K F4 v1 (.list (ns.map .int)):=r4
 cases r4 with
 | @lst a vs _ hc rs =>
   have ev:=cZ rs;subst ev;have hp5:H3 p=some (.dK []):=g3.same p _ al (by simp);refine⟨hp5,[(kC,.ref a),(kA,.int 0),(kL,.int 0),(kT,.int 0)],rfl,(by show 4<=15;decide),?_⟩;rw[kF];have f5:F4 p=none:=by rw[g4.old p _ al];exact R.sub.free hp
   have g0:Grow RlT.no F H F4 H3:=gp.trans g4;refine fin p (a,ns) F4 _ hp ⟨fun b o eb _=>by rw[ai (aH eb hp)];exact g0.same b o eb (by simp),g0.fs,fun b o eb=>?_,g0.old,fun _ z=>by cases z⟩ (fun r er=>?_)
   · have:b≠p:=fun z=>by subst z;rw[f5]at eb;cases eb
     rw[ai this];exact g0.sub b o eb
   · cases er;exact⟨f5,⟨_,al,0,0,0,rfl,hc,hl,by omega,by omega,by omega⟩⟩
end
end L2.VL
namespace L2
abbrev Ci(elt t1 i1:Expr)(f1:List Expr)(t2 i2:Expr)(f2:List Expr)(scope:Scope)(pos:Pos):Expr:=.ListComp elt [⟨t1,i1,f1,0⟩,⟨t2,i2,f2,0⟩] scope pos
theorem rp(elt t1 i1:Expr)(f1:List Expr)(t2 i2:Expr)(f2:List Expr)(scope:Scope)(pos:Pos)(it acc:DJ)(env:Env) :
 Lg (Ci elt t1 i1 f1 t2 i2 f2 scope pos) 0 it acc env=(JX i1.pos >>= fun _=>IM it >>= fun r=>match r with
  | none=>pure (.done .next)
  | some v=>Go t1 it v >>= fun _=>H_ t1 env v >>= fun _=>dt f1 env >>= fun ok=>(if ok=true then
      (eval i2 env >>= fun x=>JX i2.pos >>= fun _=>Ey i2 env x >>= fun x=>Jo [x] (KM x) >>= fun y=>runOwn (.compStart (Ci elt t1 i1 f1 t2 i2 f2 scope pos) 1 y acc env) env >>= fun _=>again (.compLoop (Ci elt t1 i1 f1 t2 i2 f2 scope pos) 0 it acc env))
      else again (.compLoop (Ci elt t1 i1 f1 t2 i2 f2 scope pos) 0 it acc env))):=by rfl
theorem rn(elt t1 i1:Expr)(f1:List Expr)(t2 i2:Expr)(f2:List Expr)(scope:Scope)(pos:Pos)(it acc:DJ)(env:Env) :
 Lg (Ci elt t1 i1 f1 t2 i2 f2 scope pos) 1 it acc env=(JX i2.pos >>= fun _=>IM it >>= fun r=>match r with
  | none=>pure (.done .next)
  | some v=>Go t2 it v >>= fun _=>H_ t2 env v >>= fun _=>dt f2 env >>= fun ok=>(if ok=true then
      ((eval elt env >>= fun x=>call (.builtin "list.append") [acc,x] >>= fun _=>pure ()) >>= fun _=>again (.compLoop (Ci elt t1 i1 f1 t2 i2 f2 scope pos) 1 it acc env))
      else again (.compLoop (Ci elt t1 i1 f1 t2 i2 f2 scope pos) 1 it acc env))):=by rfl
section
variable{prog:Ef}{w:EM}{A:ES}{R:Result->DM->Prop}{s:DM}{elt t1 i1 t2 i2:Expr}{f1 f2:List Expr}{scope:Scope}{pos:Pos}{it acc:DJ}{env:Env}
theorem sW(I:Nat->DM->Prop)(hs:∀x,Ey i2 env x=pure x)
 (turn:∀n s,I n s->Eb (Ek prog w) A (IM it) (fun r s₁=>(r=none/\R (.ok .next) s₁)\/∃v,r=some v /\
  Eb (Ek prog w) A (Go t1 it v) (fun _ s₂=>Eb (Ek prog w) A (H_ t1 env v) (fun _ s₃=>Eb (Ek prog w) A (dt f1 env) (fun ok s₄ =>
   if ok=true then Eb (Ek prog w) A (eval i2 env) (fun x s₅=>Eb (Ek prog w) A (KM x) (fun y s₆=>GE (Ek prog w) A (.compStart (Ci elt t1 i1 f1 t2 i2 f2 scope pos) 1 y acc env) (fun r s₇=>r = .ok .next/\∃m,m<n/\I m s₇) s₆) (fun _ _=>False) s₅) (fun _ _=>False) s₄
   else ∃m,m<n/\I m s₄) (fun _ _=>False) s₃) (fun _ _=>False) s₂) (fun _ _=>False) s₁) (fun _ _=>False) s)
 (n:Nat)(h:I n s):GE (Ek prog w) A (.compLoop (Ci elt t1 i1 f1 t2 i2 f2 scope pos) 0 it acc env) R s:=by
 refine K7 rfl I (fun n s hI=>?_) n h;show Eb _ A ((Lg (Ci elt t1 i1 f1 t2 i2 f2 scope pos) 0 it acc env).onRaise (fun x=>do Ln x env;J1 x)) _ _ s;refine Lo ?_;rw[rp];refine DI (Gh (DI (EL (turn n s hI) (fun r s₁ h₁=>?_) fun _ _ h'=>h'.elim)));rcases h₁ with⟨rfl,h₁⟩|⟨v,rfl,h₁⟩
 · exact DK h₁
 · refine DI (EL h₁ (fun _ s₂ h₂=>DI (EL h₂ (fun _ s₃ h₃=>DI (EL h₃ (fun ok s₄ h₄=>?_) fun _ _ z=>z.elim)) fun _ _ z=>z.elim)) fun _ _ z=>z.elim)
   cases ok with
   | false=>exact DK ⟨rfl,h₄⟩
   | true =>
     refine DI (EL h₄ (fun x s₅ h₅=>DI (Gh (DI (Kx (hs x) (DI (Gg (EL h₅ (fun y s₆ h₆=>?_) fun _ _ z=>z.elim))))))) fun _ _ z=>z.elim);refine DI (wpAny_runOwn (Hn h₆ fun r s₇ ⟨hr,h₇⟩=>?_));subst hr;exact DK ⟨rfl,h₇⟩
theorem sV(I:Nat->DM->Prop)
 (turn:∀n s,I n s->Eb (Ek prog w) A (IM it) (fun r s₁=>(r=none/\R (.ok .next) s₁)\/∃v,r=some v /\
  Eb (Ek prog w) A (Go t2 it v) (fun _ s₂=>Eb (Ek prog w) A (H_ t2 env v) (fun _ s₃=>Eb (Ek prog w) A (dt f2 env) (fun ok s₄ =>
   if ok=true then Eb (Ek prog w) A (eval elt env) (fun x s₅=>Eb (Ek prog w) A (call (.builtin "list.append") [acc,x]) (fun _ s₆=>∃m,m<n/\I m s₆) (fun _ _=>False) s₅) (fun _ _=>False) s₄
   else ∃m,m<n/\I m s₄) (fun _ _=>False) s₃) (fun _ _=>False) s₂) (fun _ _=>False) s₁) (fun _ _=>False) s)
 (n:Nat)(h:I n s):GE (Ek prog w) A (.compLoop (Ci elt t1 i1 f1 t2 i2 f2 scope pos) 1 it acc env) R s:=by
 refine K7 rfl I (fun n s hI=>?_) n h;show Eb _ A ((Lg (Ci elt t1 i1 f1 t2 i2 f2 scope pos) 1 it acc env).onRaise (fun x=>do Ln x env;J1 x)) _ _ s;refine Lo ?_;rw[rn];refine DI (Gh (DI (EL (turn n s hI) (fun r s₁ h₁=>?_) fun _ _ h'=>h'.elim)));rcases h₁ with⟨rfl,h₁⟩|⟨v,rfl,h₁⟩
 · exact DK h₁
 · refine DI (EL h₁ (fun _ s₂ h₂=>DI (EL h₂ (fun _ s₃ h₃=>DI (EL h₃ (fun ok s₄ h₄=>?_) fun _ _ z=>z.elim)) fun _ _ z=>z.elim)) fun _ _ z=>z.elim)
   cases ok with
   | false=>exact DK ⟨rfl,h₄⟩
   | true=>exact DI (DI (EL h₄ (fun x s₅ h₅=>DI (EL h₅ (fun _ s₆ h₆=>DK (DK ⟨rfl,h₆⟩)) fun _ _ z=>z.elim)) fun _ _ z=>z.elim))
theorem oA
 (h0:GE (Ek prog w) A (.compLoop (Ci elt t1 i1 f1 t2 i2 f2 scope pos) 1 it acc env) R s)
 (h:Eb (Ek prog w) A (KM it) (fun it' s'=>GE (Ek prog w) A (.compLoop (Ci elt t1 i1 f1 t2 i2 f2 scope pos) 1 it' acc env) R s') (notedBy (Ek prog w) A env fun x s'=>R (.error x) s') s) :
 GE (Ek prog w) A (.compStart (Ci elt t1 i1 f1 t2 i2 f2 scope pos) 1 it acc env) R s:=by
 refine J7 ?_;show Eb _ _ ((compStart (Ci elt t1 i1 f1 t2 i2 f2 scope pos) 1 it acc env).onRaise (fun x=>do Ln x env;JX theWindowsPlace)) _ _ s;refine wpAny_notedAt ?_;unfold compStart;show Eb _ _ (ask >>= _) _ _ s;refine DI (GS (wpAny_ite ?_));split
 · first
     | exact DI (DK (DK (DG rfl h0)))
     | exact DK (DG rfl h0)
 · first
     | exact DI (Hm (DI (Gh (DI (EL h (fun it' s' h'=>DK (DG rfl h')) fun _ _ x=>x)))))
     | (refine DI (Hm ?_);show Eb _ _ (JX i2.pos >>= _) _ _ s;exact DI (Gh (DI (EL h (fun it' s' h'=>DK (DG rfl h')) fun _ _ x=>x))))
end
noncomputable def BH(wi:TI)(g:TG)(tt:TT)(te:TE)(D:Addr)(acc:List V)(σ:St)(H:Hp)(R:List V->St->Hp->Prop):Prop:=wi σ H fun J H1=>∃Wv:Nat->Nat->List V->St->Hp->Prop,(∃m,Wv 0 m acc σ H1) /\
 ∀ i m acc σc H,Wv i m acc σc H->(J.stop i H/\R acc σc H)\/(J.go i H/\∀x H',J.yld i H x H'->g x σc H' fun σ2 H2=>tt σ2 H2 fun b H3 =>
   if b=true then te σ2 H3 fun y H4=>H4 D=some (.lst acc)/\acc.length<sizeLine/\∃m',m'<m/\Wv (i+1) m' (acc++[y]) σ2 (Bt H4 D (.lst (acc++[y])))else ∃m',m'<m/\Wv (i+1) m' acc σ2 H3)
section
variable{Y:Cx}{elt t1 i1 t2 i2:Expr}{f1 f2:List Expr}{scope:Scope}{pos:Pos}{wi:TI}{g:TG}{tt:TT}{te:TE}{D:Addr}
theorem wl(hc:Y.calm=true)(hx:Y.xe=fun _ _=>False)(hi:PI Y t2 i2 wi)(hg:PG Y t2 g)(ht:C1 Y f2 tt)(he:PE Y elt te){acc:List V}{R:List V->St->Hp->Prop}{Rp:DM->Prop}
 (I:Inv Y pins σ H s)(q:BH wi g tt te D acc σ H R)(fin:∀acc σ5 H5 s5,Inv Y pins σ5 H5 s5->R acc σ5 H5->Rp s5) :
 Eb (Ek Y.prog Y.w) Y.A (eval i2 Y.env) (fun x s₅=>Eb (Ek Y.prog Y.w) Y.A (KM x) (fun y s₆=>GE (Ek Y.prog Y.w) Y.A (.compStart (Ci elt t1 i1 f1 t2 i2 f2 scope pos) 1 y (.ref D) Y.env) (fun r s₇=>r = .ok .next/\Rp s₇) s₆) (fun _ _=>False) s₅) (fun _ _=>False) s:=by
 have hi':=hi pins s σ H _ I q;rw[hx]at hi';refine BD hi' fun v s1 h1=>BD h1 fun itv s2 h2=>?_;obtain⟨it,fp,tn,J,H2,e,I2,T,st2,f2',Wv,⟨m0,w0⟩,turn⟩:=h2;subst e;have stat:∀{H':Hp},(∀b∈fp,H' b=none)->∀b∈fp,ke Y pins H' b:=fun hn b hb=>⟨hn b hb,(f2' b hb).2⟩
 have loop:GE (Ek Y.prog Y.w) Y.A (.compLoop (Ci elt t1 i1 f1 t2 i2 f2 scope pos) 1 (.ref it) (.ref D) Y.env) (fun r s₇=>r = .ok .next/\Rp s₇) s2:=by
  refine sV (fun n s'=>∃i acc σ' H',Inv Y pins σ' H' s'/\tn i s'.heap/\(∀b∈fp,H' b=none)/\Wv i n acc σ' H') ?_ m0 ⟨0,acc,σ,H2,I2,st2,fun b hb=>(f2' b hb).1,w0⟩;rintro n s4 ⟨i,acc,σ4,H4,I4,st4,fr4,w4⟩;rcases turn i n acc σ4 H4 w4 with⟨stop,qn⟩|⟨go,step⟩
  · exact BD (T.done Y rfl rfl rfl hc i pins s4 σ4 H4 (fun _ _=>False) I4 (stat fr4) st4 stop) fun r s5 ⟨hr,I5⟩=>.inl ⟨hr,rfl,fin acc σ4 H4 s5 I5 qn⟩
  · refine BD (T.item Y rfl rfl rfl hc i pins s4 σ4 H4 (fun _ _=>False) I4 (stat fr4) st4 go) fun r s5 ⟨u,hr,h5⟩=>.inr ⟨u,hr,?_⟩;refine BD h5 fun _ s6 ⟨x,H6,I6,r6,y6,st6,fr6⟩=>?_;have I6':=I6.pinned (stat fr6) (T.obj _ _ st6)
    have again:∀{σ7:St}{H7:Hp}{s7:DM},Inv Y (pins++eK fp s6.heap) σ7 H7 s7->∀{acc':List V}{m':Nat},m'<n->Wv (i+1) m' acc' σ7 H7 ->
     ∃m,m<n/\∃i acc σ' H',Inv Y pins σ' H' s7/\tn i s7.heap/\(∀b∈fp,H' b=none)/\Wv i m acc σ' H':=fun{σ7 H7 s7} I7 {acc' m'} hm w7=>by
     refine⟨m',hm,i+1,acc',σ7,H7,I7.unpinned,T.keep _ _ _ st6 fun b hb o e=>(I7.pin (b,o) (Ea _ (Ea _ (br hb e)))).1,fun b hb=>?_,w7⟩;obtain⟨o,e,d⟩:=T.obj _ _ st6 b hb;exact(I7.pin (b,o) (Ea _ (Ea _ (br hb e)))).2.1
    have h7:=hg _ s6 σ4 H6 x u _ I6' r6 (step x H6 y6);rw[hx]at h7;refine BD h7 fun _ s7 ⟨σ7,H7,I7,q7⟩=>?_;have h8:=ht _ s7 σ7 H7 _ I7 q7;rw[hx]at h8;refine BD h8 fun ok s8 ⟨H8,I8,q8⟩=>?_
    cases ok with
    | false =>
      rw[if_neg D9]at q8 ⊢;obtain⟨m',hm,w8⟩:=q8
      exact again I8 hm w8
    | true =>
      rw[if_pos rfl]at q8 ⊢;have h9:=he _ s8 σ7 H8 _ I8 q8;rw[hx]at h9;refine BD h9 fun y s9 ⟨yv,H9,I9,r9,eD,hl,m',hm,w9⟩=>?_;have h10:=c6 (X:=Y) _ s9 σ7 H9 (.ref D) [yv] (.ref D) [y] (fun _ H'=>H'=Bt H9 D (.lst (acc++[yv]))) I9 rfl (.cons r9 .nil) ⟨D,acc,yv,rfl,rfl,eD,hl,rfl⟩;rw[hx]at h10;exact BD h10 fun _ s10 ⟨_,H10,I10,_,e10⟩=>by subst e10;exact again I10 hm w9
 exact oA loop (T.self Y.A 0 _ _ _ st2 loop)
end
noncomputable def p8(wi:TI)(fr:List (Option Nat))(g:CompA->TG)(tt:CompA->TT)(wj:CompA->TI)(g2:CompA->TG)(tt2:CompA->TT)(te:CompA->TE):TE:=fun σ H Q=>wi σ H fun J H1=>∀D,H1 D=none->∃Wv:Nat->Nat->List V->St->Hp->Prop,(∃m,Wv 0 m [] (nU fr σ) (Bt H1 D (.lst []))) /\
 ∀ (z:CompA) i m acc σc H,Wv i m acc σc H->(J.stop i H/\Q (.ref D) H)\/(J.go i H/\∀x H',J.yld i H x H'->g z x σc H' fun σ2 H2=>tt z σ2 H2 fun b H3 =>
   if b=true then BH (wj z) (g2 z) (tt2 z) (te z) D acc σ2 H3 fun acc' σ5 H5=>∃m',m'<m/\Wv (i+1) m' acc' σ5 H5 else ∃m',m'<m/\Wv (i+1) m' acc σ2 H3)
section
variable{Y:Cx}{elt t1 i1 t2 i2:Expr}{f1 f2:List Expr}{scope:Scope}{pos:Pos}{wj:TI}{g g2:TG}{tt tt2:TT}{te:TE}{D:Addr}
theorem vQ(hc:Y.calm=true)(hx:Y.xe=fun _ _=>False)(hg:PG Y t1 g)(ht:C1 Y f1 tt)(hj:PI Y t2 i2 wj)(hg2:PG Y t2 g2)(ht2:C1 Y f2 tt2)(he:PE Y elt te)(hs:∀x,Ey i2 Y.env x=pure x)
 {tn:Nat->Heap->Prop}{J:It}{Q:VK}(T:Turn Y.prog Y.w Y.K t1 J fp it tn)(I:Inv Y [] σ H s)(st0:tn 0 s.heap)(fp0:∀b∈fp,H b=none)(stat:∀{H':Hp},(∀b∈fp,H' b=none)->∀b∈fp,ke Y [] H' b)
 {Wv:Nat->Nat->List V->St->Hp->Prop}{m0:Nat}(w0:Wv 0 m0 [] σ H)
 (turn:∀i m acc σc H,Wv i m acc σc H->(J.stop i H/\Q (.ref D) H)\/(J.go i H/\∀x H',J.yld i H x H'->g x σc H' fun σ2 H2=>tt σ2 H2 fun b H3 =>
  if b=true then BH wj g2 tt2 te D acc σ2 H3 fun acc' σ5 H5=>∃m',m'<m/\Wv (i+1) m' acc' σ5 H5 else ∃m',m'<m/\Wv (i+1) m' acc σ2 H3)) :
 GE (Ek Y.prog Y.w) Y.A (.compStart (Ci elt t1 i1 f1 t2 i2 f2 scope pos) 0 (.ref it) (.ref D) Y.env) (fun r s5=>r = .ok .next/\∃σ5 H4,Inv Y [] σ5 H4 s5/\Q (.ref D) H4) s:=by
 have loop:GE (Ek Y.prog Y.w) Y.A (.compLoop (Ci elt t1 i1 f1 t2 i2 f2 scope pos) 0 (.ref it) (.ref D) Y.env) (fun r s5=>r = .ok .next/\∃σ5 H4,Inv Y [] σ5 H4 s5/\Q (.ref D) H4) s:=by
  refine sW (fun n s'=>∃i acc σ' H',Inv Y [] σ' H' s'/\tn i s'.heap/\(∀b∈fp,H' b=none)/\Wv i n acc σ' H') hs ?_ m0 ⟨0,[],_,_,I,st0,fp0,w0⟩;rintro n s4 ⟨i,acc,σ4,H4,I4,st4,fr4,w4⟩;rcases turn i n acc σ4 H4 w4 with⟨stop,qn⟩|⟨go,step⟩
  · exact BD (T.done Y rfl rfl rfl hc i [] s4 σ4 H4 (fun _ _=>False) I4 (stat fr4) st4 stop) fun r s5 ⟨hr,I5⟩=>.inl ⟨hr,rfl,σ4,H4,I5,qn⟩
  · refine BD (T.item Y rfl rfl rfl hc i [] s4 σ4 H4 (fun _ _=>False) I4 (stat fr4) st4 go) fun r s5 ⟨u,hr,h5⟩=>.inr ⟨u,hr,?_⟩;refine BD h5 fun _ s6 ⟨x,H6,I6,r6,y6,st6,fr6⟩=>?_;have I6':=I6.pinned (stat fr6) (T.obj _ _ st6)
    have again:∀{σ7:St}{H7:Hp}{s7:DM},Inv Y ([]++eK fp s6.heap) σ7 H7 s7->∀{acc':List V}{m':Nat},m'<n->Wv (i+1) m' acc' σ7 H7 ->
     ∃m,m<n/\∃i acc σ' H',Inv Y [] σ' H' s7/\tn i s7.heap/\(∀b∈fp,H' b=none)/\Wv i m acc σ' H':=fun{σ7 H7 s7} I7 {acc' m'} hm w7=>by
     refine⟨m',hm,i+1,acc',σ7,H7,I7.unpinned,T.keep _ _ _ st6 fun b hb o e=>(I7.pin (b,o) (Ea _ (Ea _ (br hb e)))).1,fun b hb=>?_,w7⟩;obtain⟨o,e,d⟩:=T.obj _ _ st6 b hb;exact(I7.pin (b,o) (Ea _ (Ea _ (br hb e)))).2.1
    have h7:=hg _ s6 σ4 H6 x u _ I6' r6 (step x H6 y6);rw[hx]at h7;refine BD h7 fun _ s7 ⟨σ7,H7,I7,q7⟩=>?_;have h8:=ht _ s7 σ7 H7 _ I7 q7;rw[hx]at h8;refine BD h8 fun ok s8 ⟨H8,I8,q8⟩=>?_
    cases ok with
    | false =>
      rw[if_neg D9]at q8 ⊢;obtain⟨m',hm,w8⟩:=q8
      exact again I8 hm w8
    | true =>
      rw[if_pos rfl]at q8 ⊢;exact wl hc hx hj hg2 ht2 he I8 q8 fun acc' σ9 H9 s9 I9 ⟨m',hm,w9⟩=>again I9 hm w9
 exact JQ loop (T.self Y.A 0 _ _ _ st0 loop)
end
section
variable{X:Cx}{elt t1 i1 t2 i2:Expr}{f1 f2:List Expr}{scope:Scope}{pos:Pos}{wi:TI}{wj:CompA->TI}{g g2:CompA->TG}{tt tt2:CompA->TT}{te:CompA->TE}
theorem qg.get{scope scX:Scope}(hsc:qg scope scX=true):scope.kind = .function/\(∀y∈scope.names,y.2 = .cell->scope.names.lookup y.1=some .cell)/\(∀y∈scope.names,y.2 = .local->scope.names.lookup y.1=some .local) /\
 ∀y∈scope.names,y.2 = .free->scX.names.lookup y.1=some .cell\/scX.names.lookup y.1=some .free:=by
 obtain⟨sk,sn⟩:=D2.mp hsc;have hall:=Gb.mp sn;refine⟨of_decide_eq_true sk,fun y hy hl=>?_,fun y hy hl=>?_,fun y hy hl=>?_⟩
 · rcases EA.mp (D2.mp (D2.mp (hall y hy)).1).1 with z|z
   · exact absurd hl (of_decide_eq_true z)
   · exact of_decide_eq_true z
 · rcases EA.mp (D2.mp (D2.mp (hall y hy)).1).2 with z|z
   · exact absurd hl (of_decide_eq_true z)
   · exact of_decide_eq_true z
 · rcases EA.mp (D2.mp (hall y hy)).2 with z|z
   · exact absurd hl (of_decide_eq_true z)
   · exact(EA.mp z).imp of_decide_eq_true of_decide_eq_true
theorem lT(N':List Str)(fr:List (Option Nat))(hc:X.calm=true)(hi:PI X t1 i1 wi)(hfr:pM fr N' X.N scope X.env.scope=true)(hsc:qg scope X.env.scope=true)
 (hg:∀y,PG (blk X N' scope y) t1 (g y))(ht:∀y,C1 (blk X N' scope y) f1 (tt y))(hj:∀y,PI (blk X N' scope y) t2 i2 (wj y))(hg2:∀y,PG (blk X N' scope y) t2 (g2 y))(ht2:∀y,C1 (blk X N' scope y) f2 (tt2 y))(he:∀y,PE (blk X N' scope y) elt (te y))
 (hs:autoParam (∀x,Ey i1 X.env x=pure x) æd._auto_1)(hs2:autoParam (∀y x,Ey i2 (blk X N' scope y).env x=pure x) æi._auto_1):PE X (Ci elt t1 i1 f1 t2 i2 f2 scope pos) (p8 wi fr g tt wj g2 tt2 te):=by
 intro pins s σ H Q I h;obtain⟨hkind,hcell,hnames,hfree⟩:=qg.get hsc;obtain⟨frl,frg⟩:=pM.get hfr;obtain⟨cl,hclos,cl1,cl2⟩:=cT (env:=X.env) (scope:=scope) fun y hy hl=>I.ok.has y.1 (hfree y hy hl);rw[eval_ListComp];refine Hq (use:=none) rfl hs hclos hkind hnames (BD (hi pins s σ H _ I h) fun v s1 h1=>BD h1 fun itv s2 h2=>?_);obtain⟨it,fp,tn,J,H2,e,I2,T,st2,f2,q2⟩:=h2;subst e;refine EG ?_;have hD:H2 s2.heap.objs.size=none:=I2.hok.fresh (DQ _)
 have I3:Inv X pins σ (Bt H2 s2.heap.objs.size (.lst [])) {s2 with heap:=s2.heap.push {cls:=.type "list", data:=.seq ([]:List DJ).toArray}} :=
  I2.laid (t':=s2.toks) (fun b u e=>DN _ e) (DQ _) ⟨by show 0<=sizeLine;exact Ei _,[],0,.nil,D3 _ rfl⟩
 obtain⟨Wv,⟨m0,w0⟩,turn⟩:=q2 _ hD;have tn3:tn 0 (s2.heap.push {cls:=.type "list", data:=.seq ([]:List DJ).toArray}):=T.keep _ _ _ st2 fun b _ o e=>DN _ e
 have fpD:∀b∈fp,(Bt H2 s2.heap.objs.size (.lst [])) b=none:=fun b hb=>by
  obtain⟨o,e,_⟩:=T.obj _ _ st2 b hb;rw[ai (EB (DV e))];exact(f2 b hb).1
 have fp3:∀b∈fp,b<(s2.heap.push {cls:=.type "list", data:=.seq ([]:List DJ).toArray}).objs.size:=fun b hb=>by
  obtain⟨o,e,_⟩:=T.obj _ _ tn3 b hb;exact DV e
 exact e9 N' fr hc hkind hcell hfree frl frg cl1 cl2 I3 T tn3 fpD fp3 (fun b hb=>(f2 b hb).2)
  (fun s' IY tY stat=>vQ (Y:=blk X N' scope ⟨cl,fp,X.pn++pins,_,_⟩) hc rfl (hg ⟨cl,fp,X.pn++pins,_,_⟩) (ht ⟨cl,fp,X.pn++pins,_,_⟩) (hj ⟨cl,fp,X.pn++pins,_,_⟩) (hg2 ⟨cl,fp,X.pn++pins,_,_⟩) (ht2 ⟨cl,fp,X.pn++pins,_,_⟩) (he ⟨cl,fp,X.pn++pins,_,_⟩) (hs2 ⟨cl,fp,X.pn++pins,_,_⟩) T IY tY fpD stat w0 (turn ⟨cl,fp,X.pn++pins,_,_⟩))
  (Rp:=compPost (Ek X.prog X.w) X.A X.xe none (EP X pins σ Q) (.ref s2.heap.objs.size)) fun s5 H4 m hn k _ qn=>⟨m,hn,fun h' hs'=>⟨.ref _,H4,k h' hs',rfl,qn⟩⟩
end
end L2
namespace L2.VL
noncomputable def oq(ρ0:En)(g:CO)(ft:TB)(fj:En->(List DH->Prop)->Prop)(g2:CO)(ft2:TB)(fe:TV):List DH->List DH->(List DH->Prop)->Prop
 | [],acc,Q=>Q acc
 | x::xs,acc,Q=>g x ρ0 fun ρ2=>Le ρ0 ρ2/\ft ρ2 fun b=>if b=true then fj ρ2 fun ys=>k7 ρ2 g2 ft2 fe ys acc fun acc'=>oq ρ0 g ft fj g2 ft2 fe xs acc' Q else oq ρ0 g ft fj g2 ft2 fe xs acc Q
noncomputable def k9(fi:En->(List DH->Prop)->Prop)(fr:List (Option Nat))(g:CO)(ft:TB)(fj:En->(List DH->Prop)->Prop)(g2:CO)(ft2:TB)(fe:TV):TV:=fun ρ Q=>fi ρ fun xs=>oq (d9 fr ρ) g ft fj g2 ft2 fe xs [] fun ds=>Q (.ml ds)
section
variable{X:Cx}{rl:RlT}{elt t1 i1 t2 i2:Expr}{f1 f2:List Expr}{scope:Scope}{pos:Pos}{fi fj:En->(List DH->Prop)->Prop}{g g2:CO}{ft ft2:TB}{fe:TV}
theorem oV{N':List Str}{wi:TI}(fr:List (Option Nat))(k0:∀{F₀ H₀ F H:Hp}{σ:St}{ρ:En},VR X.K rl F₀ H₀ F H σ ρ->∀(Qd:List DH->Prop)(R:It->Hp->Prop),fi ρ Qd ->
 (∀J xs F' H',Grow rl F H F' H'->VIt X.K rl F' J xs->Qd xs->R J H')->wi σ H R)
 (hg:∀y,Db (blk X N' scope y) rl t1 g)(ht:∀y,nW (blk X N' scope y) rl f1 ft)(hj:∀y,C9 (blk X N' scope y) rl t2 i2 fj)(hg2:∀y,Db (blk X N' scope y) rl t2 g2)(ht2:∀y,nW (blk X N' scope y) rl f2 ft2)(he:∀y,PV (blk X N' scope y) rl elt fe)
 (R:VR X.K rl F₀ H₀ F H σ ρ)(Qd:W->Prop)(Q:VK)(q:k9 fi fr g ft fj g2 ft2 fe ρ Qd)
 (k:∀v w F' H',Grow rl F H F' H'->cL X.K rl F' H' v w->dm H v w->Qd w->Q v H') :
 p8 wi fr (fun y=>FK (hg y)) (fun y=>FK (ht y)) (fun y=>FK (hj y)) (fun y=>FK (hg2 y)) (fun y=>FK (ht2 y)) (fun y=>FK (he y)) σ H Q:=by
 refine k0 R _ _ q fun J xs F1 H1 g1 vi q1=>?_;intro D hD;have rD:rl.a≠some D:=fun e=>by obtain⟨o,z⟩:=g1.reel.live e;rw[hD]at z;cases z
 have FD:F1 D=none:=g1.sub.free hD;have gD:Grow rl F1 H1 F1 (Bt H1 D (.lst [])):=Grow.laid g1.sub g1.reel hD;have R1:=R.grow g1;have n0:jd (d9 fr ρ):=dB;have keepD:∀{acc:List V}{Fc Hc Fx Hx:Hp},Hc D=some (.lst acc)->Fc D=none->Grow rl Fc Hc Fx Hx->Hx D=some (.lst acc)/\Fx D=none:=fun hDc fDc gx=>⟨gx.same D _ hDc rD,by rw[gx.old D _ hDc];exact fDc⟩
 refine⟨fun i m acc σc Hc=>m=xs.length-i/\i<=xs.length/\∃Fc ds,VR X.K rl F1 H1 Fc Hc σc (d9 fr ρ)/\Hc D=some (.lst acc)/\Fc D=none/\Reps X.K Fc acc ds/\oq (d9 fr ρ) g ft fj g2 ft2 fe (xs.drop i) ds (fun ds=>Qd (.ml ds)),
  ⟨xs.length,by simp,Ei _,F1,[],gn R1 gD,al,FD,.nil,by simpa using q1⟩,?_⟩
 rintro z i m acc σc Hc ⟨rfl,hi,Fc,ds,Rc,hDc,fDc,rs,q2⟩;have sH:bf F1 Hc:=Rc.g.fs.trans Rc.sub;by_cases hlt:i<xs.length
 · have ei:xs[i]?=some xs[i]:=by simp[hlt]
   have ed:xs.drop i=xs[i]::xs.drop (i+1):=FU hlt;rw[ed]at q2;refine .inr ⟨vi.go i Hc _ ei sH,fun v H' y=>?_⟩;obtain⟨Fy,gy,rv⟩:=vi.yld i Hc v H' _ Fc ei Rc.g.fs Rc.sub Rc.reel y;refine(DW (hg z)).2 (Rc.grow gy) v _ _ _ rv q2 fun F3 H3 σ3 ρ3 g3 n3 R3 ⟨le3,q3⟩=>?_;refine(DW (ht z)).2 R3 _ _ q3 fun b F4 H4 g4 q4=>?_;have R4:=R3.grow g4;have g34:=(gy.trans g3).trans g4;have nm3:jd ρ3:=n3 n0
   cases b with
   | false=>exact⟨xs.length-(i+1),by omega,rfl,hlt,F4,ds,R4.le le3,(keepD hDc fDc g34).1,(keepD hDc fDc g34).2,rs.mono g34.fs,q4⟩
   | true =>
     refine(DW (hj z)).2 R4 _ _ q4 fun J2 ys F5 H5 g5 vi2 q5=>?_;have g35:=g34.trans g5
     refine⟨fun j m acc σe He=>m=ys.length-j/\j<=ys.length/\∃Fe es,VR X.K rl F1 H1 Fe He σe ρ3/\bf F5 Fe/\He D=some (.lst acc)/\Fe D=none/\Reps X.K Fe acc es /\
      k7 ρ3 g2 ft2 fe (ys.drop j) es (fun es=>oq (d9 fr ρ) g ft fj g2 ft2 fe (xs.drop (i+1)) es (fun ds=>Qd (.ml ds))),
      ⟨ys.length,by simp,Ei _,F5,ds,R4.grow g5,.refl _,(keepD hDc fDc g35).1,(keepD hDc fDc g35).2,rs.mono g35.fs,by simpa using q5⟩,?_⟩
     rintro j m acc2 σe He ⟨rfl,hj',Fe,es,Re,s5,hDe,fDe,res,q6⟩;have sHe:bf F5 He:=s5.trans Re.sub;by_cases hlt2:j<ys.length
     · have ej:ys[j]?=some ys[j]:=by simp[hlt2]
       have edj:ys.drop j=ys[j]::ys.drop (j+1):=FU hlt2;rw[edj]at q6;refine .inr ⟨vi2.go j He _ ej sHe,fun v2 H2' y2=>?_⟩;obtain⟨Fy2,gy2,rv2⟩:=vi2.yld j He v2 H2' _ Fe ej s5 Re.sub Re.reel y2;refine(DW (hg2 z)).2 (Re.grow gy2) v2 _ _ _ rv2 q6 fun F7 H7 σ7 ρ7 g7 n7 R7 ⟨le7,q7⟩=>?_;refine(DW (ht2 z)).2 R7 _ _ q7 fun b2 F8 H8 g8 q8=>?_;have R8:=R7.grow g8;have g78:=(gy2.trans g7).trans g8
       cases b2 with
       | false=>exact⟨ys.length-(j+1),by omega,rfl,hlt2,F8,es,R8.le le7,s5.trans g78.fs,(keepD hDe fDe g78).1,(keepD hDe fDe g78).2,res.mono g78.fs,q8⟩
       | true =>
         refine(DW (he z)).2 R8 _ _ q8 fun v9 w9 F9 H9 g9 r9 n9 ⟨d,ed9,hl,q9⟩=>?_;obtain⟨F10,g10,s10,r10⟩:=cL.fz g9 r9 n9;rw[ed9]at r10;have g710:=g78.trans g10;refine⟨(keepD hDe fDe g710).1,by rw[res.length];exact hl,ys.length-(j+1),by omega,rfl,hlt2,F10,es++[d],((R8.grow g10).le le7).other nm3 hD (keepD hDe fDe g710).2 rD,s5.trans g710.fs,al,(keepD hDe fDe g710).2,(res.mono g710.fs).snoc r10,q9⟩
     · have e:j=ys.length:=by omega
       subst e;rw[GR]at q6;exact .inl ⟨vi2.stop _ He (DQ _) sHe,xs.length-(i+1),by omega,rfl,hlt,Fe,es,Re.le le3,hDe,fDe,res,q6⟩
 · have e:i=xs.length:=by omega
   subst e;rw[GR]at q2;refine .inl ⟨vi.stop _ Hc (DQ _) sH,k _ (.ml ds) Fc Hc (g1.trans Rc.g) ⟨D,acc,rfl,fDc,rD,hDc,rs⟩ (fun a ea=>by cases ea;exact g1.freeB hD) q2⟩
theorem oh(N':List Str)(fr:List (Option Nat))(hc:X.calm=true)(hi:C9 X rl t1 i1 fi)
 (hg:∀y,Db (blk X N' scope y) rl t1 g)(ht:∀y,nW (blk X N' scope y) rl f1 ft)(hj:∀y,C9 (blk X N' scope y) rl t2 i2 fj)(hg2:∀y,Db (blk X N' scope y) rl t2 g2)(ht2:∀y,nW (blk X N' scope y) rl f2 ft2)(he:∀y,PV (blk X N' scope y) rl elt fe)
 (hfr:autoParam (pM fr N' X.N scope X.env.scope=true) æa._auto_1)(hsc:autoParam (qg scope X.env.scope=true) æa._auto_1)
 (hs:autoParam (∀x,Ey i1 X.env x=pure x) æd._auto_1)(hs2:autoParam (∀y x,Ey i2 (blk X N' scope y).env x=pure x) æi._auto_1):PV X rl (.ListComp elt [⟨t1,i1,f1,0⟩,⟨t2,i2,f2,0⟩] scope pos) (k9 fi fr g ft fj g2 ft2 fe):=by
 obtain⟨wi,p0,k0⟩:=hi
 exact⟨_,lT N' fr hc p0 hfr hsc (fun y=>(DW (hg y)).1) (fun y=>(DW (ht y)).1) (fun y=>(DW (hj y)).1) (fun y=>(DW (hg2 y)).1) (fun y=>(DW (ht2 y)).1) (fun y=>(DW (he y)).1) hs hs2,
  fun R Qd Q q k=>oV fr k0 hg ht hj hg2 ht2 he R Qd Q q k⟩
end
noncomputable def qz(ρ0:En)(g:CO)(ft:TB)(fj:En->(List DH->Prop)->Prop)(g2:CO)(ft2:TB)(fe:TV)(x:DH)(acc:List DH):Mo (List DH) :=
 Cy (g x ρ0) fun ρ2=>Cq (Le ρ0 ρ2) (Cy (ft ρ2) fun b=>if b=true then Cy (fj ρ2) fun ys=>bO (Ck ρ2 g2 ft2 fe) ys acc else ret acc)
noncomputable def di(b:DH->List DH->Mo (List DH)):List DH->List DH->Mo (List DH)
 | [],acc=>ret acc
 | x::xs,acc=>Cy (b x acc) (di b xs)
theorem jZ(ρ0:En)(g:CO)(ft:TB)(fj:En->(List DH->Prop)->Prop)(g2:CO)(ft2:TB)(fe:TV):∀(xs acc:List DH),oq ρ0 g ft fj g2 ft2 fe xs acc=di (qz ρ0 g ft fj g2 ft2 fe) xs acc
 | [],acc=>rfl
 | x::xs,acc=>by
   refine af fun Q=>?_;show(g x ρ0 fun ρ2=>Le ρ0 ρ2/\ft ρ2 fun b=>if b=true then fj ρ2 fun ys=>k7 ρ2 g2 ft2 fe ys acc fun acc'=>oq ρ0 g ft fj g2 ft2 fe xs acc' Q else oq ρ0 g ft fj g2 ft2 fe xs acc Q)↔(Cy (qz ρ0 g ft fj g2 ft2 fe x acc) (di (qz ρ0 g ft fj g2 ft2 fe) xs)) Q;simp only[jZ ρ0 g ft fj g2 ft2 fe xs,i8]
   have:∀(ρ2:En)(b:Bool),(if b=true then fj ρ2 fun ys=>bO (Ck ρ2 g2 ft2 fe) ys acc fun acc'=>di (qz ρ0 g ft fj g2 ft2 fe) xs acc' Q else di (qz ρ0 g ft fj g2 ft2 fe) xs acc Q)
    = (Cy (if b=true then Cy (fj ρ2) fun ys=>bO (Ck ρ2 g2 ft2 fe) ys acc else ret acc) (di (qz ρ0 g ft fj g2 ft2 fe) xs)) Q:=by
    intro ρ2 b;cases b<;>rfl
   simp only[this];exact Jz
theorem m_comp2(fi:En->(List DH->Prop)->Prop)(fr:List (Option Nat))(g:CO)(ft:TB)(fj:En->(List DH->Prop)->Prop)(g2:CO)(ft2:TB)(fe:TV)(ρ:En) :
 k9 fi fr g ft fj g2 ft2 fe ρ=Cy (fi ρ) fun xs=>Cy (di (qz (d9 fr ρ) g ft fj g2 ft2 fe) xs []) fun ds=>ret (.ml ds):=by
 refine af fun Q=>?_;show(fi ρ fun xs=>oq (d9 fr ρ) g ft fj g2 ft2 fe xs [] fun ds=>Q (.ml ds))↔_;simp only[jZ];exact Jz
section
variable{α β:Type}{b:DH->Mo (Option DH)}
theorem i9{c:DH->List DH->Mo (List DH)}{xs:List α}{enc:α->DH}(F:α->List DH)(h:∀x∈xs,∀acc:List DH,acc.length+(F x).length<=sizeLine->c (enc x) acc=ret (acc++F x)) :
 ∀acc:List DH,acc.length+(xs.flatMap F).length<=sizeLine->di c (xs.map enc) acc=ret (acc++xs.flatMap F):=by
 induction xs with
 | nil=>intro acc _;show ret acc=_;simp
 | cons x xs ih =>
   intro acc hl;rw[FT,D7]at hl;show Cy (c (enc x) acc) _=_;rw[h x DS acc (by omega),bnd_ret,ih (fun y my=>h y (DL _ my)) (acc++F x) (by rw[D7];omega),FT,GH]
theorem yH{γ:Type}{c:DH->List DH->Mo (List DH)}{k:List DH->Mo γ}{Q:γ->Prop}{xs:List α}{enc:α->DH}(F:α->List DH)(hx:xs'=xs.map enc)
 (h:∀x∈xs,∀acc:List DH,acc.length+(F x).length<=sizeLine->c (enc x) acc=ret (acc++F x))(hl:(xs.flatMap F).length<=sizeLine)(fin:k (xs.flatMap F) Q):Cy (di c xs' []) k Q:=by
 subst hx;rw[i9 F h [] (by simpa using hl),bnd_ret];simpa using fin
end
noncomputable def DF:=DG @m_comp2 (@bnd_ret)
noncomputable def fr(q:Rat):DH:=.tuple [.int q.num,.int q.den]
theorem iw{r:Rat}(h:fr q=fr r):q=r:=by
 simp only[fr,F_,ED,HZ,and_true]at h;exact Rat.ext h.1 (by omega)
theorem c8(n:Int)(d:Nat)(h:d≠0):tU n d=fr (JA n d h):=by
 unfold tU fr;rw[Rat.normalize_eq];have g:(Et n d:Int)=((n.natAbs.gcd d:Nat):Int):=by simp[Et]
 have gp:0<n.natAbs.gcd d:=Nat.gcd_pos_of_pos_right _ (by omega);have e1:n.fdiv (Et n d)=n / ((n.natAbs.gcd d:Nat):Int):=by rw[g,Fp _ (by omega)]
 have e2:(d:Int).fdiv (Et n d)=((d / n.natAbs.gcd d:Nat):Int):=by rw[g,Fp _ (by omega),Int.natCast_ediv]
 rw[e1,e2]
theorem eT{a b:Int}(hb:0<b):tU a b=fr ((a:Rat) / (b:Rat)):=by
 obtain⟨d,rfl⟩:=EF (show 0<=b by omega);rw[c8 a d (by omega)];congr 1;have:(JA a d (by omega))=mkRat a d:=by rw[Rat.normalize_eq_mkRat]
 rw[this,Rat.mkRat_eq_div];rfl
theorem wD(q r:Rat):tU (q.num*r.den+r.num*q.den) (q.den*r.den)=fr (q+r):=by
 have:=c8 (q.num*r.den+r.num*q.den) (q.den*r.den) (J8 q.den_nz r.den_nz);rw[Iy]at this;rw[this,Rat.add_def]
theorem wB(q r:Rat):tU (q.num*r.den-r.num*q.den) (q.den*r.den)=fr (q-r):=by
 have:=c8 (q.num*r.den-r.num*q.den) (q.den*r.den) (J8 q.den_nz r.den_nz);rw[Iy]at this;rw[this,Rat.sub_def]
theorem wC(q r:Rat):tU (q.num*r.num) (q.den*r.den)=fr (q*r):=by
 have:=c8 (q.num*r.num) (q.den*r.den) (J8 q.den_nz r.den_nz);rw[Iy]at this;rw[this,Rat.mul_def]
theorem yD(q r:Rat):decide (q.num*r.den<r.num*q.den)=decide (q<r):=by
 rw[decide_eq_decide];exact(Rat.lt_iff q r).symm
noncomputable def BX(n:Nat)(q:Rat):Prop:=q.num.natAbs<2^n/\q.den<2^n
theorem BX.mono(h:BX n q)(hm:n<=m):BX m q:=⟨DR h.1 (D4 (by decide) hm),DR h.2 (D4 (by decide) hm)⟩
theorem nN{i:Int}(h:i.natAbs<2^2000):DB i:=DR h (D4 (by decide) (by decide))
theorem BX.bn(h:BX 2000 q):DB q.num:=nN h.1
theorem BX.bd(h:BX 2000 q):DB (q.den:Int):=nN (by rw[Ga];exact h.2)
theorem dE(q r:Rat):(0:Int)<(q.den:Int)*(r.den:Int):=Gc (by have:=q.den_nz;omega) (by have:=r.den_nz;omega)
theorem cc{r:Rat}(h:BX 2000 q)(h':BX 2000 r):((q.den:Int)*(r.den:Int)).natAbs<2^8000:=by
 rw[Fj,Ga,Ga];have:q.den*r.den<2^2000*2^2000:=JK h.2 h'.2;rw[<- Iz]at this;exact DR this (D4 (by decide) (by decide))
inductive Sd where
 | to (t:Rat)|from(a b:Rat)|round (a b:Rat)
noncomputable def Sd.last:Sd->Rat
 | .to t=>t | .from _ b=>b | .round _ b=>b
noncomputable def BR:Sd->DH
 | .to t=>.tuple [.str "to", fr t]
 | .from a b=>.tuple [.str "from", fr a,fr b]
 | .round a b=>.tuple [.str "round", fr a,fr b]
noncomputable def mx(q r:Rat):Rat:=if q<r then r else q
theorem fr0:pr 0 1=fr 0:=rfl
theorem fr1:pr 1 1=fr 1:=rfl
theorem AG:BX 60 1:=⟨by decide,by decide⟩
theorem iY{n:Int}{d k:Nat}(hd:d≠0)(h1:n.natAbs<2^k)(h2:d<2^k):BX k (JA n d hd):=by
 rw[Rat.normalize_eq];refine⟨?_,FG (Nat.div_le_self _ _) h2⟩;show(n / ((n.natAbs.gcd d:Nat):Int)).natAbs<2^k;have hdv:((n.natAbs.gcd d:Nat):Int)∣n:=Int.ofNat_dvd_left.mpr (Nat.gcd_dvd_left _ _);rw[Int.natAbs_ediv_of_dvd hdv,Ga];exact FG (Nat.div_le_self _ _) h1
theorem ca{a b:Nat}(h1:a<2^m)(h2:b<2^n):a*b<2^(m+n):=by
 rw[Iz];exact JK h1 h2
theorem cO{r:Rat}(h:BX m q)(h':BX n r):BX (m+n) (q*r):=by
 rw[Rat.mul_def];refine iY _ ?_ (ca h.2 h'.2);rw[Fj];exact ca h.1 h'.1
theorem qN{r:Rat}(h:BX m q)(h':BX n r):BX (m+n+1) (q+r):=by
 rw[Rat.add_def];have a1:=ca h.1 h'.2;have a2:=ca h'.1 h.2;rw[Nat.add_comm n m]at a2;have a3:=ca h.2 h'.2;refine iY _ ?_ (DR a3 (D4 (by decide) (by omega)));have t:=Jj (q.num*r.den) (r.num*q.den);rw[Fj,Fj,Ga,Ga]at t;rw[GL];omega
theorem jr{r:Rat}(h:BX m q)(h':BX n r):BX (m+n+1) (q-r):=by
 rw[Rat.sub_eq_add_neg];exact qN h ⟨by rw[Rat.neg_num,Int.natAbs_neg];exact h'.1,h'.2⟩
noncomputable def bv(qs:List Rat):Rat:=qs.foldl (· * ·) 1
noncomputable def qK(ss:List Sd):DH:=.tuple (ss.map BR)
noncomputable def B2(qs:List Rat):DH:=.tuple (qs.map fr)
noncomputable def ptsQ(ps:List (List Rat)):DH:=.tuple (ps.map B2)
theorem at_last2{α:Type}(x y:α):L2.atI [x,y] (-1)=some y:=rfl
theorem at_last3{α:Type}(x y z:α):L2.atI [x,y,z] (-1)=some z:=rfl
theorem cV{α β:Type}(f:α->DH)(g:β->DH):∀(xs:List α)(ys:List β),kf (xs.map f) (ys.map g)=(xs.zip ys).map fun p=>.tuple [f p.1,g p.2]
 | [],_=>by simp[kf]
 | _::_,[]=>by simp[kf]
 | x::xs,y::ys=>by
   show Fb [f x,g y]::kf (xs.map f) (ys.map g)=_;rw[cV f g xs ys];rfl
theorem nq{α:Type}(p:α->Bool)(f:α->DH):∀xs:List α,(xs.filterMap fun x=>if p x=true then some (f x)else none).length=(xs.filter p).length
 | []=>rfl
 | x::xs=>by
   have ih:=nq p f xs;cases h:p x<;>simp[h,ih]
theorem mF:∀qs:List Rat,E6 (qs.map fr)=true
 | []=>rfl
 | q::qs=>by simp[E6,Gk,fr,mF qs]
theorem nv:∀qs:List Rat,FH (qs.map fr)<=3
 | []=>by simp[FH]
 | q::qs=>by
   have:=nv qs;simp[FH,HQ,fr]at this ⊢;omega
theorem ku(qs:List Rat):E9 (.list (qs.map fr))=true:=by
 have:=nv qs;simp[E9,Gk,HQ,mF];omega
theorem at_last1{α:Type}(x:α):L2.atI [x] (-1)=some x:=rfl
theorem fA{r:Rat}:fr q=fr r↔q=r:=⟨iw,fun h=>by rw[h]⟩
theorem bY{s t:Sd}:BR s=BR t↔s=t:=by
 constructor
 · intro h;have n1:¬(Gj "from" = Gj "round"):=by decide +kernel
   cases s<;>cases t<;>simp[BR,fA,n1,Im n1]at h ⊢ <;> first|exact h|exact(n1 h.1.symm).elim|exact(n1 h.1).elim
 · rintro rfl;rfl
theorem bZ{a b:List Rat}:B2 a=B2 b↔a=b:=by
 unfold B2;rw[F_,bu fun _ _=>fA]
theorem bC{a b:List Sd}:qK a=qK b↔a=b:=by
 unfold qK;rw[F_,bu fun _ _=>bY]
theorem bx{a b:List (List Rat)}:ptsQ a=ptsQ b↔a=b:=by
 unfold ptsQ;rw[F_,bu fun _ _=>bZ]
theorem cn{a b:List Rat}:a.map fr=b.map fr↔a=b:=bu fun _ _=>fA
theorem item_fr0(q:Rat):itemAt (fr q) 0=some (.int q.num):=rfl
theorem item_fr1(q:Rat):itemAt (fr q) 1=some (.int q.den):=rfl
theorem tupD_pt(a:List Rat):tupD (B2 a)=some (a.map fr):=rfl
theorem seqD_pt(a:List Rat):eE (B2 a)=some (a.map fr):=rfl
theorem lenD_pt(a:List Rat):qy (B2 a)=some a.length:=by show some (a.map fr).length=_;rw[DO]
theorem item_pt(a:List Rat)(i:Int):itemAt (B2 a) i=(atI a i).map fr:=dG _ _ _
theorem tupD_bx(a:List Sd):tupD (qK a)=some (a.map BR):=rfl
theorem seqD_bx(a:List Sd):eE (qK a)=some (a.map BR):=rfl
theorem lenD_bx(a:List Sd):qy (qK a)=some a.length:=by show some (a.map BR).length=_;rw[DO]
theorem item_bx(a:List Sd)(i:Int):itemAt (qK a) i=(atI a i).map BR:=dG _ _ _
theorem tupD_ps(a:List (List Rat)):tupD (ptsQ a)=some (a.map B2):=rfl
theorem seqD_ps(a:List (List Rat)):eE (ptsQ a)=some (a.map B2):=rfl
theorem lenD_ps(a:List (List Rat)):qy (ptsQ a)=some a.length:=by show some (a.map B2).length=_;rw[DO]
theorem item_ps(a:List (List Rat))(i:Int):itemAt (ptsQ a) i=(atI a i).map B2:=dG _ _ _
theorem kind_pt(a:List Rat):cK (B2 a)=cK (.tuple []):=rfl
theorem kind_bx(a:List Sd):cK (qK a)=cK (.tuple []):=rfl
noncomputable def qd(a b:Int):Rat:=(a:Rat) / (b:Rat)
theorem jM{a b:Int}(hb:0<b):Fb [.int (a.fdiv (Et a b)),.int (b.fdiv (Et a b))]=fr (qd a b):=eT hb
theorem lI(q:Rat):qd q.num q.den=q:=by
 unfold qd;have:=Rat.mkRat_self q;rw[Rat.mkRat_eq_div]at this;exact this
theorem vB(q r:Rat):qd (q.num*r.den+r.num*q.den) (q.den*r.den)=q+r:=iw (by rw[<- wD];exact(eT (dE q r)).symm)
theorem vz(q r:Rat):qd (q.num*r.den-r.num*q.den) (q.den*r.den)=q-r:=iw (by rw[<- wB];exact(eT (dE q r)).symm)
theorem vA(q r:Rat):qd (q.num*r.num) (q.den*r.den)=q*r:=iw (by rw[<- wC];exact(eT (dE q r)).symm)
theorem fI(q:Rat):(0:Int)<(q.den:Int):=by have:=q.den_nz;omega
theorem ie{a b:Int}{k:Nat}(hb:0<b)(h1:a.natAbs<2^k)(h2:b.natAbs<2^k):BX k (qd a b):=by
 obtain⟨d,rfl⟩:=EF (show 0<=b by omega);have hd:d≠0:=by omega
 have e:qd a d=JA a d hd:=iw (by rw[<- c8,eT (by omega)];rfl);rw[e];exact iY _ h1 (by simpa using h2)
theorem jA:∀(qs:List Rat)(k:Nat)(a:Rat),BX k a->(∀q∈qs,BX 190 q)->BX (k+190*qs.length) (qs.foldl (· * ·) a)
 | [],k,a,h,_=>h
 | q::qs,k,a,h,hq=>by
   have:=jA qs (k+190) (a*q) (cO h (hq q DS)) fun r hr=>hq r (DL _ hr);rw[FE];refine this.mono ?_;rw[DX];omega
noncomputable def DE:=DG @item_fr0 (DG @item_fr1 (DG @tupD_pt (DG @seqD_pt (DG @lenD_pt (DG @item_pt (DG @tupD_bx (DG @seqD_bx (DG @lenD_bx (DG @item_bx (DG @tupD_ps (DG @seqD_ps (DG @lenD_ps (DG @item_ps (DG @at_last1 (DG @at_last2 (DG @at_last3 (DG @kind_pt (DG @kind_bx (DG @fr0 (@fr1))))))))))))))))))))
noncomputable def q9:Rat:=⟨999999999998,999999999999,by decide,by decide⟩
section
variable{X:Cx}{rl:RlT}{e e1 e2 e3:Expr}{fa f1 f2 f3:TV}{pos dpos q1 q2 q3:Pos}{ρ:En}{j1 j2 j3}
end
section
variable{X:Cx}{rl:RlT}{elt t1 i1 t2 i2:Expr}{f1 f2:List Expr}{scope:Scope}{pos:Pos}{fi fj:En->(List DH->Prop)->Prop}{g g2:CO}{ft ft2:TB}{fe:TV}
end
end L2.VL
namespace L2.ZP
section
variable{prog:Ef}{w:EM}{A:ES}{E:DJ->DM->Prop}{s:DM}{z it a:Addr}{k:Nat}{xs:Array DJ}{x p:DJ}{b:Bool}
abbrev e2(h:Heap)(b:Bool)(a:Addr):Heap:=(y1 h b a).push {cls:=.type "enumerate", data:=.fields #[.none,.bool false,.ref h.objs.size,Kn 0,.none,.none]}
end
end L2.ZP
namespace L2
open PySem PySem.Spec PyProof.Rows L2.ZP
section
variable{X:Cx}{e1:Expr}{ta:TA}{elts:List Expr}{kt:Nat}{pt p pos:Pos}
end
end L2
namespace L2.VL
section
variable{X:Cx}{rl:RlT}{a:Expr}{elts:List Expr}{kt:Nat}{pt p pos:Pos}{fs:CJ}
end
section
variable{α β:Type}{b:DH->Mo (Option DH)}
end
section
variable{X:Cx}{rl:RlT}{elt tg iter:Expr}{ifs:List Expr}{scope:Scope}{pos px:Pos}{fi:En->(List DH->Prop)->Prop}{g:CO}{ft:TB}{fe:TV}{ρ:En}
end
section
variable{X:Cx}{rl:RlT}{a b c o e:Expr}{es:List Expr}{fa fb:TV}{fs:CJ}{pos p apos cpos:Pos}{ρ:En}
end
end L2.VL
namespace L2
section
variable{prog:Ef}{w:EM}{A:ES}{E:DJ->DM->Prop}{s:DM}
end
section
variable{X:Cx}
end
end L2
namespace L2.VL
section
variable{X:Cx}{rl:RlT}{e:Expr}{fa:TV}{pos:Pos}{ρ:En}
end
noncomputable def fv(b:Int):List Int->Rat
 | []=>0
 | d::ds=>((d:Rat)+fv b ds) / (b:Rat)
noncomputable def tv(b:Int)(ds:List Int):Int:=ds.foldl (fun t d=>t*b+d) 0
theorem bU{b:Int}(h:0<b):(b:Rat)≠0:=by
 intro z;have:b=0:=by exact_mod_cast z
 omega
noncomputable def ix(p:List Int)(f:Int):Int:=(p.idxOf f:Int)
theorem jz{a c:Int}(hc:0<c):(qd a c).num*c=a*(qd a c).den:=by
 have h1:=bU hc;have h2:=bU (fI (qd a c));have e:qd (qd a c).num (qd a c).den=qd a c:=lI _;have e':((qd a c).num:Rat) / (((qd a c).den:Int):Rat)=(a:Rat) / (c:Rat):=e;generalize (qd a c).num=x at *;generalize ((qd a c).den:Int)=y at *;have:(x:Rat)*(c:Rat)=(a:Rat)*(y:Rat):=by grind
 exact_mod_cast this
noncomputable def Fx(b:Int)(N:Nat)(q:Rat):Prop:=∃(T:Int)(k:Nat),q=qd T (b^k)/\0<=T/\T<b^k/\b^k<2^N
theorem gf{x:Int}{N:Nat}(h0:0<=x)(h:x<2^N):x.natAbs<2^N:=by
 have:((x.natAbs:Nat):Int)<((2^N:Nat):Int):=by rw[Int.natAbs_of_nonneg h0];exact_mod_cast h
 exact_mod_cast this
theorem nh{g:Int}(hg:0<g):Fb [.int 1,.int g]=fr (qd 1 g):=by
 rw[<- jM hg];have e:(Et 1 g:Int)=1:=by rw[Int.one_gcd];rfl
 rw[e];simp
theorem iG{i:Int}{k:Nat}(h:i.natAbs<2^k)(hk:k<=60000):DB i:=DR h (D4 (by decide) hk)
theorem t7:∀{xs:List DH},(∀x∈xs,gH x=true)->∃ns:List Int,xs=ns.map .int
 | [],_=>⟨[],rfl⟩
 | x::xs,h=>by
   obtain⟨i,rfl⟩:=qA.mp (h x DS);obtain⟨ns,rfl⟩:=t7 (xs:=xs) fun y hy=>h y (DL _ hy);exact⟨i::ns,rfl⟩
section
variable{X:Cx}{rl:RlT}{a b e:Expr}{fa fb:TV}{pos:Pos}{ρ:En}
end
end L2.VL
namespace L2
section
variable{X:Cx}
theorem tm{its:List DJ}(r:bP (ns.map V.int) its){v:DJ}(e:its[i]?=some v):∃t,v = .int (ns.getD i 0) t:=by
 have hl:=r.length;rw[DO]at hl;have hi:i<ns.length:=by have:=(Ec.mp e).1;omega
 have hb:(ns.map V.int)[i]?=some (.int ns[i]):=by simp[hi]
 obtain⟨u,hu,ru⟩:=r.get hb;rw[e]at hu;cases hu;have:ns.getD i 0=ns[i]:=by simp[List.getD,hi]
 rw[this];exact ru
theorem preSum_eq(ns:List Int):preSum (fun i=>ns.getD i 0) ns.length=ns.sum:=by
 have key:∀k,k<=ns.length->preSum (fun i=>ns.getD i 0) k=(ns.take k).sum:=by
  intro k
  induction k with
  | zero=>intro _;rfl
  | succ k ih =>
    intro hk;have hk':k<ns.length:=by omega
    show preSum _ k+ns.getD k 0=_;rw[ih (by omega),Ej hk',List.sum_append];simp[List.getD,hk']
 rw[key _ (DQ _),D6 (DQ _)]
theorem nH(hc:X.calm=true):dS X (.builtin "sum") (fun xs H Q=>∃(p:Addr)(ns:List Int),xs=[.ref p]/\CS X.K H p (ns.map V.int)/\Q (.int ns.sum) H):=by
 intro pins s σ H xs us Q I r ⟨p,ns,ex,hq,q⟩;subst ex;obtain⟨u,rfl,ru⟩:=vals1 r;cases ru;obtain⟨its,rv,pl,hz⟩:=I.list hq;have hl:=rv.length;rw[DO]at hl;refine call_sum_walkG (HD pl.isList ?_);have ne:p≠s.heap.objs.size:=by obtain⟨o,ho,_⟩:=pl.isList;exact EB (DV ho)
 refine⟨s.heap.objs.size,_,_,_,_,_,fun i=>ns.getD i 0,rfl,Walks.list (A:=X.A.in1) (I.ok.hd hc) s.heap.objs.size p ne its.toArray,⟨⟨_,D3 _ rfl,rfl,rfl⟩,pl.isList.push _⟩,?_,?_,?_⟩
 · intro b hb;have hb:b=s.heap.objs.size\/b=p:=by simpa using hb
   show b<(Heap.push _ _).objs.size;rw[Fi];rcases hb with rfl|rfl
   · exact JJ _
   · obtain⟨o,ho,_⟩:=pl.isList;exact Nat.lt_succ_of_lt (DV ho)
 · intro i v hP;exact tm rv (by simpa using hP)
 · intro h' tk t' k;have e:preSum (fun i=>ns.getD i 0) its.toArray.size=ns.sum:=by rw[DZ,<- hl];exact preSum_eq ns
   rw[e];exact⟨.int _,H,I.kept (t':=tk) fun b o eb=>k b o (by simp;exact EB (DV eb)) (DN _ eb),⟨t',rfl⟩,q⟩
end
end L2
namespace L2.VL
section
variable{X:Cx}{rl:RlT}{a:Expr}{fs:CJ}{pos p:Pos}
noncomputable def yw:List W->(W->Prop)->Prop:=fun ws Q=>∃(w:W)(ns:List Int),ws=[w]/\w.dat=some (.list (ns.map .int))/\Q (.d (.int ns.sum))
theorem ug:fJ X rl (fun xs H Q=>∃(p:Addr)(ns:List Int),xs=[.ref p]/\CS X.K H p (ns.map V.int)/\Q (.int ns.sum) H) yw:=fun{F H vs ws} Qd Q s ra r ⟨w,ns,ew,ed,q⟩ k=>by
 subst ew;obtain⟨v,rfl,r1⟩:=qk r;obtain⟨a,us,rfl,sq,rs⟩:=r1.items s ed;have e:=cZ rs;subst e;exact⟨a,ns,rfl,sq,k _ (.d _) _ _ (Grow.refl s ra) (.int _) trivial q⟩
theorem v_sum(hm:X.mg "sum" = none)(ha:CZ X rl [a] fs)(hc:autoParam (X.calm=true) æa._auto_1)(hg:autoParam (Gl X "sum") æa._auto_1)(he:autoParam (DY [a] X.env=(false,eval a X.env)::DY [] X.env) æa._auto_1)(hpl:autoParam ((Ge pos (DY [] X.env)).any (·.1)=false) æa._auto_1) :
 PV X rl (.Call (.Name "sum" p) [a] [] pos) (eC yw fs):=gu (nH hc) ug hm (by rfl) ha hg (by decide) (by decide) he hpl
noncomputable def tp:DH->Option (List Int)
 | .list xs=>fH xs
 | _=>none
theorem xb:tp d=some ns↔d = .list (ns.map .int):=by
 constructor
 · intro h
   cases d with
   | list xs=>rw[d4 h]
   | _=>cases h
 · rintro rfl;exact bB _
theorem m_gSum(w:W):yw [w]=aw (w.dat.bind tp) fun ns=>ret (.d (.int ns.sum)):=by
 refine af fun Q=>?_;rw[ag];constructor
 · rintro⟨w',ns,e,ed,q⟩;cases e;exact⟨ns,by rw[ed];exact bB ns,q⟩
 · rintro⟨ns,e,q⟩
   cases ed:w.dat with
   | none=>rw[ed]at e;cases e
   | some d =>
     rw[ed]at e;exact⟨w,ns,rfl,by rw[ed,xb.mp e],q⟩
theorem intsO_l(ns:List Int):tp (.list (ns.map .int))=some ns:=bB ns
noncomputable def DC:=DG @m_gSum (@intsO_l)
end
open PySem PySem.Spec
noncomputable def lim(c:List Rat):List Rat:=0::(c++[1])
theorem zS{d:Int}(h:0<d):qd 0 d=0:=by unfold qd;rw[Rat.div_def];show(0:Rat)*_=0;rw[Rat.zero_mul]
theorem rX(a b:Int){d:Int}(h:0<d):qd a d-qd b d=qd (a-b) d:=by
 unfold qd;have:=bU h;rw[IA]
 grind
theorem lJ(a b:Int){d:Int}(h:0<d):qd a d+qd b d=qd (a+b) d:=by
 unfold qd;have:=bU h;rw[J9]
 grind
noncomputable def stN(x:Rat)(c:List Rat):Nat:=(c.filter fun e=>!decide (x<e)).length
noncomputable def ptc(p:List Rat)(cs:List (List Rat)):List Int:=(p.zip cs).map fun z=>(stN z.1 z.2:Int)
noncomputable def cw(qs:List Rat):Rat:=qs.foldl (· + ·) 0
theorem dD:∀(qs:List Rat)(a:Rat),qs.foldl (· + ·) a=a+cw qs
 | [],a=>by unfold cw;rw[HK,HK,Rat.add_zero]
 | q::qs,a=>by
   unfold cw;rw[FE,FE,dD qs,dD qs]
   grind
theorem bX(q:Rat)(qs:List Rat):cw (q::qs)=q+cw qs:=by
 show(qs.foldl (· + ·) (0+q))=_;rw[dD,Rat.zero_add]
theorem jy{B:Int}(hB:0<B)(hd:(q.den:Int)∣B):qd (q.num*(B / q.den)) B=q:=by
 obtain⟨c,hc⟩:=hd;have dp:=fI q
 have c0:0<c:=by
  rcases Int.lt_trichotomy 0 c with h|h|h
  · exact h
  · subst h;omega
  · have:=Int.mul_neg_of_pos_of_neg dp h;omega
 have e:B / (q.den:Int)=c:=by rw[hc];exact Jk _ (by omega)
 rw[e,hc];have es:=lI q;unfold qd at *;rw[Fd,Fd];have h1:=bU c0;have h2:=bU dp;generalize (q.num:Rat)=x at *;generalize ((q.den:Int):Rat)=y at *;generalize (c:Rat)=z at *;rw[<- es]
 grind
theorem qa{B:Int}(hB:0<B):∀qs:List Rat,(∀q∈qs,(q.den:Int)∣B)->qd (qs.map fun q=>q.num*(B / q.den)).sum B=cw qs
 | [],_=>by rw[HP,List.sum_nil,zS hB];rfl
 | q::qs,h=>by
   rw[Ew,List.sum_cons,<- lJ _ _ hB,jy hB (h q DS),qa hB qs fun r hr=>h r (DL _ hr),bX]
theorem BY:BX 1 1:=⟨by decide,by decide⟩
theorem uG(xs:List Int):Fb (xs.map D5)=uH xs:=rfl
theorem oR(l:List α)(f:α->Int):l.map (fun z=>D5 (f z))=(l.map f).map .int:=by rw[Ff];rfl
theorem qJ{a b:Int}{k:Nat}(h:b≠0)(hz:b.natAbs<2^k)(hk:k<=9000):cU a b:=⟨h,DR hz (D4 (by decide) hk)⟩
section
variable{X:Cx}{rl:RlT}{pos:Pos}
noncomputable def yj(i jf ic ik:Nat)(Pd:List W->(DH->Prop)->Prop):CL:=fun a Dm xss ρ=>ρ[jf]?=some (some .reel)/\ρ[ic]?=some (some (.vv (.ref a)))/\∃(n:Nat)(xs:List DH),ρ[ik]?=some (some (.d (.int n)))/\xss[n]?=some xs/\Pd [.reel,.d (.list xs)] fun d=>(∃p q:Int,d = .tuple [.int p,.int q])/\Dm.nx xss (ρ.set i (some (.d d)))
theorem vZ(i jf ic ik:Nat){f h c k:Str}{pf ph pc pk p1 cpos:Pos}{ps:List Str}{kk:Nat}{Pd:List W->(DH->Prop)->Prop}(hN:X.N.Nodup)(Dd:Dfn X.prog X.w X.K X.mg X.base rl f ps kk Pd)(hr:Room kk X.A)
 (hi:autoParam (X.N[i]?=some x) æa._auto_1)(hx:autoParam (Loc X.env.scope x) æe._auto_1)(hf:autoParam (X.fn x=true\/X.env.scope.names.lookup x=some .local) æf._auto_1)
 (hh:autoParam (X.N[jf]?=some h) æa._auto_1)(vh:autoParam (CF X.env.scope h) æc._auto_1)(dh:autoParam ((h==("__debug__" : Str))=false) æb._auto_1)(eh:autoParam ((h==("__classdict__" : Str))=false) æb._auto_1)
 (hc:autoParam (X.N[ic]?=some c) æa._auto_1)(vc:autoParam (CF X.env.scope c) æc._auto_1)(dc:autoParam ((c==("__debug__" : Str))=false) æb._auto_1)(ec:autoParam ((c==("__classdict__" : Str))=false) æb._auto_1)
 (hk:autoParam (X.N[ik]?=some k) æa._auto_1)(vk:autoParam (CF X.env.scope k) æc._auto_1)(dk:autoParam ((k==("__debug__" : Str))=false) æb._auto_1)(ek:autoParam ((k==("__classdict__" : Str))=false) æb._auto_1)
 (hs:autoParam (gT (.Name k pk)) æh._auto_1)(hg:autoParam (Gl X f) æa._auto_1)(hdb:autoParam ((f==("__debug__" : Str))=false) æb._auto_1)
 (st1:autoParam (DY [.Name h ph,.Subscript (.Name c pc) (.Name k pk) p1] X.env=(false,eval (.Name h ph) X.env)::DY [.Subscript (.Name c pc) (.Name k pk) p1] X.env) æa._auto_1)
 (st2:autoParam (DY [.Subscript (.Name c pc) (.Name k pk) p1] X.env=(false,eval (.Subscript (.Name c pc) (.Name k pk) p1) X.env)::DY [] X.env) æa._auto_1)
 (hpl:autoParam ((Ge cpos (DY [.Subscript (.Name c pc) (.Name k pk) p1] X.env)).any (·.1)=false) æa._auto_1)
 (hsw:autoParam (Gr (.Call (.Name f pf) [.Name h ph,.Subscript (.Name c pc) (.Name k pk) p1] [] cpos) (some (.Name x px)) pos.line X.env=pure false) æa._auto_1) :
 C6 X rl (.Assign [.Name x px] (.Call (.Name f pf) [.Name h ph,.Subscript (.Name c pc) (.Name k pk) p1] [] cpos) pos) (yj i jf ic ik Pd):=by
 obtain⟨fa,fd,hm,hkp,hb,Fk⟩:=Dd.ex;refine⟨_,ig hN hi hx (iW Fk hr hg hm hkp hb .nil sE (eP (b_ hh vh dh eh) (eP (sA mK (b_ hc vc dc ec) (b_ hk vk dk ek) hs) jG st2) st1) hdb st1 hpl) hsw hf,fun{F₀ H₀ F₁ H₁ F H σ ρ a as xss} C R Dm D ok ⟨e0,e1,n,xs,e2,e3,q⟩=>?_⟩;obtain⟨v0,s0,⟨r,er,rfl⟩,_⟩:=R.sl jf _ e0;obtain⟨v1,s1,rfl,_⟩:=R.sl ic _ e1;obtain⟨v2,s2,r2,_⟩:=R.sl ik _ e2;have ev2:=aZ r2;subst ev2;obtain⟨b,eb,vs,h1,h2,h3,h4,h5⟩:=eO C.inn e3;have ha:H a=some (.lst (as.map V.ref)):=R.g.same a _ C.ha C.ra;have hb:H b=some (.lst vs):=R.g.same b _ h1 h3;refine⟨_,s0,_,s1,_,s2,.inl ⟨a,_,_,_,rfl,rfl,.inl (.inl ha),nO eb,?_⟩⟩;have q3:=q;have g3:Grow rl F H F H:=Grow.refl R.sub R.reel;have hb3:H b=some (.lst vs):=g3.same b _ hb h3;have fb3:F b=none:=by rw[g3.old b _ hb,R.g.old b _ h1];exact h2
 have nb3:∀d u,F d=some u->d≠b:=fun d u z y=>by subst y;rw[fb3]at z;cases z
 have fsm:bf F (Bt F b (.lst vs)):=fun d u z=>by rw[ai (nb3 d u z)];exact z
 have sub:bf (Bt F b (.lst vs)) H:=fun d u z=>by
  by_cases y:d=b
  · subst y;rw[al]at z;cases z;exact hb3
  · rw[ai y]at z;exact g3.sub d u z
 have ra:CY rl (Bt F b (.lst vs)) H:=fun r er=>by
  obtain⟨z1,⟨o,z2,z3⟩⟩:=g3.reel r er;exact⟨by rw[ai (fun y=>h3 (by rw[<- y];exact er))];exact z1,⟨o,z2,z3.mono fsm⟩⟩
 have rb:rl.b.1≠b:=by
  obtain⟨_,⟨o,_,_,_,_,_,z,_⟩⟩:=g3.reel r er;exact nb3 _ _ z
 refine⟨Bt F b (.lst vs),[.reel,.d (.list xs)],sub,ra,.cons ⟨r,er,rfl⟩ (.cons (Rep.lst al (h5.mono (g3.fs.trans fsm))) .nil),rfl,Dd.mono _ _ _ (fun d ⟨⟨p,q,ed⟩,qn⟩ v F4 H4 g4 r4=>?_) q3⟩;subst ed;have f4b:F4 b=some (.lst vs):=g4.fs b _ al
 let F5:Hp:=fun d=>if d=b then none else F4 d
 have e5:∀d,d≠b->F5 d=F4 d:=fun d y=>if_neg y;have e5b:F5 b=none:=if_pos rfl
 have g5:Grow rl F H F5 H4:=by
  refine⟨g4.same,fun d u z=>?_,fun d u z=>?_,fun d u z=>?_,fun r er=>?_⟩
  · rw[e5 d (nb3 d u z)];exact g4.fs d u (fsm d u z)
  · by_cases y:d=b
    · subst y;rw[e5b]at z;cases z
    · rw[e5 d y]at z;exact g4.sub d u z
  · by_cases y:d=b
    · subst y;rw[e5b,fb3]
    · rw[e5 d y,g4.old d u z,ai y]
  · obtain⟨z1,⟨o,z2,x1,x2,x3,z3,z4,z5⟩⟩:=g4.reel r er
    exact ⟨by by_cases y:r=b
              · subst y;exact e5b
              · rw[e5 r y];exact z1,⟨o,z2,x1,x2,x3,z3,by rw[e5 _ rb];exact z4,z5⟩⟩
 have r5:Rep X.K F5 v (.tuple [.int p,.int q]):=by
  cases r4 with
  | @tup a' us _ sq rs =>
    have ev:=cZ (ns:=[p,q]) rs;subst ev;refine .tup ?_ (eI [p,q]);rcases sq with(z|⟨o,z⟩)|z
    · exact .inl (.inl (by rw[e5 _ (fun y=>by subst y;rw[f4b]at z;cases z)];exact z))
    · exact .inl (.inr ⟨o,by rw[e5 _ (fun y=>by subst y;rw[f4b]at z;cases z)];exact z⟩)
    · exact .inr z
 exact ok.nx F₁ H₁ F5 H4 _ _ xss (g3.fs.trans g5.fs) (C.mono (g3.fs.trans g5.fs)) (R.set (g3.trans g5) (w:=.d _) r5 trivial (fun _ z=>by cases z) i) qn
end
end L2.VL
namespace L2
open PySem
noncomputable def Up(xs:Array Nat):Prop:=∀i k,i<k->k<xs.size->xs.getD i 0<xs.getD k 0
theorem yu{xs:Array Nat}{a b:Nat}(h:i<xs.size):xs.getD i a=xs.getD i b:=by
 simp[Il,h]
theorem gR{xs:Array Nat}(hr:Up xs)(j:Nat):∀(f lo hi:Nat),hi-lo<=f->lo<=hi->hi<=xs.size->(∀i,i<lo->xs.getD i 0<j)->(∀i,hi<=i->i<xs.size->j<=xs.getD i 0) ->
 HG xs j f lo hi<=xs.size/\(∀i,i<HG xs j f lo hi->xs.getD i 0<j)/\∀i,HG xs j f lo hi<=i->i<xs.size->j<=xs.getD i 0
 | 0,lo,hi,h1,h2,h3,h4,h5=>by
   have e:lo=hi:=by omega
   subst e
   exact⟨h3,h4,h5⟩
 | f+1,lo,hi,h1,h2,h3,h4,h5=>by
   unfold HG;by_cases c:lo<hi
   · rw[if_pos c];have hm:(lo+hi) / 2<xs.size:=by omega
     dsimp only;rw[yu (b:=0) hm];by_cases c2:xs.getD ((lo+hi) / 2) 0<j
     · rw[if_pos c2];refine gR hr j f _ hi (by omega) (by omega) h3 (fun i hi'=>?_) h5;rcases Hr i ((lo+hi) / 2)with h|h
       · have:=hr i _ h hm;omega
       · have e:i=(lo+hi) / 2:=by omega
         rw[e];exact c2
     · rw[if_neg c2];refine gR hr j f lo _ (by omega) (by omega) (by omega) h4 (fun i hi' hs=>?_);rcases Hr ((lo+hi) / 2) i with h|h
       · have:=hr _ i h hs;omega
       · have e:i=(lo+hi) / 2:=by omega
         rw[e];omega
   · rw[if_neg c];have e:lo=hi:=by omega
     subst e;exact⟨h3,h4,h5⟩
theorem dj{xs:Array Nat}(hr:Up xs)(j:Nat):Ed xs j<=xs.size/\(∀i,i<Ed xs j->xs.getD i 0<j)/\∀i,Ed xs j<=i->i<xs.size->j<=xs.getD i 0 :=
 gR hr j _ 0 _ (by omega) (by omega) (DQ _) (fun i h=>absurd h (Gp _)) fun i h1 h2=>by omega
theorem kM{xs:Array Nat}(hr:Up xs)(hi:i<xs.size):Ed xs (xs.getD i 0+1)=i+1:=by
 obtain⟨h1,h2,h3⟩:=dj hr (xs.getD i 0+1);rcases Hr i (Ed xs (xs.getD i 0+1))with h|h
 · rcases Hr (i+1) (Ed xs (xs.getD i 0+1))with h'|h'
   · have a:=h2 _ h';have b:=hr i (i+1) (by omega) (by omega);omega
   · omega
 · have:=h3 i h hi;omega
theorem kK(xs:Array Nat)(hr:Up xs):Ed xs 0=0:=by
 obtain⟨h1,h2,h3⟩:=dj hr 0;rcases Nat.eq_zero_or_pos (Ed xs 0)with h|h
 · exact h
 · exact absurd (h2 0 h) (Gp _)
theorem kj{xs:Array Nat}(h:xs.toList.Pairwise (· < ·)):Up xs:=by
 intro i k ik hk;have hl:xs.toList.length=xs.size:=DU;have:=List.pairwise_iff_getElem.mp h i k (by omega) (by omega) ik;have e:∀n,(hn:n<xs.size)->xs.getD n 0=xs.toList[n]:=fun n hn=>by simp[Il,hn]
 rw[e i (by omega),e k hk];exact this
theorem gJ{xs:Array Nat}(h:i<xs.toList.length):xs.getD i 0=xs.toList[i]:=by
 have h':i<xs.size:=by rw[<- DU];exact h
 simp[Il,h']
theorem cR(xs:Array α)(p:Nat)(x:α)(hp:p<=xs.size):(Fv xs p x).toList=xs.toList.take p++x::xs.toList.drop p:=by
 unfold Fv
 have e:(xs.extract p xs.size).toList=xs.toList.drop p:=by
  rw[Kk];simp[List.extract,D6]
 have e2:(xs.extract 0 p).toList=xs.toList.take p:=by
  rw[Kk];simp[List.extract]
 rw[Array.toList_append,Jl,e,e2,GH];rfl
theorem mU{xs:Array Nat}(h:xs.toList.Pairwise (· < ·))(hj:j∉xs.toList):(Fv xs (Ed xs j) j).toList.Pairwise (· < ·):=by
 obtain⟨h1,h2,h3⟩:=dj (kj h) j;rw[cR _ _ _ h1]
 have a:∀x∈xs.toList.take (Ed xs j),x<j:=fun x mx=>by
  obtain⟨i,hi,rfl⟩:=Hi mx;rw[EU]at hi;rw[List.getElem_take,<- gJ (by omega)];exact h2 i (by omega)
 have b:∀x∈xs.toList.drop (Ed xs j),j<x:=fun x mx=>by
  obtain⟨i,hi,rfl⟩:=Hi mx;rw[GQ]at hi;have hl:xs.toList.length=xs.size:=DU;have hx:xs.toList[Ed xs j+i]∈xs.toList:=Ep _;rw[List.getElem_drop];have k:=h3 (Ed xs j+i) (by omega) (by omega);rw[gJ (by omega)]at k;rcases Nat.lt_or_eq_of_le k with k|k
  · exact k
  · rw[<- k]at hx;exact absurd hx hj
 rw[Kl];refine⟨h.sublist (List.take_sublist _ _),IR.mpr ⟨b,h.sublist (List.drop_sublist _ _)⟩,fun x mx y my=>?_⟩;rcases EO.mp my with rfl|my
 · exact a x mx
 · have:=a x mx;have:=b y my;omega
theorem lv{t:Fm}(h:t.place.toList.Pairwise (· < ·))(hd:t.dummies = #[])(j:Nat):(j∉t.place.toList/\t.slot j = .empty)\/(j∈t.place.toList/\∃i,t.slot j = .live i):=by
 obtain⟨h1,h2,h3⟩:=dj (kj h) j;unfold Fm.slot;dsimp only;by_cases c:t.place[Ed t.place j]?=some j
 · right
   refine⟨?_,_,by rw[c];simp;rfl⟩;rw[<- Fw]at c;exact Gf c
 · left
   refine⟨fun m=>?_,?_⟩
   · obtain⟨i,hi,e⟩:=Hi m;have hl:t.place.toList.length=t.place.size:=DU;rcases Hr i (Ed t.place j)with k|k
     · have:=h2 i k;rw[gJ hi,e]at this;omega
     · rcases Hr (Ed t.place j) i with k'|k'
       · have a:=kj h _ i k' (by omega);have b:=h3 (Ed t.place j) (DQ _) (by omega);rw[gJ hi,e]at a;omega
       · have e2:Ed t.place j=i:=by omega
         rw[e2,<- Fw,DP hi,e]at c;exact c rfl
   · have b:(t.place[Ed t.place j]?==some j)=false:=by simpa using c
     rw[b,hd];rfl
open PySem
noncomputable def gF:Nat->Nat->Nat
 | 0,x=>x
 | n+1,x=>gF n (5*x+1)
theorem jV:∀(m n x:Nat),gF (m+n) x=gF n (gF m x)
 | 0,n,x=>by rw[J6];rfl
 | m+1,n,x=>by rw[show m+1+n=(m+n)+1 by omega];exact jV m n (5*x+1)
theorem fY:∀(n x:Nat),gF n x=x+gF n 0*(4*x+1)
 | 0,x=>by show x=x+0*_;rw[Nat.zero_mul];rfl
 | n+1,x=>by
   show gF n (5*x+1)=x+gF n (5*0+1)*(4*x+1);rw[fY n (5*x+1),fY n (5*0+1)];generalize gF n 0=g;have e:(5*0+1+g*(4*(5*0+1)+1))=1+5*g:=by omega
   rw[e,Hj]
   have e2:5*g*(4*x+1)=g*(4*(5*x+1)+1)-0:=by
    rw[IQ,G3 5 g,JB];congr 1;omega
   rw[e2];omega
theorem qC:∀n:Nat,gF n 0%2=n%2
 | 0=>rfl
 | n+1=>by
   have h:=jV n 1 0;have h2:gF 1 (gF n 0)=5*gF n 0+1:=rfl;have:=qC n;omega
theorem l6{k b a:Nat}(hb:b%2=1)(h:2^k∣a*b):2^k∣a:=by
 refine Lr.dvd_of_dvd_mul_right (Lr.pow_left k ?_) h;show Nat.gcd 2 b=1;rw[Nat.gcd_rec,hb];rfl
theorem qD:∀(k d:Nat),2^k∣gF d 0->2^k∣d
 | 0,d,_=>by rw[K8];exact Nat.one_dvd d
 | k+1,d,h=>by
   have p:=qC d;have h2:2∣gF d 0:=Nat.dvd_trans (by rw[GL];exact Nat.dvd_mul_left 2 _) h;obtain⟨m,rfl⟩:2∣d:=by omega
   have e:gF (2*m) 0=2*(gF m 0*(2*gF m 0+1)):=by
    rw[show 2*m=m+m by omega,jV,fY m (gF m 0)];generalize gF m 0=g;rw[Ky,Ky,Ky,Nat.mul_one,Nat.mul_left_comm g 4 g,Nat.mul_left_comm g 2 g];omega
   rw[e,GL,G3 (2^k) 2]at h;have h3:=Nat.dvd_of_mul_dvd_mul_left (by decide) h;have h4:=qD k m (l6 (by omega) h3);rw[GL,G3 (2^k) 2];exact Nat.mul_dvd_mul_left 2 h4
theorem wz{k x:Nat}(hm:m<2^k)(hn:n<2^k)(h:gF m x%2^k=gF n x%2^k):m=n:=by
 have key:∀m n,m<=n->n<2^k->gF m x%2^k=gF n x%2^k->m=n:=by
  intro m n hmn hn h;obtain⟨d,rfl⟩:=HA hmn;rw[jV,fY d (gF m x)]at h;generalize gF m x=y at h
  have h5:2^k∣gF d 0*(4*y+1):=by
   have:=Nat.sub_mod_eq_zero_of_mod_eq h.symm;rw[Nat.add_sub_cancel_left]at this;exact Nat.dvd_of_mod_eq_zero this
  have h6:=qD k d (l6 (by omega) h5);have:d=0:=Nat.eq_zero_of_dvd_of_lt h6 (by omega);omega
 rcases Nat.le_total m n with c|c
 · exact key m n c hn h
 · exact(key n m c hm h.symm).symm
theorem wA{k x e:Nat}(he:e<2^k):∃n,n<2^k/\gF n x%2^k=e:=by
 by_cases h:∃n,n<2^k/\gF n x%2^k=e
 · exact h
 · exfalso
   have nd:(e::(D8 (2^k)).map fun n=>gF n x%2^k).Nodup:=by
    rw[FB];refine⟨fun m=>?_,?_⟩
    · obtain⟨n,hn,q⟩:=Ev.mp m;exact h ⟨n,Fg.mp hn,q⟩
    · exact List.pairwise_map.mpr ((List.nodup_range).imp_of_mem fun{a b} ma mb ne q=>ne (wz (Fg.mp ma) (Fg.mp mb) q))
   have sub:∀y∈(e::(D8 (2^k)).map fun n=>gF n x%2^k),y∈D8 (2^k):=fun y my=>by
    rcases EO.mp my with rfl|my
    · exact Fg.mpr he
    · obtain⟨n,hn,rfl⟩:=Ev.mp my;exact Fg.mpr (K3 _ (Ls (by decide)))
   have:=FZ nd sub;rw[DX,DO]at this;omega
noncomputable def Ce(mask:Nat):Nat->Nat×Nat->Nat×Nat
 | 0,p=>p
 | c+1,p=>Ce mask c (FV mask p.1 p.2)
theorem i5(mask:Nat):∀(a b:Nat)(p:Nat×Nat),Ce mask (a+b) p=Ce mask b (Ce mask a p)
 | 0,b,p=>by rw[J6];rfl
 | a+1,b,p=>by rw[show a+1+b=(a+b)+1 by omega];exact i5 mask a b _
theorem mv(mask:Nat):∀(c:Nat)(p:Nat×Nat),(Ce mask c p).2=p.2 / 32^c
 | 0,p=>by rw[K8,Nat.div_one];rfl
 | c+1,p=>by
   show(Ce mask c _).2=_;rw[mv mask c];show p.2 / 32 / 32^c=_;rw[Nat.div_div_eq_div_mul,GL,G3]
theorem mw{mask k:Nat}(hk:mask+1=2^k):∀(c x:Nat),x<2^k->(Ce mask c (x,0)).1=gF c x%2^k
 | 0,x,h=>(Nat.mod_eq_of_lt h).symm
 | c+1,x,h=>by
   show(Ce mask c (FV mask x 0)).1=gF c (5*x+1)%2^k
   have e:FV mask x 0=((5*x+1)%2^k,0):=by
    show((x*5+1+0)%(mask+1),0)=_;rw[hk,G3 x 5]
   rw[e,mw hk c _ (K3 _ (Ls (by decide)))];rw[fY c ((5*x+1)%2^k),fY c (5*x+1)];generalize 5*x+1=y;generalize gF c 0=g;rw[Kz,KA,Kz y,KA g (4*y+1)];have e3:(4*(y%2^k)+1)%2^k=(4*y+1)%2^k:=by rw[Kz,KA,Nat.mod_mod,<- KA,<- Kz]
   rw[e3,Nat.mod_mod]
theorem mB{mask k e:Nat}(hk:mask+1=2^k)(he:e<=mask)(p:Nat×Nat)(hp:p.2<2^64):∃c,c<mask+15/\(Ce mask c p).1=e:=by
 have z:(Ce mask 13 p).2=0:=by
  rw[mv];exact Nat.div_eq_of_lt (DR hp (by decide))
 have l:(Ce mask 13 p).1<2^k:=by
  have e:Ce mask 13 p=FV mask (Ce mask 12 p).1 (Ce mask 12 p).2:=i5 mask 12 1 p;rw[e,<- hk];exact K3 _ (by omega)
 obtain⟨n,hn,q⟩:=wA (k:=k) (x:=(Ce mask 13 p).1) (e:=e) (by omega);refine⟨13+n,by omega,?_⟩;rw[i5,show Ce mask 13 p=((Ce mask 13 p).1,0)from Prod.ext rfl z,mw hk n _ l];exact q
open PySem
section
variable{t:Fm}{h:Int}
theorem lB(hu:t.place.toList.Pairwise (· < ·))(hd:t.dummies = #[]):∀(m j i q fuel:Nat),
 (∃j',j'∉t.place.toList/\Fz t (fun _=>h+1) h (m+1+fuel) ⟨j,m,i,q,none⟩=some (.empty j' none)) \/
 (j∈t.place.toList/\Fz t (fun _=>h+1) h (m+1+fuel) ⟨j,m,i,q,none⟩=Fz t (fun _=>h+1) h fuel ⟨(FV t.mask i q).1,FI t.mask (FV t.mask i q).1-(FV t.mask i q).1,(FV t.mask i q).1,(FV t.mask i q).2,none⟩)
 | m,j,i,q,fuel=>by
   have ne:(h+1==h)=false:=by simp;omega
   rcases lv hu hd j with⟨a,b⟩|⟨a,l,b⟩
   · left
     refine⟨j,a,?_⟩;rw[show m+1+fuel=(m+fuel)+1 by omega];unfold Fz;dsimp only;rw[b]
   · cases m with
     | zero =>
       right
       refine⟨a,?_⟩;rw[show 0+1+fuel=fuel+1 by omega]
       conv=>lhs;unfold Fz
       dsimp only;rw[b];dsimp only;rw[ne,if_neg D9];unfold Fm.advance;dsimp only
       rw[if_neg (by omega)]
     | succ m =>
       have ih:=lB hu hd m (j+1) i q fuel
       have st:Fz t (fun _=>h+1) h (m+1+1+fuel) ⟨j,m+1,i,q,none⟩=Fz t (fun _=>h+1) h (m+1+fuel) ⟨j+1,m,i,q,none⟩:=by
        rw[show m+1+1+fuel=(m+1+fuel)+1 by omega]
        conv=>lhs;unfold Fz
        dsimp only;rw[b];dsimp only;rw[ne,if_neg D9];unfold Fm.advance;dsimp only;rw[if_pos (by omega)];rfl
       rw[st];rcases ih with ih|⟨_,ih⟩
       · exact .inl ih
       · exact .inr ⟨a,ih⟩
theorem hU(mask i:Nat):FI mask i-i<=9:=by
 unfold FI;split<;>omega
theorem jB(hu:t.place.toList.Pairwise (· < ·))(hd:t.dummies = #[]):∀(c i q fuel:Nat),10*(c+1)<=fuel->(Ce t.mask c (i,q)).1∉t.place.toList ->
 ∃j',j'∉t.place.toList/\Fz t (fun _=>h+1) h fuel ⟨i,FI t.mask i-i,i,q,none⟩=some (.empty j' none)
 | 0,i,q,fuel,hf,hn=>by
   have hm:=hU t.mask i;obtain⟨f,rfl⟩:=HA (show FI t.mask i-i+1<=fuel by omega);rcases lB (h:=h) hu hd (FI t.mask i-i) i i q f with r|⟨a,_⟩
   · exact r
   · exact absurd a hn
 | c+1,i,q,fuel,hf,hn=>by
   have hm:=hU t.mask i;obtain⟨f,rfl⟩:=HA (show FI t.mask i-i+1<=fuel by omega);rcases lB (h:=h) hu hd (FI t.mask i-i) i i q f with r|⟨_,e⟩
   · exact r
   · rw[e];exact jB hu hd c _ _ f (by omega) hn
end
theorem nM(h:Int):Fo h<2^64:=by unfold Fo;omega
structure Gd (t:Fm) (n:Nat) (led:Bool):Prop where
 pow:∃k,3<=k/\t.mask+1=2^k
 size:t.place.size=n
 up:t.place.toList.Pairwise (· < ·)
 dum:t.dummies = #[]
 room:n*5<t.mask*3
 plain:t.plain=true
 led:t.led=led
theorem Gd.mask7{t:Fm}{led:Bool}(g:Gd t n led):7<=t.mask:=by
 obtain⟨k,k3,e⟩:=g.pow;have:2^3<=2^k:=D4 (by decide) k3;omega
theorem Gd.fits{t:Fm}{led:Bool}(g:Gd t n led):t.fits n=true:=by
 have m7:=g.mask7;have r:=g.room;unfold KS JC;rw[g.dum,g.size];simp;omega
theorem pL(led:Bool):Gd (.fresh 0 0 led) 0 led:=⟨⟨3,by decide,rfl⟩,rfl,.nil,rfl,(show 0*5<7*3 by decide),rfl,rfl⟩
theorem lq{xs:List Nat}(hl:xs.length<=m):∃e,e<=m/\e∉xs:=by
 by_cases h:∃e,e<=m/\e∉xs
 · exact h
 · exfalso
   have:(D8 (m+1)).length<=xs.length:=FZ List.nodup_range fun y my=>by
    by_cases c:y∈xs
    · exact c
    · exact absurd ⟨y,by have:=Fg.mp my;omega,c⟩ h
   rw[EX]at this;omega
theorem Gd.free{t:Fm}{led:Bool}(g:Gd t n led)(h:Int):∃j,j∉t.place.toList/\t.freeSlot h=some (j,false):=by
 obtain⟨k,k3,ek⟩:=g.pow;have m7:=g.mask7;have r:=g.room;have hl:t.place.toList.length=n:=by rw[DU];exact g.size
 obtain⟨e,he,ne⟩:=lq (xs:=t.place.toList) (m:=t.mask) (by omega);obtain⟨c,hc,q⟩:=mB ek he (Fo h%(t.mask+1),Fo h) (nM h);obtain⟨j,nj,ej⟩:=jB (h:=h) g.up g.dum c (Fo h%(t.mask+1)) (Fo h) (10*HL t.mask) (by unfold HL;omega) (by rw[q];exact ne);refine⟨j,nj,?_⟩;unfold Fm.freeSlot Fm.probe Fm.probeStart;dsimp only;rw[ej];rfl
open PySem
theorem Gd.lay{t:Fm}{led:Bool}(g:Gd t n led)(es:Array (Int×DJ))(he:es.size=n)(h:Int)(x:DJ) :
 ∃es' t',layNew t es h x=(es',t',false,false)/\t'.mask=t.mask/\t'.place.size=n+1/\t'.place.toList.Pairwise (· < ·)/\t'.dummies = #[]/\t'.plain=true/\t'.led=led:=by
 obtain⟨j,nj,ej⟩:=g.free h;have m7:=g.mask7;have r:=g.room;obtain⟨b1,_,_⟩:=dj (kj g.up) j;have up:=mU g.up nj
 have sz:(Fv t.place (Ed t.place j) j).size=n+1:=by
  rw[<- DU,cR _ _ _ b1,D7,DX,<- Nat.add_assoc,<- D7,J_,DU,g.size]
 have hd:Fm.has t.dummies j=false:=by rw[g.dum];rfl
 have se:(Fv es (Ed t.place j) (h,x)).size=n+1:=by
  rw[<- DU,cR _ _ _ (by rw[he,<- g.size];exact b1),D7,DX,<- Nat.add_assoc,<- D7,J_,DU,he]
 have ep:t.put j=({t with place:=Fv t.place (Ed t.place j) j,dummies:=t.dummies},Ed t.place j):=by
  unfold Fm.put;dsimp only;rw[hd,if_neg D9]
 have ft:({t with place:=Fv t.place (Ed t.place j) j,dummies:=t.dummies}:Fm).fits (n+1)=true:=by
  unfold KS JC;dsimp only;rw[sz,g.dum];simp;omega
 refine⟨Fv es (Ed t.place j) (h,x),{t with place:=Fv t.place (Ed t.place j) j,dummies:=t.dummies},?_,rfl,sz,up,g.dum,g.plain,g.led⟩;unfold layNew;rw[ej];dsimp only;rw[ep];dsimp only;rw[se,ft];unfold Fm.orStandIn;rw[ft,if_pos rfl];rfl
theorem jt:∀(f k n:Nat),∃k',k<=k'/\G5 n f (2^k)=2^k'
 | 0,k,n=>⟨k,DQ _,rfl⟩
 | f+1,k,n=>by
   unfold G5;by_cases c:2^k<=n
   · rw[if_pos c,<- GL];obtain⟨k',a,b⟩:=jt f (k+1) n;exact⟨k',by omega,b⟩
   · rw[if_neg c];exact⟨k,DQ _,rfl⟩
theorem lw:∀(f k n:Nat),n<2^(k+f)->n<G5 n f (2^k)
 | 0,k,n,h=>h
 | f+1,k,n,h=>by
   unfold G5;by_cases c:2^k<=n
   · rw[if_pos c,<- GL];exact lw f (k+1) n (by rw[show k+1+f=k+(f+1) by omega];exact h)
   · rw[if_neg c];omega
theorem pV(h:n<2^60):∃k,3<=k/\Fm.sizeAbove n=2^k/\n<2^k:=by
 obtain⟨k,a,b⟩:=jt 64 3 n;have c:=lw 64 3 n (DR h (D4 (by decide) (by decide)));exact⟨k,a,b,by rw[<- b];exact c⟩
theorem ng{owner:Array (Option Nat)}{mask:Nat}:∀(f c i q:Nat),c<f->((owner.getD (Ce mask c (i,q)).1 (some 0)).isNone=true)->∃j,Gq mask owner f i q=some j/\(owner.getD j (some 0)).isNone=true
 | 0,c,i,q,h,_=>absurd h (Gp _)
 | f+1,c,i,q,h,hn=>by
   unfold Gq
   cases hf:(D8 (FI mask i+1-i)).find? fun k=>(owner.getD (i+k) (some 0)).isNone with
   | some k =>
     have:=List.find?_some hf
     exact⟨i+k,by simp[hf],this⟩
   | none =>
     have hno:=List.find?_eq_none.mp hf
     cases c with
     | zero =>
       exfalso;refine hno 0 (Fg.mpr ?_) hn;unfold FI
       split<;>omega
     | succ c =>
       obtain⟨j,a,b⟩:=ng f c (FV mask i q).1 (FV mask i q).2 (by omega) hn;exact⟨j,by simp[hf];exact a,b⟩
theorem nq{xs:List (Option Nat)}(h:(xs.filterMap id).length<xs.length):∃e,e<xs.length/\xs[e]?=some none:=by
 by_cases c:∃e,e<xs.length/\xs[e]?=some none
 · exact c
 · exfalso
   have all:∀x∈xs,∃v,x=some v:=fun x mx=>by
    obtain⟨i,hi,rfl⟩:=Hi mx
    cases e:xs[i]with
    | some v=>exact⟨v,rfl⟩
    | none=>exact absurd ⟨i,hi,by rw[DP hi,e]⟩ c
   have key:∀ys:List (Option Nat),(∀x∈ys,∃v,x=some v)->(ys.filterMap id).length=ys.length:=by
    intro ys
    induction ys with
    | nil=>intro _;rfl
    | cons y ys ih =>
      intro h;obtain⟨v,rfl⟩:=h y DS;simp[ih fun x mx=>h x (DL _ mx)]
   rw[key xs all]at h;omega
theorem qE:∀{xs:List (Option Nat)}{j v:Nat},xs[j]?=some none->((xs.set j (some v)).filterMap id).Perm (v::xs.filterMap id)
 | [],j,v,h=>by cases h
 | x::xs,0,v,h=>by
   have e:x=none:=by simpa using h
   subst e
   exact HM _
 | x::xs,j+1,v,h=>by
   have ih:=qE (v:=v) (show xs[j]?=some none from h)
   cases x with
   | none=>exact ih
   | some y=>exact(ih.cons y).trans (Lz.swap _ _ _)
theorem getD_none:(owner.getD j (some 0)).isNone=true↔owner.toList[j]?=some none:=by
 rw[Fw];by_cases c:j<owner.size
 · have e:owner.getD j (some 0)=owner[j]:=by simp[Il,c]
   rw[e,FW c];cases owner[j]<;>simp
 · have e:owner.getD j (some 0)=some 0:=by simp[Il,c]
   rw[e,GV (by omega)];simp
structure Laid (mask k:Nat) (owner:Array (Option Nat)):Prop where
 size:owner.size=mask+1
 perm:(owner.toList.filterMap id).Perm (D8 k)
theorem oW{mask k K:Nat}(h:Laid mask k owner)(hK:mask+1=2^K)(hk:k<=mask)(x:Int) :
 ∃j,Gq mask owner (HL mask) (Fo x%(mask+1)) (Fo x)=some j/\Laid mask (k+1) (owner.setIfInBounds j (some k)):=by
 have hl:owner.toList.length=mask+1:=by rw[DU];exact h.size
 obtain⟨e,he,ee⟩:=nq (xs:=owner.toList) (by rw[h.perm.length_eq,EX];omega);obtain⟨c,hc,q⟩:=mB hK (show e<=mask by omega) (Fo x%(mask+1),Fo x) (nM x);obtain⟨j,a,b⟩:=ng (owner:=owner) (mask:=mask) (HL mask) c (Fo x%(mask+1)) (Fo x) hc (by rw[q];exact getD_none.mpr ee);refine⟨j,a,by rw[Array.size_setIfInBounds];exact h.size,?_⟩;have hj:=getD_none.mp b;rw[Array.toList_setIfInBounds,List.range_succ];exact(qE hj).trans ((h.perm.cons k).trans (List.perm_append_comm (l₁:=[k]) (l₂:=D8 k)))
theorem mG{mask K:Nat}(hK:mask+1=2^K):∀(hs:List Int)(k:Nat)(owner:Array (Option Nat)),Laid mask k owner->k+hs.length<=mask ->
 ∃ owner',(hs.foldl (init:=some (owner,k)) fun acc h=>do
   let (owner,k) <- acc
   let j <- Gq mask owner (HL mask) (Fo h%(mask+1)) (Fo h)
   pure (owner.setIfInBounds j (some k),k+1))=some (owner',k+hs.length)/\Laid mask (k+hs.length) owner'
 | [],k,owner,h,_=>⟨owner,rfl,h⟩
 | x::hs,k,owner,h,hl=>by
   rw[DX]at hl;obtain⟨j,a,b⟩:=oW h hK (by omega) x;obtain⟨o',c,d⟩:=mG hK hs (k+1) _ b (by omega);refine⟨o',?_,by rw[DX,show k+(hs.length+1)=k+1+hs.length by omega];exact d⟩;rw[FE,DX,show k+(hs.length+1)=k+1+hs.length by omega,<- c];congr 1;show(do let j <- Gq mask owner _ _ _;pure _)=_;rw[a];rfl
theorem pQ{mask K:Nat}(hK:mask+1=2^K)(hs:Array Int)(hl:hs.size<=mask):∃owner,K4 mask hs=some owner/\Laid mask hs.size owner:=by
 have h0:Laid mask 0 (Ka (mask+1) none):=⟨Array.size_replicate,by
  rw[Array.toList_replicate];have:∀n,(DT n (none:Option Nat)).filterMap id=[]:=fun n=>by induction n<;>simp_all [EK]
  rw[this]
  exact HM _⟩
 obtain⟨o',a,b⟩:=mG hK hs.toList 0 _ h0 (by rw[DU];omega);rw[DU,J6]at b;refine⟨o',?_,b⟩;unfold K4;rw[<- Array.foldl_toList];rw[show(some (Ka (mask+1) none,0):Option (Array (Option Nat)×Nat))=some (Ka (mask+1) none,0)from rfl];refine(congrArg (Option.map (·.1)) a).trans ?_;rfl
theorem oU(h:owner.size=n):((D8 n).filterMap fun j=>(owner.getD j none).map (j,·)).map (·.2)=owner.toList.filterMap id:=by
 rw[List.map_filterMap]
 have:owner.toList=(D8 n).map fun j=>owner.getD j none:=by
  refine JL (by rw[DU,DO,EX,h]) fun i h1 h2=>?_;rw[DU]at h1;rw[EN,GY];simp[Il,h1]
 conv=>rhs;rw[this]
 rw[IP];congr 1;funext j;simp only[Function.comp,id];cases owner.getD j none<;>rfl
theorem sX:(((D8 n).filterMap fun j=>(owner.getD j none).map (j,·)).map (·.1)).Pairwise (· < ·):=by
 rw[List.pairwise_map];refine KQ.filterMap _ (R:=(· < ·)) (fun a a' hab b hb b' hb'=>?_) List.pairwise_lt_range;obtain⟨v,_,rfl⟩:=FN.mp hb;obtain⟨v',_,rfl⟩:=FN.mp hb';exact hab
theorem wE(es:Array α):(D8 es.size).filterMap (fun i=>es[i]?)=es.toList:=by
 have e:(fun i=>es[i]?)=fun i=>es.toList[i]?:=funext fun i=>Fw.symm;rw[e,<- DU];generalize es.toList=xs
 induction xs with
 | nil=>rfl
 | cons x xs ih =>
   rw[DX,JS,GN];simp only[List.getElem?_cons_zero,IP];congr 1
theorem oE{t:Fm}{led:Bool}(hd:t.dummies = #[])(hp:t.plain=true)(hl:t.led=led)(es:Array (Int×DJ))(hn:es.size=n)(h1:1<=n)(h2:n<2^40) :
 ∃es' t',relayAll t es (Hg n)=(es',t',false)/\Gd t' n led:=by
 have hw:Hg n<2^60/\2*n<=Hg n:=by unfold Hg;split<;>omega
 generalize Hg n=wn at hw;obtain⟨k,k3,ek,lk⟩:=pV hw.1;have k8:2^3<=2^k:=D4 (by decide) k3;have hm:(2^k-1)+1=2^k:=by omega
 obtain⟨owner,a,b⟩:=pQ hm (es.map (·.1)) (by rw[Array.size_map];omega);rw[Array.size_map,hn]at b;have bs:=b.size;generalize hv:(D8 (2^k-1+1)).filterMap (fun j=>(owner.getD j none).map (j,·))=live;have l2:live.map (·.2)=owner.toList.filterMap id:=by rw[<- hv];exact oU bs
 have l1:(live.map (·.1)).Pairwise (· < ·):=by rw[<- hv];exact sX
 have ll:live.length=n:=by rw[<- DO (f:=(·.2)),l2,b.perm.length_eq,EX]
 have er:t.relaid (es.map (·.1)) wn=some ({mask:=2^k-1,place:=(live.map (·.1)).toArray,dummies:=#[],finger:=t.finger,led:=t.led,moves:=t.movedTo (2^k-1),plain:=t.plain},(live.map (·.2)).toArray):=by
  unfold Fm.relaid Fm.laid;rw[ek,a,<- hv];rfl
 have pm:(live.map (·.2)).Perm (D8 n):=by rw[l2];exact b.perm
 have es':((live.map (·.2)).toArray.filterMap (es[·]?)).size=n:=by
  rw[<- DU,Array.toList_filterMap];have:=(pm.filterMap (fun i=>es[i]?)).length_eq;refine this.trans ?_;rw[<- hn,wE,DU]
 have cv:coversAll (live.map (·.2)).toArray es.size=true:=by
  unfold coversAll;rw[hn];exact List.isPerm_iff.mpr pm
 refine⟨(live.map (·.2)).toArray.filterMap (es[·]?),{mask:=2^k-1,place:=(live.map (·.1)).toArray,dummies:=#[],finger:=t.finger,led:=t.led,moves:=t.movedTo (2^k-1),plain:=t.plain},?_,⟨k,k3,hm⟩,(by show(live.map (·.1)).toArray.size=n;rw[DZ,DO];exact ll),l1,rfl,(by show n*5<(2^k-1)*3;omega),hp,hl⟩;unfold relayAll;rw[er];dsimp only;rw[cv,es']
 have ft:({mask:=2^k-1,place:=(live.map (·.1)).toArray,dummies:=#[],finger:=t.finger,led:=t.led,moves:=t.movedTo (2^k-1),plain:=t.plain}:Fm).fits n=true:=by
  unfold KS JC;dsimp only;rw[DZ,DO,ll];simp;omega
 rw[ft];rfl
noncomputable def iv:DJ->Int
 | .int n _=>n
 | _=>0
noncomputable def dR(w:EM):Bool:=!w.params.followText "set-order"
noncomputable def Cv(l:List (Int×DJ)):Prop:=∀e∈l,∃n t,e=(Lh n,.int n t)
structure SetI (w:EM) (h:Heap) (a:Addr) (ks:List Int) (o:Obj) (es:Array (Int×DJ)) (ep:Nat) (t:Fm):Prop where
 at_:h.get? a=some o
 ex:o.ExactSet
 dat:o.data = .set es ep t
 el:Cv es.toList
 ks:(es.toList.map fun e=>iv e.2).Perm ks
 gd:Gd t es.size (dR w)
 sm:es.size<4000
theorem Cv.of{l:List (Int×DJ)}(h:Cv l):ElemsOf (IU P w) l:=fun e m=>by
 obtain⟨n,t,rfl⟩:=h e m;exact⟨⟨n,by simp[IU,Jn],rfl⟩,rfl⟩
section
variable{P:Ef}{w:EM}{A:ES}{E:DJ->DM->Prop}{s:DM}{a:Addr}{ks:List Int}{o:Obj}{es:Array (Int×DJ)}{ep:Nat}{t:Fm}
theorem SetI.len(h:SetI w s.heap a ks o es ep t):es.size=ks.length:=by rw[<- h.ks.length_eq,DO,DU]
theorem js{es':Array (Int×DJ)}{t':Fm}(H:s.heap.get? a=some o)(ex:o.ExactSet)(hd:o.data = .set es ep t) :
 (s.heap.update a (Kh es' t')).get? a=some {o with data:=.set es' (ep+1) t' }:=by
 have u:=Gu (Kh es' t') H (by rw[putSet_of es' t' hd];rfl);rw[putSet_of es' t' hd]at u;exact u
theorem uY{k:Int}{tk:Tok}{Q:Bool->DM->Prop}(hS:SetI w s.heap a ks o es ep t)(hb:ks.length<3000)
 (h:∀h' o' es' ep' t',FJ a s.heap h'->SetI w h' a (if k∈ks then ks else ks++[k]) o' es' ep' t'->Q (!decide (k∈ks)) {s with heap:=h' }) :
 Eb (Ek P w) A (setAddHashed a (.int k tk) (Lh k)) Q E s:=by
 have hl:=hS.len;obtain⟨H,ex,hd,el,hk,gd,sm⟩:=id hS;have hf:=gd.fits;have E1:ElemsOf (IU P w) es.toList:=el.of;have is1:(IU P w).is k (.int k tk)=true:=by simp[IU,Jn]
 have mem:∀e∈es.toList,((IU P w).is k e.2=true↔iv e.2=k):=fun e m=>by
  obtain⟨n,u,rfl⟩:=el e m;simp[IU,Jn,iv]
 unfold setAddHashed;unfold setAddHashedIn;refine Gg ?_;refine DI (HH H hd hf ?_);dsimp only;rw[byScan_of rfl (by unfold scanBound;omega) E1,if_pos rfl];unfold setAddByScan;refine DI (DI (Hm (DI ?_)));refine wpAny_setScan_of (knd:=IU P w) (k:=k) is1 H hd hf E1 ?_
 cases hr:es.toList.findIdx? (fun e=>(IU P w).is k e.2)with
 | some j =>
   obtain⟨hj,pj,_⟩:=List.findIdx?_eq_some_iff_getElem.mp hr;have mk:k∈ks:=hk.mem_iff.mp (Ev.mpr ⟨_,Ep hj,(mem _ (Ep hj)).mp pj⟩);have hh:=h s.heap o es ep t (FJ.refl a s.heap) (by rw[if_pos mk];exact hS);rw[decide_eq_true mk]at hh
   dsimp only;exact DK (DK hh)
 | none =>
   have mk:k∉ks:=fun m=>by
    obtain⟨e,me,q⟩:=Ev.mp (hk.mem_iff.mpr m);have:=List.findIdx?_eq_none_iff.mp hr e me;rw[(mem e me).mpr q]at this;cases this
   obtain⟨e1,t1,eL,m1,z1,u1,d1,p1,l1⟩:=gd.lay es rfl (Lh k) (.int k tk);have pm:=layNew_perm t es (Lh k) (.int k tk);rw[eL,Jl]at pm;have pm:e1.toList.Perm (es.toList++[(Lh k,.int k tk)]):=pm;have s1:e1.size=es.size+1:=by rw[<- DU,pm.length_eq,D7,DU];rfl
   have el1:Cv e1.toList:=fun e m=>by
    rcases EW.mp (pm.mem_iff.mp m)with m|m
    · exact el e m
    · exact⟨k,tk,Er.mp m⟩
   have k1:(e1.toList.map fun e=>iv e.2).Perm (ks++[k]):=by
    refine(pm.map _).trans ?_;rw[E3];exact hk.append_right _
   have zl:e1.size<=sizeLine:=by rw[Lj];omega
   have g1:=js (es':=e1) (t':=t1) H ex hd;have sb:=FS s.heap a (Kh e1 t1);dsimp only;rw[eL];dsimp only;refine DI (DK ?_);rw[p1,if_pos rfl];refine DI ?_;rw[show hashByValue 8 (.int k tk)=pure true from rfl];refine DK ?_;rw[if_pos rfl];refine DI (wpAny_storeSet_of H hd ?_ zl)
   cases hT:t1.tooFull with
   | false =>
     rw[show(!false&&false)=false from rfl,if_neg D9];refine DK (DK ?_);have m7:=gd.mask7
     have room:(es.size+1)*5<t1.mask*3:=by
      unfold Fm.tooFull JC at hT;rw[z1,d1]at hT;have:=of_decide_eq_false hT;simp at this;omega
     have hh:=h _ _ _ _ _ sb (by rw[if_neg mk];exact⟨g1,ex,rfl,el1,k1,⟨by rw[m1];exact gd.pow,by rw[s1];exact z1,u1,d1,by rw[s1];exact room,p1,l1⟩,by omega⟩);rw[decide_eq_false mk]at hh
     exact hh
   | true =>
     rw[show(!false&&true)=true from rfl,if_pos rfl];obtain⟨e2,t2,eR,gd2⟩:=oE d1 p1 l1 e1 rfl (by omega) (by omega);have pr:=relayAll_perm t1 e1 (Hg e1.size);rw[eR]at pr;have pr:e2.toList.Perm e1.toList:=pr;have s2:e2.size=e1.size:=by rw[<- DU,pr.length_eq,DU]
     rw[eR];dsimp only;refine DI (DK ?_);refine DI (wpAny_storeSet_of g1 rfl ?_ (by rw[s2];exact zl));refine DK (DK ?_);have g2:=js (s:={s with heap:=s.heap.update a (Kh e1 t1)}) (es':=e2) (t':=t2) g1 ex rfl;have hh:=h _ _ _ _ _ (sb.trans (FS _ a (Kh e2 t2))) (by rw[if_neg mk];exact⟨g2,ex,rfl,fun e m=>el1 e (pr.mem_iff.mp m),(pr.map _).trans k1,by rw[s2];exact gd2,by omega⟩);rw[decide_eq_false mk]at hh;exact hh
end
noncomputable def met:List Int->List Int->List Int
 | ks,[]=>ks
 | ks,n::ns=>met (if n∈ks then ks else ks++[n]) ns
theorem mn:∀(ns ks:List Int),(met ks ns).length<=ks.length+ns.length
 | [],ks=>DQ _
 | n::ns,ks=>by
   have:=mn ns (if n∈ks then ks else ks++[n]);have e:(if n∈ks then ks else ks++[n]).length<=ks.length+1:=by split<;>simp
   show(met _ ns).length<=ks.length+(ns.length+1);omega
theorem mf{x:Int}:∀(ns ks:List Int),x∈met ks ns↔x∈ks\/x∈ns
 | [],ks=>by simp[met]
 | n::ns,ks=>by
   show x∈met _ ns↔_;rw[mf ns,EO];by_cases c:n∈ks
   · rw[if_pos c];constructor
     · rintro(h|h)
       · exact .inl h
       · exact .inr (.inr h)
     · rintro(h|rfl|h)
       · exact .inl h
       · exact .inl c
       · exact .inr h
   · rw[if_neg c,EW,Er,or_assoc]
theorem qw:∀(ns ks:List Int),ks.Nodup->(met ks ns).Nodup
 | [],ks,h=>h
 | n::ns,ks,h=>by
   refine qw ns _ ?_;by_cases c:n∈ks
   · rw[if_pos c];exact h
   · rw[if_neg c];refine List.nodup_append.mpr ⟨h,FB.mpr ⟨JM,Kp⟩,fun a ma b mb e=>?_⟩;rw[Er.mp mb]at e;exact c (e▸ma)
section
variable{P:Ef}{w:EM}{A:ES}{R:Result->DM->Prop}{I S:Addr}{fp wr:List Addr}{n:Nat}{Pv:Nat->DJ->Prop}{St:Nat->Heap->Prop}
noncomputable def kO(w:EM)(h:Heap)(a:Addr)(ks:List Int):Prop:=∃o es ep t,SetI w h a ks o es ep t
theorem kO.keep{ks:List Int}(x:kO w h a ks)(k:∀o,h.get? a=some o->h'.get? a=some o):kO w h' a ks :=
 let ⟨o,es,ep,t,H⟩:=x;⟨o,es,ep,t,{H with at_:=k o H.at_}⟩
theorem rL(W:Walks P w A.in1 I fp wr n Pv St)(hS:S∉fp)(ns:List Int)(hn:ns.length=n)(hv:∀i v,Pv i v->∃t,v = .int (ns.getD i 0) t)(hb:n<2000) :
 ∀ (k i:Nat)(s:DM)(ks:List Int),n-i=k->i<=n->St i s.heap->ks.length<=i->kO w s.heap S ks ->
   (∀s':DM,s'.gens=s.gens->s'.drawn=s.drawn->s'.os=s.os->(∀b o,b∉S::wr->s.heap.get? b=some o->s'.heap.get? b=some o)->kO w s'.heap S (met ks (ns.drop i))->R (.ok (.ret .none)) s') ->
   GE (Ek P w) A (.builtin "set.update.loop" ⟨[.ref S,.ref I],[]⟩) R s:=by
 have hw:S∉wr:=fun h=>hS (W.sub _ h);intro k
 induction k with
 | zero =>
   intro i s ks hk hi st lk hs hR;have e:i=n:=by omega
   subst e;refine IB F.entry_set_update_loop ?_;rw[Ib F.plain_set_update_loop _];show Eb _ A.in1 (IM (.ref I) >>= _) _ _ s;refine DI (W.done s _ _ st fun h' tk hk'=>?_);show Eb _ A.in1 (ret GT) _ _ _;refine DK (hR {s with heap:=h',toks:=tk} rfl rfl rfl (fun b o hb e=>hk' b o (fun m=>hb (DL _ m)) e) ?_);rw[HC (by omega)]
   exact hs.keep fun o e=>hk' S o hw e
 | succ k ih =>
   intro i s ks hk hi st lk hs hR;have lt:i<n:=by omega
   refine IB F.entry_set_update_loop ?_;rw[Ib F.plain_set_update_loop _];show Eb _ A.in1 (IM (.ref I) >>= _) _ _ s;refine DI (W.item i s _ _ lt st fun v h' tk pv st' hk'=>?_);obtain⟨t,rfl⟩:=hv i v pv
   have ed:ns.drop i=ns.getD i 0::ns.drop (i+1):=by
    rw[FU (by omega)];congr 1;rw[D1,DP (by omega)];rfl
   generalize ns.getD i 0=x at ed;have hs':kO w h' S ks:=hs.keep fun o e=>hk' S o hw e;obtain⟨o,es,ep,tb,hI⟩:=hs';show Eb _ A.in1 (Jo [JV x t] (setAdd S (.int x t)) >>= _) _ _ _;refine DI (Gg ?_);unfold setAdd;refine Gg ?_;refine DI ((IU P w).pyHash (k:=x) (intKind_is _ _ _ _) ?_);refine uY (s:={s with heap:=h',toks:=tk+1}) hI (by omega) fun h2 o2 es2 ep2 t2 sb hI2=>?_
   refine DK ⟨plainId_quiet F.plain_set_update_loop _,ih (i+1) _ _ (by omega) lt (W.frame _ _ _ st' fun b hb o e=>?_) (by
    split
    · omega
    · rw[D7,J0];omega) ⟨o2,es2,ep2,t2,hI2⟩ fun s' a b c d e=>hR s' a b c (fun b' o' hb' e'=>d b' o' hb' ?_) ?_⟩
   · rw[sb.2 b fun h:b=S=>hS (h▸hb)];exact e
   · show h2.get? b'=some o';rw[sb.2 b' fun h:b'=S=>hb' (h▸DS)];exact hk' b' o' (fun m=>hb' (DL _ m)) e'
   · rw[ed];exact e
end
section
variable{P:Ef}{w:EM}{A:ES}{E:DJ->DM->Prop}{s:DM}
theorem oP(a:DJ)
 (h:Q (.ref s.heap.objs.size) {s with heap:=s.heap.push {cls:=.type "set", dict:=none,data:=.set #[] 0 (.fresh 0 0 (dR w))}}) :
 GE (Ek P w) A (.call (.builtin "set.__new__") ⟨[.type "set", a],[]⟩) (wants Q E) s:=by
 refine J7 ?_
 show Eb _ A.in1 (do
  checkBuiltinCall "set.__new__" ⟨[.type "set", a],[]⟩
  again (.builtin "set.__new__" ⟨[.type "set", a],[]⟩)) _ _ s
 refine DI (Kx (F.newCall_set_1 a) (DK ⟨plainId_quiet F.plain_set_new _,IB F.entry_set_new ?_⟩));rw[Ib F.plain_set_new _];unfold Builtin.«set.__new__»;unfold Builtin.Frozenset.newClass;have sub:=sub_set_self;obtain⟨hp,g,d,tk,os⟩:=s;dsimp only
 wp_walk
 refine GS (DK ?_);dsimp only;simp only[newObj];exact DI (wpAny_alloc (DK (DK h)))
theorem tG:kO w (h.push {cls:=.type "set", dict:=none,data:=.set #[] 0 (.fresh 0 0 (dR w))}) h.objs.size [] :=
 ⟨_,#[],0,_,D3 _ rfl,⟨rfl,rfl,rfl⟩,rfl,fun e m=>(by cases m),HM _,pL _,by decide⟩
theorem nK{l:Addr}{vs:List DJ}(hh:A.handled=none)(hl:s.heap.IsList l vs.toArray)(hi:HW vs ns)(hb:ns.length<2000)
 (h:∀h' tk,kO w h' s.heap.objs.size (met [] ns)->(∀b o,s.heap.get? b=some o->h'.get? b=some o)->Q (.ref s.heap.objs.size) {s with heap:=h',toks:=tk}) :
 Eb (Ek P w) A (call (.type "set") [.ref l]) Q E s:=by
 obtain⟨c,tl,mro⟩:=F.called_set.mro;have made:=F.called_set.made;have sub:=F.called_set.sub;have lvs:vs.length=ns.length:=HW.length hi;refine wpAny_call (J7 ?_);show Eb _ _ (callAny (.type "set") _) _ _ _;refine DK ⟨Code.quiet_builtin _ (by decide +kernel),IB F.entry_type_call ?_⟩;rw[ES.under_plain (weight_type_call_type "set" [.ref l] []) rfl];have h1:=F.called_set.notType;have h2:=F.called_set.canCreate;have ct:=F.typeCall_set_1 (.ref l)
 repeat (any_goals (first|assumption|wp_step))
 refine Hn (oP (.ref l) (E:=E) (Q:=fun obj s1=>obj = .ref s.heap.objs.size/\s1={s with heap:=s.heap.push {cls:=.type "set", dict:=none,data:=.set #[] 0 (.fresh 0 0 (dR w))}}) ⟨rfl,rfl⟩) fun r s1 hr=>?_
 cases r with
 | error e=>exact hr
 | ok fl =>
   cases fl with
   | ret obj =>
     obtain⟨rfl,rfl⟩:=hr;have HS:=tG (w:=w) (h:=s.heap);have gS:(s.heap.push {cls:=.type "set", dict:=none,data:=.set #[] 0 (.fresh 0 0 (dR w))}).get? s.heap.objs.size=some {cls:=.type "set", dict:=none,data:=.set #[] 0 (.fresh 0 0 (dR w))}:=D3 _ rfl;have ty:DM.TypeIs {s with heap:=s.heap.push {cls:=.type "set", dict:=none,data:=.set #[] 0 (.fresh 0 0 (dR w))}} (.ref s.heap.objs.size) "set" := ⟨_,gS,rfl⟩;have li:=F.called_set.init.lookup;have bi:=F.called_set.init.bind (.ref s.heap.objs.size)
     repeat (any_goals (first|assumption|wp_step))
     refine Hn (codeAny_call_builtin (R:=wants (fun r s2=>r = .none/\∃h' tk,s2={s with heap:=h',toks:=tk}/\kO w h' s.heap.objs.size (met [] ns)/\(∀b o,s.heap.get? b=some o->h'.get? b=some o)) E)
      F.called_set.init.plain F.entry_set_init (check_set_init_1 ty ?_)) fun r2 s2 hr2=>?_
     · have hl1:(s.heap.push {cls:=.type "set", dict:=none,data:=.set #[] 0 (.fresh 0 0 (dR w))}).IsList l vs.toArray:=hl.push _;obtain⟨ol,gol,cl,nl,dl⟩:=hl;have tl1:DM.TypeIs {s with heap:=s.heap.push {cls:=.type "set", dict:=none,data:=.set #[] 0 (.fresh 0 0 (dR w))}} (.ref l) "list" := ⟨ol,DN _ gol,cl⟩;have ls:=F.sub_list_set;have lf:=F.sub_list_frozenset;have ne:(DJ.type "list" == DJ.type "dict")=false:=by decide
       have llt:l<s.heap.objs.size:=DV gol;unfold Builtin.«set.__init__»;unfold noKeywords;unfold Builtin.Frozenset.updateFrom;generalize hPI:KM=PI
       wp_walk
       subst hPI;refine HD hl1 ?_;refine DI (wpAny_runValue ?_);have h3:A.in1.in1.in1.handled=none:=by simp[hh]
       have nI:l≠(s.heap.push {cls:=.type "set", dict:=none,data:=.set #[] 0 (.fresh 0 0 (dR w))}).objs.size:=by
        rw[Fi];exact EB (Nat.lt_succ_of_lt llt)
       have nS:s.heap.objs.size∉[(s.heap.push {cls:=.type "set", dict:=none,data:=.set #[] 0 (.fresh 0 0 (dR w))}).objs.size,l]:=by
        rw[Fi];simp only[EO,JM,or_false,not_or];exact⟨EB (JJ _),HN llt⟩
       have ev:∀(i:Nat)(v:DJ),vs.toArray[i]?=some v->∃t,v = .int (ns.getD i 0) t:=fun i v hv=>HW.int_at hi i v (by rw[<- Fw]at hv;exact hv)
       refine rL (Walks.list h3 _ l nI vs.toArray) nS ns (by rw[DZ];exact lvs.symm) ev (by rw[DZ];omega) _ 0 _ [] rfl (Ei _)
        ⟨⟨_,D3 _ rfl,rfl,rfl⟩,(hl1.push _)⟩ (DQ _) (HS.keep fun o e=>DN _ e) fun s' a b c d e=>?_
       obtain⟨h',g',d',tk',os'⟩:=s';have a:g'=s.gens:=a;have b:d'=s.drawn:=b;have c:os'=s.os:=c;subst a;subst b;subst c;show Eb _ _ _ _ _ _;refine DK ?_;show Eb _ _ (ret GT) _ _ _;refine DK ⟨rfl,h',tk',rfl,e,fun b o hb=>?_⟩;have lb:=DV hb;refine d b o (fun m=>?_) (DN _ (DN _ hb));rw[Fi]at m;simp only[EO,JM,or_false]at m;rcases m with rfl|rfl
       · exact E_ _ lb
       · exact absurd lb (Nat.not_lt.mpr (Nat.le_succ _))
     · cases r2 with
       | error e=>exact hr2
       | ok fl2 =>
         cases fl2 with
         | ret r =>
           obtain⟨rfl,h',tk,rfl,hS',hk'⟩:=hr2
           repeat (any_goals (first|assumption|wp_step))
           exact h _ _ hS' hk'
         | _=>exact hr2.elim
   | _=>exact hr.elim
end
theorem bT:Slot "set_iterator" "__next__" "set_iterator.__next__" :=
 .of (owner := "set_iterator") (n := "__next__") (by rw[typeLookup_type,Kb];kernel_rfl) (by decide +kernel) (by decide +kernel) (by decide +kernel) (.inl (by decide +kernel)) (by rw[Kq];kernel_rfl)
theorem df:entryFor table "set_iterator.__next__" = some Builtin.«set_iterator.__next__»:=entryFor_of_tree (by kernel_rfl)
set_option maxRecDepth 1000000 in
theorem iy:entryFor table "set.__iter__" = some Builtin.«frozenset.__iter__»:=entryFor_alias (id' := "frozenset.__iter__") (by kernel_rfl) rfl (by decide +kernel) (by kernel_rfl)
theorem dI:Slot "set_iterator" "__iter__" "set_iterator.__iter__" :=
 .of (owner := "set_iterator") (n := "__iter__") (by rw[typeLookup_type,Kb];kernel_rfl) (by decide +kernel) (by decide +kernel) (by decide +kernel) (.inl (by decide +kernel)) (by rw[Kq];kernel_rfl)
theorem qt:Manifest.owners.lookup (String.ofList ['r','o','t','a','r','e','t','i','_','t','e','s'].reverse)=some Manifest.sig_set_iterator:=by kernel_rfl
theorem dO(a:DJ):argsOk "set_iterator.__next__" ⟨[a],[]⟩:=by
 unfold argsOk;rw[signature?_of (id := "set_iterator.__next__") (n:=['_','_','t','x','e','n','_','_']) (o:=['r','o','t','a','r','e','t','i','_','t','e','s']) (by kernel_rfl) qt];kernel_rfl
theorem iI(a:DJ):argsOk "set_iterator.__iter__" ⟨[a],[]⟩:=by
 unfold argsOk;rw[signature?_of (id := "set_iterator.__iter__") (n:=['_','_','r','e','t','i','_','_']) (o:=['r','o','t','a','r','e','t','i','_','t','e','s']) (by kernel_rfl) qt];kernel_rfl
theorem gN:entryFor table "set_iterator.__iter__" = some Builtin.«dict_keyiterator.__iter__»:=entryFor_alias (id' := "dict_keyiterator.__iter__") (by kernel_rfl) rfl (by decide +kernel) (by kernel_rfl)
noncomputable def wT(h:Heap)(it a:Addr)(slot i n ep:Nat):Prop:=∃o,h.get? it=some o/\o.cls = .type "set_iterator" /\ o.data = .fields #[.int slot 0,.int i 0,.ref a,.int n 0,.int ep 0]
theorem wT.ty{slot ep:Nat}(x:wT s.heap it a slot i n ep):s.TypeIs (.ref it) "set_iterator" := let ⟨o,e,c,_⟩:=x;⟨o,e,c⟩
section
variable{P:Ef}{w:EM}{A:ES}{E:DJ->DM->Prop}{s:DM}{a it:Addr}{ks:List Int}{o:Obj}{es:Array (Int×DJ)}{ep:Nat}{t:Fm}{i slot:Nat}
theorem SetI.ty(x:SetI w s.heap a ks o es ep t):s.TypeIs (.ref a) "set" := ⟨o,x.at_,x.ex.1⟩
theorem rM(x:SetI w s.heap a ks o es ep t)
 (z:Q (.ref s.heap.objs.size) {s with heap:=s.heap.push {cls:=.type "set_iterator", data:=.fields #[.int 0 0,.int 0 0,.ref a,.int es.size 0,.int ep 0]}}):Eb (Ek P w) A (KM (.ref a)) Q E s:=by
 have hf:=x.gd.fits;refine wpAny_pyIter_slot x.ty F.slot_set_iter (Fh F.slot_set_iter x.ty iy ?_ (F.args_set_iter_1 _));unfold Builtin.«frozenset.__iter__»;unfold Builtin.Frozenset.slot0;unfold slotArgs;simp only[HY,G9,GW,↓reduceIte,bind_assoc,GK,bne_self_eq_false];unfold Builtin.Frozenset.addrOf;refine DI (DK ?_);dsimp only;refine DI (DK ?_);unfold Builtin.Frozenset.sizeOf;refine DI (DI (IC x.at_ x.dat hf (DK ?_)));unfold setDrawn;unfold setsByText;refine DI (DI (HH x.at_ x.dat hf ?_));dsimp only;refine DI (DI (GS (DK ?_)));show Eb _ _ (pure (!w.params.followText "set-order" && (!t.plain&&decide (es.size>1)))) _ _ _;rw[x.gd.plain,G9,Ha,Bool.and_false];refine DK ?_;rw[if_neg D9];refine DI (DK (DI (wpAny_setEpoch_of x.at_ x.dat hf ?_)));unfold newFields;refine DI (EG (DK ⟨_,rfl, "set_iterator", _,⟨_,D3 _ rfl,rfl⟩,bT.lookup,?_⟩));exact z
noncomputable def iJ(w:EM)(a:Addr)(es:Array (Int×DJ))(ep:Nat):Array (Int×DJ):=if w.params.followText "set-order" = true then pickOrder (w.params.setOrder a ep) es else es
noncomputable def tW(w:EM)(t:Fm)(slot i:Nat):Prop:=w.params.followText "set-order" = true\/Ed t.place slot=i
theorem lx{Q:Option (DJ×Nat)->DM->Prop}(x:SetI w s.heap a ks o es ep t)(hs:tW w t slot i)
 (z:∀r:Option (DJ×Nat),r.map (·.1)=((iJ w a es ep)[i]?).map (·.2)->(∀v n,r=some (v,n)->tW w t n (i+1))->Q r s):Eb (Ek P w) A (setNext a slot i ep) Q E s:=by
 have hf:=x.gd.fits;unfold setNext;unfold setsByText;refine DI (HH x.at_ x.dat hf ?_);dsimp only;refine DI (DI (GS (DK ?_)));show Eb _ _ (if w.params.followText "set-order" = true then _ else _) _ _ _;by_cases c:w.params.followText "set-order" = true
 · rw[if_pos c,if_neg (by simp)];unfold setWalk;unfold setsByText;refine DI (DI (HH x.at_ x.dat hf ?_));dsimp only;refine DI (DI (GS (DK ?_)));show Eb _ _ (if w.params.followText "set-order" = true then _ else _) _ _ _;rw[if_pos c];refine DI (GS (DK (DK ?_)));refine z _ ?_ fun v n _=>.inl c;unfold iJ;rw[if_pos c,Option.map_map];rfl
 · rw[if_neg c];have hb:Ed t.place slot=i:=hs.resolve_left c;have hl:t.led=true:=by rw[x.gd.led];unfold dR;simpa using c
   show Eb _ _ (if(!t.plain&&decide (es.size>1))=true then _ else _) _ _ _;rw[x.gd.plain,G9,Ha,if_neg D9];refine DI ?_;show Eb _ _ (if(!t.led && !es.isEmpty)=true then _ else pure ()) _ _ _;rw[hl,G9,Ha,if_neg D9];refine DK (DK ?_);rw[hb];have ho:iJ w a es ep=es:=if_neg c;rcases Hr i es.size with k|k
   · have kp:i<t.place.size:=by rw[x.gd.size];exact k
     rw[FW k,FW kp];refine z _ (by rw[ho,FW k];rfl) fun v n e=>.inr ?_;have e:some (es[i].2,t.place[i]+1)=some (v,n):=e;have en:n=t.place[i]+1:=(Prod.ext_iff.mp (Eu e)).2.symm;rw[en,show t.place[i]=t.place.getD i 0 by simp[Il,kp]];exact kM (kj x.gd.up) kp
   · rw[GV k];exact z none (by rw[ho,GV k];rfl) fun v n e=>(by cases e)
theorem rN(hit:wT s.heap it a slot i n ep)(x:SetI w s.heap a ks o es ep t)(hn:n=es.size)(hs:tW w t slot i){Q:Option DJ->DM->Prop}{v:DJ}(hv:((iJ w a es ep)[i]?).map (·.2)=some v)
 (z:∀h' slot',wT h' it a slot' (i+1) n ep->tW w t slot' (i+1)->FJ it s.heap h'->Q (some v) {s with heap:=h' }):Eb (Ek P w) A (IM (.ref it)) Q E s:=by
 obtain⟨ob,o1,o2,o3⟩:=id hit;have hf:=x.gd.fits;unfold IM;refine DI (Jy (EQ (name:=Gj "__next__") hit.ty bT (Fh bT hit.ty df ?_ (dO _))));unfold Builtin.«set_iterator.__next__»;unfold slotArgs;simp only[HY,G9,GW,↓reduceIte,bind_assoc,GK,bne_self_eq_false];refine DI (DK ?_);dsimp only;refine DI (wpAny_fieldsOf o1 o3 ?_);dsimp only;refine DI (IC x.at_ x.dat hf ?_);rw[if_neg (by rw[hn];simp)];rw[Eh,Eh,Eh];refine DI (lx x hs fun r hr nx=>?_);rw[hv]at hr;obtain⟨⟨v',sl⟩,rfl,e⟩:=FN.mp hr;have e:v'=v:=e;subst e;have sl':=nx _ _ rfl;dsimp only;refine DI (HJ o1 o3 (by simp) ?_);have g1:=Gu (Obj.mapFields (·.setIfInBounds 0 (Kn (sl:Int)))) o1 (HR (Gv o3 _));have d1:=Gv o3 (·.setIfInBounds 0 (Kn (sl:Int)));refine DI (HJ (s:={s with heap:=_}) g1 d1 (by simp) ?_);have g2:=Gu (Obj.mapFields (·.setIfInBounds 1 (Kn ((i:Int)+1)))) g1 (HR (Gv d1 _));have d2:=Gv d1 (·.setIfInBounds 1 (Kn ((i:Int)+1)));refine DK ⟨_,rfl,DK (z _ sl ⟨_,g2,?_,?_⟩ sl' ((FS ..).trans (FS ..)))⟩
 · rw[Ji,Ji];exact o2
 · rw[d2];simp[Kn]
theorem rP(hh:A.handled=none)(hit:wT s.heap it a slot i n ep)(x:SetI w s.heap a ks o es ep t)(hn:n=es.size)(hs:tW w t slot i){Q:Option DJ->DM->Prop}(hv:(iJ w a es ep)[i]?=none)
 (z:∀h',Lp it s.heap h'->Q none {s with heap:=h' }):Eb (Ek P w) A (IM (.ref it)) Q E s:=by
 obtain⟨ob,o1,o2,o3⟩:=id hit;have hf:=x.gd.fits;unfold IM;refine DI (Jy (EQ (name:=Gj "__next__") hit.ty bT (Fh bT hit.ty df ?_ (dO _))));unfold Builtin.«set_iterator.__next__»;unfold slotArgs;simp only[HY,G9,GW,↓reduceIte,bind_assoc,GK,bne_self_eq_false];refine DI (DK ?_);dsimp only;refine DI (wpAny_fieldsOf o1 o3 ?_);dsimp only;refine DI (IC x.at_ x.dat hf ?_);rw[if_neg (by rw[hn];simp)];rw[Eh,Eh,Eh];refine DI (lx x hs fun r hr nx=>?_);rw[hv]at hr
 cases r with
 | some y=>cases hr
 | none =>
   dsimp only;refine DI (HJ o1 o3 (by simp) ?_);show Eb _ _ (newExc (.type "StopIteration") [] >>= _) _ _ _;refine DI ?_;simp only[newExc,newTuple];refine DI (EG (DI (m:=I_ _ _) (Kx (a:=GT) (by first|rfl|(simp only[I_];rfl)) (EG ?_ (by size_fits)))) (by size_fits));simp only[raiseNew];refine DI (wpAny_handled ?_);rw[show A.in1.handled=none from hh];refine DI (DK (wpAny_throw ?_));refine DI (JI (T := "StopIteration") (b:=true) ⟨_,D3 _ rfl,rfl⟩ isSubtype_stop ?_);exact DK (z _ (((FS ..).extBut.push _).push _))
theorem lW:(iJ w a es ep).size=es.size/\(iJ w a es ep).toList.Perm es.toList:=by
 have key:∀(f k:Nat)(next:Nat->Nat)(l:List (Int×DJ))(out:Array (Int×DJ)),l.length=f->(K9 next f k l out).toList.Perm (out.toList++l):=by
  intro f
  induction f with
  | zero =>
    intro k next l out e
    have:l=[]:=List.length_eq_zero_iff.mp e;subst this;unfold K9
    rw[FY]
  | succ f ih =>
    intro k next l out e
    unfold K9;have lt:next k%l.length<l.length:=K3 _ (by omega)
    rw[DP lt];dsimp only;refine(ih (k+1) next _ _ (by rw[List.length_eraseIdx,if_pos lt];omega)).trans ?_;rw[Jl,GH];refine Lz.append_left _ ?_
    have pe:∀(xs:List (Int×DJ))(j:Nat)(hj:j<xs.length),(xs[j]::xs.eraseIdx j).Perm xs:=by
     intro xs
     induction xs with
     | nil=>intro j hj;exact absurd hj (Gp _)
     | cons x xs ih =>
       intro j hj
       cases j with
       | zero=>exact HM _
       | succ j=>exact(Lz.swap _ _ _).trans ((ih j (by simpa using hj)).cons x)
    exact pe l _ lt
 have pm:(iJ w a es ep).toList.Perm es.toList:=by
  unfold iJ;split
  · exact key _ 0 _ es.toList #[] (by rw[DU])
  · exact HM _
 exact⟨by rw[<- DU,pm.length_eq,DU],pm⟩
theorem qS(hh:A.handled=none)(I:Addr)(ne:a≠I) :
 Walks P w A I [I,a] [I] es.size (fun i v=>((iJ w a es ep)[i]?).map (·.2)=some v) (fun i h=>∃slot,wT h I a slot i es.size ep/\tW w t slot i/\SetI w h a ks o es ep t) where
 sub:=fun b hb=>by simp at hb;simp[hb]
 frame:=fun _ _ _ st hk=>by
  obtain⟨slot,⟨ob,g,r⟩,y,x⟩:=st;exact⟨slot,⟨ob,hk I (by simp) ob g,r⟩,y,{x with at_:=hk a (by simp) o x.at_}⟩
 item:=fun i s Q E hi st hQ=>by
  obtain⟨slot,g,y,x⟩:=st;have hz:i<(iJ w a es ep).size:=by rw[lW.1];exact hi
  have hx:((iJ w a es ep)[i]?).map (·.2)=some ((iJ w a es ep)[i]).2:=by rw[FW hz];rfl
  exact rN g x rfl y hx fun h' slot' g' y' sb=>hQ _ h' s.toks hx ⟨slot',g',y',{x with at_:=sb.extBut a o ne x.at_}⟩ fun b o hb e=>sb.extBut b o (fun h=>hb (by simp[h])) e
 done:=fun s Q E st hQ=>by
  obtain⟨slot,g,y,x⟩:=st;exact rP hh g x rfl y (GV (by rw[lW.1];exact DQ _)) fun h' he=>hQ h' s.toks fun b o hb e=>he b o (fun h=>hb (by simp[h])) e
 self:=fun _ s Q E st hQ=>by
  obtain⟨slot,g,y,x⟩:=st;refine wpAny_pyIter_slot g.ty dI (Fh dI g.ty gN ?_ (iI _));show Eb _ _ (ret (.ref I)) _ _ s;exact DK ⟨_,rfl, "set_iterator", _,g.ty,bT.lookup,hQ⟩
end
section
variable{P:Ef}{w:EM}{A:ES}{E:DJ->DM->Prop}{s:DM}{a:Addr}{ks:List Int}{o:Obj}{es:Array (Int×DJ)}{ep:Nat}{t:Fm}
theorem rO{Q:Bool->DM->Prop}(hT:s.TypeIs (.ref a) "set")(h:Q false s):Eb (Ek P w) A (ID (.ref a)) Q E s:=by
 unfold ID;refine DI (wpAny_specialOf hT PySem.F.slot_set_len.lookup ?_);generalize hi:("set.__len__" : String)=i0
 wp_delta
 rw[show splitId i0=some ("set", "__len__")from by subst hi;decide +kernel];subst hi;refine DI (JI (T := "set") (b:=true) hT (by rw[Kq];kernel_rfl) ?_);refine wpAny_ite_split (fun q=>absurd q (by decide)) fun _=>?_;refine wpAny_ite_split (fun _=>?_) fun q=>absurd (by decide +kernel) q;exact DI (JZ hT (DK h))
theorem rH(a:Addr)(ks:List Int)(o:Obj)(es:Array (Int×DJ))(ep:Nat)(t:Fm):W.KdlSrc P w "set" a a es.size (fun i v=>((iJ w a es ep)[i]?).map (·.2)=some v) (fun h=>SetI w h a ks o es ep t) where
 type:=fun _ x=>⟨o,x.at_,x.ex.1⟩
 there:=fun _ x=>⟨DV x.at_,DV x.at_⟩
 keep:=fun _ _ x k=>{x with at_:=k a (.inl rfl) o x.at_}
 notList:=by decide
 notTuple:=by decide
 hint:=fun _ _ _ _ x q=>rO x.ty q
 iter:=fun _ _ hh x=>⟨_,_,fun _ _ q=>rM x q,qS hh _ (EB (DV x.at_)),
  ⟨0,⟨_,D3 _ rfl,rfl,rfl⟩,.inr (kK _ (kj x.gd.up)),{x with at_:=DN _ x.at_}⟩⟩
theorem pi{acc:List DJ}(x:SetI w s.heap a ks o es ep t)(hl:acc.length=es.size)(h:∀(i:Nat) v,acc[i]?=some v->((iJ w a es ep)[i]?).map (·.2)=some v):∃ns,HW acc ns/\ns.Perm ks:=by
 have e:acc=(iJ w a es ep).toList.map (·.2):=by
  refine JL (by
   have q:=(lW (w:=w) (a:=a) (es:=es) (ep:=ep)).1;rw[<- DU]at q
   rw[DO];omega) fun i h1 h2=>?_
  have q:=h i _ (DP h1);rw[<- Fw,<- Ez,DP h2]at q;exact(Eu q).symm
 have key:∀l:List (Int×DJ),Cv l->HW (l.map (·.2)) (l.map fun e=>iv e.2):=by
  intro l
  induction l with
  | nil=>intro _;exact .nil
  | cons y l ih =>
    intro h;obtain⟨n,u,rfl⟩:=h y DS;exact .cons n u (ih fun e m=>h e (DL _ m))
 have pm:=(lW (w:=w) (a:=a) (es:=es) (ep:=ep)).2;refine⟨_,by rw[e];exact key _ fun y m=>x.el y (pm.mem_iff.mp m),(pm.map _).trans x.ks⟩
theorem kr(hh:A.handled=none)(x:SetI w s.heap a ks o es ep t)(h64:ks.length<64)
 (h:∀(h0 h':Heap)(tk:Nat)(out:Array DJ)(ns':List Int)(c:Nat),(∀b o,s.heap.get? b=some o->h0.get? b=some o)->(∀b o,h0.get? b=some o->h'.get? b=some o)->h'.get? h0.objs.size=some (Lu "list" out c) ->
  HW out.toList ns'->ns'.Perm ks->ns'.Pairwise (· <= ·)->Q (.ref h0.objs.size) {s with heap:=h',toks:=tk}) :
 Eb (Ek P w) A (call (.builtin "sorted") [.ref a]) Q E s:=by
 have sz:=EI;have hl:=x.len;refine Calls.call_function_entry kind_sorted plain_sorted entry_sorted (args_sorted1 (.ref a)) ?_;unfold Builtin.«sorted»;refine DI (m:=checkCount "sorted" 1 1 _) (DK (DI (W.kdu_collect (A:=A.in1) (rH a ks o es ep t) hh x (by omega) fun h0 tk acc k0 hacc=>DI (wpAny_newList ?_ ?_))))
 · obtain⟨ns,iA,pn⟩:=pi x (by rw[DU];exact hacc.1) fun i v e=>hacc.2 i v (by rw[<- Fw];exact e);have l64:acc.toList.length<64:=by rw[iA.length,pn.length_eq];exact h64
   have hoL:(h0.push (Lu "list" acc.toList.toArray 0)).get? h0.objs.size=some (Lu "list" acc.toList.toArray 0):=D3 _ rfl;show Eb _ _ _ _ _ {s with heap:=h0.push (Lu "list" acc.toList.toArray 0),toks:=tk};refine DI (Gg (Fh slot_list_sort ⟨_,hoL,rfl⟩ entry_list_sort (list_sort_tree (s:={s with heap:=h0.push (Lu "list" acc.toList.toArray 0),toks:=tk}) hoL iA l64 fun out ns' q1 q2 q3=>⟨_,rfl,?_⟩) (args_list_sort _)));have e1:=get?_update_seq hoL (fun _=>#[])
   have e2:((((h0.push (Lu "list" acc.toList.toArray 0)).update h0.objs.size (Je fun _=>#[])).push (Lu "tuple" acc.toList.toArray 0)).push (Lu "list" #[] 0)).get? h0.objs.size=_ :=
    DN _ (DN _ e1)
   have e3:=get?_update_seq e2 (fun _=>out);refine DK ⟨_,rfl,h h0 _ _ out ns' _ k0 (fun b ob eb=>?_) e3 q1 (q2.trans pn) q3⟩;have ne:h0.objs.size≠b:=HN (DV eb);exact(GU _ _ ne).trans (DN _ (DN _ ((GU _ _ ne).trans (DN _ eb))))
 · rw[DU,hacc.1];omega
end
section
variable{X:Cx}
noncomputable def xW(w:EM)(K:W.Frag):List V->Hp->VK->Prop:=fun xs H Q=>∃(a:Addr)(ns:List Int),xs=[.ref a]/\CS K H a (ns.map V.int)/\ns.length<2000/\∀l,H l=none->Q (.ref l) (Bt H l (.ext fun h=>kO w h l (met [] ns)))
theorem pS(hc:X.calm=true):dS X (.type "set") (xW X.w X.K):=by
 intro pins s σ H xs us Q I r ⟨a,ns,ex,sq,hb,q⟩;subst ex;obtain⟨u,rfl,ru⟩:=vals1 r;cases ru;obtain⟨its,rv,p,hz⟩:=I.list sq;refine nK (I.ok.hd hc) p.isList (intsAre_of rv) hb fun h' tk hi k=>?_;refine⟨.ref s.heap.objs.size,_,I.laid (t':=tk) (o:=.ext fun h=>kO X.w h s.heap.objs.size (met [] ns)) k (DQ _) ⟨hi,?_,fun h1 h2 z y=>z.keep y⟩,rfl,q _ (I.hok.fresh (DQ _))⟩;obtain⟨o,_,_,_,z⟩:=hi;exact⟨o,z.at_⟩
noncomputable def rV(w:EM):List V->Hp->VK->Prop:=fun xs H Q=>∃(a:Addr)(ks:List Int),xs=[.ref a]/\H a=some (.ext fun h=>kO w h a ks)/\ks.length<64/\∀ns':List Int,ns'.Perm ks->ns'.Pairwise (· <= ·)->∀l,H l=none->Q (.ref l) (Bt H l (.lst (ns'.map V.int)))
theorem nJ(hc:X.calm=true):dS X (.builtin "sorted") (rV X.w):=by
 intro pins s σ H xs us Q I r ⟨a,ks,ex,e,h64,q⟩;subst ex;obtain⟨u,rfl,ru⟩:=vals1 r;cases ru;obtain⟨⟨o,es,ep,t,x⟩,_⟩:=(show ce X.prog X.w H s.heap a (.ext fun h=>kO X.w h a ks)from I.hok a _ e);refine kr (I.ok.hd hc) x h64 fun h0 h' tk out ns' c k0 k1 e a1 a2 a3=>?_;have I1:Inv X pins σ H {s with heap:=h0}:=I.kept (t':=s.toks) k0;have sz:=EI;refine⟨.ref h0.objs.size,_,I1.laid (t':=tk) (o:=.lst (ns'.map V.int)) k1 (DQ _) ⟨?_,out.toList,c,ki a1,by rw[Array.toArray_toList];exact e⟩,rfl,q ns' a2 a3 _ (I1.hok.fresh (DQ _))⟩;rw[DO,a2.length_eq];omega
end
end L2
namespace L2.VL
section
variable{X:Cx}{rl:RlT}{a b c o e:Expr}{es:List Expr}{fa fb fk fx:TV}{fs:CJ}{pos p px p1 p2 pos2 apos cpos:Pos}{ρ:En}
noncomputable def BS(w:EM)(K:W.Frag):List V->Hp->VK->Prop:=fun vs H Q=>xW w K vs H fun v H1=>rV w [v] H1 Q
noncomputable def pD:List W->(W->Prop)->Prop:=fun ws Q=>∃(v:W)(ns:List Int),ws=[v]/\v.dat=some (.list (ns.map .int))/\ns.length<64/\∀ns':List Int,ns'.Pairwise (· < ·)->(∀x,x∈ns'↔x∈ns)->Q (.ml (ns'.map .int))
theorem qZ:fJ X rl (BS X.w X.K) pD:=fun{F H vs ws} Qd Q s ra r ⟨v,ns,ew,ed,hl,q⟩ k=>by
 subst ew;obtain⟨u,rfl,r1⟩:=qk r;obtain⟨b,us,rfl,sq,rs⟩:=r1.items s ed;cases cZ rs;have ml:=mn ns [];rw[GK]at ml;refine⟨b,ns,rfl,sq,by omega,fun l hl2=>⟨l,met [] ns,rfl,al,by omega,fun ns' pm pw l2 hl3=>?_⟩⟩;have g1:=Grow.laid (o:=.ext fun h=>kO X.w h l (met [] ns)) s ra hl2;have g2:=Grow.laid (o:=.lst (ns'.map V.int)) g1.sub g1.reel hl3;have nd:ns'.Nodup:=pm.nodup_iff.mpr (qw ns [] Kp);refine k _ (.ml _) _ _ (g1.trans g2) (ck g1.sub g1.reel hl3 jT) (fun a ea=>by cases ea;exact g1.freeB hl3) (q _ ((pw.and nd).imp fun{a b} z=>by have:=z.1;have:=z.2;omega) fun x=>?_);rw[pm.mem_iff,mf];simp
theorem k4(hc:X.calm=true)(hm:X.mg "sorted" = none)(hm2:X.mg "set" = none)(ha:CZ X rl [a] fs)(hg:autoParam (Gl X "sorted") æa._auto_1)(hg2:autoParam (Gl X "set") æa._auto_1)
 (he:autoParam (DY [.Call (.Name "set" p2) [a] [] pos2] X.env=(false,eval (.Call (.Name "set" p2) [a] [] pos2) X.env)::DY [] X.env) æa._auto_1)(he2:autoParam (DY [a] X.env=(false,eval a X.env)::DY [] X.env) æa._auto_1)
 (hpl:autoParam ((Ge pos (DY [] X.env)).any (·.1)=false) æa._auto_1)(hpl2:autoParam ((Ge pos2 (DY [] X.env)).any (·.1)=false) æa._auto_1) :
 PV X rl (.Call (.Name "sorted" p) [.Call (.Name "set" p2) [a] [] pos2] [] pos) (eC pD fs):=by
 refine gq (t:=fun _=>tC .non) qZ ha fun ta p1=>?_;show PE X _ (BJ (rV X.w) (uQ (BJ (xW X.w X.K) ta) zJ));exact jF (nJ hc) hg hm (by rfl) (eP (ii (pS hc) hg2 hm2 (by rfl) p1 (by decide) (by decide) he2 hpl2) jG he) (by decide) (by decide) he hpl
noncomputable def wP(w:W):Option (List Int):=match w.dat with
 | some (.list xs)=>fH xs
 | _=>none
theorem tQ{w:W}:wP w=some ns↔w.dat=some (.list (ns.map .int)):=by
 unfold wP;constructor
 · intro h;split at h
   · rename_i xs e;rw[e,d4 h]
   · cases h
 · intro h;rw[h];exact bB ns
theorem sT(w:W):pD [w]=aw (wP w) fun ns=>Cq (ns.length<64) (Cy (anyM fun ns':List Int=>ns'.Pairwise (· < ·)/\∀x,x∈ns'↔x∈ns) fun ns'=>ret (.ml (ns'.map .int))):=by
 refine af fun Q=>?_;simp only[pD,ag,ret,Cq,Cy,anyM,ED,and_true,tQ];constructor
 · rintro⟨v,ns,rfl,e,a,q⟩;exact⟨ns,e,a,fun n' ⟨h1,h2⟩=>q n' h1 h2⟩
 · rintro⟨ns,e,a,q⟩;exact⟨w,ns,rfl,e,a,fun n' h1 h2=>q n' ⟨h1,h2⟩⟩
theorem wO(ns:List Int):wP (.d (.list (ns.map .int)))=some ns:=bB ns
end
theorem Reps.put{K:W.Frag}{ds:List DH}(k:Nat)(r:Reps K F vs ds)(h:Rep K F v d):Reps K F (vs.set k v) (ds.set k d):=by
 induction vs generalizing ds k with
 | nil=>cases r;exact .nil
 | cons x vs ih =>
   cases r with
   | cons r1 r2 =>
     cases k with
     | zero=>exact .cons h r2
     | succ k=>exact .cons r1 (ih k r2)
noncomputable def rm(i:Nat)(fx fv:TV):CK:=fun D ρ=>fv ρ fun w=>∃d,w.fz = .d d/\∃xs,ρ[i]?=some (some (.ml xs))/\fx ρ fun wx=>∃k:Int,wx = .d (.int k)/\0<=k/\k<(xs.length:Int)/\D.nx (ρ.set i (some (.ml (xs.set k.toNat d))))
section
variable{X:Cx}{rl:RlT}{ei e:Expr}{fx fv:TV}{pos p1 pos':Pos}{ρ:En}
theorem iK(i:Nat)(hx:PV X rl ei fx)(hv:PV X rl e fv)(hN:autoParam (X.N[i]?=some x) æa._auto_1)(hvis:autoParam (CF X.env.scope x) æc._auto_1)
 (hd:autoParam ((x==("__debug__" : Str))=false) æb._auto_1)(hcd:autoParam ((x==("__classdict__" : Str))=false) æb._auto_1)
 (ha:autoParam (∀v,H_ (.Subscript (.Name x p1) ei pos') X.env v=(do
  let ov <- Jo [v] (eval (.Name x p1) X.env)
  let iv <- Jo [v,ov] (eval ei X.env)
  JX pos'
  Jo [v,ov,iv] (setItem ov iv v)
  release [v,ov,iv] [])) æd._auto_1)
 (hs:autoParam (G6 [.Subscript (.Name x p1) ei pos'] e pos.line X.env=pure false) æa._auto_1)(hw:autoParam (G7 [.Subscript (.Name x p1) ei pos'] e X.env=pure none) æa._auto_1)
 (h1:autoParam ((GC [.Subscript (.Name x p1) ei pos'] X.env).map (·.2)=[H_ (.Subscript (.Name x p1) ei pos') X.env]) æa._auto_1) :
 C5 X rl (.Assign [.Subscript (.Name x p1) ei pos'] e pos) (rm i fx fv):=by
 obtain⟨tv,pv,kv⟩:=hv;obtain⟨tx,px,kx⟩:=hx;refine⟨_,qq pv (vM (b_ hN hvis hd hcd) px oB ha) hs hw h1,fun{F₀ H₀ F H σ ρ} R Dv D ok q=>kv R _ _ q fun v w F1 H1 g1 r1 n1 ⟨d,ed,xs,e1,q1⟩=>?_⟩;obtain⟨F2,g2,s2,r2⟩:=cL.fz g1 r1 n1;rw[ed]at r2;have R1:=R.grow g2;obtain⟨u,h1',h2,h3⟩:=R1.sl i _ e1;obtain⟨a,vs,rfl,f,hr,hh,rs⟩:=(show gh X.K rl F2 H1 u xs from h2);refine⟨.ref a,h1',kx R1 _ _ q1 fun y wy F3 H3 g3 r3 n3 ⟨k,ek,k0,k1,q3⟩=>?_⟩;subst ek;have ey:=aZ r3;subst ey;have R3:=R1.grow g3;have vl:vs.length=xs.length:=rs.length;refine⟨a,vs,k,k.toNat,rfl,rfl,g3.same a _ hh hr,?_,ok.nx _ _ _ _ (g2.fs.trans g3.fs) (R3.own e1 h1' (Reps.put k.toNat (rs.mono g3.fs) (Rep.mono g3.fs r2))) q3⟩;obtain⟨n,rfl⟩:=EF k0;unfold ixN;simp;omega
theorem u8(i:Nat):mS (rm i fx fv) ρ=Cy (fv ρ) fun w=>aw (asD w.fz) fun d=>aw (BP ρ i) fun xs=>Cy (fx ρ) fun wx=>aw (asI wx) fun k=>Cq (0<=k/\k<(xs.length:Int)) (ret (.nx (ρ.set i (some (.ml (xs.set k.toNat d)))))):=by
 refine af fun Q=>?_;simp only[mS,rm,Cy,ag,fS,iH,bL,Cq,ret,and_assoc]
end
end L2.VL
namespace L2
section
variable{X:Cx}
end
end L2
namespace L2.VL
section
variable{X:Cx}{rl:RlT}{a e:Expr}{fs:CJ}{pos p:Pos}
end
end L2.VL
namespace L2
section
variable{X:Cx}
end
end L2
namespace L2.VL
section
variable{X:Cx}{rl:RlT}{a e:Expr}{fs:CJ}{pos p:Pos}
end
noncomputable def kP(i j:Int):Prop:=0<=j/\j<=100/\i.natAbs<2^60000
theorem iV{E:DJ->DM->Prop}{a n:Int}{t u:Tok}(h0:0<=n)(h1:n<=100)(ha:a.natAbs<2^60000)
 (hQ:Q (.int (a^n.toNat) s.toks) {s with toks:=s.toks+1}):Eb (Ek P w) A (GO .Pow (.int a t) (.int n u)) Q E s:=by
 by_cases n0:n=0
 · subst n0;have e:a^(0:Int).toNat=1:=GM a;rw[e]at hQ;exact AutoIntOps.pow_0 (Jw _) rfl hQ
 · have nz:¬(n==0)=true:=by simpa using n0
   by_cases a1:a=0\/a=1
   · refine AutoIntOps.pow_1 h0 nz (by simpa using a1) ?_
     have e:a^n.toNat=a:=by
      rcases a1 with rfl|rfl
      · rw[Int.zero_pow (by omega)]
      · rw[Int.one_pow]
     rw[e]at hQ;exact hQ
   · by_cases a2:a = -1
     · refine AutoIntOps.pow_2 h0 nz (by simpa using a1) (by simpa using a2) ?_
       have e:a^n.toNat=if(n%2==0)=true then 1 else -1:=by
        subst a2;obtain⟨k,rfl⟩:=EF h0;rw[Eh];clear hQ h0 h1 ha n0 nz a1
        induction k with
        | zero=>rfl
        | succ k ih =>
          rw[Fa,ih];by_cases c:((k:Int)%2==0)=true
          · have c2:¬(((k+1:Nat):Int)%2==0)=true:=by simp at c ⊢;omega
            rw[if_pos c,if_neg c2];rfl
          · have c2:(((k+1:Nat):Int)%2==0)=true:=by simp at c ⊢;omega
            rw[if_neg c,if_pos c2];rfl
       rw[e]at hQ;exact hQ
     · refine AutoIntOps.pow_4 h0 nz (by simpa using a1) (by simpa using a2) ?_ hQ;have b:Iq a<=60000:=IW.mpr ha;unfold Builtin.Int.intTooBig;have m:((Iq a:Nat):Int)*n<=60000*100:=Ja (by omega) h1 h0 (by decide);have l:(60000*100:Int)<=(bitsLine:Int):=by decide
       rw[decide_eq_true_eq];omega
section
variable{X:Cx}{rl:RlT}{a b:Expr}{fa fb:TV}{pos:Pos}
theorem sF:De X (GO .Pow) (rI kP fun i j=>.int (i^j.toNat)):=B6 fun _ _ _ _ _ _ _ hc q=>iV hc.1 hc.2.1 hc.2.2 q
theorem jj(ha:PV X rl a fa)(hb:PV X rl b fb):PV X rl (.BinOp a .Pow b pos) (Bq (gI kP fun i j=>.int (i^j.toNat)) fa fb):=fG sF (eg fun _ _ _ _=>.int _) ha hb
end
end L2.VL
namespace K23
open PySem PySem.Spec PyProof.Rows L2 L2.VL
set_option bootstrap.genMatcherCode true in
local macro_rules | `(tactic| simp_arith only [$xs,*])=>`(tactic| simp (maxSteps:=2000000) (disch:=(first | assumption | omega | decide)) only [yX,y7,za,y_,y8,yQ,yP,yT,yS,yR,yZ,yY,yW,yV,yU,xo,BQ,BP,cK,cN,d9,W.cap,Cg,List.replicate,id,↓reduceIte,if_true,Nat.reduceAdd,Nat.reduceSub,Nat.reduceLeDiff,Int.cast_ofNat_Int,Int.reduceBEq,Int.reduceSub,Int.reduceAdd,Int.reduceLT,Int.reduceLE,Int.reduceMul,Int.reduceNeg,reduceCtorEq,iu,$xs,*])
set_option bootstrap.genMatcherCode true in
local macro_rules | `(tactic| simp_arith only [$xs,*] at $h:ident)=>`(tactic| simp only [List.cons.injEq,W.d.injEq,PyData.int.injEq,PyData.bool.injEq,PyData.str.injEq,PyData.list.injEq,PyData.tuple.injEq,jo,oS,oy,cP,and_true,true_and,reduceCtorEq,$xs,*] at $h:ident)
section
variable{P:Ef}{w:EM}{K:Gm}{mg:Str->Option DJ}{base:Heap}{rl:RlT}
noncomputable def wX(ws:List W):Prop:=∃ns:List Int,ws=[.sc ns]/\ns.length<=63
theorem wX.eq(h:ns.length<=63):wX [.sc ns]=True:=propext ⟨fun _=>trivial,fun _=>⟨ns,rfl,h⟩⟩
theorem qb{m:Mo Fl}{k:En->Mo Fl}{Q:Fl->Prop}(P:α->Prop)(g:α->Fl)(h:∀Q':Fl->Prop,(∀a,P a->Q' (g a))->m Q')(fin:∀a,P a->sq (VL.ret (g a)) k Q):sq m k Q:=h _ fun a ha=>fin a ha
theorem AW(xs:List α)(f:α->DH)(k:Nat):VL.cutD (xs.map f) none (some (k:Int))=(xs.take k).map f:=by
 unfold VL.cutD;rw[HT.sIx_none,HT.sIx_nat,Ko,DO,IQ,<- List.map_take];congr 1;by_cases z:k<=xs.length
 · rw[G4 z]
 · rw[Hh (by omega),D6 (by omega),D6 (by omega)]
theorem hG:FnScope ["_law_script"] ["_law_script"] (defScope (BB 22)):=⟨rfl,rfl,rfl,by decide +kernel,rfl,by decide +kernel,by decide +kernel⟩
theorem d__law_feed(Fn:FnIn K mg "_law_feed" (BB 22) ["_law_script"])(Z:Bz mg):DfnR P w K mg base "_law_feed" ["_law_script"] 2 wX:=by
 have sc:=hG;obtain⟨f,fd,hm,F,hb⟩:=Fn.ex;refine⟨f,fd,hm,F.kp,hb,?_⟩;refine F.ok (k:=1) sc (fun vs H Q E h=>?_) (fun cdv A outer s H vs Q E hr h=>?_)
 · obtain⟨F,ws,_,r,_,⟨ns,rfl,_⟩,_⟩:=h;have:=Ht r;simpa using this
 · obtain⟨F,ws,sm,r,ao,⟨ns,rfl,hn⟩,fin⟩:=h;obtain⟨T,p,kk⟩:=nu (X:=(nV Dz P w K mg base ["_law_script"] "_law_feed" (defScope (BB 22)) f cdv A outer s H E).nox) (og Z.list_ (aa (uk (vn 0) eu (et ac)) ab));refine⟨T,p,kk (gk sm (fun _ z=>by cases z) r ao) _ ?_ fin⟩;simp_arith only[ae];exact⟨ns.take 63,by rw[show(63:Int)=((63:Nat):Int)from rfl,AW],by rw[EU];omega⟩
noncomputable def bc:List W->(DH->Prop)->Prop:=fun ws Q=>∃(m:Int),ws=[.reel,.d (.int m)]/\((0<m)/\(m<2^60))/\∀k:Int,(0<=k/\k<m)->Q (.int k)
theorem bc.mono:∀ws (Q Q':DH->Prop),(∀d,Q d->Q' d)->bc ws Q->bc ws Q':=fun _ _ _ h_=>Es fun _=>D0 (D0 fun q_ o_ ho_=>h_ _ (q_ o_ ho_))
theorem bc.len:∀ws (Q:DH->Prop),bc ws Q->ws.length=2:=fun _ _ h_=>by obtain⟨_,e_,_⟩:=h_;subst e_;rfl
theorem bc.eq(m:Int)(hm:0<m)(hb:m<2^60):bc [.reel,.d (.int m)]=Cy (anyM fun k:Int=>0<=k/\k<m) fun k=>VL.ret (.int k:DH):=by
 refine af fun Q=>⟨?_,fun q_=>⟨m,rfl,⟨hm,hb⟩,q_⟩⟩;rintro⟨m',e_,_,q_⟩;simp_arith only[and_true]at e_;obtain rfl:=e_;exact q_
theorem hJ:FnScope ["_law_feed_here", "_law_many", "_law_found", "_law_spot", "_law_cell", "_law_mixed"] ["_law_feed_here", "_law_many"] (defScope (BB 23)):=⟨rfl,rfl,rfl,by decide +kernel,rfl,by decide +kernel,by decide +kernel⟩
theorem d__law_draw(Fn:FnIn K mg "_law_draw" (BB 23) ["_law_feed_here", "_law_many"])(Z:Bz mg)    : Dfn P w K mg base rl "_law_draw" ["_law_feed_here", "_law_many"] 1 bc:=by
 have sc:=hJ
 refine Dfn.of Fn sc (bc.mono) (bc.len) (fun cdv A outer s H E hr=>(ah (gj (i:=0) (hr.mono (Ei _)) (.inr (.inr rfl)) (v_add (eB (i:=0) (hr.mono (Ei _)) (.inr (.inr rfl))) ac))
  (ah (dP (bJ oN n6 (bA _) (eB (i:=0) (hr.mono (Ei _)) (.inr (.inl rfl))) ac) (ah (aq 2 sc.nd (v_mod (eB (i:=0) (hr.mono (Ei _)) (.inr (.inl rfl))) (vn 1)))
  (ah (gj (i:=0) (hr.mono (Ei _)) (.inr (.inl rfl)) (v_div (eB (i:=0) (hr.mono (Ei _)) (.inr (.inl rfl))) (vn 1)))
  (am (aE (vn 2))))) cu)
  (ah (aq 3 sc.nd (eB (i:=0) (hr.mono (Ei _)) (.inl rfl)))
  (ah (gj (i:=0) (hr.mono (Ei _)) (.inl rfl) (v_add (vn 3) ac))
  (ah (aq 4 sc.nd ac)
  (ah (dP (bJ (lY hr.units) fL (bA _) (dU (i:=0) (hr.mono (Ei _))) (cH ab)) (am (aq 4 sc.nd (bK (dU (i:=0) (hr.mono (Ei _))) (v_mod (vn 3) (fB Z.len_ (aa (dU (i:=0) (hr.mono (Ei _))) ab)))))) cu)
  (ah (dP (Dc.pb (p4 (bJ yd xr (bA _) (vn 4) (v_pow ac ac)) (kZ (bJ oM nZ (bA _) (vn 3) (fB Z.len_ (aa (dU (i:=0) (hr.mono (Ei _))) ab)))))) (ah (gj (i:=0) (hr.mono (Ei _)) (.inr (.inl rfl)) (v_div (vn 4) (vn 1)))
  (am (aE (v_mod (vn 4) (vn 1))))) cu)
  (ah (aq 5 sc.nd (v_mod (v_mul (v_add (v_add (v_mod (vn 4) ac) (v_mul ac (eB (i:=0) (hr.mono (Ei _)) (.inr (.inr rfl))))) ac) ac) ac))
  (ah (aq 5 sc.nd (v_mod (v_mul (v_add (v_div (vn 5) ac) (v_mul ac (eB (i:=0) (hr.mono (Ei _)) (.inr (.inr rfl))))) ac) ac))
  (am (aE (v_mod (v_div (vn 5) ac) (vn 1)))))))))))))) ?_
 rintro ws Q ⟨m,rfl,⟨hm,hb⟩,hQ⟩;have hm0:m≠0:=by omega
 have hmd:∀i:Int,cU i m:=fun i=>cU.of hm0 (by omega);have hnn:∀i:Int,0<=i->0<=i.fdiv m:=fun i hi=>Int.fdiv_nonneg hi (by omega);have fm:∀i:Int,0<=i.fmod m/\i.fmod m<m:=fun i=>⟨FQ _ hm,Hz _ hm⟩;refine aG ?_;have c1:∀z:Int,aA 1013 z:=fun z=>.lt (by decide);have c2:∀z:Int,aA 37 z:=fun z=>.lt (by decide);have c3:∀z:Int,aA z 48271:=fun z=>.rt (by decide);have c4:∀z:Int,aA z 69621:=fun z=>.rt (by decide);have d6:∀z:Int,cU z 64:=fun z=>cU.of (by decide) (by decide);simp_arith only[aj,ae,cx,cy,bE,cz,bF,aX]
 (with_reducible (first|refine aB fun n hn=>?_|refine aO fun n hn=>?_))
 try simp_arith only[aj,ae,cx,cy,bE,cz,bF,aX]
 (with_reducible (first|refine aB fun l hl=>?_|refine aO fun l hl=>?_))
 try rw[sq_ite]
 refine c_ (fun _=>?_) fun _=>?_
 · simp_arith only[aj,ae,cx,cy,bE,cz,bF,aX]
   (with_reducible (first|refine aB fun l2 hl2=>?_|refine aO fun l2 hl2=>?_))
   try simp_arith only[aj,ae,cx,cy,bE,cz,bF,aX]
   (with_reducible (first|refine aB fun l3 hl3=>?_|refine aO fun l3 hl3=>?_))
   have h0:=hnn l3 hl3
   try simp_arith only[aj,ae,cx,cy,bE,cz,bF,aX]
   exact de (hmd _) (aQ (hQ _ (fm _)))
 · simp_arith only[aj,ae,cx,cy,bE,cz,bF,aX]
   (with_reducible (first|refine aB fun a ha=>?_|refine aO fun a ha=>?_))
   try simp_arith only[aj,ae,cx,cy,bE,cz,bF,aX]
   generalize rl.b.snd=cs;refine qb (fun _:Int=>True) (fun z=>.nx [some .reel,some (.d (.int m)),none,some (.d (.int a)),some (.d (.int z)),none]) ?_ ?_
   · intro Q' hQ' _ _;refine de (shaped_ints cs) (o0 (fun he=>?_) fun _=>hQ' 0 trivial);intro _ _ _ _;have he:cs≠[]:=by rintro rfl;exact absurd he (by decide)
     have hz:(0:Int)<(cs.length:Int):=by have:=List.length_pos_iff.mpr he;omega
     refine de (by omega) ?_;obtain⟨z,ez,_⟩:=tP (xs:=cs) (FQ a hz) (Hz a hz);rw[ez];exact hQ' z trivial
   · intro z _;have t0:(10:Int)^Jm 18<=z->0<=z:=fun h=>Int.le_trans (by decide) h
     repeat' (first|exact aQ (hQ _ (fm _))|((with_reducible refine de ?_ ?_);(first|exact hmd _|exact hnn _ (by assumption)|exact hnn _ (t0 (by simp_all))|exact c1 _|exact c2 _|exact c3 _|exact c4 _|exact d6 _|exact cU.of (by decide) (by decide)|exact⟨by decide,by decide,by decide⟩|omega|assumption|decide))|(with_reducible refine aB fun _ _=>?_)|(with_reducible refine aO fun _ _=>?_)|(with_reducible refine c_ (fun _=>?_) fun _=>?_)|(simp_arith only[ae,cx,cy,bE,cz,bF,aX]))
noncomputable def ba:List W->(DH->Prop)->Prop:=fun ws Q=>∃(a b:Int),ws=[.d (.int a),.d (.int b)]/\((0<b)/\(b.natAbs<2^8000))/\Q (fr (qd a b))
theorem ba.mono:∀ws (Q Q':DH->Prop),(∀d,Q d->Q' d)->ba ws Q->ba ws Q':=fun _ _ _ h_=>Es fun _=>Es fun _=>D0 (D0 (h_ _))
theorem ba.len:∀ws (Q:DH->Prop),ba ws Q->ws.length=2:=fun _ _ h_=>by obtain⟨_,_,e_,_⟩:=h_;subst e_;rfl
theorem ba.eq(a b:Int)(hb:0<b)(hz:b.natAbs<2^8000):ba [.d (.int a),.d (.int b)]=VL.ret (fr (qd a b):DH):=by
 refine af fun Q=>⟨?_,fun q_=>⟨a,b,rfl,⟨hb,hz⟩,q_⟩⟩;rintro⟨a',b',e_,_,q_⟩;simp_arith only[fA,bY,bZ,bC,bx,cn]at e_;obtain⟨rfl,rfl⟩:=e_;exact q_
theorem hE:FnScope ["_law_top", "_law_bottom_here", "_law_one", "_law_other"] ["_law_top", "_law_bottom_here"] (defScope (BB 24)):=⟨rfl,rfl,rfl,by decide +kernel,rfl,by decide +kernel,by decide +kernel⟩
theorem d__law_frac(Fn:FnIn K mg "_law_frac" (BB 24) ["_law_top", "_law_bottom_here"])(Z:Bz mg)    : Dfn P w K mg base rl "_law_frac" ["_law_top", "_law_bottom_here"] 1 ba:=by
 have sc:=hE
 refine Dfn.of Fn sc (ba.mono) (ba.len) (fun cdv A outer s H E hr=>(ah (gW 2 3 rfl sc.nd (aa (um Z.abs_ (aa (vn 0) ab)) (aa (vn 1) ab)))
  (ah (d_ [] EE (bJ oN n6 (bA _) (vn 3) ac) (am (gW 2 3 rfl sc.nd (aa (vn 3) (aa (v_mod (vn 2) (vn 3)) ab)))))
  (am (aE (eA (aa (v_div (vn 0) (vn 2)) (aa (v_div (vn 1) (vn 2)) ab)))))))) ?_
 rintro ws Q ⟨a,b,rfl,⟨hb,hz⟩,hQ⟩;refine aG ?_;have e:Et (if a<0 then -a else a) b=Et a b:=by split<;>simp[Et]
 simp_arith only[ae];refine gi (σ:=Int×Int) (fun s=>[some (.d (.int a)),some (.d (.int b)),some (.d (.int s.1)),some (.d (.int s.2))]) (fun s=>decide (0<s.2)) (fun s=>(s.2,s.1.fmod s.2)) (fun s=>s.2.natAbs) (fun s=>0<=s.1/\0<=s.2/\Et s.1 s.2=Et a b) (if a<0 then -a else a,b) rfl ⟨by dsimp only;split<;>omega,by dsimp only;omega,e⟩ ?_ ?_ ?_
 · intro s _;simp_arith only[ae]
 · rintro s ⟨h1,h2,e⟩ c;have hc:0<s.2:=by simpa using c
   have hc':s.2≠0:=by omega
   refine⟨⟨h2,FQ _ hc,by rw[gK];exact e⟩,cS hc',_,?_,rfl⟩;simp_arith only[aj,ae]
 · rintro s ⟨h1,h2,e⟩ c;have hc:¬0<s.2:=by simpa using c
   have hc:s.2=0:=by omega
   rw[hc,IS]at e;have ex:s.1=(Et a b:Int):=by omega
   have c1:cU a (Et a b:Int):=gL hb hz _;have c2:cU b (Et a b:Int):=gL hb hz _;simp_arith only[aj,ae,ex];rw[jM hb];exact aQ hQ
noncomputable def ax:List W->(DH->Prop)->Prop:=fun ws Q=>∃(i j:Int),ws=[.d (.int i),.d (.int j)]/\(True)/\Q (.int (Et i j:Nat))
theorem ax.mono:∀ws (Q Q':DH->Prop),(∀d,Q d->Q' d)->ax ws Q->ax ws Q':=fun _ _ _ h_=>Es fun _=>Es fun _=>D0 (D0 (h_ _))
theorem ax.len:∀ws (Q:DH->Prop),ax ws Q->ws.length=2:=fun _ _ h_=>by obtain⟨_,_,e_,_⟩:=h_;subst e_;rfl
theorem ax.eq(i j:Int)  : ax [.d (.int i),.d (.int j)]=VL.ret (.int (Et i j:Nat):DH):=by
 refine af fun Q=>⟨?_,fun q_=>⟨i,j,rfl,trivial,q_⟩⟩;rintro⟨i',j',e_,_,q_⟩;simp_arith only[and_true]at e_;obtain⟨rfl,rfl⟩:=e_;exact q_
theorem dw:FnScope ["one", "other"] ["one", "other"] (defScope (BB 5)):=⟨rfl,rfl,rfl,by decide +kernel,rfl,by decide +kernel,by decide +kernel⟩
theorem d_common_divisor(Fn:FnIn K mg "common_divisor" (BB 5) ["one", "other"])(Z:Bz mg)    : Dfn P w K mg base rl "common_divisor" ["one", "other"] 1 ax:=by
 have sc:=dw
 refine Dfn.of Fn sc (ax.mono) (ax.len) (fun cdv A outer s H E hr=>(ah (d_ [] EE (bJ (lY hr.units) fL (bA _) (vn 1) ac) (am (gW 0 1 rfl sc.nd (aa (vn 1) (aa (v_mod (vn 0) (vn 1)) ab)))))
  (am (aE (um Z.abs_ (aa (vn 0) ab)))))) ?_
 rintro ws Q ⟨i,j,rfl,_,hQ⟩;refine aG ?_;simp_arith only[ae];refine gi (σ:=Int×Int) (fun s=>[some (.d (.int s.1)),some (.d (.int s.2))]) (fun s=>!(s.2==0)) (fun s=>(s.2,s.1.fmod s.2)) (fun s=>s.2.natAbs) (fun s=>Et s.1 s.2=Et i j) (i,j) rfl rfl ?_ ?_ ?_
 · intro s _;simp_arith only[ae]
 · intro s e c;have hc:s.2≠0:=by simpa using c
   refine⟨by rw[gK];exact e,cS hc,_,?_,rfl⟩;simp_arith only[aj,ae]
 · intro s e c;have hc:s.2=0:=by simpa using c
   simp_arith only[ae];rw[hc,IS]at e;refine aQ ?_;have:(if s.1<0 then -s.1 else s.1)=((Et i j:Nat):Int):=by rw[<- e];split<;>omega
   rw[this];exact hQ
noncomputable def aP:List W->(DH->Prop)->Prop:=fun ws Q=>∃(a b:Int),ws=[.d (.int a),.d (.int b)]/\((0<b)/\(b.natAbs<2^8000))/\Q (fr (qd a b))
theorem aP.mono:∀ws (Q Q':DH->Prop),(∀d,Q d->Q' d)->aP ws Q->aP ws Q':=fun _ _ _ h_=>Es fun _=>Es fun _=>D0 (D0 (h_ _))
theorem aP.len:∀ws (Q:DH->Prop),aP ws Q->ws.length=2:=fun _ _ h_=>by obtain⟨_,_,e_,_⟩:=h_;subst e_;rfl
theorem aP.eq(a b:Int)(hb:0<b)(hz:b.natAbs<2^8000):aP [.d (.int a),.d (.int b)]=VL.ret (fr (qd a b):DH):=by
 refine af fun Q=>⟨?_,fun q_=>⟨a,b,rfl,⟨hb,hz⟩,q_⟩⟩;rintro⟨a',b',e_,_,q_⟩;simp_arith only[and_true]at e_;obtain⟨rfl,rfl⟩:=e_;exact q_
theorem iR:FnScope ["top", "bottom", "divisor"] ["top", "bottom"] (defScope (BB 6)):=⟨rfl,rfl,rfl,by decide +kernel,rfl,by decide +kernel,by decide +kernel⟩
theorem d_fraction(Fn:FnIn K mg "fraction" (BB 6) ["top", "bottom"])(Z:Bz mg)(d_common_divisor:∀rl,Dfn P w K mg base rl "common_divisor" ["one", "other"] 1 ax)   : Dfn P w K mg base rl "fraction" ["top", "bottom"] 2 aP:=by
 have sc:=iR
 refine Dfn.of Fn sc (aP.mono) (aP.len) (fun cdv A outer s H E hr=>(ah (dP (bJ (lZ hr.units) fL (bA _) (vn 1) ac) (am nY) cu)
  (ah (aq 2 sc.nd (ar (d_common_divisor _) (hr.mono (by decide)) (aa (vn 0) (aa (vn 1) ab))))
  (ah (dP (bJ oM nZ (bA _) (vn 1) ac) (am (aq 2 sc.nd (xt (vn 2)))) cu)
  (am (aE (eA (aa (v_div (vn 0) (vn 2)) (aa (v_div (vn 1) (vn 2)) ab))))))))) ?_
 rintro ws Q ⟨a,b,rfl,⟨hb,hz⟩,hQ⟩;refine aG ?_;have c1:cU a (Et a b:Int):=gL hb hz _;have c2:cU b (Et a b:Int):=gL hb hz _;have h0:(b==0)=false:=by simp;omega
 have h1:decide (b<0)=false:=by simp;omega
 simp_arith only[aj,ae,ax.eq,h0,h1];rw[jM hb];exact aQ hQ
noncomputable def eQ:List W->(DH->Prop)->Prop:=fun ws Q=>∃(q r:Rat),ws=[.d (fr q),.d (fr r)]/\((BX 2000 q)/\(BX 2000 r))/\Q (fr (q+r))
theorem eQ.mono:∀ws (Q Q':DH->Prop),(∀d,Q d->Q' d)->eQ ws Q->eQ ws Q':=fun _ _ _ h_=>Es fun _=>Es fun _=>D0 (D0 (h_ _))
theorem eQ.len:∀ws (Q:DH->Prop),eQ ws Q->ws.length=2:=fun _ _ h_=>by obtain⟨_,_,e_,_⟩:=h_;subst e_;rfl
theorem eQ.eq(q r:Rat)(h1:BX 2000 q)(h2:BX 2000 r):eQ [.d (fr q),.d (fr r)]=VL.ret (fr (q+r):DH):=by
 refine af fun Q=>⟨?_,fun q_=>⟨q,r,rfl,⟨h1,h2⟩,q_⟩⟩;rintro⟨q',r',e_,_,q_⟩;simp_arith only[fA,bY,bZ,bC,bx,cn]at e_;obtain⟨rfl,rfl⟩:=e_;exact q_
theorem rQ:FnScope ["one", "other"] ["one", "other"] (defScope (BB 7)):=⟨rfl,rfl,rfl,by decide +kernel,rfl,by decide +kernel,by decide +kernel⟩
theorem d_plus(Fn:FnIn K mg "plus" (BB 7) ["one", "other"])(Z:Bz mg)(d_fraction:∀rl,Dfn P w K mg base rl "fraction" ["top", "bottom"] 2 aP)   : Dfn P w K mg base rl "plus" ["one", "other"] 3 eQ:=by
 have sc:=rQ;refine Dfn.of Fn sc (eQ.mono) (eQ.len) (fun cdv A outer s H E hr=>(am (aE (ar (d_fraction _) (hr.mono (by decide)) (aa (v_add (v_mul (bK (vn 0) ac) (bK (vn 1) ac)) (v_mul (bK (vn 1) ac) (bK (vn 0) ac))) (aa (v_mul (bK (vn 0) ac) (bK (vn 1) ac)) ab)))))) ?_;rintro ws Q ⟨q,r,rfl,⟨h1,h2⟩,hQ⟩;refine aG ?_;have m1:aA q.num r.den:=.bb h1.bn h2.bd;have m2:aA r.num q.den:=.bb h2.bn h1.bd;have m3:aA q.den r.den:=.bb h1.bd h2.bd;have m4:aA q.num r.num:=.bb h1.bn h2.bn;have d1:=dE q r;have d2:=cc h1 h2;simp_arith only[aj,ae,aP.eq,DE,vB];exact aQ hQ
noncomputable def c5:List W->(DH->Prop)->Prop:=fun ws Q=>∃(q r:Rat),ws=[.d (fr q),.d (fr r)]/\((BX 2000 q)/\(BX 2000 r))/\Q (fr (q-r))
theorem c5.mono:∀ws (Q Q':DH->Prop),(∀d,Q d->Q' d)->c5 ws Q->c5 ws Q':=fun _ _ _ h_=>Es fun _=>Es fun _=>D0 (D0 (h_ _))
theorem c5.len:∀ws (Q:DH->Prop),c5 ws Q->ws.length=2:=fun _ _ h_=>by obtain⟨_,_,e_,_⟩:=h_;subst e_;rfl
theorem c5.eq(q r:Rat)(h1:BX 2000 q)(h2:BX 2000 r):c5 [.d (fr q),.d (fr r)]=VL.ret (fr (q-r):DH):=by
 refine af fun Q=>⟨?_,fun q_=>⟨q,r,rfl,⟨h1,h2⟩,q_⟩⟩;rintro⟨q',r',e_,_,q_⟩;simp_arith only[fA,bY,bZ,bC,bx,cn]at e_;obtain⟨rfl,rfl⟩:=e_;exact q_
theorem rR:FnScope ["one", "other"] ["one", "other"] (defScope (BB 8)):=⟨rfl,rfl,rfl,by decide +kernel,rfl,by decide +kernel,by decide +kernel⟩
theorem d_less(Fn:FnIn K mg "less" (BB 8) ["one", "other"])(Z:Bz mg)(d_fraction:∀rl,Dfn P w K mg base rl "fraction" ["top", "bottom"] 2 aP)   : Dfn P w K mg base rl "less" ["one", "other"] 3 c5:=by
 have sc:=rR;refine Dfn.of Fn sc (c5.mono) (c5.len) (fun cdv A outer s H E hr=>(am (aE (ar (d_fraction _) (hr.mono (by decide)) (aa (v_sub (v_mul (bK (vn 0) ac) (bK (vn 1) ac)) (v_mul (bK (vn 1) ac) (bK (vn 0) ac))) (aa (v_mul (bK (vn 0) ac) (bK (vn 1) ac)) ab)))))) ?_;rintro ws Q ⟨q,r,rfl,⟨h1,h2⟩,hQ⟩;refine aG ?_;have m1:aA q.num r.den:=.bb h1.bn h2.bd;have m2:aA r.num q.den:=.bb h2.bn h1.bd;have m3:aA q.den r.den:=.bb h1.bd h2.bd;have m4:aA q.num r.num:=.bb h1.bn h2.bn;have d1:=dE q r;have d2:=cc h1 h2;simp_arith only[aj,ae,aP.eq,DE,vz];exact aQ hQ
noncomputable def ci:List W->(DH->Prop)->Prop:=fun ws Q=>∃(q r:Rat),ws=[.d (fr q),.d (fr r)]/\((BX 2000 q)/\(BX 2000 r))/\Q (fr (q*r))
theorem ci.mono:∀ws (Q Q':DH->Prop),(∀d,Q d->Q' d)->ci ws Q->ci ws Q':=fun _ _ _ h_=>Es fun _=>Es fun _=>D0 (D0 (h_ _))
theorem ci.len:∀ws (Q:DH->Prop),ci ws Q->ws.length=2:=fun _ _ h_=>by obtain⟨_,_,e_,_⟩:=h_;subst e_;rfl
theorem ci.eq(q r:Rat)(h1:BX 2000 q)(h2:BX 2000 r):ci [.d (fr q),.d (fr r)]=VL.ret (fr (q*r):DH):=by
 refine af fun Q=>⟨?_,fun q_=>⟨q,r,rfl,⟨h1,h2⟩,q_⟩⟩;rintro⟨q',r',e_,_,q_⟩;simp_arith only[fA,bY,bZ,bC,bx,cn]at e_;obtain⟨rfl,rfl⟩:=e_;exact q_
theorem oC:FnScope ["one", "other"] ["one", "other"] (defScope (BB 9)):=⟨rfl,rfl,rfl,by decide +kernel,rfl,by decide +kernel,by decide +kernel⟩
theorem d_times(Fn:FnIn K mg "times" (BB 9) ["one", "other"])(Z:Bz mg)(d_fraction:∀rl,Dfn P w K mg base rl "fraction" ["top", "bottom"] 2 aP)   : Dfn P w K mg base rl "times" ["one", "other"] 3 ci:=by
 have sc:=oC;refine Dfn.of Fn sc (ci.mono) (ci.len) (fun cdv A outer s H E hr=>(am (aE (ar (d_fraction _) (hr.mono (by decide)) (aa (v_mul (bK (vn 0) ac) (bK (vn 1) ac)) (aa (v_mul (bK (vn 0) ac) (bK (vn 1) ac)) ab)))))) ?_;rintro ws Q ⟨q,r,rfl,⟨h1,h2⟩,hQ⟩;refine aG ?_;have m1:aA q.num r.den:=.bb h1.bn h2.bd;have m2:aA r.num q.den:=.bb h2.bn h1.bd;have m3:aA q.den r.den:=.bb h1.bd h2.bd;have m4:aA q.num r.num:=.bb h1.bn h2.bn;have d1:=dE q r;have d2:=cc h1 h2;simp_arith only[aj,ae,aP.eq,DE,vA];exact aQ hQ
noncomputable def bI:List W->(DH->Prop)->Prop:=fun ws Q=>∃(q r:Rat),ws=[.d (fr q),.d (fr r)]/\((BX 2000 q)/\(BX 2000 r))/\Q (.bool (decide (q<r)))
theorem bI.mono:∀ws (Q Q':DH->Prop),(∀d,Q d->Q' d)->bI ws Q->bI ws Q':=fun _ _ _ h_=>Es fun _=>Es fun _=>D0 (D0 (h_ _))
theorem bI.len:∀ws (Q:DH->Prop),bI ws Q->ws.length=2:=fun _ _ h_=>by obtain⟨_,_,e_,_⟩:=h_;subst e_;rfl
theorem bI.eq(q r:Rat)(h1:BX 2000 q)(h2:BX 2000 r):bI [.d (fr q),.d (fr r)]=VL.ret (.bool (decide (q<r)):DH):=by
 refine af fun Q=>⟨?_,fun q_=>⟨q,r,rfl,⟨h1,h2⟩,q_⟩⟩;rintro⟨q',r',e_,_,q_⟩;simp_arith only[fA,bY,bZ,bC,bx,cn]at e_;obtain⟨rfl,rfl⟩:=e_;exact q_
theorem iQ:FnScope ["one", "other"] ["one", "other"] (defScope (BB 12)):=⟨rfl,rfl,rfl,by decide +kernel,rfl,by decide +kernel,by decide +kernel⟩
theorem d_is_below(Fn:FnIn K mg "is_below" (BB 12) ["one", "other"])(Z:Bz mg)    : Dfn P w K mg base rl "is_below" ["one", "other"] 1 bI:=by
 have sc:=iQ;refine Dfn.of Fn sc (bI.mono) (bI.len) (fun cdv A outer s H E hr=>(am (aE (rh oM nZ (bA _) (v_mul (bK (vn 0) ac) (bK (vn 1) ac)) (v_mul (bK (vn 1) ac) (bK (vn 0) ac)))))) ?_;rintro ws Q ⟨q,r,rfl,⟨h1,h2⟩,hQ⟩;refine aG ?_;have m1:aA q.num r.den:=.bb h1.bn h2.bd;have m2:aA r.num q.den:=.bb h2.bn h1.bd;simp_arith only[aj,ae,DE,yD];exact aQ hQ
noncomputable def bQ:List W->(DH->Prop)->Prop:=fun ws Q=>∃(q r:Rat),ws=[.d (fr q),.d (fr r)]/\((BX 2000 q)/\(BX 2000 r))/\Q (fr (mx q r))
theorem bQ.mono:∀ws (Q Q':DH->Prop),(∀d,Q d->Q' d)->bQ ws Q->bQ ws Q':=fun _ _ _ h_=>Es fun _=>Es fun _=>D0 (D0 (h_ _))
theorem bQ.len:∀ws (Q:DH->Prop),bQ ws Q->ws.length=2:=fun _ _ h_=>by obtain⟨_,_,e_,_⟩:=h_;subst e_;rfl
theorem bQ.eq(q r:Rat)(h1:BX 2000 q)(h2:BX 2000 r):bQ [.d (fr q),.d (fr r)]=VL.ret (fr (mx q r):DH):=by
 refine af fun Q=>⟨?_,fun q_=>⟨q,r,rfl,⟨h1,h2⟩,q_⟩⟩;rintro⟨q',r',e_,_,q_⟩;simp_arith only[fA,bY,bZ,bC,bx,cn]at e_;obtain⟨rfl,rfl⟩:=e_;exact q_
theorem kw:FnScope ["one", "other"] ["one", "other"] (defScope (BB 13)):=⟨rfl,rfl,rfl,by decide +kernel,rfl,by decide +kernel,by decide +kernel⟩
theorem d_greater(Fn:FnIn K mg "greater" (BB 13) ["one", "other"])(Z:Bz mg)(d_is_below:∀rl,Dfn P w K mg base rl "is_below" ["one", "other"] 1 bI)   : Dfn P w K mg base rl "greater" ["one", "other"] 2 bQ:=by
 have sc:=kw;refine Dfn.of Fn sc (bQ.mono) (bQ.len) (fun cdv A outer s H E hr=>(am (aE (rf (pZ (ar (d_is_below _) (hr.mono (by decide)) (aa (vn 0) (aa (vn 1) ab)))) (vn 1) (vn 0))))) ?_;rintro ws Q ⟨q,r,rfl,⟨h1,h2⟩,hQ⟩;refine aG ?_;simp_arith only[aj,ae,bI.eq,DE];unfold mx at hQ;refine aQ ?_;by_cases h:q<r<;>simp[h]at hQ ⊢ <;> exact hQ
noncomputable def aJ:List W->(DH->Prop)->Prop:=fun ws Q=>∃(qs:List Rat),ws=[.d (.list (qs.map fr))]/\((qs.length<=4)/\(∀q∈qs,BX 190 q))/\Q (fr (bv qs))
theorem aJ.mono:∀ws (Q Q':DH->Prop),(∀d,Q d->Q' d)->aJ ws Q->aJ ws Q':=fun _ _ _ h_=>Es fun _=>D0 (D0 (h_ _))
theorem aJ.len:∀ws (Q:DH->Prop),aJ ws Q->ws.length=1:=fun _ _ h_=>by obtain⟨_,e_,_⟩:=h_;subst e_;rfl
theorem aJ.eq(qs:List Rat)(h4:qs.length<=4)(hq:∀q∈qs,BX 190 q):aJ [.d (.list (qs.map fr))]=VL.ret (fr (bv qs):DH):=by
 refine af fun Q=>⟨?_,fun q_=>⟨qs,rfl,⟨h4,hq⟩,q_⟩⟩;rintro⟨qs',e_,_,q_⟩;simp_arith only[fA,bY,bZ,bC,bx,cn]at e_;obtain rfl:=e_;exact q_
theorem gz:FnScope ["some", "product", "one"] ["some"] (defScope (BB 11)):=⟨rfl,rfl,rfl,by decide +kernel,rfl,by decide +kernel,by decide +kernel⟩
theorem d_product_of(Fn:FnIn K mg "product_of" (BB 11) ["some"])(Z:Bz mg)(d_times:∀rl,Dfn P w K mg base rl "times" ["one", "other"] 3 ci)(gl_ONE:GlD K mg "ONE" (pr 1 1))  : Dfn P w K mg base rl "product_of" ["some"] 4 aJ:=by
 have sc:=gz
 refine Dfn.of Fn sc (aJ.mono) (aJ.len) (fun cdv A outer s H E hr=>(ah (aq 1 sc.nd (k5 gl_ONE))
  (ah (bM [2] EE rfl (bW (vn 0)) (ak 2 sc.nd) (am (aq 1 sc.nd (ar (d_times _) (hr.mono (by decide)) (aa (vn 1) (aa (vn 2) ab))))))
  (am (aE (vn 1)))))) ?_
 rintro ws Q ⟨qs,rfl,⟨h4,hq⟩,hQ⟩;refine aG ?_;simp_arith only[aj,ae,ci.eq,DE];refine da (xs:=qs) (fun i ρ=>ρ=[some (.d (.list (qs.map fr))),some (.d (fr ((qs.take i).foldl (· * ·) 1))),none]) rfl rfl ?_ ?_
 · rintro i hi ρ rfl K hK;have hs:=jA (qs.take i) 60 1 AG fun r hr=>hq r (Ic hr);have hl:(qs.take i).length<=4:=by rw[EU];omega
   have s1:BX 2000 ((qs.take i).foldl (· * ·) 1):=hs.mono (by omega);have s2:BX 2000 qs[i]:=(hq _ (Ep hi)).mono (by decide);simp_arith only[aj,ae,ci.eq,DE];refine hK _ (cb ?_);simp_arith only[ae];rw[fZ hi]
 · rintro ρ rfl;simp_arith only[ae];rw[D6 (DQ _)];exact aQ hQ
noncomputable def prodL:List Nat->List (List Nat)
 | []=>[[]]
 | m::ms=>(D8 m).flatMap fun i=>(prodL ms).map (i :: ·)
noncomputable def rG(rows:List (List Nat))(m:Nat):List (List Nat):=rows.flatMap fun r=>(D8 m).map fun i=>r++[i]
theorem fP:∀(ms:List Nat)(rows:List (List Nat)),ms.foldl rG rows=rows.flatMap fun r=>(prodL ms).map (r ++ ·)
 | [],rows=>by
   show rows=rows.flatMap fun r=>[r++[]]
   simp
 | m::ms,rows=>by
   rw[FE,fP ms];unfold rG;rw[List.flatMap_assoc];congr 1;funext r;show _=((D8 m).flatMap fun i=>(prodL ms).map (i :: ·)).map (r ++ ·);rw[List.flatMap_map,List.map_flatMap];congr 1;funext i;rw[Ff];refine ER fun x _=>?_;show(r++[i])++x=r++(i::x);rw[GH];rfl
theorem dL(ms:List Nat):ms.foldl rG [[]]=prodL ms:=by
 rw[fP];show(prodL ms).map ([] ++ ·)++[]=_;simp
theorem b6:∀{ms:List Nat}{pt:List Nat},pt∈prodL ms->pt.length=ms.length/\∀k (h:k<pt.length) (h':k<ms.length),pt[k]<ms[k]
 | [],pt,h=>by cases Er.mp h;exact⟨rfl,fun k h=>absurd h (Gp k)⟩
 | m::ms,pt,h=>by
   obtain⟨i,hi,h⟩:=JN.mp h;obtain⟨x,hx,rfl⟩:=Ev.mp h;obtain⟨a,b⟩:=b6 hx;refine⟨by rw[DX,DX,a],fun k h1 h2=>?_⟩
   cases k with
   | zero=>exact Fg.mp hi
   | succ k=>exact b k (by simpa using h1) (by simpa using h2)
theorem dA:∀ms:List Nat,(prodL ms).length=ms.foldr (· * ·) 1
 | []=>rfl
 | m::ms=>by
   show((D8 m).flatMap fun i=>(prodL ms).map (i :: ·)).length=m*_;rw[<- dA ms]
   induction m with
   | zero=>simp
   | succ m ih=>rw[List.range_succ,KC,D7,ih];simp[Hj]
noncomputable def aK(l:List Int):Int:=l.foldr (· + ·) 0
theorem jS(a b:List Int):aK (a++b)=aK a+aK b:=by
 induction a with
 | nil=>show aK b=0+_;rw[F0]
 | cons x a ih=>show x+aK (a++b)=x+aK a+_;rw[ih,Int.add_assoc]
theorem jR(c:Int)(l:List Int):aK (l.map fun x=>c*x)=c*aK l:=by
 induction l with
 | nil=>show 0=c*0;rw[Int.mul_zero]
 | cons x l ih=>show c*x+aK (l.map _)=c*(x+aK l);rw[ih,Int.mul_add]
theorem o9(f g:α->Int)(l:List α):aK (l.map fun x=>f x+g x)=aK (l.map f)+aK (l.map g):=by
 induction l with
 | nil=>rfl
 | cons x l ih=>show f x+g x+aK (l.map _)=(f x+aK (l.map f))+(g x+aK (l.map g));rw[ih];omega
theorem iq(l:List α):aK (l.map fun _=>(0:Int))=0:=by
 induction l with
 | nil=>rfl
 | cons x l ih=>show 0+aK (l.map _)=0;rw[ih];rfl
theorem eX{β:Type}(f:α->β->Int)(xs:List α)(ys:List β):aK (xs.map fun x=>aK (ys.map fun y=>f x y))=aK (ys.map fun y=>aK (xs.map fun x=>f x y)):=by
 induction xs with
 | nil=>show(0:Int)=aK (ys.map fun _=>0);rw[iq]
 | cons x xs ih =>
   show aK (ys.map fun y=>f x y)+aK (xs.map _)=aK (ys.map fun y=>f x y+aK (xs.map fun x=>f x y));rw[ih,o9]
theorem mO(f:List Nat->Int)(g:α->List (List Nat))(xs:List α):aK ((xs.flatMap g).map f)=aK (xs.map fun x=>aK ((g x).map f)):=by
 induction xs with
 | nil=>rfl
 | cons x xs ih=>rw[FT,E3,jS,ih];rfl
noncomputable def Bj(g:Int->Int)(t:Int)(es:List Int)(i:Nat):Int:=if t<=es.getD i 0 then g (es.getD (i+1) 0)-g (es.getD i 0)else 0
noncomputable def vv(g:Int->Int):List (Int×List Int)->List Nat->Int
 | z::T,i::pt=>Bj g z.1 z.2 i*vv g T pt
 | _,_=>1
noncomputable def pv(g:Int->Int):List (Int×List Int)->Int
 | []=>1
 | z::T=>aK ((D8 (z.2.length-1)).map (Bj g z.1 z.2))*pv g T
theorem p9(g:Int->Int):∀T:List (Int×List Int),aK ((prodL (T.map fun z=>z.2.length-1)).map (vv g T))=pv g T
 | []=>rfl
 | z::T=>by
   show aK (((D8 (z.2.length-1)).flatMap fun i=>(prodL (T.map fun z=>z.2.length-1)).map (i :: ·)).map (vv g (z::T)))=aK _*pv g T;rw[mO,<- p9 g T,HU,<- jR,Ff];congr 1;refine ER fun i _=>?_;show aK (((prodL (T.map fun z=>z.2.length-1)).map (i :: ·)).map (vv g (z::T)))=aK ((prodL _).map (vv g T))*Bj g z.1 z.2 i;rw[Ff,HU,<- jR,Ff];rfl
theorem jx(f:Nat->Int)(n:Nat):aK ((D8 (n+1)).map f)=f 0+aK ((D8 n).map fun i=>f (i+1)):=by
 rw[JS,Ew,Ff];rfl
theorem uL(g:Int->Int)(t:Int):∀(es:List Int)(e:Int),(∀x∈e::es,t<=x)->aK ((D8 es.length).map (Bj g t (e::es)))=g ((e::es).getLastD 0)-g e
 | [],e,_=>by show(0:Int)=g e-g e;omega
 | e2::es,e,h=>by
   rw[DX,jx];have ih:=uL g t es e2 fun x m=>h x (DL _ m);have e1:(fun i=>Bj g t (e::e2::es) (i+1))=Bj g t (e2::es):=rfl;rw[e1,ih];have h0:Bj g t (e::e2::es) 0=g e2-g e:=by unfold Bj;exact if_pos (h e DS)
   rw[h0];show _=g ((e2::es).getLastD 0)-g e;omega
theorem uK(g:Int->Int)(t:Int):∀(es:List Int)(e:Int),(e::es).Pairwise (· < ·)->t∈e::es->aK ((D8 es.length).map (Bj g t (e::es)))=g ((e::es).getLastD 0)-g t
 | es, e, hp, ht=>by
   rcases EO.mp ht with rfl|ht
   · exact uL g t es t fun x m=>by
       rcases EO.mp m with rfl|m
       · exact Jw _
       · exact J5 ((IR.mp hp).1 x m)
   · cases es with
     | nil=>cases ht
     | cons e2 es =>
       obtain⟨p1,p2⟩:=IR.mp hp;rw[DX,jx];have ih:=uK g t es e2 p2 ht;have e1:(fun i=>Bj g t (e::e2::es) (i+1))=Bj g t (e2::es):=rfl;rw[e1,ih]
       have h0:Bj g t (e::e2::es) 0=0:=by
        unfold Bj;refine if_neg ?_;have:=p1 t ht;show ¬t<=e;omega
       rw[h0,F0];rfl
structure EdOk (es:List Int) (B:Int):Prop where
 up:es.Pairwise (· < ·)
 z:(0:Int)∈es
 b:B∈es
 rg:∀x∈es,0<=x/\x<=B
theorem EdOk.last{es:List Int}{B:Int}(h:EdOk es B):es.getLastD 0=B:=by
 have hne:es≠[]:=by intro z;have:=h.z;rw[z]at this;cases this
 have e:es.getLastD 0=es.getLast hne:=by rw[List.getLastD_eq_getLast?,List.getLast?_eq_some_getLast hne];rfl
 have m:=List.getLast_mem hne
 have le:∀x∈es,x<=es.getLast hne:=fun x mx=>by
  have hp:=h.up;rw[<- List.dropLast_concat_getLast hne]at hp mx;rcases EW.mp mx with m1|m1
  · exact J5 ((Kl.mp hp).2.2 x m1 _ (Er.mpr rfl))
  · rw[Er.mp m1];exact Jw _
 have l1:=le B h.b;have l2:=(h.rg _ m).2;rw[e];omega
theorem EdOk.sum{es:List Int}{B:Int}(h:EdOk es B)(g:Int->Int){t:Int}(ht:t∈es):aK ((D8 (es.length-1)).map (Bj g t es))=g B-g t:=by
 have l:=h.last
 cases es with
 | nil=>cases ht
 | cons e es =>
   have:=uK g t es e h.up ht;rw[l]at this;exact this
noncomputable def B5(g:Int->Int)(bs:List Int)(ts:List Int):Int:=((bs.zip ts).map fun z=>g z.1-g z.2).foldr (· * ·) 1
theorem vE(g:Int->Int):∀{E:List (List Int)}{bs ts:List Int},bs.length=E.length->ts.length=E.length->(∀k (h:k<E.length) (h1:k<bs.length) (h2:k<ts.length),EdOk E[k] bs[k]/\ts[k]∈E[k])->pv g (ts.zip E)=B5 g bs ts
 | [],[],[],_,_,_=>rfl
 | es::E,b::bs,t::ts,h1,h2,h=>by
   have ih:=vE g (E:=E) (bs:=bs) (ts:=ts) (by simpa using h1) (by simpa using h2) fun k a b c=>h (k+1) (by simpa using a) (by simpa using b) (by simpa using c);obtain⟨o,m⟩:=h 0 (by simp) (by simp) (by simp);have o:EdOk es b:=o;have m:t∈es:=m;show aK ((D8 (es.length-1)).map (Bj g t es))*pv g (ts.zip E)=(g b-g t)*B5 g bs ts
   rw[ih,o.sum g m]
 | _::_,[],_,h1,_,_=>by cases h1
 | _::_,_::_,[],_,h2,_=>by cases h2
 | [],_::_,_,h1,_,_=>by cases h1
 | [],[],_::_,_,h2,_=>by cases h2
noncomputable def lowE(E:List (List Int))(pt:List Nat):List Int:=(E.zip pt).map fun z=>z.1.getD z.2 0
noncomputable def higE(E:List (List Int))(pt:List Nat):List Int:=(E.zip pt).map fun z=>z.1.getD (z.2+1) 0
noncomputable def B_(r lows:List Int):Bool:=(r.zip lows).all fun z=>decide (z.1<=z.2)
noncomputable def B4(g:Int->Int)(lows highs:List Int):Int:=((lows.zip highs).map fun z=>g z.2-g z.1).foldr (· * ·) 1
theorem t9(g:Int->Int):∀{E:List (List Int)}{pt:List Nat}{r:List Int},pt.length=E.length->r.length=E.length->vv g (r.zip E) pt=if B_ r (lowE E pt)=true then B4 g (lowE E pt) (higE E pt)else 0
 | [],[],[],_,_=>rfl
 | es::E,i::pt,t::r,h1,h2=>by
   have ih:=t9 g (E:=E) (pt:=pt) (r:=r) (by simpa using h1) (by simpa using h2);show Bj g t es i*vv g (r.zip E) pt=if(decide (t<=es.getD i 0)&&B_ r (lowE E pt))=true then(g (es.getD (i+1) 0)-g (es.getD i 0))*B4 g (lowE E pt) (higE E pt)else 0
   rw[ih];unfold Bj;by_cases a:t<=es.getD i 0
   · rw[if_pos a,decide_eq_true a,KR];split
     · rfl
     · rw[Int.mul_zero]
   · rw[if_neg a,decide_eq_false a,Ha,if_neg D9,Int.zero_mul]
 | _::_,[],_,h1,_=>by cases h1
 | _::_,_::_,[],_,h2=>by cases h2
 | [],_::_,_,h1,_=>by cases h1
 | [],[],_::_,_,h2=>by cases h2
noncomputable def Cb(r q:List Int):List Int:=(r.zip q).map fun z=>max z.1 z.2
theorem l7:∀{r q lows:List Int},r.length=lows.length->q.length=lows.length->B_ (Cb r q) lows=(B_ r lows&&B_ q lows)
 | [],[],[],_,_=>rfl
 | t::r,u::q,l::lows,h1,h2=>by
   have ih:=l7 (r:=r) (q:=q) (lows:=lows) (by simpa using h1) (by simpa using h2);show(decide (max t u<=l)&&B_ (Cb r q) lows)=((decide (t<=l)&&B_ r lows)&&(decide (u<=l)&&B_ q lows));rw[ih]
   have e:decide (max t u<=l)=(decide (t<=l)&&decide (u<=l)):=by
    by_cases a:t<=l<;>by_cases b:u<=l<;>simp[a,b]<;>omega
   rw[e]
   cases decide (t<=l)<;>cases decide (u<=l)<;>cases B_ r lows<;>cases B_ q lows<;>rfl
 | _::_,[],_,h1,h2=>by rw[<- h2]at h1;cases h1
 | [],_::_,_,h1,h2=>by rw[<- h2]at h1;cases h1
 | _::_,_::_,[],h1,_=>by cases h1
 | [],[],_::_,h1,_=>by cases h1
noncomputable def i_(rows:List (List Int))(lows:List Int):Int:=((rows.filter fun r=>B_ r lows).length:Int)
theorem gP(rows:List (List Int))(lows:List Int)(c:Int):i_ rows lows*c=aK (rows.map fun r=>if B_ r lows=true then c else 0):=by
 unfold i_
 induction rows with
 | nil=>show((0:Nat):Int)*c=0;simp
 | cons r rows ih =>
   rw[List.filter_cons,Ew];show _=(if B_ r lows=true then c else 0)+aK _;rw[<- ih];by_cases a:B_ r lows=true
   · rw[if_pos a,if_pos a,DX,IE,Int.add_mul];omega
   · rw[if_neg a,if_neg a,F0]
noncomputable def s0(E:List (List Int))(rows:List (List Int))(pt:List Nat):Int:=i_ rows (lowE E pt)*i_ rows (lowE E pt)*B4 (fun x=>x) (lowE E pt) (higE E pt)
noncomputable def s1(E:List (List Int))(rows:List (List Int))(pt:List Nat):Int:=i_ rows (lowE E pt)*B4 (fun x=>x*x) (lowE E pt) (higE E pt)
noncomputable def s2(E:List (List Int))(pt:List Nat):Int:=B4 (fun x=>x^3) (lowE E pt) (higE E pt)
structure SqOk (E:List (List Int)) (bs:List Int) (rows:List (List Int)):Prop where
 bl:bs.length=E.length
 rl:∀r∈rows,r.length=E.length
 ok:∀k (h:k<E.length) (h1:k<bs.length),EdOk E[k] bs[k]
 mem:∀r∈rows,∀k (h:k<E.length) (h1:k<r.length),r[k]∈E[k]
noncomputable def ptsE(E:List (List Int)):List (List Nat):=prodL (E.map fun es=>es.length-1)
theorem cC{pt:List Nat}(h:pt∈ptsE E):(lowE E pt).length=E.length/\pt.length=E.length:=by
 have:=(b6 h).1;rw[DO]at this;unfold lowE;rw[DO,E4,this,K_];exact⟨rfl,rfl⟩
theorem lh(g:Int->Int){bs:List Int}{t:List Int}(bl:bs.length=E.length)(tl:t.length=E.length)(ok:∀k (h:k<E.length) (h1:k<bs.length),EdOk E[k] bs[k])(mem:∀k (h:k<E.length) (h1:k<t.length),t[k]∈E[k]) :
 aK ((ptsE E).map fun pt=>if B_ t (lowE E pt)=true then B4 g (lowE E pt) (higE E pt)else 0)=B5 g bs t:=by
 rw[<- vE g bl tl fun k h h1 h2=>⟨ok k h h1,mem k h h2⟩,<- p9]
 have e:(t.zip E).map (fun z=>z.2.length-1)=E.map fun es=>es.length-1:=by
  have:∀(t:List Int)(E:List (List Int)),t.length=E.length->(t.zip E).map (fun z=>z.2.length-1)=E.map fun es=>es.length-1:=by
   intro t
   induction t with
   | nil=>intro E h;cases E with
     | nil=>rfl
     | cons _ _=>cases h
   | cons x t ih=>intro E h;cases E with
     | nil=>cases h
     | cons es E=>rw[List.zip_cons_cons,Ew,Ew,ih E (by simpa using h)]
  exact this t E tl
 rw[e];congr 1;refine ER fun pt mp=>?_;exact(t9 g (cC mp).2 tl).symm
theorem uS{bs:List Int}(o:SqOk E bs rows):aK ((ptsE E).map (s1 E rows))=aK (rows.map fun r=>B5 (fun x=>x*x) bs r):=by
 have e:∀pt,s1 E rows pt=aK (rows.map fun r=>if B_ r (lowE E pt)=true then B4 (fun x=>x*x) (lowE E pt) (higE E pt)else 0):=fun pt=>gP _ _ _;have e2:s1 E rows=fun pt=>aK (rows.map fun r=>if B_ r (lowE E pt)=true then B4 (fun x=>x*x) (lowE E pt) (higE E pt)else 0):=funext e;rw[e2,eX];congr 1;refine ER fun r mr=>?_;exact lh _ o.bl (o.rl r mr) o.ok (o.mem r mr)
theorem uT{bs:List Int}(o:SqOk E bs rows):aK ((ptsE E).map (s0 E rows))=aK (rows.map fun r=>aK (rows.map fun q=>B5 (fun x=>x) bs (Cb r q))):=by
 have e:∀pt∈ptsE E,s0 E rows pt=aK (rows.map fun r=>aK (rows.map fun q=>if B_ (Cb r q) (lowE E pt)=true then B4 (fun x=>x) (lowE E pt) (higE E pt)else 0)):=fun pt mp=>by
  unfold s0;rw[Ij,gP];congr 1;refine ER fun r mr=>?_;have l:=(cC mp).1;by_cases a:B_ r (lowE E pt)=true
  · rw[if_pos a,gP];congr 1;refine ER fun q mq=>?_;rw[l7 (by rw[o.rl r mr,l]) (by rw[o.rl q mq,l]),a,KR]
  · rw[if_neg a]
    have z:(rows.map fun q=>if B_ (Cb r q) (lowE E pt)=true then B4 (fun x=>x) (lowE E pt) (higE E pt)else 0)=rows.map fun _=>(0:Int):=ER fun q mq=>by
     rw[l7 (by rw[o.rl r mr,l]) (by rw[o.rl q mq,l])];rw[Bool.eq_false_iff.mpr a,Ha,if_neg D9]
    rw[z,iq]
 rw[ER e,eX];congr 1;refine ER fun r mr=>?_;rw[eX];congr 1;refine ER fun q mq=>?_;have hl:(Cb r q).length=E.length:=by unfold Cb;rw[DO,E4,o.rl r mr,o.rl q mq,K_]
 refine lh _ o.bl hl o.ok fun k h h1=>?_;have m1:=o.mem r mr k h (by rw[o.rl r mr];exact h);have m2:=o.mem q mq k h (by rw[o.rl q mq];exact h);have e:(Cb r q)[k]=max (r[k]'(by rw[o.rl r mr];exact h)) (q[k]'(by rw[o.rl q mq];exact h)):=by simp only[Cb,EN,FM]
 rw[e];rcases Int.le_total (r[k]'(by rw[o.rl r mr];exact h)) (q[k]'(by rw[o.rl q mq];exact h))with c|c
 · rw[Int.max_eq_right c];exact m2
 · rw[Int.max_eq_left c];exact m1
noncomputable def prB(bs:List Int):Int:=bs.foldr (· * ·) 1
theorem uR{bs:List Int}(o:SqOk E bs rows):aK ((ptsE E).map (s2 E))=prB bs^3:=by
 have tl:(E.map fun _=>(0:Int)).length=E.length:=DO _;have key:=lh (fun x=>x^3) (t:=E.map fun _=>(0:Int)) o.bl tl o.ok fun k h h1=>by rw[EN];exact(o.ok k h (by rw[o.bl];exact h)).z
 have nn:∀pt∈ptsE E,B_ (E.map fun _=>(0:Int)) (lowE E pt)=true:=fun pt mp=>by
  unfold B_;rw[Gb];intro z mz;obtain⟨k,hk,e⟩:=GA.mp mz;rw[FM]at e;rw[E4,DO]at hk;have kE:k<E.length:=by omega
  have pl:=(cC mp).2;have lz:(lowE E pt)[k]'(by omega)=(E[k]).getD (pt[k]'(by omega)) 0:=by unfold lowE;rw[EN,FM]
  rw[<- e,decide_eq_true_eq];show(E.map fun _=>(0:Int))[k]<=(lowE E pt)[k];rw[EN,lz];have hb:=(b6 mp).2 k (by omega) (by rw[DO];exact kE);rw[EN]at hb;rw[D1,DP (by omega)];exact((o.ok k kE (by rw[o.bl];exact kE)).rg _ (Ep _)).1
 have e2:(ptsE E).map (s2 E)=(ptsE E).map fun pt=>if B_ (E.map fun _=>(0:Int)) (lowE E pt)=true then B4 (fun x=>x^3) (lowE E pt) (higE E pt)else 0:=ER fun pt mp=>by rw[if_pos (nn pt mp)];rfl
 rw[e2,key]
 have:∀(bs:List Int)(E:List (List Int)),bs.length=E.length->B5 (fun x=>x^3) bs (E.map fun _=>(0:Int))=prB bs^3:=by
  intro bs
  induction bs with
  | nil=>intro E h;rfl
  | cons b bs ih =>
    intro E h
    cases E with
    | nil=>cases h
    | cons es E =>
      show(b^3-0^3)*B5 (fun x=>x^3) bs (E.map fun _=>(0:Int))=(b*prB bs)^3;rw[ih E (by simpa using h)]
      grind
 exact this bs E o.bl
theorem iU:∀(qs:List Rat)(a:Rat),qs.foldl (· * ·) a=a*bv qs
 | [],a=>by unfold bv;rw[HK,HK,KE]
 | q::qs,a=>by
   unfold bv;rw[FE,FE,iU qs,iU qs]
   grind
theorem eJ(q:Rat)(qs:List Rat):bv (q::qs)=q*bv qs:=by
 show qs.foldl (· * ·) (1*q)=_;rw[iU,JD]
noncomputable def roomQ(p:List Rat):Rat:=bv (p.map fun x=>1-x*x)
noncomputable def roomB(p q:List Rat):Rat:=bv ((p.zip q).map fun z=>1-mx z.1 z.2)
noncomputable def aL(bs:List Int)(p:List Rat):List Int:=(p.zip bs).map fun z=>z.1.num*(z.2 / (z.1.den:Int))
noncomputable def tS(bs:List Int)(p:List Rat):Prop:=p.length=bs.length/\∀z∈p.zip bs,(z.1.den:Int)∣z.2/\0<z.2
theorem tS.tail{b:Int}{bs:List Int}{x:Rat}(h:tS (b::bs) (x::p)):tS bs p/\((x.den:Int)∣b/\0<b) :=
 ⟨⟨by simpa using h.1,fun z m=>h.2 z (DL _ m)⟩,h.2 (x,b) DS⟩
theorem tx{x:Rat}{b:Int}(hb:0<b)(hd:(x.den:Int)∣b):((x.num*(b / (x.den:Int)):Int):Rat)=x*(b:Rat):=by
 have e:=jy hb hd;have h1:=bU hb;unfold qd at e;generalize ((x.num*(b / (x.den:Int)):Int):Rat)=t at *;generalize (b:Rat)=c at *;rw[<- e]
 grind
theorem ju:∀{p:List Rat}{bs:List Int},tS bs p->roomQ p*((prB bs:Int):Rat)*((prB bs:Int):Rat)=((B5 (fun x=>x*x) bs (aL bs p):Int):Rat)
 | [],[],_=>by show bv []*((1:Int):Rat)*((1:Int):Rat)=((1:Int):Rat);rw[show bv []=1 from rfl,show((1:Int):Rat)=1 from rfl,KE,KE]
 | x::p,b::bs,h=>by
   obtain⟨h2,hd,hb⟩:=h.tail;have ih:=ju h2;have t:=tx hb hd;show bv ((1-x*x)::p.map fun x=>1-x*x)*((b*prB bs:Int):Rat)*((b*prB bs:Int):Rat)=(((b*b-(x.num*(b / (x.den:Int)))*(x.num*(b / (x.den:Int))))*B5 (fun x=>x*x) bs (aL bs p):Int):Rat);rw[eJ,Fd,Fd,IA,Fd,Fd,t,<- ih];show(1-x*x)*roomQ p*_*_=_;generalize roomQ p=r;generalize (b:Rat)=c;generalize ((prB bs:Int):Rat)=w
   grind
 | [],_::_,h=>by have:=h.1;cases this
 | _::_,[],h=>by have:=h.1;cases this
theorem vX{x y:Rat}{b:Int}(hb:0<b)(hx:(x.den:Int)∣b)(hy:(y.den:Int)∣b):((max (x.num*(b / (x.den:Int))) (y.num*(b / (y.den:Int))):Int):Rat)=mx x y*(b:Rat):=by
 have e1:=tx hb hx;have e2:=tx hb hy;have b0:(0:Rat)<(b:Rat):=by exact_mod_cast hb
 generalize x.num*(b / (x.den:Int))=t at *;generalize y.num*(b / (y.den:Int))=u at *;unfold mx;by_cases c:x<y
 · rw[if_pos c];have:(t:Rat)<(u:Rat):=by rw[e1,e2];exact Rat.mul_lt_mul_of_pos_right c b0
   have:t<u:=by exact_mod_cast this
   rw[Int.max_eq_right (by omega),e2]
 · rw[if_neg c];have c:=Rat.not_lt.mp c;have:(u:Rat)<=(t:Rat):=by rw[e1,e2];exact Rat.mul_le_mul_of_nonneg_right c (Rat.le_of_lt b0)
   have:u<=t:=by exact_mod_cast this
   rw[Int.max_eq_left this,e1]
theorem hV:∀{p q:List Rat}{bs:List Int},tS bs p->tS bs q->roomB p q*((prB bs:Int):Rat)=((B5 (fun x=>x) bs (Cb (aL bs p) (aL bs q)):Int):Rat)
 | [],[],[],_,_=>by show bv []*((1:Int):Rat)=((1:Int):Rat);rw[show bv []=1 from rfl,show((1:Int):Rat)=1 from rfl,KE]
 | x::p,y::q,b::bs,h,g=>by
   obtain⟨h2,hd,hb⟩:=h.tail;obtain⟨g2,gd,_⟩:=g.tail;have ih:=hV h2 g2;have t:=vX hb hd gd;show bv ((1-mx x y)::(p.zip q).map fun z=>1-mx z.1 z.2)*((b*prB bs:Int):Rat)=(((b-max (x.num*(b / (x.den:Int))) (y.num*(b / (y.den:Int))))*B5 (fun x=>x) bs (Cb (aL bs p) (aL bs q)):Int):Rat);rw[eJ,Fd,Fd,IA,t,<- ih];show(1-mx x y)*roomB p q*_=_;generalize roomB p q=r;generalize (b:Rat)=c;generalize ((prB bs:Int):Rat)=w;generalize mx x y=m
   grind
 | [],_::_,[],_,g=>by have:=g.1;cases this
 | _::_,[],[],h,_=>by have:=h.1;cases this
 | [],_,_::_,h,_=>by have:=h.1;cases this
 | _::_,[],_::_,_,g=>by have:=g.1;cases this
 | _::_,_::_,[],h,_=>by have:=h.1;cases this
theorem dW{α:Type}(f:α->Rat)(g:α->Int)(c:Rat):∀xs:List α,(∀x∈xs,f x*c=((g x:Int):Rat))->cw (xs.map f)*c=((aK (xs.map g):Int):Rat)
 | [],_=>by show cw []*c=((0:Int):Rat);rw[show cw []=0 from rfl,Rat.zero_mul];rfl
 | x::xs,h=>by
   have ih:=dW f g c xs fun y m=>h y (DL _ m);have e:=h x DS;show cw (f x::xs.map f)*c=((g x+aK (xs.map g):Int):Rat);rw[bX,J9,<- ih,<- e,Rat.add_mul]
theorem jq:∀a b:List Rat,cw (a++b)=cw a+cw b
 | [],b=>by show cw b=0+cw b;rw[Rat.zero_add]
 | x::a,b=>by rw[JH,bX,bX,jq a b,Rat.add_assoc]
theorem gY{α:Type}(g:α->List Rat):∀xs:List α,cw (xs.flatMap g)=cw (xs.map fun x=>cw (g x))
 | []=>rfl
 | x::xs=>by rw[FT,jq,Ew,bX,gY g xs]
noncomputable def BO(s:Nat)(ps:List (List Rat)):Rat :=
 bv (DT s (qd 1 3))-bv (DT s (qd 1 2))*qd 2 (ps.length:Int)*cw (ps.map roomQ)+qd 1 ((ps.length:Int)*ps.length)*cw (ps.flatMap fun p=>ps.map fun q=>roomB p q)
theorem gC(c:Int)(hc:0<c):∀s:Nat,((c:Int):Rat)^s*bv (DT s (qd 1 c))=1
 | 0=>by rw[La,JD];rfl
 | s+1=>by
   have ih:=gC c hc s;have h1:=bU hc;rw[EK,eJ,HV]
   have e:((c:Int):Rat)*qd 1 c=1:=by
    unfold qd;generalize ((c:Int):Rat)=y at *;have:((1:Int):Rat)=1:=rfl;rw[this]
    grind
   generalize ((c:Int):Rat)=y at *;generalize bv (DT s (qd 1 c))=r at *;generalize qd 1 c=z at *;have:y^s*y*(z*r)=(y^s*r)*(y*z):=by grind
   rw[this,ih,e,JD]
theorem AX(P A N t h W u t' h' M':Rat)(hN:N*u=2)(ht:t*t'=1)(hh:h*h'=1)(hM:N*N*M'=1):P*W*t*h*(W*W)-2*(A*W*W)*N*h*W+(W*W*W)*N*N*t=(h'-t'*u*A+M'*P)*(N*N*t*h*(W*W*W)):=by
 have e1:h'*(N*N*t*h*(W*W*W))=(h*h')*(N*N*t*(W*W*W)):=by grind
 have e2:t'*u*A*(N*N*t*h*(W*W*W))=(t*t')*(N*u)*(A*N*h*(W*W*W)):=by grind
 have e3:M'*P*(N*N*t*h*(W*W*W))=(N*N*M')*(P*t*h*(W*W*W)):=by grind
 have e4:(h'-t'*u*A+M'*P)*(N*N*t*h*(W*W*W))=h'*(N*N*t*h*(W*W*W))-t'*u*A*(N*N*t*h*(W*W*W))+M'*P*(N*N*t*h*(W*W*W)):=by grind
 rw[e4,e1,e2,e3,hN,ht,hh,hM]
 grind
noncomputable def wW(s:Nat)(N W S0 S1 S2:Int):Int:=S0*2^s*3^s*W^2-2*S1*N*3^s*W+S2*N*N*2^s
noncomputable def tO(s:Nat)(N W:Int):Int:=N*N*2^s*3^s*W^3
theorem gE:∀{bs:List Int},(∀b∈bs,0<b)->0<prB bs
 | [],_=>by show(0:Int)<1;decide
 | b::bs,h=>Gc (h b DS) (gE fun x m=>h x (DL _ m))
theorem xS{bs:List Int}(s:Nat)(o:SqOk E bs (ps.map (aL bs)))(hb:∀b∈bs,0<b)(hp:∀p∈ps,tS bs p)(h1:1<=ps.length) :
 qd (wW s ps.length (prB bs) (aK ((ptsE E).map (s0 E (ps.map (aL bs))))) (aK ((ptsE E).map (s1 E (ps.map (aL bs))))) (aK ((ptsE E).map (s2 E)))) (tO s ps.length (prB bs))=BO s ps:=by
 have e0:=uT o;have e1:=uS o;have e2:=uR o;rw[Ff]at e0 e1;have W0:=gE hb;have c1:cw (ps.map roomQ)*(((prB bs:Int):Rat)*((prB bs:Int):Rat))=((aK (ps.map ((fun r=>B5 (fun x=>x*x) bs r) ∘ aL bs)):Int):Rat):=dW roomQ _ _ ps fun p mp=>by rw[<- Rat.mul_assoc];exact ju (hp p mp)
 have c0:cw (ps.flatMap fun p=>ps.map fun q=>roomB p q)*((prB bs:Int):Rat)=((aK (ps.map ((fun r=>aK ((ps.map (aL bs)).map fun q=>B5 (fun x=>x) bs (Cb r q))) ∘ aL bs)):Int):Rat):=by
  rw[gY];refine dW (fun p=>cw (ps.map fun q=>roomB p q)) _ _ ps fun p mp=>?_;show cw (ps.map fun q=>roomB p q)*_=((aK ((ps.map (aL bs)).map fun q=>B5 (fun x=>x) bs (Cb (aL bs p) q)):Int):Rat);rw[Ff];exact dW (fun q=>roomB p q) _ _ ps fun q mq=>hV (hp p mp) (hp q mq)
 have N0:(0:Int)<(ps.length:Int):=by omega
 have p2:=gC 2 (by decide) s;have p3:=gC 3 (by decide) s;have n1:=bU N0;have w1:=bU W0
 have B0:0<tO s ps.length (prB bs):=by
  unfold tO;exact Gc (Gc (Gc (Gc N0 N0) (Iw (by decide))) (Iw (by decide))) (Iw W0)
 have b1:=bU B0
 have key:((wW s ps.length (prB bs) (aK ((ptsE E).map (s0 E (ps.map (aL bs))))) (aK ((ptsE E).map (s1 E (ps.map (aL bs))))) (aK ((ptsE E).map (s2 E))):Int):Rat)=BO s ps*((tO s ps.length (prB bs):Int):Rat):=by
  rw[e0,e1,e2];unfold wW tO BO
  have q1:((ps.length:Int):Rat)*qd 2 (ps.length:Int)=2:=by
   unfold qd;have:((2:Int):Rat)=2:=rfl;rw[this];generalize ((ps.length:Int):Rat)=y at *
   grind
  have q2:((ps.length:Int):Rat)*((ps.length:Int):Rat)*qd 1 ((ps.length:Int)*ps.length)=1:=by
   unfold qd;have:((1:Int):Rat)=1:=rfl;rw[this,Fd]
   have n2:((ps.length:Int):Rat)*((ps.length:Int):Rat)≠0:=by
    intro z;rcases Rat.mul_eq_zero.mp z with z|z<;>exact n1 z
   generalize ((ps.length:Int):Rat)*((ps.length:Int):Rat)=y at *
   grind
  have a:=AX (cw (ps.flatMap fun p=>ps.map fun q=>roomB p q)) (cw (ps.map roomQ)) ((ps.length:Int):Rat) (((2:Int):Rat)^s) (((3:Int):Rat)^s) ((prB bs:Int):Rat) (qd 2 (ps.length:Int)) _ _ _ q1 p2 p3 q2;simp only[J9,IA,Fd,Rat.intCast_pow];rw[<- c0,<- c1];have t2:((2:Int):Rat)=2:=rfl;have t3:((3:Int):Rat)=3:=rfl;rw[t2,t3]at a ⊢;generalize ((prB bs:Int):Rat)=w at *;generalize ((ps.length:Int):Rat)=n at *;generalize cw (ps.map roomQ)=x at *;generalize cw (ps.flatMap fun p=>ps.map fun q=>roomB p q)=y at *;generalize bv (DT s (qd 1 3))=g3 at *;generalize bv (DT s (qd 1 2))=g2 at *;generalize qd 2 (ps.length:Int)=u at *;generalize qd 1 ((ps.length:Int)*(ps.length:Int))=m at *;have w3:w^3=w*w*w:=by rw[HV,HV,HV,La,JD]
  have w2:w^2=w*w:=by rw[HV,HV,La,JD]
  rw[w3,w2,<- a,<- Rat.mul_assoc x w w]
 unfold qd;rw[key];generalize ((tO s ps.length (prB bs):Int):Rat)=z at *;generalize BO s ps=y
 grind
noncomputable def KB:Int:=38796120
theorem pW:KB<2^26:=by decide
theorem Dl:KB^8<2^209:=by decide
noncomputable def Dq(q:Rat):Prop:=(q.den:Int)∣KB/\0<=q.num/\q.num<q.den
theorem Dq.dl(h:Dq q):(q.den:Int)<=KB:=G_ (by decide) h.1
theorem Dq.sm(h:Dq q):BX 26 q:=by
 have:=h.dl;have:=pW;obtain⟨_,a,b⟩:=h;exact⟨by omega,by omega⟩
noncomputable def sdN(ps:List (List Rat)):Nat:=(ps.headD []).length
theorem mX(h:1<=ps.length):L2.atI ps 0=some (ps.headD []):=by
 cases ps with
 | nil=>exact absurd h (by decide)
 | cons p ps=>exact at0 _ _
noncomputable def CI(q:Rat):Prop:=(q.den:Int)∣KB^8/\q.num.natAbs<2^400
theorem CI.dl(h:CI q):(q.den:Int)<2^209:=IT (G_ (by decide) h.1) Dl
theorem jQ{B d K:Int}(hB:0<B)(hd:0<d)(h1:B∣K)(h2:d∣K):0<B*(d / (Et B d:Int))/\B*(d / (Et B d:Int))∣K/\B∣B*(d / (Et B d:Int))/\d∣B*(d / (Et B d:Int)):=by
 obtain⟨b,rfl⟩:=EF (show 0<=B by omega);obtain⟨c,rfl⟩:=EF (show 0<=d by omega)
 have e:(b:Int)*((c:Int) / (Et (b:Int) (c:Int):Int))=(Nat.lcm b c:Nat):=by
  show(b:Int)*((c:Int) / ((Nat.gcd b c:Nat):Int))=_;rw[<- Int.natCast_ediv,<- Iy];congr 1;unfold Nat.lcm;exact(Nat.mul_div_assoc b (Nat.gcd_dvd_right b c)).symm
 rw[e];refine⟨?_,?_,?_,?_⟩
 · have:=Nat.lcm_pos (m:=b) (n:=c) (by omega) (by omega);omega
 · exact Gx.mp (Nat.lcm_dvd (Gx.mpr h1) (Gx.mpr h2))
 · exact JE.mpr (Nat.dvd_lcm_left b c)
 · exact JE.mpr (Nat.dvd_lcm_right b c)
structure LcmD (qs:List Rat) (B:Int):Prop where
 p:0<B
 dv:B∣KB^8
 d:∀q∈qs,(q.den:Int)∣B
theorem LcmD.nil:LcmD [] 1:=⟨by decide,Int.one_dvd _,by simp⟩
theorem LcmD.lt{qs:List Rat}{B:Int}(h:LcmD qs B):B<2^209:=IT (G_ (by decide) h.dv) Dl
theorem LcmD.step{qs:List Rat}{B:Int}(h:LcmD qs B)(hq:CI q):LcmD (qs++[q]) (B*((q.den:Int) / (Et B q.den:Int))):=by
 obtain⟨a,b,c,d⟩:=jQ h.p (fI q) h.dv hq.1;refine⟨a,b,fun r mr=>?_⟩;rcases EW.mp mr with m|m
 · exact Ik (h.d r m) c
 · cases Er.mp m;exact d
theorem wG{a K:Int}(hK:0<K):((qd a K).den:Int)∣K:=by
 have e:=jz (a:=a) hK;have cp:=(qd a K).reduced;have d:((qd a K).den:Int)∣(qd a K).num*K:=⟨a,by rw[e,HU]⟩;have d2:(qd a K).den∣(qd a K).num.natAbs*K.natAbs:=by rw[<- Fj];exact Gx.mpr d
 exact Gx.mp (Lr.dvd_of_dvd_mul_left cp.symm d2)
noncomputable def Dv(K:Int)(q:Rat):Prop:=0<K/\(q.den:Int)∣K
theorem Dv.ex{K:Int}(h:Dv K q):∃a,q=qd a K:=⟨_,(jy h.1 h.2).symm⟩
theorem Dv.of{K a:Int}(h:0<K):Dv K (qd a K):=⟨h,wG h⟩
theorem rY{a b c d:Int}(hb:0<b)(hd:0<d):qd a b*qd c d=qd (a*c) (b*d):=by
 unfold qd;rw[Fd,Fd];have h1:=bU hb;have h2:=bU hd;have h3:((b:Int):Rat)*((d:Int):Rat)≠0:=fun z=>by rcases Rat.mul_eq_zero.mp z with z|z;exact h1 z;exact h2 z
 generalize (a:Rat)=x;generalize (b:Rat)=y at *;generalize (c:Rat)=z;generalize (d:Rat)=w at *
 grind
theorem Dv.mul{K M:Int}{r:Rat}(h:Dv K q)(g:Dv M r):Dv (K*M) (q*r):=by
 obtain⟨a,rfl⟩:=h.ex;obtain⟨b,rfl⟩:=g.ex;rw[rY h.1 g.1];exact .of (Gc h.1 g.1)
theorem xY{K:Int}(h:0<K):qd K K=1:=by
 unfold qd;have h1:=bU h;generalize (K:Rat)=x at *
 grind
theorem Dv.one_sub{K:Int}(h:Dv K q):Dv K (1-q):=by
 obtain⟨a,rfl⟩:=h.ex;rw[<- xY h.1,rX _ _ h.1];exact .of h.1
theorem iS{K:Int}(hK:0<K):∀{qs:List Rat},(∀q∈qs,Dv K q)->Dv (K^qs.length) (bv qs)
 | [],_=>by
   show Dv (K^0) 1;rw[GM]
   exact⟨by decide,Int.dvd_refl 1⟩
 | q::qs,h=>by
   rw[eJ,DX,Fa,HU];exact(h q DS).mul (iS hK fun r m=>h r (DL _ m))
theorem BY:BX 1 1:=⟨by decide,by decide⟩
theorem dY(n:Nat):∀{qs:List Rat},(∀q∈qs,BX n q)->BX (1+n*qs.length) (bv qs)
 | [],_=>by
   show BX (1+n*0) 1
   exact BY.mono (by omega)
 | q::qs,h=>by
   rw[eJ,DX,show 1+n*(qs.length+1)=n+(1+n*qs.length) by rw[Ky];omega];exact cO (h q DS) (dY n fun r m=>h r (DL _ m))
theorem Dq.dv{x:Rat}(h:Dq x):Dv KB x:=⟨by decide,h.1⟩
theorem Dq.room{x:Rat}(h:Dq x):BX 60 (1-x*x):=(jr BY (cO h.sm h.sm)).mono (by decide)
theorem sQ{x y:Rat}(h:Dq x)(g:Dq y):Dq (mx x y):=by unfold mx;split;exact g;exact h
theorem Dq.roomB{x y:Rat}(h:Dq x)(g:Dq y):BX 60 (1-mx x y):=(jr BY (sQ h g).sm).mono (by decide)
theorem wS(h:n<=8):KB^n∣KB^8:=⟨KB^(8-n),by rw[<- Int.pow_add];congr 1;omega⟩
theorem jv(h4:p.length<=4)(hp:∀q∈p,Dq q):CI (roomQ p):=by
 unfold roomQ
 have d:=iS (K:=KB*KB) (qs:=p.map fun x=>1-x*x) (by decide) fun q mq=>by
  obtain⟨x,mx,rfl⟩:=Ev.mp mq;exact((hp x mx).dv.mul (hp x mx).dv).one_sub
 have s:=dY 60 (qs:=p.map fun x=>1-x*x) fun q mq=>by
  obtain⟨x,mx,rfl⟩:=Ev.mp mq;exact(hp x mx).room
 rw[DO]at d s;refine⟨Ik d.2 ?_,(s.mono (m:=400) (by omega)).1⟩;rw[show KB*KB=KB^2 by rw[Fa,Fa,GM,IF],<- Int.pow_mul];exact wS (by omega)
theorem jw{q:List Rat}(h4:p.length<=4)(hp:∀x∈p,Dq x)(hq:∀x∈q,Dq x):CI (roomB p q):=by
 unfold roomB;have ln:((p.zip q).map fun z=>1-mx z.1 z.2).length<=4:=by rw[DO,E4];omega
 have d:=iS (K:=KB) (qs:=(p.zip q).map fun z=>1-mx z.1 z.2) (by decide) fun x mq=>by
  obtain⟨z,mz,rfl⟩:=Ev.mp mq;exact(sQ (hp _ (E2 mz).1) (hq _ (E2 mz).2)).dv.one_sub
 have s:=dY 60 (qs:=(p.zip q).map fun z=>1-mx z.1 z.2) fun x mq=>by
  obtain⟨z,mz,rfl⟩:=Ev.mp mq;exact(hp _ (E2 mz).1).roomB (hq _ (E2 mz).2)
 refine⟨Ik d.2 (wS (by omega)),(s.mono (m:=400) (by omega)).1⟩
theorem qv{β:Type}{c:Prop}[Decidable c]{x:α}{k:α->Mo β}{Q:β->Prop}(h:c)(z:k x Q):aw (if c then some x else none) k Q:=by rw[if_pos h];exact z
structure Pq (ps:List (List Rat)):Prop where
 lo:1<=ps.length
 hi:ps.length<=16
 s1:1<=sdN ps
 s4:sdN ps<=4
 len:∀p∈ps,p.length=sdN ps
 dq:∀p∈ps,∀q∈p,Dq q
 m:(ps.length+1)^sdN ps<=1000
theorem nh{g:Int}(hg:0<g):Fb [.int 1,.int g]=fr (qd 1 g):=by
 rw[<- jM hg];have e:(Et 1 g:Int)=1:=by rw[Int.one_gcd];rfl
 rw[e];simp
theorem AH:Fb [.int 1,.int 3]=fr (qd 1 3):=nh (by decide)
theorem AI:Fb [.int 1,.int 2]=fr (qd 1 2):=nh (by decide)
theorem qj(n:Nat)(x:α):(DT n [x]).flatten=DT n x:=by
 induction n with
 | zero=>rfl
 | succ n ih=>rw[EK,EK,Gn,ih];rfl
theorem xH(h:CI q):∃a:Int,q=qd a (KB^8)/\a.natAbs<=2^609:=by
 have k0:(0:Int)<KB^8:=by decide
 refine⟨_,(jy k0 h.1).symm,?_⟩;rw[Fj];have d0:=fI q;have e0:0<=KB^8 / (q.den:Int):=IG (by omega) (by omega);have e1:KB^8 / (q.den:Int)<=KB^8:=H0 _ (by omega);have e2:=Dl;have a1:(KB^8 / (q.den:Int)).natAbs<=2^209:=by omega
 have a2:q.num.natAbs<=2^400:=JW h.2;have:=FA a2 a1;rw[<- Iz]at this;exact this
theorem p_:∀{qs:List Rat},(∀q∈qs,CI q)->∃a:Int,cw qs=qd a (KB^8)/\a.natAbs<=qs.length*2^609
 | [],_=>⟨0,(zS (by decide)).symm,by simp⟩
 | q::qs,h=>by
   obtain⟨a,e1,e2⟩:=xH (h q DS);obtain⟨b,f1,f2⟩:=p_ fun r m=>h r (DL _ m);refine⟨a+b,by rw[bX,e1,f1,lJ _ _ (by decide)],?_⟩;have:=Jj a b;rw[DX,Hj,Lv];generalize 2^609=c at *;generalize qs.length*c=d at *;omega
theorem cW{qs:List Rat}(h:∀q∈qs,CI q)(hl:qs.length<=256):BX 700 (cw qs):=by
 obtain⟨a,e1,e2⟩:=p_ h;rw[e1];refine ie (by decide) (FG (EC e2 (Ie _ hl)) ?_) (by decide +kernel);rw[show 256=2^8 from rfl,<- Iz];exact Km (by decide) (by decide)
theorem hW{c:Int}(hc:0<c)(h9:c.natAbs<2^20){s:Nat}(h:s<=4):BX 90 (bv (DT s (qd 1 c))):=by
 have:=dY 20 (qs:=DT s (qd 1 c)) fun q m=>by rw[Hs m];exact ie hc (by decide) h9
 rw[G1]at this;exact this.mono (by omega)
noncomputable def il(ps:List (List Rat))(j:Nat):List (List Rat):=ps.take j++ps.drop (j+1)
theorem lV(h:j<ps.length):(il ps j).length+1=ps.length:=by
 unfold il;rw[D7,EU,GQ];omega
theorem iX(m:p∈il ps j):p∈ps:=by
 unfold il at m;rcases EW.mp m with m|m
 · exact Ic m
 · exact List.mem_of_mem_drop m
theorem jH(hp:Pq ps)(h2:2<=ps.length)(h:j<ps.length):sdN (il ps j)=sdN ps:=by
 have l:=lV h
 have:(il ps j).headD []∈il ps j:=by
  cases e:il ps j with
  | nil=>rw[e]at l;simp at l;omega
  | cons x xs=>exact DS
 exact hp.len _ (iX this)
theorem qu(hp:Pq ps)(h2:2<=ps.length)(h:j<ps.length):Pq (il ps j):=by
 have l:=lV h;have e:=jH hp h2 h;have h16:=hp.hi;refine⟨by omega,by omega,by rw[e];exact hp.s1,by rw[e];exact hp.s4,fun p m=>by rw[e];exact hp.len p (iX m),fun p m=>hp.dq p (iX m),?_⟩;rw[e];exact EC (KF (by omega) _) hp.m
theorem eG{d:Nat}{k:Int}(h:0<=k):HT.sIx n d (some k)=min k.toNat n:=by
 obtain⟨m,rfl⟩:=EF h;exact HT.sIx_nat n d m
theorem jY{k:Int}(h:0<=k):VL.cutD xs (some k) none=xs.drop k.toNat:=by
 unfold VL.cutD;rw[eG h,HT.sIx_none];by_cases hk:k.toNat<=xs.length
 · rw[G4 hk];exact D6 (by simp)
 · rw[Hh (by omega),GR,HC (by omega)];simp
theorem qG{k:Int}(h:0<=k):VL.cutD xs none (some k)=xs.take k.toNat:=by
 unfold VL.cutD;rw[eG h,HT.sIx_none,Ko,IQ];by_cases hk:k.toNat<=xs.length
 · rw[G4 hk]
 · rw[Hh (by omega),D6 (DQ _),D6 (by omega)]
theorem nB{ps:List α}(f:α->DH):VL.cutD (ps.map f) none (some (j:Int))=(ps.take j).map f/\VL.cutD (ps.map f) (some ((j:Int)+1)) none=(ps.drop (j+1)).map f:=by
 rw[qG (by omega),jY (by omega),<- List.map_take,<- List.map_drop];exact⟨by congr 2,by congr 2⟩
theorem cc{a b:Int}(h0:0<=a)(h1:a<b)(h:b∣KB):Dq (qd a b):=by
 have b0:0<b:=by omega
 have e:=jz (a:=a) b0;have d0:=fI (qd a b);refine⟨Ik (wG b0) h,?_,?_⟩
 · rcases Int.lt_or_le (qd a b).num 0 with c|c
   · have:=Int.mul_neg_of_neg_of_pos c b0;rw[e]at this;have:=Jb h0 (show 0<=((qd a b).den:Int) by omega);omega
   · exact c
 · have:(qd a b).num*b<(qd a b).den*b:=by
     rw[e,HU ((qd a b).den:Int)];exact IH h1 d0
   exact Int.lt_of_mul_lt_mul_right this (by omega)
theorem AU:Fb [.int 0,.int 1]=fr 0:=rfl
theorem Cw:Dq 0:=⟨by decide,by decide,by decide⟩
noncomputable def DA(ps:List (List Rat))(j:Nat)(B:Int):Prop:=0<B/\B∣KB/\∀p∈ps,((p.getD j 0).den:Int)∣B
noncomputable def B1(pt:List Nat):DH:=.tuple (pt.map fun i:Nat=>D5 (i:Int))
theorem AJ{a b:List Nat}:(a.map fun m:Nat=>D5 (m:Int))=(b.map fun m:Nat=>D5 (m:Int))↔a=b:=by
 refine bu fun x y=>?_;rw[HZ];omega
theorem kz(ms:List Nat)(m:Nat):prodL (ms++[m])=(prodL ms).flatMap fun r=>(D8 m).map fun k=>r++[k]:=by
 rw[<- dL,List.foldl_append,dL];rfl
theorem lc{ms:List Nat}(h1:∀m∈ms,1<=m)(hM:ms.foldr (· * ·) 1<=1000)(hi:i<ms.length):(ms.take i).foldr (· * ·) 1*ms[i]<=1000:=by
 have key:∀(ms:List Nat)(i:Nat),(∀m∈ms,1<=m)->(hi:i<ms.length)->(ms.take i).foldr (· * ·) 1*ms[i]<=ms.foldr (· * ·) 1:=by
  intro ms
  induction ms with
  | nil=>intro i _ hi;exact absurd hi (Gp i)
  | cons m ms ih =>
    intro i h hi
    have pos:∀l:List Nat,(∀m∈l,1<=m)->1<=l.foldr (· * ·) 1:=fun l=>by
     induction l with
     | nil=>intro _;exact DQ _
     | cons x l ihl=>intro hl;exact FA (hl x DS) (ihl fun y my=>hl y (DL _ my))
    cases i with
    | zero =>
      show 1*m<=m*ms.foldr (· * ·) 1;rw[Lv];have:=Iv m (pos ms fun y my=>h y (DL _ my))
      omega
    | succ i =>
      have:=ih i (fun y my=>h y (DL _ my)) (by simpa using hi);show m*(ms.take i).foldr (· * ·) 1*(ms[i]'(by simpa using hi))<=m*ms.foldr (· * ·) 1;rw[JB];exact Iv m this
 exact EC (key ms i h1 hi) hM
theorem jW(m:Nat):∀rs:List (List Nat),(rs.flatMap fun r=>(D8 m).map fun k=>r++[k]).length=rs.length*m
 | []=>by simp
 | r::rs=>by rw[FT,D7,jW m rs,DO,EX,DX,Hj];omega
noncomputable def Pg(s:Nat)(ps:List (List Rat)):Prop:=∀p∈ps,p.length=s/\∀q∈p,Dq q
theorem wk{a b:List Int}:(a.map D5)=(b.map D5)↔a=b:=by
 refine bu fun x y=>?_;rw[HZ]
noncomputable def d7(r:List Int):DH:=.list (r.map .int)
theorem wJ{α:Type}(f:α->Bool):∀xs:List α,E6 (xs.map fun x=>HF (f x))=true
 | []=>rfl
 | x::xs=>by
   rw[Ew];show(Gk (.bool (f x))&&E6 (xs.map fun x=>HF (f x)))=true;rw[wJ f xs];rfl
theorem nP{α:Type}(f:α->Bool):∀xs:List α,((xs.map fun x=>HF (f x)).any fun z=>z.eqv (.bool false)) = !(xs.all f)
 | []=>rfl
 | x::xs=>by
   rw[Ew,Ju,nP f xs,List.all_cons];cases f x<;>cases xs.all f<;>rfl
theorem wL{ps:List (List Rat)}:∀{xs:List Nat}{ds:List DH},E8 (fun(j:Nat)(d:DH)=>∃B,d = .int B/\DA ps j B) xs ds->∃bs:List Int,ds=bs.map .int/\bs.length=xs.length/\∀k (h:k<bs.length) (h':k<xs.length),DA ps xs[k] bs[k]
 | _,_,.nil=>⟨[],rfl,rfl,fun k h=>absurd h (Gp k)⟩
 | _,_,.cons ⟨B,e,b⟩ t=>by
   obtain⟨bs,e1,e2,e3⟩:=wL t;refine⟨B::bs,by rw[e,e1];rfl,by rw[DX,DX,e2],fun k h h'=>?_⟩
   cases k with
   | zero=>exact b
   | succ k=>exact e3 k (by simpa using h) (by simpa using h')
structure BsOk (ps:List (List Rat)) (bs:List Int):Prop where
 len:bs.length=sdN ps
 ok:∀k (h:k<bs.length),DA ps k bs[k]
theorem BsOk.bt{bs:List Int}(o:BsOk ps bs)(hp:Pq ps):∀p∈ps,tS bs p:=fun p mp=>by
 have lp:=hp.len p mp;refine⟨by rw[lp,o.len],fun z mz=>?_⟩;obtain⟨k,hk,e⟩:=GA.mp mz;rw[E4]at hk;rw[FM]at e;subst e;obtain⟨b0,_,bd⟩:=o.ok k (by omega);refine⟨?_,b0⟩;have:=bd p mp;rw[D1,DP (by omega)]at this;exact this
theorem BsOk.pos{bs:List Int}(o:BsOk ps bs):∀b∈bs,0<b/\b<=KB:=fun b mb=>by
 obtain⟨k,hk,e⟩:=GA.mp mb;subst e;obtain⟨b0,bk,_⟩:=o.ok k hk;exact⟨b0,G_ (by decide) bk⟩
theorem gA{bs:List Int}(o:BsOk ps bs)(hp:Pq ps):∀p∈ps,(aL bs p).length=sdN ps:=fun p mp=>by
 unfold aL;rw[DO,E4,hp.len p mp,o.len,K_]
theorem va{bs:List Int}(o:BsOk ps bs)(hp:Pq ps)(mp:p∈ps){k:Nat}(h:k<bs.length):0<=(aL bs p).getD k 0/\(aL bs p).getD k 0<bs[k]:=by
 have lr:=gA o hp p mp;have lp:=hp.len p mp;have lb:=o.len;have hk:k<(aL bs p).length:=by omega
 rw[D1,DP hk];have e:(aL bs p)[k]=(p[k]'(by omega)).num*(bs[k] / ((p[k]'(by omega)).den:Int)):=by simp only[aL,EN,FM]
 show 0<=(aL bs p)[k]/\(aL bs p)[k]<bs[k];rw[e];obtain⟨b0,_,bd⟩:=o.ok k h;have dv:=bd p mp;rw[D1,DP (by omega)]at dv;have dv:(((p[k]'(by omega)).den:Nat):Int)∣bs[k]:=dv;obtain⟨_,n0,n1⟩:=hp.dq p mp (p[k]'(by omega)) (Ep _);have d0:=fI (p[k]'(by omega));generalize (p[k]'(by omega)).num=x at *;generalize (((p[k]'(by omega)).den:Nat):Int)=d at *;generalize bs[k]=b at *;obtain⟨c,rfl⟩:=dv;rw[Jk _ (by omega)];have c0:0<c:=Int.pos_of_mul_pos_right b0 d0;exact⟨Jb n0 (by omega),IH n1 c0⟩
structure EdS (ps:List (List Rat)) (bs:List Int) (k:Nat) (es:List Int):Prop where
 ed:EdOk es (bs.getD k 0)
 len:es.length<=ps.length+2
 len2:2<=es.length
 mem:∀p∈ps,(aL bs p).getD k 0∈es
theorem yF{bs:List Int}(o:BsOk ps bs)(hp:Pq ps){k:Nat}(h:k<bs.length)(up:ns.Pairwise (· < ·))(me:∀x,x∈ns↔x∈0::bs.getD k 0::ps.map fun p=>(aL bs p).getD k 0):EdS ps bs k ns:=by
 have eb:bs.getD k 0=bs[k]:=by rw[D1,DP h];rfl
 obtain⟨b0,_,_⟩:=o.ok k h;have nd:ns.Nodup:=up.imp fun h=>Int.ne_of_lt h;have z:(0:Int)∈ns:=(me 0).mpr DS;have b:bs.getD k 0∈ns:=(me _).mpr (DL _ DS);refine⟨⟨up,z,b,fun x mx=>?_⟩,?_,?_,fun p mp=>(me _).mpr (DL _ (DL _ (Ev.mpr ⟨p,mp,rfl⟩)))⟩
 · rcases EO.mp ((me x).mp mx)with rfl|m
   · rw[eb];omega
   · rcases EO.mp m with rfl|m
     · rw[eb];omega
     · obtain⟨p,mp,rfl⟩:=Ev.mp m;have:=va o hp mp h;rw[eb];omega
 · have:=FZ nd fun x mx=>(me x).mp mx;rw[DX,DX,DO]at this;exact this
 · have n2:[(0:Int),bs.getD k 0].Nodup:=by
     rw[eb,FB];exact⟨fun m=>by rw[Er.mp m]at b0;omega,List.pairwise_singleton _ _⟩
   have:=FZ n2 fun x mx=>by
    rcases EO.mp mx with rfl|m
    · exact z
    · rw[Er.mp m];exact b
   exact this
theorem xR{bs:List Int}(o:BsOk ps bs)(hp:Pq ps)(hl:E.length=sdN ps)(h:∀k (hk:k<E.length),EdS ps bs k E[k]):SqOk E bs (ps.map (aL bs)):=by
 have lb:=o.len;refine⟨by rw[lb,hl],fun r mr=>?_,fun k hk h1=>?_,fun r mr k hk h1=>?_⟩
 · obtain⟨p,mp,rfl⟩:=Ev.mp mr;rw[gA o hp p mp,hl]
 · have:=(h k hk).ed;rw[D1,DP h1]at this;exact this
 · obtain⟨p,mp,rfl⟩:=Ev.mp mr;have:=(h k hk).mem p mp;rw[D1,DP h1]at this;exact this
theorem rT{pt:List Nat}(h:pt.length=E.length):(D8 E.length).map (fun k=>D5 ((E.getD k []).getD (pt.getD k 0) 0))=(lowE E pt).map .int/\(D8 E.length).map (fun k=>D5 ((E.getD k []).getD (pt.getD k 0+1) 0))=(higE E pt).map .int:=by
 have key:∀(c:Nat),(D8 E.length).map (fun k=>D5 ((E.getD k []).getD (pt.getD k 0+c) 0))=((E.zip pt).map fun z=>z.1.getD (z.2+c) 0).map .int:=fun c=>by
  refine JL (by simp[h]) fun k h1 h2=>?_;rw[DO,EX]at h1;rw[EN,GY,EN,EN,FM];rw[D1 (l:=E),DP h1,D1 (l:=pt),DP (by omega)];rfl
 exact⟨key 0,key 1⟩
noncomputable def B3(g:Int->Int)(zs:List (Int×Int)):Int:=(zs.map fun z=>g z.2-g z.1).foldr (· * ·) 1
theorem dZ(g:Int->Int)(z:Int×Int):∀zs:List (Int×Int),B3 g (zs++[z])=B3 g zs*(g z.2-g z.1)
 | []=>by show(g z.2-g z.1)*1=1*_;rw[Jq,IF]
 | y::zs=>by
   show(g y.2-g y.1)*B3 g (zs++[z])=(g y.2-g y.1)*B3 g zs*_;rw[dZ g z zs,Ij]
theorem lQ(g:Int->Int)(C:Nat):∀zs:List (Int×Int),(∀z∈zs,(g z.2-g z.1).natAbs<=C)->(B3 g zs).natAbs<=C^zs.length
 | [],_=>by show 1<=C^0;rw[K8];exact DQ _
 | z::zs,h=>by
   show((g z.2-g z.1)*B3 g zs).natAbs<=_;rw[Fj,DX,GL,G3];exact FA (lQ g C zs fun y m=>h y (DL _ m)) (h z DS)
theorem mP(C:Nat):∀l:List Int,(∀x∈l,x.natAbs<=C)->(aK l).natAbs<=l.length*C
 | [],_=>by simp[aK]
 | x::l,h=>by
   have:=mP C l fun y m=>h y (DL _ m);have:=h x DS;have:=Jj x (aK l);show(x+aK l).natAbs<=_;rw[DX,Hj];omega
theorem ky{x:Int}(h0:0<=x)(h1:x<=KB):(0<=x*x/\x*x<=KB*KB)/\0<=x^3/\x^3<=KB*KB*KB:=by
 have a:=Jb h0 h0;have b:=Ja h1 h1 h0 (by decide);have e:x^3=x*x*x:=by rw[Fa,Fa,Fa,GM,IF]
 rw[e];exact⟨⟨a,b⟩,Jb a h0,Ja b h1 h0 (by decide)⟩
theorem Af:KB*KB<2^52:=by decide
theorem yM:KB*KB*KB<2^78:=by decide
theorem qx{bs:List Int}(o:SqOk E bs (ps.map (aL bs)))(hb:∀b∈bs,0<b/\b<=KB){pt:List Nat}(mp:pt∈ptsE E):∀z∈(lowE E pt).zip (higE E pt),(0<=z.1/\z.1<=KB)/\0<=z.2/\z.2<=KB:=fun z mz=>by
 obtain⟨k,hk,e⟩:=GA.mp mz;rw[FM]at e;rw[E4]at hk;have lp:=(cC mp).2;have kE:k<E.length:=by have:=(cC mp).1;omega
 have kb:k<bs.length:=by rw[o.bl];exact kE
 have hp:=(b6 mp).2 k (by omega) (by rw[DO];exact kE);rw[EN]at hp;obtain⟨_,b9⟩:=hb _ (Ep kb);have rg:=(o.ok k kE kb).rg
 have e1:(lowE E pt)[k]'(by omega)=E[k][pt[k]'(by omega)]'(by omega):=by
  simp only[lowE,EN,FM];rw[D1,DP (by omega)];rfl
 have e2:(higE E pt)[k]'(by omega)=E[k][pt[k]'(by omega)+1]'(by omega):=by
  simp only[higE,EN,FM];rw[D1,DP (by omega)];rfl
 rw[<- e];show(0<=(lowE E pt)[k]/\(lowE E pt)[k]<=KB)/\0<=(higE E pt)[k]/\(higE E pt)[k]<=KB;rw[e1,e2];have r1:=rg _ (Ep (l:=E[k]) (n:=pt[k]'(by omega)) (by omega));have r2:=rg _ (Ep (l:=E[k]) (n:=pt[k]'(by omega)+1) (by omega));omega
theorem nk:∀(xs:List Int)(t:Int),xs.foldl (fun t x=>t*x) t=t*prB xs
 | [],t=>by show t=t*1;rw[Jq]
 | x::xs,t=>by
   rw[FE,nk xs (t*x)];show t*x*prB xs=t*(x*prB xs);rw[Ij]
theorem qr:∀{bs:List Int},(∀b∈bs,0<b/\b<=KB)->prB bs<=KB^bs.length
 | [],_=>by show(1:Int)<=KB^0;rw[GM];exact Jw _
 | b::bs,h=>by
   have ih:=qr fun x m=>h x (DL _ m);have p:=gE fun x m=>(h x (DL b m)).1;obtain⟨b0,b1⟩:=h b DS;show b*prB bs<=_;rw[DX,Fa,HU (KB^bs.length)];exact Ja b1 ih (by omega) (by decide)
theorem vI{N:Nat}:∀{ms:List Nat},(∀m∈ms,m<=N)->ms.foldr (· * ·) 1<=N^ms.length
 | [],_=>DQ _
 | m::ms,h=>by
   show m*ms.foldr (· * ·) 1<=_;rw[DX,GL,G3 (N^ms.length)];exact FA (h m DS) (vI fun x m'=>h x (DL _ m'))
theorem j_{xs:List Int}{k:Nat}(h:k<xs.length):L2.atI (xs.map D5) (k:Int)=some (.int (xs.getD k 0)):=by
 refine fg ?_;rw[Ez,DP h,D1,DP h];rfl
theorem Ab{k:Nat}(h:k<E.length):L2.atI (E.map d7) (k:Int)=some (d7 (E.getD k [])):=by
 refine fg ?_;rw[Ez,DP h,D1,DP h];rfl
theorem wM{pt:List Nat}{k:Nat}(h:k<pt.length):L2.atI (pt.map fun i:Nat=>D5 (i:Int)) (k:Int)=some (.int ((pt.getD k 0:Nat):Int)):=by
 refine fg ?_;rw[Ez,DP h,D1,DP h];rfl
theorem qF{bs:List Int}{lows:List Int}:∀ps:List (List Rat),(((ps.filterMap fun p=>if B_ (aL bs p) lows=true then some (d7 (aL bs p))else none).length:Nat):Int)=i_ (ps.map (aL bs)) lows
 | []=>rfl
 | p::ps=>by
   have ih:=qF (bs:=bs) (lows:=lows) ps;unfold i_ at ih ⊢;rw[GN,Ew,List.filter_cons];by_cases c:B_ (aL bs p) lows=true
   · rw[if_pos c,if_pos c,DX,DX,IE,IE,ih]
   · rw[if_neg c,if_neg c,ih]
theorem jp(a b c:Int){k:Nat}(h:k<3):L2.atI [D5 a,.int b,.int c] (k:Int)=some (.int ([a,b,c].getD k 0)):=by
 rcases(show k=0\/k=1\/k=2 by omega)with rfl|rfl|rfl<;>rfl
theorem rB(a b c x y z:Int):(D8 3).map (fun k=>D5 ([a,b,c].getD k 0+[x,y,z].getD k 0))=[.int (a+x),.int (b+y),.int (c+z)]:=rfl
theorem eV(f:List Nat->Int)(l:List (List Nat))(h:i<l.length):aK ((l.take (i+1)).map f)=aK ((l.take i).map f)+f l[i]:=by
 rw[Ej h,E3,jS];show _+(f l[i]+0)=_;rw[Int.add_zero]
theorem lL{pt:List Nat}(h:pt∈ptsE E){k:Nat}(hk:k<E.length):pt.getD k 0+1<(E.getD k []).length:=by
 obtain⟨l,b⟩:=b6 h;rw[DO]at l;have:=b k (by omega) (by rw[DO];exact hk);rw[EN]at this;rw[D1,DP (by omega),D1,DP hk];show pt[k]+1<E[k].length;omega
theorem rS{bs:List Int}(o:SqOk E bs (ps.map (aL bs)))(hb:∀b∈bs,0<b/\b<=KB)(hp:Pq ps)(hl:E.length<=4){pt:List Nat}(mp:pt∈ptsE E) :
 (s0 E (ps.map (aL bs)) pt).natAbs<=2^330/\(s1 E (ps.map (aL bs)) pt).natAbs<=2^330/\(s2 E pt).natAbs<=2^330:=by
 have rg:=qx o hb mp
 have ln:((lowE E pt).zip (higE E pt)).length<=4:=by
  have:=(cC mp).1;rw[E4];omega
 have h16:=hp.hi
 have cl:(i_ (ps.map (aL bs)) (lowE E pt)).natAbs<=16:=by
  have:=Kc (fun r=>B_ r (lowE E pt)) (ps.map (aL bs));rw[DO]at this;unfold i_;omega
 have k2:=Af;have k3:=yM;have kl:=pW
 have key:∀g:Int->Int,(∀x,0<=x->x<=KB->0<=g x/\g x<2^80)->(B4 g (lowE E pt) (higE E pt)).natAbs<=2^320:=fun g hg=>by
  refine EC (lQ g (2^80) _ fun z mz=>?_) ?_
  · obtain⟨⟨u0,u1⟩,v0,v1⟩:=rg z mz;have a:=hg _ u0 u1;have b:=hg _ v0 v1;omega
  · rw[<- Nat.pow_mul];exact D4 (by decide) (by omega)
 have p0:=key (fun x=>x) fun x a b=>⟨a,by show x<2^80;omega⟩
 have p1:=key (fun x=>x*x) fun x a b=>by
  obtain⟨⟨c,d⟩,_⟩:=ky a b;exact⟨c,by show x*x<2^80;omega⟩
 have p2:=key (fun x=>x^3) fun x a b=>by
  obtain⟨_,c,d⟩:=ky a b;exact⟨c,by show x^3<2^80;omega⟩
 have e:2^330=16*16*(4*2^320):=by decide +kernel
 refine⟨?_,?_,?_⟩
 · unfold s0;rw[Fj,Fj,e];exact FA (FA cl cl) (EC p0 (JT _ (by decide)))
 · unfold s1;rw[Fj,e,JB];exact FA cl (EC p1 (by rw[<- JB];exact JT _ (by decide)))
 · unfold s2;exact EC p2 (D4 (by decide) (by decide))
theorem iO{f:List Nat->Int}{l:List (List Nat)}(hl:l.length<=1000)(h:∀x∈l,(f x).natAbs<=2^330):(aK (l.map f)).natAbs<2^400:=by
 have:=mP (2^330) (l.map f) fun x m=>by
  obtain⟨y,my,rfl⟩:=Ev.mp m;exact h y my
 rw[DO]at this;refine FG (EC this (Ie _ hl)) ?_;rw[show 1000*2^330=1000*2^330 from rfl];exact DR (Nat.mul_lt_mul_of_pos_right (show 1000<2^70 by decide) (Ls (by decide))) (by rw[<- Iz];exact DQ _)
theorem bN{x y:Int}(hx:x.natAbs<2^n)(hy:y.natAbs<2^m):(x*y).natAbs<2^(n+m):=by
 rw[Fj,Iz];exact JK hx hy
theorem x9{s:Nat}(h:s<=4):(1:Int)<=2^s/\(2:Int)^s<=16/\(1:Int)<=3^s/\(3:Int)^s<=81:=by
 rcases(show s=0\/s=1\/s=2\/s=3\/s=4 by omega)with rfl|rfl|rfl|rfl|rfl<;>decide
theorem AZ{bs:List Int}(hb:∀b∈bs,0<b/\b<=KB)(hl:bs.length<=4):0<prB bs/\prB bs<2^104:=by
 refine⟨gE fun b m=>(hb b m).1,IT (qr hb) ?_⟩;rcases(show bs.length=0\/bs.length=1\/bs.length=2\/bs.length=3\/bs.length=4 by omega)with e|e|e|e|e<;>rw[e]<;>decide
theorem AQ{a0 a1 a2 a3 a4 a5 a6 a7 a8 a9 a10 a11 a12 a13 a14 a15 a16 a17 a18 a19 x:α}{l:List α}:(a0::a1::a2::a3::a4::a5::a6::a7::a8::a9::a10::a11::a12::a13::a14::a15::a16::a17::a18::a19::x::l)[20]?=some x:=rfl
theorem AB{a0 a1 a2 a3 a4 a5 a6 a7 a8 a9 a10 a11 a12 a13 a14 a15 a16 a17 a18 a19 x y:α}{l:List α}:(a0::a1::a2::a3::a4::a5::a6::a7::a8::a9::a10::a11::a12::a13::a14::a15::a16::a17::a18::a19::x::l).set 20 y=a0::a1::a2::a3::a4::a5::a6::a7::a8::a9::a10::a11::a12::a13::a14::a15::a16::a17::a18::a19::y::l:=rfl
theorem Al{a0 a1 a2 a3 a4 a5 a6 a7 a8 a9 a10 a11 a12 a13 a14 a15 a16 a17 a18 a19:Option W}{w:W}{l:En}:dr 20 (a0::a1::a2::a3::a4::a5::a6::a7::a8::a9::a10::a11::a12::a13::a14::a15::a16::a17::a18::a19::some w::l)=VL.ret w.peek:=(bh 20).trans rfl
theorem qf(hp:Pq ps):BX 1800 (BO (sdN ps) ps):=by
 have h16:=hp.hi;have h1:=hp.lo;have n0:0<(ps.length:Int):=by omega
 have trs:∀q∈ps.map roomQ,CI q:=fun q m=>by
  obtain⟨p,mp,rfl⟩:=Ev.mp m;exact jv (by rw[hp.len p mp];exact hp.s4) (hp.dq p mp)
 have trp:∀q∈ps.flatMap (fun p=>ps.map fun q=>roomB p q),CI q:=fun q m=>by
  obtain⟨p,mp,m⟩:=JN.mp m;obtain⟨r,mr,rfl⟩:=Ev.mp m;exact jw (by rw[hp.len p mp];exact hp.s4) (hp.dq p mp) (hp.dq r mr)
 have lp:(ps.flatMap (fun p=>ps.map fun q=>roomB p q)).length<=256:=by
  have:∀(xs ys:List (List Rat)),(xs.flatMap fun p=>ys.map fun q=>roomB p q).length=xs.length*ys.length:=fun xs ys=>by
   induction xs with
   | nil=>simp
   | cons x xs ih=>rw[FT,D7,ih,DO,DX,Hj];omega
  rw[this];exact FA h16 h16
 have nn9:((ps.length:Int)*(ps.length:Int)).natAbs<2^60:=by
  have:=FA h16 h16;rw[Fj];show ps.length*ps.length<2^60;omega
 have a:=hW (c:=3) (by decide) (by decide) hp.s4;have b:=hW (c:=2) (by decide) (by decide) hp.s4;have c:BX 60 (qd 2 (ps.length:Int)):=ie n0 (by decide) (by omega);have d:BX 60 (qd 1 ((ps.length:Int)*(ps.length:Int))):=ie (Gc n0 n0) (by decide) nn9;have e:=cW trs (by rw[DO];omega);have f:=cW trp lp;exact(qN (jr a (cO (cO b c) e)) (cO d f)).mono (by decide)
theorem qe{i:Int}(h:i.natAbs<2^1900):Sm 0 0 (.int i):=⟨h,by simp[HQ],by simp[DH.bulk]⟩
theorem ni(h:BX 1800 q):Sm 2 2 (fr q):=by
 have h:=h.mono (m:=1900) (by decide)
 have:=(Sm.seq (dp:=0) (bk:=0) (n:=2) (xs:=[.int q.num,.int q.den]) (fun d hd=>by
  rcases EO.mp hd with rfl|hd
  · exact qe h.1
  · cases Er.mp hd
    exact qe (by rw[Ga];exact h.2)) (DQ 2)).1
 exact this.mono (by decide) (DQ _)
theorem xT(h:BX 1800 q):CW (fr q):=(ni h).shw (by decide) (by decide)
theorem u6{f:Nat->Rat}(hn:n<=16)(h:∀j<n,BX 1800 (f j)):CW (.tuple ((D8 n).map fun j=>fr (f j))) :=
 ((Sm.seq (dp:=2) (bk:=2) (n:=16) (fun d hd=>by
  obtain⟨j,mj,rfl⟩:=Ev.mp hd
  exact ni (h j (Fg.mp mj))) (by rw[DO,EX];exact hn)).1).shw (by decide) (by decide)
theorem uZ(hp:Pq ps):CW (ptsQ ps) :=
 ((Sm.seq (dp:=4) (bk:=12) (n:=16) (xs:=ps.map B2) (fun d hd=>by
  obtain⟨p,mp,rfl⟩:=Ev.mp hd
  exact(Sm.seq (dp:=2) (bk:=2) (n:=4) (xs:=p.map fr) (fun d hd=>by
   obtain⟨q,mq,rfl⟩:=Ev.mp hd
   exact ni ((hp.dq p mp q mq).sm.mono (by decide))) (by rw[DO,hp.len p mp];exact hp.s4)).1) (by rw[DO];exact hp.hi)).1).shw (by decide) (by decide)
theorem x8{s:Nat}(h1:1<=m)(h16:m<=16)(s1:1<=s)(s4:s<=4)(hM:(m+1)^s<=1000)(hl:ps.length=m)(h:Pg s ps):Pq ps/\sdN ps=s:=by
 have e:sdN ps=s:=by
  unfold sdN
  cases ps with
  | nil=>simp at hl;omega
  | cons p ps=>exact(h p DS).1
 exact⟨⟨by omega,by omega,by omega,by omega,fun p mp=>by rw[e];exact(h p mp).1,fun p mp=>(h p mp).2,by rw[e,hl];exact hM⟩,e⟩
theorem yh{s:Int}(h1:1<=s)(h4:s<=4):∃c:Int,L2.atI [D5 6,.int 5,.int 4,.int 2] (s-1)=some (.int c)/\1<=c/\c<=16/\(c.toNat+1)^s.toNat<=1000:=by
 rcases(show s=1\/s=2\/s=3\/s=4 by omega)with rfl|rfl|rfl|rfl
 · exact⟨6,rfl,by decide,by decide,by decide⟩
 · exact⟨5,rfl,by decide,by decide,by decide⟩
 · exact⟨4,rfl,by decide,by decide,by decide⟩
 · exact⟨2,rfl,by decide,by decide,by decide⟩
noncomputable def bH:List W->(DH->Prop)->Prop:=fun ws Q=>∃(ps:List (List Rat)),ws=[.d (ptsQ ps)]/\((1<=ps.length))/\Q (.int ((sdN ps:Nat):Int))
theorem bH.mono:∀ws (Q Q':DH->Prop),(∀d,Q d->Q' d)->bH ws Q->bH ws Q':=fun _ _ _ h_=>Es fun _=>D0 (D0 (h_ _))
theorem bH.len:∀ws (Q:DH->Prop),bH ws Q->ws.length=1:=fun _ _ h_=>by obtain⟨_,e_,_⟩:=h_;subst e_;rfl
theorem bH.eq(ps:List (List Rat))(h1:1<=ps.length):bH [.d (ptsQ ps)]=VL.ret (.int ((sdN ps:Nat):Int):DH):=by
 refine af fun Q=>⟨?_,fun q_=>⟨ps,rfl,h1,q_⟩⟩;rintro⟨ps',e_,_,q_⟩;simp_arith only[fA,bY,bZ,bC,bx,cn]at e_;obtain rfl:=e_;exact q_
theorem iP:FnScope ["points"] ["points"] (defScope (BB 15)):=⟨rfl,rfl,rfl,by decide +kernel,rfl,by decide +kernel,by decide +kernel⟩
theorem d_sides_of(Fn:FnIn K mg "sides_of" (BB 15) ["points"])(Z:Bz mg)    : Dfn P w K mg base rl "sides_of" ["points"] 1 bH:=by
 have sc:=iP;refine Dfn.of Fn sc (bH.mono) (bH.len) (fun cdv A outer s H E hr=>(am (aE (fB Z.len_ (aa (bK (vn 0) ac) ab))))) ?_;rintro ws Q ⟨ps,rfl,h1,hQ⟩;refine aG ?_;have e0:=mX h1;have es:(ps.headD []).length=sdN ps:=rfl;simp_arith only[aj,ae,DE,e0,es];exact aQ hQ
noncomputable def cj:List W->(DH->Prop)->Prop:=fun ws Q=>∃(qs:List Rat),ws=[.d (.list (qs.map fr))]/\((qs.length<=256)/\(∀q∈qs,CI q))/\Q (fr (cw qs))
theorem cj.mono:∀ws (Q Q':DH->Prop),(∀d,Q d->Q' d)->cj ws Q->cj ws Q':=fun _ _ _ h_=>Es fun _=>D0 (D0 (h_ _))
theorem cj.len:∀ws (Q:DH->Prop),cj ws Q->ws.length=1:=fun _ _ h_=>by obtain⟨_,e_,_⟩:=h_;subst e_;rfl
theorem cj.eq(qs:List Rat)(h1:qs.length<=256)(hq:∀q∈qs,CI q):cj [.d (.list (qs.map fr))]=VL.ret (fr (cw qs):DH):=by
 refine af fun Q=>⟨?_,fun q_=>⟨qs,rfl,⟨h1,hq⟩,q_⟩⟩;rintro⟨qs',e_,_,q_⟩;simp_arith only[fA,bY,bZ,bC,bx,cn]at e_;obtain rfl:=e_;exact q_
theorem lA:FnScope ["some", "bottom", "one"] ["some"] (defScope (BB 10)):=⟨rfl,rfl,rfl,by decide +kernel,rfl,by decide +kernel,by decide +kernel⟩
theorem d_sum_of(Fn:FnIn K mg "sum_of" (BB 10) ["some"])(Z:Bz mg)(d_fraction:∀rl,Dfn P w K mg base rl "fraction" ["top", "bottom"] 2 aP)(d_common_divisor:∀rl,Dfn P w K mg base rl "common_divisor" ["one", "other"] 1 ax)   : Dfn P w K mg base rl "sum_of" ["some"] 3 cj:=by
 have sc:=lA
 refine Dfn.of Fn sc (cj.mono) (cj.len) (fun cdv A outer s H E hr=>(ah (aq 1 sc.nd ac)
  (ah (bM [2] EE rfl (bW (vn 0)) (ak 2 sc.nd) (am (ub 1 sc.nd tf (v_div (bK (vn 2) ac) (ar (d_common_divisor _) (hr.mono (by decide)) (aa (vn 1) (aa (bK (vn 2) ac) ab)))))))
  (am (aE (ar (d_fraction _) (hr.mono (by decide)) (aa (v_sum Z.sum_ (aa (bj ["one", "bottom"] [none,some 1] rfl (bW (vn 0)) (fun _=>(ak 0 (show E7 (["one", "bottom"]:List Str) by decide +kernel))) (fun _=>bD) (fun _=>(v_mul (bK (vn 0) ac) (v_div (vn 1) (bK (vn 0) ac))))) ab)) (aa (vn 1) ab)))))))) ?_
 rintro ws Q ⟨qs,rfl,⟨h1,hq⟩,hQ⟩;refine aG ?_;have sz:=EI;simp_arith only[aj,ae,aP.eq,ax.eq,DE];refine da (xs:=qs) (enc:=fr) (fun i ρ=>∃B:Int,LcmD (qs.take i) B/\ρ=[some (.d (.list (qs.map fr))),some (.d (.int B)),none]) rfl ⟨1,LcmD.nil,rfl⟩ ?_ ?_
 · rintro i hi ρ ⟨B,hB,rfl⟩ K hK;have sq:=hq _ (Ep hi);have st:=hB.step sq;have dp:=fI qs[i];have gp:(0:Int)<(Et B qs[i].den:Int):=by have:=GX B (show(qs[i].den:Int)≠0 by omega);omega
   have gl:(Et B qs[i].den:Int)<=qs[i].den:=G_ dp (Int.gcd_dvd_right ..);have bl:=hB.lt;have bp:=hB.p;have db:=sq.dl;have cd:cU (qs[i].den:Int) (Et B qs[i].den:Int):=qJ (k:=209) (by omega) (gf (by omega) (by omega)) (by decide);have ef:(qs[i].den:Int).fdiv (Et B qs[i].den:Int)=(qs[i].den:Int) / (Et B qs[i].den:Int):=Fp _ (by omega);have q0:0<=(qs[i].den:Int) / (Et B qs[i].den:Int):=IG (by omega) (by omega);have q1:(qs[i].den:Int) / (Et B qs[i].den:Int)<=qs[i].den:=H0 _ (by omega);have cm:aA B ((qs[i].den:Int) / (Et B qs[i].den:Int)):=.bb (iG (k:=209) (gf (by omega) bl) (by decide)) (iG (k:=209) (gf q0 (by omega)) (by decide));simp_arith only[aj,ae,aP.eq,ax.eq,DE,ef];exact hK _ (cb ⟨_,by rw[Ej hi];exact st,rfl⟩)
 · rintro ρ ⟨B,hB,rfl⟩;rw[D6 (DQ _)]at hB;have bl:=hB.lt;have bp:=hB.p;have b0:B≠0:=by omega
   have bz:B.natAbs<2^8000:=gf (by omega) (Int.lt_of_lt_of_le bl (kB (by decide) (by decide)));simp_arith only[aj,ae,DE];refine cD (xs:=qs) (enc:=fr) (fun q=>.int (q.num*(B / q.den))) rfl ?_ (by omega) ?_
   · intro q mq;have s2:=(hq q mq).2;have dp:=fI q;have db:=(hq q mq).dl;have cd:cU B (q.den:Int):=qJ (k:=209) (by omega) (gf (by omega) (by omega)) (by decide);have ef:B.fdiv (q.den:Int)=B / (q.den:Int):=Fp _ (by omega);have q0:0<=B / (q.den:Int):=IG (by omega) (by omega);have q1:B / (q.den:Int)<=B:=H0 _ (by omega);have cm:aA q.num (B / (q.den:Int)):=.bb (iG (k:=400) s2 (by decide)) (iG (k:=209) (gf q0 (by omega)) (by decide));simp_arith only[aj,ae,Ck,DE,ef]
   · have e:=qa hB.p qs hB.d;rw[oR];simp_arith only[aj,ae,DC,aP.eq,ax.eq,e];exact aQ hQ
noncomputable def a_:List W->(DH->Prop)->Prop:=fun ws Q=>∃(p:List Rat),ws=[.d (B2 p)]/\((p.length<=4)/\(∀q∈p,Dq q))/\Q (fr (roomQ p))
theorem a_.mono:∀ws (Q Q':DH->Prop),(∀d,Q d->Q' d)->a_ ws Q->a_ ws Q':=fun _ _ _ h_=>Es fun _=>D0 (D0 (h_ _))
theorem a_.len:∀ws (Q:DH->Prop),a_ ws Q->ws.length=1:=fun _ _ h_=>by obtain⟨_,e_,_⟩:=h_;subst e_;rfl
theorem a_.eq(p:List Rat)(h4:p.length<=4)(hp:∀q∈p,Dq q):a_ [.d (B2 p)]=VL.ret (fr (roomQ p):DH):=by
 refine af fun Q=>⟨?_,fun q_=>⟨p,rfl,⟨h4,hp⟩,q_⟩⟩;rintro⟨p',e_,_,q_⟩;simp_arith only[fA,bY,bZ,bC,bx,cn]at e_;obtain rfl:=e_;exact q_
theorem gw:FnScope ["point"] ["point"] (defScope (BB 17)):=⟨rfl,rfl,rfl,by decide +kernel,rfl,by decide +kernel,by decide +kernel⟩
theorem d_room_above(Fn:FnIn K mg "room_above" (BB 17) ["point"])(Z:Bz mg)(d_product_of:∀rl,Dfn P w K mg base rl "product_of" ["some"] 4 aJ)(d_less:∀rl,Dfn P w K mg base rl "less" ["one", "other"] 3 c5)(d_times:∀rl,Dfn P w K mg base rl "times" ["one", "other"] 3 ci)(gl_ONE:GlD K mg "ONE" (pr 1 1))  : Dfn P w K mg base rl "room_above" ["point"] 5 a_:=by
 have sc:=gw;refine Dfn.of Fn sc (a_.mono) (a_.len) (fun cdv A outer s H E hr=>(am (aE (ar (d_product_of _) (hr.mono (by decide)) (aa (bj ["x"] [none] rfl (fM (vn 0)) (fun _=>(ak 0 (show E7 (["x"]:List Str) by decide +kernel))) (fun _=>bD) (fun _=>(ar (d_less _) (hr.mono (by decide)) (aa (k5 gl_ONE) (aa (ar (d_times _) (hr.mono (by decide)) (aa (vn 0) (aa (vn 0) ab))) ab))))) ab))))) ?_;rintro ws Q ⟨p,rfl,⟨h4,hp⟩,hQ⟩;refine aG ?_;have sz:=EI;simp_arith only[aj,ae,aJ.eq,c5.eq,ci.eq,DE];refine cD (xs:=p) (enc:=fr) (fun x=>fr (1-x*x)) rfl ?_ (by omega) ?_
 · intro x mx;have h1:BX 2000 x:=(hp x mx).sm.mono (by decide);have h2:BX 2000 (x*x):=(cO (hp x mx).sm (hp x mx).sm).mono (by decide);have h3:BX 2000 1:=AG.mono (by decide);simp_arith only[aj,ae,Ck,aJ.eq,c5.eq,ci.eq,DE]
 · have em:p.map (fun x=>fr (1-x*x))=(p.map fun x=>1-x*x).map fr:=by rw[Ff];rfl
   have l4:(p.map fun x=>1-x*x).length<=4:=by rw[DO];exact h4
   have hs:∀q∈p.map (fun x=>1-x*x),BX 190 q:=fun q mq=>by
    obtain⟨x,mx,rfl⟩:=Ev.mp mq;exact(hp x mx).room.mono (by decide)
   rw[em];simp_arith only[aj,ae,aJ.eq,c5.eq,ci.eq,DE];exact aQ hQ
noncomputable def ay:List W->(DH->Prop)->Prop:=fun ws Q=>∃(p q:List Rat),ws=[.d (B2 p),.d (B2 q)]/\((p.length<=4)/\(∀q∈p,Dq q)/\(∀x∈q,Dq x))/\Q (fr (roomB p q))
theorem ay.mono:∀ws (Q Q':DH->Prop),(∀d,Q d->Q' d)->ay ws Q->ay ws Q':=fun _ _ _ h_=>Es fun _=>Es fun _=>D0 (D0 (h_ _))
theorem ay.len:∀ws (Q:DH->Prop),ay ws Q->ws.length=2:=fun _ _ h_=>by obtain⟨_,_,e_,_⟩:=h_;subst e_;rfl
theorem ay.eq(p q:List Rat)(h4:p.length<=4)(hp:∀q∈p,Dq q)(hq:∀x∈q,Dq x):ay [.d (B2 p),.d (B2 q)]=VL.ret (fr (roomB p q):DH):=by
 refine af fun Q=>⟨?_,fun q_=>⟨p,q,rfl,⟨h4,hp,hq⟩,q_⟩⟩;rintro⟨p',q',e_,_,q_⟩;simp_arith only[fA,bY,bZ,bC,bx,cn]at e_;obtain⟨rfl,rfl⟩:=e_;exact q_
theorem cX:FnScope ["one", "other"] ["one", "other"] (defScope (BB 18)):=⟨rfl,rfl,rfl,by decide +kernel,rfl,by decide +kernel,by decide +kernel⟩
theorem d_room_above_both(Fn:FnIn K mg "room_above_both" (BB 18) ["one", "other"])(Z:Bz mg)(d_product_of:∀rl,Dfn P w K mg base rl "product_of" ["some"] 4 aJ)(d_less:∀rl,Dfn P w K mg base rl "less" ["one", "other"] 3 c5)(d_greater:∀rl,Dfn P w K mg base rl "greater" ["one", "other"] 2 bQ)(gl_ONE:GlD K mg "ONE" (pr 1 1))  : Dfn P w K mg base rl "room_above_both" ["one", "other"] 5 ay:=by
 have sc:=cX;refine Dfn.of Fn sc (ay.mono) (ay.len) (fun cdv A outer s H E hr=>(am (aE (ar (d_product_of _) (hr.mono (by decide)) (aa (bj ["x", "y"] [none,none] rfl (n8 Z.zip_ (aa (vn 0) (aa (vn 1) ab))) (fun _=>(fN (n:=2) rfl (be (ak 0 (show E7 (["x", "y"]:List Str) by decide +kernel)) (be (ak 1 (show E7 (["x", "y"]:List Str) by decide +kernel)) dn)))) (fun _=>bD) (fun _=>(ar (d_less _) (hr.mono (by decide)) (aa (k5 gl_ONE) (aa (ar (d_greater _) (hr.mono (by decide)) (aa (vn 0) (aa (vn 1) ab))) ab))))) ab))))) ?_;rintro ws Q ⟨p,q,rfl,⟨h4,hp,hq⟩,hQ⟩;refine aG ?_;have sz:=EI;simp_arith only[aj,ae,aJ.eq,c5.eq,bQ.eq,DE];refine qv ⟨rfl,rfl⟩ ?_;rw[cV];refine cD (xs:=p.zip q) (enc:=fun z=>Fb [fr z.1,fr z.2]) (fun z=>fr (1-mx z.1 z.2)) rfl ?_ (by rw[E4];omega) ?_
 · rintro⟨x,y⟩ mz;have dx:=hp x (E2 mz).1;have dy:=hq y (E2 mz).2;have h1:BX 2000 x:=dx.sm.mono (by decide);have h2:BX 2000 y:=dy.sm.mono (by decide);have h3:BX 2000 1:=AG.mono (by decide);have h4:BX 2000 (mx x y):=(sQ dx dy).sm.mono (by decide);simp_arith only[aj,ae,Ck,aJ.eq,c5.eq,bQ.eq,DE]
 · have em:(p.zip q).map (fun z=>fr (1-mx z.1 z.2))=((p.zip q).map fun z=>1-mx z.1 z.2).map fr:=by rw[Ff];rfl
   have l4:((p.zip q).map fun z=>1-mx z.1 z.2).length<=4:=by rw[DO,E4];omega
   have hs:∀x∈(p.zip q).map (fun z=>1-mx z.1 z.2),BX 190 x:=fun x mx=>by
    obtain⟨z,mz,rfl⟩:=Ev.mp mx;exact((hp _ (E2 mz).1).roomB (hq _ (E2 mz).2)).mono (by decide)
   rw[em];simp_arith only[aj,ae,aJ.eq,c5.eq,bQ.eq,DE];exact aQ hQ
noncomputable def aI:List W->(DH->Prop)->Prop:=fun ws Q=>∃(ps:List (List Rat)),ws=[.d (ptsQ ps)]/\((Pq ps))/\Q (fr (BO (sdN ps) ps))
theorem aI.mono:∀ws (Q Q':DH->Prop),(∀d,Q d->Q' d)->aI ws Q->aI ws Q':=fun _ _ _ h_=>Es fun _=>D0 (D0 (h_ _))
theorem aI.len:∀ws (Q:DH->Prop),aI ws Q->ws.length=1:=fun _ _ h_=>by obtain⟨_,e_,_⟩:=h_;subst e_;rfl
theorem aI.eq(ps:List (List Rat))(hp:Pq ps):aI [.d (ptsQ ps)]=VL.ret (fr (BO (sdN ps) ps):DH):=by
 refine af fun Q=>⟨?_,fun q_=>⟨ps,rfl,hp,q_⟩⟩;rintro⟨ps',e_,_,q_⟩;simp_arith only[fA,bY,bZ,bC,bx,cn]at e_;obtain rfl:=e_;exact q_
theorem fC:FnScope ["points", "many", "s", "wholes", "halves", "singles", "pairs"] ["points"] (defScope (BB 19)):=⟨rfl,rfl,rfl,by decide +kernel,rfl,by decide +kernel,by decide +kernel⟩
theorem d_square_miss(Fn:FnIn K mg "square_miss" (BB 19) ["points"])(Z:Bz mg)(d_product_of:∀rl,Dfn P w K mg base rl "product_of" ["some"] 4 aJ)(d_times:∀rl,Dfn P w K mg base rl "times" ["one", "other"] 3 ci)(d_sum_of:∀rl,Dfn P w K mg base rl "sum_of" ["some"] 3 cj)(d_plus:∀rl,Dfn P w K mg base rl "plus" ["one", "other"] 3 eQ)(d_sides_of:∀rl,Dfn P w K mg base rl "sides_of" ["points"] 1 bH)(d_fraction:∀rl,Dfn P w K mg base rl "fraction" ["top", "bottom"] 2 aP)(d_less:∀rl,Dfn P w K mg base rl "less" ["one", "other"] 3 c5)(d_room_above:∀rl,Dfn P w K mg base rl "room_above" ["point"] 5 a_)(d_room_above_both:∀rl,Dfn P w K mg base rl "room_above_both" ["one", "other"] 5 ay)   : Dfn P w K mg base rl "square_miss" ["points"] 6 aI:=by
 have sc:=fC
 refine Dfn.of Fn sc (aI.mono) (aI.len) (fun cdv A outer s H E hr=>(ah (gW 1 2 rfl sc.nd (aa (fB Z.len_ (aa (vn 0) ab)) (aa (ar (d_sides_of _) (hr.mono (by decide)) (aa (vn 0) ab)) ab)))
  (ah (aq 3 sc.nd (ar (d_product_of _) (hr.mono (by decide)) (aa (p5 (cH (aa (eA (aa ac (aa ac ab))) ab)) (vn 2)) ab)))
  (ah (aq 4 sc.nd (ar (d_times _) (hr.mono (by decide)) (aa (ar (d_product_of _) (hr.mono (by decide)) (aa (p5 (cH (aa (eA (aa ac (aa ac ab))) ab)) (vn 2)) ab)) (aa (ar (d_fraction _) (hr.mono (by decide)) (aa ac (aa (vn 1) ab))) ab))))
  (ah (aq 5 sc.nd (ar (d_sum_of _) (hr.mono (by decide)) (aa (bj ["point"] [none] rfl (fM (vn 0)) (fun _=>(ak 0 (show E7 (["point"]:List Str) by decide +kernel))) (fun _=>bD) (fun _=>(ar (d_room_above _) (hr.mono (by decide)) (aa (vn 0) ab)))) ab)))
  (ah (aq 6 sc.nd (ar (d_sum_of _) (hr.mono (by decide)) (aa (oh ["one", "other", "points"] [none,none,some 0] rfl (fM (vn 0)) (fun _=>(ak 0 (show E7 (["one", "other", "points"]:List Str) by decide +kernel))) (fun _=>bD) (fun _=>(fM (vn 2))) (fun _=>(ak 1 (show E7 (["one", "other", "points"]:List Str) by decide +kernel))) (fun _=>bD) (fun _=>(ar (d_room_above_both _) (hr.mono (by decide)) (aa (vn 0) (aa (vn 1) ab))))) ab)))
  (am (aE (ar (d_plus _) (hr.mono (by decide)) (aa (ar (d_less _) (hr.mono (by decide)) (aa (vn 3) (aa (ar (d_times _) (hr.mono (by decide)) (aa (vn 4) (aa (vn 5) ab))) ab))) (aa (ar (d_times _) (hr.mono (by decide)) (aa (ar (d_fraction _) (hr.mono (by decide)) (aa ac (aa (v_mul (vn 1) (vn 1)) ab))) (aa (vn 6) ab))) ab))))))))))) ?_
 rintro ws Q ⟨ps,rfl,hp,hQ⟩;refine aG ?_;have sz:=EI;have h1:=hp.lo;have h16:=hp.hi;have s4:=hp.s4;have n0:0<(ps.length:Int):=by omega
 have z1:BX 190 (qd 1 3):=(ie (k:=60) (by decide) (by decide) (by decide)).mono (by decide);have z2:BX 190 (qd 1 2):=(ie (k:=60) (by decide) (by decide) (by decide)).mono (by decide);have r3:∀q∈DT (sdN ps) (qd 1 3),BX 190 q:=fun q m=>by rw[Hs m];exact z1
 have r2:∀q∈DT (sdN ps) (qd 1 2),BX 190 q:=fun q m=>by rw[Hs m];exact z2
 have l3:(DT (sdN ps) (qd 1 3)).length<=4:=by rw[G1];exact s4
 have l2:(DT (sdN ps) (qd 1 2)).length<=4:=by rw[G1];exact s4
 have e3:(DT (sdN ps) [Fb [.int 1,.int 3]]).flatten=(DT (sdN ps) (qd 1 3)).map fr:=by rw[qj,List.map_replicate,AH]
 have e2:(DT (sdN ps) [Fb [.int 1,.int 2]]).flatten=(DT (sdN ps) (qd 1 2)).map fr:=by rw[qj,List.map_replicate,AI]
 have q3:BX 2000 (bv (DT (sdN ps) (qd 1 3))):=(hW (c:=3) (by decide) (by decide) s4).mono (by decide);have q2':=hW (c:=2) (by decide) (by decide) s4;have q2:BX 2000 (bv (DT (sdN ps) (qd 1 2))):=q2'.mono (by decide);have qn':BX 60 (qd 2 (ps.length:Int)):=ie n0 (by decide) (by omega);have qn:BX 2000 (qd 2 (ps.length:Int)):=qn'.mono (by decide);have nz:((ps.length:Int)).natAbs<2^8000:=DR (show((ps.length:Int)).natAbs<2^40 by omega) (D4 (by decide) (by decide))
 have trs:∀q∈ps.map roomQ,CI q:=fun q m=>by
  obtain⟨p,mp,rfl⟩:=Ev.mp m;exact jv (by rw[hp.len p mp];exact s4) (hp.dq p mp)
 have trp:∀q∈ps.flatMap (fun p=>ps.map fun q=>roomB p q),CI q:=fun q m=>by
  obtain⟨p,mp,m⟩:=JN.mp m;obtain⟨r,mr,rfl⟩:=Ev.mp m;exact jw (by rw[hp.len p mp];exact s4) (hp.dq p mp) (hp.dq r mr)
 have ls:(ps.map roomQ).length<=256:=by rw[DO];omega
 have lp:(ps.flatMap (fun p=>ps.map fun q=>roomB p q)).length<=256:=by
  have:∀(xs ys:List (List Rat)),(xs.flatMap fun p=>ys.map fun q=>roomB p q).length=xs.length*ys.length:=fun xs ys=>by
   induction xs with
   | nil=>simp
   | cons x xs ih=>rw[FT,D7,ih,DO,DX,Hj];omega
  rw[this];exact FA h16 h16
 have qs':=cW trs ls;have qp':=cW trp lp;have qs:BX 2000 (cw (ps.map roomQ)):=qs'.mono (by decide);have qp:BX 2000 (cw (ps.flatMap fun p=>ps.map fun q=>roomB p q)):=qp'.mono (by decide);have qh':=cO q2' qn';have qh:BX 2000 (bv (DT (sdN ps) (qd 1 2))*qd 2 (ps.length:Int)):=qh'.mono (by decide);have qhs':=cO qh' qs';have qhs:BX 2000 (bv (DT (sdN ps) (qd 1 2))*qd 2 (ps.length:Int)*cw (ps.map roomQ)):=qhs'.mono (by decide);have qd1:BX 2000 (bv (DT (sdN ps) (qd 1 3))-bv (DT (sdN ps) (qd 1 2))*qd 2 (ps.length:Int)*cw (ps.map roomQ)):=(jr (hW (c:=3) (by decide) (by decide) s4) qhs').mono (by decide);have nn0:0<(ps.length:Int)*(ps.length:Int):=Gc n0 n0
 have nn9:((ps.length:Int)*(ps.length:Int)).natAbs<2^40:=by
  have:=FA h16 h16;rw[Fj];show ps.length*ps.length<2^40;omega
 have nnz:((ps.length:Int)*(ps.length:Int)).natAbs<2^8000:=DR nn9 (D4 (by decide) (by decide));have qm':BX 60 (qd 1 ((ps.length:Int)*(ps.length:Int))):=ie nn0 (by decide) (by omega);have qm:BX 2000 (qd 1 ((ps.length:Int)*(ps.length:Int))):=qm'.mono (by decide);have qmp:BX 2000 (qd 1 ((ps.length:Int)*(ps.length:Int))*cw (ps.flatMap fun p=>ps.map fun q=>roomB p q)):=(cO qm' qp').mono (by decide);have cm:aA (ps.length:Int) (ps.length:Int):=.rt (by omega);simp_arith only[aj,ae,aJ.eq,ci.eq,cj.eq,eQ.eq,bH.eq,aP.eq,c5.eq,a_.eq,ay.eq,DE,e2,e3,DF];refine BM (cD (xs:=ps) (enc:=B2) (fun p=>fr (roomQ p)) rfl ?_ (by omega) ?_)
 · intro p mp;have h4:p.length<=4:=by rw[hp.len p mp];exact s4
   have hq:=hp.dq p mp;unfold Ck;simp_arith only[aj,ae,aJ.eq,ci.eq,cj.eq,eQ.eq,bH.eq,aP.eq,c5.eq,a_.eq,ay.eq,DE]
 · have em:ps.map (fun p=>fr (roomQ p))=(ps.map roomQ).map fr:=by rw[Ff];rfl
   rw[em];simp_arith only[aj,ae,aJ.eq,ci.eq,cj.eq,eQ.eq,bH.eq,aP.eq,c5.eq,a_.eq,ay.eq,DE,DF];refine BM (yH (xs:=ps) (enc:=B2) (fun p=>ps.map fun q=>fr (roomB p q)) rfl ?_ ?_ ?_)
   · intro p mp acc ha;rw[DO]at ha;have h4:p.length<=4:=by rw[hp.len p mp];exact s4
     have hq:=hp.dq p mp;simp_arith only[aj,ae,qz,DE];rw[dg (enc:=B2) (fun q=>some (fr (roomB p q))) ps acc ?_ ha,JR];intro q mq;have hr:=hp.dq q mq;unfold Ck;simp_arith only[aj,ae,aJ.eq,ci.eq,cj.eq,eQ.eq,bH.eq,aP.eq,c5.eq,a_.eq,ay.eq,DE]
   · have:(ps.flatMap fun p=>ps.map fun q=>fr (roomB p q)).length=(ps.flatMap (fun p=>ps.map fun q=>roomB p q)).length:=by
       rw[KG,KG];simp
     omega
   · have em:(ps.flatMap fun p=>ps.map fun q=>fr (roomB p q))=(ps.flatMap fun p=>ps.map fun q=>roomB p q).map fr:=by
       rw[List.map_flatMap];congr 1;funext p;rw[Ff];rfl
     rw[em];simp_arith only[aj,ae,aJ.eq,ci.eq,cj.eq,eQ.eq,bH.eq,aP.eq,c5.eq,a_.eq,ay.eq,DE];exact aQ hQ
noncomputable def aD:List W->(DH->Prop)->Prop:=fun ws Q=>∃(ps:List (List Rat)),ws=[.d (ptsQ ps)]/\((Pq ps)/\(2<=ps.length))/\Q (.tuple ((D8 ps.length).map fun j:Nat=>fr (BO (sdN ps) (il ps j))))
theorem aD.mono:∀ws (Q Q':DH->Prop),(∀d,Q d->Q' d)->aD ws Q->aD ws Q':=fun _ _ _ h_=>Es fun _=>D0 (D0 (h_ _))
theorem aD.len:∀ws (Q:DH->Prop),aD ws Q->ws.length=1:=fun _ _ h_=>by obtain⟨_,e_,_⟩:=h_;subst e_;rfl
theorem aD.eq(ps:List (List Rat))(hp:Pq ps)(h2:2<=ps.length):aD [.d (ptsQ ps)]=VL.ret (.tuple ((D8 ps.length).map fun j:Nat=>fr (BO (sdN ps) (il ps j))):DH):=by
 refine af fun Q=>⟨?_,fun q_=>⟨ps,rfl,⟨hp,h2⟩,q_⟩⟩;rintro⟨ps',e_,_,q_⟩;simp_arith only[fA,bY,bZ,bC,bx,cn]at e_;obtain rfl:=e_;exact q_
theorem du:FnScope ["points"] ["points"] (defScope (BB 20)):=⟨rfl,rfl,rfl,by decide +kernel,rfl,by decide +kernel,by decide +kernel⟩
theorem d_square_without(Fn:FnIn K mg "square_without" (BB 20) ["points"])(Z:Bz mg)(d_square_miss:∀rl,Dfn P w K mg base rl "square_miss" ["points"] 6 aI)   : Dfn P w K mg base rl "square_without" ["points"] 7 aD:=by
 have sc:=du;refine Dfn.of Fn sc (aD.mono) (aD.len) (fun cdv A outer s H E hr=>(am (aE (iM Z.tuple_ (aa (bj ["place", "points"] [none,some 0] rfl (aN Z.range_ (aa (fB Z.len_ (aa (vn 0) ab)) ab)) (fun _=>(ak 0 (show E7 (["place", "points"]:List Str) by decide +kernel))) (fun _=>bD) (fun _=>(ar (d_square_miss _) (hr.mono (by decide)) (aa (jk (oa (vn 1) eu (et (vn 0))) (oa (vn 1) (et (v_add (vn 0) ac)) eu)) ab)))) ab))))) ?_;rintro ws Q ⟨ps,rfl,⟨hp,h2⟩,hQ⟩;refine aG ?_;have sz:=EI;have h16:=hp.hi;simp_arith only[aj,ae,DE];refine cG (fun j=>fr (BO (sdN ps) (il ps j))) ?_ (by omega) ?_
 · intro j hj;have oo:=qu hp h2 hj;have os:=jH hp h2 hj;obtain⟨c1,c2⟩:=nB (ps:=ps) (j:=j) B2;have c3:Fb ((ps.take j).map B2++(ps.drop (j+1)).map B2)=ptsQ (il ps j):=by rw[<- E3];rfl
   have c4:(ps.take j).length+(ps.drop (j+1)).length<=sizeLine:=by rw[EU,GQ];omega
   unfold Ck;simp_arith only[aj,ae,aI.eq,DE,F0,c1,c2,c3,c4,os]
 · exact aQ hQ
noncomputable def av:List W->(DH->Prop)->Prop:=fun ws Q=>∃(qs:List Rat),ws=[.reel,.d (.list (qs.map fr))]/\((∀q∈qs,Dq q)/\(qs.length<1000))/\∀q:Rat,(Dq q)->Q (fr q)
theorem av.mono:∀ws (Q Q':DH->Prop),(∀d,Q d->Q' d)->av ws Q->av ws Q':=fun _ _ _ h_=>Es fun _=>D0 (D0 fun q_ o_ ho_=>h_ _ (q_ o_ ho_))
theorem av.len:∀ws (Q:DH->Prop),av ws Q->ws.length=2:=fun _ _ h_=>by obtain⟨_,e_,_⟩:=h_;subst e_;rfl
theorem av.eq(qs:List Rat)(hq:∀q∈qs,Dq q)(hl:qs.length<1000):av [.reel,.d (.list (qs.map fr))]=Cy (anyM fun q:Rat=>Dq q) fun q=>VL.ret (fr q:DH):=by
 refine af fun Q=>⟨?_,fun q_=>⟨qs,rfl,⟨hq,hl⟩,q_⟩⟩;rintro⟨qs',e_,_,q_⟩;simp_arith only[fA,bY,bZ,bC,bx,cn]at e_;obtain rfl:=e_;exact q_
theorem cJ:FnScope ["_law_feed_here", "_law_seen", "_law_way", "_law_bottom_here", "_law_top"] ["_law_feed_here", "_law_seen"] (defScope (BB 25)):=⟨rfl,rfl,rfl,by decide +kernel,rfl,by decide +kernel,by decide +kernel⟩
theorem d__law_small_number(Fn:FnIn K mg "_law_small_number" (BB 25) ["_law_feed_here", "_law_seen"])(Z:Bz mg)(d__law_draw:∀rl,Dfn P w K mg base rl "_law_draw" ["_law_feed_here", "_law_many"] 1 bc)(d__law_frac:∀rl,Dfn P w K mg base rl "_law_frac" ["_law_top", "_law_bottom_here"] 1 ba)   : Dfn P w K mg base rl "_law_small_number" ["_law_feed_here", "_law_seen"] 2 av:=by
 have sc:=cJ
 refine Dfn.of Fn sc (av.mono) (av.len) (fun cdv A outer s H E hr=>(ah (aq 2 sc.nd (ar (d__law_draw _) (hr.mono (by decide)) (aa (vn 0) (aa ac ab))))
  (ah (dP (bJ (lZ hr.units) fL (bA _) (vn 2) ac) (am (aE (eA (aa ac (aa ac ab))))) cu)
  (ah (dP (Dc.pb (p4 (bJ oM nZ (bA _) (vn 2) ac) (kZ (bJ (lY hr.units) fL (bA _) (vn 1) (cH ab))))) (am (aE (bK (vn 1) (ar (d__law_draw _) (hr.mono (by decide)) (aa (vn 0) (aa (fB Z.len_ (aa (vn 1) ab)) ab)))))) cu)
  (ah (aq 3 sc.nd (bK (cH (aa ac (aa ac (aa ac (aa ac (aa ac (aa ac (aa ac (aa ac ab))))))))) (ar (d__law_draw _) (hr.mono (by decide)) (aa (vn 0) (aa ac ab)))))
  (ah (aq 4 sc.nd (ar (d__law_draw _) (hr.mono (by decide)) (aa (vn 0) (aa (vn 3) ab))))
  (am (aE (ar (d__law_frac _) (hr.mono (by decide)) (aa (bK (cH (aa (vn 4) (aa (vn 4) (aa (v_sub (vn 3) ac) (aa ac ab))))) (ar (d__law_draw _) (hr.mono (by decide)) (aa (vn 0) (aa ac ab)))) (aa (vn 3) ab))))))))))) ?_
 rintro ws Q ⟨qs,rfl,⟨hq,hl⟩,hQ⟩;refine aG ?_;have sz:=EI;have eqi:∀i j:Int,FR (.int i) (.int j)=(i==j):=fun i j=>by simp[FR]
 simp_arith only[aj,ae,cx,cy,bE,cz,bF,aX,DE,bc.eq,eqi]
 (with_reducible (first|refine aB fun a ha=>?_|refine aO fun a ha=>?_))
 simp_arith only[aj,ae,cx,cy,bE,cz,bF,aX,DE,bc.eq,eqi,AU];refine c_ (fun _=>aQ (hQ 0 Cw)) fun _=>?_;refine c_ (fun _=>?_) fun _=>?_
 · refine de (ku qs) ?_;refine c_ (fun h=>?_) fun _=>?_
   · have q1:1<=qs.length:=by
       cases qs with
       | nil=>exact absurd h (by decide)
       | cons _ _=>exact Nat.le_add_left _ _
     simp_arith only[aj,ae,cx,cy,bE,cz,bF,aX,DE,bc.eq]
     (with_reducible (first|refine aB fun b hb=>?_|refine aO fun b hb=>?_))
     obtain⟨z,ez,mz⟩:=tP (xs:=qs) hb.1 hb.2;rw[dG,ez];simp_arith only[aj,ae];exact aQ (hQ _ (hq z mz))
   · (with_reducible (first|refine aB fun b hb=>?_|refine aO fun b hb=>?_))
     refine BL (cF (xs:=[2,3,4,6,10,97,360,9999]) (enc:=D5) (fun y:Int=>2<=y/\y<=9999/\KB%y=0) rfl hb.1 (by simpa using hb.2) (by decide +kernel) ?_);intro y hy;obtain⟨y2,y9,yk⟩:=hy;have yk:=JF yk;have y0:0<y:=by omega
     have yz:y.natAbs<2^8000:=DR (show y.natAbs<2^41 by omega) (D4 (by decide) (by decide));simp_arith only[aj,ae,cx,cy,bE,cz,bF,aX,DE,bc.eq]
     (with_reducible (first|refine aB fun t ht=>?_|refine aO fun t ht=>?_))
     try simp_arith only[aj,ae,cx,cy,bE,cz,bF,aX,DE,bc.eq]
     (with_reducible (first|refine aB fun e he=>?_|refine aO fun e he=>?_))
     refine cF (xs:=[t,t,y-1,1]) (enc:=D5) (fun z:Int=>0<=z/\z<y) rfl he.1 (by simpa using he.2) (by intro z hz;simp at hz;omega) fun z hz=>?_;simp_arith only[aj,ae,ba.eq];exact aQ (hQ _ (cc hz.1 hz.2 yk))
 · (with_reducible (first|refine aB fun b hb=>?_|refine aO fun b hb=>?_))
   refine BL (cF (xs:=[2,3,4,6,10,97,360,9999]) (enc:=D5) (fun y:Int=>2<=y/\y<=9999/\KB%y=0) rfl hb.1 (by simpa using hb.2) (by decide +kernel) ?_);intro y hy;obtain⟨y2,y9,yk⟩:=hy;have yk:=JF yk;have y0:0<y:=by omega
   have yz:y.natAbs<2^8000:=DR (show y.natAbs<2^41 by omega) (D4 (by decide) (by decide));simp_arith only[aj,ae,cx,cy,bE,cz,bF,aX,DE,bc.eq]
   (with_reducible (first|refine aB fun t ht=>?_|refine aO fun t ht=>?_))
   try simp_arith only[aj,ae,cx,cy,bE,cz,bF,aX,DE,bc.eq]
   (with_reducible (first|refine aB fun e he=>?_|refine aO fun e he=>?_))
   refine cF (xs:=[t,t,y-1,1]) (enc:=D5) (fun z:Int=>0<=z/\z<y) rfl he.1 (by simpa using he.2) (by intro z hz;simp at hz;omega) fun z hz=>?_;simp_arith only[aj,ae,ba.eq];exact aQ (hQ _ (cc hz.1 hz.2 yk))
noncomputable def aS:List W->(DH->Prop)->Prop:=fun ws Q=>∃(i j:Int),ws=[.d (.int i),.d (.int j)]/\((0<=i)/\(0<=j))/\Q (.int (Et i j:Nat))
theorem aS.mono:∀ws (Q Q':DH->Prop),(∀d,Q d->Q' d)->aS ws Q->aS ws Q':=fun _ _ _ h_=>Es fun _=>Es fun _=>D0 (D0 (h_ _))
theorem aS.len:∀ws (Q:DH->Prop),aS ws Q->ws.length=2:=fun _ _ h_=>by obtain⟨_,_,e_,_⟩:=h_;subst e_;rfl
theorem aS.eq(i j:Int)(hi:0<=i)(hj:0<=j):aS [.d (.int i),.d (.int j)]=VL.ret (.int (Et i j:Nat):DH):=by
 refine af fun Q=>⟨?_,fun q_=>⟨i,j,rfl,⟨hi,hj⟩,q_⟩⟩;rintro⟨i',j',e_,_,q_⟩;simp_arith only[and_true]at e_;obtain⟨rfl,rfl⟩:=e_;exact q_
theorem fE:FnScope ["_law_one", "_law_other"] ["_law_one", "_law_other"] (defScope (BB 27)):=⟨rfl,rfl,rfl,by decide +kernel,rfl,by decide +kernel,by decide +kernel⟩
theorem d__law_shared(Fn:FnIn K mg "_law_shared" (BB 27) ["_law_one", "_law_other"])(Z:Bz mg)    : Dfn P w K mg base rl "_law_shared" ["_law_one", "_law_other"] 1 aS:=by
 have sc:=fE
 refine Dfn.of Fn sc (aS.mono) (aS.len) (fun cdv A outer s H E hr=>(ah (d_ [] EE (bJ oN n6 (bA _) (vn 1) ac) (am (gW 0 1 rfl sc.nd (aa (vn 1) (aa (v_mod (vn 0) (vn 1)) ab)))))
  (am (aE (vn 0))))) ?_
 rintro ws Q ⟨i,j,rfl,⟨hi,hj⟩,hQ⟩;refine aG ?_;simp_arith only[ae];refine gi (σ:=Int×Int) (fun s=>[some (.d (.int s.1)),some (.d (.int s.2))]) (fun s=>decide (0<s.2)) (fun s=>(s.2,s.1.fmod s.2)) (fun s=>s.2.natAbs) (fun s=>0<=s.1/\0<=s.2/\Et s.1 s.2=Et i j) (i,j) rfl ⟨hi,hj,rfl⟩ ?_ ?_ ?_
 · intro s _;simp_arith only[ae]
 · rintro⟨x,y⟩ ⟨x0,y0,e⟩ c;have c1:0<y:=by simpa using c
   have hc:y≠0:=by omega
   refine⟨⟨y0,FQ _ c1,by rw[gK];exact e⟩,cS hc,_,by(simp_arith only[aj,ae])<;>rfl,rfl⟩
 · rintro⟨x,y⟩ ⟨x0,y0,e⟩ c
   have c1 : y = 0 := by have:¬0<y:=by simpa using c
                         have:0<=y:=y0;omega
   subst c1;have x0:0<=x:=x0;have e:Et x 0=Et i j:=e;simp_arith only[ae];rw[IS]at e;have:x=((Et i j:Nat):Int):=by omega
   rw[this];exact aQ hQ
noncomputable def aT:List W->(DH->Prop)->Prop:=fun ws Q=>∃(ps:List (List Rat))(j:Int),ws=[.d (ptsQ ps),.d (.int j)]/\((0<=j)/\(∀p∈ps,j.toNat<p.length)/\(∀p∈ps,∀q∈p,Dq q))/\∀B:Int,(DA ps j.toNat B)->Q (.int B)
theorem aT.mono:∀ws (Q Q':DH->Prop),(∀d,Q d->Q' d)->aT ws Q->aT ws Q':=fun _ _ _ h_=>Es fun _=>Es fun _=>D0 (D0 fun q_ o_ ho_=>h_ _ (q_ o_ ho_))
theorem aT.len:∀ws (Q:DH->Prop),aT ws Q->ws.length=2:=fun _ _ h_=>by obtain⟨_,_,e_,_⟩:=h_;subst e_;rfl
theorem aT.eq(ps:List (List Rat))(j:Int)(j0:0<=j)(hj:∀p∈ps,j.toNat<p.length)(hq:∀p∈ps,∀q∈p,Dq q):aT [.d (ptsQ ps),.d (.int j)]=Cy (anyM fun B:Int=>DA ps j.toNat B) fun B=>VL.ret (.int B:DH):=by
 refine af fun Q=>⟨?_,fun q_=>⟨ps,j,rfl,⟨j0,hj,hq⟩,q_⟩⟩;rintro⟨ps',j',e_,_,q_⟩;simp_arith only[fA,bY,bZ,bC,bx,cn]at e_;obtain⟨rfl,rfl⟩:=e_;exact q_
theorem fF:FnScope ["_law_points_told", "_law_side", "_law_bottom_here", "_law_point"] ["_law_points_told", "_law_side"] (defScope (BB 28)):=⟨rfl,rfl,rfl,by decide +kernel,rfl,by decide +kernel,by decide +kernel⟩
theorem d__law_bottom(Fn:FnIn K mg "_law_bottom" (BB 28) ["_law_points_told", "_law_side"])(Z:Bz mg)(d__law_shared:∀rl,Dfn P w K mg base rl "_law_shared" ["_law_one", "_law_other"] 1 aS)   : Dfn P w K mg base rl "_law_bottom" ["_law_points_told", "_law_side"] 2 aT:=by
 have sc:=fF
 refine Dfn.of Fn sc (aT.mono) (aT.len) (fun cdv A outer s H E hr=>(ah (aq 2 sc.nd ac)
  (ah (bM [3] EE rfl (fM (vn 0)) (ak 3 sc.nd) (am (aq 2 sc.nd (v_mul (vn 2) (v_div (bK (bK (vn 3) (vn 1)) ac) (ar (d__law_shared _) (hr.mono (by decide)) (aa (vn 2) (aa (bK (bK (vn 3) (vn 1)) ac) ab))))))))
  (am (aE (vn 2)))))) ?_
 rintro ws Q ⟨ps,j,rfl,⟨j0,hj,hq⟩,hQ⟩;refine aG ?_;simp_arith only[aj,ae,DE];refine da (xs:=ps) (enc:=B2) (fun i ρ=>∃B:Int,DA (ps.take i) j.toNat B/\ρ=[some (.d (ptsQ ps)),some (.d (.int j)),some (.d (.int B)),none]) rfl ⟨1,⟨by decide,Int.one_dvd _,fun p m=>(by cases m)⟩,rfl⟩ ?_ ?_
 · rintro i hi ρ ⟨B,⟨b0,bk,bd⟩,rfl⟩ K hK;have mi:=Ep hi;have jl:=hj _ mi
   have ep:L2.atI ps[i] j=some (ps[i].getD j.toNat 0):=by
    obtain⟨k,rfl⟩:=EF j0;refine fg ?_;rw[Eh]at *;rw[D1,DP jl];rfl
   have dq:Dq (ps[i].getD j.toNat 0):=hq _ mi _ (by rw[D1,DP jl];exact Ep jl);have tk:ps.take (i+1)=ps.take i++[ps[i]]:=Ej hi;generalize eq:ps[i].getD j.toNat 0=q at *;have d0:=fI q;have d00:0<=(q.den:Int):=by omega
   have b00:0<=B:=by omega
   have dl:=dq.dl;have bl:B<=KB:=G_ (by decide) bk;have kl:=pW;have gp:(0:Int)<(Et B q.den:Int):=by have:=GX B (show(q.den:Int)≠0 by omega);omega
   have gl:(Et B q.den:Int)<=q.den:=G_ d0 (Int.gcd_dvd_right ..);have cd:cU (q.den:Int) (Et B q.den:Int):=.of (by omega) (by omega);have ef:(q.den:Int).fdiv (Et B q.den:Int)=(q.den:Int) / (Et B q.den:Int):=Fp _ (by omega);have q0:0<=(q.den:Int) / (Et B q.den:Int):=IG (by omega) (by omega);have q1:(q.den:Int) / (Et B q.den:Int)<=q.den:=H0 _ (by omega);have cm:aA B ((q.den:Int) / (Et B q.den:Int)):=.rt (by omega);obtain⟨s1,s2,s3,s4⟩:=jQ b0 d0 bk dq.1;simp_arith only[aj,ae,aS.eq,DE,ep,ef];refine hK _ (cb ⟨_,⟨s1,s2,fun p m=>?_⟩,rfl⟩);rw[tk]at m;rcases EW.mp m with m|m
   · exact Ik (bd p m) s3
   · cases Er.mp m;rw[eq];exact s4
 · rintro ρ ⟨B,hB,rfl⟩;rw[D6 (DQ _)]at hB;simp_arith only[aj,ae];exact aQ (hQ B hB)
noncomputable def qI(cols:List (List Rat)):List (List DH):=cols.map fun c=>c.map fr
theorem qH{cols:List (List Rat)}(h:n<cols.length):(qI cols)[n]?=some (cols[n].map fr):=by unfold qI;rw[Ez,DP h];rfl
theorem tM{cols:List (List Rat)}(h:n<cols.length):(qI cols).set n (cols[n].map fr++[fr q])=qI (cols.set n (cols[n]++[q])):=by unfold qI;rw[List.map_set,E3];rfl
noncomputable def Ag(s i n:Nat)(cols:List (List Rat)):Prop:=cols.length=s/\(∀j (h:j<cols.length),cols[j].length<=i+(if j<n then 1 else 0))/\∀c∈cols,∀q∈c,Dq q
theorem ia{y:DH}(h:(aF 0 n)[i]?=some y):i<n/\y = .int (i:Int):=by
 have e:aF 0 n=(D8 n).map fun j:Nat=>D5 (0+(j:Int)):=rfl;rw[e,Ez]at h
 cases q:(D8 n)[i]? with
 | none=>rw[q]at h;cases h
 | some z =>
   rw[q]at h;obtain⟨hl,hz⟩:=Ec.mp q;rw[EX]at hl;rw[GY]at hz;subst hz;cases h;exact⟨hl,by show D5 (0+(i:Int))=_;rw[F0]⟩
noncomputable def au:List W->(DH->Prop)->Prop:=fun ws Q=>∃(s m:Int),ws=[.reel,.d (.int s),.d (.int m)]/\((1<=s)/\(s<=4)/\(1<=m)/\(m<=16))/\∀ps:List (List Rat),(ps.length=m.toNat/\Pg s.toNat ps)->Q (ptsQ ps)
theorem au.mono:∀ws (Q Q':DH->Prop),(∀d,Q d->Q' d)->au ws Q->au ws Q':=fun _ _ _ h_=>Es fun _=>Es fun _=>D0 (D0 fun q_ o_ ho_=>h_ _ (q_ o_ ho_))
theorem au.len:∀ws (Q:DH->Prop),au ws Q->ws.length=3:=fun _ _ h_=>by obtain⟨_,_,e_,_⟩:=h_;subst e_;rfl
theorem au.eq(s m:Int)(s1:1<=s)(s4:s<=4)(m1:1<=m)(m6:m<=16):au [.reel,.d (.int s),.d (.int m)]=Cy (anyM fun ps:List (List Rat)=>ps.length=m.toNat/\Pg s.toNat ps) fun ps=>VL.ret (ptsQ ps:DH):=by
 refine af fun Q=>⟨?_,fun q_=>⟨s,m,rfl,⟨s1,s4,m1,m6⟩,q_⟩⟩;rintro⟨s',m',e_,_,q_⟩;simp_arith only[fA,bY,bZ,bC,bx,cn]at e_;obtain⟨rfl,rfl⟩:=e_;exact q_
theorem cI:FnScope ["_law_feed_here", "_law_s", "_law_many", "_law_columns", "_law_found", "_law_j", "_law_point", "_law_k", "_law_x"] ["_law_feed_here", "_law_s", "_law_many"] (defScope (BB 26)):=⟨rfl,rfl,rfl,by decide +kernel,rfl,by decide +kernel,by decide +kernel⟩
theorem d__law_small_points(Fn:FnIn K mg "_law_small_points" (BB 26) ["_law_feed_here", "_law_s", "_law_many"])(Z:Bz mg)(d__law_small_number:∀rl,Dfn P w K mg base rl "_law_small_number" ["_law_feed_here", "_law_seen"] 2 av)   : Dfn P w K mg base rl "_law_small_points" ["_law_feed_here", "_law_s", "_law_many"] 3 au:=by
 have sc:=cI;refine Dfn.of Fn sc (au.mono) (au.len) (fun cdv A outer s H E hr=>(yf 3 sc.nd ["_law_k"] [none] rfl (aN Z.range_ (aa (vn 1) ab)) (fun _=>ak 0 (show E7 (["_law_k"]:List Str) by decide +kernel)) (c7 (vY (gU 4 sc.nd (cH ab))) (c7 (v6 EE rfl (aN Z.range_ (aa (vn 2) ab)) (ak 5 sc.nd) (c7 (vY (aq 6 sc.nd (eA ab))) (c7 (v6 EE rfl (aN Z.range_ (aa (vn 1) ab)) (ak 7 sc.nd) (c7 (vZ 8 0 3 7 sc.nd (d__law_small_number _) (hr.mono (by decide))) (c7 (yi 3 7 8) (c7 (vY (aq 6 sc.nd (jk (vn 6) (eA (aa (vn 8) ab))))) sR)))) (c7 (vY (kS 4 (aa (vn 6) ab))) sR)))) (c7 (vY (aE (iM Z.tuple_ (aa (vn 4) ab)))) sR))))) ?_;rintro ws Q ⟨s,m,rfl,⟨s1,s4,m1,m6⟩,hQ⟩;have sz:=EI;have gs : -(2^62)<=s/\s<2^62:=by omega
 have gm : -(2^62)<=m/\m<2^62:=by omega
 unfold Cd
 have e0:Cp (aC (dr 1) iN) [some .reel,some (.d (.int s)),some (.d (.int m)),none,none,none,none,none,none]=VL.ret (aF 0 s.toNat):=by
  simp_arith only[aj,ae]
 refine(show Cp (aC (dr 1) iN) [some .reel,some (.d (.int s)),some (.d (.int m)),none,none,none,none,none,none] _ from ?_);rw[e0];refine⟨sP rfl,fun x=>by show Le [none] [some (.d x)];rw[le_cn,le_nil];trivial,by rw[bw];omega,fun a=>im ?_⟩;rw[bw];simp_arith only[aj,ae];refine oQ ?_;dsimp only;refine cB ?_
 have e1:Cp (aC (dr 2) iN) [some .reel,some (.d (.int s)),some (.d (.int m)),some (.vv (.ref a)),some (.ml []),none,none,none,none]=VL.ret (aF 0 m.toNat):=by
  simp_arith only[aj,ae]
 refine l_ ?_;rw[e1];refine⟨fun i xss ρ=>∃(cols bs:List (List Rat))(o5 o6 o7 o8:Option W),xss=qI cols/\Ag s.toNat i 0 cols/\bs.length=i/\Pg s.toNat bs/\ρ=[some .reel,some (.d (.int s)),some (.d (.int m)),some (.vv (.ref a)),some (.ml (bs.map B2)),o5,o6,o7,o8],?_,?_,?_⟩
 · exact⟨DT s.toNat [],[],none,none,none,none,by simp[qI],⟨by simp,by simp,by simp⟩,rfl,by simp[Pg],rfl⟩
 · rintro i y xss ρ ey ⟨cols,bs,o5,o6,o7,o8,rfl,hc,hb,hp,rfl⟩;obtain⟨hi,rfl⟩:=ia ey;refine wm ?_;dsimp only;refine cB (im ?_);simp_arith only[aj,ae];refine oQ ?_;dsimp only;refine cB ?_;refine l_ ?_
   have e2:Cp (aC (dr 1) iN) [some .reel,some (.d (.int s)),some (.d (.int m)),some (.vv (.ref a)),some (.ml (bs.map B2)),some (.d (.int (i:Int))),some (.d (.tuple [])),o7,o8]=VL.ret (aF 0 s.toNat):=by
    simp_arith only[aj,ae]
   rw[e2];refine⟨fun n xss ρ=>∃(cols:List (List Rat))(pt:List Rat)(o7 o8:Option W),xss=qI cols/\Ag s.toNat i n cols/\pt.length=n/\(∀q∈pt,Dq q)/\ρ=[some .reel,some (.d (.int s)),some (.d (.int m)),some (.vv (.ref a)),some (.ml (bs.map B2)),some (.d (.int (i:Int))),some (.d (B2 pt)),o7,o8],⟨cols,[],o7,o8,rfl,hc,rfl,by simp,rfl⟩,?_,?_⟩
   · rintro n y xss ρ ey ⟨cols,pt,o7,o8,rfl,⟨cl,c1,c2⟩,pl,hpt,rfl⟩;obtain⟨hn,rfl⟩:=ia ey;have hnl:n<cols.length:=by omega
     refine wm ?_;dsimp only;refine cB ⟨rfl,rfl,n,_,rfl,qH hnl,?_⟩
     · have hq:∀q∈cols[n],Dq q:=c2 _ (Ep hnl);have hl:cols[n].length<1000:=by have:=c1 n hnl;rw[if_neg (by omega)]at this;omega
       try rw[av.eq _ hq hl]
       intro q hqq;refine⟨⟨q.num,q.den,rfl⟩,?_⟩;dsimp only;refine cB ⟨rfl,n,_,_,rfl,qH hnl,rfl,by rw[DO];omega,?_⟩;rw[tM hnl];dsimp only;refine cB (im ?_);have pl4:pt.length+1<=sizeLine:=by omega
       simp_arith only[aj,ae,DE];refine oQ ?_;dsimp only;refine jL ?_;dsimp only;refine⟨cols.set n (cols[n]++[q]),pt++[q],some (.d (.int (n:Int))),some (.d (fr q)),rfl,⟨by simp[cl],fun j hj=>?_,fun c mc r mr=>?_⟩,by simp[pl],fun r mr=>?_,by simp[B2,E3]⟩
       · by_cases e:n=j
         · subst e;rw[List.getElem_set_self,D7,if_pos (by omega)];have:=c1 n hnl;rw[if_neg (by omega)]at this;simp;omega
         · rw[List.getElem_set_ne e];have:=c1 j (by simpa using hj);by_cases l:j<n
           · rw[if_pos l]at this;rw[if_pos (by omega)];exact this
           · rw[if_neg l]at this;rw[if_neg (by omega)];exact this
       · rcases List.mem_or_eq_of_mem_set mc with h|h
         · exact c2 c h r mr
         · subst h;rcases EW.mp mr with h|h
           · exact hq r h
           · cases Er.mp h;exact hqq
       · rcases EW.mp mr with h|h
         · exact hpt r h
         · cases Er.mp h;exact hqq
   · rintro xss ρ ⟨cols,pt,o7,o8,rfl,hc,pl,hpt,rfl⟩;rw[bw]at pl hc;dsimp only;refine cB (im ?_);have bl:bs.length<sizeLine:=by omega
     simp_arith only[aj,ae,DE];refine oQ ?_;dsimp only;refine jL ?_;dsimp only;refine⟨cols,bs++[pt],some (.d (.int (i:Int))),some (.d (B2 pt)),o7,o8,rfl,⟨hc.1,fun j hj=>?_,hc.2.2⟩,by simp[hb],fun p mp=>?_,by simp[E3]⟩
     · have:=hc.2.1 j hj;split at this<;>simp<;>omega
     · rcases EW.mp mp with h|h
       · exact hp p h
       · cases Er.mp h;exact⟨pl,hpt⟩
 · rintro xss ρ ⟨cols,bs,o5,o6,o7,o8,rfl,hc,hb,hp,rfl⟩;rw[bw]at hb;dsimp only;refine cB (im ?_);have ls:bs.length<=sizeLine:=by omega
   simp_arith only[aj,ae,DE,uG];exact yg ⟨_,rfl,hQ bs ⟨hb,hp⟩⟩
noncomputable def aM:List W->(DH->Prop)->Prop:=fun ws Q=>∃(ms:List Nat),ws=[.d (.list (ms.map fun m:Nat=>D5 (m:Int)))]/\((ms.length<=4)/\(ms.foldr (· * ·) 1<=1000)/\(∀m∈ms,1<=m/\m<=1000))/\Q (.list ((prodL ms).map B1))
theorem aM.mono:∀ws (Q Q':DH->Prop),(∀d,Q d->Q' d)->aM ws Q->aM ws Q':=fun _ _ _ h_=>Es fun _=>D0 (D0 (h_ _))
theorem aM.len:∀ws (Q:DH->Prop),aM ws Q->ws.length=1:=fun _ _ h_=>by obtain⟨_,e_,_⟩:=h_;subst e_;rfl
theorem aM.eq(ms:List Nat)(h4:ms.length<=4)(hM:ms.foldr (· * ·) 1<=1000)(h1:∀m∈ms,1<=m/\m<=1000):aM [.d (.list (ms.map fun m:Nat=>D5 (m:Int)))]=VL.ret (.list ((prodL ms).map B1):DH):=by
 refine af fun Q=>⟨?_,fun q_=>⟨ms,rfl,⟨h4,hM,h1⟩,q_⟩⟩;rintro⟨ms',e_,_,q_⟩;simp_arith only[fA,bY,bZ,bC,bx,cn,AJ]at e_;obtain rfl:=e_;exact q_
theorem eF:FnScope ["_law_lasts", "_law_found", "_law_many", "_law_longer", "_law_row"] ["_law_lasts"] (defScope (BB 29)):=⟨rfl,rfl,rfl,by decide +kernel,rfl,by decide +kernel,by decide +kernel⟩
theorem d__law_patches(Fn:FnIn K mg "_law_patches" (BB 29) ["_law_lasts"])(Z:Bz mg)    : Dfn P w K mg base rl "_law_patches" ["_law_lasts"] 1 aM:=by
 have sc:=eF
 refine Dfn.of Fn sc (aM.mono) (aM.len) (fun cdv A outer s H E hr=>(ah (aq 1 sc.nd (cH (aa (eA ab) ab)))
  (ah (bM [2,3,4] EE rfl (bW (vn 0)) (ak 2 sc.nd) (ah (gU 3 sc.nd (cH ab))
  (ah (bM [4] EE rfl (bW (vn 1)) (ak 4 sc.nd) (am (ua 3 (aa (bj ["_law_k", "_law_row"] [none,some 4] rfl (aN Z.range_ (aa (vn 2) ab)) (fun _=>(ak 0 (show E7 (["_law_k", "_law_row"]:List Str) by decide +kernel))) (fun _=>bD) (fun _=>(jk (vn 1) (eA (aa (vn 0) ab))))) ab))))
  (am (jg 3 (aq 1 sc.nd (vn 3)))))))
  (am (aE (vn 1)))))) ?_
 rintro ws Q ⟨ms,rfl,⟨h4,hM,h1⟩,hQ⟩;refine aG ?_;have sz:=EI;simp_arith only[aj,ae];refine da (xs:=ms) (enc:=fun m:Nat=>D5 (m:Int)) (fun i ρ=>ρ=[some (.d (.list (ms.map fun m:Nat=>D5 (m:Int)))),some (.d (.list ((prodL (ms.take i)).map B1))),none,none,none]) rfl rfl ?_ ?_
 · rintro i hi ρ rfl K hK;obtain⟨m1,m9⟩:=h1 _ (Ep hi);have tk:ms.take (i+1)=ms.take i++[ms[i]]:=Ej hi;have cd:=dA (ms.take i);have cl:(ms.take i).foldr (· * ·) 1*ms[i]<=1000:=lc (fun m mm=>(h1 m mm).1) hM hi;have pl:∀pt∈prodL (ms.take i),pt.length=i:=fun pt mp=>by rw[(b6 mp).1,EU];omega
   have ps1:=kz (ms.take i) ms[i];rw[<- tk]at ps1;generalize ms[i]=m at *;rw[<- cd]at cl;simp_arith only[aj,ae,Eh];refine AV (da (xs:=prodL (ms.take i)) (enc:=B1) (fun j ρ=>ρ=[some (.d (.list (ms.map fun m:Nat=>D5 (m:Int)))),some (.d (.list ((prodL (ms.take i)).map B1))),some (.d (.int (m:Int))),some (.ml ((((prodL (ms.take i)).take j).flatMap fun r=>(D8 m).map fun k=>r++[k]).map B1)),none]) rfl rfl ?_ ?_)
   · rintro j hj ρ rfl K2 hK2;have rl:=pl _ (Ep hj);have tj:(prodL (ms.take i)).take (j+1)=(prodL (ms.take i)).take j++[(prodL (ms.take i))[j]]:=Ej hj;have lj:=jW m ((prodL (ms.take i)).take j);rw[EU]at lj
     have lm:min j (prodL (ms.take i)).length*m+m<=1000:=by
      have:=Ie m (show j+1<=(prodL (ms.take i)).length by omega);rw[Hj,Lv]at this;rw[G4 (by omega)];omega
     generalize (prodL (ms.take i))[j]=r at *;simp_arith only[aj,ae,Eh];refine cG (fun k=>B1 (r++[k])) ?_ (by omega) ?_
     · intro k hk;have rz:r.length+1<=sizeLine:=by omega
       unfold Ck;simp_arith only[aj,ae,B1,F0,rz];rw[E3];rfl
     · have gl:(((prodL (ms.take i)).take j).flatMap fun r=>(D8 m).map fun k=>r++[k]).length+m<=sizeLine:=by omega
       simp_arith only[aj,ae,EX,gl];refine hK2 _ (cb ?_);rw[tj,KC,E3]
       have e:(List.flatMap (fun r=>(D8 m).map fun k=>r++[k]) [r]).map B1=(D8 m).map fun k=>B1 (r++[k]):=by
        rw[FT,List.flatMap_nil,FY,Ff];rfl
       rw[e];rfl
   · rintro ρ rfl;rw[D6 (DQ _),<- ps1];simp_arith only[aj,ae];exact hK _ (cb rfl)
 · rintro ρ rfl;rw[D6 (DQ _)];simp_arith only[aj,ae];exact aQ hQ
noncomputable def az:List W->(DH->Prop)->Prop:=fun ws Q=>∃(r l:List Int),ws=[.d (.list (r.map .int)),.d (.list (l.map .int))]/\((r.length<=60))/\Q (.bool (B_ r l))
theorem az.mono:∀ws (Q Q':DH->Prop),(∀d,Q d->Q' d)->az ws Q->az ws Q':=fun _ _ _ h_=>Es fun _=>Es fun _=>D0 (D0 (h_ _))
theorem az.len:∀ws (Q:DH->Prop),az ws Q->ws.length=2:=fun _ _ h_=>by obtain⟨_,_,e_,_⟩:=h_;subst e_;rfl
theorem az.eq(r l:List Int)(h4:r.length<=60):az [.d (.list (r.map .int)),.d (.list (l.map .int))]=VL.ret (.bool (B_ r l):DH):=by
 refine af fun Q=>⟨?_,fun q_=>⟨r,l,rfl,h4,q_⟩⟩;rintro⟨r',l',e_,_,q_⟩;simp_arith only[fA,bY,bZ,bC,bx,cn,wk]at e_;obtain⟨rfl,rfl⟩:=e_;exact q_
theorem cY:FnScope ["_law_row", "_law_lows"] ["_law_row", "_law_lows"] (defScope (BB 30)):=⟨rfl,rfl,rfl,by decide +kernel,rfl,by decide +kernel,by decide +kernel⟩
theorem d__law_none_above(Fn:FnIn K mg "_law_none_above" (BB 30) ["_law_row", "_law_lows"])(Z:Bz mg)    : Dfn P w K mg base rl "_law_none_above" ["_law_row", "_law_lows"] 1 az:=by
 have sc:=cY;refine Dfn.of Fn sc (az.mono) (az.len) (fun cdv A outer s H E hr=>(am (aE (rh (lX hr.u65) uc (by with_unfolding_all rfl) lK (bj ["_law_one", "_law_low"] [none,none] rfl (jh Z.zip_ (aa (vn 0) (aa (vn 1) ab))) (fun _=>(fN (n:=2) rfl (be (ak 0 (show E7 (["_law_one", "_law_low"]:List Str) by decide +kernel)) (be (ak 1 (show E7 (["_law_one", "_law_low"]:List Str) by decide +kernel)) dn)))) (fun _=>bD) (fun _=>(rh yc xp (bA _) (vn 0) (vn 1)))))))) ?_;rintro ws Q ⟨r,l,rfl,h4,hQ⟩;refine aG ?_;have sz:=EI;have s0:E9 (.bool false)=true:=rfl;simp_arith only[aj,ae,s0];rw[cV];refine cD (xs:=r.zip l) (enc:=fun z=>Fb [.int z.1,.int z.2]) (fun z=>.bool (decide (z.1<=z.2))) rfl ?_ (by rw[E4];omega) ?_
 · rintro⟨x,y⟩ mz;unfold Ck;simp_arith only[aj,ae]
 · have an:=nP (fun z:Int×Int=>decide (z.1<=z.2)) (r.zip l);have cl:=wJ (fun z:Int×Int=>decide (z.1<=z.2)) (r.zip l);have e:(r.zip l).all (fun z=>decide (z.1<=z.2))=B_ r l:=rfl;rw[e]at an;simp_arith only[aj,ae,an,cl,s0,Bool.not_not];exact aQ hQ
noncomputable def aR:List W->(DH->Prop)->Prop:=fun ws Q=>∃(ps:List (List Rat)),ws=[.d (ptsQ ps)]/\((Pq ps))/\Q (fr (BO (sdN ps) ps))
theorem aR.mono:∀ws (Q Q':DH->Prop),(∀d,Q d->Q' d)->aR ws Q->aR ws Q':=fun _ _ _ h_=>Es fun _=>D0 (D0 (h_ _))
theorem aR.len:∀ws (Q:DH->Prop),aR ws Q->ws.length=1:=fun _ _ h_=>by obtain⟨_,e_,_⟩:=h_;subst e_;rfl
theorem aR.eq(ps:List (List Rat))(hp:Pq ps):aR [.d (ptsQ ps)]=VL.ret (fr (BO (sdN ps) ps):DH):=by
 refine af fun Q=>⟨?_,fun q_=>⟨ps,rfl,hp,q_⟩⟩;rintro⟨ps',e_,_,q_⟩;simp_arith only[fA,bY,bZ,bC,bx,cn]at e_;obtain rfl:=e_;exact q_
theorem fD:FnScope ["_law_pts", "_law_s", "_law_bottoms", "_law_rows", "_law_point", "_law_ends", "_law_side", "_law_sums", "_law_patch", "_law_lows", "_law_highs", "_law_many", "_law_parts", "_law_low", "_law_high", "_law_whole_bottom", "_law_twos", "_law_threes", "_law_one", "_law_n", "_law_top"] ["_law_pts"] (defScope (BB 31)):=⟨rfl,rfl,rfl,by decide +kernel,rfl,by decide +kernel,by decide +kernel⟩
theorem d__law_square(Fn:FnIn K mg "_law_square" (BB 31) ["_law_pts"])(Z:Bz mg)(d__law_patches:∀rl,Dfn P w K mg base rl "_law_patches" ["_law_lasts"] 1 aM)(d__law_frac:∀rl,Dfn P w K mg base rl "_law_frac" ["_law_top", "_law_bottom_here"] 1 ba)(d__law_bottom:∀rl,Dfn P w K mg base rl "_law_bottom" ["_law_points_told", "_law_side"] 2 aT)(d__law_none_above:∀rl,Dfn P w K mg base rl "_law_none_above" ["_law_row", "_law_lows"] 1 az)   : Dfn P w K mg base rl "_law_square" ["_law_pts"] 3 aR:=by
 have sc:=fD
 refine Dfn.of Fn sc (aR.mono) (aR.len) (fun cdv A outer s H E hr=>(ah (aq 1 sc.nd (fB Z.len_ (aa (bK (vn 0) ac) ab)))
  (ah (cf 2 sc.nd ["_law_side", "_law_pts"] [none,some 0] rfl (aN Z.range_ (aa (vn 1) ab)) (fun _=>(ak 0 (show E7 (["_law_side", "_law_pts"]:List Str) by decide +kernel))) (fun _=>bD) (fun _=>(ar (d__law_bottom _) (hr.mono (by decide)) (aa (vn 1) (aa (vn 0) ab)))))
  (ah (gU 3 sc.nd (cH ab))
  (ah (bM [4] EE rfl (fM (vn 0)) (ak 4 sc.nd) (am (kS 3 (aa (bj ["_law_x", "_law_bottom_here"] [none,none] rfl (n_ Z.zip_ (aa (vn 4) (aa (vn 2) ab))) (fun _=>(fN (n:=2) rfl (be (ak 0 (show E7 (["_law_x", "_law_bottom_here"]:List Str) by decide +kernel)) (be (ak 1 (show E7 (["_law_x", "_law_bottom_here"]:List Str) by decide +kernel)) dn)))) (fun _=>bD) (fun _=>(v_mul (bK (vn 0) ac) (v_div (vn 1) (bK (vn 0) ac))))) ab))))
  (ah (gU 5 sc.nd (cH ab))
  (ah (jg 3 (bM [6] EE rfl (aN Z.range_ (aa (vn 1) ab)) (ak 6 sc.nd) (am (kS 5 (aa (k4 rfl Z.sorted_ Z.set_ (aa (ul (cH (aa ac (aa (bK (vn 2) (vn 6)) ab))) (bj ["_law_row", "_law_side"] [none,some 6] rfl (bW (vn 3)) (fun _=>(ak 0 (show E7 (["_law_row", "_law_side"]:List Str) by decide +kernel))) (fun _=>bD) (fun _=>(bK (vn 0) (vn 1))))) ab)) ab)))))
  (ah (aq 7 sc.nd (cH (aa ac (aa ac (aa ac ab)))))
  (ah (jg 5 (bM [8,9,10,11,12,13,14] EE rfl (bW (ar (d__law_patches _) (hr.mono (by decide)) (aa (bj ["_law_one"] [none] rfl (bW (vn 5)) (fun _=>(ak 0 (show E7 (["_law_one"]:List Str) by decide +kernel))) (fun _=>bD) (fun _=>(v_sub (fB Z.len_ (aa (vn 0) ab)) ac))) ab))) (ak 8 sc.nd) (ah (cf 9 sc.nd ["_law_side", "_law_ends", "_law_patch"] [none,some 5,some 8] rfl (aN Z.range_ (aa (vn 1) ab)) (fun _=>(ak 0 (show E7 (["_law_side", "_law_ends", "_law_patch"]:List Str) by decide +kernel))) (fun _=>bD) (fun _=>(bK (bK (vn 1) (vn 0)) (bK (vn 2) (vn 0)))))
  (ah (cf 10 sc.nd ["_law_side", "_law_ends", "_law_patch"] [none,some 5,some 8] rfl (aN Z.range_ (aa (vn 1) ab)) (fun _=>(ak 0 (show E7 (["_law_side", "_law_ends", "_law_patch"]:List Str) by decide +kernel))) (fun _=>bD) (fun _=>(bK (bK (vn 1) (vn 0)) (v_add (bK (vn 2) (vn 0)) ac))))
  (ah (aq 11 sc.nd (fB Z.len_ (aa (bj ["_law_row", "_law_lows"] [none,some 9] rfl (bW (vn 3)) (fun _=>(ak 0 (show E7 (["_law_row", "_law_lows"]:List Str) by decide +kernel))) (fun _=>t_ (pZ (ar (d__law_none_above _) (hr.mono (by decide)) (aa (vn 0) (aa (vn 1) ab))))) (fun _=>(vn 0))) ab)))
  (ah (gU 12 sc.nd (cH (aa (v_mul (vn 11) (vn 11)) (aa (vn 11) (aa ac ab)))))
  (ah (bM [13,14] EE rfl (jh Z.zip_ (aa (vn 9) (aa (vn 10) ab))) (fN (n:=2) rfl (be (ak 13 sc.nd) (be (ak 14 sc.nd) dn))) (ah (iK 12 ac (v_mul (bK (vn 12) ac) (v_sub (vn 14) (vn 13))))
  (ah (iK 12 ac (v_mul (bK (vn 12) ac) (v_sub (v_mul (vn 14) (vn 14)) (v_mul (vn 13) (vn 13)))))
  (am (iK 12 ac (v_mul (bK (vn 12) ac) (v_sub (jj (vn 14) ac) (jj (vn 13) ac))))))))
  (am (jg 12 (cf 7 sc.nd ["_law_k", "_law_sums", "_law_parts"] [none,some 7,some 12] rfl (aN Z.range_ (aa ac ab)) (fun _=>(ak 0 (show E7 (["_law_k", "_law_sums", "_law_parts"]:List Str) by decide +kernel))) (fun _=>bD) (fun _=>(v_add (bK (vn 1) (vn 0)) (bK (vn 2) (vn 0))))))))))))))
  (ah (pY (eA (aa ac (aa ac (aa ac ab)))) (fN (n:=3) rfl (be (ak 15 sc.nd) (be (ak 16 sc.nd) (be (ak 17 sc.nd) dn)))))
  (ah (bM [18] EE rfl (bW (vn 2)) (ak 18 sc.nd) (am (qT 15 16 17 rfl sc.nd (aa (v_mul (vn 15) (vn 18)) (aa (v_mul (vn 16) ac) (aa (v_mul (vn 17) ac) ab))))))
  (ah (aq 19 sc.nd (fB Z.len_ (aa (vn 0) ab)))
  (ah (aq 20 sc.nd (v_mul (v_mul (v_mul (bK (vn 7) ac) (vn 16)) (vn 17)) (jj (vn 15) ac)))
  (ah (aq 20 sc.nd (v_sub (vn 20) (v_mul (v_mul (v_mul (v_mul ac (bK (vn 7) ac)) (vn 19)) (vn 17)) (vn 15))))
  (ah (aq 20 sc.nd (v_add (vn 20) (v_mul (v_mul (v_mul (bK (vn 7) ac) (vn 19)) (vn 19)) (vn 16))))
  (am (aE (ar (d__law_frac _) (hr.mono (by decide)) (aa (vn 20) (aa (v_mul (v_mul (v_mul (v_mul (vn 19) (vn 19)) (vn 16)) (vn 17)) (jj (vn 15) ac)) ab)))))))))))))))))))) ?_
 rintro ws Q ⟨ps,rfl,hp,hQ⟩;refine aG ?_;have sz:=EI;have h1:=hp.lo;have h16:=hp.hi;have s4:=hp.s4;have sd1:=hp.s1;have e0:=mX h1;have es:(ps.headD []).length=sdN ps:=rfl;simp_arith only[aj,ae,DE,e0,es,Eh];refine BM (tN (xs:=D8 (sdN ps)) (enc:=fun j:Nat=>.int (0+(j:Int))) (fun j d=>∃B,d = .int B/\DA ps j B) rfl ?_ (by rw[EX];omega) ?_)
 · intro j mj K hK;have hj:=Fg.mp mj;have j0:0<=(j:Int):=by omega
   have jl:∀p∈ps,((j:Int)).toNat<p.length:=fun p mp=>by rw[Eh,hp.len p mp];exact hj
   have dq:=hp.dq;unfold Ck;simp_arith only[aj,ae,F0,aT.eq]
   (with_reducible (first|refine aB fun B hB=>?_|refine aO fun B hB=>?_))
   exact hK _ ⟨B,rfl,by simpa using hB⟩
 · intro ds pd;obtain⟨bs,rfl,bl,bo⟩:=wL pd;rw[EX]at bl;have bo:BsOk ps bs:=⟨bl,fun k h=>by have:=bo k h (by rw[EX];omega);rwa [GY]at this⟩;clear pd;have bt:=bo.bt hp;have bp:=bo.pos;have kl:=pW;simp_arith only[aj,ae,DE];refine da (xs:=ps) (enc:=B2) (fun i ρ=>ρ=[some (.d (ptsQ ps)),some (.d (.int ((sdN ps:Nat):Int))),some (.d (.list (bs.map .int))),some (.ml ((ps.take i).map fun p=>d7 (aL bs p))),none,none,none,none,none,none,none,none,none,none,none,none,none,none,none,none,none]) rfl rfl ?_ ?_
   · rintro i hi ρ rfl K hK;have mi:=Ep hi;have tk:(ps.take (i+1)).map (fun p=>d7 (aL bs p))=(ps.take i).map (fun p=>d7 (aL bs p))++[d7 (aL bs ps[i])]:=by rw[Ej hi,E3];rfl
     obtain⟨btl,bto⟩:=bt _ mi;have dqs:=hp.dq _ mi;have lp:=hp.len _ mi;generalize ps[i]=p at *;simp_arith only[aj,ae,DE];refine qv (by first|rfl|exact⟨rfl,rfl⟩) ?_;rw[cV];refine cD (xs:=p.zip bs) (enc:=fun z=>Fb [fr z.1,.int z.2]) (fun z=>.int (z.1.num*(z.2 / (z.1.den:Int)))) rfl ?_ (by rw[E4];omega) ?_
     · rintro⟨x,b⟩ mz;obtain⟨dv,b0⟩:=bto _ mz;have dv:(x.den:Int)∣b:=dv;have b0:0<b:=b0;obtain⟨_,b9⟩:=bp b (E2 mz).2;have dx:=dqs x (E2 mz).1;have dl:=dx.dl;have d0:=fI x;obtain⟨_,n0,n1⟩:=dx;have cd:cU b (x.den:Int):=.of (by omega) (by omega);have ef:b.fdiv (x.den:Int)=b / (x.den:Int):=Fp _ (by omega);have cm:aA x.num (b / (x.den:Int)):=.lt (by omega);unfold Ck;simp_arith only[aj,ae,DE,ef,cd,cm]
     · have e:(p.zip bs).map (fun z=>D5 (z.1.num*(z.2 / (z.1.den:Int))))=(aL bs p).map .int:=by unfold aL;rw[Ff];rfl
       rw[e];have sl:(ps.take i).length<sizeLine:=by rw[EU];omega
       simp_arith only[aj,ae,sl];exact hK _ (cb (by rw[tk];rfl))
   · rintro ρ rfl;rw[D6 (DQ _)];simp_arith only[aj,ae,DE,Eh];refine mT (fun i ρ=>∃E:List (List Int),ρ=[some (.d (ptsQ ps)),some (.d (.int ((sdN ps:Nat):Int))),some (.d (.list (bs.map .int))),some (.d (.list (ps.map fun p=>d7 (aL bs p)))),none,some (.ml (E.map d7)),none,none,none,none,none,none,none,none,none,none,none,none,none,none,none]/\E.length=i/\∀k (hk:k<E.length),EdS ps bs k E[k]) ⟨[],rfl,rfl,fun k hk=>absurd hk (Gp k)⟩ ?_ ?_
     · rintro i hi ρ ⟨E,rfl,El,Eo⟩ K hK;have ib:i<bs.length:=by omega
       have eb:=j_ ib;have ec:L2.atI (bs.map D5) ((i:Nat):Int)=some (.int (bs.getD i 0)):=eb;simp_arith only[aj,ae,DE,F0,ec];refine cD (xs:=ps) (enc:=fun p=>d7 (aL bs p)) (fun p=>.int ((aL bs p).getD i 0)) rfl ?_ (by omega) ?_
       · intro p mp;have ei:=j_ (xs:=aL bs p) (k:=i) (by rw[gA bo hp p mp];exact hi);unfold Ck;simp_arith only[aj,ae,d7,ei]
       · have eM:wP (W.d (.list (D5 0::D5 (bs.getD i 0)::ps.map fun p=>D5 ((aL bs p).getD i 0))))=some (0::bs.getD i 0::ps.map fun p=>(aL bs p).getD i 0):=by
           have:=wO (0::bs.getD i 0::ps.map fun p=>(aL bs p).getD i 0);rw[Ew,Ew,Ff]at this;exact this
         have lM:(0::bs.getD i 0::ps.map fun p=>(aL bs p).getD i 0).length<64:=by rw[DX,DX,DO];omega
         have gM:2+ps.length<=sizeLine:=by omega
         simp_arith only[aj,ae,sT,eM,lM,gM]
         (with_reducible (first|refine aB fun ns hns=>?_|refine aO fun ns hns=>?_))
         have El2:E.length<sizeLine:=by omega
         try simp_arith only[aj,ae,El2]
         have ed:=yF bo hp ib hns.1 hns.2;refine hK _ (cb ⟨E++[ns],by rw[E3];rfl,by rw[D7,El];rfl,fun k hk=>?_⟩);rw[D7]at hk;by_cases c:k<E.length
         · rw[List.getElem_append_left c];exact Eo k c
         · have e:k=i:=by simp at hk;omega
           subst e;rw[List.getElem_append_right (by omega)];simp only[El,Nat.sub_self,List.getElem_cons_zero];exact ed
     · rintro ρ ⟨E,rfl,El,Eo⟩;have so:=xR bo hp El Eo
       have Em:∀es∈E,2<=es.length/\es.length<=ps.length+2:=fun es m=>by
        obtain⟨k,hk,e⟩:=GA.mp m;subst e;exact⟨(Eo k hk).len2,(Eo k hk).len⟩
       have ml:(E.map fun es=>es.length-1).length<=4:=by rw[DO];omega
       have mN:∀m∈E.map (fun es=>es.length-1),1<=m/\m<=ps.length+1:=fun m mm=>by
        obtain⟨es,me,rfl⟩:=Ev.mp mm;have:=Em es me;omega
       have m9:∀m∈E.map (fun es=>es.length-1),1<=m/\m<=1000:=fun m mm=>by have:=mN m mm;omega
       have mM:(E.map fun es=>es.length-1).foldr (· * ·) 1<=1000:=by
        refine EC (vI fun m mm=>(mN m mm).2) ?_;rw[DO,El];exact hp.m
       simp_arith only[aj,ae,DE];refine BM (cD (xs:=E) (enc:=d7) (fun es=>.int ((es.length-1:Nat):Int)) rfl ?_ (by omega) ?_)
       · intro es me;have:=Em es me;have e:((es.length-1:Nat):Int)=(es.length:Int)-1:=by omega
         unfold Ck;rw[e];simp_arith only[aj,ae,d7]
       · have e:(E.map fun es=>D5 ((es.length-1:Nat):Int))=(E.map fun es=>es.length-1).map fun m:Nat=>D5 (m:Int):=by rw[Ff];rfl
         rw[e];have ptc:=dA (E.map fun es=>es.length-1);have pte:prodL (E.map fun es=>es.length-1)=ptsE E:=rfl;rw[pte]at ptc;simp_arith only[aj,ae,aM.eq,pte];refine da (xs:=ptsE E) (enc:=B1) (fun i ρ=>ρ=[some (.d (ptsQ ps)),some (.d (.int ((sdN ps:Nat):Int))),some (.d (.list (bs.map .int))),some (.d (.list (ps.map fun p=>d7 (aL bs p)))),none,some (.d (.list (E.map d7))),none,some (.d (.list [.int (aK ((((ptsE E).take i).map (s0 E (ps.map (aL bs)))))),.int (aK ((((ptsE E).take i).map (s1 E (ps.map (aL bs)))))),.int (aK ((((ptsE E).take i).map (s2 E))))])),none,none,none,none,none,none,none,none,none,none,none,none,none]) rfl rfl ?_ ?_
         · rintro i hi ρ rfl K hK;have mp:=Ep hi;have t0:=eV (s0 E (ps.map (aL bs))) (ptsE E) hi;have t1:=eV (s1 E (ps.map (aL bs))) (ptsE E) hi;have t2:=eV (s2 E) (ptsE E) hi;generalize (ptsE E)[i]=pt at *;have pl:=(cC mp).2;have rg:=qx so bp mp;obtain⟨r1,r2⟩:=rT pl;simp_arith only[aj,ae,Eh];refine BM (cG (fun k=>D5 ((E.getD k []).getD (pt.getD k 0) 0)) ?_ (by omega) ?_)
           · intro k hk;have f1:=Ab (E:=E) (k:=k) (by omega);have f2:=wM (pt:=pt) (k:=k) (by omega);have f3:=j_ (xs:=E.getD k []) (k:=pt.getD k 0) (by have:=lL mp (k:=k) (by omega);omega);unfold Ck;simp_arith only[aj,ae,d7,B1,F0,f1,f2,f3]
           rw[<- El,r1,El];simp_arith only[aj,ae,Eh];refine BM (cG (fun k=>D5 ((E.getD k []).getD (pt.getD k 0+1) 0)) ?_ (by omega) ?_)
           · intro k hk;have f1:=Ab (E:=E) (k:=k) (by omega);have f2:=wM (pt:=pt) (k:=k) (by omega);have f3:=j_ (xs:=E.getD k []) (k:=pt.getD k 0+1) (lL mp (k:=k) (by omega));rw[IE]at f3;have f3:L2.atI ((E.getD k []).map D5) (((pt.getD k 0:Nat):Int)+1)=some (.int ((E.getD k []).getD (pt.getD k 0+1) 0)):=f3;unfold Ck;simp_arith only[aj,ae,d7,B1,F0,f1,f2,f3]
           rw[<- El,r2,El];simp_arith only[aj,ae];refine BM (wK (xs:=ps) (enc:=fun p=>d7 (aL bs p)) (fun p=>if B_ (aL bs p) (lowE E pt)=true then some (d7 (aL bs p))else none) rfl ?_ (by omega) ?_)
           · intro p mp2;have lr:(aL bs p).length<=60:=by rw[gA bo hp p mp2];omega
             have eq:=az.eq (aL bs p) (lowE E pt) lr;unfold Ck;simp_arith only[aj,ae,d7,eq];cases B_ (aL bs p) (lowE E pt)<;>rfl
           have fc:=qF (bs:=bs) (lows:=lowE E pt) ps
           have cl:(i_ (ps.map (aL bs)) (lowE E pt)).natAbs<=16:=by
            have:=Kc (fun r=>B_ r (lowE E pt)) (ps.map (aL bs));rw[DO]at this;unfold i_;omega
           have q0:s0 E (ps.map (aL bs)) pt=i_ (ps.map (aL bs)) (lowE E pt)*i_ (ps.map (aL bs)) (lowE E pt)*B3 (fun x=>x) ((lowE E pt).zip (higE E pt)):=rfl;have q1:s1 E (ps.map (aL bs)) pt=i_ (ps.map (aL bs)) (lowE E pt)*B3 (fun x=>x*x) ((lowE E pt).zip (higE E pt)):=rfl;have q2:s2 E pt=B3 (fun x=>x^3) ((lowE E pt).zip (higE E pt)):=rfl;generalize i_ (ps.map (aL bs)) (lowE E pt)=M at *;have cMM:aA M M:=.rt (by omega);simp_arith only[aj,ae,fc,cMM];have pz:∀g,B3 g []=1:=fun _=>rfl;rw[cV];refine da (xs:=(lowE E pt).zip (higE E pt)) (enc:=fun z=>Fb [.int z.1,.int z.2]) (fun j ρ=>ρ=[some (.d (ptsQ ps)),some (.d (.int ((sdN ps:Nat):Int))),some (.d (.list (bs.map .int))),some (.d (.list (ps.map fun p=>d7 (aL bs p)))),none,some (.d (.list (E.map d7))),none,some (.d (.list [.int (aK ((((ptsE E).take i).map (s0 E (ps.map (aL bs)))))),.int (aK ((((ptsE E).take i).map (s1 E (ps.map (aL bs)))))),.int (aK ((((ptsE E).take i).map (s2 E))))])),some (.d (B1 pt)),some (.d (.list ((lowE E pt).map .int))),some (.d (.list ((higE E pt).map .int))),some (.d (.int M)),some (.ml [.int (M*M*B3 (fun x=>x) (((lowE E pt).zip (higE E pt)).take j)),.int (M*B3 (fun x=>x*x) (((lowE E pt).zip (higE E pt)).take j)),.int (B3 (fun x=>x^3) (((lowE E pt).zip (higE E pt)).take j))]),none,none,none,none,none,none,none,none]) rfl (by rw[List.take_zero,pz,pz,pz,Jq,Jq]) ?_ ?_
           · rintro j hj ρ rfl K2 hK2;have rz:=rg _ (Ep hj);have zt:((lowE E pt).zip (higE E pt)).take (j+1)=((lowE E pt).zip (higE E pt)).take j++[((lowE E pt).zip (higE E pt))[j]]:=Ej hj;generalize ((lowE E pt).zip (higE E pt))[j]=z at *
             have tz:∀z∈((lowE E pt).zip (higE E pt)).take j,(z.2^3-z.1^3).natAbs<=2^80:=fun z m=>by
              obtain⟨⟨u0,u1⟩,v0,v1⟩:=rg z (Ic m);obtain⟨_,a1,a2⟩:=ky u0 u1;obtain⟨_,c1,c2⟩:=ky v0 v1;have:=yM;omega
             have b3:=lQ (fun x=>x^3) (2^80) (((lowE E pt).zip (higE E pt)).take j) tz
             have tl:(((lowE E pt).zip (higE E pt)).take j).length<=4:=by
              have:=(cC mp).1;rw[EU,E4];omega
             have b4:(B3 (fun x=>x^3) (((lowE E pt).zip (higE E pt)).take j)).natAbs<2^400:=by
              refine FG b3 ?_;rw[<- Nat.pow_mul];exact Km (by decide) (by omega)
             rw[zt,dZ,dZ,dZ]at hK2;generalize ((lowE E pt).zip (higE E pt)).take j=T at *;obtain⟨l,h⟩:=z;have rz:(0<=l/\l<=KB)/\0<=h/\h<=KB:=rz;obtain⟨⟨l0,l1⟩,h0,h9⟩:=rz;obtain⟨⟨a1,a2⟩,a3,a4⟩:=ky l0 l1;obtain⟨⟨c1,c2⟩,c3,c4⟩:=ky h0 h9;have k2:=Af;have k3:=yM;have m0:aA (M*M*B3 (fun x=>x) T) (h-l):=.rt (by omega);have mh:aA h h:=.rt (by omega);have ml:aA l l:=.rt (by omega);have m1:aA (M*B3 (fun x=>x*x) T) (h*h-l*l):=.rt (by omega);have bg:∀x:Int,x.natAbs<2^80->x.natAbs<2^60000:=fun x hx=>DR hx (D4 (by decide) (by decide));have ph:kP h 3:=⟨by decide,by decide,bg h (by omega)⟩;have pl2:kP l 3:=⟨by decide,by decide,bg l (by omega)⟩;have t3:Jm 3=3:=rfl;have m2:aA (B3 (fun x=>x^3) T) (h^3-l^3):=.bb (iG (k:=400) b4 (by decide)) (bg _ (by omega));have z0:∀a b c d:DH,[a,b,c].set (Jm 0) d=[d,b,c]:=fun _ _ _ _=>rfl;have z1:∀a b c d:DH,[a,b,c].set (Jm 1) d=[a,d,c]:=fun _ _ _ _=>rfl;have z2:∀a b c d:DH,[a,b,c].set (Jm 2) d=[a,b,d]:=fun _ _ _ _=>rfl;have y2:∀a b c:DH,L2.atI [a,b,c] 2=some c:=fun _ _ _=>rfl;have y1:∀a b c:DH,L2.atI [a,b,c] 1=some b:=fun _ _ _=>rfl;have y0:∀a b c:DH,L2.atI [a,b,c] 0=some a:=fun _ _ _=>rfl;have l3:∀a b c:DH,(([a,b,c].length:Nat):Int)=3:=fun _ _ _=>rfl;simp_arith only[aj,ae,u8,t3,z0,z1,z2,y0,y1,y2,l3];refine hK2 _ (cb ?_);rw[<- Ij,<- Ij];rfl
           · rintro ρ rfl;rw[D6 (DQ _),<- q0,<- q1,<- q2];simp_arith only[aj,ae,Eh];refine cG (n:=3) (fun k=>D5 ([(aK (((ptsE E).take i).map (s0 E (ps.map (aL bs))))),(aK (((ptsE E).take i).map (s1 E (ps.map (aL bs))))),(aK (((ptsE E).take i).map (s2 E)))].getD k 0+[(s0 E (ps.map (aL bs)) pt),(s1 E (ps.map (aL bs)) pt),(s2 E pt)].getD k 0)) ?_ (by omega) ?_
             · intro k hk;have f1:=jp (aK (((ptsE E).take i).map (s0 E (ps.map (aL bs))))) (aK (((ptsE E).take i).map (s1 E (ps.map (aL bs))))) (aK (((ptsE E).take i).map (s2 E))) hk;have f2:=jp (s0 E (ps.map (aL bs)) pt) (s1 E (ps.map (aL bs)) pt) (s2 E pt) hk;unfold Ck;simp_arith only[aj,ae,F0,f1,f2]
             · rw[rB,<- t0,<- t1,<- t2];exact hK _ (cb rfl)
         · rintro ρ rfl;rw[D6 (DQ _)];have sq:=xS (sdN ps) so (fun b m=>(bp b m).1) bt h1;have z0:=iO (f:=s0 E (ps.map (aL bs))) (l:=ptsE E) (by rw[ptc];exact mM) fun x m=>(rS so bp hp (by omega) m).1;have z1:=iO (f:=s1 E (ps.map (aL bs))) (l:=ptsE E) (by rw[ptc];exact mM) fun x m=>(rS so bp hp (by omega) m).2.1;have z2:=iO (f:=s2 E) (l:=ptsE E) (by rw[ptc];exact mM) fun x m=>(rS so bp hp (by omega) m).2.2;generalize (aK ((ptsE E).map (s0 E (ps.map (aL bs)))))=SA at *;generalize (aK ((ptsE E).map (s1 E (ps.map (aL bs)))))=SB at *;generalize (aK ((ptsE E).map (s2 E)))=SC at *;simp_arith only[aj,ae,DE];refine da (xs:=bs) (enc:=D5) (fun i ρ=>ρ=[some (.d (ptsQ ps)),some (.d (.int ((sdN ps:Nat):Int))),some (.d (.list (bs.map .int))),some (.d (.list (ps.map fun p=>d7 (aL bs p)))),none,some (.d (.list (E.map d7))),none,some (.d (.list [.int SA,.int SB,.int SC])),none,none,none,none,none,none,none,some (.d (.int ((bs.take i).foldl (fun t x=>t*x) 1))),some (.d (.int (2^i))),some (.d (.int (3^i))),none,none,none]) rfl (by rw[List.take_zero,GM,GM];rfl) ?_ ?_
           · rintro i hi ρ rfl K hK;obtain⟨c1,c2⟩:=bp bs[i] (Ep hi);have m1:aA ((bs.take i).foldl (fun t x=>t*x) 1) bs[i]:=.rt (by omega);have m2:aA (2^i) 2:=.rt (by decide);have m3:aA (3^i) 3:=.rt (by decide);simp_arith only[aj,ae,m1,m2,m3];refine hK _ (cb ?_);rw[fZ hi,Fa,Fa];rfl
           · rintro ρ rfl;rw[D6 (DQ _),nk,IF,bl];obtain⟨w0,w1⟩:=AZ bp (by omega);obtain⟨g1,g2,g3,g4⟩:=x9 s4;obtain⟨V0,eW⟩:∃V0:Int,V0=prB bs:=⟨_,rfl⟩;obtain⟨P2,e2⟩:∃P:Int,P=2^sdN ps:=⟨_,rfl⟩;obtain⟨P3,e3⟩:∃P:Int,P=3^sdN ps:=⟨_,rfl⟩;unfold wW tO at sq;rw[<- eW,<- e2,<- e3]at sq;rw[<- eW]at w0 w1;rw[<- e2]at g1 g2;rw[<- e3]at g3 g4;rw[<- eW,<- e2,<- e3];obtain⟨n,en⟩:∃n:Int,n=(ps.length:Int):=⟨_,rfl⟩;rw[<- en]at sq;have n1:1<=n:=by omega
             have n16:n<=16:=by omega
             have y2:L2.atI [D5 SA,.int SB,.int SC] 2=some (.int SC):=rfl;have y1:L2.atI [D5 SA,.int SB,.int SC] 1=some (.int SB):=rfl;have y0:L2.atI [D5 SA,.int SB,.int SC] 0=some (.int SA):=rfl;have bP2:P2.natAbs<2^5:=by omega
             have bP3:P3.natAbs<2^7:=by omega
             have bn:n.natAbs<2^5:=by omega
             have bV:V0.natAbs<2^104:=by omega
             have t2:Jm 2=2:=rfl;have t3:Jm 3=3:=rfl;have v2:(V0^2).natAbs<2^208:=by rw[Fa,Fa,GM,IF];exact bN bV bV
             have v3:(V0^3).natAbs<2^312:=by rw[Fa,Fa,Fa,GM,IF];exact bN (bN bV bV) bV
             have bg:∀(x:Int)(k:Nat),k<=60000->x.natAbs<2^k->x.natAbs<2^60000:=fun x k hk hx=>DR hx (D4 (by decide) hk);have q2:kP V0 2:=⟨by decide,by decide,bg _ 104 (by decide) bV⟩;have q3:kP V0 3:=⟨by decide,by decide,bg _ 104 (by decide) bV⟩;have b1:=bN (bN z0 bP2) bP3;have b2:(2*SB*n*P3).natAbs<2^(2+400+5+7):=bN (bN (bN (show(2:Int).natAbs<2^2 by decide) z1) bn) bP3;have b3:=bN (bN (bN bn bn) bP2) bP3;have b4:=bN b3 v3;have m1:aA SA P2:=.rt (by omega);have m2:aA (SA*P2) P3:=.rt (by omega);have m3:aA (SA*P2*P3) (V0^2):=.bb (bg _ _ (by decide) b1) (bg _ _ (by decide) v2);have m4:aA 2 SB:=.lt (by decide);have m5:aA (2*SB) n:=.rt (by omega);have m6:aA (2*SB*n) P3:=.rt (by omega);have m7:aA (2*SB*n*P3) V0:=.bb (bg _ _ (by decide) b2) (bg _ _ (by decide) bV);have m8:aA SC n:=.rt (by omega);have m9:aA (SC*n) n:=.rt (by omega);have ma:aA (SC*n*n) P2:=.rt (by omega);have mb:aA n n:=.rt (by omega);have mc:aA (n*n) P2:=.rt (by omega);have md:aA (n*n*P2) P3:=.rt (by omega);have me:aA (n*n*P2*P3) (V0^3):=.bb (bg _ _ (by decide) b3) (bg _ _ (by decide) v3);have hb:0<n*n*P2*P3*V0^3:=Gc (Gc (Gc (Gc (by omega) (by omega)) (by omega)) (by omega)) (Iw w0);have hz:(n*n*P2*P3*V0^3).natAbs<2^8000:=DR b4 (D4 (by decide) (by decide));simp_arith only[aj,ae,DE,<- en,y0,y1,y2,t2,t3,ba.eq,sq,AB,Al,AQ];exact aQ hQ
theorem u7:FnScope ["_law_script", "_law_feed_here", "_law_k", "_law_s", "_law_many", "_law_pts", "_law_kept", "_law_turn", "_law_due"] ["_law_script"] (defScope (BB 32)):=⟨rfl,rfl,rfl,by decide +kernel,rfl,by decide +kernel,by decide +kernel⟩
theorem oY(Z:Bz mg)(d__law_feed:DfnR P w K mg base "_law_feed" ["_law_script"] 2 wX)(d__law_small_points:∀rl,Dfn P w K mg base rl "_law_small_points" ["_law_feed_here", "_law_s", "_law_many"] 3 au)(d__law_draw:∀rl,Dfn P w K mg base rl "_law_draw" ["_law_feed_here", "_law_many"] 1 bc)(d_square_miss:∀rl,Dfn P w K mg base rl "square_miss" ["points"] 6 aI)(d__law_square:∀rl,Dfn P w K mg base rl "_law_square" ["_law_pts"] 3 aR)(d_square_without:∀rl,Dfn P w K mg base rl "square_without" ["points"] 7 aD)(F:Fun K "law" "law" (BB 32) f fd):FnOk P w K mg base Dz 9 f fd ["_law_script"] (fQ K):=by
 have sc:=u7
 refine sN F sc (fun cdv A outer s H E hr=>(qU 1 d__law_feed (hr.mono (by decide)) sc.nd (aa (vn 0) ab) (fun r _=>(ah (bM [2,3,4,5,6,7,8] EE rfl (aN Z.range_ (aa ac ab)) (ak 2 sc.nd) (ah (aq 3 sc.nd (v_add ac (ar (d__law_draw _) (hr.mono (by decide)) (aa (vn 1) (aa ac ab)))))
  (ah (aq 4 sc.nd (v_add ac (ar (d__law_draw _) (hr.mono (by decide)) (aa (vn 1) (aa (bK (cH (aa ac (aa ac (aa ac (aa ac ab))))) (v_sub (vn 3) ac)) ab)))))
  (ah (dP (bJ (lZ hr.units) fL (bA _) (ar (d__law_draw _) (hr.mono (by decide)) (aa (vn 1) (aa ac ab))) ac) (am (pY (eA (aa ac (aa ac ab))) (fN (n:=2) rfl (be (ak 3 sc.nd) (be (ak 4 sc.nd) dn))))) cu)
  (ah (aq 5 sc.nd (ar (d__law_small_points _) (hr.mono (by decide)) (aa (vn 1) (aa (vn 3) (aa (vn 4) ab)))))
  (ah (aq 6 sc.nd (fO (hr.mono (Ei _)) Z.repr_ (aa (vn 5) ab)))
  (ah (bM [7] EE rfl (aN Z.range_ (aa ac ab)) (ak 7 sc.nd) (am (dP (bJ sG kW (bA _) (fO (hr.mono (Ei _)) Z.repr_ (aa (ar (d_square_miss _) (hr.mono (by decide)) (aa (vn 5) ab)) ab)) (fO (hr.mono (Ei _)) Z.repr_ (aa (ar (d__law_square _) (hr.mono (by decide)) (aa (vn 5) ab)) ab))) (am (aE lK)) cu)))
  (ah (dP (bJ oN n6 (bA _) (vn 4) ac) (ah (aq 8 sc.nd (iM Z.tuple_ (aa (bj ["_law_j", "_law_pts"] [none,some 5] rfl (aN Z.range_ (aa (vn 4) ab)) (fun _=>(ak 0 (show E7 (["_law_j", "_law_pts"]:List Str) by decide +kernel))) (fun _=>bD) (fun _=>(ar (d__law_square _) (hr.mono (by decide)) (aa (jk (oa (vn 1) eu (et (vn 0))) (oa (vn 1) (et (v_add (vn 0) ac)) eu)) ab)))) ab)))
  (am (dP (bJ sG kW (bA _) (fO (hr.mono (Ei _)) Z.repr_ (aa (ar (d_square_without _) (hr.mono (by decide)) (aa (vn 5) ab)) ab)) (fO (hr.mono (Ei _)) Z.repr_ (aa (vn 8) ab))) (am (aE lK)) cu))) cu)
  (am (dP (bJ sG kW (bA _) (fO (hr.mono (Ei _)) Z.repr_ (aa (vn 5) ab)) (vn 6)) (am (aE lK)) cu))))))))))
  (am (aE lK)))))) ?_
 intro ns hn;have ps:=wX.eq hn;have sz:=EI;simp_arith only[aj,ae,ps];refine jX ?_ ?_
 · intro i hi K hK;simp_arith only[aj,ae,cx,cy,bE,cz,bF,aX,bc.eq]
   (with_reducible (first|refine aB fun a ha=>?_|refine aO fun a ha=>?_))
   have s1:1<=1+a:=by omega
   have s4:1+a<=4:=by omega
   generalize 1+a=s at s1 s4 ⊢;obtain⟨c,ec,c1,c16,cM⟩:=yh s1 s4;simp_arith only[aj,ae,cx,cy,bE,cz,bF,aX,bc.eq,ec]
   (with_reducible (first|refine aB fun b hb=>?_|refine aO fun b hb=>?_))
   simp_arith only[aj,ae,cx,cy,bE,cz,bF,aX,bc.eq,ec];refine qb (fun z:Int×Int=>1<=z.1/\z.1<=4/\1<=z.2/\z.2<=16/\(z.2.toNat+1)^z.1.toNat<=1000) (fun z=>.nx [some (.sc ns),some .reel,some (.d (.int (0+(i:Int)))),some (.d (.int z.1)),some (.d (.int z.2)),none,none,none,none]) ?_ ?_
   · intro Q' hQ'
     (with_reducible (first|refine aB fun e he=>?_|refine aO fun e he=>?_))
     by_cases e0:(e==0)=true
     · try simp only[e0,if_true]
       exact hQ' (1,16) ⟨by decide,by decide,by decide,by decide,by decide⟩
     · try simp only[e0,if_false]
       exact hQ' (s,1+b) ⟨s1,s4,(show 1<=1+b by omega),(show 1+b<=16 by omega),EC (KF (show(1+b).toNat+1<=c.toNat+1 by omega) _) cM⟩
   · rintro⟨s',m⟩ ⟨u1,u4,v1,v16,hM⟩;have u1:1<=s':=u1;have u4:s'<=4:=u4;have v1:1<=m:=v1;have v16:m<=16:=v16;have hM:(m.toNat+1)^s'.toNat<=1000:=hM;rw[sq_nx,s_seq];simp_arith only[aj,ae,au.eq]
     (with_reducible (first|refine aB fun qs hqs=>?_|refine aO fun qs hqs=>?_))
     obtain⟨pl,pg⟩:=hqs;obtain⟨hp,esd⟩:=x8 (s:=s'.toNat) (m:=m.toNat) (by omega) (by omega) (by omega) (by omega) hM pl pg;have sp:=uZ hp;have sq:=xT (qf hp);simp_arith only[aj,ae,au.eq,bc.eq,aI.eq,aR.eq,aD.eq,DE,sp,sq];refine jX ?_ ?_
     · intro j hj K2 hK2;simp_arith only[aj,ae,au.eq,bc.eq,aI.eq,aR.eq,aD.eq,DE,sq];exact hK2 _ (cb rfl)
     · have h16:=hp.hi;by_cases c2:1<m
       · have p2:2<=qs.length:=by omega
         have lz:m.toNat=qs.length:=by omega
         have oo:∀j<qs.length,Pq (il qs j):=fun j hj=>qu hp p2 hj
         have sw:=u6 (f:=fun j=>BO (sdN qs) (il qs j)) h16 fun j hj=>by
          have:=qf (oo j hj);rw[jH hp p2 hj]at this;exact this
         have d1:decide (1<m)=true:=decide_eq_true c2;simp_arith only[aj,ae,au.eq,bc.eq,aI.eq,aR.eq,aD.eq,DE,d1,c2,lz];refine BM (cG (n:=qs.length) (fun j=>fr (BO (sdN qs) (il qs j))) ?_ (by omega) ?_)
         · intro j hj;have oj:=oo j hj;have os:=jH hp p2 hj;obtain⟨e1,e2⟩:=nB (ps:=qs) (j:=j) B2;have e3:Fb ((qs.take j).map B2++(qs.drop (j+1)).map B2)=ptsQ (il qs j):=by rw[<- E3];rfl
           have e4:(qs.take j).length+(qs.drop (j+1)).length<=sizeLine:=by rw[EU,GQ];omega
           unfold Ck;simp_arith only[aj,ae,au.eq,bc.eq,aI.eq,aR.eq,aD.eq,DE,F0,e1,e2,e3,e4,os]
         · simp_arith only[aj,ae,au.eq,bc.eq,aI.eq,aR.eq,aD.eq,DE,sw,sp];exact hK _ (cb rfl)
       · have d1:decide (1<m)=false:=decide_eq_false c2;simp_arith only[aj,ae,au.eq,bc.eq,aI.eq,aR.eq,aD.eq,DE,d1,c2,sp];exact hK _ (cb rfl)
 · simp_arith only[aj,ae];exact sZ
structure Txt (K:Gm) (mg:Str->Option DJ):Prop where
 bz:Bz mg
 f__law_feed:FnIn K mg "_law_feed" (BB 22) ["_law_script"]
 f__law_draw:FnIn K mg "_law_draw" (BB 23) ["_law_feed_here", "_law_many"]
 f__law_frac:FnIn K mg "_law_frac" (BB 24) ["_law_top", "_law_bottom_here"]
 f_common_divisor:FnIn K mg "common_divisor" (BB 5) ["one", "other"]
 f_fraction:FnIn K mg "fraction" (BB 6) ["top", "bottom"]
 f_plus:FnIn K mg "plus" (BB 7) ["one", "other"]
 f_less:FnIn K mg "less" (BB 8) ["one", "other"]
 f_times:FnIn K mg "times" (BB 9) ["one", "other"]
 f_is_below:FnIn K mg "is_below" (BB 12) ["one", "other"]
 f_greater:FnIn K mg "greater" (BB 13) ["one", "other"]
 f_product_of:FnIn K mg "product_of" (BB 11) ["some"]
 f_sides_of:FnIn K mg "sides_of" (BB 15) ["points"]
 f_sum_of:FnIn K mg "sum_of" (BB 10) ["some"]
 f_room_above:FnIn K mg "room_above" (BB 17) ["point"]
 f_room_above_both:FnIn K mg "room_above_both" (BB 18) ["one", "other"]
 f_square_miss:FnIn K mg "square_miss" (BB 19) ["points"]
 f_square_without:FnIn K mg "square_without" (BB 20) ["points"]
 f__law_small_number:FnIn K mg "_law_small_number" (BB 25) ["_law_feed_here", "_law_seen"]
 f__law_shared:FnIn K mg "_law_shared" (BB 27) ["_law_one", "_law_other"]
 f__law_bottom:FnIn K mg "_law_bottom" (BB 28) ["_law_points_told", "_law_side"]
 f__law_small_points:FnIn K mg "_law_small_points" (BB 26) ["_law_feed_here", "_law_s", "_law_many"]
 f__law_patches:FnIn K mg "_law_patches" (BB 29) ["_law_lasts"]
 f__law_none_above:FnIn K mg "_law_none_above" (BB 30) ["_law_row", "_law_lows"]
 f__law_square:FnIn K mg "_law_square" (BB 31) ["_law_pts"]
 g_ONE:GlD K mg "ONE" (pr 1 1)
theorem vW(F:Fun K "law" "law" (BB 32) f fd)(T:Txt K mg)  : FnOk P w K mg base Dz 9 f fd ["_law_script"] (fQ K):=by
 have d__law_feed:DfnR P w K mg base "_law_feed" ["_law_script"] 2 wX:=K23.d__law_feed T.f__law_feed T.bz   ;have d__law_draw:∀rl,Dfn P w K mg base rl "_law_draw" ["_law_feed_here", "_law_many"] 1 bc:=fun rl=>K23.d__law_draw T.f__law_draw T.bz   ;have d__law_frac:∀rl,Dfn P w K mg base rl "_law_frac" ["_law_top", "_law_bottom_here"] 1 ba:=fun rl=>K23.d__law_frac T.f__law_frac T.bz   ;have d_common_divisor:∀rl,Dfn P w K mg base rl "common_divisor" ["one", "other"] 1 ax:=fun rl=>K23.d_common_divisor T.f_common_divisor T.bz   ;have d_fraction:∀rl,Dfn P w K mg base rl "fraction" ["top", "bottom"] 2 aP:=fun rl=>K23.d_fraction T.f_fraction T.bz d_common_divisor  ;have d_plus:∀rl,Dfn P w K mg base rl "plus" ["one", "other"] 3 eQ:=fun rl=>K23.d_plus T.f_plus T.bz d_fraction  ;have d_less:∀rl,Dfn P w K mg base rl "less" ["one", "other"] 3 c5:=fun rl=>K23.d_less T.f_less T.bz d_fraction  ;have d_times:∀rl,Dfn P w K mg base rl "times" ["one", "other"] 3 ci:=fun rl=>K23.d_times T.f_times T.bz d_fraction  ;have d_is_below:∀rl,Dfn P w K mg base rl "is_below" ["one", "other"] 1 bI:=fun rl=>K23.d_is_below T.f_is_below T.bz   ;have d_greater:∀rl,Dfn P w K mg base rl "greater" ["one", "other"] 2 bQ:=fun rl=>K23.d_greater T.f_greater T.bz d_is_below  ;have d_product_of:∀rl,Dfn P w K mg base rl "product_of" ["some"] 4 aJ:=fun rl=>K23.d_product_of T.f_product_of T.bz d_times T.g_ONE ;have d_sides_of:∀rl,Dfn P w K mg base rl "sides_of" ["points"] 1 bH:=fun rl=>K23.d_sides_of T.f_sides_of T.bz   ;have d_sum_of:∀rl,Dfn P w K mg base rl "sum_of" ["some"] 3 cj:=fun rl=>K23.d_sum_of T.f_sum_of T.bz d_fraction d_common_divisor  ;have d_room_above:∀rl,Dfn P w K mg base rl "room_above" ["point"] 5 a_:=fun rl=>K23.d_room_above T.f_room_above T.bz d_product_of d_less d_times T.g_ONE ;have d_room_above_both:∀rl,Dfn P w K mg base rl "room_above_both" ["one", "other"] 5 ay:=fun rl=>K23.d_room_above_both T.f_room_above_both T.bz d_product_of d_less d_greater T.g_ONE ;have d_square_miss:∀rl,Dfn P w K mg base rl "square_miss" ["points"] 6 aI:=fun rl=>K23.d_square_miss T.f_square_miss T.bz d_product_of d_times d_sum_of d_plus d_sides_of d_fraction d_less d_room_above d_room_above_both  ;have d_square_without:∀rl,Dfn P w K mg base rl "square_without" ["points"] 7 aD:=fun rl=>K23.d_square_without T.f_square_without T.bz d_square_miss  ;have d__law_small_number:∀rl,Dfn P w K mg base rl "_law_small_number" ["_law_feed_here", "_law_seen"] 2 av:=fun rl=>K23.d__law_small_number T.f__law_small_number T.bz d__law_draw d__law_frac  ;have d__law_shared:∀rl,Dfn P w K mg base rl "_law_shared" ["_law_one", "_law_other"] 1 aS:=fun rl=>K23.d__law_shared T.f__law_shared T.bz   ;have d__law_bottom:∀rl,Dfn P w K mg base rl "_law_bottom" ["_law_points_told", "_law_side"] 2 aT:=fun rl=>K23.d__law_bottom T.f__law_bottom T.bz d__law_shared  ;have d__law_small_points:∀rl,Dfn P w K mg base rl "_law_small_points" ["_law_feed_here", "_law_s", "_law_many"] 3 au:=fun rl=>K23.d__law_small_points T.f__law_small_points T.bz d__law_small_number  
 have d__law_patches:∀rl,Dfn P w K mg base rl "_law_patches" ["_law_lasts"] 1 aM:=fun rl=>K23.d__law_patches T.f__law_patches T.bz   ;have d__law_none_above:∀rl,Dfn P w K mg base rl "_law_none_above" ["_law_row", "_law_lows"] 1 az:=fun rl=>K23.d__law_none_above T.f__law_none_above T.bz   ;have d__law_square:∀rl,Dfn P w K mg base rl "_law_square" ["_law_pts"] 3 aR:=fun rl=>K23.d__law_square T.f__law_square T.bz d__law_patches d__law_frac d__law_bottom d__law_none_above  ;exact oY T.bz d__law_feed d__law_small_points d__law_draw d_square_miss d__law_square d_square_without   F
end
theorem us_0(hl:us.length=0):us=[]:=List.eq_nil_of_length_eq_zero hl
theorem zH(hl:us.length=1):∃a0,us=[a0]:=by
 cases us with
 | nil=>cases hl
 | cons a0 t=>cases us_0 (Lb hl);exact⟨a0,rfl⟩
theorem zG(hl:us.length=2):∃a0 a1,us=[a0,a1]:=by
 cases us with
 | nil=>cases hl
 | cons a0 t=>obtain⟨a1,rfl⟩:=zH (Lb hl);exact⟨a0,a1,rfl⟩
theorem Aq(hl:us.length=3):∃a0 a1 a2,us=[a0,a1,a2]:=by
 cases us with
 | nil=>cases hl
 | cons a0 t=>obtain⟨a1,a2,rfl⟩:=zG (Lb hl);exact⟨a0,a1,a2,rfl⟩
noncomputable def FF(K:Gm)(x:Str)(st:Stmt):Prop:=∃(f:Addr)(oc kV dc pm cd ct:DJ)(od an:Option Addr)(sl:Array (Option DJ)),Kd K EJ x=some (some (.ref f))/\K.lookup f=some ⟨oc,od,.func (Ke x x (defArgs st) (defBody st) (defScope st) .none kV dc pm an cd ct),sl⟩/\Kr K cd x=true/\Ks K (.ref f)=true
theorem ff_mk{K:Gm}{st:Stmt}{oc kV dc pm cd ct:DJ}{od an:Option Addr}{sl:Array (Option DJ)}(a:Kd K EJ x=some (some (.ref f)))(l:K.lookup f=some ⟨oc,od,.func (Ke x x (defArgs st) (defBody st) (defScope st) .none kV dc pm an cd ct),sl⟩)(c:Kr K cd x=true)(k:Ks K (.ref f)=true):FF K x st:=⟨f,oc,kV,dc,pm,cd,ct,od,an,sl,a,l,c,k⟩
theorem aY{K:Gm}(X:K.In h)(G:h.Ns EJ mg){st:Stmt}{ps:List Str}(q:FF K x st)(hb:∀(kV doc pm:DJ)(an:Option Addr)(cdv ct:DJ)(us:List DJ),us.length=ps.length->bindArgs (Ke x x (defArgs st) (defBody st) (defScope st) .none kV doc pm an cdv ct) ⟨us,[]⟩=pure (ps.zip us):=by intro _ _ _ _ _ _ us hl;first|(cases us_0 hl;exact rfl)|(obtain⟨_,rfl⟩:=zH hl;exact rfl)|(obtain⟨_,_,rfl⟩:=zG hl;exact rfl)|(obtain⟨_,_,_,rfl⟩:=Aq hl;exact rfl)):FnIn K mg x st ps:=by
 obtain⟨f,_,_,_,_,_,_,_,_,_,a,l,c,k⟩:=q;exact⟨⟨f,_,PySem.W.mg_of X G a,m_ l c k,(m_ l c k).binds hb⟩⟩
abbrev NI(K:Gm)(x:Str)(f:Addr):Prop:=Kd K EJ x=some (some (.ref f))
abbrev NZ(K:Gm)(x:Str):Prop:=Kd K EJ x=some none
abbrev LK(K:Gm)(x:Str)(st:Stmt)(f:Addr)(oc:DJ)(od:Option Addr)(kV dc pm:DJ)(an:Option Addr)(cd ct:DJ)(sl:Array (Option DJ)):Prop:=K.lookup f=some ⟨oc,od,.func (Ke x x (defArgs st) (defBody st) (defScope st) .none kV dc pm an cd ct),sl⟩
theorem all_mk{l:Kf}{K:Gm}{fa:Addr}(X:K.In h)(G:h.Ns EJ mg)(hfa:mg "law" = some (.ref fa))
 {f25:Addr}{od25 an25:Option Addr}{sl25:Array (Option DJ)}{oc25 kV25 dc25 pm25 cd25 ct25:DJ}
 (f1:FF K "_law_feed" (BB 22))(f2:FF K "_law_draw" (BB 23))(f3:FF K "_law_frac" (BB 24))(f4:FF K "common_divisor" (BB 5))(f5:FF K "fraction" (BB 6))(f6:FF K "plus" (BB 7))(f7:FF K "less" (BB 8))(f8:FF K "times" (BB 9))(f9:FF K "is_below" (BB 12))(f10:FF K "greater" (BB 13))(f11:FF K "product_of" (BB 11))(f12:FF K "sides_of" (BB 15))(f13:FF K "sum_of" (BB 10))(f14:FF K "room_above" (BB 17))(f15:FF K "room_above_both" (BB 18))(f16:FF K "square_miss" (BB 19))(f17:FF K "square_without" (BB 20))(f18:FF K "_law_small_number" (BB 25))(f19:FF K "_law_shared" (BB 27))(f20:FF K "_law_bottom" (BB 28))(f21:FF K "_law_small_points" (BB 26))(f22:FF K "_law_patches" (BB 29))(f23:FF K "_law_none_above" (BB 30))(f24:FF K "_law_square" (BB 31))(a25:NI K "law" f25)(l25:LK K "law" (BB 32) f25 oc25 od25 kV25 dc25 pm25 an25 cd25 ct25 sl25)(c25:Kr K cd25 "law" = true)(k25:Ks K (.ref f25)=true)
 (z_int:NZ K "int")(z_bool:NZ K "bool")(z_str:NZ K "str")(z_list:NZ K "list")(z_tuple:NZ K "tuple")(z_dict:NZ K "dict")(z_isinstance:NZ K "isinstance")(z_len:NZ K "len")(z_abs:NZ K "abs")(z_repr:NZ K "repr")(z_range:NZ K "range")(z_all:NZ K "all")(z_any:NZ K "any")(z_sum:NZ K "sum")(z_min:NZ K "min")(z_max:NZ K "max")(z_sorted:NZ K "sorted")(z_zip:NZ K "zip")(z_enumerate:NZ K "enumerate")(z_reversed:NZ K "reversed")(z_divmod:NZ K "divmod")(z_set:NZ K "set")(g_ONE:GlK K "ONE" (pr 1 1))  :
 ∃fd:GP,(∀(s:DM)(v:DJ),Lk s fd ⟨[v],[]⟩ [("_law_script", v)])/\∀base:Heap,K.In base->base.Ns EJ mg->FnOk l.prog w K mg base Dz 9 fa fd ["_law_script"] (fQ K):=by
 have e:=hfa.symm.trans (PySem.W.mg_of X G a25);cases e;have B:Bz mg:=⟨D_ X G z_int,D_ X G z_bool,D_ X G z_str,D_ X G z_list,D_ X G z_tuple,D_ X G z_dict,D_ X G z_isinstance,D_ X G z_len,D_ X G z_abs,D_ X G z_repr,D_ X G z_range,D_ X G z_all,D_ X G z_any,D_ X G z_sum,D_ X G z_min,D_ X G z_max,D_ X G z_sorted,D_ X G z_zip,D_ X G z_enumerate,D_ X G z_reversed,D_ X G z_divmod,D_ X G z_set⟩;have T:Txt K mg:=⟨B,(aY X G f1),(aY X G f2),(aY X G f3),(aY X G f4),(aY X G f5),(aY X G f6),(aY X G f7),(aY X G f8),(aY X G f9),(aY X G f10),(aY X G f11),(aY X G f12),(aY X G f13),(aY X G f14),(aY X G f15),(aY X G f16),(aY X G f17),(aY X G f18),(aY X G f19),(aY X G f20),(aY X G f21),(aY X G f22),(aY X G f23),(aY X G f24),g_ONE.of X G⟩;have FL:=m_ (st:=BB 32) l25 c25 k25;exact⟨_,fun s v=>.of_eq rfl,fun base _ _=>vW FL T ⟩
theorem walk{l:Kf}{q:Ef}{YP:EM->Heap->Prop}{d:DefRec}{K:Lw->Gm}(hn:l.most=some 63)(hdf:d.params.defaults=[])
 (hY:∀(w:EM)(h:Heap),YP w h->(K w.params).In h)
 (F:∀(w:EM)(mg:Str->Option DJ)(fa:Addr)(h:Heap),(K w.params).In h->h.Ns EJ mg->mg d.name=some (.ref fa) ->
  ∃fd:GP,(∀(s:DM)(u:DJ),Lk s fd ⟨[u],[]⟩ [("_law_script", u)])/\∀base:Heap,(K w.params).In base->base.Ns EJ mg->FnOk l.prog w (K w.params) mg base Dz 9 fa fd ["_law_script"] (fQ (K w.params))) :
 PySem.W.WalkO q loose XP YP l.row.toRowW d [] (fun f vs=>PySem.call f vs) :=
 L2.walk_of (n:=63) (k:=9) (x := "_law_script") (CX:=fun _=>Dz) (sp:=fun w=>fQ (K w.params)) hn (by decide) hdf ⟨rfl,by decide,by decide,rfl⟩ hY F (fun _ _ a ns hl _ hS=>⟨a,ns,rfl,hS,hl,fun _=>rfl⟩) fun _ _ _ _ _ z=>z
end K23
noncomputable def PySem.W.Fast.tw14820941763832580534:PySem.Params->Gm:=K23.heapK
theorem PySem.W.Fast.te14820941763832580534:K23.heapK=PySem.W.Fast.tw14820941763832580534:=rfl
open PySem PySem.W PyProof.Rows
set_option maxRecDepth 100000 in
set_option maxHeartbeats 0 in
theorem PySem.Challenge.cw_evenpoints_k23_square_misses_holds : PySem.Challenge.rw_evenpoints_k23_square_misses.Holds := by
 refine(congrArg Kf.Holds K23.rw_eq).mpr ?_
 w_on;o_law
 refine holds_open (loose:=[]) (XP:=XL K23.zview []) (YP:=Hook.says (kHook K23.heapK K23.heapA K23.heapE)) K23.zleft
  (Hook.of _) (Hook.keeps _) (fun s e=>xl_of s (D2.mp e).1)
  XL.keeps (by rfl) (by rfl) (by rfl) (fun s e=>recFacts_of (D2.mp e).2) (by rfl)
  (by first|assumption|decide +kernel) (by decide +kernel) ⟨rfl,rfl,rfl,rfl,rfl,by decide +kernel⟩ ?hw ?hc
 (case hw=>w_witness2)
 k_fill
 refine K23.walk (l:=K23.rwN) rfl rfl (fun w h Y=>PySem.W.kIn_of (as:=K23.heapA) (e:=K23.heapE) Y) ?F
 case F =>
  intro w mg fa h KX G hmg
  refine' K23.all_mk KX G hmg ?f1 ?f2 ?f3 ?f4 ?f5 ?f6 ?f7 ?f8 ?f9 ?f10 ?f11 ?f12 ?f13 ?f14 ?f15 ?f16 ?f17 ?f18 ?f19 ?f20 ?f21 ?f22 ?f23 ?f24 ?a25 ?l25 ?c25 ?k25 ?zint ?zbool ?zstr ?zlist ?ztuple ?zdict ?zisinstance ?zlen ?zabs ?zrepr ?zrange ?zall ?zany ?zsum ?zmin ?zmax ?zsorted ?zzip ?zenumerate ?zreversed ?zdivmod ?zset ?gONE 
  all_goals (try (refine' K23.ff_mk ?a ?l ?c ?k;(case a=>k_is);(case l=>k_is);(case c=>k_is);(case k=>k_is)))
  all_goals (try change _=_)
  (case a25=>k_is);(case l25=>k_is);(case c25=>k_is);(case k25=>k_is)
  (case zint=>k_is)
  (case zbool=>k_is)
  (case zstr=>k_is)
  (case zlist=>k_is)
  (case ztuple=>k_is)
  (case zdict=>k_is)
  (case zisinstance=>k_is)
  (case zlen=>k_is)
  (case zabs=>k_is)
  (case zrepr=>k_is)
  (case zrange=>k_is)
  (case zall=>k_is)
  (case zany=>k_is)
  (case zsum=>k_is)
  (case zmin=>k_is)
  (case zmax=>k_is)
  (case zsorted=>k_is)
  (case zzip=>k_is)
  (case zenumerate=>k_is)
  (case zreversed=>k_is)
  (case zdivmod=>k_is)
  (case zset=>k_is)
  (case gONE=>refine' L2.VL.GlK.pair ?h1 ?h2;(case h1=>k_is);(case h2=>k_is))
