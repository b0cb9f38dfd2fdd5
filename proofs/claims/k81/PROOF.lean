import PyProof.Rows.All
import Wide.All
import OpenK.AllK
import Wide.FinOn
import Lean
import PyProof.EqAt
import PyProof.EqKinds
import PyProof.TupleCall
import KE.KDictSum
import KE.KMinKey
import PyProof.Rows.CallKwBuiltin
import PyProof.SumWalkG
import PySem.Challenge.RW_evenpoints_k81_heaves
set_option Elab.async false
set_option linter.all false
set_option maxRecDepth 100000
set_option maxHeartbeats 4000000
open And renaming intro->FJ
open Array renaming length_toList->IA, toArray_toList->IV, mk->Mm
open Bool renaming and_eq_true_iff->FV, or_eq_true_iff->Gd, false_ne_true->Gs, and_eq_true->Jb, false_eq_true->Jn, eq_iff_iff->JL
open Classical renaming choose_spec->FK, choose->Gc
open False renaming elim->GZ
open ForInStep renaming yield->JO
open Iff renaming rfl->Jy
open Int renaming mul_le_mul_of_nonneg_right->Gu, gcd->GF, mul_le_mul_of_nonneg_left->G0, natAbs_natCast->Hq, mul_nonneg->HB, fmod_nonneg_of_pos->HL, toNat_natCast->H_, pow_pos->Ib, mul_lt_mul_of_pos_right->Ie, toNat_of_nonneg->Ig, fdiv_eq_ediv_of_nonneg->Ih, pow_succ->Io, eq_ofNat_of_zero_le->ID, fmod_lt_of_pos->IH, mul_le_mul->I_, natAbs_mul->Ja, mul_pos->Je, dvd_mul_right->Jz, natAbs_dvd_natAbs->JE, gcd_pos_of_ne_zero_right->JH, le_refl->JV, natCast_mul->JZ, gcd_comm->Kb, le_of_lt->Kc, mul_comm->Kd, emod_lt_of_pos->Ke, mul_neg_of_pos_of_neg->Kg, gcd_dvd_natAbs_right->Kp, mul_ediv_cancel_left->Kv, fmod_add_mul_fdiv->K9, le_trans->K_, zero_add->Lc, emod_nonneg->Lg, fdiv_nonneg->Lk, natAbs_of_nonneg->Lu, pow_nonneg->Lx, natAbs_neg->Ly, one_mul->LJ, dvd_trans->L7, pow_zero->Mj
open List renaming mem_cons_of_mem->FP, length_map->FR, mem_cons_self->FT, mem_append_right->FZ, getElem?_set_ne->Gf, length_append->Gg, mem_cons->Gh, size_toArray->Gk, getElem?_set_self->Gm, length_cons->Gp, mem_singleton->Gq, mem_append->Gv, take_succ_eq_append_getElem->Gy, map_cons->Gz, getElem?_eq_getElem->GB, getElem?_eq_some_iff->GD, length_take->GG, take_of_length_le->GH, mem_map->GJ, replicate->GU, drop_eq_getElem_cons->GV, Nodup->G1, lookup_cons->G7, getElem_mem->G8, range->G9, getElem?_map->G_, find?_cons->Hb, map_append->Hd, getD_eq_getElem?_getD->Hj, getElem?_set->Hn, append_nil->Ht, length_filter_le->HG, mem_append_left->HH, all_eq_true->HJ, map_map->HK, length_singleton->HV, drop_length->HW, any_cons->HZ, mem_flatMap->Ii, getElem?_append_left->Ip, nodup_cons->Iw, foldl_append->Iy, length_eq_zero_iff->IE, of_mem_zip->IJ, length_nil->IK, foldl_cons->IM, getElem?_append_right->IT, mem_of_mem_take->IW, mem_range->IZ, length_reverse->Jf, getElem_of_mem->Jg, length_pos_of_mem->Jt, length_replicate->JC, length_drop->JF, filterMap_cons->JJ, forIn_cons->JP, replicate_succ->JT, length_flatMap->J1, flatMap_append->J3, map_nil->Ka, length_zipIdx->Kf, mem_of_find?_eq_some->Kh, reverse_cons->Kl, length_erase_of_mem->Kr, getElem_take->Ks, flatMap_cons->Ku, filter_congr->Kw, getElem?_replicate->KA, filter_cons_of_pos->KI, filter_cons_of_neg->KJ, cons_append->KM, mem_reverse->KP, getElem_map->KQ, filterMap_eq_map'->KW, drop_eq_nil_of_le->KZ, mem_filter->K3, getElem?_eq_none->K6, take_append_drop->Lj, range_succ->Ll, mem_of_getElem?->Lq, mem_erase_of_ne->Ls, filter_eq_self->LM, all_cons->L6
open List.Pairwise renaming nil->Km
open List.cons renaming injEq->Hl
open Nat renaming lt_of_lt_of_le->FN, le_refl->FQ, pow_le_pow_right->FX, zero_le->Gw, ne_of_lt->Gx, le_trans->GI, lt_irrefl->GT, le_of_succ_le->Hu, ne_of_gt->H0, lt_of_le_of_lt->Im, pow_lt_pow_right->IU, le_add_right->Jc, div_lt_self->JW, strongRecOn->JX, lt_succ_of_lt->Kt, le_mul_of_pos_right->KE, mul_lt_mul''->KO, lt_trans->K5, pow_succ->La, mul_ne_zero->Ld, sub_self->Li, mul_le_mul_right->Lr, Coprime->LL, le_of_lt->Me, pow_add->Mx
open Ne renaming symm->LB
open Option renaming isSome_iff_exists->Hr, map_eq_some_iff->Jr, some->MH
open Option.some renaming inj->GS
open Or renaming inr->HN, inl->Ix
open PyProof.Rows renaming callWith_type1->GN, slot_tuple_getitem->GW, IntsAre->JN, assignInOrder_cons->J7, envOfC->J_, subscriptTail_builtinR->KR, AllBare->LA, subscriptTail->L0, boot_range->L9, seqObj->Mz
open PySem renaming PyData->FH, wpAny_bind->FI, Shared->FO, wpAny_pure->FS, starEach->FU, wpAny->Gb, Program->Gi, foldedSetIterable->Gj, model->Gn, wpAny_mono->Gr, mem_of_lookup->GK, sizeLine_eq->GL, wpAny_newObj_type->GP, mainGlobals->GQ, wpAny_callSpecial?_slot->G3, World->G5, cellsFrom->G6, wpAny_field->Ha, Around->Hf, wpAny_setField_rec->Hg, backTo->Hs, Paired->Hv, wpAny_standAt->HD, wpAny_comprehension_free->HF, wpAny_call_entry->HI, wpAny_seqItems->HR, swapsWith->HS, letOwnedTupleGo->HU, codeAny->HY, FuncData->Ik, wpAny_Call_Name_kw->Il, wpAny_truthy_bool->Is, wpAny_passesOwn->Iu, wpAny_holding->IC, compareOp->IF, assignEach->IG, bootBuiltins->II, sysModules->IN, binaryOp->IP, behindInMarks->IQ, assign->IS, wpAny_letGo->Jd, wpAny_rule->Ji, NameKind->Jl, codeAny_builtin->Jp, plainId_quiet->Jq, wpAny_assign_Name->Jv, wpAny_pyIter_list->Jw, sliceBounds->Jx, newFunctionEnv->JA, codeAny_mono->JB, exec_Assign_Name_used->JD, wpAny_updateSeq_pair->JG, wpAny_execs_nil->JK, keywordEach->JM, theTreesLotGoes->JQ, pushCells_keeps->JR, IsPair->JY, wpAny_pyIter_tuple->J8, pyNext->Ki, wpAny_sequenceKey->Kk, pushCells->Kn, swapsWithSole->Kx, swappedStores->Ky, Keyword->Kz, getItem->KB, attributeBase->KC, wpAny_onRaise->KF, wpAny_attempt->KG, noFill_tuple_add->KL, codeAny_compStart_list->KU, importedModules->K0, wpAny_typeOf->K4, codeAny_loop->K7, wpAny_updateSeq->Lh, wpAny_loadName_local->Lp, intBits_le_iff->Lw, wpAny_tryCatch->Lz, wpAny_loadName_cell->LC, standAt->LD, subscripted->LF, wpAny_noted->LG, wpAny_of_eq->LH, tupleKind->LQ, assignInOrder->LR, Operator->LS, PassesOwn->LU, rangeSize_one->LV, cLine->LW, backToKw->LX, seq_tuple_add->LY, IsPart->LZ, compTurn->L1, noteFrame->L3, compPost->L4, comprehension->L5, valueAt->Ma, callerA->Mc, IsZip->Md, call_range_1->Mf, name_of_addr->Mg, concat_meets->Mh, pyIter->Mn, rawInt->Mp, Result->Mr, BindsTo->Ms, ItemsOf->Mt, field->Mu, seqItems?->Mv, IsEnum->MA, Params->MC, relabel->ME, atKey->MF, IsRange->MG
open PySem.Around renaming under_plainId->Ir
open PySem.AutoSeq1 renaming wpAny_loadPart'->Jk
open PySem.Builtin.Builtins renaming bindParams->J0
open PySem.Builtin.Range renaming rangeSize->IB, small->JU
open PySem.Builtin.Slice renaming slicePlaces->Iq, sliceAdjust->I0, sliceApplied->J5
open PySem.Builtin.SmallTypes renaming nextOf->GM, ownedTupleIsFree->GX, ownedTupleHandOut->HA
open PySem.Builtin.Tuple renaming tupleExact->HE, tupleItemsOf->J6
open PySem.Calls renaming Name_function_global->J4, spliced_cons->J9, spliced_nil->Kj
open PySem.F renaming plain_max_loop->HM, args_tuple_add_2->Jj, entry_tuple_add->Jm, slot_tuple_add->Js, entry_max_loop->KY
open PySem.Heap renaming get?_push_of_some->FM, lt_size->FW, get?_push_size->FY, size_push->Ho, get?_update_other->Hy, SameBut->Ij, get?_update_self->Lb
open PySem.Heap.SameBut renaming refl->Ko, update->LI
open PySem.IsRange renaming new->Mq
open PySem.NameKind renaming free->G4, cell->HP
open PySem.Obj renaming mapSeq->L_
open PySem.Paired renaming length->HC
open PySem.PassesOwn renaming never->GO
open PySem.PyData renaming depthAll->Go, int->GA, canLayAll0->GE, depth->GR, canLay0->GY, eqv->Hi, tuple->Hw, bulkAll->HQ, bool->Ic, bulk->IL, leavesShort->Jo, showable->JS, str->Kq, leavesShortAll->K8, list->MB
open PySem.PyData.int renaming injEq->KN
open PySem.PyData.list renaming injEq->IR
open PySem.PyData.tuple renaming injEq->Hh
open PySem.SeqAt renaming shaped->GC, canLay_of_shaped->KS
open PySem.Shared renaming heap->Mw
open PySem.Str renaming ofString->F0
open PySem.Value renaming ref->Ia, none->Jh, int->K1, str->LP, bool->L8
open PySem.W renaming codeIn->F_, keepIn->Ga, mg_none_of->Ge, boot_heap->Hz, Frag->Iz, OpenLaw->Lm, boot_drawn->Ln, boot_toks->LO, nsIn->Mk, fnOf->Ml, OpenLaw->MD
open Rat renaming intCast_mul->Hm, normalize->KH, lt_iff->Lo, le_refl->LN, le_of_lt->Mi, div_def->My
open Sum renaming inl->HX, inr->Ju
open True renaming intro->JI
open PySem PySem.Spec PyProof.Rows
variable{loose N N':List Str}{α:Type}{m t' j n:Nat}{xs xs':List FH}{us:List Value}{a it:Addr}{b c B:Int}{P:Gi}{h h':Heap}{x qual:Str}{A:Hf}{E Q:Value->FO->Prop}{u:Value}{e tg iter:Expr}{s:FO}{pos pos' px spos:Pos}{pins:List (Addr×Obj)}{fp:List Addr}{f:Value->Value->Sem Value}{op:CmpOp}{mg:Str->Option Value}{fd:Ik}{ps Es:List (List Rat)}{scope:Scope}{ns ds:List Int}{XP:(Str->Option Value)->Heap->Prop}{d:FH}{ifs:List Expr}{tn:Nat->Heap->Prop}{Rp:Addr->Mr->FO->Prop}{q:Rat}{qs es:List Rat}
namespace L2
open PySem
def oh(s:Stmt)(j:Nat):Stmt:=match s with
 | .ClassDef _ _ _ body _ _ _ _ _ _ _=>body.getD j (.Pass ⟨0,0,0,0⟩)
 | _=>.Pass ⟨0,0,0,0⟩
def defArgs(s:Stmt):Arguments:=match s with
 | .FunctionDef _ a _ _ _ _ _ _ _ _=>a
 | _=>{posonlyargs:=[],args:=[],vararg:=none,kwonlyargs:=[],kw_defaults:=[],kwarg:=none,defaults:=[]}
def defBody(s:Stmt):List Stmt:=match s with
 | .FunctionDef _ _ b _ _ _ _ _ _ _=>b
 | _=>[]
def defScope(s:Stmt):Scope:=match s with
 | .FunctionDef _ _ _ _ _ _ sc _ _ _=>sc
 | _=>{kind:=.function,names:=[],isGenerator:=false,isCoroutine:=false}
end L2
namespace L2.TT
open PySem PySem.W
def D3(tb:String->Option Builtin)(p:Gi)(w:G5)(m:Nat)(ann:Option Value):Nat->SharedT->Thread->Option SharedT
 | 0,_,_=>none
 | n+1,s,t=>match through t with
   | true=>some s
   | false=>match stepOk m ann t with
     | false=>none
     | true=>match stepT (denote tb) p w s t with
       | some r=>D3 tb p w m ann n r.1 r.2
       | none=>none
theorem rp{tb:String->Option Builtin}{p:Gi}{w:G5}{m:Nat}{ann:Option Value}:∀{n:Nat}{s s':SharedT}{t:Thread},D3 tb p w m ann n s t=some s'->topRun tb p w m ann n s.abs t=some s'.abs
 | 0,_,_,_,h=>by cases h
 | n+1,s,s',t,h=>by
   unfold D3 at h
   unfold topRun
   cases he:through t with
   | true=>rw[he]at h;cases h;rfl
   | false =>
     rw[he]at h
     cases hk:stepOk m ann t with
     | false=>rw[hk]at h;cases h
     | true =>
       rw[hk]at h
       cases hs:stepT (denote tb) p w s t with
       | none=>rw[hs]at h;cases h
       | some r=>rw[hs]at h;rw[stepT_spec hs];exact rp h
def bt(os:List Obj):Nat->Nat->Nat->BT
 | 0,_,_=>.nil
 | f+1,a,b=>match os[b]? with
   | some o=>.node o (bt os f (2*a) (a+b)) (bt os f (2*a) (2*a+b))
   | none=>.nil
theorem boot_abs(P:MC):absHeap (bt (Hz P).objs.toList 12 1 0) (Hz P).objs.size (Hz P).life=Hz P:=by kernel_rfl
abbrev wM(p q:Gi)(loose:List Str)(Xt:FO->Bool){α:Type}(Yf:FO->α)(h₀:Heap)(s:FO) :=
 (staticsOk (K0 p.main.body) h₀ s.heap&&namesBound p s.heap&&gensDone s&&laidKept h₀ s.heap,openSeen q loose (K0 p.main.body) Xt true s,Yf s)
theorem left_of{p q:Gi}{Xt:FO->Bool}{Yf:FO->α}{Ya:G5->α}{N M:Nat}{ann:Option Value}
 (e:opening p=plainProg p.main.scope.names)(hN:Nat.ble 600 N=true)(f:∀s,fenceModules? p s=some s)(le:Nat.ble M N=true)
 (size:∀w:G5,((Hz w.params).isNs GQ,(Hz w.params).objs.size,(Hz w.params).nsMap GQ "__annotations__")=(true,m,ann))
 (run:∀(w:G5)(os:OsState),(D3 treeTable p w m ann M ⟨bt (Hz w.params).objs.toList 12 1 0,(Hz w.params).objs.size,(Hz w.params).life,Mm [],Ln,LO,os⟩ (topStub p)).map (fun s=>wM p q loose Xt Yf (Hz w.params) s.abs)=some (true,openGood q loose,Ya w)) :
 LeftO p q loose Xt Yf Ya N:=fun w=>by
 obtain⟨⟨h,gs,d,k,os⟩,eo,e'⟩:=Jr.mp (boot_open e hN f w)
 obtain⟨rfl,rfl,rfl,rfl⟩:h=Hz w.params/\gs=Mm []/\d=Ln/\k=LO:=by simpa using e'
 obtain⟨z1,z2,z3⟩:_/\_/\_:=by simpa only[Prod.mk.injEq]using size w
 obtain⟨s',r,l⟩:=Jr.mp (run w os)
 obtain⟨l1,l2,l3⟩:_/\_/\_:=by simpa only[wM,Prod.mk.injEq]using l
 have r:=rp r
 have hb:SharedT.abs ⟨bt (Hz w.params).objs.toList 12 1 0,(Hz w.params).objs.size,(Hz w.params).life,Mm [],Ln,LO,os⟩=⟨Hz w.params,Mm [],Ln,LO,os⟩:=by
  show FO.mk (absHeap _ _ _) _ _ _ _=_
  rw[boot_abs]
 rw[hb]at r
 have r:=topRun_mono (N-M) _ _ _ _ r
 rw[show M+(N-M)=N by have:=Nat.le_of_ble_eq_true le;omega]at r
 have t:topFrom treeTable p w N ⟨Hz w.params,Mm [],Ln,LO,os⟩=some s'.abs:=by
  unfold topFrom
  dsimp only
  rw[z1,z2,z3,r]
  show(match staticsOk (K0 p.main.body) (Hz w.params) s'.abs.heap&&namesBound p s'.abs.heap&&gensDone s'.abs&&laidKept (Hz w.params) s'.abs.heap with|true=>_|false=>_)=_
  rw[l1]
 unfold openEnds
 rw[eo]
 show(topFrom treeTable p w N _).map _=_
 rw[t]
 exact congrArg some (Prod.ext l2 l3)
end L2.TT
namespace K81
open PySem
def CA(i:Nat):Stmt:=PySem.Challenge.pw_evenpoints_k81_heaves.main.body.getD i (.Pass ⟨0,0,0,0⟩)
end K81
def PySem.W.Fast.tw12829344405278105212:PySem.Program:=PySem.Challenge.pw_evenpoints_k81_heaves
theorem PySem.W.Fast.te12829344405278105212:PySem.Challenge.pw_evenpoints_k81_heaves=PySem.W.Fast.tw12829344405278105212:=rfl
namespace K81
open PySem PySem.W L2
def B4:Stmt:=CA 0
def B3:Stmt:=CA 1
def B2:Stmt:=CA 2
def BZ:Stmt:=CA 3
def BY:Stmt:=CA 4
def BX:Stmt:=CA 5
def BW:Stmt:=CA 6
def BV:Stmt:=CA 7
def BU:Stmt:=CA 8
def BS:Stmt:=CA 9
def AF:Stmt:=CA 10
def AE:Stmt:=CA 11
def AD:Stmt:=CA 12
def AC:Stmt:=CA 13
def AB:Stmt:=CA 14
def AA:Stmt:=CA 15
def Ba:Stmt:=CA 16
def Az:Stmt:=CA 17
def Ay:Stmt:=CA 18
def Ax:Stmt:=CA 19
def A_:Stmt:=CA 20
def Aw:Stmt:=CA 21
def Av:Stmt:=CA 22
def A9:Stmt:=CA 23
def Au:Stmt:=CA 24
def At:Stmt:=CA 25
def As:Stmt:=CA 26
def Ar:Stmt:=CA 27
def Aq:Stmt:=CA 28
def Ap:Stmt:=CA 29
def Ao:Stmt:=CA 30
def An:Stmt:=CA 31
def Am:Stmt:=CA 32
def Al:Stmt:=CA 33
def Ak:Stmt:=CA 34
def Aj:Stmt:=CA 35
def Ai:Stmt:=CA 36
def A8:Stmt:=CA 37
def Ah:Stmt:=CA 38
def A7:Stmt:=CA 39
def Ag:Stmt:=CA 40
def A6:Stmt:=CA 41
def Af:Stmt:=CA 42
def Ae:Stmt:=CA 43
def Ad:Stmt:=CA 44
def Ac:Stmt:=CA 45
def Ab:Stmt:=CA 46
def Aa:Stmt:=CA 47
def z_:Stmt:=CA 48
def z9:Stmt:=CA 49
def zZ:Stmt:=CA 50
def Dk:Gi:={PySem.Challenge.pw_evenpoints_k81_heaves with main:={PySem.Challenge.pw_evenpoints_k81_heaves.main with body:=[B4,B3,B2,BZ,BY,BX,BW,BV,BU,BS,AF,AE,AD,AC,AB,AA,Ba,Az,Ay,Ax,A_,Aw,Av,A9,Au,At,As,Ar,Aq,Ap,Ao,An,Am,Al,Ak,Aj,Ai,A8,Ah,A7,Ag,A6,Af,Ae,Ad,Ac,Ab,Aa,z_,z9,zZ]}}
def rwN:MD:={PySem.Challenge.rw_evenpoints_k81_heaves with prog:=Dk}
def zview:Gi:={PySem.Challenge.pw_evenpoints_k81_heaves with main:={PySem.Challenge.pw_evenpoints_k81_heaves.main with body:=[B3,B2,BZ,BX,BW,BV,BU,BS,AF,AE,AD,AC,AB,AA,Az,Ay,Ax,Aw,Av,Au,At,As,Ar,Aq,Ap,Ao,An,Am,Al,Ak,Aj,Ai,Ah,Ag,Af,Ae,Ad,Ac,Ab,Aa,z_,z9,zZ]}}
theorem rw_eq:PySem.Challenge.rw_evenpoints_k81_heaves=rwN:=rfl
def Ce(P:MC)(x:Str)(t:Nat)(v:Value):DictEntry:=⟨FH.keyHash P x,.str x t,v⟩
def Cd(n q:Str)(s:Stmt)(pm cd:Value):Obj:=⟨.type "function", none,.func (fnOf n q (defArgs s) (defBody s) (defScope s) .none .none .none pm none cd .none),#[]⟩
def Cg(n q:Str)(a b c:Nat)(l x y:Int)(r:Nat)(z:Int)(r2:Nat)(v1 v2 v3:Value)(r3:Nat)(u:Int)(c2:Nat):Obj:=⟨.type "code", none,.fields #[.str n a,.str q b,.str "/claim/cut.py" c,.int l 0,.int x 0,.int 0 0,.int 0 0,.int y 0,.ref r,.bool true,.int z 0,.ref r2,v1,v2,v3,.ref r3,.int u 0,.int l 0,.str "/claim/cut.py" c2],#[]⟩
def Cb:Value:=.str "evenpoints.errors" 187
def Ca:Value:=.str "evenpoints.fractions" 257
def B_:Value:=.str "evenpoints.boxes" 336
def B9:Value:=.str "evenpoints.points" 367
def B8:Value:=.str "evenpoints.looks" 382
def B7:Value:=.str "evenpoints.orderchecker" 478
def B6:Value:=.str "evenpoints.orders" 488
def B5:Value:=.str "law_evenpoints_k81_heaves" 496
abbrev Cc(n:Str):=Cd n n
abbrev Cf(n:Str):=Cg n n
def heapK(P:MC):Frag :=
 (nat_lit 2,(.mk .none none (.dict #[] 0) #[])) ::
 (nat_lit 3,(.mk (.type "dict") none (.dict #[Ce P "__name__" 165 (.str "law_evenpoints_k81_heaves" 496),Ce P "__doc__" 166 .none,Ce P "__package__" 167 .none,Ce P "__loader__" 168 (.builtin "__main__.__loader__#opaque"),Ce P "__spec__" 169 .none,Ce P "__annotations__" 170 (.ref 6),Ce P "__builtins__" 171 (.ref 4),Ce P "__file__" 173 (.str "/claim/cut.py" 172),Ce P "__cached__" 174 .none,Ce P "EvenError" 206 (.ref 24),Ce P "Nought" 231 (.ref 44),Ce P "TooMany" 256 (.ref 63),Ce P "ZERO" 261 (.ref 66),Ce P "ONE" 264 (.ref 67),Ce P "common_divisor" 272 (.ref 74),Ce P "fraction" 281 (.ref 81),Ce P "plus" 289 (.ref 88),Ce P "less" 297 (.ref 95),Ce P "times" 305 (.ref 102),Ce P "is_below" 313 (.ref 109),Ce P "lesser" 321 (.ref 116),Ce P "greater" 329 (.ref 123),Ce P "in_size" 335 (.ref 128),Ce P "side_size" 346 (.ref 135),Ce P "goes_ahead" 355 (.ref 142),Ce P "lies" 366 (.ref 149),Ce P "sides_of" 375 (.ref 156),Ce P "numbers_at" 381 (.ref 161),Ce P "MOST_LOOKS" 385 (.int 3000 384),Ce P "BELOW_ALL" 389 (.ref 162),Ce P "side_looks" 395 (.ref 167),Ce P "many_side_looks" 404 (.ref 174),Ce P "many_looks" 414 (.ref 181),Ce P "looks_by_side" 420 (.ref 186),Ce P "marked" 426 (.ref 191),Ce P "widened" 432 (.ref 196),Ce P "counted_looks" 438 (.ref 201),Ce P "misses" 452 (.ref 208),Ce P "first_greatest" 461 (.ref 215),Ce P "worst" 469 (.ref 222),Ce P "unevenness" 477 (.ref 229),Ce P "times_many" 487 (.ref 236),Ce P "heave" 495 (.ref 241),Ce P "_law_feed" 504 (.ref 248),Ce P "_law_draw" 517 (.ref 255),Ce P "_law_frac" 527 (.ref 262),Ce P "_law_below" 535 (.ref 269),Ce P "_law_number" 543 (.ref 276),Ce P "_law_points" 549 (.ref 281),Ce P "_law_corner" 555 (.ref 286),Ce P "_law_uneven" 561 (.ref 291),Ce P "law" 567 (.ref 296)] 52) #[])) ::
 (nat_lit 6,(.mk (.type "dict") none (.dict #[] 0) #[])) ::
 (nat_lit 15,(.mk (.type "tuple") none (.seq #[(.type "ValueError")] 0) #[])) ::
 (nat_lit 22,(.mk (.type "tuple") none (.seq #[] 0) #[])) ::
 (nat_lit 23,(.mk (.type "dict") none (.dict #[Ce P "__module__" 196 (.str "evenpoints.errors" 187),Ce P "__firstlineno__" 200 (.int 2 199),Ce P "__static_attributes__" 201 (.ref 22),Ce P "__weakref__" 203 (.ref 25),Ce P "__doc__" 204 .none] 3) #[])) ::
 (nat_lit 24,(.mk (.type "type") none (.cls (.mk "EvenError" [(.type "ValueError")] [(.ref 24),(.type "ValueError"),(.type "Exception"),(.type "BaseException"),(.type "object")] 23 "EvenError" true [] [(.ref 44),(.ref 63)] false none false)) #[(some (.ref 15)),none,(some (.str "EvenError" 189)),(some (.str "EvenError" 197)),(some (.builtin "ValueError.__new__")),(some (.bool true))])) ::
 (nat_lit 25,(.mk (.type "getset_descriptor") none (.fields #[(.str "__weakref__" 202),(.ref 24),(.builtin "ExceptionGroup.__weakref__"),.none]) #[])) ::
 (nat_lit 28,(.mk (.type "tuple") none (.seq #[(.ref 24)] 0) #[])) ::
 (nat_lit 40,Cg "__init__" "Nought.__init__" 219 220 221 6 2 3 35 181 36 .none (.ref 37) (.ref 38) 39 224 225) ::
 (nat_lit 41,Cd "__init__" "Nought.__init__" (oh (CA 2) 0) Cb (.ref 40)) ::
 (nat_lit 42,(.mk (.type "tuple") none (.seq #[(.str "word" 227)] 0) #[])) ::
 (nat_lit 43,(.mk (.type "dict") none (.dict #[Ce P "__module__" 214 (.str "evenpoints.errors" 187),Ce P "__firstlineno__" 218 (.int 4 217),Ce P "__init__" 226 (.ref 41),Ce P "__static_attributes__" 228 (.ref 42),Ce P "__doc__" 229 .none] 2) #[])) ::
 (nat_lit 44,(.mk (.type "type") none (.cls (.mk "Nought" [(.ref 24)] [(.ref 44),(.ref 24),(.type "ValueError"),(.type "Exception"),(.type "BaseException"),(.type "object")] 43 "Nought" true [] [] false none false)) #[(some (.ref 28)),none,(some (.str "Nought" 207)),(some (.str "Nought" 215)),(some (.builtin "ValueError.__new__")),(some (.bool true))])) ::
 (nat_lit 47,(.mk (.type "tuple") none (.seq #[(.ref 24)] 0) #[])) ::
 (nat_lit 59,Cg "__init__" "TooMany.__init__" 244 245 246 10 2 3 54 181 55 .none (.ref 56) (.ref 57) 58 249 250) ::
 (nat_lit 60,Cd "__init__" "TooMany.__init__" (oh (CA 3) 0) Cb (.ref 59)) ::
 (nat_lit 61,(.mk (.type "tuple") none (.seq #[(.str "word" 252)] 0) #[])) ::
 (nat_lit 62,(.mk (.type "dict") none (.dict #[Ce P "__module__" 239 (.str "evenpoints.errors" 187),Ce P "__firstlineno__" 243 (.int 8 242),Ce P "__init__" 251 (.ref 60),Ce P "__static_attributes__" 253 (.ref 61),Ce P "__doc__" 254 .none] 2) #[])) ::
 (nat_lit 63,(.mk (.type "type") none (.cls (.mk "TooMany" [(.ref 24)] [(.ref 63),(.ref 24),(.type "ValueError"),(.type "Exception"),(.type "BaseException"),(.type "object")] 62 "TooMany" true [] [] false none false)) #[(some (.ref 47)),none,(some (.str "TooMany" 232)),(some (.str "TooMany" 240)),(some (.builtin "ValueError.__new__")),(some (.bool true))])) ::
 (nat_lit 66,(.mk (.type "tuple") none (.seq #[(.int 0 259),(.int 1 260)] 0) #[])) ::
 (nat_lit 67,(.mk (.type "tuple") none (.seq #[(.int 1 262),(.int 1 263)] 0) #[])) ::
 (nat_lit 73,Cf "common_divisor" 265 266 267 15 2 3 68 181 69 .none (.ref 70) (.ref 71) 72 270 271) ::
 (nat_lit 74,Cc "common_divisor" (CA 7) Ca (.ref 73)) ::
 (nat_lit 80,Cf "fraction" 273 274 275 19 2 3 75 181 76 .none (.ref 77) (.ref 78) 79 279 280) ::
 (nat_lit 81,Cc "fraction" (CA 8) Ca (.ref 80)) ::
 (nat_lit 87,Cf "plus" 282 283 284 26 2 3 82 181 83 .none (.ref 84) (.ref 85) 86 287 288) ::
 (nat_lit 88,Cc "plus" (CA 9) Ca (.ref 87)) ::
 (nat_lit 94,Cf "less" 290 291 292 28 2 3 89 181 90 .none (.ref 91) (.ref 92) 93 295 296) ::
 (nat_lit 95,Cc "less" (CA 10) Ca (.ref 94)) ::
 (nat_lit 101,Cf "times" 298 299 300 30 2 3 96 181 97 .none (.ref 98) (.ref 99) 100 303 304) ::
 (nat_lit 102,Cc "times" (CA 11) Ca (.ref 101)) ::
 (nat_lit 108,Cf "is_below" 306 307 308 32 2 3 103 181 104 .none (.ref 105) (.ref 106) 107 311 312) ::
 (nat_lit 109,Cc "is_below" (CA 12) Ca (.ref 108)) ::
 (nat_lit 115,Cf "lesser" 314 315 316 34 2 3 110 181 111 .none (.ref 112) (.ref 113) 114 319 320) ::
 (nat_lit 116,Cc "lesser" (CA 13) Ca (.ref 115)) ::
 (nat_lit 122,Cf "greater" 322 323 324 36 2 3 117 181 118 .none (.ref 119) (.ref 120) 121 327 328) ::
 (nat_lit 123,Cc "greater" (CA 14) Ca (.ref 122)) ::
 (nat_lit 127,Cf "in_size" 330 331 332 38 1 3 124 181 125 .none .none .none 126 333 334) ::
 (nat_lit 128,Cc "in_size" (CA 15) Ca (.ref 127)) ::
 (nat_lit 134,Cf "side_size" 338 339 340 44 1 3 129 181 130 .none (.ref 131) (.ref 132) 133 344 345) ::
 (nat_lit 135,Cc "side_size" (CA 17) B_ (.ref 134)) ::
 (nat_lit 141,Cf "goes_ahead" 347 348 349 52 3 3 136 181 137 .none (.ref 138) (.ref 139) 140 353 354) ::
 (nat_lit 142,Cc "goes_ahead" (CA 18) B_ (.ref 141)) ::
 (nat_lit 148,Cf "lies" 356 357 358 56 3 3 143 181 144 .none (.ref 145) (.ref 146) 147 364 365) ::
 (nat_lit 149,Cc "lies" (CA 19) B_ (.ref 148)) ::
 (nat_lit 155,Cf "sides_of" 369 370 371 65 1 3 150 181 151 .none (.ref 152) (.ref 153) 154 373 374) ::
 (nat_lit 156,Cc "sides_of" (CA 21) B9 (.ref 155)) ::
 (nat_lit 160,Cf "numbers_at" 376 377 378 67 2 3 157 181 158 .none .none .none 159 379 380) ::
 (nat_lit 161,Cc "numbers_at" (CA 22) B9 (.ref 160)) ::
 (nat_lit 162,(.mk (.type "tuple") none (.seq #[(.int (Neg.neg 1) 387),(.int 1 388)] 0) #[])) ::
 (nat_lit 166,Cf "side_looks" 390 391 392 72 2 3 163 181 164 .none .none .none 165 393 394) ::
 (nat_lit 167,Cc "side_looks" (CA 26) B8 (.ref 166)) ::
 (nat_lit 173,Cf "many_side_looks" 396 397 398 81 2 3 168 181 169 .none (.ref 170) (.ref 171) 172 402 403) ::
 (nat_lit 174,Cc "many_side_looks" (CA 27) B8 (.ref 173)) ::
 (nat_lit 180,Cf "many_looks" 405 406 407 86 2 3 175 181 176 .none (.ref 177) (.ref 178) 179 412 413) ::
 (nat_lit 181,Cc "many_looks" (CA 28) B8 (.ref 180)) ::
 (nat_lit 185,Cf "looks_by_side" 415 416 417 91 2 3 182 181 183 .none .none .none 184 418 419) ::
 (nat_lit 186,Cc "looks_by_side" (CA 29) B8 (.ref 185)) ::
 (nat_lit 190,Cf "marked" 421 422 423 95 2 3 187 181 188 .none .none .none 189 424 425) ::
 (nat_lit 191,Cc "marked" (CA 30) B8 (.ref 190)) ::
 (nat_lit 195,Cf "widened" 427 428 429 99 2 3 192 181 193 .none .none .none 194 430 431) ::
 (nat_lit 196,Cc "widened" (CA 31) B8 (.ref 195)) ::
 (nat_lit 200,Cf "counted_looks" 433 434 435 103 2 3 197 181 198 .none .none .none 199 436 437) ::
 (nat_lit 201,Cc "counted_looks" (CA 32) B8 (.ref 200)) ::
 (nat_lit 207,Cf "misses" 439 440 441 111 2 3 202 181 203 .none (.ref 204) (.ref 205) 206 450 451) ::
 (nat_lit 208,Cc "misses" (CA 33) B8 (.ref 207)) ::
 (nat_lit 214,Cf "first_greatest" 453 454 455 118 1 3 209 181 210 .none (.ref 211) (.ref 212) 213 459 460) ::
 (nat_lit 215,Cc "first_greatest" (CA 34) B8 (.ref 214)) ::
 (nat_lit 221,Cf "worst" 462 463 464 124 2 3 216 181 217 .none (.ref 218) (.ref 219) 220 467 468) ::
 (nat_lit 222,Cc "worst" (CA 35) B8 (.ref 221)) ::
 (nat_lit 228,Cf "unevenness" 470 471 472 126 2 3 223 181 224 .none (.ref 225) (.ref 226) 227 475 476) ::
 (nat_lit 229,Cc "unevenness" (CA 36) B8 (.ref 228)) ::
 (nat_lit 235,Cf "times_many" 480 481 482 129 2 3 230 181 231 .none (.ref 232) (.ref 233) 234 485 486) ::
 (nat_lit 236,Cc "times_many" (CA 38) B7 (.ref 235)) ::
 (nat_lit 240,Cf "heave" 490 491 492 132 2 3 237 181 238 .none .none .none 239 493 494) ::
 (nat_lit 241,Cc "heave" (CA 40) B6 (.ref 240)) ::
 (nat_lit 247,Cf "_law_feed" 498 499 500 139 1 3 242 181 243 .none (.ref 244) (.ref 245) 246 502 503) ::
 (nat_lit 248,Cc "_law_feed" (CA 42) B5 (.ref 247)) ::
 (nat_lit 254,Cf "_law_draw" 505 506 507 141 2 3 249 181 250 .none (.ref 251) (.ref 252) 253 515 516) ::
 (nat_lit 255,Cc "_law_draw" (CA 43) B5 (.ref 254)) ::
 (nat_lit 261,Cf "_law_frac" 518 519 520 155 2 3 256 181 257 .none (.ref 258) (.ref 259) 260 525 526) ::
 (nat_lit 262,Cc "_law_frac" (CA 44) B5 (.ref 261)) ::
 (nat_lit 268,Cf "_law_below" 528 529 530 161 2 3 263 181 264 .none (.ref 265) (.ref 266) 267 533 534) ::
 (nat_lit 269,Cc "_law_below" (CA 45) B5 (.ref 268)) ::
 (nat_lit 275,Cf "_law_number" 536 537 538 163 1 3 270 181 271 .none (.ref 272) (.ref 273) 274 541 542) ::
 (nat_lit 276,Cc "_law_number" (CA 46) B5 (.ref 275)) ::
 (nat_lit 280,Cf "_law_points" 544 545 546 166 3 3 277 181 278 .none .none .none 279 547 548) ::
 (nat_lit 281,Cc "_law_points" (CA 47) B5 (.ref 280)) ::
 (nat_lit 285,Cf "_law_corner" 550 551 552 174 2 3 282 181 283 .none .none .none 284 553 554) ::
 (nat_lit 286,Cc "_law_corner" (CA 48) B5 (.ref 285)) ::
 (nat_lit 290,Cf "_law_uneven" 556 557 558 187 1 3 287 181 288 .none .none .none 289 559 560) ::
 (nat_lit 291,Cc "_law_uneven" (CA 49) B5 (.ref 290)) ::
 (nat_lit 295,Cf "law" 562 563 564 204 1 3 292 181 293 .none .none .none 294 565 566) ::
 (nat_lit 296,Cc "law" (CA 50) B5 (.ref 295))::[]
def heapA:List Addr:=nat_lit 2::nat_lit 3::nat_lit 6::nat_lit 15::nat_lit 22::nat_lit 23::nat_lit 24::nat_lit 25::nat_lit 28::nat_lit 40::nat_lit 41::nat_lit 42::nat_lit 43::nat_lit 44::nat_lit 47::nat_lit 59::nat_lit 60::nat_lit 61::nat_lit 62::nat_lit 63::nat_lit 66::nat_lit 67::nat_lit 73::nat_lit 74::nat_lit 80::nat_lit 81::nat_lit 87::nat_lit 88::nat_lit 94::nat_lit 95::nat_lit 101::nat_lit 102::nat_lit 108::nat_lit 109::nat_lit 115::nat_lit 116::nat_lit 122::nat_lit 123::nat_lit 127::nat_lit 128::nat_lit 134::nat_lit 135::nat_lit 141::nat_lit 142::nat_lit 148::nat_lit 149::nat_lit 155::nat_lit 156::nat_lit 160::nat_lit 161::nat_lit 162::nat_lit 166::nat_lit 167::nat_lit 173::nat_lit 174::nat_lit 180::nat_lit 181::nat_lit 185::nat_lit 186::nat_lit 190::nat_lit 191::nat_lit 195::nat_lit 196::nat_lit 200::nat_lit 201::nat_lit 207::nat_lit 208::nat_lit 214::nat_lit 215::nat_lit 221::nat_lit 222::nat_lit 228::nat_lit 229::nat_lit 235::nat_lit 236::nat_lit 240::nat_lit 241::nat_lit 247::nat_lit 248::nat_lit 254::nat_lit 255::nat_lit 261::nat_lit 262::nat_lit 268::nat_lit 269::nat_lit 275::nat_lit 276::nat_lit 280::nat_lit 281::nat_lit 285::nat_lit 286::nat_lit 290::nat_lit 291::nat_lit 295::nat_lit 296::[]
theorem heapE:∀P,heapA=(heapK P).map (·.1):=fun _=>rfl
theorem x2:∀w:G5,((Hz w.params).isNs GQ,(Hz w.params).objs.size,(Hz w.params).nsMap GQ "__annotations__")=(true,11,some (.ref 6)):=fun w=>by kernel_rfl
set_option maxHeartbeats 0 in
theorem zleft:LeftO Dk zview [] (fun s=>xlAt zview [] s&&recOk (RowW.records rwN.row.toRowW) s) (Hook.obs (kHook heapK heapA heapE)) (Hook.val (kHook heapK heapA heapE)) 4428 :=
 L2.TT.left_of (M:=4428) (by kernel_rfl) rfl (fun s=>by kernel_rfl) rfl x2 fun w os=>by kernel_rfl
end K81
namespace L2
abbrev E7:=Sum Int Str
def jW:E7->Value->Bool
 | .inl k,v=>Value.isInt k v
 | .inr x,v=>Value.isStrOf x v
def BD(w:G5):E7->Int
 | .inl k=>hashInt k
 | .inr x=>hashStr w x
theorem aY:∀{k:E7}{v:Value},jW k v=true->(∃i t,k=HX i/\v=K1 i t)\/(∃x t,k=Ju x/\v=LP x t)
 | .inl i,v,h=>by
   obtain⟨t,e⟩:=Value.isInt_shape (k:=i) (v:=v) h
   exact .inl ⟨i,t,rfl,e⟩
 | .inr x,v,h=>by
   obtain⟨t,e⟩:=Value.isStrOf_shape (x:=x) (v:=v) h
   exact .inr ⟨x,t,rfl,e⟩
theorem n8(i:Int)(t:Tok):jW (.inl i) (.int i t)=true:=by simp[jW,Value.isInt]
theorem n6(x:Str)(t:Tok):jW (.inr x) (.str x t)=true:=by simp[jW,Value.isStrOf]
theorem wT(a b:Int):decide ((HX a:E7)=HX b)=(a==b):=by
 by_cases e:a=b
 · subst e;simp
 · have h:¬(HX a:E7)=HX b:=fun q=>e (HX.inj q)
   rw[decide_eq_false h]
   exact(beq_eq_false_iff_ne.mpr e).symm
theorem wQ(a b:Str):decide ((Ju a:E7)=Ju b)=decide (a=b):=by
 by_cases e:a=b
 · subst e;simp
 · have h:¬(Ju a:E7)=Ju b:=fun q=>e (Ju.inj q)
   rw[decide_eq_false h,decide_eq_false e]
theorem wS(a:Int)(b:Str):decide ((HX a:E7)=Ju b)=false:=decide_eq_false (fun q=>nomatch q)
theorem wR(a:Str)(b:Int):decide ((Ju a:E7)=HX b)=false:=decide_eq_false (fun q=>nomatch q)
def bA(prog:Gi)(w:G5):PySem.KeyKind prog w E7 where
 is:=jW
 hash:=BD w
 inj:=fun v a b ha hb=>by
  rcases aY ha with⟨i,t,rfl,rfl⟩|⟨x,t,rfl,rfl⟩
  · rcases aY hb with⟨j,u,rfl,e⟩|⟨y,u,rfl,e⟩
    · injection e with e1 _;rw[e1]
    · exact nomatch e
  · rcases aY hb with⟨j,u,rfl,e⟩|⟨y,u,rfl,e⟩
    · exact nomatch e
    · injection e with e1 _;rw[e1]
 byValue:=fun k v h=>by
   rcases aY h with⟨i,t,rfl,rfl⟩|⟨x,t,rfl,rfl⟩<;>rfl
 pyHash:=fun hv h=>by
  rcases aY hv with⟨i,t,rfl,rfl⟩|⟨x,t,rfl,rfl⟩
  · exact wpAny_pyHash_int h
  · exact wpAny_pyHash_str h
 eqBool:=fun hu hv h=>by
  rcases aY hu with⟨i,t,rfl,rfl⟩|⟨x,t,rfl,rfl⟩
  · rcases aY hv with⟨j,u,rfl,rfl⟩|⟨y,u,rfl,rfl⟩
    · rw[wT]at h;exact wpAny_eqBool_int h
    · rw[wS]at h;exact SeqAt.EqAt.int_str i t y u _ _ _ _ h
  · rcases aY hv with⟨j,u,rfl,rfl⟩|⟨y,u,rfl,rfl⟩
    · rw[wR]at h;exact SeqAt.EqAt.str_int x t j u _ _ _ _ h
    · rw[wQ]at h;exact wpAny_eqBool_str h
 «strs»:=fun k x t v h=>by
  rcases aY h with⟨i,u,rfl,e⟩|⟨y,u,rfl,e⟩
  · exact nomatch e
  · injection e with e1 _
    subst e1
    cases v<;>rfl
theorem jS(prog:Gi)(w:G5)(i:Int)(t:Tok):(bA prog w).is (.inl i) (.int i t)=true:=n8 i t
theorem jR(prog:Gi)(w:G5)(x:Str)(t:Tok):(bA prog w).is (.inr x) (.str x t)=true:=n6 x t
inductive V where
 | non|bl (b:Bool)|int (i:Int)|str (x:Str)|byt (b:Array UInt8)|flt (b:UInt64)|ref (a:Addr)|ty (n:String)
 deriving DecidableEq
def RelV:V->Value->Prop
 | .non,u=>u=Jh
 | .bl b,u=>u=L8 b
 | .int i,u=>∃t,u=K1 i t
 | .str x,u=>∃t,u=LP x t
 | .byt b,u=>∃t,u=Value.bytes b t
 | .flt b,u=>∃t,u=Value.float b t
 | .ref a,u=>u=Ia a
 | .ty n,u=>u=Value.type n
abbrev cj:List V->List Value->Prop:=Hv RelV
theorem cj.length{xs:List V}(r:cj xs us):xs.length=us.length:=HC r
theorem cj.get:∀{xs:List V}{us:List Value}{i:Nat}{x:V},cj xs us->xs[i]?=some x->∃u,us[i]?=some u/\RelV x u
 | _,_,_,_,.nil,e=>by simp at e
 | _,_,0,_,.cons r _,e=>by simp at e;subst e;exact⟨_,rfl,r⟩
 | _,_,i+1,x,.cons _ t,e=>by
   obtain⟨u,h1,h2⟩:=cj.get (i:=i) (x:=x) t (by simpa using e)
   exact⟨u,by simpa using h1,h2⟩
theorem cj.set{x:V}{u:Value}(r:RelV x u):∀{xs:List V}{us:List Value}(i:Nat),cj xs us->cj (xs.set i x) (us.set i u)
 | _,_,_,.nil=>.nil
 | _,_,0,.cons _ t=>.cons r t
 | _,_,i+1,.cons q t=>.cons q (cj.set r i t)
theorem cj.append:∀{xs ys:List V}{us ws:List Value},cj xs us->cj ys ws->cj (xs++ys) (us++ws)
 | _,_,_,_,.nil,s=>s
 | _,_,_,_,.cons r t,s=>.cons r (cj.append t s)
theorem cj.take:∀{xs:List V}{us:List Value}(n:Nat),cj xs us->cj (xs.take n) (us.take n)
 | _,_,0,_=>.nil
 | _,_,_+1,.nil=>.nil
 | _,_,n+1,.cons r t=>.cons r (cj.take n t)
theorem cj.drop:∀{xs:List V}{us:List Value}(n:Nat),cj xs us->cj (xs.drop n) (us.drop n)
 | _,_,0,r=>r
 | _,_,_+1,.nil=>.nil
 | _,_,n+1,.cons _ t=>cj.drop n t
def uB:Option V->Option Value->Prop
 | some v,some u=>RelV v u
 | none,none=>True
 | _,_=>False
def KV{κ:Type}:List (κ×V)->List (κ×Value)->Prop:=Hv fun(p:κ×V)(q:κ×Value)=>p.1=q.1/\RelV p.2 q.2
def kV:E7->V
 | .inl i=>.int i
 | .inr x=>.str x
inductive HO where
 | lst (xs:List V)
 | tup (xs:List V)
 | dK (kvs:List (E7×V))|dT (kvs:List (List E7×V))
 | set (S:Int->Bool) (n:Nat)
 | ins (C dx:Addr) (fs:List (Str×V))
 | own (x:Addr)
 | xd (fs:List (Str×V))
 | met (f x:Addr)
 | rng (lo hi:Int)
 | frz (o:Obj) (u:HO)
 | tbl (ps:Array Value)
 | ext (φ:Heap->Prop)
abbrev Hp:=Addr->Option HO
def Cs(H:Hp)(a:Addr)(o:HO):Hp:=fun b=>if b=a then some o else H b
theorem av{H:Hp}{o:HO}:Cs H a o a=some o:=by unfold Cs;rw[if_pos rfl]
theorem ar{H:Hp}{b:Addr}{o:HO}(h:b≠a):Cs H a o b=H b:=by unfold Cs;rw[if_neg h]
theorem yZ{H:Hp}{b:Addr}{o u:HO}(h:H a=some o)(h':H b=some u)(d:o≠u):a≠b:=by
 intro e;subst e;rw[h]at h';exact d (GS h')
theorem ba{H:Hp}{b:Addr}{o:HO}(h:H a=some o)(h':H b=none):a≠b:=by
 intro e;subst e;rw[h]at h';cases h'
section
variable(P:Gi)(w:G5)
def o7(h:Heap)(a:Addr)(items:Array Value):Prop:=∃o,h.get? a=some o/\o.cls = .type "tuple" /\ (∃n,o.data = .seq items n)/\o.dict=none
theorem o7.tup{h:Heap}{a:Addr}{items:Array Value}(x:o7 h a items):IsTup h a items:=let ⟨o,e1,e2,e3,_⟩:=x;⟨o,e1,e2,e3⟩
theorem o7.new(h:Heap)(items:Array Value):o7 (h.push {cls:=.type "tuple", data:=.seq items}) h.objs.size items:=⟨_,FY _ rfl,rfl,⟨_,rfl⟩,rfl⟩
def cH(H:Hp)(h:Heap)(a:Addr):HO->Prop
 | .lst xs=>xs.length<=sizeLine/\∃(its:List Value)(n:Nat),cj xs its/\h.get? a=some {cls:=.type "list", data:=.seq its.toArray n}
 | .tup xs=>xs.length<=sizeLine/\∃its:List Value,cj xs its/\o7 h a its.toArray
 | .dK kvs=>kvs.length<=sizeLine/\(a==IN)=false/\∃vs,KV kvs vs/\h.DictOf (bA P w) a vs
 | .dT kvs=>kvs.length<=sizeLine/\(a==IN)=false/\∃xs:List (List E7×Addr×Value),
     Hv (fun(p:List E7×V)(q:List E7×Addr×Value)=>p.1=q.1/\H q.2.1=some (.tup (p.1.map kV))/\RelV p.2 q.2.2) kvs xs /\
     ∃o es ep,h.get? a=some o/\o.ExactDict/\o.data = .dict es ep/\es.toList=xs.map (entryOfKey (LQ (bA P w)))/\(xs.map (·.1)).Nodup
 | .set S n=>h.SetOf (intKind P w) a S n
 | .ins C dx fs=>H dx=some (.own a)/\fs.length<=1000/\dx≠a/\h.get? a=some (W.instObj C dx) /\
     ∃mA,h.Ns1 dx mA/\(∀f,uB (fs.lookup f) (mA f))/\PySem.Within mA (fs.map (·.1))
 | .own _=>∃o,h.get? a=some o
 | .xd fs=>∃mA,h.Ns1 a mA/\∀f,uB (fs.lookup f) (mA f)
 | .rng lo hi=>∃t u v,h.get? a=some {cls:=.type "range", data:=.fields #[.int lo t,.int hi u,.int 1 v]}
 | .frz o u=>h.get? a=some o/\cH H h a u
 | .tbl ps=>h.get? a=some {cls:=.none,data:=.fields ps}
 | .met f x=>h.get? a=some (W.methodObj (.ref f) (.ref x))
 | .ext φ=>φ h/\(∃o,h.get? a=some o)/\∀h1 h2:Heap,φ h1->(∀o,h1.get? a=some o->h2.get? a=some o)->φ h2
def Fj(H:Hp)(h:Heap):Prop:=∀a o,H a=some o->cH P w H h a o
end
section
variable{P:Gi}{w:G5}{H H':Hp}{h h':Heap}{a:Addr}{o:HO}
theorem cH.lt(x:cH P w H h a o):a<h.objs.size:=by
 cases o with
 | lst xs=>obtain⟨_,_,_,_,e⟩:=x;exact FW e
 | tup xs=>obtain⟨_,_,_,p⟩:=x;exact p.tup.lt
 | dK kvs=>obtain⟨_,_,_,_,o,_,_,e,_⟩:=x;exact FW e
 | dT kvs=>obtain⟨_,_,_,_,o,_,_,e,_⟩:=x;exact FW e
 | set S n=>obtain⟨o,_,_,_,e,_⟩:=x;exact FW e
 | ins C dx fs=>obtain⟨_,_,_,e,_⟩:=x;exact FW e
 | own y=>obtain⟨_,e⟩:=x;exact FW e
 | xd fs=>obtain⟨_,⟨_,_,_,e,_⟩,_⟩:=x;exact FW e
 | rng lo hi=>obtain⟨_,_,_,e⟩:=x;exact FW e
 | frz ob u=>obtain⟨e,_⟩:=x;exact FW e
 | tbl ps=>exact FW (show h.get? a=some _ from x)
 | met f y=>exact FW (show h.get? a=some _ from x)
 | ext φ=>obtain⟨_,⟨_,e⟩,_⟩:=x;exact FW e
theorem Hv.mapP{α β:Type}{F G:α->β->Prop}:∀{l₁:List α}{l₂:List β},Hv F l₁ l₂->(∀a b,F a b->G a b)->Hv G l₁ l₂
 | _,_,.nil,_=>.nil
 | _,_,.cons r t,f=>.cons (f _ _ r) (Hv.mapP t f)
theorem cH.stay(x:cH P w H h a o)(k:∀b u,(b=a\/H b=some (.own a))->h.get? b=some u->h'.get? b=some u)
 (ho:∀b,H b=some (.own a)->H' b=some (.own a))(ht:∀b xs,H b=some (.tup xs)->H' b=some (.tup xs)):cH P w H' h' a o:=by
 induction o with
 | lst xs=>obtain⟨z,its,n,r,e⟩:=x;exact⟨z,its,n,r,k _ _ (.inl rfl) e⟩
 | tup xs=>obtain⟨z,its,r,ob,e,c⟩:=x;exact⟨z,its,r,ob,k _ _ (.inl rfl) e,c⟩
 | dK kvs=>obtain⟨z,y,vs,r,ob,es,ep,e,c⟩:=x;exact⟨z,y,vs,r,ob,es,ep,k _ _ (.inl rfl) e,c⟩
 | dT kvs =>
   obtain⟨z,y,xs,r,ob,es,ep,e,c⟩:=x
   exact⟨z,y,xs,Hv.mapP r fun p q z=>⟨z.1,ht _ _ z.2.1,z.2.2⟩,ob,es,ep,k _ _ (.inl rfl) e,c⟩
 | set S n=>obtain⟨ob,es,ep,t,e,c⟩:=x;exact⟨ob,es,ep,t,k _ _ (.inl rfl) e,c⟩
 | ins C dx fs =>
   obtain⟨d,z,ne,e,mA,⟨od,es,ep,e2,c⟩,r⟩:=x
   exact⟨ho _ d,z,ne,k _ _ (.inl rfl) e,mA,⟨od,es,ep,k _ _ (.inr d) e2,c⟩,r⟩
 | own y=>obtain⟨ob,e⟩:=x;exact⟨ob,k _ _ (.inl rfl) e⟩
 | xd fs=>obtain⟨mA,⟨od,es,ep,e,c⟩,r⟩:=x;exact⟨mA,⟨od,es,ep,k _ _ (.inl rfl) e,c⟩,r⟩
 | rng lo hi=>obtain⟨t,u,v,e⟩:=x;exact⟨t,u,v,k _ _ (.inl rfl) e⟩
 | frz ob u ih=>obtain⟨e,q⟩:=x;exact⟨k _ _ (.inl rfl) e,ih q⟩
 | tbl ps =>
   have e:h.get? a=some {cls:=.none,data:=.fields ps}:=x
   show h'.get? a=some {cls:=.none,data:=.fields ps}
   exact k a _ (.inl rfl) e
 | met f y =>
   have e:h.get? a=some (W.methodObj (.ref f) (.ref y)):=x
   show h'.get? a=some (W.methodObj (.ref f) (.ref y))
   exact k a _ (.inl rfl) e
 | ext φ=>obtain⟨p,⟨o,e⟩,st⟩:=x;exact⟨st _ _ p fun o q=>k _ _ (.inl rfl) q,⟨o,k _ _ (.inl rfl) e⟩,st⟩
theorem Fj.lt(x:Fj P w H h)(e:H a=some o):a<h.objs.size:=(x a o e).lt
theorem Fj.fresh(x:Fj P w H h)(e:h.objs.size<=a):H a=none:=by
 cases q:H a with
 | none=>rfl
 | some u=>exact absurd (FN (x.lt q) e) (GT _)
theorem Fj.kept(x:Fj P w H h)(k:∀b u,h.get? b=some u->h'.get? b=some u):Fj P w H h':=fun a o e =>
 (x a o e).stay (fun b u _ q=>k b u q) (fun _ q=>q) fun _ _ q=>q
theorem Fj.laid(x:Fj P w H h)(k:∀b u,h.get? b=some u->h'.get? b=some u)(hp:h.objs.size<=a)(new:cH P w (Cs H a o) h' a o):Fj P w (Cs H a o) h':=fun b u e=>by
 have hn:=x.fresh hp
 by_cases hb:b=a
 · subst hb;rw[av]at e;cases e;exact new
 · rw[ar hb]at e
   exact(x b u e).stay (fun c v _ q=>k c v q) (fun c q=>by rw[ar (ba q hn)];exact q) fun c xs q=>by rw[ar (ba q hn)];exact q
end
def Rd(H:Hp)(a:Addr)(u:HO):Prop:=H a=some u\/∃o,H a=some (.frz o u)
theorem Rd.of{H:Hp}{u:HO}(h:H a=some u):Rd H a u:=.inl h
theorem Rd.ok{w:G5}{H:Hp}{u:HO}(r:Rd H a u)(x:Fj P w H h):cH P w H h a u:=by
 rcases r with r|⟨o,r⟩
 · exact x a u r
 · obtain⟨_,q⟩:=x a _ r
   exact q
def E4:Option HO->Prop
 | some (.lst _)=>True
 | some (.dK _)=>True
 | some (.dT _)=>True
 | some (.set _ _)=>True
 | some (.ins _ _ _)=>True
 | some (.ext _)=>True
 | _=>False
section
variable{P:Gi}{w:G5}{H:Hp}{h h':Heap}{x e:Addr}{o':HO}
theorem Fj.write(ok:Fj P w H h)(mu:E4 (H x))(he:e=x\/H e=some (.own x))(k:∀b u,b≠e->h.get? b=some u->h'.get? b=some u)(heo:∃u,h'.get? e=some u)
 (new:cH P w (Cs H x o') h' x o'):Fj P w (Cs H x o') h':=fun b u q=>by
 have nown:∀c y,H c=some (.own y)->c≠x:=fun c y r z=>by subst z;rw[r]at mu;exact mu
 have ntup:∀c xs,H c=some (.tup xs)->c≠x:=fun c xs r z=>by subst z;rw[r]at mu;exact mu
 by_cases hb:b=x
 · subst hb;rw[av]at q;cases q;exact new
 · rw[ar hb]at q
   by_cases hbe:b=e
   · have q':H b=some (.own x):=by
       rcases he with z|z
       · exact absurd (hbe.trans z) hb
       · rw[hbe];exact z
     rw[q]at q';cases q'
     obtain⟨v,hv⟩:=heo
     exact⟨v,by rw[hbe];exact hv⟩
   · refine(ok b u q).stay (fun c v hc r=>k c v ?_ r) (fun c r=>by rw[ar (nown c b r)];exact r) fun c xs r=>by rw[ar (ntup c xs r)];exact r
     rcases hc with rfl|hc
     · exact hbe
     · rintro rfl
       rcases he with z|z
       · exact nown c b hc z
       · rw[hc]at z;cases z;exact hb rfl
end
structure Un (fs ex:List Addr) (H H':Hp) (h h':Heap):Prop where
 keep:∀b o,h.get? b=some o->H b=none->b∉fs->b∉ex->h'.get? b=some o
 slot:∀b o,h.get? b=some o->H b=none->b∈fs->b∉ex->∃sl,h'.get? b=some {o with slots:=sl}
 free:∀b o,h.get? b=some o->H b=none->b∉ex->H' b=none
 there:∀b o,h.get? b=some o->b∉ex->∃o',h'.get? b=some o'
 tups:∀b xs,H b=some (.tup xs)->H' b=some (.tup xs)
 frzs:∀b o u,H b=some (.frz o u)->H' b=some (.frz o u)
 tbls:∀b ps,H b=some (.tbl ps)->∃more,H' b=some (.tbl (ps++more))
section
variable{fs fs' ex ex':List Addr}{H H1 H2:Hp}{h h1 h2 h':Heap}{a x e:Addr}{o:HO}
theorem Un.any(u:Un fs ex H H1 h h1){b:Addr}{ob:Obj}(q:h.get? b=some ob)(n:H b=none)(hx:b∉ex):∃sl,h1.get? b=some {ob with slots:=sl}:=by
 by_cases hb:b∈fs
 · exact u.slot b ob q n hb hx
 · exact⟨ob.slots,u.keep b ob q n hb hx⟩
theorem Un.trans(a:Un fs ex H H1 h h1)(b:Un fs ex H1 H2 h1 h2):Un fs ex H H2 h h2 where
 keep:=fun c ob q n hc hx=>b.keep c ob (a.keep c ob q n hc hx) (a.free c ob q n hx) hc hx
 slot:=fun c ob q n hc hx=>by
  obtain⟨sl,e1⟩:=a.slot c ob q n hc hx
  obtain⟨sl',e2⟩:=b.slot c _ e1 (a.free c ob q n hx) hc hx
  exact⟨sl',e2⟩
 free:=fun c ob q n hx=>by
  obtain⟨o',e1⟩:=a.there c ob q hx
  exact b.free c o' e1 (a.free c ob q n hx) hx
 there:=fun c ob q hx=>by
  obtain⟨o',e1⟩:=a.there c ob q hx
  exact b.there c o' e1 hx
 tups:=fun c xs q=>b.tups c xs (a.tups c xs q)
 frzs:=fun c ob xs q=>b.frzs c ob xs (a.frzs c ob xs q)
 tbls:=fun c ps q=>by
  obtain⟨m1,e1⟩:=a.tbls c ps q
  obtain⟨m2,e2⟩:=b.tbls c _ e1
  exact⟨m1++m2,by rw[e2,Array.append_assoc]⟩
theorem Un.kept(k:∀b u,h.get? b=some u->h'.get? b=some u):Un fs ex H H h h' :=
 ⟨fun b ob q _ _ _=>k b ob q,fun b ob q _ _ _=>⟨ob.slots,k b ob q⟩,fun _ _ _ n _=>n,fun b ob q _=>⟨ob,k b ob q⟩,fun _ _ q=>q,fun _ _ _ q=>q,fun _ ps q=>⟨#[],by rw[q];simp⟩⟩
theorem Un.refl:Un fs ex H H h h:=Un.kept fun _ _ q=>q
theorem Un.laid(k:∀b u,h.get? b=some u->h'.get? b=some u)(hp:h.objs.size<=a)(hn:H a=none):Un fs ex H (Cs H a o) h h' where
 keep:=fun b u q _ _ _=>k b u q
 slot:=fun b u q _ _ _=>⟨u.slots,k b u q⟩
 free:=fun b u q n _=>by rw[ar (Gx (FN (FW q) hp))];exact n
 there:=fun b u q _=>⟨u,k b u q⟩
 tups:=fun b xs q=>by rw[ar (ba q hn)];exact q
 frzs:=fun b u xs q=>by rw[ar (ba q hn)];exact q
 tbls:=fun b ps q=>⟨#[],by rw[ar (ba q hn),q];simp⟩
theorem Un.write(mu:E4 (H x))(he:e=x\/H e=some (.own x))(k:∀b u,b≠e->h.get? b=some u->h'.get? b=some u)(heo:∃u,h'.get? e=some u):Un fs ex H (Cs H x o) h h':=by
 have hx:∀b,H b=none->b≠x:=fun b n z=>by subst z;rw[n]at mu;exact mu
 have hb:∀b,H b=none->b≠e:=fun b n z=>by
  subst z
  rcases he with r|r
  · exact hx b n r
  · rw[n]at r;cases r
 have hm:∀b u,H b=some u->¬E4 (some u)->b≠x:=fun b u q nm z=>by subst z;rw[q]at mu;exact nm mu
 refine⟨fun b u q n _ _=>k b u (hb b n) q,fun b u q n _ _=>⟨u.slots,k b u (hb b n) q⟩,fun b u q n _=>by rw[ar (hx b n)];exact n,fun b u q _=>?_,
  fun b xs q=>by rw[ar (hm b _ q fun z=>z)];exact q,fun b u xs q=>by rw[ar (hm b _ q fun z=>z)];exact q,fun b ps q=>⟨#[],by rw[ar (hm b _ q fun z=>z),q];simp⟩⟩
 by_cases hbe:b=e
 · subst hbe;exact heo
 · exact⟨u,k b u hbe q⟩
theorem Un.mono(u:Un fs ex H H1 h h1)(hs:∀b∈fs,b∈fs')(hx:∀b∈ex,b∈ex'):Un fs' ex' H H1 h h1 :=
 ⟨fun b ob q n hb he=>u.keep b ob q n (fun z=>hb (hs b z)) fun z=>he (hx b z),fun _ _ q n _ he=>u.any q n fun z=>he (hx _ z),fun b ob q n he=>u.free b ob q n fun z=>he (hx b z),fun b ob q he=>u.there b ob q fun z=>he (hx b z),u.tups,u.frzs,u.tbls⟩
end
def Cz(h:Heap)(H:Hp):List Addr:=(G9 h.objs.size).filter fun a=>(H a).isSome
def qo(h:Heap)(H:Hp):Heap:=W.hideAll h (Cz h H)
theorem om(h:Heap)(H:Hp):(qo h H).objs.size=h.objs.size:=W.hideAll_size _ _
theorem qm{H:Hp}{b:Addr}{o:Obj}(e:h.get? b=some o)(n:H b=none):(qo h H).get? b=some o :=
 W.hideAll_get _ e fun hm=>by
  have q:(H b).isSome=true:=(K3.mp hm).2
  rw[n]at q;simp at q
theorem tK{H:Hp}{b:Addr}{o:Obj}(e:(qo h H).get? b=some o):h.get? b=some o/\H b=none:=by
 have e':h.get? b=some o:=W.of_hideAll (Cz h H) e
 refine⟨e',?_⟩
 cases q:H b with
 | none=>rfl
 | some x =>
   have hm:b∈Cz h H:=K3.mpr ⟨IZ.mpr (FW e'),by simp[q]⟩
   have z:(qo h H).get? b=none:=W.hideAll_none (Cz h H) hm
   rw[z]at e;cases e
def uA(g h:Heap)(L:Addr):List (Addr×Obj):=(G9 h.objs.size).filterMap fun a=>if a=L\/(g.get? a).isSome=true then none else(h.get? a).map fun o=>(a,o)
def rest(g h:Heap)(L d:Addr):List (Addr×Obj):=(uA g h L).filter fun p=>decide (p.1≠d)
structure Mod (K:W.Frag) (mg:Str->Option Value) (base:Heap):Prop where
 kin:K.In base
 glob:base.Ns GQ mg
 blt:∃mb,base.Ns builtinsNs mb/\∀x:Str,x ≠ "__name__" -> mb x=II x
 nolimit:base.NoLimit
structure Cx where
 prog:Gi
 w:G5
 K:W.Frag
 mg:Str->Option Value
 base:Heap
 A:Hf
 N:List Str
 s₀:FO
 H₀:Hp
 env:Env
 outer:List Env
 stack:List Env
 ex:List Addr
 fn:Str->Bool
 calm:Bool
 pn:List (Addr×Obj)
 xe:Value->FO->Prop
def frs(l:List Env):List Addr:=l.filterMap (·.frame)
abbrev Cx.fs(X:Cx):List Addr:=frs X.outer
def Ex(sc:Scope)(x:Str):Prop:=sc.names.lookup x=some .local\/sc.names.lookup x=some .cell\/sc.names.lookup x=some .free
def Loc(sc:Scope)(x:Str):Prop:=sc.names.lookup x=some .local\/sc.names.lookup x=some .cell
def Look(env:Env)(h:Heap)(m:Str->Option Value)(x:Str)(u:Value):Prop :=
 (env.kindOf x=some .local/\m x=some u)\/((env.kindOf x=some .cell\/env.kindOf x=some .free)/\∃c,env.cells.lookup x=some c/\h.IsCell c (some u))
structure Cx.Ok (X:Cx):Prop where
 mod:Mod X.K X.mg X.base
 kind:X.env.scope.kind = .function
 glob:X.env.globals=GQ
 blt:X.env.builtins=builtinsNs
 above:X.s₀.heap.objs.size<=X.env.locals
 inj:∀x y c,X.env.cells.lookup x=some c->X.env.cells.lookup y=some c->x=y
 has:∀x,(X.env.kindOf x=some .cell\/X.env.kindOf x=some .free)->∃c,X.env.cells.lookup x=some c
 cab:∀x c,X.fn x=true->X.env.cells.lookup x=some c->X.s₀.heap.objs.size<=c
 hd:X.calm=true->X.A.handled=none
 frames:X.A.frames=some X.stack
 stk:X.stack=X.outer\/(X.stack=X.env::X.outer/\X.env.frame=some X.env.locals)
 exf:∀b∈X.ex,b≠X.env.locals/\∀x c,X.env.cells.lookup x=some c->c≠b
 bs:∀b o,X.base.get? b=some o->X.s₀.heap.get? b=some o/\X.H₀ b=none
 bsz:X.base.objs.size<=X.s₀.heap.objs.size
 noex:∀b o,X.base.get? b=some o->b∉X.ex
 exfs:∀b∈X.ex,b∉X.fs
 funs:X.s₀.heap.FunFrames X.base X.outer
 frf:∀b∈X.fs,X.H₀ b=none
structure Inv (X:Cx) (pins:List (Addr×Obj)) (σ:List (Option V)) (H:Hp) (s:FO):Prop where
 ok:X.Ok
 os:s.os=X.s₀.os
 bare:LA s.gens
 base:Un X.fs X.ex X.H₀ H X.s₀.heap s.heap
 loc:∃m,s.heap.Ns X.env.locals m/\∀(i:Nat)(x:Str)(v:V),X.N[i]?=some x->σ[i]?=some (some v)->Ex X.env.scope x->∃u,RelV v u/\Look X.env s.heap m x u
 cell:∀x c,X.env.cells.lookup x=some c->∃v,s.heap.IsCell c v
 free:H X.env.locals=none
 freeC:∀x c,X.env.cells.lookup x=some c->H c=none
 pin:∀p∈X.pn++pins,s.heap.get? p.1=some p.2/\H p.1=none/\p.1≠X.env.locals/\p.1∉X.fs/\∀v,p.2.data ≠ .cell v
 hok:Fj X.prog X.w H s.heap
 len:σ.length=X.N.length
section
variable{X:Cx}{pins:List (Addr×Obj)}{σ:List (Option V)}{H H':Hp}{s:FO}{h':Heap}
theorem Cx.Ok.nofr(ok:X.Ok){b:Addr}{o:Obj}(e:X.base.get? b=some o):b∉X.fs:=fun hb=>by
 have:=(ok.funs.mem hb).1
 rw[e]at this;cases this
theorem Inv.bs(I:Inv X pins σ H s):∀b o,X.base.get? b=some o->s.heap.get? b=some o/\H b=none:=fun b o e =>
 ⟨I.base.keep b o (I.ok.bs b o e).1 (I.ok.bs b o e).2 (I.ok.nofr e) (I.ok.noex b o e),I.base.free b o (I.ok.bs b o e).1 (I.ok.bs b o e).2 (I.ok.noex b o e)⟩
theorem Inv.bk(I:Inv X pins σ H s):∀b o,X.base.get? b=some o->s.heap.get? b=some o:=fun b o e=>(I.bs b o e).1
theorem Inv.mod(I:Inv X pins σ H s):Mod X.K X.mg X.base:=I.ok.mod
theorem Inv.kIn(I:Inv X pins σ H s):X.K.In s.heap:=I.ok.mod.kin.keeps I.bk
theorem Inv.nolimit(I:Inv X pins σ H s):s.heap.NoLimit:=I.ok.mod.nolimit.keeps I.bk
theorem Inv.fr(I:Inv X pins σ H s):∃m,Fr X.base X.env.locals s.heap m :=
 let ⟨m,hn,_⟩:=I.loc
 ⟨m,hn,I.bk,GI I.ok.bsz I.ok.above⟩
theorem Inv.lt(I:Inv X pins σ H s):X.env.locals<s.heap.objs.size:=let ⟨_,hn,_⟩:=I.loc;hn.lt
theorem Inv.sz(I:Inv X pins σ H s):X.s₀.heap.objs.size<=s.heap.objs.size:=GI I.ok.above (Me I.lt)
theorem Inv.nofs(I:Inv X pins σ H s)(h:s.heap.objs.size<=a):a∉X.fs:=fun hb=>by
 obtain⟨_,o,ho,_⟩:=I.ok.funs.mem hb
 exact absurd (FN (FW ho) (GI I.sz h)) (GT _)
theorem Inv.cne(I:Inv X pins σ H s):∀x c,X.env.cells.lookup x=some c->c≠X.env.locals:=fun x c e z=>by
 obtain⟨v,o,ho,hd⟩:=I.cell x c e
 obtain⟨m,⟨o',es,ep,ho',hd',_⟩,_⟩:=I.loc
 rw[z,ho']at ho;cases ho;rw[hd']at hd;cases hd
theorem Inv.funs(I:Inv X pins σ H s):s.heap.FunFrames X.base X.outer:=by
 have all:∀(l:List Env),(∀b∈frs l,b∈X.fs)->X.s₀.heap.FunFrames X.base l->s.heap.FunFrames X.base l:=by
  intro l
  induction l with
  | nil=>intro _ _;trivial
  | cons env r ih =>
    intro hs hl
    obtain⟨hk,⟨L,o,hf,hn,ho,hd⟩,hr⟩:=hl
    have hL:L∈X.fs:=hs L (by unfold frs;rw[JJ,hf];exact FT)
    obtain⟨sl,e⟩:=I.base.slot L o ho (I.ok.frf L hL) hL fun z=>I.ok.exfs L z hL
    exact⟨hk,⟨L,_,hf,hn,e,hd⟩,ih (fun b hb=>hs b (by unfold frs;rw[JJ,hf];exact FP _ hb)) hr⟩
 exact all X.outer (fun _ hb=>hb) I.ok.funs
theorem Inv.stack(I:Inv X pins σ H s):s.heap.FunFrames X.base X.stack:=by
 rcases I.ok.stk with e|⟨e,hf⟩
 · rw[e];exact I.funs
 · rw[e]
   obtain⟨m,hn,_⟩:=I.loc
   refine .cons (by rw[I.ok.kind];decide) hf hn ?_ I.funs
   exact Heap.get?_none_of_le (GI I.ok.bsz I.ok.above)
theorem Inv.stkSub(I:Inv X pins σ H s):∀b∈frs X.stack,b∈X.env.locals::X.fs:=fun b hb=>by
 rcases I.ok.stk with e|⟨e,hf⟩
 · rw[e]at hb;exact FP _ hb
 · rw[e]at hb
   unfold frs at hb
   rw[JJ,hf]at hb
   exact hb
theorem Inv.stkFree(I:Inv X pins σ H s):∀b∈frs X.stack,H b=none:=fun b hb=>by
 rcases Gh.mp (I.stkSub b hb)with e|hb
 · rw[e];exact I.free
 · obtain⟨_,o,ho,_⟩:=I.ok.funs.mem hb
   exact I.base.free b o ho (I.ok.frf b hb) fun z=>I.ok.exfs b z hb
theorem Inv.step{g':Array GenState}{d':Drawn}{ch:List Addr}(I:Inv X pins σ H s)
 (hch:∀b∈ch,(b∈X.ex\/X.s₀.heap.objs.size<=b)/\b≠X.env.locals/\(∀x c,X.env.cells.lookup x=some c->c≠b)/\∀p∈X.pn++pins,p.1≠b)
 (keep:∀b o,b≠X.env.locals->b∉X.fs->b∉ch->s.heap.get? b=some o->H b=none->h'.get? b=some o)
 (slot:∀b o,b≠X.env.locals->b∈X.fs->b∉ch->s.heap.get? b=some o->H b=none->∃sl,h'.get? b=some {o with slots:=sl})(free:∀b o,b∉ch->s.heap.get? b=some o->H b=none->H' b=none)
 (there:∀b o,b∉ch->s.heap.get? b=some o->∃o',h'.get? b=some o')
 (tups:∀b xs,H b=some (.tup xs)->H' b=some (.tup xs))(frzs:∀b o u,H b=some (.frz o u)->H' b=some (.frz o u))(tbls:∀b ps,H b=some (.tbl ps)->∃more,H' b=some (.tbl (ps++more)))
 (ns:∀m,s.heap.Ns X.env.locals m->h'.Ns X.env.locals m)(hok:Fj X.prog X.w H' h')(hg:LA g') :
 Inv X pins σ H' {s with heap:=h',gens:=g',drawn:=d',toks:=t' }:=by
 have neL:∀b o,X.s₀.heap.get? b=some o->b≠X.env.locals:=fun b o e=>Gx (FN (FW e) I.ok.above)
 have neC:∀b o,X.s₀.heap.get? b=some o->b∉X.ex->b∉ch:=fun b o e hx hb=>by
  rcases(hch b hb).1 with z|z
  · exact hx z
  · exact absurd (FN (FW e) z) (GT _)
 have cellK:∀x c,X.env.cells.lookup x=some c->∀v,s.heap.IsCell c v->h'.IsCell c v:=fun x c e v ⟨o,ho,hd⟩=>by
  have nch:c∉ch:=fun z=>(hch c z).2.2.1 x c e rfl
  by_cases hc:c∈X.fs
  · obtain⟨sl,q⟩:=slot c o (I.cne x c e) hc nch ho (I.freeC x c e)
    exact⟨_,q,hd⟩
  · exact⟨o,keep c o (I.cne x c e) hc nch ho (I.freeC x c e),hd⟩
 refine⟨I.ok,I.os,hg,⟨fun b o e n hb hx=>?_,fun b o e n hb hx=>?_,fun b o e n hx=>?_,fun b o e hx=>?_,fun b xs e=>tups b xs (I.base.tups b xs e),fun b o xs e=>frzs b o xs (I.base.frzs b o xs e),fun b ps e=>?_⟩,?_,fun x c e=>?_,?_,fun x c e=>?_,fun p hp=>?_,hok,I.len⟩
 · exact keep b o (neL b o e) hb (neC b o e hx) (I.base.keep b o e n hb hx) (I.base.free b o e n hx)
 · obtain⟨sl,e1⟩:=I.base.slot b o e n hb hx
   obtain⟨sl',e2⟩:=slot b _ (neL b o e) hb (neC b o e hx) e1 (I.base.free b o e n hx)
   exact⟨sl',e2⟩
 · obtain⟨o',e1⟩:=I.base.there b o e hx
   exact free b o' (neC b o e hx) e1 (I.base.free b o e n hx)
 · obtain⟨o',e1⟩:=I.base.there b o e hx
   exact there b o' (neC b o e hx) e1
 · obtain⟨m1,e1⟩:=I.base.tbls b ps e
   obtain⟨m2,e2⟩:=tbls b _ e1
   exact⟨m1++m2,by rw[e2,Array.append_assoc]⟩
 · obtain⟨m,hn,hl⟩:=I.loc
   refine⟨m,ns m hn,fun i x v e1 e2 e3=>?_⟩
   obtain⟨u,r,l⟩:=hl i x v e1 e2 e3
   refine⟨u,r,?_⟩
   rcases l with l|⟨k,c,e,z⟩
   · exact .inl l
   · exact .inr ⟨k,c,e,cellK x c e _ z⟩
 · obtain⟨v,z⟩:=I.cell x c e
   exact⟨v,cellK x c e v z⟩
 · obtain⟨m,⟨o,_,_,ho,_⟩,_⟩:=I.loc
   exact free _ o (fun z=>(hch _ z).2.1 rfl) ho I.free
 · obtain⟨v,o,ho,hd⟩:=I.cell x c e
   exact free c o (fun z=>(hch c z).2.2.1 x c e rfl) ho (I.freeC x c e)
 · obtain⟨e,n,ne,nf,d⟩:=I.pin p hp
   have nch:p.1∉ch:=fun z=>(hch p.1 z).2.2.2 p hp rfl
   exact⟨keep p.1 p.2 ne nf nch e n,free p.1 p.2 nch e n,ne,nf,d⟩
theorem Inv.un(I:Inv X pins σ H s)(u:Un X.fs [] H H' s.heap h')(hok:Fj X.prog X.w H' h'):Inv X pins σ H' {s with heap:=h',toks:=t' }:=by
 obtain⟨m,⟨o,es,ep,ho,r⟩,_⟩:=id I.loc
 obtain⟨sl,hL⟩:=u.any ho I.free (by simp)
 exact I.step (g':=s.gens) (d':=s.drawn) (ch:=[]) (fun _ z=>nomatch z) (fun b o _ hb _ e n=>u.keep b o e n hb (by simp)) (fun b o _ hb _ e n=>u.slot b o e n hb (by simp)) (fun b o _ e n=>u.free b o e n (by simp)) (fun b o _ e=>u.there b o e (by simp)) u.tups u.frzs u.tbls (fun m' hm=>by
  obtain⟨o',es',ep',ho',r'⟩:=hm
  rw[ho]at ho';cases ho'
  exact⟨_,es',ep',hL,r'⟩) hok I.bare
theorem Inv.call{g':Array GenState}{d':Drawn}{ch:List Addr}(I:Inv X pins σ H s)(u:Un (frs X.stack) ch H H' s.heap h')(hok:Fj X.prog X.w H' h')(hg:LA g')
 (hch:∀b∈ch,(b∈X.ex\/X.s₀.heap.objs.size<=b)/\b≠X.env.locals/\(∀x c,X.env.cells.lookup x=some c->c≠b)/\∀p∈X.pn++pins,p.1≠b) :
 Inv X pins σ H' {s with heap:=h',gens:=g',drawn:=d',toks:=t' }:=by
 obtain⟨m,⟨o,es,ep,ho,r⟩,_⟩:=id I.loc
 obtain⟨sl,hL⟩:=u.any ho I.free fun z=>(hch _ z).2.1 rfl
 exact I.step (ch:=ch) hch (fun b o hL hb hc e n=>u.keep b o e n (fun z=>(Gh.mp (I.stkSub b z)).elim hL hb) hc) (fun b o _ _ hc e n=>u.any e n hc) (fun b o hc e n=>u.free b o e n hc) (fun b o hc e=>u.there b o e hc) u.tups u.frzs u.tbls (fun m' hm=>by
  obtain⟨o',es',ep',ho',r'⟩:=hm
  rw[ho]at ho';cases ho'
  exact⟨_,es',ep',hL,r'⟩) hok hg
theorem Inv.turned(I:Inv X pins σ H s)(k:∀b o,b≠it->s.heap.get? b=some o->h'.get? b=some o)(hn:H it=none)(hL:it≠X.env.locals)
 (h1:it∈X.ex\/X.s₀.heap.objs.size<=it)(h2:∀x c,X.env.cells.lookup x=some c->c≠it)(h3:∀p∈X.pn++pins,p.1≠it):Inv X pins σ H {s with heap:=h',toks:=t' }:=by
 have nit:∀b u,H b=some u->b≠it:=fun b u e z=>by rw[z,hn]at e;cases e
 refine I.step (g':=s.gens) (d':=s.drawn) (ch:=[it]) (fun b hb=>?_) (fun b o _ _ hc e _=>k b o (fun z=>hc (by simp[z])) e) (fun b o _ _ hc e _=>⟨o.slots,k b o (fun z=>hc (by simp[z])) e⟩) (fun _ _ _ _ n=>n)
  (fun b o hc e=>⟨o,k b o (fun z=>hc (by simp[z])) e⟩) (fun _ _ e=>e) (fun _ _ _ e=>e) (fun b ps e=>⟨#[],by rw[e];simp⟩) (fun m hm=>?_) (fun b u e=>?_) I.bare
 · have e:b=it:=by simpa using hb
   subst e
   exact⟨h1,hL,h2,h3⟩
 · obtain⟨o,es,ep,ho,r⟩:=hm
   exact⟨o,es,ep,k _ o (LB hL) ho,r⟩
 · refine(I.hok b u e).stay (fun c v hc q=>k c v ?_ q) (fun _ q=>q) fun _ _ q=>q
   rcases hc with z|z
   · rw[z];exact nit b u e
   · exact nit c _ z
theorem Inv.tok(I:Inv X pins σ H s)(t:Nat):Inv X pins σ H {s with toks:=t}:=I.un (h':=s.heap) (t':=t) Un.refl I.hok
theorem Inv.kept{t':Nat}(I:Inv X pins σ H s)(k:∀b u,s.heap.get? b=some u->h'.get? b=some u):Inv X pins σ H {s with heap:=h',toks:=t' }:=I.un (Un.kept k) (I.hok.kept k)
theorem Inv.laid{a:Addr}{o:HO}{t':Nat}(I:Inv X pins σ H s)(k:∀b u,s.heap.get? b=some u->h'.get? b=some u)(hp:s.heap.objs.size<=a)(new:cH X.prog X.w (Cs H a o) h' a o) :
 Inv X pins σ (Cs H a o) {s with heap:=h',toks:=t' }:=I.un (Un.laid k hp (I.hok.fresh hp)) (I.hok.laid k hp new)
theorem Inv.write{x e:Addr}{o:HO}{t':Nat}(I:Inv X pins σ H s)(mu:E4 (H x))(he:e=x\/H e=some (.own x))(k:∀b u,b≠e->s.heap.get? b=some u->h'.get? b=some u)(heo:∃u,h'.get? e=some u)
 (new:cH X.prog X.w (Cs H x o) h' x o):Inv X pins σ (Cs H x o) {s with heap:=h',toks:=t' }:=I.un (Un.write mu he k heo) (I.hok.write mu he k heo new)
theorem Inv.pins_of{pins':List (Addr×Obj)}(I:Inv X pins σ H s)(h:∀p∈pins',s.heap.get? p.1=some p.2/\H p.1=none/\p.1≠X.env.locals/\p.1∉X.fs/\∀v,p.2.data ≠ .cell v):Inv X pins' σ H s :=
 ⟨I.ok,I.os,I.bare,I.base,I.loc,I.cell,I.free,I.freeC,fun p hp=>(Gv.mp hp).elim (fun z=>I.pin p (HH _ z)) (h p),I.hok,I.len⟩
theorem kS(hN:N.Nodup){i:Nat}(a:N[i]?=some x)(b:N[j]?=some x):i=j:=by
 obtain⟨h1,e1⟩:=GD.mp a
 obtain⟨h2,e2⟩:=GD.mp b
 exact(List.getElem_inj hN).mp (e1.trans e2.symm)
theorem dY{M:Model}{i:Nat}{v:V}{Q:Unit->FO->Prop}(I:Inv X pins σ H s)(hN:X.N.Nodup)(hi:X.N[i]?=some x)(hx:Loc X.env.scope x)(r:RelV v u)
 (h:∀s',Inv X pins (σ.set i (some v)) H s'->(∃a,Ij a s.heap s'.heap/\(a=X.env.locals\/X.env.cells.lookup x=some a))->Q () s')(hf:X.fn x=true\/X.env.scope.names.lookup x=some .local:=by first|exact .inl rfl|exact .inr rfl|assumption):Gb M A (storeName X.env x u) Q E s:=by
 obtain⟨m,hn,hl⟩:=id I.loc
 have hcls:(X.env.scope.kind == .class||(X.env.scope.kind == .module&&X.env.locals != X.env.globals))=false:=by rw[I.ok.kind];rfl
 have hiσ:i<σ.length:=by rw[I.len];exact(GD.mp hi).1
 have cne:=I.cne
 have tracked:∀{a:Addr}{h':Heap},(∃o,s.heap.get? a=some o/\H a=none)->Ij a s.heap h'->Fj X.prog X.w H h':=fun{a h'} ha hs b ob e=>by
  obtain⟨_,_,hfree⟩:=ha
  refine(I.hok b ob e).stay (fun c w' hc q=>(hs.2 c ?_).trans q) (fun _ q=>q) fun _ _ q=>q
  rintro rfl
  rcases hc with rfl|hc
  · rw[hfree]at e;cases e
  · rw[hfree]at hc;cases hc
 rcases hx with hk|hk
 · refine wpAny_storeName_local hk hn (fun h' hn' hs=>?_) hcls
   obtain⟨oL,_,_,hoL,_⟩:=id hn
   refine h _ ⟨I.ok,I.os,I.bare,⟨fun b o e n hb hx=>?_,fun b o e n hb hx=>?_,I.base.free,fun b o e hx=>?_,I.base.tups,I.base.frzs,I.base.tbls⟩,⟨_,hn',fun j y v' e1 e2 e3=>?_⟩,fun y c e=>?_,I.free,I.freeC,fun p hp=>?_,tracked ⟨oL,hoL,I.free⟩ hs,by simpa using I.len⟩ ⟨_,hs,.inl rfl⟩
   · exact(hs.2 b (Gx (FN (FW e) I.ok.above))).trans (I.base.keep b o e n hb hx)
   · obtain⟨sl,e1⟩:=I.base.slot b o e n hb hx
     exact⟨sl,(hs.2 b (Gx (FN (FW e) I.ok.above))).trans e1⟩
   · obtain⟨o',e1⟩:=I.base.there b o e hx
     exact⟨o',(hs.2 b (Gx (FN (FW e) I.ok.above))).trans e1⟩
   · by_cases hj:j=i
     · subst hj
       rw[hi]at e1;cases e1
       rw[Gm hiσ]at e2
       cases e2
       exact⟨u,r,.inl ⟨hk,by simp⟩⟩
     · rw[Gf (LB hj)]at e2
       obtain⟨u',r',q⟩:=hl j y v' e1 e2 e3
       refine⟨u',r',?_⟩
       rcases q with⟨k,e⟩|⟨k,c,e,z⟩
       · refine .inl ⟨k,?_⟩
         have:y≠x:=fun e=>hj (kS hN e1 (e▸hi))
         simp[this,e]
       · exact .inr ⟨k,c,e,z.sameBut hs (cne y c e)⟩
   · obtain⟨w',z⟩:=I.cell y c e
     exact⟨w',z.sameBut hs (cne y c e)⟩
   · obtain⟨e,n,ne,nf,d⟩:=I.pin p hp
     exact⟨(hs.2 p.1 ne).trans e,n,ne,nf,d⟩
 · have hfn:X.fn x=true:=by
     rcases hf with z|z
     · exact z
     · rw[z]at hk;cases hk
   obtain⟨c,hc⟩:=I.ok.has x (.inl hk)
   obtain⟨w',z⟩:=I.cell x c hc
   refine wpAny_storeName_cell I.ok.kind hk hc z (fun h' hc' hs=>?_)
   obtain⟨oc,hoc,hocd⟩:=id z
   refine h {s with heap:=h' } ⟨I.ok,I.os,I.bare,⟨fun b o e n hb hx=>?_,fun b o e n hb hx=>?_,I.base.free,fun b o e hx=>?_,I.base.tups,I.base.frzs,I.base.tbls⟩,⟨m,hn.sameBut hs (LB (cne x c hc)),fun j y v' e1 e2 e3=>?_⟩,fun y c' e=>?_,I.free,I.freeC,fun p hp=>?_,tracked ⟨oc,hoc,I.freeC x c hc⟩ hs,by simpa using I.len⟩ ⟨c,hs,.inr hc⟩
   · exact(hs.2 b (Gx (FN (FW e) (I.ok.cab x c hfn hc)))).trans (I.base.keep b o e n hb hx)
   · obtain⟨sl,e1⟩:=I.base.slot b o e n hb hx
     exact⟨sl,(hs.2 b (Gx (FN (FW e) (I.ok.cab x c hfn hc)))).trans e1⟩
   · obtain⟨o',e1⟩:=I.base.there b o e hx
     exact⟨o',(hs.2 b (Gx (FN (FW e) (I.ok.cab x c hfn hc)))).trans e1⟩
   · by_cases hj:j=i
     · subst hj
       rw[hi]at e1;cases e1
       rw[Gm hiσ]at e2
       cases e2
       exact⟨u,r,.inr ⟨.inl hk,c,hc,hc'⟩⟩
     · rw[Gf (LB hj)]at e2
       obtain⟨u',r',q⟩:=hl j y v' e1 e2 e3
       refine⟨u',r',?_⟩
       rcases q with q|⟨k,c',e,z'⟩
       · exact .inl q
       · refine .inr ⟨k,c',e,z'.sameBut hs ?_⟩
         rintro rfl
         exact hj (kS hN e1 (I.ok.inj _ _ _ e hc▸hi))
   · by_cases hcc:c'=c
     · subst hcc;exact⟨_,hc'⟩
     · obtain⟨w2,z2⟩:=I.cell y c' e
       exact⟨w2,z2.sameBut hs hcc⟩
   · obtain⟨e,n,ne,nf,d⟩:=I.pin p hp
     refine⟨(hs.2 p.1 ?_).trans e,n,ne,nf,d⟩
     intro q
     rw[q,hoc]at e
     have q':oc=p.2:=GS e
     exact d w' (by rw[<- q'];exact hocd)
theorem dZ{M:Model}{i:Nat}{v:V}{Q:Unit->FO->Prop}(I:Inv X pins σ H s)(hN:X.N.Nodup)(hi:X.N[i]?=some x)(hx:Loc X.env.scope x)(r:RelV v u)
 (h:∀s',Inv X pins (σ.set i (some v)) H s'->Q () s')(hf:X.fn x=true\/X.env.scope.names.lookup x=some .local:=by first|exact .inl rfl|exact .inr rfl|assumption):Gb M A (storeName X.env x u) Q E s :=
 dY I hN hi hx r (fun s' I' _=>h s' I') hf
end
abbrev XK:=Value->Option Addr->Hp->Prop
abbrev St:=List (Option V)
abbrev VK:=V->Hp->Prop
abbrev TE:=St->Hp->VK->Prop
abbrev TT:=St->Hp->(Bool->Hp->Prop)->Prop
abbrev TA:=St->Hp->(List V->Hp->Prop)->Prop
structure Ends where
 nx:St->Hp->Prop
 rt:VK
 bk:St->Hp->Prop:=fun _ _=>False
 ct:St->Hp->Prop:=fun _ _=>False
abbrev TS:=Ends->St->Hp->Prop
def EP(X:Cx)(pins:List (Addr×Obj))(σ:St)(Q:VK)(u:Value)(s':FO):Prop:=∃v H',Inv X pins σ H' s'/\RelV v u/\Q v H'
def TP(X:Cx)(pins:List (Addr×Obj))(σ:St)(Q:Bool->Hp->Prop)(b:Bool)(s':FO):Prop:=∃H',Inv X pins σ H' s'/\Q b H'
def AP(X:Cx)(pins:List (Addr×Obj))(σ:St)(Q:List V->Hp->Prop)(us:List Value)(s':FO):Prop:=∃vs H',Inv X pins σ H' s'/\cj vs us/\Q vs H'
def SP(X:Cx)(pins:List (Addr×Obj))(D:Ends)(f:Flow)(s':FO):Prop :=
 match f with
 | .next=>∃σ' H',Inv X pins σ' H' s'/\D.nx σ' H'
 | .brk=>∃σ' H',Inv X pins σ' H' s'/\D.bk σ' H'
 | .cont=>∃σ' H',Inv X pins σ' H' s'/\D.ct σ' H'
 | .ret u=>∃v σ' H',Inv X pins σ' H' s'/\RelV v u/\D.rt v H'
def PE(X:Cx)(e:Expr)(t:TE):Prop :=
 ∀(pins:List (Addr×Obj))(s:FO)(σ:St)(H:Hp)(Q:VK),Inv X pins σ H s->t σ H Q->Gb (Gn X.prog X.w) X.A (eval e X.env) (EP X pins σ Q) X.xe s
def PT(X:Cx)(e:Expr)(t:TT):Prop :=
 ∀(pins:List (Addr×Obj))(s:FO)(σ:St)(H:Hp)(Q:Bool->Hp->Prop),Inv X pins σ H s->t σ H Q->Gb (Gn X.prog X.w) X.A (isTrue e X.env (eval e X.env)) (TP X pins σ Q) X.xe s
def PW(X:Cx)(e:Expr)(t:TT):Prop :=
 ∀(whole:Sem Value)(pins:List (Addr×Obj))(s:FO)(σ:St)(H:Hp)(Q:Bool->Hp->Prop),Inv X pins σ H s->t σ H Q->Gb (Gn X.prog X.w) X.A (isTrue e X.env whole) (TP X pins σ Q) X.xe s
theorem PW.pt{X:Cx}{t:TT}(h:PW X e t):PT X e t:=h _
def PA(X:Cx)(es:List Expr)(t:TA):Prop :=
 ∀(pos:Pos)(pins:List (Addr×Obj))(s:FO)(σ:St)(H:Hp)(Q:List V->Hp->Prop),Inv X pins σ H s->t σ H Q->Gb (Gn X.prog X.w) X.A (spliced (Hs pos (FU es X.env))) (AP X pins σ Q) X.xe s
def PS(X:Cx)(st:Stmt)(t:TS):Prop :=
 ∀(pins:List (Addr×Obj))(s:FO)(σ:St)(H:Hp)(D:Ends),Inv X pins σ H s->t D σ H->Gb (Gn X.prog X.w) X.A (exec st X.env) (SP X pins D) X.xe s
def ET(X:Cx)(st:List Stmt)(t:TS):Prop :=
 ∀(pins:List (Addr×Obj))(s:FO)(σ:St)(H:Hp)(D:Ends),Inv X pins σ H s->t D σ H->Gb (Gn X.prog X.w) X.A (execs st X.env) (SP X pins D) X.xe s
theorem CF{t:Sem α}{Q Q':α->FO->Prop}{M:Model}(h:Gb M A t Q E s)(hQ:∀a s,Q a s->Q' a s):Gb M A t Q' E s:=Gr h hQ fun _ _ x=>x
section
variable{X:Cx}
def Bd(i:Nat):TE:=fun σ H Q=>∃v,σ[i]?=some (some v)/\Q v H
def tC(v:V):TE:=fun _ H Q=>Q v H
theorem fO{i:Nat}(hN:X.N[i]?=some x)(hv:Ex X.env.scope x)(hd:(x==("__debug__" : Str))=false:=by decide)(hcd:(x==("__classdict__" : Str))=false:=by decide):PE X (.Name x pos) (Bd i):=by
 intro pins s σ H Q I h
 obtain⟨v,e,h⟩:=h
 obtain⟨m,hn,hl⟩:=I.loc
 obtain⟨u,r,l⟩:=hl i x v hN e hv
 have fin:EP X pins σ Q u s:=⟨v,H,I,r,h⟩
 rcases l with⟨hk,hm⟩|⟨hk,c,hc,hcell⟩
 · exact wpAny_Name (Lp I.ok.kind hk hn hm fin) hd
 · rcases hk with hk|hk
   · exact wpAny_Name (LC I.ok.kind hk hc hcell fin) hd
   · exact wpAny_Name (wpAny_loadName_free I.ok.kind hk hc hcell fin hcd) hd
theorem nJ{i j pos}:PE X (.Constant (.int i) j pos) (tC (.int i)):=fun _ _ _ H _ I h=>wpAny_Constant_int ⟨.int i,H,I.tok _,⟨_,rfl⟩,h⟩
theorem yU{b j pos}:PE X (.Constant (.bool b) j pos) (tC (.bl b)):=fun _ _ _ H _ I h=>Constant_bool ⟨.bl b,H,I,rfl,h⟩
theorem d8{x j pos}:PE X (.Constant (.str x) j pos) (tC (.str x)):=fun _ _ _ H _ I h=>Calls.Constant_str ⟨.str x,H,I.tok _,⟨_,rfl⟩,h⟩
def Gl(X:Cx)(x:Str):Prop:=X.env.kindOf x=some .globalImplicit
theorem nX{σ:St}{H:Hp}(I:Inv X pins σ H s)(hg:Gl X x)(hm:X.mg x=some u)(h:Q u s)
 (hd:(x==("__debug__" : Str))=false:=by decide):Gb (Gn X.prog X.w) X.A (eval (.Name x pos) X.env) Q E s :=
 J4 I.ok.kind hg (Calls.loadGlobal_global (by rw[I.ok.glob];exact I.mod.glob.keeps I.bk) hm h) hd
theorem dm{σ:St}{H:Hp}(I:Inv X pins σ H s)(hg:Gl X x)(hm:X.mg x=none)(hv:II x=some u)(h:Q u s)
 (hn:x ≠ "__name__" := by decide)(hd:(x==("__debug__" : Str))=false:=by decide):Gb (Gn X.prog X.w) X.A (eval (.Name x pos) X.env) Q E s:=by
 obtain⟨mb,h1,h2⟩:=I.mod.blt
 exact J4 I.ok.kind hg (Calls.loadGlobal_builtin (by rw[I.ok.glob];exact I.mod.glob.keeps I.bk) hm (by rw[I.ok.blt];exact h1.keeps I.bk) ((h2 x hn).trans hv) h) hd
theorem tm{v:V}(hg:Gl X x)(hm:X.mg x=some u)(r:RelV v u)(hd:(x==("__debug__" : Str))=false:=by decide):PE X (.Name x pos) (tC v) :=
 fun _ _ _ H _ I h=>nX I hg hm ⟨v,H,I,r,h⟩ hd
variable{a b:Expr}{ta tb:TE}{pos:Pos}
def tB(t:TE):TT:=fun σ H Q=>t σ H fun x H1=>∃c,x = .bl c/\Q c H1
theorem vW{t:TE}(h:PE X e t)(he:∀whole,isTrue e X.env whole=(do let v <- whole;LD e.pos;holding [v] (truthy v)):=by intro _;rfl):PT X e (tB t):=by
 intro pins s σ H Q I hw
 refine isTrue_plain (CF (h pins s σ H _ I hw) fun v s1 ⟨x,H1,I1,r1,q1⟩=>?_) (he _)
 obtain⟨d,rfl,q⟩:=q1
 cases r1
 exact Is ⟨H1,I1,q⟩
variable{tA tB':TT}{rest:List Expr}
def Bq(t u:TT):TT:=fun σ H Q=>t σ H fun c H1=>if c=true then u σ H1 Q else Q false H1
def CK(t u:TT):TT:=fun σ H Q=>t σ H fun c H1=>if c=true then Q true H1 else u σ H1 Q
def Bk(t:TT):TT:=fun σ H Q=>t σ H fun c H1=>Q (!c) H1
theorem ny(ha:PT X a tA):PW X (.BoolOp .And [a] pos) tA:=by
 intro wh pins s σ H Q I h
 refine isTrue_and (CF (ha pins s σ H Q I h) fun c s1 e=>?_)
 cases c with
 | true=>exact isTrue_and_nil e
 | false=>exact e
theorem vU(ha:PT X a tA):PW X (.BoolOp .Or [a] pos) tA:=by
 intro wh pins s σ H Q I h
 refine isTrue_or (CF (ha pins s σ H Q I h) fun c s1 e=>?_)
 cases c with
 | false=>exact isTrue_or_nil e
 | true=>exact e
theorem qZ(ha:PT X a tA)(hb:PW X (.BoolOp .And (b::rest) pos) tB'):PW X (.BoolOp .And (a::b::rest) pos) (Bq tA tB'):=by
 intro wh pins s σ H Q I h
 refine isTrue_and (CF (ha pins s σ H _ I h) fun c s1 ⟨H1,I1,q1⟩=>?_)
 cases c with
 | true=>exact hb wh pins s1 σ H1 Q I1 q1
 | false=>exact⟨H1,I1,q1⟩
theorem yN(ha:PT X a tA)(hb:PW X (.BoolOp .Or (b::rest) pos) tB'):PW X (.BoolOp .Or (a::b::rest) pos) (CK tA tB'):=by
 intro wh pins s σ H Q I h
 refine isTrue_or (CF (ha pins s σ H _ I h) fun c s1 ⟨H1,I1,q1⟩=>?_)
 cases c with
 | true=>exact⟨H1,I1,q1⟩
 | false=>exact hb wh pins s1 σ H1 Q I1 q1
theorem vX(ha:PT X a tA):PT X (.UnaryOp .Not a pos) (Bk tA):=by
 intro pins s σ H Q I h
 exact isTrue_not (ha pins s σ H (fun c H1=>Q (!c) H1) I h)
def yE(ta tb:TE):TE:=fun σ H Q=>ta σ H fun x H1=>∃c,x = .bl c/\if c=true then tb σ H1 Q else Q (.bl false) H1
def Bj(ta tb:TE):TE:=fun σ H Q=>ta σ H fun x H1=>∃c,x = .bl c/\if c=true then Q (.bl true) H1 else tb σ H1 Q
def yy(ta:TE):TE:=fun σ H Q=>ta σ H fun x H1=>∃c,x = .bl c/\Q (.bl (!c)) H1
theorem wm{op}{t:TE}(h:PE X a t):PE X (.BoolOp op [a] pos) t:=fun pins s σ H Q I hw=>BoolOp_one (h pins s σ H Q I hw)
theorem wr(ha:PE X a ta)(hb:PE X (.BoolOp .And (b::rest) pos) tb):PE X (.BoolOp .And (a::b::rest) pos) (yE ta tb):=by
 intro pins s σ H Q I h
 refine BoolOp_and (CF (ha pins s σ H _ I h) fun v s1 ⟨x,H1,I1,r1,q1⟩=>?_)
 obtain⟨c,rfl,q1⟩:=q1
 cases r1
 refine Is ?_
 cases c with
 | true=>exact hb pins s1 σ H1 Q I1 q1
 | false=>exact⟨.bl false,H1,I1,rfl,q1⟩
theorem yS(ha:PE X a ta)(hb:PE X (.BoolOp .Or (b::rest) pos) tb):PE X (.BoolOp .Or (a::b::rest) pos) (Bj ta tb):=by
 intro pins s σ H Q I h
 refine BoolOp_or (CF (ha pins s σ H _ I h) fun v s1 ⟨x,H1,I1,r1,q1⟩=>?_)
 obtain⟨c,rfl,q1⟩:=q1
 cases r1
 refine Is ?_
 cases c with
 | false=>exact hb pins s1 σ H1 Q I1 q1
 | true=>exact⟨.bl true,H1,I1,rfl,q1⟩
theorem wn(ha:PE X a ta):PE X (.UnaryOp .Not a pos) (yy ta):=by
 intro pins s σ H Q I h
 refine UnaryOp_ (CF (ha pins s σ H _ I h) fun v s1 ⟨x,H1,I1,r1,q1⟩=>?_)
 obtain⟨c,rfl,q1⟩:=q1
 cases r1
 exact not_of (Is ⟨.bl (!c),H1,I1,rfl,q1⟩)
def CN(t:TT)(ta tb:TE):TE:=fun σ H Q=>t σ H fun c H1=>if c=true then ta σ H1 Q else tb σ H1 Q
theorem pR{c:Expr}(hc:PT X c tA)(ha:PE X a ta)(hb:PE X b tb):PE X (.IfExp c a b pos) (CN tA ta tb):=by
 intro pins s σ H Q I h
 refine wpAny_IfExp (CF (hc pins s σ H _ I h) fun d s1 ⟨H1,I1,q1⟩=>?_)
 cases d with
 | true=>exact ha pins s1 σ H1 Q I1 q1
 | false=>exact hb pins s1 σ H1 Q I1 q1
end
def EH(K:W.Frag)(H:Hp)(a:Addr)(xs:List V):Prop :=
 Rd H a (.lst xs) \/
  ∃(o:Obj)(its:Array Value)(n:Nat),K.lookup a=some o/\o.cls = .type "list" /\ o.dict=none/\o.data = .seq its n/\its.size<=sizeLine/\cj xs its.toList
def EG(K:W.Frag)(H:Hp)(a:Addr)(xs:List V):Prop :=
 Rd H a (.tup xs) \/
  ∃(o:Obj)(its:Array Value)(n:Nat),K.lookup a=some o/\o.cls = .type "tuple" /\ o.data = .seq its n/\its.size<=sizeLine/\cj xs its.toList/\o.dict=none
def BP:Value->Option V
 | .none=>some .non
 | .bool b=>some (.bl b)
 | .int i _=>some (.int i)
 | .str x _=>some (.str x)
 | .bytes b _=>some (.byt b)
 | .float b _=>some (.flt b)
 | .ref a=>some (.ref a)
 | .type n=>some (.ty n)
 | _=>none
theorem RelV.abs{x:V}(r:RelV x u):BP u=some x:=by
 cases x with
 | non=>cases r;rfl
 | bl _=>cases r;rfl
 | int _=>obtain⟨t,rfl⟩:=r;rfl
 | str _=>obtain⟨t,rfl⟩:=r;rfl
 | byt _=>obtain⟨t,rfl⟩:=r;rfl
 | flt _=>obtain⟨t,rfl⟩:=r;rfl
 | ref _=>cases r;rfl
 | ty _=>cases r;rfl
theorem RelV.inj{x y:V}(r:RelV x u)(q:RelV y u):x=y:=GS (r.abs.symm.trans q.abs)
theorem cj.inj:∀{xs ys:List V}{us:List Value},cj xs us->cj ys us->xs=ys
 | _,_,_,.nil,.nil=>rfl
 | _,_,_,.cons r t,.cons r' t'=>by rw[r.inj r',cj.inj t t']
section
variable{X:Cx}{pins:List (Addr×Obj)}{σ:St}{H:Hp}{s:FO}{a:Addr}{xs ys:List V}
theorem EH.of{K:W.Frag}(h:H a=some (.lst xs)):EH K H a xs:=.inl (.inl h)
theorem EG.of{K:W.Frag}(h:H a=some (.tup xs)):EG K H a xs:=.inl (.inl h)
theorem Inv.list(I:Inv X pins σ H s)(h:EH X.K H a xs):∃its:List Value,cj xs its/\PlainL s.heap a its.toArray/\xs.length<=sizeLine:=by
 rcases h with h|⟨o,its,n,hk,hc,hd,hs,hz,r⟩
 · obtain⟨z,its,n,r,e⟩:=h.ok I.hok
   exact⟨its,r,⟨_,n,e,rfl,rfl,rfl⟩,z⟩
 · refine⟨its.toList,r,⟨o,n,I.kIn a o hk,hc,hd,by simpa using hs⟩,?_⟩
   have e:=r.length
   simp only[IA]at e
   omega
theorem Inv.tuple(I:Inv X pins σ H s)(h:EG X.K H a xs):∃its:List Value,cj xs its/\IsTup s.heap a its.toArray/\xs.length<=sizeLine:=by
 rcases h with h|⟨o,its,n,hk,hc,hs,hz,r,hd⟩
 · obtain⟨z,its,r,p⟩:=h.ok I.hok
   exact⟨its,r,p.tup,z⟩
 · refine⟨its.toList,r,⟨o,I.kIn a o hk,hc,n,by simpa using hs⟩,?_⟩
   have e:=r.length
   simp only[IA]at e
   omega
theorem Inv.list_inj(I:Inv X pins σ H s)(h:EH X.K H a xs)(h':EH X.K H a ys):xs=ys:=by
 obtain⟨its,r,⟨o,n,e,_,_,d⟩,_⟩:=I.list h
 obtain⟨its',r',⟨o',n',e',_,_,d'⟩,_⟩:=I.list h'
 rw[e]at e';cases e'
 rw[d]at d'
 injection d' with d1 _
 have:its=its':=by simpa using congrArg Array.toList d1
 subst this
 exact r.inj r'
theorem Inv.tupleD(I:Inv X pins σ H s)(h:EG X.K H a xs):∃ob,s.heap.get? a=some ob/\ob.cls = .type "tuple" /\ ob.dict=none:=by
 rcases h with h|⟨o,its,n,hk,hc,hs,hz,r,hd⟩
 · obtain⟨z,its,r,⟨o,e1,e2,_,e3⟩⟩:=h.ok I.hok
   exact⟨o,e1,e2,e3⟩
 · exact⟨o,I.kIn a o hk,hc,hd⟩
theorem Inv.tuple_inj(I:Inv X pins σ H s)(h:EG X.K H a xs)(h':EG X.K H a ys):xs=ys:=by
 obtain⟨its,r,⟨o,e,_,n,d⟩,_⟩:=I.tuple h
 obtain⟨its',r',⟨o',e',_,n',d'⟩,_⟩:=I.tuple h'
 rw[e]at e';cases e'
 rw[d]at d'
 injection d' with d1 _
 have:its=its':=by simpa using congrArg Array.toList d1
 subst this
 exact r.inj r'
end
abbrev Cx.wish(X:Cx)(E:Value->FO->Prop):Cx:={X with xe:=E}
abbrev Cx.nox(X:Cx):Cx:=X.wish fun _ _=>False
theorem Cx.Ok.wish{X:Cx}(ok:X.Ok)(E:Value->FO->Prop):(X.wish E).Ok :=
 ⟨ok.mod,ok.kind,ok.glob,ok.blt,ok.above,ok.inj,ok.has,ok.cab,ok.hd,ok.frames,ok.stk,ok.exf,ok.bs,ok.bsz,ok.noex,ok.exfs,ok.funs,ok.frf⟩
theorem Cx.Ok.unwish{X:Cx}(ok:(X.wish E).Ok):X.Ok :=
 ⟨ok.mod,ok.kind,ok.glob,ok.blt,ok.above,ok.inj,ok.has,ok.cab,ok.hd,ok.frames,ok.stk,ok.exf,ok.bs,ok.bsz,ok.noex,ok.exfs,ok.funs,ok.frf⟩
section
variable{X:Cx}{pins:List (Addr×Obj)}{σ:St}{H:Hp}{s:FO}{E:Value->FO->Prop}
theorem Inv.wish(I:Inv X pins σ H s)(E:Value->FO->Prop):Inv (X.wish E) pins σ H s:=⟨I.ok.wish E,I.os,I.bare,I.base,I.loc,I.cell,I.free,I.freeC,I.pin,I.hok,I.len⟩
theorem Inv.unwish(I:Inv (X.wish E) pins σ H s):Inv X pins σ H s:=⟨I.ok.unwish,I.os,I.bare,I.base,I.loc,I.cell,I.free,I.freeC,I.pin,I.hok,I.len⟩
theorem SP.unwish{D:Ends}{f:Flow}{s':FO}(h:SP (X.wish E) pins D f s'):SP X pins D f s':=by
 cases f with
 | next=>obtain⟨σ',H',I,q⟩:=h;exact⟨σ',H',I.unwish,q⟩
 | brk=>obtain⟨σ',H',I,q⟩:=h;exact⟨σ',H',I.unwish,q⟩
 | cont=>obtain⟨σ',H',I,q⟩:=h;exact⟨σ',H',I.unwish,q⟩
 | ret u=>obtain⟨v,σ',H',I,r,q⟩:=h;exact⟨v,σ',H',I.unwish,r,q⟩
theorem PE.nox{t:TE}(h:PE X.nox e t):PE X e t:=fun pins s σ H Q I hw =>
 Gr (h pins s σ H Q (I.wish _) hw) (fun _ _ ⟨v,H',I',r,q⟩=>⟨v,H',I'.unwish,r,q⟩) fun _ _ z=>GZ z
theorem PT.nox{t:TT}(h:PT X.nox e t):PT X e t:=fun pins s σ H Q I hw =>
 Gr (h pins s σ H Q (I.wish _) hw) (fun _ _ ⟨H',I',q⟩=>⟨H',I'.unwish,q⟩) fun _ _ z=>GZ z
theorem ET.nox{st:List Stmt}{t:TS}(h:ET X.nox st t):ET X st t:=fun pins s σ H D I hw =>
 Gr (h pins s σ H D (I.wish _) hw) (fun _ _ q=>q.unwish) fun _ _ z=>GZ z
end
section
variable{X:Cx}{st:Stmt}{rest:List Stmt}{t u:TS}{e:Expr}{te:TE}{pos:Pos}
def yz:TS:=fun D σ H=>D.nx σ H
def Bg(t u:TS):TS:=fun D σ H=>t {D with nx:=u D} σ H
theorem sO:ET X [] yz:=fun _ _ σ H _ I h=>JK ⟨σ,H,I,h⟩
theorem d7(h1:PS X st t)(h2:ET X rest u):ET X (st::rest) (Bg t u):=by
 intro pins s σ H D I h
 refine wpAny_execs_cons (CF (h1 pins s σ H {D with nx:=u D} I h) fun f s1 q=>?_)
 cases f with
 | next =>
   obtain⟨σ',H',I',q⟩:=q
   exact h2 pins s1 σ' H' D I' q
 | ret v=>exact q
 | brk=>exact q
 | cont=>exact q
theorem jJ(h1:PS X st t):ET X [st] t:=by
 intro pins s σ H D I h
 refine wpAny_execs_cons (CF (h1 pins s σ H D I h) fun f s1 q=>?_)
 cases f with
 | next=>exact JK q
 | ret v=>exact q
 | brk=>exact q
 | cont=>exact q
theorem Inv.quiet{σ:St}{H:Hp}(I:Inv X pins σ H s):interactive X.env=false:=by simp[interactive,I.ok.kind]
def yB(te:TE):TS:=fun D σ H=>te σ H fun _ H1=>D.nx σ H1
theorem sQ(he:PE X e te)(hs:HS e none pos.line X.env=pure false:=by rfl):PS X (.Expr e pos) (yB te):=by
 intro pins s σ H D I h
 exact wpAny_Expr_any (CF (he pins s σ H _ I h) fun v s1 ⟨x,H1,I1,r1,q1⟩=>⟨σ,H1,I1,q1⟩) I.quiet hs
def Bh(te:TE):TS:=fun D σ H=>te σ H D.rt
theorem nD(he:PE X e te):PS X (.Return (some e) pos) (Bh te):=by
 intro pins s σ H D I h
 exact wpAny_Return_some (CF (he pins s σ H _ I h) fun v s1 ⟨x,H1,I1,r1,q1⟩=>⟨x,σ,H1,I1,r1,q1⟩)
def Bn(c:TT)(t u:TS):TS:=fun D σ H=>c σ H fun b H1=>if b=true then t D σ H1 else u D σ H1
theorem vZ{c:Expr}{a b:List Stmt}{tc:TT}(hc:PT X c tc)(ha:ET X a t)(hb:ET X b u):PS X (.If c a b pos) (Bn tc t u):=by
 intro pins s σ H D I h
 refine wpAny_If (CF (hc pins s σ H _ I h) fun d s1 ⟨H1,I1,q1⟩=>?_)
 cases d with
 | true=>exact ha pins s1 σ H1 D I1 q1
 | false=>exact hb pins s1 σ H1 D I1 q1
def vt:TS:=fun _ _ _=>False
theorem pO:PS X st vt:=fun _ _ _ _ _ _ h=>h.elim
end
abbrev TG:=V->St->Hp->(St->Hp->Prop)->Prop
abbrev EF:=List V->St->Hp->(St->Hp->Prop)->Prop
def PG(X:Cx)(target:Expr)(t:TG):Prop :=
 ∀ (pins:List (Addr×Obj))(s:FO)(σ:St)(H:Hp)(v:V)(u:Value)(Q:St->Hp->Prop),Inv X pins σ H s->RelV v u->t v σ H Q ->
   Gb (Gn X.prog X.w) X.A (IS target X.env u) (fun _ s'=>∃σ' H',Inv X pins σ' H' s'/\Q σ' H') X.xe s
def EZ(X:Cx)(ts:List Expr)(t:EF):Prop :=
 ∀ (pins:List (Addr×Obj))(s:FO)(σ:St)(H:Hp)(vs:List V)(us:List Value)(Q:St->Hp->Prop),Inv X pins σ H s->cj vs us->t vs σ H Q ->
   Gb (Gn X.prog X.w) X.A (LR ((IG ts X.env).map (·.2)) us) (fun _ s'=>∃σ' H',Inv X pins σ' H' s'/\Q σ' H') X.xe s
abbrev ED:=V->V->Hp->VK->Prop
def EW(X:Cx)(op:LS)(t:ED):Prop :=
 ∀ (pins:List (Addr×Obj))(s:FO)(σ:St)(H:Hp)(x y:V)(v u:Value)(Q:VK),Inv X pins σ H s->RelV x v->RelV y u->t x y H Q ->
   Gb (Gn X.prog X.w) X.A (inplaceOp op v u) (EP X pins σ Q) X.xe s
section
variable{X:Cx}{pos:Pos}
def iq(i:Nat):TG:=fun v σ H Q=>Q (σ.set i (some v)) H
theorem s_{i:Nat}(hN:X.N.Nodup)(hi:X.N[i]?=some x)(hx:Loc X.env.scope x)(hf:X.fn x=true\/X.env.scope.names.lookup x=some .local:=by first|exact .inl rfl|exact .inr rfl|assumption):PG X (.Name x pos) (iq i):=by
 intro pins s σ H v u Q I r h
 exact Jv (dZ I hN hi hx r (fun s' I'=>⟨_,H,I',h⟩) hf)
def BL:EF:=fun vs σ H Q=>vs=[]/\Q σ H
def zp(t:TG)(u:EF):EF:=fun vs σ H Q=>∃v r,vs=v::r/\t v σ H fun σ' H'=>u r σ' H' Q
theorem sZ:EZ X [] BL:=by
 intro pins s σ H vs us Q I r h
 obtain⟨e,h⟩:=h
 subst e
 cases r
 exact assignInOrder_nil ⟨σ,H,I,h⟩
theorem pQ{es:List Expr}{t:TG}{u:EF}(h1:PG X e t)(h2:EZ X es u)
 (hs:(IG (e::es) X.env).map (·.2)=IS e X.env::(IG es X.env).map (·.2):=by rfl):EZ X (e::es) (zp t u):=by
 intro pins s σ H vs us Q I r h
 obtain⟨v,vr,e1,h⟩:=h
 subst e1
 cases r with
 | cons r rr =>
   rw[hs]
   refine J7 (CF (h1 pins s σ H _ _ _ I r h) fun _ s1 ⟨σ1,H1,I1,q1⟩=>?_)
   exact h2 pins s1 σ1 H1 _ _ Q I1 rr q1
def BK(K:W.Frag)(n:Nat)(t:EF):TG:=fun v σ H Q=>∃a xs,v = .ref a/\EG K H a xs/\xs.length=n/\t xs σ H Q
theorem wf{es:List Expr}{k:Nat}{t:EF}(hc:X.calm=true)(h:EZ X es t)
 (hn:(IG es X.env).length=n:=by rfl)(hst:(IG es X.env).findIdx? (·.1)=none:=by rfl):PG X (.Tuple es k pos) (BK X.K n t):=by
 intro pins s σ H v u Q I r hw
 obtain⟨a,xs,e1,hq,hl,hw⟩:=hw
 subst e1
 cases r
 obtain⟨its,rv,ht,hz⟩:=I.tuple hq
 refine assign_Tuple_tuple (I.ok.hd hc) ht (by simp[hn,<- hl,rv.length]) hst fun h' hx=>?_
 have I1:Inv X pins σ H {s with heap:=h' }:=I.kept (t':=s.toks) fun b o e=>hx b o (Gx (FW e)) e
 exact h pins _ σ H xs _ Q I1 (by simpa using rv) hw
def vB(te:TE)(g:TG):TS:=fun D σ H=>te σ H fun x H1=>g x σ H1 D.nx
theorem v6{te:TE}{g:TG}(he:PE X e te)(hg:PG X tg g)(hs:Kx [tg] e pos.line X.env=pure false:=by rfl)(hw:Ky [tg] e X.env=pure none:=by rfl)
 (h1:(IG [tg] X.env).map (·.2)=[IS tg X.env]:=by rfl):PS X (.Assign [tg] e pos) (vB te g):=by
 intro pins s σ H D I h
 refine wpAny_Assign_stores (CF (he pins s σ H _ I h) fun v s1 ⟨x,H1,I1,r1,q1⟩=>?_) hs hw
 rw[h1]
 exact CF (hg pins s1 σ H1 x v _ I1 r1 q1) fun _ s2 q=>q
theorem fN{i:Nat}{te:TE}(hN:X.N.Nodup)(hi:X.N[i]?=some x)(hx:Loc X.env.scope x)(he:PE X e te)(hs:HS e (some (.Name x pos')) pos.line X.env=pure false:=by rfl)(hf:X.fn x=true\/X.env.scope.names.lookup x=some .local:=by first|exact .inl rfl|exact .inr rfl|assumption) :
 PS X (.Assign [.Name x pos'] e pos) (vB te (iq i)):=by
 intro pins s σ H D I h
 refine wpAny_Assign_Name (CF (he pins s σ H _ I h) fun v s1 ⟨y,H1,I1,r1,q1⟩=>?_) hs
 exact dZ I1 hN hi hx r1 (fun s2 I2=>⟨_,H1,I2,q1⟩) hf
def Bi(i j:Nat)(ta:TA):TS:=fun D σ H=>ta σ H fun vs H1=>∃v w,vs=[v,w]/\D.nx ((σ.set i (some v)).set j (some w)) H1
theorem vY{i:Nat}{y:Str}{a b:Expr}{ta:TA}{py pt:Pos}{kt k2 pt2}(hc:X.calm=true)(hN:X.N.Nodup)(hi:X.N[i]?=some x)(hj:X.N[j]?=some y)(hij:i≠j)
 (hx:X.env.scope.names.lookup x=some .local)(hy:X.env.scope.names.lookup y=some .local)(ha:PA X [a,b] ta)
 (hw:Ky [.Tuple [.Name x px,.Name y py] kt pt] (.Tuple [a,b] k2 pt2) X.env=pure (some [x,y]))
 (hs:Kx [.Tuple [.Name x px,.Name y py] kt pt] (.Tuple [a,b] k2 pt2) pos.line X.env=pure false:=by rfl) :
 PS X (.Assign [.Tuple [.Name x px,.Name y py] kt pt] (.Tuple [a,b] k2 pt2) pos) (Bi i j ta):=by
 intro pins s σ H D I h
 rw[exec_Assign_arm]
 refine FI (HD ?_)
 rw[hs]
 refine FI (FS ?_)
 rw[if_neg (by decide)]
 refine FI (Tuple_ (CF (ha _ pins s σ H _ I h) fun us s1 ⟨vs,H1,I1,r1,q1⟩=>?_))
 obtain⟨v,w,e1,q1⟩:=q1
 subst e1
 obtain⟨u1,u2,rfl,rv,rw'⟩:∃u1 u2,us=[u1,u2]/\RelV v u1/\RelV w u2:=by
  cases r1 with
  | cons p q =>
    cases q with
    | cons p' q' =>
      cases q'
      exact⟨_,_,rfl,p,p'⟩
 refine GP ?_ (by show 2<=sizeLine;decide)
 have I2:Inv X pins σ H1 {s1 with heap:=s1.heap.push {cls:=.type "tuple", data:=.seq [u1,u2].toArray}}:=I1.kept (t':=s1.toks) fun b o e=>FM _ e
 rw[hw]
 refine FI (FS ?_)
 show Gb (Gn X.prog X.w) X.A (do rule "assign.swapped-stores"; let items <- unpackItems (.ref s1.heap.objs.size) 2 none;LR [fun v=>bindName X.env y v,fun v=>bindName X.env x v] items.reverse;pure Flow.next) _ _ _
 refine FI (Ji (FI (unpackItems_tuple (items:=#[u1,u2]) (I.ok.hd hc) (IsTup.new s1.heap _) fun h' hx'=>?_)))
 have I3:=I2.kept (h':=h') (t':=s1.toks) fun b o e=>hx' b o (Gx (FW e)) e
 show Gb _ _ (LR [fun v=>bindName X.env y v,fun v=>bindName X.env x v] [u2,u1] >>= fun _=>pure Flow.next) _ _ _
 refine FI (J7 (wpAny_bindName (dZ I3 hN hj (.inl hy) rw' (fun s2 I4=>?_) (.inr hy))))
 refine J7 (wpAny_bindName (dZ I4 hN hi (.inl hx) rv (fun s3 I5=>assignInOrder_nil (FS ?_)) (.inr hx)))
 rw[List.set_comm _ _ (LB hij)]at I5
 exact⟨_,H1,I5,q1⟩
def Bp(i:Nat)(te:TE)(ti:ED):TS:=fun D σ H=>∃x,σ[i]?=some (some x)/\te σ H fun y H1=>ti x y H1 fun z H2=>D.nx (σ.set i (some z)) H2
theorem v4{i:Nat}{te:TE}{op:LS}{ti:ED}(hN:X.N.Nodup)(hi:X.N[i]?=some x)(hx:Loc X.env.scope x)(he:PE X e te)(ho:EW X op ti)(hf:X.fn x=true\/X.env.scope.names.lookup x=some .local:=by first|exact .inl rfl|exact .inr rfl|assumption) :
 PS X (.AugAssign (.Name x pos') op e pos) (Bp i te ti):=by
 intro pins s σ H D I h
 obtain⟨v,e1,h⟩:=h
 obtain⟨m,hn,hl⟩:=I.loc
 have vis:Ex X.env.scope x:=by rcases hx with k|k;exact .inl k;exact .inr (.inl k)
 obtain⟨u,r,l⟩:=hl i x v hi e1 vis
 refine wpAny_AugAssign_Name ?_
 have go:Gb (Gn X.prog X.w) X.A (eval e X.env) (fun w s₂=>Gb (Gn X.prog X.w) X.A (inplaceOp op u w) (fun r s₃=>Gb (Gn X.prog X.w) X.A (storeName X.env x r) (fun _=>SP X pins D .next) X.xe s₃) X.xe s₂) X.xe s:=by
  refine CF (he pins s σ H _ I h) fun w s1 ⟨y,H1,I1,r1,q1⟩=>?_
  refine CF (ho pins s1 σ H1 v y u w _ I1 r r1 q1) fun z s2 ⟨zv,H2,I2,r2,q2⟩=>?_
  exact dZ I2 hN hi hx r2 (fun s3 I3=>⟨_,H2,I3,q2⟩) hf
 rcases l with⟨hk,hm⟩|⟨hk,c,hc,hcell⟩
 · exact Lp I.ok.kind hk hn hm go
 · rcases hk with hk|hk
   · exact LC I.ok.kind hk hc hcell go
   · rcases hx with k|k
     · have:X.env.scope.names.lookup x=some .free:=hk
       rw[k]at this;cases this
     · have:X.env.scope.names.lookup x=some .free:=hk
       rw[k]at this;cases this
end
section
variable{X:Cx}{pos:Pos}
def vq(c:TT)(tb:TS):TS:=fun D σ H=>∃W:Nat->St->Hp->Prop,(∃m,W m σ H)/\∀m σ H,W m σ H ->
 c σ H fun b H1=>if b=true then ∃N:St->Hp->Prop,(∀σ' H',N σ' H'->∃m',m'<m/\W m' σ' H')/\tb {D with nx:=N,ct:=N,bk:=D.nx} σ H1 else D.nx σ H1
theorem pN{c:Expr}{body:List Stmt}{tc:TT}{tb:TS}(hp:LU (Gn X.prog X.w) X.A X.env X.xe)(hc:PT X c tc)(hb:ET X body tb):PS X (.While c body [] pos) (vq tc tb):=by
 intro pins s σ H D I h
 obtain⟨W,⟨m0,w0⟩,turn⟩:=h
 refine wpAny_While (codeAny_whileLoop (fun n s'=>∃σ' H',Inv X pins σ' H' s'/\W n σ' H') ?_ m0 ⟨σ,H,I,w0⟩)
 rintro n s1 ⟨σ1,H1,I1,w1⟩
 refine Iu hp (CF (hc pins s1 σ1 H1 _ I1 (turn n σ1 H1 w1)) fun b s2 ⟨H2,I2,q2⟩=>?_)
 cases b with
 | true =>
   obtain⟨N,hN,q2⟩:=q2
   rw[if_pos rfl]
   refine Iu hp (CF (hb pins s2 σ1 H2 _ I2 q2) fun f s3 q3=>?_)
   cases f with
   | next =>
     obtain⟨σ3,H3,I3,n3⟩:=q3
     obtain⟨m',hm,w3⟩:=hN σ3 H3 n3
     exact⟨m',hm,σ3,H3,I3,w3⟩
   | cont =>
     obtain⟨σ3,H3,I3,n3⟩:=q3
     obtain⟨m',hm,w3⟩:=hN σ3 H3 n3
     exact⟨m',hm,σ3,H3,I3,w3⟩
   | brk=>exact q3
   | ret v=>exact q3
 | false =>
   rw[if_neg Gs]
   exact JK ⟨σ1,H2,I2,q2⟩
end
structure It where
 go:Nat->Hp->Prop
 yld:Nat->Hp->V->Hp->Prop
 stop:Nat->Hp->Prop
def iF(X:Cx)(pins:List (Addr×Obj))(H:Hp)(b:Addr):Prop :=
 H b=none/\b≠X.env.locals/\b∉X.fs/\(b∈X.ex\/X.s₀.heap.objs.size<=b)/\(∀x c,X.env.cells.lookup x=some c->c≠b)/\∀p∈X.pn++pins,p.1≠b
theorem Inv.fpOk{X:Cx}{σ:St}{H H':Hp}{b:Addr}(I:Inv X pins σ H s)(hb:s.heap.objs.size<=b)(hn:H' b=none):iF X pins H' b:=by
 refine⟨hn,H0 (FN I.lt hb),I.nofs hb,.inr (GI I.sz hb),fun x c e z=>?_,fun p hp z=>?_⟩
 · obtain⟨v,q⟩:=I.cell x c e
   exact absurd (FN q.lt (by rw[z];exact hb)) (GT _)
 · exact absurd (FN (FW (I.pin p hp).1) (by rw[z];exact hb)) (GT _)
structure Turn (P:Gi) (w:G5) (K:W.Frag) (tg:Expr) (J:It) (fp:List Addr) (it:Addr) (tn:Nat->Heap->Prop):Prop where
 mem:it∈fp
 obj:∀i h,tn i h->∀b∈fp,∃o,h.get? b=some o/\∀v,o.data ≠ .cell v
 keep:∀i h h',tn i h->(∀b∈fp,∀o,h.get? b=some o->h'.get? b=some o)->tn i h'
 item:∀(X:Cx),X.prog=P->X.w=w->X.K=K->X.calm=true->∀(i:Nat)(pins:List (Addr×Obj))(s:FO)(σ:St)(H:Hp)(E:Value->FO->Prop),Inv X pins σ H s->(∀b∈fp,iF X pins H b)->tn i s.heap->J.go i H ->
  Gb (Gn P w) X.A (Ki (.ref it)) (fun r s1=>∃u,r=some u /\
   Gb (Gn P w) X.A (HU tg (.ref it) u) (fun _ s2=>∃x H',Inv X pins σ H' s2/\RelV x u/\J.yld i H x H'/\tn (i+1) s2.heap/\∀b∈fp,H' b=none) E s1) E s
 done:∀(X:Cx),X.prog=P->X.w=w->X.K=K->X.calm=true->∀(i:Nat)(pins:List (Addr×Obj))(s:FO)(σ:St)(H:Hp)(E:Value->FO->Prop),Inv X pins σ H s->(∀b∈fp,iF X pins H b)->tn i s.heap->J.stop i H ->
  Gb (Gn P w) X.A (Ki (.ref it)) (fun r s1=>r=none/\Inv X pins σ H s1) E s
 self:∀(A:Hf)(i:Nat)(s:FO)(Q:Value->FO->Prop)(E:Value->FO->Prop),tn i s.heap->Q (.ref it) s->Gb (Gn P w) A (Mn (.ref it)) Q E s
abbrev TI:=St->Hp->(It->Hp->Prop)->Prop
def EY(X:Cx)(pins:List (Addr×Obj))(σ:St)(tg:Expr)(R:It->Hp->Prop)(itv:Value)(s2:FO):Prop :=
 ∃(it:Addr)(fp:List Addr)(tn:Nat->Heap->Prop)(J:It)(H':Hp),itv = .ref it/\Inv X pins σ H' s2/\Turn X.prog X.w X.K tg J fp it tn/\tn 0 s2.heap/\(∀b∈fp,iF X pins H' b)/\R J H'
def PI(X:Cx)(tg iter:Expr)(wi:TI):Prop :=
 ∀ (pins:List (Addr×Obj))(s:FO)(σ:St)(H:Hp)(R:It->Hp->Prop),Inv X pins σ H s->wi σ H R ->
   Gb (Gn X.prog X.w) X.A (eval iter X.env) (fun v s1=>Gb (Gn X.prog X.w) X.A (Mn v) (EY X pins σ tg R) X.xe s1) X.xe s
theorem t6{M:Model}{o:Obj}{n:String}{vs:Array Value}{Q:Unit->FO->Prop}(ho:s.heap.get? it=some o)(hc:o.cls = .type n)(hd:o.data = .fields vs)
 (hn:["enumerate", "zip", "dict_itemiterator", "dict_reverseitemiterator", "odict_iterator", "itertools.zip_longest", "itertools.pairwise"].contains n=false)(hQ:Q () s):Gb M A (HU tg (.ref it) u) Q E s:=by
 unfold HU
 cases tg<;>first
  | exact FS hQ
  | (cases u<;>first
      | exact FS hQ
      | (refine FI (wpAny_load ho ?_)
         rw[hc,hd]
         show Gb M A (if(["enumerate", "zip", "dict_itemiterator", "dict_reverseitemiterator", "odict_iterator", "itertools.zip_longest", "itertools.pairwise"].contains n&&vs[0]?==some (Mp _))=true then _ else _) Q E s
         rw[if_neg (by intro h;rw[hn,Bool.false_and]at h;cases h)]
         exact FS hQ))
def Ff(K:W.Frag)(a:Addr):It :=
 ⟨fun i H=>∃xs x,EH K H a xs/\xs[i]?=some x,fun i H x H'=>H'=H/\∀xs,EH K H a xs->xs[i]?=some x,fun i H=>∃xs,EH K H a xs/\xs.length<=i⟩
def Fb(K:W.Frag)(a:Addr):It :=
 ⟨fun i H=>∃xs x,EG K H a xs/\xs[i]?=some x,fun i H x H'=>H'=H/\∀xs,EG K H a xs->xs[i]?=some x,fun i H=>∃xs,EG K H a xs/\xs.length<=i⟩
def Fd(lo:Int)(n:Nat):It:=⟨fun i _=>i<n,fun i H x H'=>H'=H/\x = .int (lo+i),fun i _=>n<=i⟩
theorem iU{w:G5}{K:W.Frag}(a it:Addr):Turn P w K tg (Ff K a) [it] it (fun i h=>h.IsListIter it a i) where
 mem:=by simp
 obj:=fun i h st b hb=>by
  have e:b=it:=by simpa using hb
  subst e
  obtain⟨o,e,c,d⟩:=st
  exact⟨o,e,fun v z=>by rw[d]at z;cases z⟩
 keep:=fun i h h' st k=>st.at fun o e=>k it (by simp) o e
 item:=by
  intro X hP hw hK hc i pins s σ H E I hf st hg
  subst hP hw hK
  obtain⟨xs,x,hq,hx⟩:=hg
  obtain⟨its,rv,p,hz⟩:=I.list hq
  obtain⟨u,hu,ru⟩:=rv.get hx
  obtain⟨f0,f1,f2,f3,f4,f5⟩:=hf it (by simp)
  refine wpAny_pyNext_list_item st p.isList (x:=u) (by simpa using hu) fun h' st' sb=>?_
  have I1:Inv X pins σ H {s with heap:=h' }:=I.turned (t':=s.toks) (fun b o hb e=>(sb.2 b hb).trans e) f0 f1 f3 f4 f5
  obtain⟨o,e,c,d⟩:=id st'
  exact⟨u,rfl,t6 (s:={s with heap:=h' }) e c d (by decide) ⟨x,H,I1,ru,⟨rfl,fun ys hy=>by rw[I.list_inj hy hq];exact hx⟩,st',fun b hb=>(hf b hb).1⟩⟩
 done:=by
  intro X hP hw hK hc i pins s σ H E I hf st hg
  subst hP hw hK
  obtain⟨xs,hq,hx⟩:=hg
  obtain⟨its,rv,p,hz⟩:=I.list hq
  obtain⟨f0,f1,f2,f3,f4,f5⟩:=hf it (by simp)
  have hl:=rv.length
  exact wpAny_pyNext_list_end (I.ok.hd hc) st p.isList (by simp;omega) fun h' eb=>⟨rfl,I.turned (t':=s.toks) (fun b o hb e=>eb b o hb e) f0 f1 f3 f4 f5⟩
 self:=fun _ _ _ _ _ st h=>wpAny_pyIter_listiter st h
theorem gC{w:G5}{K:W.Frag}(a it:Addr):Turn P w K tg (Fb K a) [it] it (fun i h=>h.IsTupleIter it a i) where
 mem:=by simp
 obj:=fun i h st b hb=>by
  have e:b=it:=by simpa using hb
  subst e
  obtain⟨o,e,c,d⟩:=st
  exact⟨o,e,fun v z=>by rw[d]at z;cases z⟩
 keep:=fun i h h' st k=>st.at fun o e=>k it (by simp) o e
 item:=by
  intro X hP hw hK hc i pins s σ H E I hf st hg
  subst hP hw hK
  obtain⟨xs,x,hq,hx⟩:=hg
  obtain⟨its,rv,p,hz⟩:=I.tuple hq
  obtain⟨u,hu,ru⟩:=rv.get hx
  obtain⟨f0,f1,f2,f3,f4,f5⟩:=hf it (by simp)
  refine wpAny_pyNext_tuple_item st (show s.heap.IsTuple a its.toArray from p) (x:=u) (by simpa using hu) fun h' st' sb=>?_
  have I1:Inv X pins σ H {s with heap:=h' }:=I.turned (t':=s.toks) (fun b o hb e=>(sb.2 b hb).trans e) f0 f1 f3 f4 f5
  obtain⟨o,e,c,d⟩:=id st'
  exact⟨u,rfl,t6 (s:={s with heap:=h' }) e c d (by decide) ⟨x,H,I1,ru,⟨rfl,fun ys hy=>by rw[I.tuple_inj hy hq];exact hx⟩,st',fun b hb=>(hf b hb).1⟩⟩
 done:=by
  intro X hP hw hK hc i pins s σ H E I hf st hg
  subst hP hw hK
  obtain⟨xs,hq,hx⟩:=hg
  obtain⟨its,rv,p,hz⟩:=I.tuple hq
  obtain⟨f0,f1,f2,f3,f4,f5⟩:=hf it (by simp)
  have hl:=rv.length
  exact wpAny_pyNext_tuple_end (I.ok.hd hc) st (show s.heap.IsTuple a its.toArray from p) (by simp;omega) fun h' eb=>⟨rfl,I.turned (t':=s.toks) (fun b o hb e=>eb b o hb e) f0 f1 f3 f4 f5⟩
 self:=fun _ _ _ _ _ st h=>wpAny_pyIter_tupleiter st h
theorem lD{w:G5}{K:W.Frag}(it:Addr)(lo:Int)(n:Nat):Turn P w K tg (Fd lo n) [it] it (fun i h=>IsRangeIter h it (lo+(i:Nat)*1) ((n:Int)-(i:Nat)) 1) where
 mem:=by simp
 obj:=fun i h st b hb=>by
  have e:b=it:=by simpa using hb
  subst e
  exact⟨_,st,fun v z=>by
   have z':Data.fields _=Data.cell v:=z
   cases z'⟩
 keep:=fun i h h' st k=>k it (by simp) _ st
 item:=by
  intro X hP hw hK hc i pins s σ H E I hf st hg
  subst hP hw hK
  obtain⟨f0,f1,f2,f3,f4,f5⟩:=hf it (by simp)
  have W:=Walks.range (prog:=X.prog) (w:=X.w) (I.ok.hd hc) it lo 1 n
  refine W.item i s _ _ hg st fun v h' tk hv st' kk=>?_
  obtain⟨t,rfl⟩:=hv
  have I1:Inv X pins σ H {s with heap:=h',toks:=tk}:=I.turned (fun b o hb e=>kk b o (by simpa using hb) e) f0 f1 f3 f4 f5
  refine⟨_,rfl,t6 (s:={s with heap:=h',toks:=tk}) (n := "range_iterator") st' rfl rfl (by decide) ⟨.int (lo+i),H,I1,⟨t,?_⟩,⟨rfl,rfl⟩,st',fun b hb=>(hf b hb).1⟩⟩
  rw[Int.mul_one]
 done:=by
  intro X hP hw hK hc i pins s σ H E I hf st hg
  subst hP hw hK
  obtain⟨f0,f1,f2,f3,f4,f5⟩:=hf it (by simp)
  exact wpAny_pyNext_range_end (I.ok.hd hc) st (by have:n<=i:=hg;omega) fun h' eb=>⟨rfl,I.turned (t':=s.toks) (fun b o hb e=>eb b o hb e) f0 f1 f3 f4 f5⟩
 self:=fun _ _ _ _ _ st h=>wpAny_pyIter_rangeiter st h
section
variable{X:Cx}{tg:Expr}
def zh(K:W.Frag)(tl:TE):TI:=fun σ H R=>tl σ H fun x H1=>∃a,x = .ref a/\(∃xs,EH K H1 a xs)/\R (Ff K a) H1
def BH(K:W.Frag)(tl:TE):TI:=fun σ H R=>tl σ H fun x H1=>∃a,x = .ref a/\(∃xs,EG K H1 a xs)/\R (Fb K a) H1
theorem sX{l:Expr}{tl:TE}(hl:PE X l tl):PI X tg l (zh X.K tl):=by
 intro pins s σ H R I h
 refine CF (hl pins s σ H _ I h) fun v s1 ⟨x,H1,I1,r1,q1⟩=>?_
 obtain⟨a,e,⟨xs,hq⟩,q⟩:=q1
 subst e
 cases r1
 obtain⟨its,rv,p,hz⟩:=I1.list hq
 refine Jw p.isList ?_
 refine⟨s1.heap.objs.size,[s1.heap.objs.size],_,_,H1,rfl,I1.kept (t':=s1.toks) fun b o e=>FM _ e,iU a _,⟨_,FY _ rfl,rfl,rfl⟩,fun b hb=>?_,q⟩
 have e:b=s1.heap.objs.size:=by simpa using hb
 subst e
 exact I1.fpOk (FQ _) (I1.hok.fresh (FQ _))
theorem wb{l:Expr}{tl:TE}(hl:PE X l tl):PI X tg l (BH X.K tl):=by
 intro pins s σ H R I h
 refine CF (hl pins s σ H _ I h) fun v s1 ⟨x,H1,I1,r1,q1⟩=>?_
 obtain⟨a,e,⟨xs,hq⟩,q⟩:=q1
 subst e
 cases r1
 obtain⟨its,rv,p,hz⟩:=I1.tuple hq
 refine J8 (show s1.heap.IsTuple a its.toArray from p) ?_
 refine⟨s1.heap.objs.size,[s1.heap.objs.size],_,_,H1,rfl,I1.kept (t':=s1.toks) fun b o e=>FM _ e,gC a _,⟨_,FY _ rfl,rfl,rfl⟩,fun b hb=>?_,q⟩
 have e:b=s1.heap.objs.size:=by simpa using hb
 subst e
 exact I1.fpOk (FQ _) (I1.hok.fresh (FQ _))
theorem kN{σ:St}{H:Hp}{R:It->Hp->Prop}{lo hi:Int}{t u v:Tok}{tk:Nat}(I:Inv X pins σ H s)(h1 : -(2^62)<=lo)(h2:lo<2^62)(h3 : -(2^62)<=hi)(h4:hi<2^62)
 (q:R (Fd lo (hi-lo).toNat) H):Gb (Gn X.prog X.w) X.A (Mn (.ref s.heap.objs.size)) (EY X pins σ tg R) E {s with heap:=s.heap.push {cls:=.type "range", data:=.fields #[.int lo t,.int hi u,.int 1 v]},toks:=tk}:=by
 refine wpAny_pyIter_range (Mq ..) (small_one h1 h2 h3 h4) ?_
 have I1:Inv X pins σ H {s with heap:=s.heap.push {cls:=.type "range", data:=.fields #[.int lo t,.int hi u,.int 1 v]},toks:=tk}:=I.kept fun b o e=>FM _ e
 refine⟨(s.heap.push {cls:=.type "range", data:=.fields #[.int lo t,.int hi u,.int 1 v]}).objs.size,[(s.heap.push {cls:=.type "range", data:=.fields #[.int lo t,.int hi u,.int 1 v]}).objs.size],_,_,H,rfl,
  I1.kept (t':=tk) fun b o e=>FM _ e,lD _ lo (hi-lo).toNat,?_,fun b hb=>?_,q⟩
 · have e1:lo+((0:Nat):Int)*1=lo:=by simp
   have e2:(((hi-lo).toNat:Nat):Int)-((0:Nat):Int)=IB lo hi 1:=by rw[LV];split<;>omega
   show IsRangeIter _ _ (lo+((0:Nat):Int)*1) ((((hi-lo).toNat:Nat):Int)-((0:Nat):Int)) 1
   rw[e1,e2]
   exact FY _ rfl
 · have e:b=(s.heap.push {cls:=.type "range", data:=.fields #[.int lo t,.int hi u,.int 1 v]}).objs.size:=by simpa using hb
   subst e
   exact I1.fpOk (FQ _) (I1.hok.fresh (FQ _))
def zg(ta:TA):TI:=fun σ H R=>ta σ H fun vs H1=>∃j:Int,vs=[.int j] /\ -(2^62)<=j/\j<2^62/\R (Fd 0 j.toNat) H1
def zf(ta:TA):TI:=fun σ H R=>ta σ H fun vs H1=>∃i j:Int,vs=[.int i,.int j]/\(-(2^62)<=i/\i<2^62 /\ -(2^62)<=j/\j<2^62)/\R (Fd i (j-i).toNat) H1
theorem nI{a:Expr}{ta:TA}{p:Pos}(hg:Gl X "range")(hm:X.mg "range" = none)(ha:PA X [a] ta)(hs:FU [a] X.env=[(false,eval a X.env)]:=by rfl):PI X tg (.Call (.Name "range" p) [a] [] pos) (zg ta):=by
 intro pins s σ H R I h
 refine Call_ (dm I hg hm L9 (GN (CF (ha pos pins s σ H _ I h) fun us s1 ⟨vs,H1,I1,r1,q1⟩=>?_) hs rfl))
 obtain⟨j,e,q1,q2,q⟩:=q1
 subst e
 cases r1 with
 | cons r rr =>
   cases rr
   obtain⟨t,rfl⟩:=r
   exact Mf (kN I1 (by omega) (by omega) q1 q2 (by simpa using q))
theorem nH{a b:Expr}{ta:TA}{p:Pos}(hg:Gl X "range")(hm:X.mg "range" = none)(ha:PA X [a,b] ta)(hs:FU [a,b] X.env=[(false,eval a X.env),(false,eval b X.env)]:=by rfl)(hs2:FU [b] X.env=[(false,eval b X.env)]:=by rfl) :
 PI X tg (.Call (.Name "range" p) [a,b] [] pos) (zf ta):=by
 intro pins s σ H R I h
 refine Call_ (dm I hg hm L9 (GN (CF (ha pos pins s σ H _ I h) fun us s1 ⟨vs,H1,I1,r1,q1⟩=>?_) (by rw[hs,hs2]) (by rw[hs2];rfl)))
 obtain⟨i,j,e,⟨q1,q2,q3,q4⟩,q⟩:=q1
 subst e
 cases r1 with
 | cons r rr =>
   cases rr with
   | cons r' rr =>
     cases rr
     obtain⟨t,rfl⟩:=r
     obtain⟨t',rfl⟩:=r'
     exact call_range_2 (kN I1 q1 q2 q3 q4 q)
def Bo(wi:TI)(g:TG)(tb:TS):TS:=fun D σ H=>wi σ H fun J H1=>∃W:Nat->Nat->St->Hp->Prop,(∃m,W 0 m σ H1)/\∀i m σ H,W i m σ H ->
 (J.stop i H/\D.nx σ H)\/(J.go i H/\∃N:St->Hp->Prop,(∀σ' H',N σ' H'->∃m',m'<m/\W (i+1) m' σ' H')/\∀x H',J.yld i H x H'->g x σ H' fun σ2 H2=>tb {D with nx:=N,ct:=N,bk:=D.nx} σ2 H2)
def eX(fp:List Addr)(h:Heap):List (Addr×Obj):=fp.filterMap fun b=>(h.get? b).map fun o=>(b,o)
theorem bw{b:Addr}{o:Obj}(hb:b∈fp)(e:h.get? b=some o):(b,o)∈eX fp h:=List.mem_filterMap.mpr ⟨b,hb,by rw[e];rfl⟩
theorem nP{p:Addr×Obj}(hp:p∈eX fp h):p.1∈fp/\h.get? p.1=some p.2:=by
 obtain⟨b,hb,e⟩:=List.mem_filterMap.mp hp
 cases q:h.get? b with
 | none=>rw[q]at e;cases e
 | some o =>
   rw[q]at e
   have e':(b,o)=p:=GS e
   subst e'
   exact⟨hb,q⟩
theorem Inv.pinned{σ:St}{H:Hp}(I:Inv X pins σ H s)(hf:∀b∈fp,iF X pins H b)(ho:∀b∈fp,∃o,s.heap.get? b=some o/\∀v,o.data ≠ .cell v):Inv X (pins++eX fp s.heap) σ H s :=
 I.pins_of fun p hp=>(Gv.mp hp).elim (fun z=>I.pin p (FZ _ z)) fun z=>by
  obtain⟨hb,e⟩:=nP z
  obtain⟨f0,f1,f2,_⟩:=hf p.1 hb
  obtain⟨o,e',d⟩:=ho p.1 hb
  rw[e]at e';cases e'
  exact⟨e,f0,f1,f2,d⟩
theorem Inv.unpinned{pl:List (Addr×Obj)}{σ:St}{H:Hp}(I:Inv X (pins++pl) σ H s):Inv X pins σ H s:=I.pins_of fun p hp=>I.pin p (FZ _ (HH _ hp))
theorem rb{body:List Stmt}{wi:TI}{g:TG}{tb:TS}(hp:LU (Gn X.prog X.w) X.A X.env X.xe)(hc:X.calm=true)(hi:PI X tg iter wi)(hg:PG X tg g)(hb:ET X body tb)
 (hs:∀x,Gj iter X.env x=pure x:=by intro _;rfl):PS X (.For tg iter body [] pos) (Bo wi g tb):=by
 intro pins s σ H D I h
 refine wpAny_For (CF (hi pins s σ H _ I h) fun v s1 h1=>CF h1 fun itv s2 h2=>?_) hs
 obtain⟨it,fp,tn,J,H2,e,I2,T,st2,f2,W,⟨m0,w0⟩,turn⟩:=h2
 subst e
 have stat:∀{H':Hp},(∀b∈fp,H' b=none)->∀b∈fp,iF X pins H' b:=fun hn b hb=>⟨hn b hb,(f2 b hb).2⟩
 refine codeAny_forLoop_any (fun n s'=>∃i σ' H',Inv X pins σ' H' s'/\tn i s'.heap/\(∀b∈fp,H' b=none)/\W i n σ' H') ?_ m0 ⟨0,σ,H2,I2,st2,fun b hb=>(f2 b hb).1,w0⟩
 rintro n s3 ⟨i,σ3,H3,I3,st3,fr3,w3⟩
 rcases turn i n σ3 H3 w3 with⟨stop,qn⟩|⟨go,N,hN,step⟩
 · refine Iu hp (CF (T.done X rfl rfl rfl hc i pins s3 σ3 H3 X.xe I3 (stat fr3) st3 stop) fun r s4 ⟨hr,I4⟩=>?_)
   subst hr
   exact JK ⟨σ3,H3,I4,qn⟩
 · refine Iu hp (CF (T.item X rfl rfl rfl hc i pins s3 σ3 H3 X.xe I3 (stat fr3) st3 go) fun r s4 ⟨u,hr,h4⟩=>?_)
   subst hr
   refine Iu hp (CF h4 fun _ s5 ⟨x,H5,I5,r5,y5,st5,fr5⟩=>?_)
   have I5':=I5.pinned (stat fr5) (T.obj _ _ st5)
   refine Iu hp (CF (hg _ s5 σ3 H5 x u _ I5' r5 (step x H5 y5)) fun _ s6 ⟨σ6,H6,I6,q6⟩=>?_)
   refine Iu hp (CF (hb _ s6 σ6 H6 _ I6 q6) fun f s7 q7=>?_)
   have again:∀{σ7:St}{H7:Hp},Inv X (pins++eX fp s5.heap) σ7 H7 s7->N σ7 H7->∃m,m<n/\∃i σ' H',Inv X pins σ' H' s7/\tn i s7.heap/\(∀b∈fp,H' b=none)/\W i m σ' H':=fun{σ7 H7} I7 n7=>by
    obtain⟨m',hm,w7⟩:=hN σ7 H7 n7
    refine⟨m',hm,i+1,σ7,H7,I7.unpinned,T.keep _ _ _ st5 fun b hb o e=>(I7.pin (b,o) (FZ _ (FZ _ (bw hb e)))).1,fun b hb=>?_,w7⟩
    obtain⟨o,e,d⟩:=T.obj _ _ st5 b hb
    exact(I7.pin (b,o) (FZ _ (FZ _ (bw hb e)))).2.1
   cases f with
   | next=>obtain⟨σ7,H7,I7,n7⟩:=q7;exact again I7 n7
   | cont=>obtain⟨σ7,H7,I7,n7⟩:=q7;exact again I7 n7
   | brk=>obtain⟨σ7,H7,I7,q7⟩:=q7;exact⟨σ7,H7,I7.unpinned,q7⟩
   | ret v=>obtain⟨x7,σ7,H7,I7,r7,q7⟩:=q7;exact⟨x7,σ7,H7,I7.unpinned,r7,q7⟩
end
abbrev R2:=V->V->Hp->VK->Prop
def E3(X:Cx)(f:Value->Value->Sem Value)(r:R2):Prop :=
 ∀ (pins:List (Addr×Obj))(s:FO)(σ:St)(H:Hp)(x y:V)(v u:Value)(Q:VK),Inv X pins σ H s->RelV x v->RelV y u->r x y H Q ->
   Gb (Gn X.prog X.w) X.A (f v u) (EP X pins σ Q) X.xe s
def Ez(X:Cx)(f:Value->Sem Value)(r:V->Hp->VK->Prop):Prop :=
 ∀ (pins:List (Addr×Obj))(s:FO)(σ:St)(H:Hp)(x:V)(v:Value)(Q:VK),Inv X pins σ H s->RelV x v->r x H Q ->
   Gb (Gn X.prog X.w) X.A (f v) (EP X pins σ Q) X.xe s
def dD(X:Cx)(f:Value)(r:List V->Hp->VK->Prop):Prop :=
 ∀ (pins:List (Addr×Obj))(s:FO)(σ:St)(H:Hp)(xs:List V)(us:List Value)(Q:VK),Inv X pins σ H s->cj xs us->r xs H Q ->
   Gb (Gn X.prog X.w) X.A (call f us) (EP X pins σ Q) X.xe s
def CL(r:R2)(ta tb:TE):TE:=fun σ H Q=>ta σ H fun x H1=>tb σ H1 fun y H2=>r x y H2 Q
def CH(r:V->Hp->VK->Prop)(ta:TE):TE:=fun σ H Q=>ta σ H fun x H1=>r x H1 Q
def rI(C:Int->Int->Prop)(g:Int->Int->V):R2:=fun x y H Q=>∃i j,x = .int i/\y = .int j/\C i j/\Q (g i j) H
def Dd(g:Int->Int->V):R2:=fun x y H Q=>∃i j,x = .int i/\y = .int j/\Q (g i j) H
def rU(g:Int->V):V->Hp->VK->Prop:=fun x H Q=>∃i,x = .int i/\Q (g i) H
section
variable{X:Cx}{a b c:Expr}{ta tb tc:TE}{pos:Pos}
theorem zJ(ha:PE X a ta)(hb:PE X b tb){σ:St}{H:Hp}{R:V->V->Hp->Prop}(I:Inv X pins σ H s)
 (h:ta σ H fun x H1=>tb σ H1 fun y H2=>R x y H2)
 (hf:∀v u s2 x y H2,Inv X pins σ H2 s2->RelV x v->RelV y u->R x y H2->Gb (Gn X.prog X.w) X.A (f v u) Q X.xe s2) :
 Gb (Gn X.prog X.w) X.A (eval a X.env) (fun v s₁=>Gb (Gn X.prog X.w) X.A (eval b X.env) (fun u s₂=>Gb (Gn X.prog X.w) X.A (f v u) Q X.xe s₂) X.xe s₁) X.xe s:=by
 refine CF (ha pins s σ H _ I h) fun v s1 ⟨x,H1,I1,r1,q1⟩=>?_
 refine CF (hb pins s1 σ H1 _ I1 q1) fun u s2 ⟨y,H2,I2,r2,q2⟩=>?_
 exact hf v u s2 x y H2 I2 r1 r2 q2
theorem wl{op:LS}{r:R2}(ho:E3 X (IP op) r)(ha:PE X a ta)(hb:PE X b tb):PE X (.BinOp a op b pos) (CL r ta tb):=by
 intro pins s σ H Q I h
 exact wpAny_BinOp (zJ ha hb I h fun v u s2 x y H2 I2 rx ry q=>ho pins s2 σ H2 x y v u Q I2 rx ry q)
theorem yR{op:UnaryOp}{r:V->Hp->VK->Prop}(ho:Ez X (unaryOp op) r)(ha:PE X a ta):PE X (.UnaryOp op a pos) (CH r ta):=by
 intro pins s σ H Q I h
 exact UnaryOp_ (CF (ha pins s σ H _ I h) fun v s1 ⟨x,H1,I1,r1,q1⟩=>ho pins s1 σ H1 x v Q I1 r1 q1)
theorem Dp{C:Int->Int->Prop}{g:Int->Int->Int}
 (rule:∀(i j:Int)(t u:Tok)(s:FO)(Q:Value->FO->Prop)(E:Value->FO->Prop),C i j->Q (.int (g i j) s.toks) {s with toks:=s.toks+1}->Gb (Gn X.prog X.w) X.A (f (.int i t) (.int j u)) Q E s) :
 E3 X f (rI C fun i j=>.int (g i j)):=by
 intro pins s σ H x y v u Q I rx ry h
 obtain⟨i,j,rfl,rfl,hc,q⟩:=h
 obtain⟨t,rfl⟩:=rx
 obtain⟨t',rfl⟩:=ry
 exact rule i j t t' s _ _ hc ⟨.int (g i j),H,I.tok _,⟨_,rfl⟩,q⟩
theorem AW{g:Int->Int->Int}
 (rule:∀(i j:Int)(t u:Tok)(s:FO)(Q:Value->FO->Prop)(E:Value->FO->Prop),Q (.int (g i j) s.toks) {s with toks:=s.toks+1}->Gb (Gn X.prog X.w) X.A (f (.int i t) (.int j u)) Q E s) :
 E3 X f (Dd fun i j=>.int (g i j)):=by
 intro pins s σ H x y v u Q I rx ry h
 obtain⟨i,j,rfl,rfl,q⟩:=h
 obtain⟨t,rfl⟩:=rx
 obtain⟨t',rfl⟩:=ry
 exact rule i j t t' s _ _ ⟨.int (g i j),H,I.tok _,⟨_,rfl⟩,q⟩
theorem yX{g:Int->Int->Bool}
 (rule:∀(i j:Int)(t u:Tok)(s:FO)(Q:Value->FO->Prop)(E:Value->FO->Prop),Q (.bool (g i j)) s->Gb (Gn X.prog X.w) X.A (f (.int i t) (.int j u)) Q E s) :
 E3 X f (Dd fun i j=>.bl (g i j)):=by
 intro pins s σ H x y v u Q I rx ry h
 obtain⟨i,j,rfl,rfl,q⟩:=h
 obtain⟨t,rfl⟩:=rx
 obtain⟨t',rfl⟩:=ry
 exact rule i j t t' s _ _ ⟨.bl (g i j),H,I,rfl,q⟩
def xZ(i j:Int):Prop:=0<=j/\j<=1000000/\i.natAbs<2^64
def BR(i j:Int):Prop:=(-(2^64)<i/\i<2^64)\/(-(2^64)<j/\j<2^64)
theorem BR.ok{i j:Int}(h:BR i j):IntMulOk i j:=by
 rcases h with⟨h1,h2⟩|⟨h1,h2⟩
 · exact .of_left (intBits_le_64 h1 h2)
 · exact .of_right (intBits_le_64 h1 h2)
theorem rh:E3 X (IP .Add) (Dd fun i j=>.int (i+j)):=AW fun _ _ _ _ _ _ _ q=>add_int q
theorem wB:E3 X (IP .Sub) (Dd fun i j=>.int (i-j)):=AW fun _ _ _ _ _ _ _ q=>sub_int q
theorem tE:E3 X (IP .Mod) (rI (fun _ j=>j≠0) fun i j=>.int (i.fmod j)):=Dp fun _ _ _ _ _ _ _ hc q=>mod_int' hc q
theorem wC:E3 X (IP .Pow) (rI xZ fun i j=>.int (i^j.toNat)):=Dp fun _ _ _ _ _ _ _ hc q=>pow_int_small hc.1 hc.2.1 hc.2.2 q
theorem Cv{f:Value->Sem Value}{g:Int->Int}
 (rule:∀(i:Int)(t:Tok)(s:FO)(Q:Value->FO->Prop)(E:Value->FO->Prop),Q (.int (g i) s.toks) {s with toks:=s.toks+1}->Gb (Gn X.prog X.w) X.A (f (.int i t)) Q E s) :
 Ez X f (rU fun i=>.int (g i)):=by
 intro pins s σ H x v Q I rx h
 obtain⟨i,rfl,q⟩:=h
 obtain⟨t,rfl⟩:=rx
 exact rule i t s _ _ ⟨.int (g i),H,I.tok _,⟨_,rfl⟩,q⟩
theorem vd:Ez X (unaryOp .USub) (rU fun i=>.int (-i)):=Cv fun _ _ _ _ _ q=>neg_int q
end
def AN:V->V->Bool
 | .non,.non=>true | .non,.int _=>true | .int _,.non=>true | .non,.bl _=>true | .bl _,.non=>true | .non,.str _=>true | .str _,.non=>true
 | .int _,.int _=>true | .bl _,.bl _=>true | .str _,.str _=>true | .byt _,.byt _=>true
 | .int _,.str _=>true | .str _,.int _=>true | .bl _,.str _=>true | .str _,.bl _=>true
 | _,_=>false
def De:R2:=fun x y H Q=>AN x y=true/\Q (.bl (decide (x=y))) H
def Db:R2:=fun x y H Q=>AN x y=true/\Q (.bl (!decide (x=y))) H
theorem oH{i j:Int}:decide (V.int i=V.int j)=(i==j):=by
 rw[JL]
 simp
theorem rB{i j:Bool}:decide (V.bl i=V.bl j)=(i==j):=by
 rw[JL]
 simp
theorem oG{i j:Str}:decide (V.str i=V.str j)=(i==j):=by
 rw[JL]
 simp
theorem oI{i j:Array UInt8}:decide (V.byt i=V.byt j)=(i.toList==j.toList):=by
 rw[JL]
 cases i
 cases j
 simp
section
variable{X:Cx}{a b c:Expr}{ta tb tc:TE}{pos:Pos}
theorem aS{σ:St}{H:Hp}{Q:VK}{k k':Bool}(I:Inv X pins σ H s)(q:Q (.bl k) H)(e:k=k'):EP X pins σ Q (.bool k') s:=by
 subst e
 exact⟨.bl k,H,I,rfl,q⟩
theorem gu:E3 X (IF .Eq) De:=by
 intro pins s σ H x y v u Q I rx ry h
 obtain⟨hs,q⟩:=h
 cases x with
 | non =>
   cases rx
   cases y with
   | non=>cases ry;exact PySem.EqNone.eq_none_none (aS I q (by simp))
   | bl j=>cases ry;exact PySem.EqNone.eq_none_bool (aS I q (by simp))
   | int j=>obtain⟨t',rfl⟩:=ry;exact PySem.EqNone.eq_none_int (aS I q (by simp))
   | str j=>obtain⟨t',rfl⟩:=ry;exact PySem.EqNone.eq_none_str (aS I q (by simp))
   | _=>exact absurd (show false=true from hs) Gs
 | bl i =>
   cases rx
   cases y with
   | non=>cases ry;exact PySem.EqNone.eq_bool_none (aS I q (by simp))
   | bl j=>cases ry;exact eq_bool (aS I q rB)
   | str j=>obtain⟨t',rfl⟩:=ry;exact PySem.EqMixed.eq_bool_str (aS I q (by simp))
   | _=>exact absurd (show false=true from hs) Gs
 | int i =>
   obtain⟨t,rfl⟩:=rx
   cases y with
   | non=>cases ry;exact PySem.EqNone.eq_int_none (aS I q (by simp))
   | int j=>obtain⟨t',rfl⟩:=ry;exact eq_int (aS I q oH)
   | str j=>obtain⟨t',rfl⟩:=ry;exact PySem.EqMixed.eq_int_str (aS I q (by simp))
   | _=>exact absurd (show false=true from hs) Gs
 | str i =>
   obtain⟨t,rfl⟩:=rx
   cases y with
   | non=>cases ry;exact PySem.EqNone.eq_str_none (aS I q (by simp))
   | bl j=>cases ry;exact PySem.EqMixed.eq_str_bool (aS I q (by simp))
   | int j=>obtain⟨t',rfl⟩:=ry;exact PySem.EqMixed.eq_str_int (aS I q (by simp))
   | str j=>obtain⟨t',rfl⟩:=ry;exact eq_str (aS I q oG)
   | _=>exact absurd (show false=true from hs) Gs
 | byt i =>
   obtain⟨t,rfl⟩:=rx
   cases y with
   | byt j=>obtain⟨t',rfl⟩:=ry;exact W.eq_bytes (aS I q oI)
   | _=>exact absurd (show false=true from hs) Gs
 | _=>cases y<;>exact absurd (show false=true from hs) Gs
theorem tw:E3 X (IF .NotEq) Db:=by
 intro pins s σ H x y v u Q I rx ry h
 obtain⟨hs,q⟩:=h
 cases x with
 | non =>
   cases rx
   cases y with
   | non=>cases ry;exact PySem.EqNone.ne_none_none (aS I q (by simp))
   | bl j=>cases ry;exact PySem.EqNone.ne_none_bool (aS I q (by simp))
   | int j=>obtain⟨t',rfl⟩:=ry;exact PySem.EqNone.ne_none_int (aS I q (by simp))
   | str j=>obtain⟨t',rfl⟩:=ry;exact PySem.EqNone.ne_none_str (aS I q (by simp))
   | _=>exact absurd (show false=true from hs) Gs
 | bl i =>
   cases rx
   cases y with
   | non=>cases ry;exact PySem.EqNone.ne_bool_none (aS I q (by simp))
   | bl j=>cases ry;exact ne_bool (aS I q (congrArg not rB))
   | str j=>obtain⟨t',rfl⟩:=ry;exact PySem.EqMixed.ne_bool_str (aS I q (by simp))
   | _=>exact absurd (show false=true from hs) Gs
 | int i =>
   obtain⟨t,rfl⟩:=rx
   cases y with
   | non=>cases ry;exact PySem.EqNone.ne_int_none (aS I q (by simp))
   | int j=>obtain⟨t',rfl⟩:=ry;exact ne_int (aS I q (congrArg not oH))
   | str j=>obtain⟨t',rfl⟩:=ry;exact PySem.EqMixed.ne_int_str (aS I q (by simp))
   | _=>exact absurd (show false=true from hs) Gs
 | str i =>
   obtain⟨t,rfl⟩:=rx
   cases y with
   | non=>cases ry;exact PySem.EqNone.ne_str_none (aS I q (by simp))
   | bl j=>cases ry;exact PySem.EqMixed.ne_str_bool (aS I q (by simp))
   | int j=>obtain⟨t',rfl⟩:=ry;exact PySem.EqMixed.ne_str_int (aS I q (by simp))
   | str j=>obtain⟨t',rfl⟩:=ry;exact ne_str (aS I q (congrArg not oG))
   | _=>exact absurd (show false=true from hs) Gs
 | byt i =>
   obtain⟨t,rfl⟩:=rx
   cases y with
   | byt j=>obtain⟨t',rfl⟩:=ry;exact W.ne_bytes (aS I q (congrArg not oI))
   | _=>exact absurd (show false=true from hs) Gs
 | _=>cases y<;>exact absurd (show false=true from hs) Gs
theorem pW:E3 X (IF .Lt) (Dd fun i j=>.bl (decide (i<j))):=yX fun _ _ _ _ _ _ _ q=>lt_int q
theorem tF:E3 X (IF .Gt) (Dd fun i j=>.bl (decide (j<i))):=yX fun _ _ _ _ _ _ _ q=>gt_int q
theorem yW:E3 X (IF .GtE) (Dd fun i j=>.bl (decide (j<=i))):=yX fun _ _ _ _ _ _ _ q=>ge_int q
theorem E3.or{r r':R2}(h:E3 X f r)(h':E3 X f r'):E3 X f (fun x y H Q=>r x y H Q\/r' x y H Q):=by
 intro pins s σ H x y v u Q I rx ry q
 rcases q with q|q
 · exact h pins s σ H x y v u Q I rx ry q
 · exact h' pins s σ H x y v u Q I rx ry q
theorem bh(b:Expr)(h:op ≠ .In:=by decide)(h2:op ≠ .NotIn:=by decide):IQ op b=false:=by
 have e1:(op==CmpOp.In)=false:=by cases op<;>first|rfl|exact absurd rfl h
 have e2:(op==CmpOp.NotIn)=false:=by cases op<;>first|rfl|exact absurd rfl h2
 cases b<;>simp[IQ,e1,e2]
theorem tq{r:R2}(ho:E3 X (IF op) r)(ha:PE X a ta)(hb:PE X b tb)(hm:IQ op b=false):PE X (.Compare a [op] [b] pos) (CL r ta tb):=by
 intro pins s σ H Q I h
 exact wpAny_Compare1 (zJ ha hb I h fun v u s2 x y H2 I2 rx ry q=>ho pins s2 σ H2 x y v u Q I2 rx ry q) hm
def yw(t:TE):TT:=fun σ H Q=>t σ H fun x H'=>∃k,x = .bl k/\Q k H'
theorem nB{r:R2}(ho:E3 X (IF op) r)(ha:PE X a ta)(hb:PE X b tb)(hm:IQ op b=false):PT X (.Compare a [op] [b] pos) (yw (CL r ta tb)):=by
 intro pins s σ H Q I h
 refine wpAny_isTrue_Compare1 (CF (ha pins s σ H _ I h) fun v s1 ⟨x,H1,I1,r1,q1⟩=>CF (hb pins s1 σ H1 _ I1 q1) fun u s2 ⟨y,H2,I2,r2,q2⟩ =>
  CF (ho pins s2 σ H2 x y v u _ I2 r1 r2 q2) fun c s3 ⟨z,H3,I3,r3,k,e,q3⟩=>?_) hm
 subst e
 cases r3
 exact Is ⟨H3,I3,q3⟩
theorem kZ:(sizeLine:Nat)<2^63:=by rw[sizeLine_eq];decide
theorem vals1{x:V}(r:cj [x] us):∃u,us=[u]/\RelV x u:=by
 cases r with
 | cons r1 r2=>cases r2;exact⟨_,rfl,r1⟩
theorem vals2{x y:V}(r:cj [x,y] us):∃u w',us=[u,w']/\RelV x u/\RelV y w':=by
 cases r with
 | cons r1 r2 =>
   cases r2 with
   | cons r3 r4=>cases r4;exact⟨_,_,rfl,r1,r3⟩
theorem qL:dD X (.builtin "abs") (fun xs H Q=>∃i,xs=[.int i]/\Q (.int (if i<0 then -i else i)) H):=by
 intro pins s σ H xs us Q I r h
 obtain⟨i,rfl,q⟩:=h
 obtain⟨u,rfl,t,rfl⟩:=vals1 r
 exact call_abs_int fun u tk=>⟨.int (if i<0 then -i else i),H,I.tok _,⟨_,rfl⟩,q⟩
theorem oT(hc:X.calm=true):dD X (.builtin "max") (fun xs H Q=>∃i j,xs=[.int i,.int j]/\Q (.int (if j>i then j else i)) H):=by
 intro pins s σ H xs us Q I r h
 obtain⟨i,j,rfl,q⟩:=h
 obtain⟨u,w',rfl,⟨t,rfl⟩,⟨t',rfl⟩⟩:=vals2 r
 refine max_two_ints (I.ok.hd hc) fun h' tk k=>⟨_,H,I.kept k,?_,q⟩
 by_cases hj:j>i
 · rw[if_pos hj,if_pos hj];exact⟨_,rfl⟩
 · rw[if_neg hj,if_neg hj];exact⟨_,rfl⟩
theorem oU:dD X (.type "int") (fun xs H Q=>(∃i,xs=[.int i]/\Q (.int i) H)\/∃k,xs=[.bl k]/\Q (.int (if k then 1 else 0)) H):=by
 intro pins s σ H xs us Q I r h
 rcases h with⟨i,rfl,q⟩|⟨k,rfl,q⟩
 · obtain⟨u,rfl,t,rfl⟩:=vals1 r
   exact call_int_int ⟨.int i,H,I,⟨_,rfl⟩,q⟩
 · obtain⟨u,rfl,r1⟩:=vals1 r
   cases r1
   exact call_int_bool ⟨.int (if k then 1 else 0),H,I.tok _,⟨_,rfl⟩,q⟩
end
structure ObjM (h:Heap) (x dx C:Addr) (mA:Str->Option Value):Prop where
 obj:h.get? x=some (W.instObj C dx)
 ns:h.Ns1 dx mA
 ne:dx≠x
theorem nW{dx:Addr}{mA:Str->Option Value}(n:h.Ns1 dx mA):∃od,h.get? dx=some od/\∀name,W.lookIn name od=some (mA name):=by
 obtain⟨o,es,ep,ho,hd,hk,_,hm⟩:=n
 refine⟨o,ho,fun name=>?_⟩
 have e:=hm name
 unfold nsFind findBy at e
 rw[<- Array.find?_toList]at e
 unfold W.lookIn
 rw[hd]
 dsimp only
 split
 · rename_i y q
   rw[q]at e
   exact congrArg some e
 · rename_i q
   rw[q]at e
   have a:es.toList.any (·.refKey)=false:=by
    rw[List.any_eq_false]
    intro y hy
    obtain⟨z,t,hkey⟩:=hk y (Array.mem_toList_iff.mp hy)
    simp[DictEntry.refKey,hkey]
   have a':¬es.toList.any (·.refKey)=true:=by rw[a];exact Gs
   rw[if_neg a']
   exact congrArg some e
theorem ObjM.look{x dx C:Addr}{mA:Str->Option Value}(I:ObjM h x dx C mA):∃od,W.InstAt h x (W.instObj C dx) C (some od)/\∀name,W.lookIn name od=some (mA name) :=
 let ⟨od,ho,hl⟩:=nW I.ns
 ⟨od,⟨I.obj,rfl,rfl,ho⟩,hl⟩
section
variable{prog:Gi}{w:G5}{A:Hf}{E:Value->FO->Prop}{s:FO}{K:W.Frag}{x dx C f:Addr}{mA:Str->Option Value}{name:Str}{v:Value}
end
def putF(f:Str)(v:V):List (Str×V)->List (Str×V)
 | []=>[(f,v)]
 | (g,x)::r=>if g=f then(g,v)::r else(g,x)::putF f v r
theorem uB.some_of{v:V}{o:Option Value}(r:uB (some v) o):∃u,o=some u/\RelV v u:=by
 cases o with
 | none=>exact(show False from r).elim
 | some u=>exact⟨u,rfl,r⟩
section
variable{P:Gi}{w:G5}{H H':Hp}{h h':Heap}{a C dx:Addr}{fs fs':List (Str×V)}
end
section
variable{X:Cx}{pins:List (Addr×Obj)}{σ:St}{H:Hp}{s:FO}{a C dx:Addr}{fs:List (Str×V)}{f:Str}{v:V}{A:Hf}{E:Value->FO->Prop}
end
section
variable{X:Cx}{o e value:Expr}{f:Str}{pos pos' tpos:Pos}{ta tv:TE}
end
section
variable{X:Cx}{pins:List (Addr×Obj)}{σ:St}{H:Hp}{s:FO}{A:Hf}{E:Value->FO->Prop}{Q:Value->FO->Prop}{c:Value}{b:Bool}
end
structure Room (k:Nat) (A:Hf):Prop where
 hd:A.handled=none
 dp:A.depth+3*k+5<recursionLimit
 un:A.units+16*k+200<LW
 gd:A.guards=some []
theorem Room.mono{k:Nat}(r:Room k A)(h:j<=k):Room j A:=⟨r.hd,by have:=r.dp;omega,by have:=r.un;omega,r.gd⟩
theorem Room.deeper{k:Nat}(r:Room (k+1) A)(env:Env):Room k (A.deeper env) :=
 ⟨r.hd,by have:=r.dp;show A.depth+1+3*k+5<_;omega,by have:=r.un;show A.units+3+16*k+200<_;omega,r.gd⟩
theorem Room.depth{k:Nat}(r:Room k A):A.depth<recursionLimit:=by have:=r.dp;omega
theorem Room.units{k:Nat}(r:Room k A):A.units+64<LW:=by have:=r.un;omega
def AL:TA:=fun _ H Q=>Q [] H
def vz(ta:TE)(tr:TA):TA:=fun σ H Q=>ta σ H fun x H1=>tr σ H1 fun xs H2=>Q (x::xs) H2
section
variable{X:Cx}{e:Expr}{es:List Expr}{te:TE}{t:TA}{pos:Pos}
theorem ww:PA X [] AL:=fun _ _ _ _ H Q I h=>Kj ⟨[],H,I,.nil,h⟩
theorem nL(ha:PE X e te)(hr:PA X es t)(hs:FU (e::es) X.env=(false,eval e X.env)::FU es X.env:=by rfl):PA X (e::es) (vz te t):=by
 intro pos pins s σ H Q I h
 rw[hs]
 show Gb _ _ (spliced ((false,eval e X.env)::Hs pos (FU es X.env))) _ _ s
 refine J9 (CF (ha pins s σ H _ I h) fun u s1 ⟨x,H1,I1,r1,q1⟩=>?_)
 exact CF (hr pos pins s1 σ H1 _ I1 q1) fun us s2 ⟨xs,H2,I2,r2,q2⟩=>⟨x::xs,H2,I2,.cons r1 r2,q2⟩
def Be(t:TA):TE:=fun σ H Q=>t σ H fun xs H1=>xs.length<=sizeLine/\∀p,H1 p=none->Q (.ref p) (Cs H1 p (.tup xs))
def Bl(t:TA):TE:=fun σ H Q=>t σ H fun xs H1=>xs.length<=sizeLine/\∀p,H1 p=none->Q (.ref p) (Cs H1 p (.lst xs))
theorem wg{x1}(h:PA X es t):PE X (.Tuple es x1 pos) (Be t):=by
 intro pins s σ H Q I hq
 refine wpAny_Tuple_spliced (CF (h pos pins s σ H _ I hq) fun us s1 ⟨xs,H1,I1,r,z,q⟩=>⟨by rw[<- r.length];exact z,?_⟩)
 have hf:H1 s1.heap.objs.size=none:=I1.hok.fresh (FQ _)
 refine⟨.ref s1.heap.objs.size,Cs H1 s1.heap.objs.size (.tup xs),I1.laid (t':=s1.toks) (fun b u e=>FM _ e) (FQ _) ?_,rfl,q _ hf⟩
 exact⟨z,us,r,o7.new _ _⟩
theorem wp(h:PA X es t):PE X (.List es pos) (Bl t):=by
 intro pins s σ H Q I hq
 refine wpAny_List_spliced (CF (h pos pins s σ H _ I hq) fun us s1 ⟨xs,H1,I1,r,z,q⟩=>⟨by rw[<- r.length];exact z,?_⟩)
 have hf:H1 s1.heap.objs.size=none:=I1.hok.fresh (FQ _)
 refine⟨.ref s1.heap.objs.size,Cs H1 s1.heap.objs.size (.lst xs),I1.laid (t':=s1.toks) (fun b u e=>FM _ e) (FQ _) ?_,rfl,q _ hf⟩
 exact⟨z,us,0,r,FY _ rfl⟩
end
abbrev Sp:=List V->Hp->VK->XK->Prop
abbrev Fp:=List Env->Hp->FO->XK->Value->FO->Prop
structure Env0 (P:Gi) (w:G5) (K:W.Frag) (mg:Str->Option Value) (base:Heap) (A:Hf) (outer:List Env) (s:FO) (H:Hp):Prop where
 frames:A.frames=some outer
 mod:Mod K mg base
 bs:∀b o,base.get? b=some o->s.heap.get? b=some o/\H b=none
 bsz:base.objs.size<=s.heap.objs.size
 funs:s.heap.FunFrames base outer
 frf:∀b∈frs outer,H b=none
 hok:Fj P w H s.heap
 bare:LA s.gens
def CE(outer:List Env)(P:Gi)(w:G5)(H:Hp)(s:FO)(Q:VK)(u:Value)(s':FO):Prop :=
 ∃v H',s'.os=s.os/\LA s'.gens/\Un (frs outer) [] H H' s.heap s'.heap/\Fj P w H' s'.heap/\RelV v u/\Q v H'
def CR(CX:Fp)(outer:List Env)(P:Gi)(w:G5)(H:Hp)(s:FO)(Q:VK)(E:XK)(r:Mr)(s':FO):Prop :=
 match r with
 | .ok (.ret u)=>CE outer P w H s Q u s'
 | .ok _=>False
 | .error e=>CX outer H s E e s'
structure FnOk (P:Gi) (w:G5) (K:W.Frag) (mg:Str->Option Value) (base:Heap) (CX:Fp) (k:Nat) (f:Addr) (fd:Ik) (ps:List Str) (sp:Sp):Prop where
 len:∀vs H Q E,sp vs H Q E->vs.length=ps.length
 run:∀(A:Hf)(outer:List Env)(s:FO)(H:Hp)(args:Args)(us:List Value)(vs:List V)(Q:VK)(E:XK),Room k A->Env0 P w K mg base A outer s H->Ms s fd args (ps.zip us)->cj vs us->sp vs H Q E ->
  HY (Gn P w) A (.call (.ref f) args) (CR CX outer P w H s Q E) s
theorem FnOk.mono{P:Gi}{w:G5}{K:W.Frag}{mg:Str->Option Value}{base:Heap}{CX:Fp}{j k:Nat}{f:Addr}{fd:Ik}{ps:List Str}{sp:Sp}(F:FnOk P w K mg base CX j f fd ps sp)(h:j<=k) :
 FnOk P w K mg base CX k f fd ps sp:=⟨F.len,fun A outer s H args us vs Q E hr=>F.run A outer s H args us vs Q E (hr.mono h)⟩
theorem FnOk.imp{w:G5}{K:W.Frag}{base:Heap}{CX:Fp}{k:Nat}{f:Addr}{ps:List Str}{sp sp':Sp}(F:FnOk P w K mg base CX k f fd ps sp)
 (h:∀vs H Q E,sp' vs H Q E->sp vs H Q E):FnOk P w K mg base CX k f fd ps sp' :=
 ⟨fun vs H Q E q=>F.len vs H Q E (h _ _ _ _ q),fun A outer s H args us vs Q E hr he hb hv hs=>F.run A outer s H args us vs Q E hr he hb hv (h _ _ _ _ hs)⟩
section
variable{X:Cx}{pins:List (Addr×Obj)}{σ:St}{H:Hp}{s s':FO}
theorem Inv.env0(I:Inv X pins σ H s):Env0 X.prog X.w X.K X.mg X.base X.A X.stack s H :=
 ⟨I.ok.frames,I.ok.mod,I.bs,GI I.ok.bsz I.sz,I.stack,I.stkFree,I.hok,I.bare⟩
theorem Inv.after{Q:VK}(I:Inv X pins σ H s)(h:CE X.stack X.prog X.w H s Q u s'):EP X pins σ Q u s':=by
 obtain⟨v,H',os,bare,un,hok,r,q⟩:=h
 obtain⟨hh,g,d,t,os'⟩:=s'
 obtain rfl:os'=s.os:=os
 exact⟨v,H',I.call (h':=hh) (g':=g) (d':=d) (t':=t) (ch:=[]) un hok bare (fun b z=>absurd z (by simp)),r,q⟩
end
def vA(sp:Sp)(dvs:List V)(E:XK)(t:TA):TE:=fun σ H Q=>t σ H fun vs H1=>sp (vs++dvs) H1 Q E
def Binds(K:W.Frag)(fd:Ik)(ps:List Str)(ds:List Value):Prop :=
 ∀(s:FO)(us:List Value),K.In s.heap->(us++ds).length=ps.length->Ms s fd ⟨us,[]⟩ (ps.zip (us++ds))
theorem Binds.all{K:W.Frag}{ps:List Str}(h:∀us:List Value,us.length=ps.length->bindArgs fd ⟨us,[]⟩=pure (ps.zip us)):Binds K fd ps []:=fun s us _ hl=>by
 rw[Ht]at hl ⊢
 exact .of_eq (h us hl)
def o6(CX:Fp)(X:Cx)(E:XK):Prop:=∀(pins:List (Addr×Obj))(σ:St)(H:Hp)(s:FO)(e:Value)(s':FO),Inv X pins σ H s->CX X.stack H s E e s'->X.xe e s'
section
variable{X:Cx}{CX:Fp}{k:Nat}{f C:Addr}{fd:Ik}{ps:List Str}{sp:Sp}{dvs:List V}{ds:List Value}{E:XK}{x m:Str}{p pos apos:Pos}{e o:Expr}{es:List Expr}{ta:TE}{t:TA}
theorem vL{σ:St}{H:Hp}{Q:VK}{vs:List V}(F:FnOk X.prog X.w X.K X.mg X.base CX k f fd ps sp)(hr:Room k X.A)(hb:Binds X.K fd ps ds)(hd:cj dvs ds)(hx:o6 CX X E)
 (I:Inv X pins σ H s)(r:cj vs us)(h:sp (vs++dvs) H Q E):Gb (Gn X.prog X.w) X.A (call (.ref f) us) (EP X pins σ Q) X.xe s:=by
 have r2:cj (vs++dvs) (us++ds):=r.append hd
 have hl:(us++ds).length=ps.length:=by rw[<- r2.length];exact F.len _ _ _ _ h
 refine wpAny_call (JB (F.run X.A X.stack s H ⟨us,[]⟩ (us++ds) (vs++dvs) Q E hr I.env0 (hb s us I.kIn hl) r2 h) fun r s' hq=>?_)
 cases r with
 | error e=>exact hx pins σ H s e s' I hq
 | ok fl =>
   cases fl with
   | ret u=>exact I.after hq
   | next=>exact GZ hq
   | brk=>exact GZ hq
   | cont=>exact GZ hq
theorem im(F:FnOk X.prog X.w X.K X.mg X.base CX k f fd ps sp)(hr:Room k X.A)(hg:Gl X x)(hm:X.mg x=some (.ref f))(hk:W.keepIn X.K (.ref f)=true)(hb:Binds X.K fd ps ds)(hd:cj dvs ds)(hx:o6 CX X E)
 (ha:PA X (e::es) t)(hdb:(x==("__debug__" : Str))=false:=by decide)(he:FU (e::es) X.env=(false,eval e X.env)::FU es X.env:=by rfl)(hpl:(Hs pos (FU es X.env)).any (·.1)=false:=by rfl) :
 PE X (.Call (.Name x p) (e::es) [] pos) (vA sp dvs E t):=by
 intro pins s σ H Q I h
 refine Il (nX I hg hm ?_ hdb)
 refine W.callWith_K (h₀:=X.base) I.ok.mod.kin hk (CF (ha pos pins s σ H _ I h) fun us s1 ⟨vs,H1,I1,r,q⟩=>⟨I1.kIn,?_⟩) he hpl
 exact vL F hr hb hd hx I1 r q
end
def PK(X:Cx)(kws:List Kz)(t:TA):Prop :=
 ∀(pos:Pos)(pins:List (Addr×Obj))(s:FO)(σ:St)(H:Hp)(Q:List V->Hp->Prop),Inv X pins σ H s->t σ H Q->Gb (Gn X.prog X.w) X.A (evalAll ((LX pos (JM kws X.env)).map (·.2))) (AP X pins σ Q) X.xe s
section
variable{X:Cx}{CX:Fp}{k:Nat}{f C:Addr}{fd:Ik}{ps ks:List Str}{sp:Sp}{E:XK}{x m:Str}{p pos apos kpos:Pos}{e o:Expr}{es:List Expr}{kws:List Kz}{te ta:TE}{t tk:TA}{nm:Option Str}
theorem v_:PK X [] AL:=fun _ _ _ _ H Q I h=>wpAny_evalAll_nil ⟨[],H,I,.nil,h⟩
theorem sV(ha:PE X e te)(hr:PK X kws t):PK X (⟨nm,e,kpos⟩::kws) (vz te t):=by
 intro pos pins s σ H Q I h
 show Gb _ _ (evalAll ((do let v <- eval e X.env;LD pos;pure v)::(LX pos (JM kws X.env)).map (·.2))) _ _ s
 refine wpAny_evalAll_cons (FI (CF (ha pins s σ H _ I h) fun u s1 ⟨x,H1,I1,r1,q1⟩=>FI (HD (FS ?_))))
 exact CF (hr pos pins s1 σ H1 _ I1 q1) fun us s2 ⟨xs,H2,I2,r2,q2⟩=>⟨x::xs,H2,I2,.cons r1 r2,q2⟩
variable{g:List Value->List Value->List Value}{gV:List V->List V->List V}
end
structure FnScope (N P:List Str) (sc:Scope):Prop where
 kind:sc.kind = .function
 co:sc.isCoroutine=false
 gen:sc.isGenerator=false
 nd:N.Nodup
 pre:N.take P.length=P
 par:∀x∈P,sc.names.lookup x=some .local\/sc.names.lookup x=some .cell
 nofree:∀y∈sc.names,y.2 ≠ .free
theorem jr{kindOf:Str->Option Jl}{x:Str}:∀{binds:List (Str×Value)}{m:Str->Option Value},(∀v,(x,v)∉binds)->bindL kindOf binds m x=m x
 | [],_,_=>rfl
 | (n,v)::r,m,h=>by
   unfold bindL
   rw[jr fun w hw=>h w (FP _ hw)]
   split
   · have:x≠n:=by rintro rfl;exact h v FT
     simp[this]
   · rfl
theorem jt{kindOf:Str->Option Jl}{x:Str}:∀{binds:List (Str×Value)}{m:Str->Option Value},(∀v,(x,v)∉binds)->bindC kindOf binds m x=m x
 | [],_,_=>rfl
 | (n,v)::r,m,h=>by
   unfold bindC
   rw[jt fun w hw=>h w (FP _ hw)]
   split
   · rfl
   · have:x≠n:=by rintro rfl;exact h v FT
     simp[this]
theorem js{kindOf:Str->Option Jl}{x:Str}{v:Value}:∀{P:List Str}{vs:List Value}{i:Nat}{m:Str->Option Value},P.Nodup->P[i]?=some x->vs[i]?=some v->kindOf x=some .local ->
 bindL kindOf (P.zip vs) m x=some v
 | [],_,_,_,_,h,_,_=>by simp at h
 | _::_,[],_,_,_,_,h,_=>by simp at h
 | p::P,w::vs,0,m,nd,h1,h2,hk=>by
   simp at h1 h2;subst h1;subst h2
   show bindL kindOf ((p,w)::P.zip vs) m p=_
   unfold bindL
   rw[jr fun v hv=>(Iw.mp nd).1 (IJ hv).1,if_pos hk]
   simp
 | p::P,w::vs,i+1,m,nd,h1,h2,hk=>by
   show bindL kindOf ((p,w)::P.zip vs) m x=_
   unfold bindL
   exact js (i:=i) (Iw.mp nd).2 (by simpa using h1) (by simpa using h2) hk
theorem ju{kindOf:Str->Option Jl}{x:Str}{v:Value}:∀{P:List Str}{vs:List Value}{i:Nat}{m:Str->Option Value},P.Nodup->P[i]?=some x->vs[i]?=some v->kindOf x≠some .local ->
 bindC kindOf (P.zip vs) m x=some v
 | [],_,_,_,_,h,_,_=>by simp at h
 | _::_,[],_,_,_,_,h,_=>by simp at h
 | p::P,w::vs,0,m,nd,h1,h2,hk=>by
   simp at h1 h2;subst h1;subst h2
   show bindC kindOf ((p,w)::P.zip vs) m p=_
   unfold bindC
   rw[jt fun v hv=>(Iw.mp nd).1 (IJ hv).1,if_neg hk]
   simp
 | p::P,w::vs,i+1,m,nd,h1,h2,hk=>by
   show bindC kindOf ((p,w)::P.zip vs) m x=_
   unfold bindC
   exact ju (i:=i) (Iw.mp nd).2 (by simpa using h1) (by simpa using h2) hk
def start(N:List Str)(vs:List V):St:=vs.map some++GU (N.length-vs.length) none
def lS(CX:Fp)(P:Gi)(w:G5)(K:W.Frag)(mg:Str->Option Value)(base:Heap)(N:List Str)(qual:Str)(scope:Scope)(f:Addr)(cd:Value)(A:Hf)(outer:List Env)(s:FO)(H:Hp)(E:XK):Cx where
 prog:=P
 w:=w
 K:=K
 mg:=mg
 base:=base
 A:=A.deeper (J_ qual scope s.heap.objs.size f cd)
 N:=N
 s₀:=s
 H₀:=H
 env:=J_ qual scope s.heap.objs.size f cd
 outer:=outer
 stack:=J_ qual scope s.heap.objs.size f cd::outer
 ex:=[]
 calm:=true
 fn:=fun _=>true
 pn:=[]
 xe:=fun e s'=>Gb (Gn P w) (A.deeper (J_ qual scope s.heap.objs.size f cd)) (leaving (J_ qual scope s.heap.objs.size f cd) e) (fun _ s''=>CX outer H s E e s'') (fun e' s''=>CX outer H s E e' s'') s'
theorem lu{sc:Scope}(h:sc.names.lookup x=some .cell):∃c,(G6 n sc.names []).lookup x=some c:=by
 have q:=W.cellsFrom_some sc.names n [] (.inl h)
 exact Hr.mp q
theorem oa{CX:Fp}{w:G5}{K:W.Frag}{base:Heap}{ps:List Str}{f:Addr}{cd:Value}{outer:List Env}{s1:FO}{H:Hp}{E:XK}{vs:List V}
 (S:FnScope N ps scope)(hd:A.handled=none)(e0:Env0 P w K mg base A outer s H)(hl:vs.length=ps.length)(r:cj vs us)
 (x:InCallC s s.heap.objs.size (bindL (J_ qual scope s.heap.objs.size f cd).kindOf (ps.zip us) fun _=>none) (G6 (s.heap.objs.size+1) scope.names []) (bindC (J_ qual scope s.heap.objs.size f cd).kindOf (ps.zip us) fun _=>none) s1) :
 Inv (lS CX P w K mg base N qual scope f cd A outer s H E) [] (start N vs) H s1:=by
 have hpl:ps.length<=N.length:=by have:=congrArg List.length S.pre;rw[GG]at this;omega
 obtain⟨h1,tk,rfl,hk⟩:=x.done
 have noA:∀b:Addr,b∉(lS CX P w K mg base N qual scope f cd A outer s H E).ex:=fun b z=>absurd (show b∈([]:List Addr)from z) (by simp)
 refine⟨⟨e0.mod,S.kind,rfl,rfl,FQ _,fun y z c h1 h2=>?_,fun y hy=>?_,fun y c _ h=>?_,fun _=>hd,Hf.frames_deeper e0.frames,.inr ⟨rfl,rfl⟩,fun b z=>absurd z (noA b),e0.bs,e0.bsz,fun b _ _=>noA b,fun b z=>absurd z (noA b),e0.funs,e0.frf⟩,
  rfl,e0.bare,Un.kept hk,⟨_,x.toInCall.ns,fun i y v h1 h2 h3=>?_⟩,fun y c h=>⟨_,x.cell y c h⟩,e0.hok.fresh (FQ _),fun y c h=>?_,fun p hp=>absurd (show p∈([]:List (Addr×Obj))from hp) (by simp),e0.hok.kept hk,?_⟩
 · exact Mg x.apart (GK h1) (GK h2)
 · have hy:scope.names.lookup y=some .cell\/scope.names.lookup y=some .free:=hy
   rcases hy with hy|hy
   · exact lu hy
   · exact absurd rfl (S.nofree _ (GK hy))
 · exact Me (x.above y c (GK h))
 · have hi:i<vs.length:=by
     unfold start at h2
     by_cases hi:i<vs.length
     · exact hi
     · rw[IT (by simpa using hi)]at h2
       rw[KA]at h2
       split at h2<;>cases h2
   have ha:vs[i]?=some v:=by
    unfold start at h2
    rw[Ip (by simpa using hi),G_]at h2
    cases e:vs[i]? with
    | none=>rw[e]at h2;cases h2
    | some a=>rw[e]at h2;cases h2;rfl
   obtain⟨u,hu,rv⟩:=r.get ha
   have hp:ps[i]?=some y:=by
    rw[<- S.pre,List.getElem?_take_of_lt (by omega)];exact h1
   have ndP:ps.Nodup:=by rw[<- S.pre];exact S.nd.sublist (List.take_sublist _ _)
   refine⟨u,rv,?_⟩
   rcases S.par y (Lq hp)with k|k
   · exact .inl ⟨k,js ndP hp hu k⟩
   · obtain⟨c,e⟩:=lu (n:=s.heap.objs.size+1) k
     refine .inr ⟨.inl k,c,e,?_⟩
     have q:=x.cell y c e
     rw[ju ndP hp hu (by show scope.names.lookup y≠_;rw[k];decide)]at q
     exact q
 · exact e0.hok.fresh (Me (x.above y c (GK h)))
 · unfold start
   show _=N.length
   rw[Gg,FR,JC]
   omega
theorem zw{CX:Fp}{w:G5}{K:W.Frag}{base:Heap}{k:Nat}{f:Addr}{name:Str}{params:Arguments}{body:List Stmt}{dV kV doc pm cdv ct oc:Value}{an od:Option Addr}
 {osl:Array (Option Value)}{ps:List Str}{sp:Sp}(lk:K.lookup f=some ⟨oc,od,.func (W.fnOf name qual params body scope dV kV doc pm an cdv ct),osl⟩)(hcd:W.codeIn K cdv qual=true)(S:FnScope N ps scope)
 (len:∀vs H Q E,sp vs H Q E->vs.length=ps.length)
 (hbody:∀(A:Hf)(outer:List Env)(s:FO)(H:Hp)(vs:List V)(Q:VK)(E:XK),Room k (A.deeper (J_ qual scope s.heap.objs.size f cdv))->sp vs H Q E ->
  ∃t,ET (lS CX P w K mg base N qual scope f cdv A outer s H E) body t/\t {nx:=fun _ H'=>Q .non H',rt:=Q} (start N vs) H) :
 FnOk P w K mg base CX (k+1) f (W.fnOf name qual params body scope dV kV doc pm an cdv ct) ps sp:=by
 refine⟨len,fun A outer s H args us vs Q E hr e0 hb r hsp=>?_⟩
 have hl:=len _ _ _ _ hsp
 have KX:K.In s.heap:=e0.mod.kin.keeps fun b o e=>(e0.bs b o e).1
 have lim:s.heap.NoLimit:=e0.mod.nolimit.keeps fun b o e=>(e0.bs b o e).1
 have hkind:∀y∈ps.zip us,scope.names.lookup y.1=some .local\/(scope.names.lookup y.1=some .cell/\((G6 (s.heap.objs.size+1) scope.names []).lookup y.1).isSome=true):=fun⟨n,v⟩ hy=>by
  rcases S.par n (IJ hy).1 with q|q
  · exact .inl q
  · exact .inr ⟨q,W.cellsFrom_some _ _ _ (.inl q)⟩
 refine codeAny_call_function hr.depth (KX _ _ lk) rfl S.co S.gen rfl (W.codeRec_of KX hcd) (hb _ _ _ _ ?_)
 refine wpAny_newFunctionEnv_cells S.kind hkind fun env he s1 x=>?_
 subst he
 refine⟨lim.keeps x.toInCall.keep,codeAny_func ?_⟩
 obtain⟨t,ht,hq⟩:=hbody A outer s H vs Q E (hr.deeper _) hsp
 have I:Inv (lS CX P w K mg base N qual scope f cdv A outer s H E) [] (start N vs) H s1:=oa S hr.hd e0 hl r x
 refine Gr (ht [] s1 (start N vs) H _ I hq) (fun fl s' hs=>?_) fun e s' hs=>hs
 have fin:∀{σ':St}{H':Hp}{v:V}{u:Value},Inv (lS CX P w K mg base N qual scope f cdv A outer s H E) [] σ' H' s'->RelV v u->Q v H'->CE outer P w H s Q u s' :=
  fun{σ' H' v u} J rv q=>⟨v,H',J.os,J.bare,J.base,J.hok,rv,q⟩
 cases fl with
 | ret u =>
   obtain⟨v,σ',H',J,rv,q⟩:=hs
   exact fin J rv q
 | next =>
   obtain⟨σ',H',J,q⟩:=hs
   exact fin (v:=V.non) (u:=Jh) J rfl q
 | brk =>
   obtain⟨_,_,_,q⟩:=hs
   exact GZ q
 | cont =>
   obtain⟨_,_,_,q⟩:=hs
   exact GZ q
section
variable{X:Cx}{x:Str}{p pos:Pos}{e:Expr}{es:List Expr}{t:TA}{id T:String}{r:List V->Hp->VK->Prop}
def CO(r:List V->Hp->VK->Prop)(t:TA):TE:=fun σ H Q=>t σ H fun vs H1=>r vs H1 Q
theorem pU(hc:dD X (.builtin id) r)(hg:Gl X x)(hm:X.mg x=none)(hv:II x=some (.builtin id))(ha:PA X (e::es) t)(hn:x ≠ "__name__" := by decide)(hdb:(x==("__debug__" : Str))=false:=by decide)
 (he:FU (e::es) X.env=(false,eval e X.env)::FU es X.env:=by rfl)(hpl:(Hs pos (FU es X.env)).any (·.1)=false:=by rfl):PE X (.Call (.Name x p) (e::es) [] pos) (CO r t):=by
 intro pins s σ H Q I h
 refine Il (dm I hg hm hv ?_ hn hdb)
 exact PyProof.Rows.callWith_builtin1 (CF (ha pos pins s σ H _ I h) fun us s1 ⟨vs,H1,I1,r1,q1⟩=>hc pins s1 σ H1 vs us Q I1 r1 q1) he hpl
theorem jd(hc:dD X (.type T) r)(hg:Gl X x)(hm:X.mg x=none)(hv:II x=some (.type T))(ha:PA X (e::es) t)(hn:x ≠ "__name__" := by decide)(hdb:(x==("__debug__" : Str))=false:=by decide)
 (he:FU (e::es) X.env=(false,eval e X.env)::FU es X.env:=by rfl)(hpl:(Hs pos (FU es X.env)).any (·.1)=false:=by rfl):PE X (.Call (.Name x p) (e::es) [] pos) (CO r t):=by
 intro pins s σ H Q I h
 refine Il (dm I hg hm hv ?_ hn hdb)
 exact GN (CF (ha pos pins s σ H _ I h) fun us s1 ⟨vs,H1,I1,r1,q1⟩=>hc pins s1 σ H1 vs us Q I1 r1 q1) he hpl
end
end L2
variable{H H' F F' F₀ H₀:L2.Hp}{v:L2.V}{X:L2.Cx}{σ:L2.St}{r:List L2.V->L2.Hp->L2.VK->Prop}{vs:List L2.V}{kvs:List (List L2.E7×L2.V)}
namespace HT
open PySem PyProof.Rows
section
open PySem.SeqAt
open PySem.AutoSeq1 (wpAny_loadPart')
open PySem.MeetsSeq PySem.MeetsSeq2 PySem.MeetsSeq3
end
section
variable{prog:Gi}{w:G5}{A:Hf}{E:Value->FO->Prop}{s:FO}
theorem cat_tup{t b:Addr}{vs ws:List Value}(ht:IsTup s.heap t vs.toArray)(hb:IsTup s.heap b ws.toArray)(hv:vs≠[])
 (h1:ws=[]->Q (.ref t) s)(h2:ws≠[]->Q (.ref s.heap.objs.size) {s with heap:=s.heap.push {cls:=.type "tuple", data:=.seq (vs++ws).toArray}})
 (hsz:vs.length+ws.length<=sizeLine):Gb (Gn prog w) A (IP .Add (.ref t) (.ref b)) Q E s:=by
 obtain⟨⟨cls,dd,data,sl⟩,ho,hc,n,hd⟩:=id ht
 obtain⟨⟨cls2,dd2,data2,sl2⟩,ho2,hc2,n2,hd2⟩:=id hb
 simp only at hc hd hc2 hd2
 subst hc hd hc2 hd2
 have e:vs.toArray++ws.toArray=(vs++ws).toArray:=by simp
 by_cases hw:ws=[]
 · exact Mh ⟨_,ho,rfl⟩ ⟨_,ho2,rfl⟩ KL LY Js Jm (Jj _ _)
     (tuple_addW1 t b vs.toArray ws.toArray n n2 dd dd2 sl sl2 (by simpa using hv) (by simp[hw])) ⟨ho,ho2,h1 hw⟩
 · refine Mh ⟨_,ho,rfl⟩ ⟨_,ho2,rfl⟩ KL LY Js Jm (Jj _ _)
     (tuple_addW2 t b vs.toArray ws.toArray n n2 dd dd2 sl sl2 (by simpa using hv) (by simpa using hw) (by rw[Gk,Gk];exact hsz)) ⟨ho,ho2,?_⟩
   rw[e]
   exact h2 hw
def sIx(n d:Nat):Option Int->Nat
 | none=>d
 | some v=>if v<0 then(v+(n:Int)).toNat else min v.toNat n
theorem sIx_none(n d:Nat):sIx n d none=d:=rfl
theorem sIx_nat(n d k:Nat):sIx n d (some (k:Int))=min k n:=by
 show(if(k:Int)<0 then((k:Int)+(n:Int)).toNat else min (k:Int).toNat n)=min k n
 rw[if_neg (by omega),H_]
theorem vK(n d:Nat)(hd:d<=n)(o:Option Int):sIx n d o<=n:=by
 cases o with
 | none=>exact hd
 | some v =>
   show(if v<0 then(v+(n:Int)).toNat else min v.toNat n)<=n
   by_cases hv:v<0
   · rw[if_pos hv];omega
   · rw[if_neg hv];exact Nat.min_le_right _ _
theorem oR(v:Int)(n d:Nat):(if v<0 then max (v+(n:Int)) 0 else min v (n:Int))=((sIx n d (some v):Nat):Int):=by
 show(if v<0 then max (v+(n:Int)) 0 else min v (n:Int))=(((if v<0 then(v+(n:Int)).toNat else min v.toNat n):Nat):Int)
 by_cases hv:v<0
 · simp only[if_pos hv];omega
 · simp only[if_neg hv];omega
theorem lU(lo hi:Option Int)(n:Nat):I0 lo hi 1 (n:Int)=(((sIx n 0 lo:Nat):Int),((sIx n n hi:Nat):Int)):=by
 have h1:¬((1:Int)<0):=by omega
 unfold I0
 simp only[h1,if_false]
 refine Prod.ext ?_ ?_
 · cases lo with
   | none=>rfl
   | some v=>exact oR v n 0
 · cases hi with
   | none=>rfl
   | some v=>exact oR v n n
theorem lL(i j:Nat):Iq (i:Int) (j:Int) 1=j-i:=by
 unfold Iq
 have h1:(1:Int)>0:=by omega
 simp only[h1,if_true,Int.ediv_one]
 split<;>omega
theorem gF{v:Value}{o:Option Int}{Q:Option Int->FO->Prop}(p:LZ v o)(h:Q o s):Gb (Gn prog w) A (Builtin.Slice.slicePartIndex v) Q E s:=by
 cases p with
 | none=>exact slicePart_none h
 | int i t=>exact slicePart_int h
theorem sliceApplied_gen{sl:Addr}{vl vu:Value}{lo hi:Option Int}{Q:Int×Int×Nat->FO->Prop}(hs:s.heap.IsSliceOf sl vl vu .none)(pl:LZ vl lo)(pu:LZ vu hi)
 (h:Q (((sIx n 0 lo:Nat):Int),1,sIx n n hi-sIx n 0 lo) s):Gb (Gn prog w) A (J5 (.ref sl) (pure (n:Int))) Q E s:=by
 obtain⟨os,hos,hcs,hds⟩:=id hs
 unfold J5 Builtin.Slice.sliceFields
 refine FI (FI (Ha hos hds (x:=vl) rfl (FI (Ha hos hds (x:=vu) rfl (FI (Ha hos hds (x:=.none) rfl (FS ?_)))))))
 refine FI (slicePart_none ?_)
 show Gb _ _ (if((1:Int)==0)=true then _ else _) _ _ s
 rw[if_neg (by decide)]
 refine FI (gF pl (FI (gF pu (FI (FS ?_)))))
 show Gb _ _ (match I0 lo hi 1 (n:Int)with|(lo,hi)=>pure (lo,(1:Int),Iq lo hi 1)) _ _ s
 rw[lU lo hi n]
 show Gb _ _ (pure (((sIx n 0 lo:Nat):Int),(1:Int),Iq ((sIx n 0 lo:Nat):Int) ((sIx n n hi:Nat):Int) 1)) _ _ s
 rw[lL]
 exact FS h
theorem pP(xs:Array Value)(i k:Nat):((G9 k).filterMap fun(m:Nat)=>xs[((i:Int)+(m:Int)*1).toNat]?).toArray=((xs.toList.drop i).take k).toArray:=by
 have e:(fun(m:Nat)=>xs[((i:Int)+(m:Int)*1).toNat]?)=fun m=>xs[i+m]?:=by
  funext m
  have:((i:Int)+(m:Int)*1).toNat=i+m:=by omega
  rw[this]
 rw[e]
 have:=pick_run xs i k
 rw[List.filterMap_map]at this
 have e2:((fun x=>xs[x]?) ∘ fun x=>i+x)=fun m=>xs[i+m]?:=rfl
 rw[e2]at this
 rw[this]
theorem getItem_tuple_cut{t sl:Addr}{items:Array Value}{vl vu:Value}{lo hi:Option Int}(ht:IsTup s.heap t items)(hs:s.heap.IsSliceOf sl vl vu .none)(pl:LZ vl lo)(pu:LZ vu hi)
 (hw:¬(sIx items.size 0 lo=0/\sIx items.size items.size hi=items.size))
 (h:Q (.ref s.heap.objs.size) {s with heap:=s.heap.push {cls:=.type "tuple", data:=.seq ((items.toList.drop (sIx items.size 0 lo)).take (sIx items.size items.size hi-sIx items.size 0 lo)).toArray}})
 (hsz:items.size<=sizeLine):Gb (Gn prog w) A (KB (.ref t) (.ref sl)) Q E s:=by
 have htake:sizeOk (.seq ((items.toList.drop (sIx items.size 0 lo)).take (sIx items.size items.size hi-sIx items.size 0 lo)).toArray):=by
  show((items.toList.drop (sIx items.size 0 lo)).take (sIx items.size items.size hi-sIx items.size 0 lo)).toArray.size<=sizeLine
  rw[Gk,GG,JF,IA]
  omega
 have hj:sIx items.size items.size hi<=items.size:=vK _ _ (FQ _) hi
 obtain⟨os,hos,hcs,hds⟩:=id hs
 have hTs:s.TypeIs (.ref sl) "slice" := ⟨os,hos,hcs⟩
 unfold KB
 try with_reducible refine IC ?_
 first|refine FI (FS ?_)|skip
 refine FI (Kk ht.typeIs (by decide) ?_)
 refine FI (G3 (name:=F0 "__getitem__") ht.typeIs GW
  (HI GW ht.typeIs entry_tuple_getitem ?_ (args_tuple_getitem _ _)))
 show Gb _ _ (J6 (.ref t) >>= _) _ _ s
 refine FI (tupleItemsOf_ ht ?_)
 refine FI (K4 hTs ?_)
 rw[if_pos (by decide)]
 refine FI (sliceApplied_gen hs pl pu ?_)
 have hno:¬((((sIx items.size 0 lo:Nat):Int)==0&&(1:Int)==1&&(sIx items.size items.size hi-sIx items.size 0 lo)==items.size)=true):=by
  intro q
  rw[Jb,Jb]at q
  have q1:((sIx items.size 0 lo:Nat):Int)=0:=eq_of_beq q.1.1
  have q2:sIx items.size items.size hi-sIx items.size 0 lo=items.size:=eq_of_beq q.2
  exact hw ⟨by omega,by omega⟩
 show Gb _ _ (if(((sIx items.size 0 lo:Nat):Int)==0&&(1:Int)==1&&(sIx items.size items.size hi-sIx items.size 0 lo)==items.size)=true then _ else _) _ _ s
 rw[if_neg hno,pP]
 first
  | exact FI (m:=HE _) (GP (FS ⟨_,rfl,FS h⟩) htake)
  | exact FI (m:=HE _) (GP (FI (FS (FS ⟨_,rfl,FS h⟩))) htake)
  | exact FI (FI (m:=HE _) (GP (FS (FS ⟨_,rfl,FS h⟩)) htake))
  | exact FI (FI (m:=HE _) (GP (FS ⟨_,rfl,FS h⟩) htake))
end
end HT
namespace L2
abbrev TO:=St->Hp->(Option Int->Hp->Prop)->Prop
def PO(X:Cx)(e:Option Expr)(t:TO):Prop :=
 ∀ (pins:List (Addr×Obj))(s:FO)(σ:St)(H:Hp)(Q:Option Int->Hp->Prop),Inv X pins σ H s->t σ H Q ->
   Gb (Gn X.prog X.w) X.A (evalPart e X.env) (fun u s'=>∃o H',Inv X pins σ H' s'/\LZ u o/\Q o H') X.xe s
def su:TO:=fun _ H Q=>Q none H
def yx(t:TE):TO:=fun σ H Q=>t σ H fun x H1=>∃i,x = .int i/\Q (some i) H1
theorem intsAre_of:∀{us:List Value},cj (ns.map V.int) us->JN us ns:=by
 induction ns with
 | nil=>intro us r;rw[Ka]at r;cases r;exact .nil
 | cons n ns ih =>
   intro us r
   rw[Gz]at r
   cases r with
   | cons r1 r2 =>
     obtain⟨t,e⟩:=r1
     subst e
     exact .cons n t (ih r2)
section
variable{X:Cx}{e:Expr}{te:TE}{lo hi:Option Expr}{tl th:TO}{pos p2:Pos}
theorem sU:PO X none su:=by
 intro pins s σ H Q I h
 rw[evalPart_none]
 exact FS ⟨none,H,I,.none,h⟩
theorem sT(h:PE X e te):PO X (some e) (yx te):=by
 intro pins s σ H Q I hw
 rw[evalPart_some]
 refine CF (h pins s σ H _ I hw) fun u s1 ⟨x,H1,I1,r1,q1⟩=>?_
 obtain⟨i,rfl,q⟩:=q1
 obtain⟨t,rfl⟩:=r1
 exact⟨some i,H1,I1,.int i t,q⟩
def EK(X:Cx)(r:V->Option Int->Option Int->Hp->VK->Prop):Prop :=
 ∀ (pins:List (Addr×Obj))(s:FO)(σ:St)(H:Hp)(x:V)(v vl vu:Value)(lo hi:Option Int)(sl:Addr)(Q:VK),Inv X pins σ H s->RelV x v->s.heap.IsSliceOf sl vl vu .none->LZ vl lo->LZ vu hi->r x lo hi H Q ->
   ∃T id,typeLookup (.type T) "__getitem__" = pure (some (.builtin id))/\s.TypeIs v T/\Gb (Gn X.prog X.w) X.A (KB v (.ref sl)) (EP X pins σ Q) X.xe s
theorem EK.or{r r':V->Option Int->Option Int->Hp->VK->Prop}(h:EK X r)(h':EK X r'):EK X (fun x lo hi H Q=>r x lo hi H Q\/r' x lo hi H Q):=by
 intro pins s σ H x v vl vu lo hi sl Q I rx hs pl pu q
 rcases q with q|q
 · exact h pins s σ H x v vl vu lo hi sl Q I rx hs pl pu q
 · exact h' pins s σ H x v vl vu lo hi sl Q I rx hs pl pu q
def CJ(r:V->Option Int->Option Int->Hp->VK->Prop)(te:TE)(tl th:TO):TE:=fun σ H Q=>te σ H fun x H1=>tl σ H1 fun l H2=>th σ H2 fun u H3=>r x l u H3 Q
theorem ij{r:V->Option Int->Option Int->Hp->VK->Prop}(hr:EK X r)(he:PE X e te)(hl:PO X lo tl)(hu:PO X hi th):PE X (.Subscript e (.Slice lo hi none p2) pos) (CJ r te tl th):=by
 intro pins s σ H Q I h
 refine Subscript_ (CF (he pins s σ H _ I h) fun v s1 ⟨x,H1,I1,r1,q1⟩=>?_)
 refine wpAny_Slice (CF (hl pins s1 σ H1 _ I1 q1) fun vl s2 ⟨l,H2,I2,pl,q2⟩=>CF (hu pins s2 σ H2 _ I2 q2) fun vu s3 ⟨u,H3,I3,pu,q3⟩=>?_)
 rw[evalPart_none]
 refine FS ?_
 have I4:Inv X pins σ H3 {s3 with heap:=s3.heap.push {cls:=.type "slice", data:=.fields #[vl,vu,.none]}}:=I3.kept (t':=s3.toks) fun b ob q=>FM _ q
 obtain⟨T,id,hT,ht,hg⟩:=hr pins {s3 with heap:=s3.heap.push {cls:=.type "slice", data:=.fields #[vl,vu,.none]}} σ H3 x v vl vu l u s3.heap.objs.size Q I4 r1 (Heap.IsSliceOf.new ..) pl pu q3
 show Gb (Gn X.prog X.w) X.A (L0 e (.Slice lo hi none p2) v (.ref s3.heap.objs.size)) (EP X pins σ Q) X.xe {s3 with heap:=s3.heap.push {cls:=.type "slice", data:=.fields #[vl,vu,.none]}}
 exact tail_any (ops:=[.ref s3.heap.objs.size,v]) ht hT hg (by with_unfolding_all rfl)
def qF(xs:List V)(lo hi:Option Int):List V:=(xs.drop (HT.sIx xs.length 0 lo)).take (HT.sIx xs.length xs.length hi-HT.sIx xs.length 0 lo)
theorem gc(xs:List V)(lo hi:Option Int):(qF xs lo hi).length<=xs.length:=by
 unfold qF
 rw[GG,JF]
 omega
def AO(K:W.Frag):V->Option Int->Option Int->Hp->VK->Prop:=fun x lo hi H Q=>∃a xs,x = .ref a/\EG K H a xs /\
 ¬(HT.sIx xs.length 0 lo=0/\HT.sIx xs.length xs.length hi=xs.length)/\∀p,H p=none->Q (.ref p) (Cs H p (.tup (qF xs lo hi)))
theorem vG:EK X (AO X.K):=by
 intro pins s σ H x v vl vu lo hi sl Q I rx hs pl pu h
 obtain⟨a,xs,rfl,hx,hw,q⟩:=h
 cases rx
 obtain⟨its,r,ht,hz⟩:=I.tuple hx
 have hlen:its.toArray.size=xs.length:=by rw[Gk];exact r.length.symm
 refine⟨"tuple", _,GW.lookup,ht.typeIs,?_⟩
 refine HT.getItem_tuple_cut ht hs pl pu (by rw[hlen];exact hw) ?_ (by rw[hlen];exact hz)
 rw[hlen]
 refine⟨.ref s.heap.objs.size,_,I.laid (t':=s.toks) (o:=.tup (qF xs lo hi)) (fun b ob q=>FM _ q) (FQ _) ?_,rfl,q _ (I.hok.fresh (FQ _))⟩
 exact⟨GI (gc xs lo hi) hz,_,(r.drop (HT.sIx xs.length 0 lo)).take (HT.sIx xs.length xs.length hi-HT.sIx xs.length 0 lo),o7.new _ _⟩
def sI(K:W.Frag):R2:=fun x y H Q=>∃a b xs ys,x = .ref a/\y = .ref b/\EG K H a xs/\EG K H b ys/\xs≠[]/\xs.length+ys.length<=sizeLine /\
 (ys=[]->Q (.ref a) H)/\(ys≠[]->∀p,H p=none->Q (.ref p) (Cs H p (.tup (xs++ys))))
theorem cj.nil_iff{xs:List V}(r:cj xs us):us=[]↔xs=[]:=by
 cases r with
 | nil=>simp
 | cons _ _=>simp
theorem tG:E3 X (IP .Add) (sI X.K):=by
 intro pins s σ H x y v u Q I rx ry h
 obtain⟨a,b,xs,ys,rfl,rfl,ha,hb,hx,hz,q1,q2⟩:=h
 cases rx
 cases ry
 obtain⟨its,r1,p1,_⟩:=I.tuple ha
 obtain⟨its2,r2,p2,_⟩:=I.tuple hb
 refine HT.cat_tup p1 p2 (fun z=>hx (r1.nil_iff.mp z)) (fun z=>⟨.ref a,H,I,rfl,q1 (r2.nil_iff.mp z)⟩) (fun z=>?_) (by rw[<- r1.length,<- r2.length];exact hz)
 refine⟨.ref s.heap.objs.size,_,I.laid (t':=s.toks) (o:=.tup (xs++ys)) (fun b ob q=>FM _ q) (FQ _) ?_,rfl,q2 (fun w=>z (r2.nil_iff.mpr w)) _ (I.hok.fresh (FQ _))⟩
 exact⟨by rw[Gg];exact hz,_,r1.append r2,o7.new _ _⟩
end
def ixN(n:Nat)(i:Int):Option Nat:=if 0<=i then(if i<n then some i.toNat else none)else if -(n:Int)<=i then some (i+n).toNat else none
def atI{α:Type}(xs:List α)(i:Int):Option α:=(ixN xs.length i).bind fun j=>xs[j]?
theorem tZ{i:Int}(h:ixN n i=some j):seqIndex? i n=some j/\j<n /\ -(n:Int)<=i/\i<n:=by
 unfold ixN at h
 by_cases h0:0<=i
 · rw[if_pos h0]at h
   by_cases h1:i<n
   · rw[if_pos h1]at h
     have e:i.toNat=j:=GS h
     exact⟨by rw[seqIndex_of h0 h1,e],by omega,by omega,h1⟩
   · rw[if_neg h1]at h;cases h
 · rw[if_neg h0]at h
   by_cases h1 : -(n:Int)<=i
   · rw[if_pos h1]at h
     have e:(i+n).toNat=j:=GS h
     exact⟨by rw[seqIndex_neg (by omega) h1,e],by omega,h1,by omega⟩
   · rw[if_neg h1]at h;cases h
theorem j_{xs:List α}{i:Int}{v:α}(h:atI xs i=some v):∃j,seqIndex? i xs.length=some j/\xs[j]?=some v/\j<xs.length /\ -(xs.length:Int)<=i/\i<xs.length:=by
 unfold atI at h
 cases e:ixN xs.length i with
 | none=>rw[e]at h;cases h
 | some j =>
   rw[e]at h
   obtain⟨h1,h2,h3,h4⟩:=tZ e
   exact⟨j,h1,h,h2,h3,h4⟩
theorem j9{xs:List α}{v:α}(h:xs[j]?=some v):atI xs (j:Int)=some v:=by
 have hj:j<xs.length:=(GD.mp h).1
 have e:ixN xs.length (j:Int)=some j:=by
  unfold ixN
  rw[if_pos (by omega),if_pos (by omega)];simp
 unfold atI;rw[e];exact h
def ka(b:Expr):Prop:=∀o i,LF b false o i=operate [o,i] (KB o i)
def E_(X:Cx)(r:R2):Prop :=
 ∀ (value slice:Expr)(pins:List (Addr×Obj))(s:FO)(σ:St)(H:Hp)(x y:V)(v u:Value)(Q:VK),Inv X pins σ H s->RelV x v->RelV y u->r x y H Q ->
   LF slice false v u=operate [v,u] (KB v u)->Gb (Gn X.prog X.w) X.A (L0 value slice v u) (EP X pins σ Q) X.xe s
def E5(X:Cx)(id:String)(r:V->List V->Hp->VK->Prop):Prop :=
 ∀ (pins:List (Addr×Obj))(s:FO)(σ:St)(H:Hp)(x:V)(xs:List V)(v:Value)(us:List Value)(Q:VK),Inv X pins σ H s->RelV x v->cj xs us->r x xs H Q ->
   Gb (Gn X.prog X.w) X.A (call (.builtin id) (v::us)) (EP X pins σ Q) X.xe s
section
variable{X:Cx}{a b:Expr}{ta tb:TE}{pos:Pos}
theorem E_.or{r r':R2}(h:E_ X r)(h':E_ X r'):E_ X (fun x y H Q=>r x y H Q\/r' x y H Q):=by
 intro value slice pins s σ H x y v u Q I rx ry q hs
 rcases q with q|q
 · exact h value slice pins s σ H x y v u Q I rx ry q hs
 · exact h' value slice pins s σ H x y v u Q I rx ry q hs
theorem E5.or{id:String}{r r':V->List V->Hp->VK->Prop}(h:E5 X id r)(h':E5 X id r'):E5 X id (fun x xs H Q=>r x xs H Q\/r' x xs H Q):=by
 intro pins s σ H x xs v us Q I rx rs q
 rcases q with q|q
 · exact h pins s σ H x xs v us Q I rx rs q
 · exact h' pins s σ H x xs v us Q I rx rs q
theorem wq{r:R2}(hr:E_ X r)(ha:PE X a ta)(hb:PE X b tb)(hs:ka b):PE X (.Subscript a b pos) (CL r ta tb):=by
 intro pins s σ H Q I h
 exact Subscript_ (zJ ha hb I h fun v u s2 x y H2 I2 rx ry q=>hr a b pins s2 σ H2 x y v u Q I2 rx ry q (hs _ _))
def AS(K:W.Frag):R2:=fun x y H Q=>∃p xs i v,x = .ref p/\y = .int i/\EH K H p xs/\atI xs i=some v/\Q v H
def AQ(K:W.Frag):R2:=fun x y H Q=>∃p xs i v,x = .ref p/\y = .int i/\EG K H p xs/\atI xs i=some v/\Q v H
def AR:R2:=fun x y H Q=>∃z i c,x = .str z/\y = .int i/\z.length<=sizeLine/\atI z.cps.toList i=some c/\Q (.str ⟨#[c]⟩) H
theorem zc:E_ X (AS X.K):=by
 intro value slice pins s σ H x y v u Q I rx ry h hs
 obtain⟨p,xs,i,z,rfl,rfl,hq,he,q⟩:=h
 cases rx
 obtain⟨t,rfl⟩:=ry
 obtain⟨its,r,pl,hz⟩:=I.list hq
 obtain⟨j,h1,h2,h3,h4,h5⟩:=j_ he
 obtain⟨w,ew,rw'⟩:=r.get h2
 have hl:=r.length
 have hn:=kZ
 have fin:EP X pins σ Q w s:=⟨z,H,I,rw',q⟩
 by_cases h0:0<=i
 · have hj:i.toNat=j:=by
     rw[seqIndex_of h0 h5]at h1
     exact GS h1
   exact item_listR pl.isList h0 (by omega) (by rw[hj];simpa using ew) fin hs
 · have hj:(i+(its.toArray.size:Int)).toNat=j:=by
     rw[seqIndex_neg (by omega) h4]at h1
     rw[Gk,<- hl]
     exact GS h1
   exact KR (x:=w) pl.isList.typeIs slot_list_getitem.lookup
    (wpAny_getItem_list_neg (Q:=fun r s'=>r=w/\EP X pins σ Q r s') pl.isList (by omega) (by rw[Gk]<;>omega) (by omega) (by rw[hj];simpa using ew) ⟨rfl,fin⟩) hs
theorem AX:E_ X (AQ X.K):=by
 intro value slice pins s σ H x y v u Q I rx ry h hs
 obtain⟨p,xs,i,z,rfl,rfl,hq,he,q⟩:=h
 cases rx
 obtain⟨t,rfl⟩:=ry
 obtain⟨its,r,pl,hz⟩:=I.tuple hq
 obtain⟨j,h1,h2,h3,h4,h5⟩:=j_ he
 obtain⟨w,ew,rw'⟩:=r.get h2
 have hl:=r.length
 have hn:=kZ
 have fin:EP X pins σ Q w s:=⟨z,H,I,rw',q⟩
 exact KR (x:=w) pl.typeIs slot_tuple_getitem.lookup
  (getItem_tuple (j:=j) (Q:=fun r s'=>r=w/\EP X pins σ Q r s') pl (by omega) (by omega) (by rw[Gk,<- hl];exact h1) (by simpa using ew) ⟨rfl,fin⟩) hs
theorem wU:E_ X AR:=by
 intro value slice pins s σ H x y v u Q I rx ry h hs
 obtain⟨z,i,c,rfl,rfl,hz,he,q⟩:=h
 obtain⟨t,rfl⟩:=rx
 obtain⟨t',rfl⟩:=ry
 obtain⟨j,h1,h2,h3,h4,h5⟩:=j_ he
 have hl:z.cps.toList.length=z.length:=by simp[Str.length]
 rw[hl]at h1 h4 h5
 have hn:=kZ
 exact tail_any (typeIs_str s z t) slot_str_getitem.lookup (getItem_str (c:=c) (by
  have e1:decide (i < -(2^63:Int))=false:=decide_eq_false (by omega)
  have e2:decide (i ≥ 2^63)=false:=decide_eq_false (by omega)
  rw[e1,e2,Bool.or_false]) (by rw[h1];simpa using h2) ⟨.str ⟨#[c]⟩,H,I.tok _,⟨_,rfl⟩,q⟩) hs
def Dc(K:W.Frag):R2:=fun x y H Q=>AS K x y H Q\/AQ K x y H Q\/AR x y H Q
theorem rm:E_ X (Dc X.K):=zc.or (AX.or wU)
theorem Inv.lst{pins:List (Addr×Obj)}{σ:St}{H:Hp}{s:FO}{p:Addr}{xs:List V}(I:Inv X pins σ H s)(h:H p=some (.lst xs)) :
 ∃(its:List Value)(n:Nat),cj xs its/\s.heap.get? p=some {cls:=.type "list", data:=.seq its.toArray n}/\xs.length<=sizeLine:=by
 obtain⟨z,its,n,r,e⟩:=I.hok p _ h
 exact⟨its,n,r,e,z⟩
theorem iZ(lo hi:Option Int)(n:Nat):(Jx lo hi none n).1=((HT.sIx n 0 lo:Nat):Int)/\(Jx lo hi none n).2.1=((HT.sIx n n hi:Nat):Int)/\(Jx lo hi none n).2.2=1:=by
 refine⟨?_,?_,rfl⟩
 · cases lo with
   | none=>simp[Jx,HT.sIx]
   | some i =>
     simp only[Jx,HT.sIx,Option.getD_none,show(1:Int)>0 by decide,if_true]
     by_cases h:i<0
     · simp only[h,if_true]<;>omega
     · simp only[h,if_false]<;>omega
 · cases hi with
   | none=>simp[Jx,HT.sIx]
   | some i =>
     simp only[Jx,HT.sIx,Option.getD_none,show(1:Int)>0 by decide,if_true]
     by_cases h:i<0
     · simp only[h,if_true]<;>omega
     · simp only[h,if_false]<;>omega
theorem hJ(its:List Value)(lo hi:Option Int):slicePick its.toArray lo hi none=((its.drop (HT.sIx its.length 0 lo)).take (HT.sIx its.length its.length hi-HT.sIx its.length 0 lo)).toArray:=by
 obtain⟨h1,h2,h3⟩:=iZ lo hi its.toArray.size
 unfold slicePick
 rw[h1,h2,h3]
 simp only[sliceRange_one,pick_run,Gk]<;>rfl
def Bv(K:W.Frag):V->Option Int->Option Int->Hp->VK->Prop:=fun x lo hi H Q=>∃a xs,x = .ref a/\EH K H a xs/\∀p,H p=none->Q (.ref p) (Cs H p (.lst (qF xs lo hi)))
theorem m9:EK X (Bv X.K):=by
 intro pins s σ H x v vl vu lo hi sl Q I rx hs pl pu h
 obtain⟨a,xs,rfl,hx,q⟩:=h
 cases rx
 obtain⟨its,r,ht,hz⟩:=I.list hx
 have hlen:=r.length
 refine⟨"list", _,slot_list_getitem.lookup,ht.isList.typeIs,?_⟩
 refine wpAny_getItem_list_slice ht.isList hs pl pu .none (by simp) ?_ (by rw[Gk]<;>omega)
 rw[hJ,<- hlen]
 refine⟨.ref s.heap.objs.size,_,I.laid (t':=s.toks) (o:=.lst (qF xs lo hi)) (fun b ob q=>FM _ q) (FQ _) ?_,rfl,q _ (I.hok.fresh (FQ _))⟩
 exact⟨GI (gc xs lo hi) hz,_,0,(r.drop (HT.sIx xs.length 0 lo)).take (HT.sIx xs.length xs.length hi-HT.sIx xs.length 0 lo),FY _ rfl⟩
theorem jq:dD X (.builtin "len") (fun xs H Q=>∃p ys,xs=[.ref p]/\(EH X.K H p ys\/EG X.K H p ys)/\Q (.int ys.length) H):=by
 intro pins s σ H xs us Q I r h
 obtain⟨p,ys,rfl,hq,q⟩:=h
 obtain⟨u,rfl,rx⟩:=vals1 r
 cases rx
 have hn:=kZ
 rcases hq with hq|hq
 · obtain⟨its,r',pl,hz⟩:=I.list hq
   have hlen:=r'.length
   exact Calls.call_len_list pl.isList (by simp only[Gk]<;>omega) ⟨.int ys.length,H,I.tok _,⟨s.toks+1,by rw[Gk,hlen]⟩,q⟩
 · obtain⟨its,r',pl,hz⟩:=I.tuple hq
   have hlen:=r'.length
   exact len_tuple pl (by simp only[Gk]<;>omega) ⟨.int ys.length,H,I.tok _,⟨s.toks+1,by rw[Gk,hlen]⟩,q⟩
theorem dD.or{f:Value}{r':List V->Hp->VK->Prop}(h:dD X f r)(h':dD X f r'):dD X f (fun xs H Q=>r xs H Q\/r' xs H Q):=by
 intro pins s σ H xs us Q I rs q
 rcases q with q|q
 · exact h pins s σ H xs us Q I rs q
 · exact h' pins s σ H xs us Q I rs q
theorem jp:dD X (.type "list") (fun xs H Q=>∃p ys,xs=[.ref p]/\(EH X.K H p ys\/EG X.K H p ys)/\∀l,H l=none->Q (.ref l) (Cs H l (.lst ys))):=by
 intro pins s σ H xs us Q I r h
 obtain⟨p,ys,rfl,hq,q⟩:=h
 obtain⟨u,rfl,rx⟩:=vals1 r
 cases rx
 have fin:∀(its:List Value),cj ys its->ys.length<=sizeLine->∀(h':Heap)(c':Nat),(∀b o',s.heap.get? b=some o'->h'.get? b=some o') ->
  h'.get? s.heap.objs.size=some {cls:=.type "list", dict:=none,data:=.seq its.toArray c',slots:=#[]}->EP X pins σ Q (.ref s.heap.objs.size) {s with heap:=h' }:=fun its r' hz h' c' kp e =>
  ⟨.ref s.heap.objs.size,_,I.laid (t':=s.toks) kp (FQ _) (show cH X.prog X.w _ h' _ (.lst ys)from⟨hz,its,c',r',e⟩),rfl,q _ (I.hok.fresh (FQ _))⟩
 rcases hq with hq|hq
 · obtain⟨its,r',pl,hz⟩:=I.list hq
   have hlen:=r'.length
   obtain⟨o,ho,hc,n,hd⟩:=pl.isList
   exact call_list_seq p (.inl rfl) ho hc hd (fun h' c' kp e=>fin its r' hz h' c' kp e) (by simp only[Gk]<;>omega)
 · obtain⟨its,r',pl,hz⟩:=I.tuple hq
   have hlen:=r'.length
   obtain⟨o,ho,hc,n,hd⟩:=pl
   exact call_list_seq p (.inr rfl) ho hc hd (fun h' c' kp e=>fin its r' hz h' c' kp e) (by simp only[Gk]<;>omega)
theorem eK:dD X (.type "tuple") (fun xs H Q=>∃p ys,xs=[.ref p]/\((EH X.K H p ys/\∀l,H l=none->Q (.ref l) (Cs H l (.tup ys)))\/(EG X.K H p ys/\Q (.ref p) H))):=by
 intro pins s σ H xs us Q I r h
 obtain⟨p,ys,rfl,h⟩:=h
 obtain⟨u,rfl,rx⟩:=vals1 r
 cases rx
 rcases h with⟨hq,q⟩|⟨hq,q⟩
 · obtain⟨its,r',pl,hz⟩:=I.list hq
   have hlen:=r'.length
   refine call_tuple_list pl.isList (fun h' kp=>?_) (by simp only[Gk]<;>omega)
   have I1:Inv X pins σ H {s with heap:=h' }:=I.kept (t':=s.toks) kp
   have I2:Inv X pins σ (Cs H h'.objs.size (.tup ys)) {s with heap:=h'.push {cls:=.type "tuple", data:=.seq its.toArray}} :=
    I1.laid (t':=s.toks) (fun b o e=>FM _ e) (FQ _) (show cH X.prog X.w _ _ _ (.tup ys)from⟨hz,its,r',o7.new _ _⟩)
   exact⟨.ref h'.objs.size,_,I2,rfl,q _ (I1.hok.fresh (FQ _))⟩
 · obtain⟨its,r',pl,hz⟩:=I.tuple hq
   exact call_tuple_same pl ⟨.ref p,H,I,rfl,q⟩
def Cw(K:W.Frag)(T:String)(x:V)(H:Hp):Prop:=match x with
 | .str _=>T = "str"
 | .int _=>T = "int"
 | .ref p=>(T = "list" /\ ∃xs,EH K H p xs)\/(T = "tuple" /\ ∃xs,EG K H p xs) \/
     (T = "dict" /\ ((∃kvs,H p=some (.dK kvs))\/∃kvs,H p=some (.dT kvs)))\/(T = "set" /\ ∃S n,H p=some (.set S n))
 | _=>False
theorem vf{T:String}{x:V}{v:Value}(I:Inv X pins σ H s)(r:RelV x v)(ty:Cw X.K T x H) :
 s.TypeIs v T/\∀a,v = .ref a->∃ob,s.heap.get? a=some ob/\ob.dict=none:=by
 cases x with
 | str z =>
   obtain⟨t,rfl⟩:=r
   cases(show T = "str" from ty)
   exact⟨typeIs_str s z t,fun _ e=>nomatch e⟩
 | int i =>
   obtain⟨t,rfl⟩:=r
   cases(show T = "int" from ty)
   exact⟨typeIs_int s i t,fun _ e=>nomatch e⟩
 | ref p =>
   cases r
   rcases ty with⟨rfl,xs,hq⟩|⟨rfl,xs,hq⟩|⟨rfl,hk⟩|⟨rfl,S,n,hk⟩
   · obtain⟨its,_,pl,_⟩:=I.list hq
     refine⟨pl.isList.typeIs,fun a e=>?_⟩
     cases e
     obtain⟨o,n,e,c,hd,_⟩:=pl
     exact⟨o,e,hd⟩
   · obtain⟨o,e1,e2,e3⟩:=I.tupleD hq
     refine⟨⟨o,e1,e2⟩,fun a e=>?_⟩
     cases e
     exact⟨o,e1,e3⟩
   · have z:∃o,s.heap.get? p=some o/\o.ExactDict:=by
       rcases hk with⟨kvs,hk⟩|⟨kvs,hk⟩
       · obtain⟨_,_,_,_,o,_,_,e,ex,_⟩:=I.hok p _ hk
         exact⟨o,e,ex⟩
       · obtain⟨_,_,_,_,o,_,_,e,ex,_⟩:=I.hok p _ hk
         exact⟨o,e,ex⟩
     obtain⟨o,e,ex⟩:=z
     refine⟨⟨o,e,ex.1⟩,fun a e2=>?_⟩
     cases e2
     exact⟨o,e,ex.2.1⟩
   · obtain⟨o,_,_,_,e,ex,_⟩:=I.hok p _ hk
     refine⟨⟨o,e,ex.1⟩,fun a e2=>?_⟩
     cases e2
     exact⟨o,e,ex.2.1⟩
 | _=>exact GZ ty
def CP(K:W.Frag)(T:String)(r:V->List V->Hp->VK->Prop)(to:TE)(t:TA):TE:=fun σ H Q=>to σ H fun x H1=>Cw K T x H1/\t σ H1 fun xs H2=>r x xs H2 Q
variable{o e:Expr}{es:List Expr}{to:TE}{t:TA}{name:Str}{apos cpos:Pos}{T id:String}{r:V->List V->Hp->VK->Prop}
theorem yT(pa:PlainAttrs T)(slot:Slot T name id)(hty:typeOf (.builtin id)=pure (.type "method_descriptor"))(hm:E5 X id r)(ho:PE X o to)(ha:PA X (e::es) t)
 (hbase:KC o name X.env (eval o X.env)=eval o X.env:=by rfl)
 (hfew:((Hs cpos (FU (e::es) X.env)).all (fun x=>!x.1)&&(LX cpos (JM [] X.env)).all (fun x=>x.1.isSome)
  && decide ((e::es).length+([]:List Kz).length+(if([]:List Kz).isEmpty then 0 else 1)<30))=true:=by rfl)
 (hline:(apos.endLine==cpos.line)=true:=by rfl)(hs:FU (e::es) X.env=(false,eval e X.env)::FU es X.env:=by rfl)(hplain:(Hs cpos (FU es X.env)).any (·.1)=false:=by rfl) :
 PE X (.Call (.Attribute o name apos) (e::es) [] cpos) (CP X.K T r to t):=by
 intro pins s σ H Q I h
 refine wpAny_Call_method_late hbase hfew hline rfl (CF (ho pins s σ H _ I h) fun v s1 ⟨x,H1,I1,r1,ty,q1⟩=>?_)
 obtain⟨h1,h2⟩:=vf I1 r1 ty
 refine⟨T,id,pa,slot,hty,h1,h2,?_⟩
 have hA:=ha cpos pins s1 σ H1 _ I1 q1
 rw[hs]at hA ⊢
 refine Calls.callWith_builtin (by show(false||(Hs cpos (FU es X.env)).any (·.1))=false;rw[hplain]<;>rfl) (Calls.evalArgs_plain ?_)
 exact CF hA fun us s2 ⟨vs,H2,I2,r2,q2⟩=>hm pins s2 σ H2 x vs v us Q I2 r1 r2 q2
end
def E6(X:Cx)(id:String)(r:V->List V->Hp->VK->Prop):Prop :=
 ∀ (pins:List (Addr×Obj))(s:FO)(σ:St)(H:Hp)(x:V)(xs:List V)(v:Value)(us:List Value)(Q:VK),Inv X pins σ H s->RelV x v->cj xs us->r x xs H Q ->
   Gb (Gn X.prog X.w) X.A (call (.builtin id) (v::us)) (EP X pins σ Q) X.xe s
theorem cj.one:∀{x:V}{us:List Value},cj [x] us->∃u,us=[u]/\RelV x u
 | _,_,.cons r .nil=>⟨_,rfl,r⟩
theorem cj.two:∀{x y:V}{us:List Value},cj [x,y] us->∃u v,us=[u,v]/\RelV x u/\RelV y v
 | _,_,_,.cons r (.cons q .nil)=>⟨_,_,rfl,r,q⟩
theorem cj.zero:∀{us:List Value},cj [] us->us=[]
 | _,.nil=>rfl
theorem cj.eraseIdx:∀{xs:List V}{us:List Value}(i:Nat),cj xs us->cj (xs.eraseIdx i) (us.eraseIdx i)
 | _,_,_,.nil=>.nil
 | _,_,0,.cons _ t=>t
 | _,_,i+1,.cons r t=>.cons r (cj.eraseIdx i t)
theorem cj.reverse{xs:List V}(h:cj xs us):cj xs.reverse us.reverse:=by
 induction h with
 | nil=>exact .nil
 | cons r t ih=>rw[Kl,Kl];exact cj.append ih (.cons r .nil)
section
variable{X:Cx}{pins:List (Addr×Obj)}{σ:St}{H:Hp}{s:FO}{l b:Addr}{xs ys zs:List V}
theorem Inv.lset{its its':List Value}{f:Array Value->Array Value}(I:Inv X pins σ H s)(hH:H l=some (.lst xs))
 (e:s.heap.get? l=some {cls:=.type "list", data:=.seq its.toArray n})(hf:f its.toArray=its'.toArray)(hv:cj ys its')(hz:ys.length<=sizeLine) :
 Inv X pins σ (Cs H l (.lst ys)) {s with heap:=s.heap.update l (L_ f),toks:=t' }:=by
 have q:=PySem.IsL.update e f
 rw[hf]at q
 refine I.write (x:=l) (e:=l) (by rw[hH];exact trivial) (.inl rfl) (fun b' u hb hu=>(Hy s.heap (L_ f) (LB hb)).trans hu) ⟨_,q⟩ ?_
 exact⟨hz,its',_,hv,q⟩
theorem Inv.lnew{its:List Value}(I:Inv X pins σ H s)(hv:cj ys its)(hz:ys.length<=sizeLine) :
 Inv X pins σ (Cs H s.heap.objs.size (.lst ys)) {s with heap:=s.heap.push {cls:=.type "list", data:=.seq its.toArray},toks:=t' } :=
 I.laid (fun _ _ q=>FM _ q) (FQ _) ⟨hz,its,0,hv,FY _ rfl⟩
theorem Inv.fresh(I:Inv X pins σ H s):H s.heap.objs.size=none:=I.hok.fresh (FQ _)
theorem Inv.lstM(I:Inv X pins σ H s)(hH:H l=some (.lst xs)):xs.length<=sizeLine/\∃(its:List Value)(n:Nat),cj xs its/\xs.length=its.length/\s.heap.get? l=some {cls:=.type "list", data:=.seq its.toArray n}:=by
 obtain⟨z,its,n,r,e⟩:=I.hok l _ hH
 exact⟨z,its,n,r,r.length,e⟩
end
section
variable{X:Cx}
def nu:V->List V->Hp->VK->Prop:=fun x vs H Q=>∃l xs y,x = .ref l/\vs=[y]/\H l=some (.lst xs)/\xs.length<sizeLine/\Q .non (Cs H l (.lst (xs++[y])))
theorem fT:E6 X "list.append" nu:=by
 intro pins s σ H x vs v us Q I rx rv h
 obtain⟨l,xs,y,rfl,rfl,hH,hz,q⟩:=h
 cases rx
 obtain⟨u,rfl,ru⟩:=rv.one
 obtain⟨z,its,n,r,hl,e⟩:=I.lstM hH
 refine call_meets F.slot_list_append ⟨_,e,rfl⟩ F.entry_list_append (F.args_list_append_2 _ _) (PySem.list_append l its.toArray n u (by rw[Gk];omega)) ⟨e,?_⟩
 refine⟨.non,_,I.lset (its':=its++[u]) hH e (by simp) (r.append (.cons ru .nil)) ?_,rfl,q⟩
 rw[Gg,HV]
 omega
def AU:R2:=fun x y H Q=>∃l b xs zs,x = .ref l/\y = .ref b/\H l=some (.lst xs)/\H b=some (.lst zs)/\xs.length+zs.length<=sizeLine/\∀p,H p=none->Q (.ref p) (Cs H p (.lst (xs++zs)))
theorem wD:E3 X (IP .Add) AU:=by
 intro pins s σ H x y v u Q I rx ry h
 obtain⟨l,b,xs,zs,rfl,rfl,hH,hB,hz,q⟩:=h
 cases rx
 cases ry
 obtain⟨z,its,n,r,hl,e⟩:=I.lstM hH
 obtain⟨z2,its2,n2,r2,hl2,e2⟩:=I.lstM hB
 refine PySem.P.add_list e e2 ?_ (by rw[Gk,Gk];omega)
 have ea:its.toArray++its2.toArray=(its++its2).toArray:=by simp
 rw[ea]
 exact⟨.ref _,_,I.lnew (t':=s.toks) (r.append r2) (by rw[Gg];omega),rfl,q _ I.fresh⟩
end
section
variable{prog:Gi}{w:G5}{A:Hf}{E:Value->FO->Prop}{s:FO}
end
section
variable{X:Cx}
end
section
variable{κ:Type}[DecidableEq κ]
def fA(kvs:List (κ×V))(k:κ):Option V:=(kvs.find? fun kv=>decide (kv.1=k)).map (·.2)
def dN(kvs:List (κ×V))(k:κ)(v:V):List (κ×V) :=
 if(kvs.any fun kv=>decide (kv.1=k))=true then kvs.map (fun kv=>if kv.1=k then(kv.1,v)else kv)else kvs++[(k,v)]
theorem du{p:κ×V}{r:List (κ×V)}{k:κ}(e:p.1=k):fA (p::r) k=some p.2:=by simp[fA,Hb,e]
theorem gX{p:κ×V}{r:List (κ×V)}{k:κ}(e:¬p.1=k):fA (p::r) k=fA r k:=by simp[fA,Hb,e]
theorem kG(k:κ):∀kvs:List (κ×V),(kvs.any fun kv=>decide (kv.1=k))=(fA kvs k).isSome
 | []=>rfl
 | p::r=>by
   rw[HZ]
   by_cases e:p.1=k
   · simp only[du e,decide_eq_true e,Bool.true_or,Option.isSome_some]
   · rw[gX e,decide_eq_false e,Bool.false_or];exact kG k r
theorem cO(kvs:List (κ×V))(k:κ)(v:V):(dN kvs k v).length<=kvs.length+1:=by
 unfold dN
 split
 · rw[FR];omega
 · rw[Gg,Gp,IK];omega
theorem uB.isSome_eq{o:Option V}{u:Option Value}(r:uB o u):o.isSome=u.isSome:=by
 cases o with
 | none=>cases u with
   | none=>rfl
   | some _=>exact(show False from r).elim
 | some _=>cases u with
   | none=>exact(show False from r).elim
   | some _=>rfl
theorem uB.getD{o:Option V}{u:Option Value}{d:V}{d':Value}(r:uB o u)(rd:RelV d d'):RelV (o.getD d) (u.getD d'):=by
 cases o with
 | none=>cases u with
   | none=>exact rd
   | some _=>exact(show False from r).elim
 | some _=>cases u with
   | none=>exact(show False from r).elim
   | some _=>exact r
theorem KV.val{kvs:List (κ×V)}{vs:List (κ×Value)}(r:KV kvs vs)(k:κ):uB (fA kvs k) (Ma vs k):=by
 unfold KV at r
 induction r with
 | nil=>exact JI
 | @cons p q ps qs h t ih =>
   obtain⟨h1,h2⟩:=h
   by_cases e:p.1=k
   · have e':q.1=k:=h1.symm.trans e
     have b:Ma (q::qs) k=some q.2:=by simp[Ma,Hb,e']
     rw[du e,b];exact h2
   · have e':¬q.1=k:=fun z=>e (h1.trans z)
     have b:Ma (q::qs) k=Ma qs k:=by simp[Ma,Hb,e']
     rw[gX e,b];exact ih
theorem KV.any{kvs:List (κ×V)}{vs:List (κ×Value)}(r:KV kvs vs)(k:κ):(kvs.any fun kv=>decide (kv.1=k))=vs.any fun kv=>decide (kv.1=k):=by
 unfold KV at r
 induction r with
 | nil=>rfl
 | cons h t ih=>rw[HZ,HZ,ih,h.1]
theorem KV.repl{kvs:List (κ×V)}{vs:List (κ×Value)}(r:KV kvs vs)(k:κ){y:V}(ry:RelV y u) :
 KV (kvs.map fun kv=>if kv.1=k then(kv.1,y)else kv) (vs.map fun kv=>if kv.1=k then(kv.1,u)else kv):=by
 unfold KV at r ⊢
 induction r with
 | nil=>exact .nil
 | @cons p q ps qs h t ih =>
   rw[Gz,Gz]
   refine .cons ?_ ih
   obtain⟨h1,h2⟩:=h
   by_cases e:p.1=k
   · rw[if_pos e,if_pos (h1.symm.trans e)];exact⟨h1,ry⟩
   · rw[if_neg e,if_neg (fun z=>e (h1.trans z))];exact⟨h1,h2⟩
theorem KV.put{kvs:List (κ×V)}{vs:List (κ×Value)}(r:KV kvs vs)(k:κ){y:V}(ry:RelV y u):KV (dN kvs k y) (stored vs k u):=by
 unfold dN stored
 rw[r.any k]
 by_cases e:(vs.any fun kv=>decide (kv.1=k))=true
 · rw[if_pos e,if_pos e];exact r.repl k ry
 · rw[if_neg e,if_neg e];exact Hv.snoc r ⟨rfl,ry⟩
theorem KV.keys{kvs:List (κ×V)}{vs:List (κ×Value)}(r:KV kvs vs):kvs.map (·.1)=vs.map (·.1):=by
 unfold KV at r
 induction r with
 | nil=>rfl
 | cons h t ih=>rw[Gz,Gz,ih,h.1]
theorem KV.length{kvs:List (κ×V)}{vs:List (κ×Value)}(r:KV kvs vs):kvs.length=vs.length:=HC r
end
theorem n_{w:G5}{k:E7}(r:RelV (kV k) u):(bA P w).is k u=true:=by
 cases k with
 | inl i=>obtain⟨t,e⟩:=(show ∃t,u=K1 i t from r);subst e;exact jS P w i t
 | inr x=>obtain⟨t,e⟩:=(show ∃t,u=LP x t from r);subst e;exact jR P w x t
theorem jg{P:Gi}{w:G5}:∀{ks:List E7}{us:List Value},cj (ks.map kV) us->ItemsAre (bA P w) ks us
 | [],_,r=>by rw[Ka]at r;cases r;exact .nil
 | k::ks,_,r=>by
   rw[Gz]at r
   cases r with
   | cons h t=>exact .cons (n_ h) (jg t)
abbrev KT(H:Hp):List (List E7×V)->List (List E7×Addr×Value)->Prop:=Hv fun p q=>p.1=q.1/\H q.2.1=some (.tup (p.1.map kV))/\RelV p.2 q.2.2
theorem KT.val{xs:List (List E7×Addr×Value)}(r:KT H kvs xs)(k:List E7):uB (fA kvs k) ((MF xs k).map (·.2)):=by
 induction r with
 | nil=>exact JI
 | @cons p q ps qs h t ih =>
   obtain⟨h1,_,h2⟩:=h
   by_cases e:p.1=k
   · have e':q.1=k:=h1.symm.trans e
     have b:MF (q::qs) k=some q.2:=by simp[MF,Hb,e']
     rw[du e,b];exact h2
   · have e':¬q.1=k:=fun z=>e (h1.trans z)
     have b:MF (q::qs) k=MF qs k:=by simp[MF,Hb,e']
     rw[gX e,b];exact ih
theorem KT.repl{xs:List (List E7×Addr×Value)}(r:KT H kvs xs)(k:List E7){y:V}(ry:RelV y u) :
 KT H (kvs.map fun kv=>if kv.1=k then(kv.1,y)else kv) (xs.map (putAt k u)):=by
 induction r with
 | nil=>exact .nil
 | @cons p q ps qs h t ih =>
   rw[Gz,Gz]
   refine .cons ?_ ih
   obtain⟨h1,h2,h3⟩:=h
   unfold putAt
   by_cases e:p.1=k
   · rw[if_pos e,if_pos (h1.symm.trans e)];exact⟨h1,h2,ry⟩
   · rw[if_neg e,if_neg (fun z=>e (h1.trans z))];exact⟨h1,h2,h3⟩
theorem KT.put{xs:List (List E7×Addr×Value)}(r:KT H kvs xs)(k:List E7){b:Addr}{y:V}(hb:H b=some (.tup (k.map kV)))(ry:RelV y u) :
 KT H (dN kvs k y) (storedH xs k b u):=by
 have e:(kvs.any fun kv=>decide (kv.1=k))=(MF xs k).isSome:=by
  rw[kG,(r.val k).isSome_eq,Option.isSome_map]
 unfold dN storedH
 rw[e]
 by_cases q:(MF xs k).isSome=true
 · rw[if_pos q,if_pos q];exact r.repl k ry
 · rw[if_neg q,if_neg q];exact Hv.snoc r ⟨rfl,hb,ry⟩
theorem KT.keeps{xs:List (List E7×Addr×Value)}(r:KT H kvs xs)(ht:∀b ys,H b=some (.tup ys)->H' b=some (.tup ys)):KT H' kvs xs :=
 Hv.mapP r fun _ _ z=>⟨z.1,ht _ _ z.2.1,z.2.2⟩
section
variable{P:Gi}{w:G5}{H:Hp}{h:Heap}{a:Addr}
theorem vN{u:HO}(ok:Fj P w H h)(e:Rd H a u):cH P w H h a u:=e.ok ok
theorem qD{kvs:List (E7×V)}(ok:Fj P w H h)(e:Rd H a (.dK kvs)):kvs.length<=sizeLine/\(a==IN)=false/\∃vs,KV kvs vs/\h.DictOf (bA P w) a vs :=
 show cH P w H h a (.dK kvs)from vN ok e
theorem uh{kvs:List (E7×V)}(ok:Fj P w H h)(e:H a=some (.dK kvs)):kvs.length<=sizeLine/\(a==IN)=false/\∃vs,KV kvs vs/\h.DictOf (bA P w) a vs:=qD ok (.inl e)
theorem nZ{ks:List E7}(ok:Fj P w H h)(e:H a=some (.tup (ks.map kV))):(LQ (bA P w)).is h ks a:=by
 obtain⟨_,its,r,o,h1,h2,⟨n,h3⟩,_⟩:=(show cH P w H h a (.tup (ks.map kV))from ok a _ e)
 exact⟨o,its.toArray,n,h1,h2,h3,by simpa using jg r⟩
theorem uf(ok:Fj P w H h)(e:Rd H a (.dT kvs)):kvs.length<=sizeLine/\(a==IN)=false /\
 ∃xs,KT H kvs xs/\h.DictOfH (LQ (bA P w)) a xs:=by
 obtain⟨z,y,xs,r,o,es,ep,h1,h2,h3,h4,h5⟩:=(show cH P w H h a (.dT kvs)from vN ok e)
 refine⟨z,y,xs,r,o,es,ep,h1,h2,h3,h4,fun x hx=>?_,h5⟩
 have all:∀{l:List (List E7×V)}{m:List (List E7×Addr×Value)},KT H l m->∀x∈m,(LQ (bA P w)).is h x.1 x.2.1:=by
  intro l m q
  induction q with
  | nil=>intro x hx;exact nomatch hx
  | @cons p q ps qs hq t ih =>
    intro x hx
    rcases Gh.mp hx with e|hx
    · subst e
      exact nZ ok (by rw[<- hq.1];exact hq.2.1)
    · exact ih x hx
 exact all r x hx
theorem zB(ok:Fj P w H h)(e:H a=some (.dT kvs)):kvs.length<=sizeLine/\(a==IN)=false /\
 ∃xs,KT H kvs xs/\h.DictOfH (LQ (bA P w)) a xs:=uf ok (.inl e)
end
def xF(H:Hp)(a:Addr)(y:V)(r:Option V):Prop :=
 (∃kvs k,Rd H a (.dK kvs)/\y=kV k/\r=fA kvs k)\/∃kvs k b,Rd H a (.dT kvs)/\y = .ref b/\H b=some (.tup (k.map kV))/\r=fA kvs k
def xY(H:Hp)(a:Addr)(y v:V)(H':Hp):Prop :=
 (∃kvs k,H a=some (.dK kvs)/\y=kV k/\kvs.length<sizeLine/\H'=Cs H a (.dK (dN kvs k v))) \/
 ∃kvs k b,H a=some (.dT kvs)/\y = .ref b/\H b=some (.tup (k.map kV))/\kvs.length<sizeLine/\H'=Cs H a (.dT (dN kvs k v))
theorem xF.k{H:Hp}{a:Addr}{kvs:List (E7×V)}{k:E7}(e:H a=some (.dK kvs)):xF H a (kV k) (fA kvs k):=.inl ⟨kvs,k,.inl e,rfl,rfl⟩
theorem xF.t{b:Addr}{k:List E7}(e:H a=some (.dT kvs))(eb:H b=some (.tup (k.map kV))):xF H a (.ref b) (fA kvs k):=.inr ⟨kvs,k,b,.inl e,rfl,eb,rfl⟩
theorem xY.k{H:Hp}{a:Addr}{kvs:List (E7×V)}{k:E7}{v:V}(e:H a=some (.dK kvs))(hl:kvs.length<sizeLine):xY H a (kV k) v (Cs H a (.dK (dN kvs k v))):=.inl ⟨kvs,k,e,rfl,hl,rfl⟩
theorem xY.t{b:Addr}{k:List E7}(e:H a=some (.dT kvs))(eb:H b=some (.tup (k.map kV)))(hl:kvs.length<sizeLine) :
 xY H a (.ref b) v (Cs H a (.dT (dN kvs k v))):=.inr ⟨kvs,k,b,e,rfl,eb,hl,rfl⟩
section
variable{X:Cx}{pins:List (Addr×Obj)}{σ:St}{H:Hp}{s:FO}{a:Addr}{y v:V}{u r:Value}{o:Option V}{A:Hf}{E:Value->FO->Prop}
theorem Inv.big(I:Inv X pins σ H s):IN<s.heap.objs.size:=by
 have h:GQ<s.heap.objs.size:=(I.mod.glob.keeps I.bk).lt
 exact K5 (by decide) h
theorem oK(hu:A.units+1<LW)(I:Inv X pins σ H s)(g:xF H a y (some v))(ry:RelV y u)(h:∀w' s',Inv X pins σ H s'->RelV v w'->Q w' s') :
 Gb (Gn X.prog X.w) A (KB (.ref a) u) Q E s:=by
 rcases g with⟨kvs,k,e,ey,l⟩|⟨kvs,k,b,e,ey,eb,l⟩
 · subst ey
   obtain⟨z,hd,vs,rel,dd⟩:=qD I.hok e
   obtain⟨w',hw,rw'⟩:=uB.some_of (v:=v) (o:=Ma vs k) (by rw[l];exact rel.val k)
   exact wpAny_getItem_of (n_ ry) dd.mapOf hw (h w' _ (I.tok _) rw')
 · subst ey
   cases(show u=Ia b from ry)
   obtain⟨z,hd,xs,rel,dd⟩:=uf I.hok e
   obtain⟨w',hw,rw'⟩:=uB.some_of (v:=v) (o:=(MF xs k).map (·.2)) (by rw[l];exact rel.val k)
   obtain⟨p,hp,hp2⟩:=Jr.mp hw
   refine wpAny_getItem_heap (tupleKind_room_in1 hu) (nZ I.hok eb) dd hp ?_
   rw[hp2]
   exact h w' _ (I.tok _) rw'
theorem iB{ob:HO}(I:Inv X pins σ H s)(mu:E4 (H a))(hs:Ij a s.heap h')(he:∃q,h'.get? a=some q)(new:cH X.prog X.w (Cs H a ob) h' a ob) :
 Inv X pins σ (Cs H a ob) {s with heap:=h',toks:=t' } :=
 I.write (x:=a) (e:=a) mu (.inl rfl) (fun b q hb z=>(hs.2 b hb).trans z) he new
theorem dk_new{w:G5}{kvs:List (E7×V)}{vs:List (E7×Value)}(z:kvs.length<=sizeLine)(hd:(a==IN)=false)(rel:KV kvs vs)(dd:h'.DictOf (bA P w) a vs) :
 cH P w H' h' a (.dK kvs):=⟨z,hd,vs,rel,dd⟩
theorem oJ{Q:Unit->FO->Prop}(hu:A.units+1<LW)(I:Inv X pins σ H s)(g:xY H a y v H')(ry:RelV y u)(rv:RelV v r)(h:∀s',Inv X pins σ H' s'->Q () s') :
 Gb (Gn X.prog X.w) A (setItem (.ref a) u r) Q E s:=by
 rcases g with⟨kvs,k,e,ey,l,eH⟩|⟨kvs,k,b,e,ey,eb,l,eH⟩
 · subst ey eH
   obtain⟨z,hd,vs,rel,dd⟩:=uh I.hok e
   have hz:vs.length<=sizeLine:=by rw[<- rel.length];exact z
   have hl:(dN kvs k v).length<=sizeLine:=by have:=cO kvs k v;omega
   refine wpAny_setItem_pairs (hsz:=hz) (n_ ry) dd fun h' dd' hs=>h _ ?_
   have he:∃q,h'.get? a=some q:=let ⟨q,_,_,hq,_⟩:=dd';⟨q,hq⟩
   exact iB I (by rw[e];exact JI) hs he (dk_new hl hd (rel.put k rv) dd')
 · subst ey eH
   cases(show u=Ia b from ry)
   obtain⟨z,hd,xs,rel,dd⟩:=zB I.hok e
   have hz:xs.length<=sizeLine:=by rw[<- HC rel];exact z
   have hl:(dN kvs k v).length<=sizeLine:=by have:=cO kvs k v;omega
   refine wpAny_setItem_heap (hsz:=hz) (tupleKind_room_in1 hu) (nZ I.hok eb) dd fun h' dd' hs=>h _ ?_
   obtain⟨q,es,ep,hq,h2,h3,h4,_,h5⟩:=dd'
   refine iB I (by rw[e];exact JI) hs ⟨q,hq⟩ ⟨hl,hd,_,(rel.put k eb rv).keeps fun c ys ec=>?_,q,es,ep,hq,h2,h3,h4,h5⟩
   rw[ar (yZ ec e (fun z=>nomatch z))]
   exact ec
end
section
variable{X:Cx}{pins:List (Addr×Obj)}{σ:St}{H:Hp}{s:FO}{a:Addr}{kvs:List (E7×V)}{k:E7}{u:Value}{A:Hf}{E:Value->FO->Prop}
end
def uC(i:Expr):Prop:=∀ov iv,LF i false ov iv=operate [ov,iv] (KB ov iv)
theorem sy{prog:Gi}{w:G5}{env:Env}{value slice:Expr}{T id:String}
 (hl:typeLookup (.type T) "__getitem__" = pure (some (.builtin id)))(hs:uC slice)
 (h:Gb (Gn prog w) A (eval value env) (fun o s₁=>Gb (Gn prog w) A (eval slice env) (fun i s₂=>s₂.TypeIs o T/\Gb (Gn prog w) A (KB o i) Q E s₂) E s₁) E s) :
 Gb (Gn prog w) A (eval (.Subscript value slice pos) env) Q E s:=by
 refine Subscript_ (Gr h (fun o s₁ h₁=>Gr h₁ (fun i s₂ h₂=>?_) fun _ _ x=>x) fun _ _ x=>x)
 obtain⟨hT,h₂⟩:=h₂
 unfold L0
 refine FI ?_
 rw[getitemInPython_of_ne hT.not_modules]
 refine FI (wpAny_specialOf hT hl ?_)
 have fin:Gb (Gn prog w) A (LF slice false o i) (fun r s₃=>Gb (Gn prog w) A (letTemporaryGo value o r >>= fun _=>pure r) Q E s₃) E s₂:=by
  rw[hs o i]
  exact wpAny_operating (Gr h₂ (fun r s₃ h₃=>FI (wpAny_letTemporaryGo (FS h₃))) fun _ _ x=>x)
 first
  | exact FS (FI fin)
  | exact FI (FS (FI fin))
  | exact FI fin
theorem jY{y:V}{o:Option V}(I:Inv X pins σ H s)(g:xF H a y o):s.TypeIs (.ref a) "dict" := by
 rcases g with⟨kvs,k,e,_,_⟩|⟨kvs,k,b,e,_,_,_⟩
 · obtain⟨_,_,vs,_,dd⟩:=qD I.hok e
   exact dd.typeIs
 · obtain⟨_,_,xs,_,dd⟩:=uf I.hok e
   exact dd.typeIs
def yD(td ty:TE):TE:=fun σ H Q=>td σ H fun x H1=>ty σ H1 fun y H2=>∃a v,x = .ref a/\xF H2 a y (some v)/\Q v H2
def yG(td ty tv:TE):TS:=fun D σ H=>tv σ H fun v H1=>td σ H1 fun x H2=>ty σ H2 fun y H3=>∃a H4,x = .ref a/\xY H3 a y v H4/\D.nx σ H4
section
variable{X:Cx}{o i e value:Expr}{pos pos' tpos:Pos}{td ty tv:TE}
theorem il(hu:X.A.units+1<LW)(ho:PE X o td)(hi:PE X i ty)(hs:uC i):PE X (.Subscript o i pos) (yD td ty):=by
 intro pins s σ H Q I h
 refine sy PySem.F.slot_dict_getitem.lookup hs (CF (ho pins s σ H _ I h) fun u s1 ⟨x,H1,I1,rx,q1⟩=>CF (hi pins s1 σ H1 _ I1 q1) fun iv s2 ⟨y,H2,I2,ry,a,v,ex,g,q2⟩=>?_)
 subst ex
 obtain rfl:u=Ia a:=rx
 exact⟨jY I2 g,oK hu I2 g ry fun w' s3 I3 rw'=>⟨v,H2,I3,rw',q2⟩⟩
theorem nE(hu:X.A.units+1<LW)(ho:PE X o td)(hi:PE X i ty)(hv:PE X value tv)(hs:HS value (some (.Subscript o i pos')) pos.line X.env=pure false) :
 PS X (.Assign [.Subscript o i pos'] value pos) (yG td ty tv):=by
 intro pins s σ H D I h
 refine wpAny_Assign_Subscript (CF (hv pins s σ H _ I h) fun r s1 ⟨v,H1,I1,rv,q1⟩=>CF (ho pins s1 σ H1 _ I1 q1) fun u s2 ⟨x,H2,I2,rx,q2⟩=>CF (hi pins s2 σ H2 _ I2 q2) fun iv s3 ⟨y,H3,I3,ry,a,H4,ex,g,q3⟩=>?_) hs
 subst ex
 obtain rfl:u=Ia a:=rx
 exact oJ hu I3 g ry rv fun s4 I4=>⟨σ,H4,I4,q3⟩
end
theorem iz{w:G5}(h:Heap)(hb:IN<h.objs.size):cH P w H (h.push {cls:=.type "dict", data:=.dict #[]}) h.objs.size (.dK []) :=
 ⟨Gw _,beq_eq_false_iff_ne.mpr (LB (Gx hb)),[],.nil,Heap.DictOf.new h⟩
section
variable{X:Cx}{pos:Pos}
end
def mV:List (TE×TE)->St->Hp->(List (V×V)->Hp->Prop)->Prop
 | [],_,H,Q=>Q [] H
 | (tk,tv)::r,σ,H,Q=>tk σ H fun x H1=>tv σ H1 fun y H2=>mV r σ H2 fun ps H3=>Q ((x,y)::ps) H3
abbrev VV:List (V×V)->List (Value×Value)->Prop:=Hv fun p q=>RelV p.1 q.1/\RelV p.2 q.2
def EV(X:Cx)(pos:Pos)(keys:List (Option Expr))(values:List Expr)(trs:List (TE×TE)):Prop :=
 ∀ (pins:List (Addr×Obj))(s:FO)(σ:St)(H:Hp)(Q:List (V×V)->Hp->Prop),Inv X pins σ H s->mV trs σ H Q ->
   Gb (Gn X.prog X.w) X.A (evalPairs (pairTrees keys values X.env pos)) (fun vs s'=>∃ps H',Inv X pins σ H' s'/\VV ps vs/\Q ps H') X.xe s
theorem sS:EV X pos [] [] []:=fun pins s σ H Q I h=>pairTrees_nil_walk ⟨[],H,I,.nil,h⟩
theorem ig{k v:Expr}{ks:List (Option Expr)}{vs:List Expr}{tk tv:TE}{trs:List (TE×TE)}(hk:PE X k tk)(hv:PE X v tv)(hr:EV X pos ks vs trs) :
 EV X pos (some k::ks) (v::vs) ((tk,tv)::trs):=fun pins s σ H Q I h =>
 pairTrees_cons_walk (CF (hk pins s σ H _ I h) fun u s1 ⟨x,H1,I1,rx,q1⟩=>CF (hv pins s1 σ H1 _ I1 q1) fun w2 s2 ⟨y,H2,I2,ry,q2⟩ =>
  CF (hr pins s2 σ H2 _ I2 q2) fun ws s3 ⟨ps,H3,I3,rel,q3⟩=>⟨(x,y)::ps,H3,I3,.cons ⟨rx,ry⟩ rel,q3⟩)
def fU(kvs more:List (E7×V)):List (E7×V):=more.foldl (fun acc kv=>dN acc kv.1 kv.2) kvs
theorem KV.merge:∀{more:List (E7×V)}{rs:List (E7×Value)}{kvs:List (E7×V)}{vs:List (E7×Value)},KV more rs->KV kvs vs->KV (fU kvs more) (merged vs rs):=by
 intro more rs kvs vs r
 unfold KV at r
 induction r generalizing kvs vs with
 | nil=>intro q;exact q
 | @cons p q ps qs h t ih =>
   intro r0
   have e:KV (dN kvs p.1 p.2) (stored vs q.1 q.2):=by
    have:=r0.put p.1 h.2
    rw[<- h.1];exact this
   exact ih e
theorem ee:∀(more kvs:List (E7×V)),(fU kvs more).length<=kvs.length+more.length
 | [],kvs=>by show kvs.length<=kvs.length+0;omega
 | p::r,kvs=>by
   have h1:=ee r (dN kvs p.1 p.2)
   have h2:=cO kvs p.1 p.2
   show(fU (dN kvs p.1 p.2) r).length<=_
   rw[Gp];omega
theorem gR{P:Gi}{w:G5}:∀{kvs:List (E7×V)}{ws:List (Value×Value)},VV (kvs.map fun kv=>(kV kv.1,kv.2)) ws->∃rs,Carries (bA P w) ws rs/\KV kvs rs
 | [],_,r=>by rw[Ka]at r;cases r;exact⟨[],JI,.nil⟩
 | p::kvs,_,r=>by
   rw[Gz]at r
   cases r with
   | @cons a b as bs h t =>
     obtain⟨rs,c,q⟩:=gR (P:=P) (w:=w) t
     obtain⟨b1,b2⟩:=b
     exact⟨(p.1,b2)::rs,⟨n_ h.1,rfl,c⟩,.cons ⟨rfl,h.2⟩ q⟩
def yC(trs:List (TE×TE)):TE:=fun σ H Q=>∀p,H p=none->mV trs σ (Cs H p (.dK [])) fun ps H2=>H2 p=some (.dK [])/\∃kvs:List (E7×V),ps=kvs.map (fun kv=>(kV kv.1,kv.2))/\kvs.length<=15/\Q (.ref p) (Cs H2 p (.dK (fU [] kvs)))
theorem tp{keys:List (Option Expr)}{values:List Expr}{trs:List (TE×TE)}(h:EV X pos keys values trs)(hall:keys.all (·.isSome)=true)(hl:keys.length=values.length)(h0:keys≠[])
 (h15:keys.length<=15):PE X (.Dict keys values pos) (yC trs):=by
 intro pins s σ H Q I q
 have hn:=I.hok.fresh (FQ s.heap.objs.size)
 have I1:=I.laid (a:=s.heap.objs.size) (o:=.dK []) (h':=s.heap.push {cls:=.type "dict", data:=.dict #[]}) (t':=s.toks) (fun _ _ q=>FM _ q) (FQ _) (iz s.heap I.big)
 refine wpAny_Dict_walk (knd:=bA X.prog X.w) hall hl h0 h15 (CF (h pins _ σ _ _ I1 (q _ hn)) fun ws s2 ⟨ps,H2,I2,rel,e,kvs,ep,lk,q2⟩=>?_)
 subst ep
 obtain⟨rs,c,rk⟩:=gR (P:=X.prog) (w:=X.w) rel
 obtain⟨z,hd,vs0,r0,dd⟩:=uh I2.hok e
 cases r0
 refine⟨rs,c,dd,fun h' dd' hs=>⟨.ref s.heap.objs.size,_,?_,rfl,q2⟩⟩
 have hz:(fU [] kvs).length<=sizeLine:=by
  have h1:=ee kvs []
  rw[IK]at h1
  rw[sizeLine_eq];omega
 have he:∃q,h'.get? s.heap.objs.size=some q:=let ⟨q,_,_,hq,_⟩:=dd';⟨q,hq⟩
 exact iB I2 (by rw[e];exact JI) hs he (dk_new hz hd (rk.merge .nil) dd')
structure M1 (X:Cx) (o:Expr) (m:Str) (apos:Pos) (e:Expr) (cpos:Pos):Prop where
 base:KC o m X.env (eval o X.env)=eval o X.env
 few:((Hs cpos (FU [e] X.env)).all (fun x=>!x.1)&&(LX cpos (JM [] X.env)).all (fun x=>x.1.isSome)
  && decide (([e]:List Expr).length+([]:List Kz).length+(if([]:List Kz).isEmpty then 0 else 1)<30))=true
 line:(apos.endLine==cpos.line)=true
 trees:Hs cpos (FU [e] X.env)=[(false,eval e X.env)]
section
variable{X:Cx}{pins:List (Addr×Obj)}{σ:St}{H:Hp}{s:FO}{a:Addr}{y d:V}{u r:Value}{o:Option V}{A:Hf}{E:Value->FO->Prop}
end
section
variable{X:Cx}{o e f:Expr}{apos cpos:Pos}{td ty tx:TE}
end
section
variable{X:Cx}{pins:List (Addr×Obj)}{σ:St}{H:Hp}{s:FO}{a:Addr}{kvs:List (E7×V)}{A:Hf}{E:Value->FO->Prop}
end
section
variable{X:Cx}{pins:List (Addr×Obj)}{σ:St}{H:Hp}{s:FO}{a:Addr}{y:V}{u:Value}{A:Hf}{E:Value->FO->Prop}
end
end L2
namespace Att
open PySem PySem.W PySem.Calls PyProof.Rows
theorem fZ{P:MC}:∀(ns:List Int)(vs:List Value),WellAll P h vs (ns.map WData.int)->JN vs ns:=by
 intro ns
 induction ns with
 | nil =>
   intro vs w
   rw[Ka]at w
   cases w
   exact .nil
 | cons n ns ih =>
   intro vs w
   rw[Gz]at w
   cases w with
   | cons a b =>
     cases a
     exact .cons _ _ (ih _ b)
theorem na{l:MD}(hn:l.most=some n){P:MC}{args:List WData}{vals:List Value}
 (hpre:l.row.toRowW.claim.pre args=true)(hwl:WellAll P h vals args) :
 ∃a vs ns,vals=[Ia a]/\args=[WData.list (ns.map WData.int)]/\h.get? a=some {cls:=.type "list", data:=.seq vs.toArray}/\JN vs ns/\ns.length<=n:=by
 have hsh:WShape.hasAll [] args [.list .int]=true:=(pre_splitW hpre).1
 have hc:l.pre.holds [] {args:=args}=true:=(pre_splitW hpre).2
 obtain⟨d,r,rfl,h1,h2⟩:=hasAllW_cons hsh
 obtain rfl:=hasAllW_nil h2
 obtain⟨xs,rfl,h3⟩:=hasW_list h1
 obtain⟨ns,rfl⟩:=items_int h3
 have hlen:ns.length<=n:=by
  unfold MD.pre at hc
  have h4:(WTm.not (.lt (.lit (.int (n:Int))) (.len (.arg 0)))).holds [] {args:=[.list (ns.map .int)]}=true:=by
   have h4:=(holds_andW hc).1
   rw[hn]at h4
   exact h4
  have h5:=condW_of h4 (w_not (w_lt w_lit (w_len_list (w_arg rfl))))
  rw[FR]at h5
  refine Nat.le_of_not_lt fun q=>?_
  have q':(n:Int)<((ns.length:Nat):Int):=by omega
  first
   | (rw[decide_eq_true q']at h5;exact absurd h5 (by decide))
   | (simp at h5;omega)
 cases hwl with
 | cons w1 w2 =>
   cases w2
   cases w1 with
   | list ho hall=>exact⟨_,_,ns,rfl,rfl,ho,fZ ns _ hall,hlen⟩
theorem nF(l:MD)(args:List WData):l.row.toRowW.claim.post args (.bool true) args=true :=
 postW_of (r:=l.row.toRowW) (X:=(true==true))
  (show WShape.has [] (.bool true) .bool=true by first|rfl|decide|simp[WShape.has,WShape.arms,WShape.armsAll])
  (show(WTm.eq .res (.lit (.bool true))).value [] {args:=args,res:=some (.bool true),after:=args}=some (.bool (true==true))from w_eq_bool (w_res rfl) w_lit) rfl
theorem attach_call{l:MD}{q:Gi}{YP:G5->Heap->Prop}{d:DefRec}
 (hn:l.most=some n)(hdf:d.params.defaults=[])
 (call:∀(w:G5)(s₀ s₁:FO)(mg mb:Str->Option Value)(fa:Addr)(o:Obj)(pm cd doc:Value)(a:Addr)(vs:List Value)(ns:List Int),
  Ground q loose [] XP w s₀ mg mb s₁.heap->YP w s₁.heap ->
  s₁.heap.get? fa=some o->o.data = .func (docDef d.name d.params d.body d.scope pm cd doc)->s₁.heap.CodeRec cd d.name->mg d.name=some (.ref fa) ->
  s₁.heap.get? a=some {cls:=.type "list", data:=.seq vs.toArray}->JN vs ns->ns.length<=n->s₁.gens = #[] ->
  HY (Gn l.prog w) Mc (.call (.ref fa) ⟨[.ref a],[]⟩) (fun r s'=>r = .ok (.ret (.bool true))/\OldK s₁.heap s'.heap/\s'.os=s₁.os/\LA s'.gens) s₁) :
 WalkO q loose XP YP l.row.toRowW d [] (fun f vs=>PySem.call f vs):=by
 intro w s₀ s₁ mg mb G Y fa o pm cd doc dV kV ho hd hcd hD hmg hg args vals as hpre hlay hrd hwl hlo
 obtain rfl:dV = .none:=Dflts.none hD hdf
 obtain rfl:kV = .none:=Dflts.noKw hD
 obtain⟨a,vs,ns,rfl,rfl,hobj,hints,hlen⟩:=na hn hpre hwl
 refine enter_call (JB (call w s₀ s₁ mg mb fa o pm cd doc a vs ns G Y ho (fd_plain hd) hcd hmg hobj hints hlen hg) fun r s' hq=>?_)
 obtain⟨rfl,h2,h3,h4⟩:=hq
 exact⟨.inl ⟨.bool true,.bool true,[],rfl,fun _=>rfl,.bool true,nF l _,fun _=>⟨Km,fun _ hm=>(nomatch hm)⟩⟩,h2,h3,h4⟩
section
variable{prog:Gi}{w:G5}{A:Hf}{E:Value->FO->Prop}{s:FO}{K:Frag}
end
end Att
namespace L2
theorem iN:∀{vs:List Value}{ns:List Int},JN vs ns->cj (ns.map V.int) vs
 | _,_,.nil=>.nil
 | _,_,.cons n t h=>.cons ⟨t,rfl⟩ (iN h)
def zK(H:Hp):Prop:=∀b,H b=none\/∃o xs,H b=some (.frz o (.lst xs))
theorem qf{w:G5}{K:W.Frag}{mb:Str->Option Value}{CX:Fp}{k:Nat}{fa:Addr}{sp:Sp}{s₁:FO}{vs:List Value}
 (KX:K.In s₁.heap)(hns:s₁.heap.Ns GQ mg)(hb:s₁.heap.Ns builtinsNs mb)(hbb:∀x:Str,x ≠ "__name__" -> mb x=II x)(hlim:s₁.heap.NoLimit)(hg:s₁.gens = #[])
 (ha:s₁.heap.get? a=some {cls:=.type "list", data:=.seq vs.toArray})(hi:JN vs ns)(hl:ns.length<=sizeLine)(hr:Room k Mc)
 (F:∀base:Heap,K.In base->base.Ns GQ mg->FnOk P w K mg base CX k fa fd [x] sp)(hbind:∀(s:FO)(u:Value),Ms s fd ⟨[u],[]⟩ [(x,u)])
 (hsp:∀H:Hp,zK H->EH K H a (ns.map V.int)->sp [.ref a] H (fun v _=>v = .bl true) fun _ _ _=>False)
 (hCX:∀H e s',CX [] H s₁ (fun _ _ _=>False) e s'->False) :
 HY (Gn P w) Mc (.call (.ref fa) ⟨[.ref a],[]⟩) (fun r s'=>r = .ok (.ret (.bool true))/\OldK s₁.heap s'.heap/\s'.os=s₁.os/\LA s'.gens) s₁:=by
 have rv:=iN hi
 have lenV:=hi.length
 have core:∀H:Hp,zK H->EH K H a (ns.map V.int)->Fj P w H s₁.heap->(∀b,H b≠none->b=a)->(H a≠none->K.lookup a=none) ->
  HY (Gn P w) Mc (.call (.ref fa) ⟨[.ref a],[]⟩) (fun r s'=>r = .ok (.ret (.bool true))/\OldK s₁.heap s'.heap/\s'.os=s₁.os/\LA s'.gens) s₁:=by
  intro H hO hS hok hA hK
  have base_of:∀{b:Addr}{o:Obj},s₁.heap.get? b=some o->H b=none->(qo s₁.heap H).get? b=some o:=fun e n=>qm e n
  have noA:∀{b:Addr}{o:Obj}{es:Array DictEntry}{ep:Nat},s₁.heap.get? b=some o->o.data = .dict es ep->H b=none:=fun{b o es ep} e d=>by
   cases q:H b with
   | none=>rfl
   | some u =>
     have e':b=a:=hA b (by rw[q];simp)
     subst e'
     rw[ha]at e;cases e
     have d':Data.seq vs.toArray _=Data.dict es ep:=d
     cases d'
  have nsK:∀{b:Addr}{m:Str->Option Value},s₁.heap.Ns b m->(qo s₁.heap H).Ns b m:=fun{b m} ⟨o,es,ep,e,d,r⟩=>⟨o,es,ep,base_of e (noA e d),d,r⟩
  have hKb:K.In (qo s₁.heap H):=fun b o e=>base_of (KX b o e) (by
   cases q:H b with
   | none=>rfl
   | some u =>
     have e':b=a:=hA b (by rw[q];simp)
     subst e'
     rw[hK (by rw[q];simp)]at e;cases e)
  have hM:Mod K mg (qo s₁.heap H):=⟨hKb,nsK hns,⟨mb,nsK hb,hbb⟩,let ⟨mc,h1,h2⟩:=hlim;⟨mc,nsK h1,h2⟩⟩
  have e0:Env0 P w K mg (qo s₁.heap H) Mc [] s₁ H:=⟨rfl,hM,fun b o e=>tK e,Nat.le_of_eq (om _ _),trivial,fun b hb=>absurd (show b∈([]:List Addr)from hb) (by simp),hok,.of_eq hg⟩
  refine JB ((F _ hKb (nsK hns)).run Mc [] s₁ H ⟨[.ref a],[]⟩ [.ref a] [.ref a] _ _ hr e0 (hbind s₁ (.ref a)) (.cons rfl .nil) (hsp H hO hS)) fun r s' h=>?_
  cases r with
  | error e=>exact(hCX H e s' h).elim
  | ok fl =>
    cases fl with
    | next=>exact GZ h
    | brk=>exact GZ h
    | cont=>exact GZ h
    | ret u =>
      obtain⟨v,H',os,bare,un,hok',r',q⟩:=h
      have q':v = .bl true:=q
      subst q'
      obtain rfl:u=L8 true:=r'
      refine⟨rfl,OldK.of_keep fun b o e=>?_,os,bare⟩
      cases q:H b with
      | none=>exact un.keep b o e q (by intro z;exact absurd (show b∈([]:List Addr)from z) (by simp)) (by simp)
      | some u =>
        rcases hO b with z|⟨ob,xs,z⟩
        · rw[q]at z;cases z
        · have z2:=un.frzs b ob _ z
          obtain⟨e1,_⟩:=hok b _ z
          obtain⟨e2,_⟩:=hok' b _ z2
          rw[e]at e1;cases e1
          exact e2
 cases hk:K.lookup a with
 | some o =>
   have e:=KX a o hk
   rw[ha]at e
   cases e
   refine core (fun _=>none) (fun _=>.inl rfl) (.inr ⟨_,vs.toArray,_,hk,rfl,rfl,rfl,by rw[Gk,lenV];exact hl,by simpa using rv⟩) (fun b u z=>by have z':(none:Option HO)=some u:=z;cases z') (fun b z=>absurd rfl z) fun z=>absurd rfl z
 | none =>
   refine core (fun b=>if b=a then some (.frz {cls:=.type "list", data:=.seq vs.toArray} (.lst (ns.map V.int)))else none) (fun b=>?_) (.inl (.inr ⟨{cls:=.type "list", data:=.seq vs.toArray},if_pos rfl⟩)) (fun b u z=>?_) (fun b z=>?_) fun _=>hk
   · by_cases hb:b=a
     · exact .inr ⟨_,_,if_pos hb⟩
     · exact .inl (if_neg hb)
   · by_cases hb:b=a
     · have z':=(if_pos hb).symm.trans z
       cases z'
       subst hb
       exact⟨ha,by rw[FR];exact hl,vs,_,rv,ha⟩
     · have z':=(if_neg hb).symm.trans z
       cases z'
   · by_cases hb:b=a
     · exact hb
     · exact absurd (if_neg hb) z
theorem walk_of{l:W.OpenLaw}{k:Nat}{q:Gi}{YP:G5->Heap->Prop}{d:DefRec}{K:MC->W.Frag}{CX:G5->Fp}{sp:G5->Sp}
 (hn:l.most=some n)(hn2:n<=sizeLine)(hdf:d.params.defaults=[])(hr:Room k Mc)
 (hY:∀(w:G5)(h:Heap),YP w h->(K w.params).In h)
 (F:∀(w:G5)(mg:Str->Option Value)(fa:Addr)(h:Heap),(K w.params).In h->h.Ns GQ mg->mg d.name=some (.ref fa) ->
  ∃ fd:Ik,(∀(s:FO)(u:Value),Ms s fd ⟨[u],[]⟩ [(x,u)]) /\
    ∀base:Heap,(K w.params).In base->base.Ns GQ mg->FnOk l.prog w (K w.params) mg base (CX w) k fa fd [x] (sp w))
 (hsp:∀(w:G5)(H:Hp)(a:Addr)(ns:List Int),ns.length<=n->zK H->EH (K w.params) H a (ns.map V.int)->sp w [.ref a] H (fun v _=>v = .bl true) fun _ _ _=>False)
 (hCX:∀(w:G5)(H:Hp)(s:FO)(e:Value)(s':FO),CX w [] H s (fun _ _ _=>False) e s'->False) :
 W.WalkO q loose XP YP l.row.toRowW d [] (fun f vs=>PySem.call f vs):=by
 refine Att.attach_call hn hdf fun w s₀ s₁ mg mb fa o pm cd doc a vs ns G Y ho hd hcd hmg hobj hints hlen hg=>?_
 have KX:=hY w _ Y
 obtain⟨fd,hb,hF⟩:=F w mg fa _ KX G.T.g hmg
 exact qf KX G.T.g G.T.b G.T.builtins G.T.nolimit hg hobj hints (GI hlen hn2) hr hF hb (fun H hO hS=>hsp w H a ns hlen hO hS) fun H e s'=>hCX w H s₁ e s'
abbrev Fq:Fp:=fun _ _ _ _ _ _=>False
abbrev E0:XK:=fun _ _ _=>False
theorem pV:o6 Fq X E0:=fun _ _ _ _ _ _ _ h=>h.elim
structure Fun (K:W.Frag) (x qual:Str) (st:Stmt) (f:Addr) (fd:Ik):Prop where
 ex:∃(oc:Value)(od:Option Addr)(kV doc pm:Value)(an:Option Addr)(cdv ct:Value)(osl:Array (Option Value)),
  fd=W.fnOf x qual (defArgs st) (defBody st) (defScope st) .none kV doc pm an cdv ct/\K.lookup f=some ⟨oc,od,.func fd,osl⟩/\W.codeIn K cdv qual=true
 kp:W.keepIn K (.ref f)=true
section
variable{P:Gi}{w:G5}{K:W.Frag}{mg:Str->Option Value}{base:Heap}
theorem Fun.ok{st:Stmt}{f:Addr}{ps:List Str}{k:Nat}{sp:Sp}(F:Fun K x qual st f fd)(S:FnScope N ps (defScope st))(len:∀vs H Q E,sp vs H Q E->vs.length=ps.length)
 (hbody:∀(cdv:Value)(A:Hf)(outer:List Env)(s:FO)(H:Hp)(vs:List V)(Q:VK)(E:XK),Room k (A.deeper (J_ qual (defScope st) s.heap.objs.size f cdv))->sp vs H Q E ->
  ∃t,ET (lS Fq P w K mg base N qual (defScope st) f cdv A outer s H E).nox (defBody st) t/\t {nx:=fun _ H'=>Q .non H',rt:=Q} (start N vs) H):FnOk P w K mg base Fq (k+1) f fd ps sp:=by
 obtain⟨oc,od,kV,doc,pm,an,cdv,ct,osl,rfl,lk,hcd⟩:=F.ex
 refine zw lk hcd S len fun A outer s H vs Q E hr hsp=>?_
 obtain⟨t,h,q⟩:=hbody cdv A outer s H vs Q E hr hsp
 exact⟨t,h.nox,q⟩
theorem Fun.binds{st:Stmt}{f:Addr}{ps:List Str}(F:Fun K x qual st f fd)
 (h:∀(kV doc pm:Value)(an:Option Addr)(cdv ct:Value)(us:List Value),us.length=ps.length->bindArgs (W.fnOf x qual (defArgs st) (defBody st) (defScope st) .none kV doc pm an cdv ct) ⟨us,[]⟩=pure (ps.zip us)):Binds K fd ps []:=by
 obtain⟨oc,od,kV,doc,pm,an,cdv,ct,osl,rfl,lk,hcd⟩:=F.ex
 exact .all (h kV doc pm an cdv ct)
theorem oy{st:Stmt}{f:Addr}{oc:Value}{od an:Option Addr}{osl:Array (Option Value)}{kV doc pm cdv ct:Value}(l:K.lookup f=some ⟨oc,od,.func (W.fnOf x qual (defArgs st) (defBody st) (defScope st) .none kV doc pm an cdv ct),osl⟩)
 (c:W.codeIn K cdv qual=true)(k:W.keepIn K (.ref f)=true):Fun K x qual st f (W.fnOf x qual (defArgs st) (defBody st) (defScope st) .none kV doc pm an cdv ct):=⟨⟨oc,od,kV,doc,pm,an,cdv,ct,osl,rfl,l,c⟩,k⟩
end
theorem oj{k:Nat}(hr:Room k A):A.units+1<LW:=Im (Nat.add_le_add_left (by decide:1<=64) _) hr.units
theorem iY(h:n<=1000):n<sizeLine:=Im h (by decide)
section
variable{X:Cx}
end
def bC(H H':Hp):Prop:=∀b o,H b=some o->H' b=some o
theorem bC.refl(H:Hp):bC H H:=fun _ _ h=>h
theorem bC.trans{H1 H2:Hp}(a:bC H H1)(b:bC H1 H2):bC H H2:=fun c o h=>b c o (a c o h)
theorem bC.free(e:bC H H'){l:Addr}(h:H' l=Option.none):H l=Option.none:=by
 cases q:H l with
 | none=>rfl
 | some o =>
   rw[e l o q]at h
   cases h
theorem bC.seq{K:W.Frag}{xs:List V}(e:bC H H')(h:EH K H a xs):EH K H' a xs:=by
 rcases h with(h|⟨o,h⟩)|h
 · exact .inl (.inl (e _ _ h))
 · exact .inl (.inr ⟨o,e _ _ h⟩)
 · exact .inr h
section
variable{X:Cx}
end
section
variable{κ:Type}[DecidableEq κ]
end
end L2
namespace L2.VL
structure RlT where
 a:Option Addr
 b:Nat
abbrev RlT.no:RlT:=⟨none,0⟩
abbrev RlT.at'(r:Addr)(b:Nat):RlT:=⟨some r,b⟩
def BM:Nat:=2^50000
def RO(b:Nat)(F:Hp)(o:HO):Prop:=∃(c:Addr)(ns:List Int)(a l:Int),o = .dK [(Ju "cells", .ref c),(Ju "at", .int a),(Ju "left", .int l)]/\F c=some (.lst (ns.map V.int))/\ns.length<=63/\0<=a/\0<=l/\a+b<2^59990
theorem RO.mono{b:Nat}{o:HO}(s:bC F F')(h:RO b F o):RO b F' o:=by
 obtain⟨c,ns,a,l,e,q,r⟩:=h
 exact⟨c,ns,a,l,e,s _ _ q,r⟩
theorem RO.pay{b b':Nat}{o:HO}(s:b'<=b)(h:RO b F o):RO b' F o:=by
 obtain⟨c,ns,a,l,e,q,h0,h1,h2,h3⟩:=h
 exact⟨c,ns,a,l,e,q,h0,h1,h2,by omega⟩
mutual
inductive Rep (K:W.Frag) (F:Hp):V->FH->Prop
 | non:Rep K F .non .none
 | bl (b:Bool):Rep K F (.bl b) (.bool b)
 | int (i:Int):Rep K F (.int i) (.int i)
 | str (x:Str):Rep K F (.str x) (.str x)
 | tup {a:Addr} {vs:List V} {ds:List FH}:EG K F a vs->Reps K F vs ds->Rep K F (.ref a) (.tuple ds)
 | lst {a:Addr} {vs:List V} {ds:List FH}:F a=some (.lst vs)->Reps K F vs ds->Rep K F (.ref a) (.list ds)
inductive Reps (K:W.Frag) (F:Hp):List V->List FH->Prop
 | nil:Reps K F [] []
 | cons {v:V} {d:FH} {vs:List V} {ds:List FH}:Rep K F v d->Reps K F vs ds->Reps K F (v::vs) (d::ds)
end
theorem d6{K:W.Frag}{xs:List V}(e:bC H H')(h:EG K H a xs):EG K H' a xs:=by
 rcases h with(h|⟨o,h⟩)|h
 · exact .inl (.inl (e _ _ h))
 · exact .inl (.inr ⟨o,e _ _ h⟩)
 · exact .inr h
theorem pI{K:W.Frag}{xs:List V}(e:bC H H')(h:EH K H a xs):EH K H' a xs:=by
 rcases h with(h|⟨o,h⟩)|h
 · exact .inl (.inl (e _ _ h))
 · exact .inl (.inr ⟨o,e _ _ h⟩)
 · exact .inr h
mutual
theorem Rep.mono{K:W.Frag}{F F':Hp}(s:bC F F'):∀{v:V}{d:FH},Rep K F v d->Rep K F' v d
 | _,_,.non=>.non
 | _,_,.bl b=>.bl b
 | _,_,.int i=>.int i
 | _,_,.str x=>.str x
 | _,_,.tup h r=>.tup (d6 s h) (Reps.mono s r)
 | _,_,.lst h r=>.lst (s _ _ h) (Reps.mono s r)
theorem Reps.mono{K:W.Frag}{F F':Hp}(s:bC F F'):∀{vs:List V}{ds:List FH},Reps K F vs ds->Reps K F' vs ds
 | _,_,.nil=>.nil
 | _,_,.cons h r=>.cons (Rep.mono s h) (Reps.mono s r)
end
theorem Reps.length{K:W.Frag}{F:Hp}:∀{vs:List V}{ds:List FH},Reps K F vs ds->vs.length=ds.length
 | _,_,.nil=>rfl
 | _,_,.cons _ r=>by simp[Reps.length r]
theorem Reps.get{K:W.Frag}{F:Hp}:∀{vs:List V}{ds:List FH}{i:Nat}{d:FH},Reps K F vs ds->ds[i]?=some d->∃v,vs[i]?=some v/\Rep K F v d
 | _,_,_,_,.nil,e=>by simp at e
 | _,_,0,_,.cons h _,e=>by simp at e;subst e;exact⟨_,rfl,h⟩
 | _,_,i+1,d,.cons _ r,e=>by
   obtain⟨v,h1,h2⟩:=Reps.get (i:=i) (d:=d) r (by simpa using e)
   exact⟨v,by simpa using h1,h2⟩
theorem Reps.append{K:W.Frag}{F:Hp}:∀{vs us:List V}{ds es:List FH},Reps K F vs ds->Reps K F us es->Reps K F (vs++us) (ds++es)
 | _,_,_,_,.nil,s=>s
 | _,_,_,_,.cons h r,s=>.cons h (Reps.append r s)
theorem Reps.snoc{K:W.Frag}{ds:List FH}(r:Reps K F vs ds)(h:Rep K F v d):Reps K F (vs++[v]) (ds++[d]):=r.append (.cons h .nil)
theorem Reps.take{K:W.Frag}{F:Hp}:∀{vs:List V}{ds:List FH}(n:Nat),Reps K F vs ds->Reps K F (vs.take n) (ds.take n)
 | _,_,0,_=>.nil
 | _,_,_+1,.nil=>.nil
 | _,_,n+1,.cons h r=>.cons h (Reps.take n r)
theorem Reps.drop{K:W.Frag}{F:Hp}:∀{vs:List V}{ds:List FH}(n:Nat),Reps K F vs ds->Reps K F (vs.drop n) (ds.drop n)
 | _,_,0,r=>r
 | _,_,_+1,.nil=>.nil
 | _,_,n+1,.cons _ r=>Reps.drop n r
theorem Reps.nil_iff{K:W.Frag}(h:Reps K F vs []):vs=[]:=by cases h;rfl
mutual
theorem Rep.reads{X:Cx}{pins:List (Addr×Obj)}{σ:St}{H F:Hp}{s:FO}(I:Inv X pins σ H s)(sub:bC F H):∀{v:V}{d:FH},Rep X.K F v d->∀u,RelV v u->∃as,Reads s.heap u d as
 | _,_,.non,u,r=>by cases(show u=Jh from r);exact⟨_,.none⟩
 | _,_,.bl b,u,r=>by cases(show u=L8 b from r);exact⟨_,.bool b⟩
 | _,_,.int i,u,r=>by obtain⟨t,q⟩:=(show ∃t,u=K1 i t from r);cases q;exact⟨_,.int i t⟩
 | _,_,.str x,u,r=>by obtain⟨t,q⟩:=(show ∃t,u=LP x t from r);cases q;exact⟨_,.str x t⟩
 | _,_,.tup (a:=a) h q,u,r=>by
   cases(show u=Ia a from r)
   obtain⟨its,rv,⟨o,h1,h2,n,h3⟩,hz⟩:=I.tuple (d6 sub h)
   obtain⟨as,ra⟩:=Reps.reads I sub q its rv
   exact⟨_,.tuple h1 h2 h3 (by simpa using ra)⟩
 | _,_,.lst (a:=a) h q,u,r=>by
   cases(show u=Ia a from r)
   obtain⟨its,rv,p,hz⟩:=I.list (.inl (.inl (sub _ _ h)))
   obtain⟨o,h1,h2,n,h3⟩:=p.isList
   obtain⟨as,ra⟩:=Reps.reads I sub q its rv
   exact⟨_,.list h1 h2 h3 (by simpa using ra)⟩
theorem Reps.reads{X:Cx}{pins:List (Addr×Obj)}{σ:St}{H F:Hp}{s:FO}(I:Inv X pins σ H s)(sub:bC F H):∀{vs:List V}{ds:List FH},Reps X.K F vs ds->∀us,cj vs us->∃as,ReadsAll s.heap us ds as
 | _,_,.nil,us,r=>by cases r;exact⟨_,.nil⟩
 | _,_,.cons h q,us,r=>by
   cases r with
   | cons r1 r2 =>
     obtain⟨as,a1⟩:=Rep.reads I sub h _ r1
     obtain⟨bs,a2⟩:=Reps.reads I sub q _ r2
     exact⟨_,.cons a1 a2⟩
end
structure ReelOk (b:Nat) (F H:Hp) (r:Addr):Prop where
 ex:∃o,H r=some o/\RO b F o
def EM(rl:RlT)(F H:Hp):Prop:=∀r,rl.a=some r->F r=none/\ReelOk rl.b F H r
theorem EM.live{rl:RlT}(h:EM rl F H){r:Addr}(e:rl.a=some r):∃o,H r=some o:=by
 obtain⟨_,⟨o,q,_⟩⟩:=h r e
 exact⟨_,q⟩
structure Grow (rl:RlT) (F H F' H':Hp):Prop where
 same:∀b o,H b=some o->rl.a≠some b->H' b=some o
 fs:bC F F'
 sub:bC F' H'
 old:∀b o,H b=some o->F' b=F b
 reel:EM rl F' H'
theorem Grow.refl{rl:RlT}{F H:Hp}(s:bC F H)(r:EM rl F H):Grow rl F H F H:=⟨fun _ _ e _=>e,.refl F,s,fun _ _ _=>rfl,r⟩
theorem Grow.live{rl:RlT}{F H F' H':Hp}(g:Grow rl F H F' H'){b:Addr}{o:HO}(e:H b=some o):∃o',H' b=some o':=by
 by_cases h:rl.a=some b
 · exact g.reel.live h
 · exact⟨o,g.same b o e h⟩
theorem Grow.trans{rl:RlT}{F H F1 H1 F2 H2:Hp}(a:Grow rl F H F1 H1)(b:Grow rl F1 H1 F2 H2):Grow rl F H F2 H2 :=
 ⟨fun c o e n=>b.same c o (a.same c o e n) n,a.fs.trans b.fs,b.sub,fun c o e=>by obtain⟨o',e'⟩:=a.live e;rw[b.old c o' e',a.old c o e],b.reel⟩
theorem Grow.freeB{rl:RlT}(g:Grow rl F H F' H'){b:Addr}(e:H' b=none):H b=none:=by
 cases q:H b with
 | none=>rfl
 | some o=>obtain⟨o',e'⟩:=g.live q;rw[e]at e';cases e'
theorem Grow.laid{rl:RlT}{o:HO}(s:bC F H)(r:EM rl F H)(n:H a=none):Grow rl F H F (Cs H a o):=by
 have ne:∀b u,H b=some u->b≠a:=fun b u e=>ba e n
 refine⟨fun b u e _=>by rw[ar (ne b u e)];exact e,.refl F,fun b u e=>by rw[ar (ne b u (s b u e))];exact s b u e,fun _ _ _=>rfl,fun q e=>?_⟩
 obtain⟨z,⟨u,h1,h2⟩⟩:=r q e
 exact⟨z,⟨u,by rw[ar (ne _ _ h1)];exact h1,h2⟩⟩
theorem Grow.data{rl:RlT}{o:HO}(s:bC F H)(r:EM rl F H)(n:H a=none):Grow rl F H (Cs F a o) (Cs H a o):=by
 have ne:∀b u,H b=some u->b≠a:=fun b u e=>ba e n
 have neF:∀b u,F b=some u->b≠a:=fun b u e=>ne b u (s b u e)
 refine⟨fun b u e _=>by rw[ar (ne b u e)];exact e,fun b u e=>by rw[ar (neF b u e)];exact e,fun b u e=>?_,fun b u e=>by rw[ar (ne b u e)],fun q e=>?_⟩
 · by_cases hb:b=a
   · subst hb;rw[av]at e ⊢;exact e
   · rw[ar hb]at e ⊢;exact s b u e
 · obtain⟨z,⟨u,h1,h2⟩⟩:=r q e
   exact⟨by rw[ar (ne _ _ h1)];exact z,⟨u,by rw[ar (ne _ _ h1)];exact h1,RO.mono (fun b u e=>by rw[ar (neF b u e)];exact e) h2⟩⟩
theorem Grow.freeze{rl:RlT}{F1 H1:Hp}{o:HO}(g:Grow rl F H F1 H1)(n:H a=none)(e:H1 a=some o)(f:F1 a=none)(hr:rl.a≠some a):Grow rl F H (Cs F1 a o) H1:=by
 have neF:∀b u,F1 b=some u->b≠a:=fun b u q z=>by subst z;rw[f]at q;cases q
 refine⟨g.same,fun b u q=>by rw[ar (neF b u (g.fs b u q))];exact g.fs b u q,fun b u q=>?_,fun b u q=>by rw[ar (ba q n)];exact g.old b u q,fun q z=>?_⟩
 · by_cases hb:b=a
   · subst hb;rw[av]at q;rw[e];exact q
   · rw[ar hb]at q;exact g.sub b u q
 · obtain⟨z1,⟨u,h1,h2⟩⟩:=g.reel q z
   exact⟨by rw[ar (fun y=>hr (by rw[<- y];exact z))];exact z1,⟨u,h1,RO.mono (fun b u e=>by rw[ar (neF b u e)];exact e) h2⟩⟩
inductive W where
 | d (x:FH)
 | ml (xs:List FH)
 | pk (xs:List FH)
 | reel
 | vv (v:V)
 | md (kvs:List (List E7×FH))
 | mk (kvs:List (E7×FH))
 | nt (ds:List FH)
 | lk
 | sc (ns:List Int)
 | fd (kvs:List (E7×FH))
 | fw (kvs:List (E7×FH))
 | ft (kvs:List (List E7×FH))
 | xc (x:Str) (fs:List (Str×FH))
 | dp (kvs:List (E7×FH)) (x:FH)
def W.dat:W->Option FH
 | .d x=>some x
 | .ml xs=>some (.list xs)
 | .pk xs=>some (.list xs)
 | .nt ds=>some (.tuple ds)
 | _=>none
def W.peek:W->W
 | .ml xs=>.pk xs
 | .md _=>.lk
 | .mk _=>.lk
 | w=>w
def W.own:W->Bool
 | .ml _=>true
 | .md _=>true
 | .mk _=>true
 | _=>false
abbrev KD(K:W.Frag)(F:Hp):List (List E7×V)->List (List E7×FH)->Prop:=Hv fun p q=>p.1=q.1/\Rep K F p.2 q.2
abbrev E9(K:W.Frag)(F:Hp):List (E7×V)->List (E7×FH)->Prop:=Hv fun p q=>p.1=q.1/\Rep K F p.2 q.2
abbrev E8(K:W.Frag)(F:Hp):List (Str×V)->List (Str×FH)->Prop:=Hv fun p q=>p.1=q.1/\Rep K F p.2 q.2
def zM(e C dx:Addr):Heap->Prop:=fun h=>∃oe vs,h.get? e=some oe/\oe.cls = .ref C/\oe.dict=some dx/\oe.data = .fields vs
def uG(K:W.Frag)(rl:RlT)(F H:Hp)(v:V)(kvs:List (List E7×FH)):Prop:=∃a us,v = .ref a/\F a=none/\rl.a≠some a/\H a=some (.dT us)/\KD K F us kvs
def uF(K:W.Frag)(rl:RlT)(F H:Hp)(v:V)(kvs:List (E7×FH)):Prop:=∃a us,v = .ref a/\F a=none/\rl.a≠some a/\H a=some (.dK us)/\E9 K F us kvs
def iE(K:W.Frag)(rl:RlT)(F H:Hp)(v:V)(xs:List FH):Prop:=∃a vs,v = .ref a/\F a=none/\rl.a≠some a/\H a=some (.lst vs)/\Reps K F vs xs
def cQ(K:W.Frag)(rl:RlT)(F H:Hp)(v:V):W->Prop
 | .d x=>Rep K F v x
 | .ml xs=>iE K rl F H v xs
 | .pk xs=>iE K rl F H v xs
 | .reel=>∃r,rl.a=some r/\v = .ref r
 | .vv u=>v=u
 | .md kvs=>uG K rl F H v kvs
 | .mk kvs=>uF K rl F H v kvs
 | .nt ds=>∃a vs,v = .ref a/\F a=some (.tup vs)/\Reps K F vs ds
 | .lk=>True
 | .sc ns=>∃a,v = .ref a/\EH K F a (ns.map V.int)
 | .fd kvs=>∃a us,v = .ref a/\F a=some (.dK us)/\E9 K F us kvs
 | .fw kvs=>∃a us o,v = .ref a/\F a=some (.frz o (.dK us))/\E9 K F us kvs
 | .ft kvs=>∃a us o,v = .ref a/\F a=some (.frz o (.dT us))/\KD K F us kvs
 | .xc x fs=>∃e dx us C,v = .ref e/\W.nsIn K GQ x=some (some (.ref C))/\F e=some (.ext (zM e C dx))/\F dx=some (.xd us)/\E8 K F us fs
 | .dp kvs x=>∃a b us u o,v = .ref a/\F a=some (.tup [.ref b,u])/\F b=some (.frz o (.dK us))/\E9 K F us kvs/\Rep K F u x
theorem uG.grow{K:W.Frag}{rl:RlT}{kvs:List (List E7×FH)}(g:Grow rl F H F' H')(r:uG K rl F H v kvs):uG K rl F' H' v kvs:=by
 obtain⟨a,us,rfl,h1,h2,h3,h4⟩:=r
 exact⟨a,us,rfl,by rw[g.old a _ h3];exact h1,h2,g.same a _ h3 h2,Hv.mapP h4 fun _ _ z=>⟨z.1,z.2.mono g.fs⟩⟩
theorem uF.grow{K:W.Frag}{rl:RlT}{kvs:List (E7×FH)}(g:Grow rl F H F' H')(r:uF K rl F H v kvs):uF K rl F' H' v kvs:=by
 obtain⟨a,us,rfl,h1,h2,h3,h4⟩:=r
 exact⟨a,us,rfl,by rw[g.old a _ h3];exact h1,h2,g.same a _ h3 h2,Hv.mapP h4 fun _ _ z=>⟨z.1,z.2.mono g.fs⟩⟩
theorem iE.grow{K:W.Frag}{rl:RlT}(g:Grow rl F H F' H')(r:iE K rl F H v xs):iE K rl F' H' v xs:=by
 obtain⟨a,vs,rfl,h1,h2,h3,h4⟩:=r
 exact⟨a,vs,rfl,by rw[g.old a _ h3];exact h1,h2,g.same a _ h3 h2,h4.mono g.fs⟩
theorem cQ.grow{K:W.Frag}{rl:RlT}{F H F' H':Hp}{v:V}{w:W}(g:Grow rl F H F' H')(r:cQ K rl F H v w):cQ K rl F' H' v w:=by
 cases w with
 | d x=>exact Rep.mono g.fs r
 | ml xs=>exact iE.grow g r
 | pk xs=>exact iE.grow g r
 | reel=>exact r
 | vv u=>exact r
 | md kvs=>exact uG.grow g r
 | mk kvs=>exact uF.grow g r
 | nt ds=>obtain⟨a,vs,e,h,q⟩:=r;exact⟨a,vs,e,g.fs _ _ h,q.mono g.fs⟩
 | lk=>trivial
 | sc ns=>obtain⟨a,e,h⟩:=r;exact⟨a,e,pI g.fs h⟩
 | fd kvs=>obtain⟨a,us,e,h,q⟩:=r;exact⟨a,us,e,g.fs _ _ h,Hv.mapP q fun _ _ z=>⟨z.1,z.2.mono g.fs⟩⟩
 | fw kvs=>obtain⟨a,us,o,e,h,q⟩:=r;exact⟨a,us,o,e,g.fs _ _ h,Hv.mapP q fun _ _ z=>⟨z.1,z.2.mono g.fs⟩⟩
 | ft kvs=>obtain⟨a,us,o,e,h,q⟩:=r;exact⟨a,us,o,e,g.fs _ _ h,Hv.mapP q fun _ _ z=>⟨z.1,z.2.mono g.fs⟩⟩
 | xc _ _=>obtain⟨a,dx,us,C,e,n,h1,h2,q⟩:=r;exact⟨a,dx,us,C,e,n,g.fs _ _ h1,g.fs _ _ h2,Hv.mapP q fun _ _ z=>⟨z.1,z.2.mono g.fs⟩⟩
 | dp _ _=>obtain⟨a,b,us,u,o,e,h1,h2,q,z⟩:=r;exact⟨a,b,us,u,o,e,g.fs _ _ h1,g.fs _ _ h2,Hv.mapP q fun _ _ z=>⟨z.1,z.2.mono g.fs⟩,z.mono g.fs⟩
theorem cQ.peek{K:W.Frag}{rl:RlT}{w:W}(r:cQ K rl F H v w):cQ K rl F H v w.peek:=by cases w<;>first|exact r|trivial
theorem iE.rep{K:W.Frag}{rl:RlT}(s:bC F H)(r:iE K rl F H v xs):Rep K H v (.list xs):=by
 obtain⟨a,vs,rfl,h1,h2,h3,h4⟩:=r
 exact .lst h3 (h4.mono s)
theorem cQ.dat{K:W.Frag}{rl:RlT}{w:W}{x:FH}(s:bC F H)(r:cQ K rl F H v w)(e:w.dat=some x):Rep K H v x:=by
 cases w with
 | d y=>cases e;exact Rep.mono s r
 | ml xs=>cases e;exact iE.rep s r
 | pk xs=>cases e;exact iE.rep s r
 | reel=>cases e
 | vv u=>cases e
 | md kvs=>cases e
 | mk kvs=>cases e
 | nt ds=>cases e;obtain⟨a,vs,rfl,h,q⟩:=r;exact .tup (.inl (.inl (s _ _ h))) (q.mono s)
 | lk=>cases e
 | sc _=>cases e
 | fd _=>cases e
 | fw _=>cases e
 | ft _=>cases e
 | xc _ _=>cases e
 | dp _ _=>cases e
theorem cQ.items{K:W.Frag}{rl:RlT}{w:W}(s:bC F H)(r:cQ K rl F H v w)(e:w.dat=some (.list xs)):∃a vs,v = .ref a/\EH K H a vs/\Reps K F vs xs:=by
 have own:iE K rl F H v xs->∃a vs,v = .ref a/\EH K H a vs/\Reps K F vs xs:=fun⟨a,vs,e1,_,_,e2,e3⟩=>⟨a,vs,e1,.inl (.inl e2),e3⟩
 cases w with
 | d y =>
   cases e
   cases(show Rep K F v (.list xs)from r)with
   | lst h q=>exact⟨_,_,rfl,.inl (.inl (s _ _ h)),q⟩
 | ml ys=>cases e;exact own r
 | pk ys=>cases e;exact own r
 | reel=>cases e
 | vv u=>cases e
 | md kvs=>cases e
 | mk kvs=>cases e
 | nt ds=>cases e
 | lk=>cases e
 | sc _=>cases e
 | fd _=>cases e
 | fw _=>cases e
 | ft _=>cases e
 | xc _ _=>cases e
 | dp _ _=>cases e
theorem cQ.itemsT{K:W.Frag}{rl:RlT}{w:W}(s:bC F H)(r:cQ K rl F H v w)(e:w.dat=some (.tuple xs)):∃a vs,v = .ref a/\EG K H a vs/\Reps K F vs xs:=by
 cases w with
 | d y =>
   cases e
   cases(show Rep K F v (.tuple xs)from r)with
   | tup h q=>exact⟨_,_,rfl,d6 s h,q⟩
 | ml ys=>cases e
 | pk ys=>cases e
 | reel=>cases e
 | vv u=>cases e
 | md kvs=>cases e
 | mk kvs=>cases e
 | nt ds=>cases e;obtain⟨a,vs,rfl,h,q⟩:=r;exact⟨a,vs,rfl,.inl (.inl (s _ _ h)),q⟩
 | lk=>cases e
 | sc _=>cases e
 | fd _=>cases e
 | fw _=>cases e
 | ft _=>cases e
 | xc _ _=>cases e
 | dp _ _=>cases e
def dq(H:Hp)(v:V):W->Prop
 | .ml _=>∀a,v = .ref a->H a=none
 | .md _=>∀a,v = .ref a->H a=none
 | .mk _=>∀a,v = .ref a->H a=none
 | _=>True
theorem cQ.live{K:W.Frag}{rl:RlT}{w:W}(r:cQ K rl F H v w)(h:w.own=true):∃a o,v = .ref a/\H a=some o:=by
 cases w with
 | ml xs=>obtain⟨a,vs,e,_,_,hh,_⟩:=r;exact⟨a,_,e,hh⟩
 | md xs=>obtain⟨a,vs,e,_,_,hh,_⟩:=r;exact⟨a,_,e,hh⟩
 | mk xs=>obtain⟨a,vs,e,_,_,hh,_⟩:=r;exact⟨a,_,e,hh⟩
 | _=>cases h
theorem dq.none{w:W}(n:dq H v w)(h:w.own=true)(e:v = .ref a):H a=none:=by
 cases w with
 | ml xs=>exact n a e
 | md xs=>exact n a e
 | mk xs=>exact n a e
 | _=>cases h
abbrev En:=List (Option W)
structure VR (K:W.Frag) (rl:RlT) (F₀ H₀ F H:Hp) (σ:St) (ρ:En):Prop where
 g:Grow rl F₀ H₀ F H
 sl:∀(i:Nat) w,ρ[i]?=some (some w)->∃v,σ[i]?=some (some v)/\cQ K rl F H v w/\dq H₀ v w
 ap:∀(i j:Nat)(x y:W) v,i≠j->ρ[i]?=some (some x)->ρ[j]?=some (some y)->x.own=true->y.own=true->σ[i]?=some (some v)->σ[j]?=some (some v)->False
 np:∀(i:Nat) xs,ρ[i]?≠some (some (W.pk xs))
 len:ρ.length=σ.length
section
variable{K:W.Frag}{rl:RlT}{F₀ H₀ F H F' H':Hp}{σ:St}{ρ:En}
theorem VR.sub(r:VR K rl F₀ H₀ F H σ ρ):bC F H:=r.g.sub
theorem VR.reel(r:VR K rl F₀ H₀ F H σ ρ):EM rl F H:=r.g.reel
theorem VR.grow(r:VR K rl F₀ H₀ F H σ ρ)(g:Grow rl F H F' H'):VR K rl F₀ H₀ F' H' σ ρ :=
 ⟨r.g.trans g,fun i w e=>let ⟨v,e1,e2,e3⟩:=r.sl i w e;⟨v,e1,e2.grow g,e3⟩,r.ap,r.np,r.len⟩
theorem VR.set(r:VR K rl F₀ H₀ F H σ ρ){H1 F1:Hp}(g:Grow rl F H F1 H1){w:W}(rw':cQ K rl F1 H1 v w)(hn:dq H v w)(hp:∀xs,w ≠ .pk xs)(i:Nat):VR K rl F₀ H₀ F1 H1 (σ.set i (some v)) (ρ.set i (some w)):=by
 have r1:=r.grow g
 refine⟨r1.g,fun j w' e=>?_,fun j k xs ys u hjk e1 e2 w1 w2 s1 s2=>?_,fun j xs z=>?_,by simp[r.len]⟩
 · by_cases hj:i=j
   · subst hj
     have hi:i<ρ.length:=by
      rw[Hn]at e
      by_cases hi:i<ρ.length
      · exact hi
      · simp[hi]at e
     rw[Gm hi]at e
     cases e
     refine⟨v,by rw[Gm (by rw[<- r.len];exact hi)],rw',?_⟩
     cases w with
     | ml xs=>exact fun a ea=>r.g.freeB (hn a ea)
     | d x=>trivial
     | pk xs=>trivial
     | reel=>trivial
     | vv u=>trivial
     | md xs=>exact fun a ea=>r.g.freeB (hn a ea)
     | mk xs=>exact fun a ea=>r.g.freeB (hn a ea)
     | nt ds=>trivial
     | lk=>trivial
     | sc _=>trivial
     | fd _=>trivial
     | fw _=>trivial
     | ft _=>trivial
     | xc _ _=>trivial
     | dp _ _=>trivial
   · rw[Gf hj]at e
     obtain⟨u,h1,h2,h3⟩:=r1.sl j w' e
     exact⟨u,by rw[Gf hj];exact h1,h2,h3⟩
 · have key:∀(k:Nat)(x y:W),ρ[k]?=some (some y)->some (some w)=some (some x)->x.own=true->y.own=true->σ[k]?=some (some v)->False:=fun k x y d2 e1 o1 o2 s2=>by
     cases e1
     obtain⟨u',h1,h2,h3⟩:=r.sl k _ d2
     rw[s2]at h1
     cases h1
     obtain⟨a,o,ea,hh⟩:=h2.live o2
     rw[hn.none o1 ea]at hh
     cases hh
   by_cases hj:i=j
   · subst hj
     have hk:i≠k:=hjk
     have hi:i<ρ.length:=by
      rw[Hn]at e1
      by_cases hi:i<ρ.length
      · exact hi
      · simp[hi]at e1
     rw[Gm hi]at e1
     rw[Gf hk]at e2 s2
     rw[Gm (by rw[<- r.len];exact hi)]at s1
     cases s1
     exact key k xs ys e2 e1 w1 w2 s2
   · by_cases hk:i=k
     · subst hk
       have hi:i<ρ.length:=by
        rw[Hn]at e2
        by_cases hi:i<ρ.length
        · exact hi
        · simp[hi]at e2
       rw[Gm hi]at e2
       rw[Gf hj]at e1 s1
       rw[Gm (by rw[<- r.len];exact hi)]at s2
       cases s2
       exact key j ys xs e1 e2 w2 w1 s1
     · rw[Gf hj]at e1 s1
       rw[Gf hk]at e2 s2
       exact r.ap j k xs ys u hjk e1 e2 w1 w2 s1 s2
 · rw[Hn]at z
   split at z
   · split at z
     · exact hp xs (GS (GS z))
     · cases z
   · exact r.np j xs z
theorem VR.freeze(r:VR K rl F₀ H₀ F H σ ρ){i:Nat}{xs:List FH}(e:ρ[i]?=some (some (.ml xs))):∃F1,VR K rl F₀ H₀ F1 H σ (ρ.set i (some (.d (.list xs)))):=by
 obtain⟨v,h1,h2,h3⟩:=r.sl i _ e
 obtain⟨a,vs,rfl,f,hr,hh,q⟩:=(show iE K rl F H v xs from h2)
 have hi:i<ρ.length:=(GD.mp e).1
 have neF:∀b u,F b=some u->b≠a:=fun b u q z=>by subst z;rw[f]at q;cases q
 have fsm:bC F (Cs F a (.lst vs)):=fun b u z=>by rw[ar (neF b u z)];exact z
 refine⟨Cs F a (.lst vs),r.g.freeze (h3 a rfl) hh f hr,fun j w e1=>?_,fun j k ys zs u hjk e1 e2 w1 w2 s1 s2=>?_,fun j ys z=>?_,by simp[r.len]⟩
 · by_cases hj:i=j
   · subst hj
     rw[Gm hi]at e1
     cases e1
     exact⟨.ref a,h1,.lst av (q.mono fsm),trivial⟩
   · rw[Gf hj]at e1
     obtain⟨u,g1,g2,g3⟩:=r.sl j w e1
     refine⟨u,g1,?_,g3⟩
     have own:∀ys,(∀zs,w = .ml zs->ys=zs)->iE K rl F H u ys->(∃b,u = .ref b/\b≠a)->iE K rl (Cs F a (.lst vs)) H u ys:=fun ys _ ⟨b,us,eb,f1,f2,f3,f4⟩ ⟨b',eb',ne⟩=>by
      rw[eb]at eb'
      cases eb'
      exact⟨b,us,eb,by rw[ar ne];exact f1,f2,f3,f4.mono fsm⟩
     cases w with
     | d x=>exact Rep.mono fsm g2
     | reel=>exact g2
     | vv u=>exact g2
     | ml ys =>
       obtain⟨b,us,eb,f1,f2,f3,f4⟩:=(show iE K rl F H u ys from g2)
       have ne:b≠a:=fun z=>r.ap i j _ _ (.ref a) hj e e1 rfl rfl h1 (by rw[g1,eb,z])
       exact⟨b,us,eb,by rw[ar ne];exact f1,f2,f3,f4.mono fsm⟩
     | pk ys=>exact absurd e1 (r.np j ys)
     | md ys =>
       obtain⟨b,us,eb,f1,f2,f3,f4⟩:=(show uG K rl F H u ys from g2)
       have ne:b≠a:=fun z=>r.ap i j _ _ (.ref a) hj e e1 rfl rfl h1 (by rw[g1,eb,z])
       exact⟨b,us,eb,by rw[ar ne];exact f1,f2,f3,Hv.mapP f4 fun _ _ z=>⟨z.1,z.2.mono fsm⟩⟩
     | mk ys =>
       obtain⟨b,us,eb,f1,f2,f3,f4⟩:=(show uF K rl F H u ys from g2)
       have ne:b≠a:=fun z=>r.ap i j _ _ (.ref a) hj e e1 rfl rfl h1 (by rw[g1,eb,z])
       exact⟨b,us,eb,by rw[ar ne];exact f1,f2,f3,Hv.mapP f4 fun _ _ z=>⟨z.1,z.2.mono fsm⟩⟩
     | nt ds=>obtain⟨b,us,eb,f1,f2⟩:=g2;exact⟨b,us,eb,fsm _ _ f1,f2.mono fsm⟩
     | lk=>trivial
     | sc ns=>obtain⟨b,eb,f1⟩:=g2;exact⟨b,eb,pI fsm f1⟩
     | fd kvs=>obtain⟨b,us,eb,f1,f2⟩:=g2;exact⟨b,us,eb,fsm _ _ f1,Hv.mapP f2 fun _ _ z=>⟨z.1,z.2.mono fsm⟩⟩
     | fw kvs=>obtain⟨b,us,o,eb,f1,f2⟩:=g2;exact⟨b,us,o,eb,fsm _ _ f1,Hv.mapP f2 fun _ _ z=>⟨z.1,z.2.mono fsm⟩⟩
     | ft kvs=>obtain⟨b,us,o,eb,f1,f2⟩:=g2;exact⟨b,us,o,eb,fsm _ _ f1,Hv.mapP f2 fun _ _ z=>⟨z.1,z.2.mono fsm⟩⟩
     | xc _ _=>obtain⟨b,dx,us,C,eb,n,f1,f3,f2⟩:=g2;exact⟨b,dx,us,C,eb,n,fsm _ _ f1,fsm _ _ f3,Hv.mapP f2 fun _ _ z=>⟨z.1,z.2.mono fsm⟩⟩
     | dp _ _=>obtain⟨c,b,us,u,o,eb,f1,f3,f2,z⟩:=g2;exact⟨c,b,us,u,o,eb,fsm _ _ f1,fsm _ _ f3,Hv.mapP f2 fun _ _ z=>⟨z.1,z.2.mono fsm⟩,z.mono fsm⟩
 · have nd:∀(j:Nat)(y:W),(ρ.set i (some (W.d (.list xs))))[j]?=some (some y)->y.own=true->ρ[j]?=some (some y):=fun j y z o=>by
     by_cases hj:i=j
     · subst hj
       rw[Gm hi]at z
       cases z
       cases o
     · rw[Gf hj]at z
       exact z
   exact r.ap j k ys zs u hjk (nd j ys e1 w1) (nd k zs e2 w2) w1 w2 s1 s2
 · rw[Hn]at z
   split at z
   · first|cases z|(split at z<;>cases z)
   · exact r.np j ys z
end
abbrev TV:=En->(W->Prop)->Prop
abbrev TB:=En->(Bool->Prop)->Prop
abbrev EA:=En->(List W->Prop)->Prop
abbrev dU(K:W.Frag)(rl:RlT)(F H:Hp):List V->List W->Prop:=Hv (cQ K rl F H)
def PV(X:Cx)(rl:RlT)(e:Expr)(f:TV):Prop:=∃t,PE X e t/\∀{F₀ H₀ F H:Hp}{σ:St}{ρ:En},VR X.K rl F₀ H₀ F H σ ρ->∀(Qd:W->Prop)(Q:VK),f ρ Qd ->
 (∀v w F' H',Grow rl F H F' H'->cQ X.K rl F' H' v w->dq H v w->Qd w->Q v H')->t σ H Q
def PB(X:Cx)(rl:RlT)(e:Expr)(f:TB):Prop:=∃t,PT X e t/\∀{F₀ H₀ F H:Hp}{σ:St}{ρ:En},VR X.K rl F₀ H₀ F H σ ρ->∀(Qd:Bool->Prop)(Q:Bool->Hp->Prop),f ρ Qd ->
 (∀b F' H',Grow rl F H F' H'->Qd b->Q b H')->t σ H Q
def EO(X:Cx)(rl:RlT)(es:List Expr)(f:EA):Prop:=∃t,PA X es t/\∀{F₀ H₀ F H:Hp}{σ:St}{ρ:En},VR X.K rl F₀ H₀ F H σ ρ->∀(Qd:List W->Prop)(Q:List V->Hp->Prop),f ρ Qd ->
 (∀vs ws F' H',Grow rl F H F' H'->dU X.K rl F' H' vs ws->Qd ws->Q vs H')->t σ H Q
def W.fz:W->W
 | .ml xs=>.d (.list xs)
 | .nt ds=>.d (.tuple ds)
 | w=>w
theorem cQ.fz{K:W.Frag}{rl:RlT}{F1 H1:Hp}{w:W}(g:Grow rl F H F1 H1)(r:cQ K rl F1 H1 v w)(n:dq H v w):∃F2,Grow rl F H F2 H1/\bC F1 F2/\cQ K rl F2 H1 v w.fz:=by
 cases w with
 | d x=>exact⟨F1,g,.refl _,r⟩
 | pk xs=>exact⟨F1,g,.refl _,r⟩
 | reel=>exact⟨F1,g,.refl _,r⟩
 | vv u=>exact⟨F1,g,.refl _,r⟩
 | md u=>exact⟨F1,g,.refl _,r⟩
 | mk u=>exact⟨F1,g,.refl _,r⟩
 | lk=>exact⟨F1,g,.refl _,r⟩
 | sc _=>exact⟨F1,g,.refl _,r⟩
 | fd _=>exact⟨F1,g,.refl _,r⟩
 | fw _=>exact⟨F1,g,.refl _,r⟩
 | ft _=>exact⟨F1,g,.refl _,r⟩
 | xc _ _=>exact⟨F1,g,.refl _,r⟩
 | dp _ _=>exact⟨F1,g,.refl _,r⟩
 | nt ds=>obtain⟨a,vs,rfl,h,q⟩:=r;exact⟨F1,g,.refl _,.tup (.inl (.inl h)) q⟩
 | ml xs =>
   obtain⟨a,vs,rfl,f,hr,hh,q⟩:=(show iE K rl F1 H1 v xs from r)
   have neF:∀b u,F1 b=some u->b≠a:=fun b u q z=>by subst z;rw[f]at q;cases q
   have fsm:bC F1 (Cs F1 a (.lst vs)):=fun b u z=>by rw[ar (neF b u z)];exact z
   exact⟨Cs F1 a (.lst vs),g.freeze (n a rfl) hh f hr,fsm,.lst av (q.mono fsm)⟩
section
variable{X:Cx}{rl:RlT}{a b e:Expr}{es:List Expr}{fa fb fc:TV}{fs:EA}{pos p:Pos}
def vC(x:FH):TV:=fun _ Q=>Q (.d x)
theorem fB{x:FH}(h:PE X e (tC v))(r:∀F,Rep X.K F v x):PV X rl e (vC x) :=
 ⟨_,h,fun R Qd Q q k=>k v (.d x) _ _ (Grow.refl R.sub R.reel) (r _) trivial q⟩
theorem af{i:Int}{j pos}:PV X rl (.Constant (.int i) j pos) (vC (.int i)):=fB nJ fun _=>.int i
theorem sM{i:Bool}{j pos}:PV X rl (.Constant (.bool i) j pos) (vC (.bool i)):=fB yU fun _=>.bl i
theorem bX{j pos}:PV X rl (.Constant (.str x) j pos) (vC (.str x)):=fB d8 fun _=>.str x
theorem sL{pos:Pos}(hm:X.mg x=some u)(r:RelV v u)(h:∀F,Rep X.K F v d)(hg:Gl X x:=by rfl)(hd:(x==("__debug__" : Str))=false:=by decide):PV X rl (.Name x pos) (vC d) :=
 fB (tm hg hm r hd) h
def x9(i:Nat):TV:=fun ρ Q=>∃w,ρ[i]?=some (some w)/\Q w.peek
theorem vn(i:Nat){pos:Pos}(hN:X.N[i]?=some x:=by rfl)(hv:Ex X.env.scope x:=by first|exact Ix rfl|exact HN (Ix rfl)|exact HN (HN rfl))(hd:(x==("__debug__" : Str))=false:=by decide)
 (hcd:(x==("__classdict__" : Str))=false:=by decide):PV X rl (.Name x pos) (x9 i) :=
 ⟨_,fO hN hv hd hcd,fun R Qd Q ⟨w,e,q⟩ k=>by
  obtain⟨v,e1,r,_⟩:=R.sl i w e
  refine⟨v,e1,k v w.peek _ _ (Grow.refl R.sub R.reel) r.peek ?_ q⟩
  cases w<;>trivial⟩
def yh:EA:=fun _ Q=>Q []
def r_(f:TV)(fs:EA):EA:=fun ρ Q=>f ρ fun w=>fs ρ fun ws=>Q (w.fz::ws)
theorem ab:EO X rl [] yh:=⟨_,ww,fun R Qd Q q k=>k [] [] _ _ (Grow.refl R.sub R.reel) .nil q⟩
theorem aa(h1:PV X rl e fa)(h2:EO X rl es fs)(hs:FU (e::es) X.env=(false,eval e X.env)::FU es X.env:=by rfl):EO X rl (e::es) (r_ fa fs):=by
 obtain⟨t,p1,k1⟩:=h1
 obtain⟨ts,p2,k2⟩:=h2
 refine⟨_,nL p1 p2 hs,fun R Qd Q q k=>?_⟩
 refine k1 R _ _ q fun v w F1 H1 g1 r1 n1 q1=>?_
 obtain⟨F2,g2,s2,r2⟩:=cQ.fz g1 r1 n1
 refine k2 (R.grow g2) _ _ q1 fun vs ws F3 H3 g3 r3 q3=>?_
 exact k (v::vs) (w.fz::ws) F3 H3 (g2.trans g3) (.cons (r2.grow g3) r3) q3
def Ey(X:Cx)(rl:RlT)(r:R2)(g:W->W->(W->Prop)->Prop):Prop:=∀{F H:Hp}{x y:V}{wx wy:W}(Qd:W->Prop)(Q:VK),bC F H->EM rl F H->cQ X.K rl F H x wx->cQ X.K rl F H y wy->g wx wy Qd ->
 (∀v w F' H',Grow rl F H F' H'->cQ X.K rl F' H' v w->dq H v w->Qd w->Q v H')->r x y H Q
def Cq(g:W->W->(W->Prop)->Prop)(fa fb:TV):TV:=fun ρ Q=>fa ρ fun x=>fb ρ fun y=>g x y Q
theorem mB{r:R2}{g:W->W->(W->Prop)->Prop}(vo:Ey X rl r g)(ha:PV X rl a fa)(hb:PV X rl b fb){e:Expr}(hp:∀ta tb,PE X a ta->PE X b tb->PE X e (CL r ta tb)):PV X rl e (Cq g fa fb):=by
 obtain⟨ta,p1,k1⟩:=ha
 obtain⟨tb,p2,k2⟩:=hb
 refine⟨_,hp ta tb p1 p2,fun R Qd Q q k=>?_⟩
 refine k1 R _ _ q fun v w F1 H1 g1 r1 n1 q1=>?_
 refine k2 (R.grow g1) _ _ q1 fun v2 w2 F2 H2 g2 r2 n2 q2=>?_
 exact vo Qd Q g2.sub g2.reel (r1.grow g2) r2 q2 fun v3 w3 F3 H3 g3 r3 n3 q3=>k v3 w3 F3 H3 ((g1.trans g2).trans g3) r3 (by
  cases w3 with
  | ml xs=>exact fun a ea=>g1.freeB (g2.freeB (n3 a ea))
  | md xs=>exact fun a ea=>g1.freeB (g2.freeB (n3 a ea))
  | mk xs=>exact fun a ea=>g1.freeB (g2.freeB (n3 a ea))
  | nt _=>trivial
  | lk=>trivial
  | sc _=>trivial
  | fd _=>trivial
  | fw _=>trivial
  | ft _=>trivial
  | xc _ _=>trivial
  | dp _ _=>trivial
  | d _=>trivial
  | pk _=>trivial
  | reel=>trivial
  | vv _=>trivial) q3
theorem ja{op:LS}{r:R2}{g:W->W->(W->Prop)->Prop}(ho:E3 X (IP op) r)(vo:Ey X rl r g)(ha:PV X rl a fa)(hb:PV X rl b fb):PV X rl (.BinOp a op b pos) (Cq g fa fb) :=
 mB vo ha hb fun _ _ p1 p2=>wl ho p1 p2
def gI(C:Int->Int->Prop)(g:Int->Int->FH):W->W->(W->Prop)->Prop:=fun x y Q=>∃i j,x = .d (.int i)/\y = .d (.int j)/\C i j/\Q (.d (g i j))
theorem aP{K:W.Frag}{i:Int}(h:Rep K F v (.int i)):v = .int i:=by cases h;rfl
theorem gU{C:Int->Int->Prop}{g:Int->Int->V}{gd:Int->Int->FH}(h:∀K F i j,Rep K F (g i j) (gd i j)):Ey X rl (rI C g) (gI C gd):=fun{F H x y wx wy} Qd Q s ra r1 r2 q k=>by
 obtain⟨i,j,rfl,rfl,c,q⟩:=q
 exact⟨i,j,aP r1,aP r2,c,k _ (.d _) _ _ (Grow.refl s ra) (h _ _ i j) trivial q⟩
def D8(g:Int->Int->FH):W->W->(W->Prop)->Prop:=fun x y Q=>∃i j,x = .d (.int i)/\y = .d (.int j)/\Q (.d (g i j))
theorem dt{g:Int->Int->V}{gd:Int->Int->FH}(h:∀K F i j,Rep K F (g i j) (gd i j)):Ey X rl (Dd g) (D8 gd):=fun{F H x y wx wy} Qd Q s ra r1 r2 q k=>by
 obtain⟨i,j,rfl,rfl,q⟩:=q
 exact⟨i,j,aP r1,aP r2,k _ (.d _) _ _ (Grow.refl s ra) (h _ _ i j) trivial q⟩
theorem v_add(ha:PV X rl a fa)(hb:PV X rl b fb):PV X rl (.BinOp a .Add b pos) (Cq (D8 fun i j=>.int (i+j)) fa fb):=ja rh (dt fun _ _ _ _=>.int _) ha hb
theorem v_sub(ha:PV X rl a fa)(hb:PV X rl b fb):PV X rl (.BinOp a .Sub b pos) (Cq (D8 fun i j=>.int (i-j)) fa fb):=ja wB (dt fun _ _ _ _=>.int _) ha hb
def Fz(i:Int):Prop:=i.natAbs<2^60000
theorem Fz.bits{i:Int}(h:Fz i):Builtin.Int.intBits i<=60000:=Lw.mpr h
def aZ(i j:Int):Prop:=i.natAbs<2^64\/j.natAbs<2^64\/(Fz i/\Fz j)
theorem aZ.lt{i j:Int}(h:i.natAbs<2^64):aZ i j:=.inl h
theorem aZ.rt{i j:Int}(h:j.natAbs<2^64):aZ i j:=.inr (.inl h)
theorem aZ.bb{i j:Int}(h:Fz i)(h':Fz j):aZ i j:=.inr (.inr ⟨h,h'⟩)
theorem aZ.ok{i j:Int}(h:aZ i j):IntMulOk i j:=by
 rcases h with h|h|h
 · exact .of_left (Lw.mpr h)
 · exact .of_right (Lw.mpr h)
 · exact IntMulOk.of_le h.1.bits h.2.bits (by decide)
theorem tD:E3 X (IP .Mult) (rI aZ fun i j=>.int (i*j)):=Dp fun _ _ _ _ _ _ _ hc q=>mul_int q hc.ok
theorem v_mul(ha:PV X rl a fa)(hb:PV X rl b fb):PV X rl (.BinOp a .Mult b pos) (Cq (gI aZ fun i j=>.int (i*j)) fa fb):=ja tD (gU fun _ _ _ _=>.int _) ha hb
def dW(_ j:Int):Prop:=j≠0/\j.natAbs<2^9000
theorem pX:E3 X (IP .FloorDiv) (rI dW fun i j=>.int (i.fdiv j)):=Dp fun _ j _ _ _ _ _ hc q=>floordiv_int hc.1 q (.inl (PyProof.noPylong_of_log2 ((Nat.log2_lt (by have:=hc.1;omega)).mpr hc.2)))
theorem v_div(ha:PV X rl a fa)(hb:PV X rl b fb):PV X rl (.BinOp a .FloorDiv b pos) (Cq (gI dW fun i j=>.int (i.fdiv j)) fa fb):=ja pX (gU fun _ _ _ _=>.int _) ha hb
theorem v_mod(ha:PV X rl a fa)(hb:PV X rl b fb):PV X rl (.BinOp a .Mod b pos) (Cq (gI (fun _ j=>j≠0) fun i j=>.int (i.fmod j)) fa fb):=ja tE (gU fun _ _ _ _=>.int _) ha hb
theorem v_pow(ha:PV X rl a fa)(hb:PV X rl b fb):PV X rl (.BinOp a .Pow b pos) (Cq (gI xZ fun i j=>.int (i^j.toNat)) fa fb):=ja wC (gU fun _ _ _ _=>.int _) ha hb
def yi(fa:TV):TV:=fun ρ Q=>fa ρ fun x=>∃i,x = .d (.int i)/\Q (.d (.int (-i)))
theorem po(ha:PV X rl a fa):PV X rl (.UnaryOp .USub a pos) (yi fa):=by
 obtain⟨ta,p1,k1⟩:=ha
 refine⟨_,yR vd p1,fun R Qd Q q k=>k1 R _ _ q fun v w F1 H1 g1 r1 n1 ⟨i,ew,q1⟩=>?_⟩
 subst ew
 exact⟨i,aP r1,k _ (.d _) F1 H1 g1 (.int _) trivial q1⟩
theorem jC{r:R2}{g:W->W->(W->Prop)->Prop}(ho:E3 X (IF op) r)(vo:Ey X rl r g)(hm:IQ op b=false)(ha:PV X rl a fa)(hb:PV X rl b fb):PV X rl (.Compare a [op] [b] pos) (Cq g fa fb) :=
 mB vo ha hb fun _ _ p1 p2=>tq ho p1 p2 hm
def mL(f:TV):TB:=fun ρ Q=>f ρ fun w=>∃k,w = .d (.bool k)/\Q k
theorem eV{K:W.Frag}{i:Bool}(h:Rep K F v (.bool i)):v = .bl i:=by cases h;rfl
theorem bK{r:R2}{g:W->W->(W->Prop)->Prop}(ho:E3 X (IF op) r)(vo:Ey X rl r g)(hm:IQ op b=false)(ha:PV X rl a fa)(hb:PV X rl b fb):PB X rl (.Compare a [op] [b] pos) (mL (Cq g fa fb)):=by
 obtain⟨ta,p1,k1⟩:=ha
 obtain⟨tb,p2,k2⟩:=hb
 refine⟨_,nB ho p1 p2 hm,fun R Qd Q q k=>?_⟩
 refine k1 R _ _ q fun v w F1 H1 g1 r1 n1 q1=>?_
 refine k2 (R.grow g1) _ _ q1 fun v2 w2 F2 H2 g2 r2 n2 q2=>?_
 refine vo _ _ g2.sub g2.reel (r1.grow g2) r2 q2 fun v3 w3 F3 H3 g3 r3 n3 ⟨kb,ew,q3⟩=>?_
 subst ew
 exact⟨kb,eV r3,k kb F3 H3 ((g1.trans g2).trans g3) q3⟩
theorem dF(ha:PV X rl e fa)(he:∀whole,isTrue e X.env whole=(do let v <- whole;LD e.pos;holding [v] (truthy v)):=by intro _;rfl):PB X rl e (mL fa):=by
 obtain⟨ta,p1,k1⟩:=ha
 refine⟨_,vW p1 he,fun R Qd Q q k=>k1 R _ _ q fun v w F1 H1 g1 r1 n1 ⟨kb,ew,q1⟩=>?_⟩
 subst ew
 exact⟨kb,eV r1,k kb F1 H1 g1 q1⟩
abbrev zq(p:Int->Int->Bool):=D8 fun i j=>.bool (p i j)
theorem pi:Ey X rl (Dd fun i j=>.bl (decide (i<j))) (zq fun i j=>decide (i<j)):=dt fun _ _ _ _=>.bl _
theorem rN:Ey X rl (Dd fun i j=>.bl (decide (j<i))) (zq fun i j=>decide (j<i)):=dt fun _ _ _ _=>.bl _
theorem x4:Ey X rl (Dd fun i j=>.bl (decide (j<=i))) (zq fun i j=>decide (j<=i)):=dt fun _ _ _ _=>.bl _
def yJ(K:W.Frag)(neg:Bool):R2:=fun x y H Q=>∃dx dy,Rep K H x dx/\Rep K H y dy/\GC dx=true/\GC dy=true/\Q (.bl (if neg then !Hi dx dy else Hi dx dy)) H
theorem rg(hu:X.A.units+64<LW):E3 X (IF .Eq) (yJ X.K false):=by
 intro pins s σ H x y v u Q I rx ry ⟨dx,dy,h1,h2,s1,s2,q⟩
 obtain⟨as,a1⟩:=Rep.reads I (.refl H) h1 v rx
 obtain⟨bs,a2⟩:=Rep.reads I (.refl H) h2 u ry
 exact SeqAt.compareEq_shaped a1 a2 s1 s2 hu ⟨.bl _,H,I,rfl,q⟩
theorem nM(hu:X.A.units+64<LW):E3 X (IF .NotEq) (yJ X.K true):=by
 intro pins s σ H x y v u Q I rx ry ⟨dx,dy,h1,h2,s1,s2,q⟩
 obtain⟨as,a1⟩:=Rep.reads I (.refl H) h1 v rx
 obtain⟨bs,a2⟩:=Rep.reads I (.refl H) h2 u ry
 exact SeqAt.compareNe_shaped a1 a2 s1 s2 hu ⟨.bl _,H,I,rfl,q⟩
def zo(neg:Bool):W->W->(W->Prop)->Prop:=fun x y Q=>∃dx dy,x.dat=some dx/\y.dat=some dy/\GC dx=true/\GC dy=true/\Q (.d (.bool (if neg then !Hi dx dy else Hi dx dy)))
theorem iI{neg:Bool}:Ey X rl (yJ X.K neg) (zo neg):=fun{F H x y wx wy} Qd Q s ra r1 r2 q k=>by
 obtain⟨dx,dy,e1,e2,s1,s2,q⟩:=q
 exact⟨dx,dy,r1.dat s e1,r2.dat s e2,s1,s2,k _ (.d _) _ _ (Grow.refl s ra) (.bl _) trivial q⟩
def AT(K:W.Frag)(neg:Bool):R2:=fun x y H Q=>∃dx ys,Rep K H x dx/\(Rep K H y (.list ys)\/Rep K H y (.tuple ys))/\GC dx=true/\GE ys=true/\Q (.bl (if neg then !(ys.any fun z=>Hi z dx)else ys.any fun z=>Hi z dx)) H
theorem og{ys:List FH}(hu:A.units+65<LW)(h:GC d=true):A.units+1+min (Go ys) d.depth<LW:=by
 have h1:=SeqAt.depth_of_shaped h
 have h2:min (Go ys) d.depth<=d.depth:=Nat.min_le_right _ _
 omega
theorem fR(hu:X.A.units+65<LW):E3 X (IF .NotIn) (AT X.K true):=by
 intro pins s σ H x y v u Q I rx ry ⟨dx,ys,h1,h2,s1,s2,q⟩
 obtain⟨as,a1⟩:=Rep.reads I (.refl H) h1 v rx
 rcases h2 with h2|h2
 · obtain⟨bs,a2⟩:=Rep.reads I (.refl H) h2 u ry
   exact SeqAt.notIn_list_reads a2 a1 s2 (KS s1) (og hu s1) ⟨.bl _,H,I,rfl,q⟩
 · obtain⟨bs,a2⟩:=Rep.reads I (.refl H) h2 u ry
   exact SeqAt.notIn_tuple_reads a2 a1 s2 (KS s1) (og hu s1) ⟨.bl _,H,I,rfl,q⟩
def zn(neg:Bool):W->W->(W->Prop)->Prop:=fun x y Q=>∃dx ys,x.dat=some dx/\(y.dat=some (.list ys)\/y.dat=some (.tuple ys))/\GC dx=true/\GE ys=true/\Q (.d (.bool (if neg then !(ys.any fun z=>Hi z dx)else ys.any fun z=>Hi z dx)))
theorem mD{neg:Bool}:Ey X rl (AT X.K neg) (zn neg):=fun{F H x y wx wy} Qd Q s ra r1 r2 q k=>by
 obtain⟨dx,ys,e1,e2,s1,s2,q⟩:=q
 exact⟨dx,ys,r1.dat s e1,e2.imp (fun e=>r2.dat s e) (fun e=>r2.dat s e),s1,s2,k _ (.d _) _ _ (Grow.refl s ra) (.bl _) trivial q⟩
def xL(f g:TB):TB:=fun ρ Q=>f ρ fun b=>if b=true then g ρ Q else Q false
def Cp(f g:TB):TB:=fun ρ Q=>f ρ fun b=>if b=true then Q true else g ρ Q
def AI(f:TB):TB:=fun ρ Q=>f ρ fun b=>Q (!b)
def E2(X:Cx)(rl:RlT)(e:Expr)(f:TB):Prop:=∃t,PW X e t/\∀{F₀ H₀ F H:Hp}{σ:St}{ρ:En},VR X.K rl F₀ H₀ F H σ ρ->∀(Qd:Bool->Prop)(Q:Bool->Hp->Prop),f ρ Qd ->
 (∀b F' H',Grow rl F H F' H'->Qd b->Q b H')->t σ H Q
variable{f g:TB}{rest:List Expr}
theorem E2.pb(h:E2 X rl e f):PB X rl e f:=let ⟨t,p,k⟩:=h;⟨t,p.pt,k⟩
theorem rV(ha:PB X rl a f):E2 X rl (.BoolOp .And [a] pos) f:=let ⟨t,p,k⟩:=ha;⟨t,ny p,k⟩
theorem uS(ha:PB X rl a f):E2 X rl (.BoolOp .Or [a] pos) f:=let ⟨t,p,k⟩:=ha;⟨t,vU p,k⟩
theorem uT(ha:PB X rl a f)(hb:E2 X rl (.BoolOp .And (b::rest) pos) g):E2 X rl (.BoolOp .And (a::b::rest) pos) (xL f g):=by
 obtain⟨t,p,k⟩:=ha
 obtain⟨t2,p2,k2⟩:=hb
 refine⟨_,qZ p p2,fun R Qd Q q h=>k R _ _ q fun c F1 H1 g1 q1=>?_⟩
 cases c with
 | true=>exact k2 (R.grow g1) _ _ q1 fun c F2 H2 g2 q2=>h c F2 H2 (g1.trans g2) q2
 | false=>exact h false F1 H1 g1 q1
theorem x6(ha:PB X rl a f)(hb:E2 X rl (.BoolOp .Or (b::rest) pos) g):E2 X rl (.BoolOp .Or (a::b::rest) pos) (Cp f g):=by
 obtain⟨t,p,k⟩:=ha
 obtain⟨t2,p2,k2⟩:=hb
 refine⟨_,yN p p2,fun R Qd Q q h=>k R _ _ q fun c F1 H1 g1 q1=>?_⟩
 cases c with
 | true=>exact h true F1 H1 g1 q1
 | false=>exact k2 (R.grow g1) _ _ q1 fun c F2 H2 g2 q2=>h c F2 H2 (g1.trans g2) q2
theorem qR(ha:PB X rl a f):PB X rl (.UnaryOp .Not a pos) (AI f):=by
 obtain⟨t,p,k⟩:=ha
 exact⟨_,vX p,fun R Qd Q q h=>k R _ _ q fun c F1 H1 g1 q1=>h (!c) F1 H1 g1 q1⟩
def sa(fa fb:TV):TV:=fun ρ Q=>fa ρ fun w=>∃c,w = .d (.bool c)/\if c=true then fb ρ Q else Q (.d (.bool false))
def yg(fa fb:TV):TV:=fun ρ Q=>fa ρ fun w=>∃c,w = .d (.bool c)/\if c=true then Q (.d (.bool true))else fb ρ Q
def rY(fa:TV):TV:=fun ρ Q=>fa ρ fun w=>∃c,w = .d (.bool c)/\Q (.d (.bool (!c)))
theorem dq.back{rl:RlT}{w:W}(g:Grow rl F H F' H')(n:dq H' v w):dq H v w:=by
 cases w with
 | ml xs=>exact fun a ea=>g.freeB (n a ea)
 | md xs=>exact fun a ea=>g.freeB (n a ea)
 | mk xs=>exact fun a ea=>g.freeB (n a ea)
 | nt _=>trivial
 | lk=>trivial
 | sc _=>trivial
 | fd _=>trivial
 | fw _=>trivial
 | ft _=>trivial
 | xc _ _=>trivial
 | dp _ _=>trivial
 | d _=>trivial
 | pk _=>trivial
 | reel=>trivial
 | vv _=>trivial
theorem uX{op}(ha:PV X rl a fa):PV X rl (.BoolOp op [a] pos) fa:=let ⟨t,p,k⟩:=ha;⟨t,wm p,k⟩
theorem v_and(ha:PV X rl a fa)(hb:PV X rl (.BoolOp .And (b::rest) pos) fb):PV X rl (.BoolOp .And (a::b::rest) pos) (sa fa fb):=by
 obtain⟨t,p,k⟩:=ha
 obtain⟨t2,p2,k2⟩:=hb
 refine⟨_,wr p p2,fun R Qd Q q h=>k R _ _ q fun v w F1 H1 g1 r1 n1 ⟨c,ew,q1⟩=>?_⟩
 subst ew
 refine⟨c,eV r1,?_⟩
 cases c with
 | true=>exact k2 (R.grow g1) _ _ q1 fun v w F2 H2 g2 r2 n2 q2=>h v w F2 H2 (g1.trans g2) r2 (n2.back g1) q2
 | false=>exact h _ (.d _) F1 H1 g1 (.bl false) trivial q1
theorem v_or(ha:PV X rl a fa)(hb:PV X rl (.BoolOp .Or (b::rest) pos) fb):PV X rl (.BoolOp .Or (a::b::rest) pos) (yg fa fb):=by
 obtain⟨t,p,k⟩:=ha
 obtain⟨t2,p2,k2⟩:=hb
 refine⟨_,yS p p2,fun R Qd Q q h=>k R _ _ q fun v w F1 H1 g1 r1 n1 ⟨c,ew,q1⟩=>?_⟩
 subst ew
 refine⟨c,eV r1,?_⟩
 cases c with
 | false=>exact k2 (R.grow g1) _ _ q1 fun v w F2 H2 g2 r2 n2 q2=>h v w F2 H2 (g1.trans g2) r2 (n2.back g1) q2
 | true=>exact h _ (.d _) F1 H1 g1 (.bl true) trivial q1
theorem v_not(ha:PV X rl a fa):PV X rl (.UnaryOp .Not a pos) (rY fa):=by
 obtain⟨t,p,k⟩:=ha
 refine⟨_,wn p,fun R Qd Q q h=>k R _ _ q fun v w F1 H1 g1 r1 n1 ⟨c,ew,q1⟩=>?_⟩
 subst ew
 exact⟨c,eV r1,h _ (.d _) F1 H1 g1 (.bl _) trivial q1⟩
def Cr(t:TB)(fa fb:TV):TV:=fun ρ Q=>t ρ fun c=>if c=true then fa ρ Q else fb ρ Q
theorem gZ{c:Expr}(hc:PB X rl c f)(ha:PV X rl a fa)(hb:PV X rl b fb):PV X rl (.IfExp c a b pos) (Cr f fa fb):=by
 obtain⟨t,p,k⟩:=hc
 obtain⟨t1,p1,k1⟩:=ha
 obtain⟨t2,p2,k2⟩:=hb
 refine⟨_,pR p p1 p2,fun R Qd Q q h=>k R _ _ q fun c F1 H1 g1 q1=>?_⟩
 cases c with
 | true=>exact k1 (R.grow g1) _ _ q1 fun v w F2 H2 g2 r2 n2 q2=>h v w F2 H2 (g1.trans g2) r2 (n2.back g1) q2
 | false=>exact k2 (R.grow g1) _ _ q1 fun v w F2 H2 g2 r2 n2 q2=>h v w F2 H2 (g1.trans g2) r2 (n2.back g1) q2
def gP:List W->Option (List FH)
 | []=>some []
 | .d x::r=>(gP r).map (x :: ·)
 | _::_=>none
theorem dC{K:W.Frag}{F H:Hp}:∀{vs:List V}{ws:List W}{ds:List FH},dU K rl F H vs ws->gP ws=some ds->Reps K F vs ds
 | _,_,_,.nil,e=>by cases e;exact .nil
 | _,.d x::ws,ds,.cons r rs,e=>by
   have e:(gP ws).map (x :: ·)=some ds:=e
   cases q:gP ws with
   | none=>rw[q]at e;cases e
   | some es=>rw[q]at e;cases e;exact .cons r (dC rs q)
 | _,.ml x::ws,ds,.cons r rs,e=>by cases(show none=some ds from e)
 | _,.pk x::ws,ds,.cons r rs,e=>by cases(show none=some ds from e)
 | _,.reel::ws,ds,.cons r rs,e=>by cases(show none=some ds from e)
 | _,.vv u::ws,ds,.cons r rs,e=>by cases(show none=some ds from e)
 | _,.md u::ws,ds,.cons r rs,e=>by cases(show none=some ds from e)
 | _,.nt u::ws,ds,.cons r rs,e=>by cases(show none=some ds from e)
 | _,.lk::ws,ds,.cons r rs,e=>by cases(show none=some ds from e)
 | _,.sc _::ws,ds,.cons r rs,e=>by cases(show none=some ds from e)
 | _,.fd _::ws,ds,.cons r rs,e=>by cases(show none=some ds from e)
 | _,.xc _ _::ws,ds,.cons r rs,e=>by cases(show none=some ds from e)
 | _,.mk _::ws,ds,.cons r rs,e=>by cases(show none=some ds from e)
 | _,.fw _::ws,ds,.cons r rs,e=>by cases(show none=some ds from e)
 | _,.ft _::ws,ds,.cons r rs,e=>by cases(show none=some ds from e)
 | _,.dp _ _::ws,ds,.cons r rs,e=>by cases(show none=some ds from e)
def x_(fs:EA):TV:=fun ρ Q=>fs ρ fun ws=>∃ds,gP ws=some ds/\ds.length<=sizeLine/\Q (.d (.tuple ds))
def yj(fs:EA):TV:=fun ρ Q=>fs ρ fun ws=>∃ds,gP ws=some ds/\ds.length<=sizeLine/\Q (.ml ds)
theorem cn{x1}(h:EO X rl es fs):PV X rl (.Tuple es x1 pos) (x_ fs):=by
 obtain⟨t,p,k⟩:=h
 refine⟨_,wg p,fun R Qd Q q h=>k R _ _ q fun vs ws F1 H1 g1 r1 ⟨ds,e1,z,q1⟩=>?_⟩
 have rs:=dC r1 e1
 refine⟨by rw[rs.length];exact z,fun p hp=>?_⟩
 have g2:=g1.trans (Grow.data (a:=p) (o:=.tup vs) g1.sub g1.reel hp)
 exact h _ (.d (.tuple ds)) _ _ g2 (.tup (.inl (.inl av)) (rs.mono (Grow.data (o:=.tup vs) g1.sub g1.reel hp).fs)) trivial q1
theorem cC{K:W.Frag}{p:Addr}{ds:List FH}(s:bC F H)(ra:EM rl F H)(hp:H p=none)(rs:Reps K F vs ds):iE K rl F (Cs H p (.lst vs)) (.ref p) ds:=by
 refine⟨p,vs,rfl,s.free hp,fun e=>?_,av,rs⟩
 obtain⟨o,q⟩:=ra.live e
 rw[hp]at q
 cases q
theorem fg(h:EO X rl es fs):PV X rl (.List es pos) (yj fs):=by
 obtain⟨t,p,k⟩:=h
 refine⟨_,wp p,fun R Qd Q q h=>k R _ _ q fun vs ws F1 H1 g1 r1 ⟨ds,e1,z,q1⟩=>?_⟩
 have rs:=dC r1 e1
 refine⟨by rw[rs.length];exact z,fun p hp=>?_⟩
 exact h _ (.ml ds) _ _ (g1.trans (Grow.laid (a:=p) (o:=.lst vs) g1.sub g1.reel hp)) (cC g1.sub g1.reel hp rs) (fun a ea=>by cases ea;exact g1.freeB hp) q1
def itemAt:FH->Int->Option FH
 | .list xs,i=>atI xs i
 | .tuple xs,i=>atI xs i
 | _,_=>none
theorem Reps.atI{K:W.Frag}{F:Hp}{vs:List V}{ds:List FH}{i:Int}{d:FH}(r:Reps K F vs ds)(e:L2.atI ds i=some d):∃v,L2.atI vs i=some v/\Rep K F v d:=by
 unfold L2.atI at e ⊢
 rw[r.length]
 cases q:ixN ds.length i with
 | none=>rw[q]at e;cases e
 | some j =>
   rw[q]at e
   exact r.get e
def D6:W->W->(W->Prop)->Prop:=fun x y Q=>∃dx i z,x.dat=some dx/\y = .d (.int i)/\itemAt dx i=some z/\Q (.d z)
theorem uM:Ey X rl (Dc X.K) D6:=fun{F H x y wx wy} Qd Q s ra r1 r2 q k=>by
 obtain⟨dx,i,z,e1,rfl,e3,q⟩:=q
 have ey:=aP r2
 subst ey
 cases dx with
 | list xs =>
   obtain⟨a,vs,rfl,sq,rs⟩:=r1.items s e1
   obtain⟨v,e4,rz⟩:=Reps.atI rs e3
   exact .inl ⟨a,vs,i,v,rfl,rfl,sq,e4,k _ (.d _) _ _ (Grow.refl s ra) rz trivial q⟩
 | tuple xs =>
   obtain⟨a,vs,rfl,sq,rs⟩:=r1.itemsT s e1
   obtain⟨v,e4,rz⟩:=Reps.atI rs e3
   exact .inr (.inl ⟨a,vs,i,v,rfl,rfl,sq,e4,k _ (.d _) _ _ (Grow.refl s ra) rz trivial q⟩)
 | none=>cases e3
 | bool b=>cases e3
 | int b=>cases e3
 | str b=>cases e3
 | dict b=>cases e3
theorem bW(ha:PV X rl a fa)(hb:PV X rl b fb)(hs:ka b:=by exact fun _ _=>rfl):PV X rl (.Subscript a b pos) (Cq D6 fa fb):=mB uM ha hb fun _ _ p1 p2=>wq rm p1 p2 hs
def fx(X:Cx)(rl:RlT)(r:List V->Hp->VK->Prop)(g:List W->(W->Prop)->Prop):Prop:=∀{F H:Hp}{vs:List V}{ws:List W}(Qd:W->Prop)(Q:VK),bC F H->EM rl F H->dU X.K rl F H vs ws->g ws Qd ->
 (∀v w F' H',Grow rl F H F' H'->cQ X.K rl F' H' v w->dq H v w->Qd w->Q v H')->r vs H Q
def dJ(g:List W->(W->Prop)->Prop)(fs:EA):TV:=fun ρ Q=>fs ρ fun ws=>g ws Q
theorem kF{g:List W->(W->Prop)->Prop}{t:TA->TE}(vc:fx X rl r g)(ha:EO X rl es fs){e:Expr}(hp:∀ta,PA X es ta->PE X e (CO r ta)):PV X rl e (dJ g fs):=by
 obtain⟨ta,p1,k1⟩:=ha
 refine⟨_,hp ta p1,fun R Qd Q q k=>k1 R _ _ q fun vs ws F1 H1 g1 r1 q1=>?_⟩
 exact vc Qd Q g1.sub g1.reel r1 q1 fun v w F2 H2 g2 r2 n2 q2=>k v w F2 H2 (g1.trans g2) r2 (n2.back g1) q2
theorem fI{id:String}{g:List W->(W->Prop)->Prop}(hc:dD X (.builtin id) r)(vc:fx X rl r g)(hm:X.mg x=none)(hv:II x=some (.builtin id))(ha:EO X rl (e::es) fs)(hg:Gl X x:=by rfl)(hn:x ≠ "__name__" := by decide)(hdb:(x==("__debug__" : Str))=false:=by decide)
 (he:FU (e::es) X.env=(false,eval e X.env)::FU es X.env:=by rfl)(hpl:(Hs pos (FU es X.env)).any (·.1)=false:=by rfl):PV X rl (.Call (.Name x p) (e::es) [] pos) (dJ g fs) :=
 kF (t:=fun _=>tC .non) vc ha fun _ p1=>pU hc hg hm hv p1 hn hdb he hpl
theorem g_{T:String}{g:List W->(W->Prop)->Prop}(hc:dD X (.type T) r)(vc:fx X rl r g)(hm:X.mg x=none)(hv:II x=some (.type T))(ha:EO X rl (e::es) fs)(hg:Gl X x:=by rfl)(hn:x ≠ "__name__" := by decide)(hdb:(x==("__debug__" : Str))=false:=by decide)
 (he:FU (e::es) X.env=(false,eval e X.env)::FU es X.env:=by rfl)(hpl:(Hs pos (FU es X.env)).any (·.1)=false:=by rfl):PV X rl (.Call (.Name x p) (e::es) [] pos) (dJ g fs) :=
 kF (t:=fun _=>tC .non) vc ha fun _ p1=>jd hc hg hm hv p1 hn hdb he hpl
theorem lY{K:W.Frag}{w:W}(r:dU K rl F H vs [w]):∃v,vs=[v]/\cQ K rl F H v w:=by
 cases r with
 | cons r1 r2=>cases r2;exact⟨_,rfl,r1⟩
theorem yI{K:W.Frag}{w w':W}(r:dU K rl F H vs [w,w']):∃v u,vs=[v,u]/\cQ K rl F H v w/\cQ K rl F H u w':=by
 cases r with
 | cons r1 r2 =>
   cases r2 with
   | cons r3 r4=>cases r4;exact⟨_,_,rfl,r1,r3⟩
def xU:List W->(W->Prop)->Prop:=fun ws Q=>∃i,ws=[.d (.int i)]/\Q (.d (.int (if i<0 then -i else i)))
theorem uR:fx X rl (fun xs H Q=>∃i,xs=[.int i]/\Q (.int (if i<0 then -i else i)) H) xU:=fun{F H vs ws} Qd Q s ra r ⟨i,ew,q⟩ k=>by
 subst ew
 obtain⟨v,rfl,r1⟩:=lY r
 have e:=aP r1
 subst e
 exact⟨i,rfl,k _ (.d _) _ _ (Grow.refl s ra) (.int _) trivial q⟩
def qb:FH->Option Nat
 | .list xs=>some xs.length
 | .tuple xs=>some xs.length
 | _=>none
def xR:List W->(W->Prop)->Prop:=fun ws Q=>∃w d n,ws=[w]/\w.dat=some d/\qb d=some n/\Q (.d (.int n))
theorem uQ:fx X rl (fun xs H Q=>∃p ys,xs=[.ref p]/\(EH X.K H p ys\/EG X.K H p ys)/\Q (.int ys.length) H) xR:=fun{F H vs ws} Qd Q s ra r ⟨w,d,n,ew,e1,e2,q⟩ k=>by
 subst ew
 obtain⟨v,rfl,r1⟩:=lY r
 cases d with
 | list xs =>
   obtain⟨a,vs,rfl,sq,rs⟩:=r1.items s e1
   cases e2
   exact⟨a,vs,rfl,.inl sq,k _ (.d _) _ _ (Grow.refl s ra) (by rw[rs.length];exact .int _) trivial q⟩
 | tuple xs =>
   obtain⟨a,vs,rfl,sq,rs⟩:=r1.itemsT s e1
   cases e2
   exact⟨a,vs,rfl,.inr sq,k _ (.d _) _ _ (Grow.refl s ra) (by rw[rs.length];exact .int _) trivial q⟩
 | none=>cases e2
 | bool b=>cases e2
 | int b=>cases e2
 | str b=>cases e2
 | dict b=>cases e2
end
structure VEnds where
 nx:En->Prop
 rt:W->Prop
 bk:En->Prop:=fun _=>False
 ct:En->Prop:=fun _=>False
structure EndsOk (K:W.Frag) (rl:RlT) (F₀ H₀ Fs:Hp) (Dv:VEnds) (D:Ends):Prop where
 nx:∀F H σ ρ,bC Fs F->VR K rl F₀ H₀ F H σ ρ->Dv.nx ρ->D.nx σ H
 rt:∀v w F H,Grow rl F₀ H₀ F H->cQ K rl F H v w->dq H₀ v w->Dv.rt w->D.rt v H
 bk:∀F H σ ρ,bC Fs F->VR K rl F₀ H₀ F H σ ρ->Dv.bk ρ->D.bk σ H
 ct:∀F H σ ρ,bC Fs F->VR K rl F₀ H₀ F H σ ρ->Dv.ct ρ->D.ct σ H
theorem EndsOk.on{K:W.Frag}{rl:RlT}{Fs:Hp}{Dv:VEnds}{D:Ends}(ok:EndsOk K rl F₀ H₀ Fs Dv D)(s:bC Fs F):EndsOk K rl F₀ H₀ F Dv D :=
 ⟨fun F1 H σ ρ s1=>ok.nx F1 H σ ρ (s.trans s1),ok.rt,fun F1 H σ ρ s1=>ok.bk F1 H σ ρ (s.trans s1),fun F1 H σ ρ s1=>ok.ct F1 H σ ρ (s.trans s1)⟩
abbrev EB:=VEnds->En->Prop
def EU(X:Cx)(rl:RlT)(st:Stmt)(t:EB):Prop:=∃T,PS X st T/\∀{F₀ H₀ F H:Hp}{σ:St}{ρ:En},VR X.K rl F₀ H₀ F H σ ρ->∀Dv D,EndsOk X.K rl F₀ H₀ F Dv D->t Dv ρ->T D σ H
def kd(X:Cx)(rl:RlT)(st:List Stmt)(t:EB):Prop:=∃T,ET X st T/\∀{F₀ H₀ F H:Hp}{σ:St}{ρ:En},VR X.K rl F₀ H₀ F H σ ρ->∀Dv D,EndsOk X.K rl F₀ H₀ F Dv D->t Dv ρ->T D σ H
section
variable{X:Cx}{rl:RlT}{st:Stmt}{rest body:List Stmt}{t u:EB}{a b c e:Expr}{es:List Expr}{fa fb:TV}{fs:EA}{f:TB}{pos p:Pos}
def rZ:EB:=fun D ρ=>D.nx ρ
def ye(t u:EB):EB:=fun D ρ=>t {D with nx:=u D} ρ
theorem bT:kd X rl [] rZ:=⟨_,sO,fun R Dv D ok q=>ok.nx _ _ _ _ (.refl _) R q⟩
theorem aq(h:EU X rl st t):kd X rl [st] t:=let ⟨T,p,k⟩:=h;⟨T,jJ p,k⟩
theorem ah(h:EU X rl st t)(h2:kd X rl rest u):kd X rl (st::rest) (ye t u):=by
 obtain⟨T,p,k⟩:=h
 obtain⟨T2,p2,k2⟩:=h2
 exact⟨_,d7 p p2,fun R Dv D ok q=>k R {Dv with nx:=u Dv} {D with nx:=T2 D} ⟨fun F H σ ρ s' R' q'=>k2 R' Dv D (ok.on s') q',ok.rt,ok.bk,ok.ct⟩ q⟩
def yf(fa:TV):EB:=fun D ρ=>fa ρ D.rt
theorem ax(h:PV X rl e fa):EU X rl (.Return (some e) pos) (yf fa):=by
 obtain⟨t,p,k⟩:=h
 exact⟨_,nD p,fun R Dv D ok q=>k R _ _ q fun v w F1 H1 g1 r1 n1 q1=>ok.rt v w F1 H1 (R.g.trans g1) r1 (n1.back R.g) q1⟩
def xK(f:TB)(t u:EB):EB:=fun D ρ=>f ρ fun b=>if b=true then t D ρ else u D ρ
theorem cS{A B:List Stmt}(hc:PB X rl c f)(ha:kd X rl A t)(hb:kd X rl B u):EU X rl (.If c A B pos) (xK f t u):=by
 obtain⟨t0,p0,k0⟩:=hc
 obtain⟨t1,p1,k1⟩:=ha
 obtain⟨t2,p2,k2⟩:=hb
 refine⟨_,vZ p0 p1 p2,fun R Dv D ok q=>k0 R _ _ q fun b F1 H1 g1 q1=>?_⟩
 cases b with
 | true=>exact k1 (R.grow g1) Dv D (ok.on g1.fs) q1
 | false=>exact k2 (R.grow g1) Dv D (ok.on g1.fs) q1
theorem kB:EU X rl st (fun _ _=>False):=⟨_,pO,fun _ _ _ _ q=>q.elim⟩
def W.isPk:W->Bool
 | .pk _=>true
 | _=>false
def yd(i:Nat)(fa:TV):EB:=fun D ρ=>fa ρ fun w=>w.isPk=false/\D.nx (ρ.set i (some w))
theorem kz(i:Nat)(hN:X.N.Nodup)(he:PV X rl e fa)(hi:X.N[i]?=some x:=by rfl)(hx:Loc X.env.scope x:=by first|exact Ix rfl|exact HN rfl)
 (hs:HS e (some (.Name x pos')) pos.line X.env=pure false:=by rfl)(hf:X.fn x=true\/X.env.scope.names.lookup x=some .local:=by first|exact .inl rfl|exact .inr rfl) :
 EU X rl (.Assign [.Name x pos'] e pos) (yd i fa):=by
 obtain⟨t,p,k⟩:=he
 refine⟨_,fN hN hi hx p hs hf,fun R Dv D ok q=>k R _ _ q fun v w F1 H1 g1 r1 n1 ⟨hp,q1⟩=>?_⟩
 exact ok.nx _ _ _ _ g1.fs (R.set g1 r1 n1 (fun xs z=>by subst z;cases hp) i) q1
def lX(ρ:En):Prop:=∀(i:Nat)(w:W),ρ[i]?=some (some w)->w.own=false
theorem lX.set{ρ:En}(h:lX ρ)(i:Nat)(x:FH):lX (ρ.set i (some (.d x))):=fun j w z=>by
 rw[Hn]at z
 split at z
 · split at z
   · cases z;rfl
   · cases z
 · exact h j w z
abbrev EE:=FH->En->(En->Prop)->Prop
abbrev o9:=List FH->En->(En->Prop)->Prop
def E1(X:Cx)(rl:RlT)(tg:Expr)(g:EE):Prop:=∃G,PG X tg G/\∀{F₀ H₀ F H:Hp}{σ:St}{ρ:En},VR X.K rl F₀ H₀ F H σ ρ->∀(v:V)(x:FH)(Qd:En->Prop)(Q:St->Hp->Prop),Rep X.K F v x->g x ρ Qd ->
 (∀F' H' σ' ρ',Grow rl F H F' H'->(lX ρ->lX ρ')->VR X.K rl F₀ H₀ F' H' σ' ρ'->Qd ρ'->Q σ' H')->G v σ H Q
def xW(X:Cx)(rl:RlT)(tgs:List Expr)(g:o9):Prop:=∃G,EZ X tgs G/\∀{F₀ H₀ F H:Hp}{σ:St}{ρ:En},VR X.K rl F₀ H₀ F H σ ρ->∀(vs:List V)(xs:List FH)(Qd:En->Prop)(Q:St->Hp->Prop),Reps X.K F vs xs->g xs ρ Qd ->
 (∀F' H' σ' ρ',Grow rl F H F' H'->(lX ρ->lX ρ')->VR X.K rl F₀ H₀ F' H' σ' ρ'->Qd ρ'->Q σ' H')->G vs σ H Q
def wY(i:Nat):EE:=fun x ρ Q=>Q (ρ.set i (some (.d x)))
theorem aj(i:Nat)(hN:X.N.Nodup)(hi:X.N[i]?=some x:=by rfl)(hx:Loc X.env.scope x:=by first|exact Ix rfl|exact HN rfl)(hf:X.fn x=true\/X.env.scope.names.lookup x=some .local:=by first|exact .inl rfl|exact .inr rfl):E1 X rl (.Name x pos) (wY i) :=
 ⟨_,s_ hN hi hx hf,fun R v x Qd Q r q k=>k _ _ _ _ (Grow.refl R.sub R.reel) (fun n=>n.set i x) (R.set (w:=.d x) (Grow.refl R.sub R.reel) r trivial (fun _ z=>by cases z) i) q⟩
def zj:o9:=fun xs ρ Q=>xs=[]/\Q ρ
def qq(g:EE)(gs:o9):o9:=fun xs ρ Q=>∃y r,xs=y::r/\g y ρ fun ρ'=>gs r ρ' Q
theorem dI:xW X rl [] zj:=⟨_,sZ,fun R vs xs Qd Q r ⟨e,q⟩ k=>by subst e;exact⟨r.nil_iff,k _ _ _ _ (Grow.refl R.sub R.reel) (fun n=>n) R q⟩⟩
theorem aC{g:EE}{gs:o9}(h1:E1 X rl e g)(h2:xW X rl es gs)(hs:(IG (e::es) X.env).map (·.2)=IS e X.env::(IG es X.env).map (·.2):=by rfl):xW X rl (e::es) (qq g gs):=by
 obtain⟨G,p,k⟩:=h1
 obtain⟨G2,p2,k2⟩:=h2
 refine⟨_,pQ p p2 hs,fun R vs xs Qd Q r ⟨y,ys,ex,q⟩ h=>?_⟩
 subst ex
 cases r with
 | cons r1 r2 =>
   refine⟨_,_,rfl,k R _ y _ _ r1 q fun F1 H1 σ1 ρ1 s1 n1 R1 q1=>?_⟩
   exact k2 R1 _ ys _ _ (r2.mono s1.fs) q1 fun F2 H2 σ2 ρ2 s2 n2 R2 q2=>h F2 H2 σ2 ρ2 (s1.trans s2) (fun n=>n2 (n1 n)) R2 q2
def zi(n:Nat)(gs:o9):EE:=fun x ρ Q=>∃xs,x = .tuple xs/\xs.length=n/\gs xs ρ Q
theorem fH{kk:Nat}{gs:o9}(hc:X.calm=true)(h:xW X rl es gs)(hn:(IG es X.env).length=n:=by rfl)(hst:(IG es X.env).findIdx? (·.1)=none:=by rfl):E1 X rl (.Tuple es kk pos) (zi n gs):=by
 obtain⟨G,p,k⟩:=h
 refine⟨_,wf hc p hn hst,fun R v x Qd Q r ⟨xs,ex,hl,q⟩ h=>?_⟩
 subst ex
 cases r with
 | tup sq rs=>exact⟨_,_,rfl,d6 R.sub sq,by rw[rs.length];exact hl,k R _ xs _ _ rs q h⟩
def ym(fa:TV)(g:EE):EB:=fun D ρ=>fa ρ fun w=>∃x,w = .d x/\g x ρ D.nx
theorem mw{g:EE}(he:PV X rl e fa)(hg:E1 X rl tg g)(hs:Kx [tg] e pos.line X.env=pure false:=by rfl)(hw:Ky [tg] e X.env=pure none:=by rfl)
 (h1:(IG [tg] X.env).map (·.2)=[IS tg X.env]:=by rfl):EU X rl (.Assign [tg] e pos) (ym fa g):=by
 obtain⟨t,p,k⟩:=he
 obtain⟨G,p2,k2⟩:=hg
 refine⟨_,v6 p p2 hs hw h1,fun R Dv D ok q=>k R _ _ q fun v w F1 H1 g1 r1 n1 ⟨x,ew,q1⟩=>?_⟩
 subst ew
 exact k2 (R.grow g1) v x _ _ r1 q1 fun F2 H2 σ2 ρ2 s2 n2 R2 q2=>ok.nx _ _ _ _ (g1.fs.trans s2.fs) R2 q2
def AH(i j:Nat)(fs:EA):EB:=fun D ρ=>fs ρ fun ws=>∃x y,gP ws=some [x,y]/\D.nx ((ρ.set i (some (.d x))).set j (some (.d y)))
theorem qP(i j:Nat){y:Str}{py pt:Pos}{kt k2 pt2}(hc:X.calm=true)(hN:X.N.Nodup)(ha:EO X rl [a,b] fs)
 (hw:Ky [.Tuple [.Name x px,.Name y py] kt pt] (.Tuple [a,b] k2 pt2) X.env=pure (some [x,y]):=by rfl)(hi:X.N[i]?=some x:=by rfl)(hj:X.N[j]?=some y:=by rfl)(hij:i≠j:=by decide)
 (hx:X.env.scope.names.lookup x=some .local:=by rfl)(hy:X.env.scope.names.lookup y=some .local:=by rfl)
 (hs:Kx [.Tuple [.Name x px,.Name y py] kt pt] (.Tuple [a,b] k2 pt2) pos.line X.env=pure false:=by rfl) :
 EU X rl (.Assign [.Tuple [.Name x px,.Name y py] kt pt] (.Tuple [a,b] k2 pt2) pos) (AH i j fs):=by
 obtain⟨t,p,k⟩:=ha
 refine⟨_,vY hc hN hi hj hij hx hy p hw hs,fun R Dv D ok q=>k R _ _ q fun vs ws F1 H1 g1 r1 ⟨x,y,e1,q1⟩=>?_⟩
 have rs:=dC r1 e1
 cases rs with
 | cons rx rs =>
   cases rs with
   | cons ry rs =>
     cases rs
     have R1:=(R.grow g1).set (w:=.d x) (Grow.refl g1.sub g1.reel) rx trivial (fun _ z=>by cases z) i
     exact⟨_,_,rfl,ok.nx _ _ _ _ g1.fs (R1.set (w:=.d y) (Grow.refl g1.sub g1.reel) ry trivial (fun _ z=>by cases z) j) q1⟩
structure VIt (K:W.Frag) (rl:RlT) (F:Hp) (J:It) (xs:List FH):Prop where
 go:∀i H x,xs[i]?=some x->bC F H->J.go i H
 stop:∀i H,xs.length<=i->bC F H->J.stop i H
 yld:∀{r:RlT} i H v H' x F2,xs[i]?=some x->bC F F2->bC F2 H->EM r F2 H->J.yld i H v H'->∃F3,Grow r F2 H F3 H'/\Rep K F3 v x
theorem VIt.of{K:W.Frag}{rl:RlT}{J:It}(go:∀i H x,xs[i]?=some x->bC F H->J.go i H)(stop:∀i H,xs.length<=i->bC F H->J.stop i H)
 (yld:∀i H v H' x,xs[i]?=some x->bC F H->J.yld i H v H'->H'=H/\Rep K F v x):VIt K rl F J xs :=
 ⟨go,stop,fun i H v H' x F2 e s s2 ra y=>by
  obtain⟨e1,r⟩:=yld i H v H' x e (s.trans s2) y
  subst e1
  exact⟨F2,Grow.refl s2 ra,r.mono s⟩⟩
def EX(X:Cx)(rl:RlT)(tg iter:Expr)(fi:En->(List FH->Prop)->Prop):Prop:=∃wi,PI X tg iter wi/\∀{F₀ H₀ F H:Hp}{σ:St}{ρ:En},VR X.K rl F₀ H₀ F H σ ρ->∀(Qd:List FH->Prop)(R:It->Hp->Prop),fi ρ Qd ->
 (∀J xs F' H',Grow rl F H F' H'->VIt X.K rl F' J xs->Qd xs->R J H')->wi σ H R
end
section
variable{X:Cx}{rl:RlT}{st:Stmt}{rest body:List Stmt}{t u:EB}{a b c e:Expr}{es:List Expr}{fa fb:TV}{fs:EA}{f:TB}{pos p:Pos}{tg:Expr}
def yk(i:Nat)(t:EB):EB:=fun D ρ=>∃xs,ρ[i]?=some (some (.ml xs))/\t D (ρ.set i (some (.d (.list xs))))
theorem qA{K:W.Frag}{ρ:En}(r:VR K rl F₀ H₀ F H σ ρ){i:Nat}(e:ρ[i]?=some (some (.ml xs))):∃F1,bC F F1/\VR K rl F₀ H₀ F1 H σ (ρ.set i (some (.d (.list xs)))):=by
 obtain⟨v,h1,h2,h3⟩:=r.sl i _ e
 obtain⟨a,vs,ev,f,hr,hh,q⟩:=(show iE K rl F H v xs from h2)
 obtain⟨F1,R1⟩:=r.freeze e
 obtain⟨v',k1,k2,k3⟩:=R1.sl i _ (Gm (GD.mp e).1)
 have neF:∀b u,F b=some u->b≠a:=fun b u q z=>by subst z;rw[f]at q;cases q
 have fsm:bC F (Cs F a (.lst vs)):=fun b u z=>by rw[ar (neF b u z)];exact z
 have hi:i<ρ.length:=(GD.mp e).1
 refine⟨Cs F a (.lst vs),fsm,r.g.freeze (h3 a ev) hh f hr,fun j w e1=>?_,R1.ap,R1.np,R1.len⟩
 by_cases hj:i=j
 · subst hj
   rw[Gm hi]at e1
   cases e1
   exact⟨v,h1,by rw[ev];exact .lst av (q.mono fsm),trivial⟩
 · rw[Gf hj]at e1
   obtain⟨u,g1,g2,g3⟩:=r.sl j w e1
   refine⟨u,g1,?_,g3⟩
   cases w with
   | d x=>exact Rep.mono fsm g2
   | reel=>exact g2
   | vv u=>exact g2
   | ml ys =>
     obtain⟨b,us,eb,f1,f2,f3,f4⟩:=(show iE K rl F H u ys from g2)
     have ne:b≠a:=fun z=>r.ap i j _ _ v hj e e1 rfl rfl h1 (by rw[g1,eb,z,ev])
     exact⟨b,us,eb,by rw[ar ne];exact f1,f2,f3,f4.mono fsm⟩
   | pk ys=>exact absurd e1 (r.np j ys)
   | md ys =>
     obtain⟨b,us,eb,f1,f2,f3,f4⟩:=(show uG K rl F H u ys from g2)
     have ne:b≠a:=fun z=>r.ap i j _ _ v hj e e1 rfl rfl h1 (by rw[g1,eb,z,ev])
     exact⟨b,us,eb,by rw[ar ne];exact f1,f2,f3,Hv.mapP f4 fun _ _ z=>⟨z.1,z.2.mono fsm⟩⟩
   | mk ys =>
     obtain⟨b,us,eb,f1,f2,f3,f4⟩:=(show uF K rl F H u ys from g2)
     have ne:b≠a:=fun z=>r.ap i j _ _ v hj e e1 rfl rfl h1 (by rw[g1,eb,z,ev])
     exact⟨b,us,eb,by rw[ar ne];exact f1,f2,f3,Hv.mapP f4 fun _ _ z=>⟨z.1,z.2.mono fsm⟩⟩
   | nt ds=>obtain⟨b,us,eb,f1,f2⟩:=g2;exact⟨b,us,eb,fsm _ _ f1,f2.mono fsm⟩
   | lk=>trivial
   | sc ns=>obtain⟨b,eb,f1⟩:=g2;exact⟨b,eb,pI fsm f1⟩
   | fd kvs=>obtain⟨b,us,eb,f1,f2⟩:=g2;exact⟨b,us,eb,fsm _ _ f1,Hv.mapP f2 fun _ _ z=>⟨z.1,z.2.mono fsm⟩⟩
   | fw kvs=>obtain⟨b,us,o,eb,f1,f2⟩:=g2;exact⟨b,us,o,eb,fsm _ _ f1,Hv.mapP f2 fun _ _ z=>⟨z.1,z.2.mono fsm⟩⟩
   | ft kvs=>obtain⟨b,us,o,eb,f1,f2⟩:=g2;exact⟨b,us,o,eb,fsm _ _ f1,Hv.mapP f2 fun _ _ z=>⟨z.1,z.2.mono fsm⟩⟩
   | xc _ _=>obtain⟨b,dx,us,C,eb,n,f1,f3,f2⟩:=g2;exact⟨b,dx,us,C,eb,n,fsm _ _ f1,fsm _ _ f3,Hv.mapP f2 fun _ _ z=>⟨z.1,z.2.mono fsm⟩⟩
   | dp _ _=>obtain⟨c,b,us,u,o,eb,f1,f3,f2,z⟩:=g2;exact⟨c,b,us,u,o,eb,fsm _ _ f1,fsm _ _ f3,Hv.mapP f2 fun _ _ z=>⟨z.1,z.2.mono fsm⟩,z.mono fsm⟩
theorem mm(i:Nat)(h:EU X rl st t):EU X rl st (yk i t):=by
 obtain⟨T,p,k⟩:=h
 refine⟨T,p,fun R Dv D ok ⟨xs,e,q⟩=>?_⟩
 obtain⟨F1,s1,R1⟩:=qA R e
 exact k R1 Dv D (ok.on s1) q
def iL(fa:TV):En->(List FH->Prop)->Prop:=fun ρ Q=>fa ρ fun w=>∃xs,w.fz = .d (.list xs)/\Q xs
def iT(fa:TV):En->(List FH->Prop)->Prop:=fun ρ Q=>fa ρ fun w=>∃xs,w.fz = .d (.tuple xs)/\Q xs
theorem bi{l:Expr}(hl:PV X rl l fa):EX X rl tg l (iL fa):=by
 obtain⟨t,p,k⟩:=hl
 refine⟨_,sX p,fun R Qd Q q h=>k R _ _ q fun v w F1 H1 g1 r1 n1 ⟨xs,ew,q1⟩=>?_⟩
 obtain⟨F2,g2,s2,r2⟩:=cQ.fz g1 r1 n1
 rw[ew]at r2
 cases(show Rep X.K F2 v (.list xs)from r2)with
 | @lst a vs _ sq rs =>
   have sqH:∀H,bC F2 H->EH X.K H a vs:=fun H s=>.inl (.inl (s _ _ sq))
   refine⟨a,rfl,⟨vs,sqH H1 g2.sub⟩,h _ xs F2 H1 g2 (.of (fun i H x e s=>?_) (fun i H hl s=>⟨vs,sqH H s,by rw[rs.length];exact hl⟩) (fun i H v H' x e s y=>?_)) q1⟩
   · obtain⟨v,ev,_⟩:=rs.get e
     exact⟨vs,v,sqH H s,ev⟩
   · obtain⟨e',hy⟩:=y
     obtain⟨v',ev,rv⟩:=rs.get e
     have:=hy vs (sqH H s)
     rw[ev]at this
     cases this
     exact⟨e',rv⟩
theorem iK{l:Expr}(hl:PV X rl l fa):EX X rl tg l (iT fa):=by
 obtain⟨t,p,k⟩:=hl
 refine⟨_,wb p,fun R Qd Q q h=>k R _ _ q fun v w F1 H1 g1 r1 n1 ⟨xs,ew,q1⟩=>?_⟩
 obtain⟨F2,g2,s2,r2⟩:=cQ.fz g1 r1 n1
 rw[ew]at r2
 cases(show Rep X.K F2 v (.tuple xs)from r2)with
 | @tup a vs _ sq rs =>
   have sqH:∀H,bC F2 H->EG X.K H a vs:=fun H s=>d6 s sq
   refine⟨a,rfl,⟨vs,sqH H1 g2.sub⟩,h _ xs F2 H1 g2 (.of (fun i H x e s=>?_) (fun i H hl s=>⟨vs,sqH H s,by rw[rs.length];exact hl⟩) (fun i H v H' x e s y=>?_)) q1⟩
   · obtain⟨v,ev,_⟩:=rs.get e
     exact⟨vs,v,sqH H s,ev⟩
   · obtain⟨e',hy⟩:=y
     obtain⟨v',ev,rv⟩:=rs.get e
     have:=hy vs (sqH H s)
     rw[ev]at this
     cases this
     exact⟨e',rv⟩
def aV(lo:Int)(n:Nat):List FH:=(G9 n).map fun(i:Nat)=>.int (lo+i)
theorem gH{lo:Int}{i:Nat}{x:FH}(h:(aV lo n)[i]?=some x):i<n/\x = .int (lo+i):=by
 unfold aV at h
 rw[G_]at h
 by_cases hi:i<n
 · rw[GB (by simpa using hi)]at h
   simp at h
   exact⟨hi,h.symm⟩
 · rw[K6 (by simpa using hi)]at h
   cases h
theorem ae{lo:Int}:(aV lo n).length=n:=by simp[aV]
theorem iJ{K:W.Frag}(lo:Int)(n:Nat):VIt K rl F (Fd lo n) (aV lo n) :=
 .of (fun i H x e s=>(gH e).1) (fun i H hl s=>by rw[ae]at hl;exact hl) (fun i H v H' x e s y=>by
  obtain⟨e1,e2⟩:=y
  subst e2
  rw[(gH e).2]
  exact⟨e1,.int _⟩)
def DX(fs:EA):En->(List FH->Prop)->Prop:=fun ρ Q=>fs ρ fun ws=>∃j:Int,ws=[.d (.int j)]/\(-(2^62)<=j/\j<2^62)/\Q (aV 0 j.toNat)
def DW(fs:EA):En->(List FH->Prop)->Prop:=fun ρ Q=>fs ρ fun ws=>∃i j:Int,ws=[.d (.int i),.d (.int j)]/\(-(2^62)<=i/\i<2^62 /\ -(2^62)<=j/\j<2^62)/\Q (aV i (j-i).toNat)
theorem cy(hm:X.mg "range" = none)(ha:EO X rl [a] fs)(hg:Gl X "range" := by rfl)(hs:FU [a] X.env=[(false,eval a X.env)]:=by rfl):EX X rl tg (.Call (.Name "range" p) [a] [] pos) (DX fs):=by
 obtain⟨t,p1,k⟩:=ha
 refine⟨_,nI hg hm p1 hs,fun R Qd Q q h=>k R _ _ q fun vs ws F1 H1 g1 r1 ⟨j,ew,b,q1⟩=>?_⟩
 subst ew
 obtain⟨v,rfl,rv⟩:=lY r1
 have e:=aP rv
 subst e
 exact⟨j,rfl,b.1,b.2,h _ _ F1 H1 g1 (iJ 0 _) q1⟩
theorem iM(hm:X.mg "range" = none)(ha:EO X rl [a,b] fs)(hg:Gl X "range" := by rfl)(hs:FU [a,b] X.env=[(false,eval a X.env),(false,eval b X.env)]:=by rfl)(hs2:FU [b] X.env=[(false,eval b X.env)]:=by rfl):EX X rl tg (.Call (.Name "range" p) [a,b] [] pos) (DW fs):=by
 obtain⟨t,p1,k⟩:=ha
 refine⟨_,nH hg hm p1 hs hs2,fun R Qd Q q h=>k R _ _ q fun vs ws F1 H1 g1 r1 ⟨i,j,ew,b,q1⟩=>?_⟩
 subst ew
 obtain⟨v,u,rfl,rv,ru⟩:=yI r1
 have e:=aP rv
 have e':=aP ru
 subst e e'
 exact⟨i,j,rfl,b,h _ _ F1 H1 g1 (iJ i _) q1⟩
theorem VR.own{K:W.Frag}{F₀ H₀ F H:Hp}{σ:St}{ρ:En}(r:VR K rl F₀ H₀ F H σ ρ){i:Nat}{xs ys:List FH}{a:Addr}{us:List V}(e:ρ[i]?=some (some (.ml xs)))(es:σ[i]?=some (some (.ref a)))(rs:Reps K F us ys) :
 VR K rl F₀ H₀ F (Cs H a (.lst us)) σ (ρ.set i (some (.ml ys))):=by
 obtain⟨v,h1,h2,h3⟩:=r.sl i _ e
 rw[es]at h1
 cases h1
 obtain⟨a',vs,ev,f,hr,hh,q⟩:=(show iE K rl F H (.ref a) xs from h2)
 cases ev
 have n0:H₀ a=none:=h3 a rfl
 have hi:i<ρ.length:=(GD.mp e).1
 have neF:∀b u,F b=some u->b≠a:=fun b u q z=>by subst z;rw[f]at q;cases q
 have g:Grow rl F₀ H₀ F (Cs H a (.lst us)):=by
  refine⟨fun b o q1 n=>by rw[ar (ba q1 n0)];exact r.g.same b o q1 n,r.g.fs,fun b o q1=>by rw[ar (neF b o q1)];exact r.sub b o q1,r.g.old,fun y z=>?_⟩
  obtain⟨z1,⟨u,h1,h2⟩⟩:=r.reel y z
  exact⟨z1,⟨u,by rw[ar (fun q=>hr (by rw[<- q];exact z))];exact h1,h2⟩⟩
 refine⟨g,fun j w e1=>?_,fun j k ys' zs u hjk e1 e2 w1 w2 s1 s2=>?_,fun j ys' z=>?_,by simp[r.len]⟩
 · by_cases hj:i=j
   · subst hj
     rw[Gm hi]at e1
     cases e1
     exact⟨_,es,⟨a,us,rfl,f,hr,av,rs⟩,h3⟩
   · rw[Gf hj]at e1
     obtain⟨u,g1,g2,g3⟩:=r.sl j w e1
     refine⟨u,g1,?_,g3⟩
     cases w with
     | d x=>exact g2
     | reel=>exact g2
     | vv u=>exact g2
     | ml zs =>
       obtain⟨b,us',eb,f1,f2,f3,f4⟩:=(show iE K rl F H u zs from g2)
       have ne:b≠a:=fun z=>r.ap i j _ _ (.ref a) hj e e1 rfl rfl es (by rw[g1,eb,z])
       exact⟨b,us',eb,f1,f2,by rw[ar ne];exact f3,f4⟩
     | pk zs=>exact absurd e1 (r.np j zs)
     | md zs =>
       obtain⟨b,us',eb,f1,f2,f3,f4⟩:=(show uG K rl F H u zs from g2)
       have ne:b≠a:=fun z=>r.ap i j _ _ (.ref a) hj e e1 rfl rfl es (by rw[g1,eb,z])
       exact⟨b,us',eb,f1,f2,by rw[ar ne];exact f3,f4⟩
     | mk zs =>
       obtain⟨b,us',eb,f1,f2,f3,f4⟩:=(show uF K rl F H u zs from g2)
       have ne:b≠a:=fun z=>r.ap i j _ _ (.ref a) hj e e1 rfl rfl es (by rw[g1,eb,z])
       exact⟨b,us',eb,f1,f2,by rw[ar ne];exact f3,f4⟩
     | nt ds=>exact g2
     | lk=>trivial
     | sc _=>exact g2
     | fd _=>exact g2
     | fw _=>exact g2
     | ft _=>exact g2
     | xc _ _=>exact g2
     | dp _ _=>exact g2
 · have nd:∀(j:Nat)(z:W),(ρ.set i (some (W.ml ys)))[j]?=some (some z)->z.own=true->∃z',ρ[j]?=some (some z')/\z'.own=true:=fun j zs z o=>by
     by_cases hj:i=j
     · subst hj
       exact⟨_,e,rfl⟩
     · rw[Gf hj]at z
       exact⟨zs,z,o⟩
   obtain⟨_,d1,o1⟩:=nd j _ e1 w1
   obtain⟨_,d2,o2⟩:=nd k _ e2 w2
   exact r.ap j k _ _ u hjk d1 d2 o1 o2 s1 s2
 · rw[Hn]at z
   split at z
   · first|cases z|(split at z<;>cases z)
   · exact r.np j ys' z
def A1(K:W.Frag)(rl:RlT)(r:V->List V->Hp->VK->Prop)(g:List FH->List W->(List FH->Prop)->Prop):Prop :=
 ∀ {F H:Hp}{a:Addr}{vs args:List V}{xs:List FH}{ws:List W}(Qn:List FH->Prop)(Q:VK),bC F H->H a=some (.lst vs)->Reps K F vs xs->dU K rl F H args ws->g xs ws Qn ->
   (∀us ys,Reps K F us ys->Qn ys->Q .non (Cs H a (.lst us)))->r (.ref a) args H Q
def xJ(i:Nat)(g:List FH->List W->(List FH->Prop)->Prop)(fs:EA):EB:=fun D ρ=>∃xs,ρ[i]?=some (some (.ml xs))/\fs ρ fun ws=>g xs ws fun ys=>D.nx (ρ.set i (some (.ml ys)))
theorem uK(i:Nat){nm:Str}{id:String}{r:V->List V->Hp->VK->Prop}{g:List FH->List W->(List FH->Prop)->Prop}{apos cpos:Pos}(slot:Slot "list" nm id)(hty:typeOf (.builtin id)=pure (.type "method_descriptor"))(hm:E5 X id r)(vm:A1 X.K rl r g)(ha:EO X rl (e::es) fs)
 (hN:X.N[i]?=some x:=by rfl)(hv:Ex X.env.scope x:=by first|exact Ix rfl|exact HN (Ix rfl)|exact HN (HN rfl))
 (hd:(x==("__debug__" : Str))=false:=by decide)(hcd:(x==("__classdict__" : Str))=false:=by decide)
 (hbase:KC (.Name x px) nm X.env (eval (.Name x px) X.env)=eval (.Name x px) X.env:=by rfl)
 (hfew:((Hs cpos (FU (e::es) X.env)).all (fun x=>!x.1)&&(LX cpos (JM [] X.env)).all (fun x=>x.1.isSome)
  && decide ((e::es).length+([]:List Kz).length+(if([]:List Kz).isEmpty then 0 else 1)<30))=true:=by rfl)
 (hline:(apos.endLine==cpos.line)=true:=by rfl)(hs:FU (e::es) X.env=(false,eval e X.env)::FU es X.env:=by rfl)(hplain:(Hs cpos (FU es X.env)).any (·.1)=false:=by rfl)
 (hsw:HS (.Call (.Attribute (.Name x px) nm apos) (e::es) [] cpos) none pos.line X.env=pure false:=by rfl) :
 EU X rl (.Expr (.Call (.Attribute (.Name x px) nm apos) (e::es) [] cpos) pos) (xJ i g fs):=by
 obtain⟨t,p1,k⟩:=ha
 refine⟨_,sQ (yT PySem.F.plainAttrs_list slot hty hm (fO hN hv hd hcd) p1 hbase hfew hline hs hplain) hsw,fun{F₀ H₀ F H σ ρ} R Dv D ok ⟨xs,e1,q⟩=>?_⟩
 obtain⟨v,h1,h2,h3⟩:=R.sl i _ e1
 obtain⟨a,vs,rfl,f,hr,hh,rs⟩:=(show iE X.K rl F H v xs from h2)
 refine⟨.ref a,h1,.inl ⟨rfl,vs,.inl (.inl hh)⟩,k R _ _ q fun args ws F1 H1 g1 r1 q1=>?_⟩
 refine vm _ _ g1.sub (g1.same a _ hh hr) (rs.mono g1.fs) r1 q1 fun us ys r2 q2=>?_
 exact ok.nx _ _ _ _ g1.fs ((R.grow g1).own e1 h1 r2) q2
def xT:List FH->List W->(List FH->Prop)->Prop:=fun xs ws Q=>∃x,gP ws=some [x]/\xs.length<sizeLine/\Q (xs++[x])
theorem uN{K:W.Frag}:A1 K rl nu xT:=fun{F H a vs args xs ws} Qn Q s ha rs ra ⟨x,e,z,q⟩ k=>by
 have r2:=dC ra e
 cases r2 with
 | cons rx r3 =>
   cases r3
   exact⟨a,vs,_,rfl,rfl,ha,by rw[rs.length];exact z,k _ _ (rs.snoc rx) q⟩
theorem iH(i:Nat){apos cpos:Pos}(ha:EO X rl [e] fs)(hN:X.N[i]?=some x:=by rfl)(hv:Ex X.env.scope x:=by first|exact Ix rfl|exact HN (Ix rfl)|exact HN (HN rfl))
 (hd:(x==("__debug__" : Str))=false:=by decide)(hcd:(x==("__classdict__" : Str))=false:=by decide)
 (hbase:KC (.Name x px) "append" X.env (eval (.Name x px) X.env)=eval (.Name x px) X.env:=by rfl)
 (hfew:((Hs cpos (FU [e] X.env)).all (fun x=>!x.1)&&(LX cpos (JM [] X.env)).all (fun x=>x.1.isSome)
  && decide (([e]).length+([]:List Kz).length+(if([]:List Kz).isEmpty then 0 else 1)<30))=true:=by rfl)
 (hline:(apos.endLine==cpos.line)=true:=by rfl)(hs:FU [e] X.env=(false,eval e X.env)::FU [] X.env:=by rfl)(hplain:(Hs cpos (FU [] X.env)).any (·.1)=false:=by rfl)
 (hsw:HS (.Call (.Attribute (.Name x px) "append" apos) [e] [] cpos) none pos.line X.env=pure false:=by rfl) :
 EU X rl (.Expr (.Call (.Attribute (.Name x px) "append" apos) [e] [] cpos) pos) (xJ i xT fs) :=
 uK i PySem.F.slot_list_append PySem.F.type_list_append fT uN ha hN hv hd hcd hbase hfew hline hs hplain hsw
def eM:W->Bool
 | .ml _=>false
 | .md _=>false
 | .mk _=>false
 | .pk _=>false
 | _=>true
def Ci(K:W.Frag)(rl:RlT)(P:List W->(FH->Prop)->Prop):Sp:=fun vs H Q _=>∃F ws,bC F H/\EM rl F H/\dU K rl F H vs ws/\ws.all eM=true/\P ws fun d=>∀v F' H',Grow rl F H F' H'->Rep K F' v d->Q v H'
def cF(N:List Str)(ws:List W):En:=ws.map some++GU (N.length-ws.length) none
theorem i8{K:W.Frag}{F H:Hp}:∀{vs:List V}{ws:List W}{i:Nat}{w:W},dU K rl F H vs ws->ws[i]?=some w->∃v,vs[i]?=some v/\cQ K rl F H v w
 | _,_,_,_,.nil,e=>by simp at e
 | _,_,0,_,.cons h _,e=>by simp at e;subst e;exact⟨_,rfl,h⟩
 | _,_,i+1,w,.cons _ r,e=>by
   obtain⟨v,h1,h2⟩:=i8 (i:=i) (w:=w) r (by simpa using e)
   exact⟨v,by simpa using h1,h2⟩
theorem iX{ws:List W}{i:Nat}{w:W}(h:(cF N ws)[i]?=some (some w)):ws[i]?=some w:=by
 unfold cF at h
 by_cases hi:i<ws.length
 · rw[Ip (by simpa using hi),G_]at h
   cases q:ws[i]? with
   | none=>rw[q]at h;cases h
   | some x=>rw[q]at h;cases h;rfl
 · rw[IT (by simpa using hi),KA]at h
   split at h<;>cases h
theorem dr{K:W.Frag}{ws:List W}(s:bC F H)(ra:EM rl F H)(r:dU K rl F H vs ws)(ok:ws.all eM=true):VR K rl F H F H (start N vs) (cF N ws):=by
 have hl:vs.length=ws.length:=HC r
 have no:∀(i:Nat) w,(cF N ws)[i]?=some (some w)->eM w=true:=fun i w e=>(HJ.mp ok) w (Lq (iX e))
 refine⟨Grow.refl s ra,fun i w e=>?_,fun i j xs ys v _ e1 _ o _ _ _=>(by have:=no i _ e1;cases xs<;>first|exact Bool.noConfusion o|exact Bool.noConfusion this),fun i xs e=>(by have:=no i _ e;cases this),?_⟩
 · obtain⟨v,h1,h2⟩:=i8 r (iX e)
   refine⟨v,?_,h2,?_⟩
   · unfold start
     rw[Ip (by simpa using(GD.mp h1).1),G_,h1]
     rfl
   · have:=no i w e
     cases w with
     | ml xs=>cases this
     | md xs=>cases this
     | mk xs=>cases this
     | nt _=>trivial
     | lk=>trivial
     | sc _=>trivial
     | fd _=>trivial
     | fw _=>trivial
     | ft _=>trivial
     | xc _ _=>trivial
     | dp _ _=>trivial
     | d _=>trivial
     | pk _=>trivial
     | reel=>trivial
     | vv _=>trivial
 · unfold cF start
   simp[hl]
def lC(Q:FH->Prop):VEnds:=⟨fun _=>Q .none,fun w=>∃d,w.fz = .d d/\Q d,fun _=>False,fun _=>False⟩
theorem Cj{w:G5}{K:W.Frag}{base:Heap}{st:Stmt}{fa:Addr}{ps:List Str}{k:Nat}{Pd:List W->(FH->Prop)->Prop}{t:EB}
 (Fn:Fun K x qual st fa fd)(S:FnScope N ps (defScope st))(len:∀ws Q,Pd ws Q->ws.length=ps.length)
 (hbody:∀(cdv:Value)(A:Hf)(outer:List Env)(s:FO)(H:Hp)(E:XK),Room k (A.deeper (J_ qual (defScope st) s.heap.objs.size fa cdv)) ->
  kd (lS Fq P w K mg base N qual (defScope st) fa cdv A outer s H E).nox rl (defBody st) t)
 (hread:∀ws Q,Pd ws Q->t (lC Q) (cF N ws)):FnOk P w K mg base Fq (k+1) fa fd ps (Ci K rl Pd):=by
 refine Fn.ok S (fun vs H Q E ⟨F,ws,_,_,r,_,q⟩=>(HC r).trans (len ws _ q)) fun cdv A outer s H vs Q E hr h=>?_
 obtain⟨F,ws,sm,ra,r,ok,q⟩:=h
 obtain⟨T,p,kk⟩:=hbody cdv A outer s H E hr
 refine⟨T,p,kk (dr sm ra r ok) (lC _) _ ⟨?_,?_,fun _ _ _ _ _ _ z=>GZ z,fun _ _ _ _ _ _ z=>GZ z⟩ (hread ws _ q)⟩
 · intro F1 H1 σ1 ρ1 _ R1 q1
   exact q1 .non F1 H1 R1.g .non
 · rintro v w1 F1 H1 g1 r1 n1 ⟨d,ed,q1⟩
   obtain⟨F2,g2,s2,r2⟩:=cQ.fz g1 r1 n1
   rw[ed]at r2
   exact q1 v F2 H1 g2 r2
structure Dfn (P:Gi) (w:G5) (K:W.Frag) (mg:Str->Option Value) (base:Heap) (rl:RlT) (x:Str) (ps:List Str) (k:Nat) (Pd:List W->(FH->Prop)->Prop):Prop where
 mono:∀ws Q Q',(∀d,Q d->Q' d)->Pd ws Q->Pd ws Q'
 ex:∃f fd,mg x=some (.ref f)/\W.keepIn K (.ref f)=true/\Binds K fd ps []/\FnOk P w K mg base Fq k f fd ps (Ci K rl Pd)
def xI(Pd:List W->(FH->Prop)->Prop)(fs:EA):TV:=fun ρ Q=>fs ρ fun ws=>ws.all eM=true/\Pd ws fun d=>Q (.d d)
theorem au{ps:List Str}{k:Nat}{Pd:List W->(FH->Prop)->Prop}(D:Dfn X.prog X.w X.K X.mg X.base rl x ps k Pd)(hr:Room k X.A)(ha:EO X rl (e::es) fs)(hg:Gl X x:=by rfl)
 (hdb:(x==("__debug__" : Str))=false:=by decide)(he:FU (e::es) X.env=(false,eval e X.env)::FU es X.env:=by rfl)(hpl:(Hs pos (FU es X.env)).any (·.1)=false:=by rfl) :
 PV X rl (.Call (.Name x p) (e::es) [] pos) (xI Pd fs):=by
 obtain⟨f,fd,hm,hk,hb,F⟩:=D.ex
 obtain⟨t,p1,kk⟩:=ha
 refine⟨_,im F hr hg hm hk hb .nil pV p1 hdb he hpl,fun R Qd Q q h=>kk R _ _ q fun vs ws F1 H1 g1 r1 ⟨ok,q1⟩=>?_⟩
 refine⟨F1,ws,g1.sub,g1.reel,by rw[Ht];exact r1,ok,?_⟩
 exact D.mono ws _ _ (fun d qd v F2 H2 g2 r2=>h v (.d d) F2 H2 (g1.trans g2) r2 trivial qd) q1
end
end L2.VL
variable{rl:L2.VL.RlT}{ρ:L2.VL.En}{fi:L2.VL.En->(List FH->Prop)->Prop}
namespace L2
theorem eS{env:Env}:∀(names:List (Str×Jl))(acc:List (Str×Addr)),(∀x∈names,x.2 = .free->∃c,env.cells.lookup x.1=some c)->(∀x c,acc.lookup x=some c->env.cells.lookup x=some c) ->
 ∃ cl,(forIn names acc (fun(x:Str×Jl)(cs:List (Str×Addr))=>if(x.2==G4)=true then do let c <- cellOf env x.1;pure (JO ((x.1,c)::cs))else pure (JO cs)):Sem (List (Str×Addr)))=pure cl /\
   (∀x c,cl.lookup x=some c->env.cells.lookup x=some c)/\(∀x,(acc.lookup x).isSome=true->(cl.lookup x).isSome=true)/\∀x,(x,G4)∈names->(cl.lookup x).isSome=true
 | [],acc,_,h2=>⟨acc,rfl,h2,fun _ z=>z,fun _ z=>nomatch z⟩
 | (n,k)::r,acc,h1,h2=>by
   by_cases hk:k = .free
   · subst hk
     obtain⟨c,hc⟩:=h1 (n,.free) FT rfl
     have h2':∀x c',((n,c)::acc).lookup x=some c'->env.cells.lookup x=some c':=fun x c' z=>by
      rw[G7]at z
      cases e:x==n with
      | true =>
        rw[e]at z
        have e':x=n:=by simpa using e
        cases z
        rw[e']
        exact hc
      | false =>
        rw[e]at z
        exact h2 x c' z
     obtain⟨cl,e,g1,g2,g3⟩:=eS r ((n,c)::acc) (fun x hx=>h1 x (FP _ hx)) h2'
     refine⟨cl,?_,g1,fun x z=>g2 x ?_,fun x z=>?_⟩
     · rw[JP]
       simp only[beq_self_eq_true,if_true]
       have e0:cellOf env n=pure c:=by unfold cellOf;rw[hc]
       rw[e0,pure_bind,pure_bind]
       exact e
     · rw[G7]
       split
       · rfl
       · exact z
     · rcases Gh.mp z with z|z
       · cases z
         refine g2 _ ?_
         rw[G7]
         simp
       · exact g3 x z
   · obtain⟨cl,e,g1,g2,g3⟩:=eS r acc (fun x hx=>h1 x (FP _ hx)) h2
     refine⟨cl,?_,g1,g2,fun x z=>?_⟩
     · rw[JP]
       have hb:(k==G4)=false:=by simpa using hk
       simp only[hb,Jn,if_false]
       rw[pure_bind]
       exact e
     · rcases Gh.mp z with z|z
       · cases z;exact absurd rfl hk
       · exact g3 x z
theorem b_{env:Env}(h:∀x∈scope.names,x.2 = .free->∃c,env.cells.lookup x.1=some c) :
 ∃cl,closureFor scope env=pure cl/\(∀x c,cl.lookup x=some c->env.cells.lookup x=some c)/\∀x,(x,G4)∈scope.names->(cl.lookup x).isSome=true:=by
 obtain⟨cl,e,g1,_,g3⟩:=eS scope.names [] h (fun _ _ z=>by cases z)
 refine⟨cl,?_,g1,g3⟩
 unfold closureFor
 first
  | exact e
  | (simp only[bind_pure];exact e)
theorem eW{env:Env}(h:(ME scope env).names.lookup x=some .cell\/(ME scope env).names.lookup x=some .free):(x,G4)∈scope.names\/(x,HP)∈scope.names:=by
 have key:∀names:List (Str×Jl),∀k,(k = .cell\/k = .free) ->
  (names.map fun(n,k)=>if(k==G4&&env.scope.kind == .function&&env.kindOf n==some .cell)then(n,HP)else(n,k)).lookup x=some k->(x,G4)∈names\/(x,HP)∈names:=by
  intro names
  induction names with
  | nil=>intro k _ z;cases z
  | cons y r ih =>
    intro k hk z
    obtain⟨n,kn⟩:=y
    have step:((x,G4)∈r\/(x,HP)∈r)->((x,G4)∈(n,kn)::r\/(x,HP)∈(n,kn)::r):=fun z=>z.imp (FP _) (FP _)
    rw[Gz]at z
    dsimp only at z
    by_cases hc:(kn==G4&&env.scope.kind == .function&&env.kindOf n==some .cell)=true
    · rw[if_pos hc,G7]at z
      have hf:kn = .free:=by
       have:=(FV.mp (FV.mp hc).1).1
       simpa using this
      cases e:x==n with
      | true =>
        have e':x=n:=by simpa using e
        rw[e',<- hf]
        exact .inl FT
      | false =>
        rw[e]at z
        exact step (ih k hk z)
    · rw[if_neg hc,G7]at z
      cases e:x==n with
      | true =>
        rw[e]at z
        have e':x=n:=by simpa using e
        cases z
        rcases hk with hk|hk
        · rw[e',hk];exact .inr FT
        · rw[e',hk];exact .inl FT
      | false =>
        rw[e]at z
        exact step (ih k hk z)
 rcases h with h|h
 · exact key scope.names .cell (.inl rfl) h
 · exact key scope.names .free (.inr rfl) h
theorem aE:∀(names:List (Str×Jl))(n:Nat)(acc:List (Str×Addr)),G6 n names acc=G6 n names []++acc
 | [],_,_=>rfl
 | (x,k)::r,n,acc=>by
   unfold G6
   split
   · rw[aE r (n+1) ((x,n)::acc),aE r (n+1) [(x,n)],List.append_assoc]
     rfl
   · exact aE r n acc
theorem cu{x:Str}{c:Addr}:∀{names:List (Str×Jl)}{n:Nat},(x,c)∈G6 n names []->(x,HP)∈names
 | (y,k)::r,n,h=>by
   unfold G6 at h
   split at h
   · rename_i hk
     rw[aE]at h
     rcases Gv.mp h with h|h
     · exact FP _ (cu h)
     · simp at h
       have:k = .cell:=by simpa using hk
       rw[h.1,this]
       exact FT
   · exact FP _ (cu h)
theorem cw{a b:List (Str×Addr)}:(a++b).lookup x=(a.lookup x).or (b.lookup x):=by
 induction a with
 | nil=>simp
 | cons y a ih =>
   obtain⟨n,c⟩:=y
   rw[KM,G7,G7]
   cases x==n<;>simp[ih]
theorem fS{M:Model}{globals:Addr}{cl:List (Str×Addr)}{o:Env}{Q:Env->FO->Prop}
 (hQ:Q {scope,locals:=s.heap.objs.size,globals,cells:=G6 (s.heap.objs.size+1) scope.names cl,qual,func:=none,code:=o.code,frame:=o.frame,builtins:=o.builtins} {s with heap:=Kn (s.heap.push {cls:=.type "dict", data:=.dict #[]}) scope.names}) :
 Gb M A (JA scope globals cl [] qual none .none (some o)) Q E s:=by
 simp only[JA,Option.isSome_some,if_true]
 refine FI (wpAny_alloc ?_)
 refine FI (wpAny_layCells _ (fun name kind cells=>by cases hkc:kind==HP<;>simp[hkc]) _ _ _ _ ?_)
 rw[show({s with heap:=s.heap.push {cls:=.type "dict", data:=.dict #[]}}:FO).heap.objs.size=s.heap.objs.size+1 from Ho ..]
 exact FI (FS (FS hQ))
def aX(X:Cx)(N':List Str)(scope:Scope)(cl:List (Str×Addr))(fp:List Addr)(pn:List (Addr×Obj))(s:FO)(H:Hp):Cx :=
 {X with N:=N',s₀:=s,H₀:=H,env:={compEnvC scope cl s.heap.objs.size X.env with cells:=G6 (s.heap.objs.size+1) scope.names cl},outer:=X.stack,ex:=fp,fn:=fun x=>scope.names.lookup x==some .cell,pn:=pn,xe:=fun _ _=>False}
abbrev dL(ifs:List Expr)(env:Env):Sem Bool:=forIn ifs true fun c r=>if r=true then do let ok <- isTrue c env (eval c env);pure (JO ok)else pure (JO r)
def ER(X:Cx)(ifs:List Expr)(t:TT):Prop :=
 ∀(pins:List (Addr×Obj))(s:FO)(σ:St)(H:Hp)(Q:Bool->Hp->Prop),Inv X pins σ H s->t σ H Q->Gb (Gn X.prog X.w) X.A (dL ifs X.env) (TP X pins σ Q) X.xe s
theorem nA:ER X [] (fun _ H Q=>Q true H):=fun _ _ _ H _ I h=>wpAny_tests_nil ⟨H,I,h⟩
theorem sN{c:Expr}{t:TT}(h:PT X c t):ER X [c] t:=fun pins s σ H Q I hw=>wpAny_tests_one (h pins s σ H Q I hw)
theorem oO{prog:Gi}{w:G5}{R:Mr->FO->Prop}{elt target:Expr}{it acc:Value}{env:Env}(I:Nat->FO->Prop)
 (turn:∀n s,I n s->Gb (Gn prog w) A (Ki it) (fun r s₁=>(r=none/\R (.ok .next) s₁)\/∃v,r=some v /\
  Gb (Gn prog w) A (HU target it v) (fun _ s₂=>Gb (Gn prog w) A (IS target env v) (fun _ s₃=>Gb (Gn prog w) A (dL ifs env) (fun ok s₄ =>
   if ok=true then Gb (Gn prog w) A (eval elt env) (fun x s₅=>Gb (Gn prog w) A (call (.builtin "list.append") [acc,x]) (fun _ s₆=>∃m,m<n/\I m s₆) (fun _ _=>False) s₅) (fun _ _=>False) s₄
   else ∃m,m<n/\I m s₄) (fun _ _=>False) s₃) (fun _ _=>False) s₂) (fun _ _=>False) s₁) (fun _ _=>False) s)
 (n:Nat)(h:I n s):HY (Gn prog w) A (.compLoop (.ListComp elt [⟨target,iter,ifs,0⟩] scope pos) 0 it acc env) R s:=by
 refine K7 rfl I (fun n s hI=>?_) n h
 show Gb _ A ((L1 (.ListComp elt [⟨target,iter,ifs,0⟩] scope pos) 0 it acc env).onRaise (fun x=>do L3 x env;JQ x)) _ _ s
 refine LG ?_
 rw[compTurn_list]
 refine FI (HD (FI (Gr (turn n s hI) (fun r s₁ h₁=>?_) fun _ _ h'=>h'.elim)))
 rcases h₁ with⟨rfl,h₁⟩|⟨v,rfl,h₁⟩
 · exact FS h₁
 · refine FI (Gr h₁ (fun _ s₂ h₂=>FI (Gr h₂ (fun _ s₃ h₃=>FI (Gr h₃ (fun ok s₄ h₄=>?_) fun _ _ z=>z.elim)) fun _ _ z=>z.elim)) fun _ _ z=>z.elim)
   cases ok with
   | false=>exact FS ⟨rfl,h₄⟩
   | true=>exact FI (FI (Gr h₄ (fun x s₅ h₅=>FI (Gr h₅ (fun _ s₆ h₆=>FS (FS ⟨rfl,h₆⟩)) fun _ _ z=>z.elim)) fun _ _ z=>z.elim))
def jX(fr:List (Option Nat))(σ:St):St:=fr.map fun o=>o.bind fun j=>(σ[j]?).join
def lm(fr:List (Option Nat))(N' N:List Str)(sc scX:Scope):Bool :=
 decide (fr.length=N'.length)&&(G9 fr.length).all fun i=>match fr[i]? with
  | some (some j)=>match N'[i]? with
    | some x=>decide (N[j]?=some x)&&decide (sc.names.lookup x=some .free)&&(decide (scX.names.lookup x=some .cell)||decide (scX.names.lookup x=some .free))
    | none=>false
  | _=>true
def lI(sc scX:Scope):Bool :=
 decide (sc.kind = .function)&&sc.names.all fun y=>(decide (y.2 ≠ .cell)||decide (sc.names.lookup y.1=some .cell))&&(decide (y.2 ≠ .local)||decide (sc.names.lookup y.1=some .local)) &&
  (decide (y.2 ≠ .free)||(decide (scX.names.lookup y.1=some .cell)||decide (scX.names.lookup y.1=some .free)))
theorem lm.get{fr:List (Option Nat)}{sc scX:Scope}(h:lm fr N' N sc scX=true):fr.length=N'.length/\∀(i j:Nat),fr[i]?=some (some j)->∃x,N'[i]?=some x/\N[j]?=some x/\sc.names.lookup x=some .free/\(scX.names.lookup x=some .cell\/scX.names.lookup x=some .free):=by
 unfold lm at h
 obtain⟨h1,h2⟩:=FV.mp h
 refine⟨of_decide_eq_true h1,fun i j e=>?_⟩
 have hi:i<fr.length:=(GD.mp e).1
 have q:=HJ.mp h2 i (IZ.mpr hi)
 rw[e]at q
 dsimp only at q
 cases en:N'[i]? with
 | none=>rw[en]at q;cases q
 | some x =>
   rw[en]at q
   dsimp only at q
   obtain⟨q1,q2⟩:=FV.mp q
   obtain⟨q3,q4⟩:=FV.mp q1
   exact⟨x,rfl,of_decide_eq_true q3,of_decide_eq_true q4,(Gd.mp q2).imp of_decide_eq_true of_decide_eq_true⟩
theorem gN{k:Jl}:∀{names:List (Str×Jl)},names.lookup x=some k->(x,k)∈names:=fun h=>GK h
structure CompA where
 cl:List (Str×Addr)
 fp:List Addr
 pn:List (Addr×Obj)
 s:FO
 H:Hp
abbrev blk(X:Cx)(N':List Str)(scope:Scope)(y:CompA):Cx:=aX X N' scope y.cl y.fp y.pn y.s y.H
def pC(wi:TI)(fr:List (Option Nat))(g:CompA->TG)(tt:CompA->TT)(te:CompA->TE):TE:=fun σ H Q=>wi σ H fun J H1=>∀D,H1 D=none->∃Wv:Nat->Nat->List V->St->Hp->Prop,(∃m,Wv 0 m [] (jX fr σ) (Cs H1 D (.lst []))) /\
 ∀ (z:CompA) i m acc σc H,Wv i m acc σc H->(J.stop i H/\Q (.ref D) H)\/(J.go i H/\∀x H',J.yld i H x H'->g z x σc H' fun σ2 H2=>tt z σ2 H2 fun b H3 =>
   if b=true then te z σ2 H3 fun y H4=>H4 D=some (.lst acc)/\acc.length<sizeLine/\∃m',m'<m/\Wv (i+1) m' (acc++[y]) σ2 (Cs H4 D (.lst (acc++[y])))else ∃m',m'<m/\Wv (i+1) m' acc σ2 H3)
theorem df{env:Env}:∀{names:List (Str×Jl)}{x:Str},names.lookup x=some .free ->
 (names.map fun(n,k)=>if(k==G4&&env.scope.kind == .function&&env.kindOf n==some .cell)then(n,HP)else(n,k)).lookup x=some .cell \/
 (names.map fun(n,k)=>if(k==G4&&env.scope.kind == .function&&env.kindOf n==some .cell)then(n,HP)else(n,k)).lookup x=some .free
 | [],_,h=>by simp at h
 | (n,k)::r,x,h=>by
   have ih:=@df env r x
   rw[Gz]
   dsimp only
   cases hx:x==n with
   | true =>
     simp only[G7,hx]at h
     cases h
     by_cases hc:((G4==G4)&&env.scope.kind == .function&&env.kindOf n==some .cell)=true
     · rw[if_pos hc];simp[G7,hx]
     · rw[if_neg hc];simp[G7,hx]
   | false =>
     simp only[G7,hx]at h
     by_cases hc:(k==G4&&env.scope.kind == .function&&env.kindOf n==some .cell)=true
     · rw[if_pos hc];simp only[G7,hx];exact ih h
     · rw[if_neg hc];simp only[G7,hx];exact ih h
theorem dS{ex:Expr}{H3:Hp}{s3:FO}{D:Addr}{J:It}{Q:VK}
 {cl:List (Str×Addr)}(N':List Str)(fr:List (Option Nat))(hc:X.calm=true)(hkind:scope.kind = .function)(hcell:∀y∈scope.names,y.2 = .cell->scope.names.lookup y.1=some .cell)
 (hfree:∀y∈scope.names,y.2 = .free->X.env.kindOf y.1=some .cell\/X.env.kindOf y.1=some .free)(frl:fr.length=N'.length)
 (frg:∀(i j:Nat),fr[i]?=some (some j)->∃x,N'[i]?=some x/\X.N[j]?=some x/\scope.names.lookup x=some .free/\(X.env.scope.names.lookup x=some .cell\/X.env.scope.names.lookup x=some .free))
 (cl1:∀x c,cl.lookup x=some c->X.env.cells.lookup x=some c)(cl2:∀x,(x,G4)∈scope.names->(cl.lookup x).isSome=true)
 (I3:Inv X pins σ H3 s3)(T:Turn X.prog X.w X.K tg J fp it tn)(tn3:tn 0 s3.heap)(fpD:∀b∈fp,H3 b=none)(fp3:∀b∈fp,b<s3.heap.objs.size)
 (fpk:∀b∈fp,b≠X.env.locals/\b∉X.fs/\(b∈X.ex\/X.s₀.heap.objs.size<=b)/\(∀x c,X.env.cells.lookup x=some c->c≠b)/\∀p∈X.pn++pins,p.1≠b)
 (loop:∀s',Inv (aX X N' scope cl fp (X.pn++pins) s3 H3) [] (jX fr σ) H3 s'->tn 0 s'.heap->(∀{H':Hp},(∀b∈fp,H' b=none)->∀b∈fp,iF (aX X N' scope cl fp (X.pn++pins) s3 H3) [] H' b) ->
  HY (Gn X.prog X.w) X.A (.compStart ex 0 (.ref it) (.ref D) (aX X N' scope cl fp (X.pn++pins) s3 H3).env) (fun r s5=>r = .ok .next/\∃σ5 H4,Inv (aX X N' scope cl fp (X.pn++pins) s3 H3) [] σ5 H4 s5/\Q (.ref D) H4) s')
 (fin:∀s5 H4 m,s5.heap.Ns s3.heap.objs.size m->(∀h',Ij s3.heap.objs.size s5.heap h'->Inv X pins σ H4 {s5 with heap:=h' })->iF X pins H4 s3.heap.objs.size->Q (.ref D) H4->Rp s3.heap.objs.size (.ok .next) s5) :
 Gb (Gn X.prog X.w) X.A (JA scope X.env.globals cl [] X.env.qual none .none (some X.env)) (fun cenv s₄ =>
  HY (Gn X.prog X.w) X.A (.compStart ex 0 (.ref it) (.ref D) {cenv with scope:=ME scope X.env})
   (Rp cenv.locals) s₄) X.xe s3:=by
 refine fS ?_
 have ok:=cellsFrom_ok scope.names (s3.heap.push {cls:=.type "dict", data:=.dict #[]}) (s3.heap.objs.size+1) [] ⟨fun _ _ hm=>(nomatch hm),Km⟩ (by rw[Ho];exact FQ _)
 rw[Ho]at ok
 have kp:∀b o,s3.heap.get? b=some o->(Kn (s3.heap.push {cls:=.type "dict", data:=.dict #[]}) scope.names).get? b=some o:=fun b o e=>JR _ _ b o (FM _ e)
 have hns₁:(Kn (s3.heap.push {cls:=.type "dict", data:=.dict #[]}) scope.names).Ns s3.heap.objs.size (fun _=>none):=(Heap.Ns.new s3.heap (.type "dict")).keeps (JR _ _)
 generalize Kn (s3.heap.push {cls:=.type "dict", data:=.dict #[]}) scope.names=h₁ at ok kp hns₁ ⊢
 have cs:∀x c,(G6 (s3.heap.objs.size+1) scope.names cl).lookup x=some c->(G6 (s3.heap.objs.size+1) scope.names []).lookup x=some c\/cl.lookup x=some c:=fun x c e=>by
  rw[aE,cw]at e
  cases q:(G6 (s3.heap.objs.size+1) scope.names []).lookup x with
  | none=>rw[q]at e;exact .inr (by simpa using e)
  | some c'=>rw[q]at e;exact .inl (by simpa using e)
 have own:∀x c,(G6 (s3.heap.objs.size+1) scope.names []).lookup x=some c->h₁.IsCell c none/\s3.heap.objs.size+1<=c:=fun x c e=>ok.empty x c (GK e)
 have clt:∀x c,cl.lookup x=some c->c<s3.heap.objs.size:=fun x c e=>by
  obtain⟨v,o,ho,_⟩:=I3.cell x c (cl1 x c e)
  exact FW ho
 have frn:∀x,scope.names.lookup x=some .free->(G6 (s3.heap.objs.size+1) scope.names []).lookup x=none:=fun x e=>by
  cases q:(G6 (s3.heap.objs.size+1) scope.names []).lookup x with
  | none=>rfl
  | some c =>
    have:=hcell (x,.cell) (cu (GK q)) rfl
    rw[e]at this
    cases this
 have notC:∀b o,s3.heap.get? b=some o->b≠s3.heap.objs.size:=fun b o e=>Gx (FW e)
 have fpstk:∀b∈fp,b∉frs X.stack:=fun b hb z=>(Gh.mp (I3.stkSub b z)).elim (fpk b hb).1 (fpk b hb).2.1
 have cellK:∀c v,s3.heap.IsCell c v->h₁.IsCell c v:=fun c v ⟨o,ho,hd⟩=>⟨o,kp c o ho,hd⟩
 have IY:Inv (aX X N' scope cl fp (X.pn++pins) s3 H3) [] (jX fr σ) H3 {s3 with heap:=h₁}:=by
  refine⟨⟨I3.ok.mod,hkind,I3.ok.glob,I3.ok.blt,FQ _,fun x y c e1 e2=>?_,fun x hx=>?_,fun x c _ e=>?_,I3.ok.hd,I3.ok.frames,.inl rfl,
   fun b hb=>⟨Gx (fp3 b hb),fun x c e=>?_⟩,I3.bs,GI I3.ok.bsz I3.sz,fun b o e hb=>?_,fun b hb=>fpstk b hb,I3.stack,I3.stkFree⟩,
   rfl,I3.bare,Un.kept kp,⟨_,hns₁,fun i x v e1 e2 e3=>?_⟩,fun x c e=>?_,I3.hok.fresh (FQ _),fun x c e=>?_,fun p hp=>?_,I3.hok.kept kp,?_⟩
  · rcases cs x c e1 with q1|q1<;>rcases cs y c e2 with q2|q2
    · exact Mg ok.apart (GK q1) (GK q2)
    · exact absurd (FN (clt y c q2) (Hu (own x c q1).2)) (GT _)
    · exact absurd (FN (clt x c q1) (Hu (own y c q2).2)) (GT _)
    · exact I3.ok.inj x y c (cl1 x c q1) (cl1 y c q2)
  · refine Hr.mp ?_
    show((G6 (s3.heap.objs.size+1) scope.names cl).lookup x).isSome=true
    rcases eW hx with q|q
    · exact W.cellsFrom_some _ _ _ (.inr (cl2 x q))
    · exact W.cellsFrom_some _ _ _ (.inl (hcell _ q rfl))
  · rename_i hfn
    rcases cs x c e with q|q
    · have:=(own x c q).2
      show s3.heap.objs.size<=c
      omega
    · have hfn:(scope.names.lookup x==some HP)=true:=hfn
      have hl:scope.names.lookup x=some .cell:=by simpa using hfn
      obtain⟨c',ec'⟩:=Hr.mp (W.cellsFrom_some scope.names (s3.heap.objs.size+1) [] (.inl hl))
      have e':(G6 (s3.heap.objs.size+1) scope.names cl).lookup x=some c:=e
      rw[aE,cw,ec']at e'
      simp at e'
      subst e'
      exact Hu (own x c' ec').2
  · rcases cs x c e with q|q
    · exact fun z=>absurd (FN (fp3 b hb) (Hu (by rw[<- z];exact(own x c q).2))) (GT _)
    · exact(fpk b hb).2.2.2.1 x c (cl1 x c q)
  · rcases(fpk b hb).2.2.1 with z|z
    · exact I3.ok.noex b o e z
    · exact absurd (FN (FW e) (GI I3.ok.bsz z)) (GT _)
  · have e2':(fr[i]?).map (fun o=>o.bind fun j=>(σ[j]?).join)=some (some v):=by unfold jX at e2;rw[G_]at e2;exact e2
    cases ef:fr[i]? with
    | none=>rw[ef]at e2';cases e2'
    | some o =>
      cases o with
      | none=>rw[ef]at e2';cases e2'
      | some j =>
        rw[ef]at e2'
        have e3':(σ[j]?).join=some v:=GS e2'
        have e4:σ[j]?=some (some v):=by
         cases q:σ[j]? with
         | none=>rw[q]at e3';cases e3'
         | some z=>rw[q]at e3';cases e3';rfl
        obtain⟨x',n1,n2,n3,n4⟩:=frg i j ef
        have ex:x'=x:=GS (n1.symm.trans e1)
        subst ex
        obtain⟨m,hn,hl⟩:=I3.loc
        obtain⟨u,ru,lk⟩:=hl j x' v n2 e4 (n4.elim (fun z=>.inr (.inl z)) fun z=>.inr (.inr z))
        refine⟨u,ru,?_⟩
        rcases lk with⟨kl,_⟩|⟨_,c,ec,hcl⟩
        · exact absurd (show X.env.scope.names.lookup x'=some .local from kl) (by rcases n4 with z|z<;>rw[z]<;>decide)
        · obtain⟨c',ec'⟩:=Hr.mp (cl2 x' (gN n3))
          have:=cl1 x' c' ec'
          rw[ec]at this
          cases this
          refine .inr ⟨df n3,c,?_,cellK _ _ hcl⟩
          show(G6 (s3.heap.objs.size+1) scope.names cl).lookup x'=some c
          rw[aE,cw,frn x' n3]
          simpa using ec'
  · rcases cs x c e with q|q
    · exact⟨_,(own x c q).1⟩
    · obtain⟨v,z⟩:=I3.cell x c (cl1 x c q)
      exact⟨v,cellK _ _ z⟩
  · rcases cs x c e with q|q
    · exact I3.hok.fresh (by have:=(own x c q).2;omega)
    · exact I3.freeC x c (cl1 x c q)
  · rw[Ht]at hp
    obtain⟨e,n,ne,nf,d⟩:=I3.pin p hp
    exact⟨kp _ _ e,n,notC _ _ e,fun z=>(Gh.mp (I3.stkSub p.1 z)).elim ne nf,d⟩
  · unfold jX
    rw[FR]
    exact frl
 have stat:∀{H':Hp},(∀b∈fp,H' b=none)->∀b∈fp,iF (aX X N' scope cl fp (X.pn++pins) s3 H3) [] H' b:=fun hn b hb =>
  ⟨hn b hb,Gx (fp3 b hb),fpstk b hb,.inl hb,fun x c e=>(by
   rcases cs x c e with q|q
   · exact fun z=>absurd (FN (fp3 b hb) (Hu (by rw[<- z];exact(own x c q).2))) (GT _)
   · exact(fpk b hb).2.2.2.1 x c (cl1 x c q)),fun p hp=>by rw[Ht]at hp;exact(fpk b hb).2.2.2.2 p hp⟩
 refine JB (loop _ IY (T.keep _ _ _ tn3 fun b _ o e=>kp b o e) stat) fun r s5 ⟨hr,σ5,H4,I5,qn⟩=>?_
 subst hr
 obtain⟨m,hn,_⟩:=I5.loc
 refine fin s5 H4 m hn (fun h' hs'=>?_) (I3.fpOk (FQ _) I5.free) qn
 have k':∀b o,b≠s3.heap.objs.size->s5.heap.get? b=some o->h'.get? b=some o:=fun b o nb e=>hs'.extBut b o nb e
 have u5:Un (frs X.stack) fp H3 H4 s3.heap s5.heap:=I5.base
 have un:Un (frs X.stack) fp H3 H4 s3.heap h' :=
  ⟨fun b o e n hb hx=>k' b o (notC b o e) (u5.keep b o e n hb hx),fun b o e n hb hx=>by obtain⟨sl,q⟩:=u5.slot b o e n hb hx;exact⟨sl,k' b _ (notC b o e) q⟩,u5.free,
   fun b o e hx=>by obtain⟨o',q⟩:=u5.there b o e hx;exact⟨o',k' b _ (notC b o e) q⟩,u5.tups,u5.frzs,u5.tbls⟩
 have nC:H4 s3.heap.objs.size=none:=I5.free
 have hok':Fj X.prog X.w H4 h':=fun b u e=>(I5.hok b u e).stay (fun c v hcv q=>k' c v (by
  rintro rfl
  rcases hcv with z|z
  · rw[<- z]at e;rw[nC]at e;cases e
  · rw[nC]at z;cases z) q) (fun _ q=>q) fun _ _ q=>q
 obtain⟨hh,g5,d5,t5,os5⟩:=s5
 have os':os5=s3.os:=I5.os
 subst os'
 have I':=Inv.call (s:=s3) (h':=h') (g':=g5) (d':=d5) (t':=t5) (ch:=fp) I3 un hok' I5.bare (fun b hb=>⟨(fpk b hb).2.2.1,(fpk b hb).1,(fpk b hb).2.2.2.1,(fpk b hb).2.2.2.2⟩)
 exact I'
theorem gQ{elt:Expr}{g:TG}{tt:TT}{te:TE}{H3:Hp}{s3:FO}{D:Addr}{J:It}{Q:VK}
 {cl:List (Str×Addr)}(N':List Str)(fr:List (Option Nat))(hc:X.calm=true)(hkind:scope.kind = .function)(hcell:∀y∈scope.names,y.2 = .cell->scope.names.lookup y.1=some .cell)
 (hfree:∀y∈scope.names,y.2 = .free->X.env.kindOf y.1=some .cell\/X.env.kindOf y.1=some .free)(frl:fr.length=N'.length)
 (frg:∀(i j:Nat),fr[i]?=some (some j)->∃x,N'[i]?=some x/\X.N[j]?=some x/\scope.names.lookup x=some .free/\(X.env.scope.names.lookup x=some .cell\/X.env.scope.names.lookup x=some .free))
 (cl1:∀x c,cl.lookup x=some c->X.env.cells.lookup x=some c)(cl2:∀x,(x,G4)∈scope.names->(cl.lookup x).isSome=true)
 (I3:Inv X pins σ H3 s3)(T:Turn X.prog X.w X.K tg J fp it tn)(tn3:tn 0 s3.heap)(fpD:∀b∈fp,H3 b=none)(fp3:∀b∈fp,b<s3.heap.objs.size)
 (fpk:∀b∈fp,b≠X.env.locals/\b∉X.fs/\(b∈X.ex\/X.s₀.heap.objs.size<=b)/\(∀x c,X.env.cells.lookup x=some c->c≠b)/\∀p∈X.pn++pins,p.1≠b)
 (hg:PG (aX X N' scope cl fp (X.pn++pins) s3 H3) tg g)(ht:ER (aX X N' scope cl fp (X.pn++pins) s3 H3) ifs tt)(he:PE (aX X N' scope cl fp (X.pn++pins) s3 H3) elt te)
 {Wv:Nat->Nat->List V->St->Hp->Prop}{m0:Nat}(w0:Wv 0 m0 [] (jX fr σ) H3)
 (turn:∀i m acc σc H,Wv i m acc σc H->(J.stop i H/\Q (.ref D) H)\/(J.go i H/\∀x H',J.yld i H x H'->g x σc H' fun σ2 H2=>tt σ2 H2 fun b H3 =>
  if b=true then te σ2 H3 fun y H4=>H4 D=some (.lst acc)/\acc.length<sizeLine/\∃m',m'<m/\Wv (i+1) m' (acc++[y]) σ2 (Cs H4 D (.lst (acc++[y])))else ∃m',m'<m/\Wv (i+1) m' acc σ2 H3))
 (fin:∀s5 H4 m,s5.heap.Ns s3.heap.objs.size m->(∀h',Ij s3.heap.objs.size s5.heap h'->Inv X pins σ H4 {s5 with heap:=h' })->iF X pins H4 s3.heap.objs.size->Q (.ref D) H4->Rp s3.heap.objs.size (.ok .next) s5) :
 Gb (Gn X.prog X.w) X.A (JA scope X.env.globals cl [] X.env.qual none .none (some X.env)) (fun cenv s₄ =>
  HY (Gn X.prog X.w) X.A (.compStart (.ListComp elt [⟨tg,iter,ifs,0⟩] scope pos) 0 (.ref it) (.ref D) {cenv with scope:=ME scope X.env})
   (Rp cenv.locals) s₄) X.xe s3:=by
 refine dS N' fr hc hkind hcell hfree frl frg cl1 cl2 I3 T tn3 fpD fp3 fpk (fun s' IY tY stat=>?_) fin
 have loop:HY (Gn X.prog X.w) X.A (.compLoop (.ListComp elt [⟨tg,iter,ifs,0⟩] scope pos) 0 (.ref it) (.ref D) (aX X N' scope cl fp (X.pn++pins) s3 H3).env)
  (fun r s5=>r = .ok .next/\∃σ5 H4,Inv (aX X N' scope cl fp (X.pn++pins) s3 H3) [] σ5 H4 s5/\Q (.ref D) H4) s':=by
  refine oO (fun n s'=>∃i acc σ' H',Inv (aX X N' scope cl fp (X.pn++pins) s3 H3) [] σ' H' s'/\tn i s'.heap/\(∀b∈fp,H' b=none)/\Wv i n acc σ' H') ?_ m0
   ⟨0,[],_,_,IY,tY,fpD,w0⟩
  rintro n s4 ⟨i,acc,σ4,H4,I4,st4,fr4,w4⟩
  rcases turn i n acc σ4 H4 w4 with⟨stop,qn⟩|⟨go,step⟩
  · exact CF (T.done (aX X N' scope cl fp (X.pn++pins) s3 H3) rfl rfl rfl hc i [] s4 σ4 H4 (fun _ _=>False) I4 (stat fr4) st4 stop) fun r s5 ⟨hr,I5⟩=>.inl ⟨hr,rfl,σ4,H4,I5,qn⟩
  · refine CF (T.item (aX X N' scope cl fp (X.pn++pins) s3 H3) rfl rfl rfl hc i [] s4 σ4 H4 (fun _ _=>False) I4 (stat fr4) st4 go) fun r s5 ⟨u,hr,h5⟩=>.inr ⟨u,hr,?_⟩
    refine CF h5 fun _ s6 ⟨x,H6,I6,r6,y6,st6,fr6⟩=>?_
    have I6':=I6.pinned (stat fr6) (T.obj _ _ st6)
    have again:∀{σ7:St}{H7:Hp}{s7:FO},Inv (aX X N' scope cl fp (X.pn++pins) s3 H3) ([]++eX fp s6.heap) σ7 H7 s7->∀{acc':List V}{m':Nat},m'<n->Wv (i+1) m' acc' σ7 H7 ->
     ∃m,m<n/\∃i acc σ' H',Inv (aX X N' scope cl fp (X.pn++pins) s3 H3) [] σ' H' s7/\tn i s7.heap/\(∀b∈fp,H' b=none)/\Wv i m acc σ' H':=fun{σ7 H7 s7} I7 {acc' m'} hm w7=>by
     refine⟨m',hm,i+1,acc',σ7,H7,I7.unpinned,T.keep _ _ _ st6 fun b hb o e=>(I7.pin (b,o) (FZ _ (FZ _ (bw hb e)))).1,fun b hb=>?_,w7⟩
     obtain⟨o,e,d⟩:=T.obj _ _ st6 b hb
     exact(I7.pin (b,o) (FZ _ (FZ _ (bw hb e)))).2.1
    refine CF (hg _ s6 σ4 H6 x u _ I6' r6 (step x H6 y6)) fun _ s7 ⟨σ7,H7,I7,q7⟩=>?_
    refine CF (ht _ s7 σ7 H7 _ I7 q7) fun ok s8 ⟨H8,I8,q8⟩=>?_
    cases ok with
    | false =>
      rw[if_neg Gs]at q8 ⊢
      obtain⟨m',hm,w8⟩:=q8
      exact again I8 hm w8
    | true =>
      rw[if_pos rfl]at q8 ⊢
      refine CF (he _ s8 σ7 H8 _ I8 q8) fun y s9 ⟨yv,H9,I9,r9,eD,hl,m',hm,w9⟩=>?_
      exact CF (fT (X:=aX X N' scope cl fp (X.pn++pins) s3 H3) _ s9 σ7 H9 (.ref D) [yv] (.ref D) [y] (fun _ H'=>H'=Cs H9 D (.lst (acc++[yv]))) I9 rfl (.cons r9 .nil) ⟨D,acc,yv,rfl,rfl,eD,hl,rfl⟩)
       fun _ s10 ⟨_,H10,I10,_,e10⟩=>by subst e10;exact again I10 hm w9
 exact KU loop (T.self X.A 0 _ _ _ tY loop)
section
variable{X:Cx}{elt tg iter:Expr}{ifs:List Expr}{scope:Scope}{pos:Pos}{wi:TI}{g:CompA->TG}{tt:CompA->TT}{te:CompA->TE}
theorem ik(N':List Str)(fr:List (Option Nat))(hc:X.calm=true)(hi:PI X tg iter wi)(hfr:lm fr N' X.N scope X.env.scope=true)(hsc:lI scope X.env.scope=true)
 (hg:∀y,PG (blk X N' scope y) tg (g y))(ht:∀y,ER (blk X N' scope y) ifs (tt y))(he:∀y,PE (blk X N' scope y) elt (te y))
 (hs:∀x,Gj iter X.env x=pure x:=by intro _;rfl):PE X (.ListComp elt [⟨tg,iter,ifs,0⟩] scope pos) (pC wi fr g tt te):=by
 intro pins s σ H Q I h
 obtain⟨sk,sn⟩:=FV.mp hsc
 have hkind:scope.kind = .function:=of_decide_eq_true sk
 have hall:=HJ.mp sn
 have hcell:∀y∈scope.names,y.2 = .cell->scope.names.lookup y.1=some .cell:=fun y hy hl=>by
  rcases Gd.mp (FV.mp (FV.mp (hall y hy)).1).1 with z|z
  · exact absurd hl (of_decide_eq_true z)
  · exact of_decide_eq_true z
 have hnames:∀y∈scope.names,y.2 = .local->scope.names.lookup y.1=some .local:=fun y hy hl=>by
  rcases Gd.mp (FV.mp (FV.mp (hall y hy)).1).2 with z|z
  · exact absurd hl (of_decide_eq_true z)
  · exact of_decide_eq_true z
 have hfree:∀y∈scope.names,y.2 = .free->X.env.kindOf y.1=some .cell\/X.env.kindOf y.1=some .free:=fun y hy hl=>by
  rcases Gd.mp (FV.mp (hall y hy)).2 with z|z
  · exact absurd hl (of_decide_eq_true z)
  · exact(Gd.mp z).imp of_decide_eq_true of_decide_eq_true
 obtain⟨frl,frg⟩:=lm.get hfr
 obtain⟨cl,hclos,cl1,cl2⟩:=b_ (env:=X.env) (scope:=scope) fun y hy hl=>I.ok.has y.1 (hfree y hy hl)
 rw[eval_ListComp]
 refine HF (use:=none) rfl hs hclos hkind hnames (CF (hi pins s σ H _ I h) fun v s1 h1=>CF h1 fun itv s2 h2=>?_)
 obtain⟨it,fp,tn,J,H2,e,I2,T,st2,f2,q2⟩:=h2
 subst e
 refine GP ?_
 have hD:H2 s2.heap.objs.size=none:=I2.hok.fresh (FQ _)
 have I3:Inv X pins σ (Cs H2 s2.heap.objs.size (.lst [])) {s2 with heap:=s2.heap.push {cls:=.type "list", data:=.seq ([]:List Value).toArray}} :=
  I2.laid (t':=s2.toks) (fun b u e=>FM _ e) (FQ _) ⟨by show 0<=sizeLine;exact Gw _,[],0,.nil,FY _ rfl⟩
 obtain⟨Wv,⟨m0,w0⟩,turn⟩:=q2 _ hD
 have tn3:tn 0 (s2.heap.push {cls:=.type "list", data:=.seq ([]:List Value).toArray}):=T.keep _ _ _ st2 fun b _ o e=>FM _ e
 have fpD:∀b∈fp,(Cs H2 s2.heap.objs.size (.lst [])) b=none:=fun b hb=>by
  obtain⟨o,e,_⟩:=T.obj _ _ st2 b hb
  rw[ar (Gx (FW e))]
  exact(f2 b hb).1
 have fp3:∀b∈fp,b<(s2.heap.push {cls:=.type "list", data:=.seq ([]:List Value).toArray}).objs.size:=fun b hb=>by
  obtain⟨o,e,_⟩:=T.obj _ _ tn3 b hb
  exact FW e
 exact gQ N' fr hc hkind hcell hfree frl frg cl1 cl2 I3 T tn3 fpD fp3 (fun b hb=>(f2 b hb).2) (hg ⟨cl,fp,X.pn++pins,_,_⟩) (ht ⟨cl,fp,X.pn++pins,_,_⟩) (he ⟨cl,fp,X.pn++pins,_,_⟩) w0 (turn ⟨cl,fp,X.pn++pins,_,_⟩)
  (Rp:=L4 (Gn X.prog X.w) X.A X.xe none (EP X pins σ Q) (.ref s2.heap.objs.size)) fun s5 H4 m hn k _ qn=>⟨m,hn,fun h' hs'=>⟨.ref _,H4,k h' hs',rfl,qn⟩⟩
theorem lK{b:Bool}{ix:Nat}(N':List Str)(fr:List (Option Nat))(hc:X.calm=true)(hi:PI X tg iter wi)(hfr:lm fr N' X.N scope X.env.scope=true)(hsc:lI scope X.env.scope=true)
 (hg:∀y,PG (blk X N' scope y) tg (g y))(ht:∀y,ER (blk X N' scope y) ifs (tt y))(he:∀y,PE (blk X N' scope y) elt (te y))(hN:X.N.Nodup)(hix:X.N[ix]?=some x)(hx:Loc X.env.scope x)
 (hf:X.fn x=true\/X.env.scope.names.lookup x=some .local)(hsw:HS (.ListComp elt [⟨tg,iter,ifs,0⟩] scope pos) (some (.Name x px)) spos.line X.env=pure b)
 (hs:∀x,Gj iter X.env x=pure x):PS X (.Assign [.Name x px] (.ListComp elt [⟨tg,iter,ifs,0⟩] scope pos) spos) (vB (pC wi fr g tt te) (iq ix)):=by
 cases b with
 | false=>exact fN hN hix hx (ik N' fr hc hi hfr hsc hg ht he hs) hsw hf
 | true =>
 intro pins s σ H DD I h
 obtain⟨sk,sn⟩:=FV.mp hsc
 have hkind:scope.kind = .function:=of_decide_eq_true sk
 have hall:=HJ.mp sn
 have hcell:∀y∈scope.names,y.2 = .cell->scope.names.lookup y.1=some .cell:=fun y hy hl=>by
  rcases Gd.mp (FV.mp (FV.mp (hall y hy)).1).1 with z|z
  · exact absurd hl (of_decide_eq_true z)
  · exact of_decide_eq_true z
 have hnames:∀y∈scope.names,y.2 = .local->scope.names.lookup y.1=some .local:=fun y hy hl=>by
  rcases Gd.mp (FV.mp (FV.mp (hall y hy)).1).2 with z|z
  · exact absurd hl (of_decide_eq_true z)
  · exact of_decide_eq_true z
 have hfree:∀y∈scope.names,y.2 = .free->X.env.kindOf y.1=some .cell\/X.env.kindOf y.1=some .free:=fun y hy hl=>by
  rcases Gd.mp (FV.mp (hall y hy)).2 with z|z
  · exact absurd hl (of_decide_eq_true z)
  · exact(Gd.mp z).imp of_decide_eq_true of_decide_eq_true
 obtain⟨frl,frg⟩:=lm.get hfr
 obtain⟨cl,hclos,cl1,cl2⟩:=b_ (env:=X.env) (scope:=scope) fun y hy hl=>I.ok.has y.1 (hfree y hy hl)
 rw[JD _ _ _ _ hsw]
 refine FI (HD (FI ?_))
 show Gb _ X.A (do let _ <- L5 (.ListComp elt [⟨tg,iter,ifs,0⟩] scope pos) scope X.env _ (newList []) false (eval iter X.env) (some (IS (.Name x px) X.env))) _ _ s
 refine FI (Gr (HF (use:=some (IS (.Name x px) X.env)) (Q:=fun _ s'=>SP X pins DD .next s') rfl hs hclos hkind hnames
  (CF (hi pins s σ H _ I h) fun v s1 h1=>CF h1 fun itv s2 h2=>?_)) (fun _ s' hq=>FS (FS hq)) fun _ _ e=>e)
 obtain⟨it,fp,tn,J,H2,e,I2,T,st2,f2,q2⟩:=h2
 subst e
 refine GP ?_
 have hD:H2 s2.heap.objs.size=none:=I2.hok.fresh (FQ _)
 have I3:Inv X pins σ (Cs H2 s2.heap.objs.size (.lst [])) {s2 with heap:=s2.heap.push {cls:=.type "list", data:=.seq ([]:List Value).toArray}} :=
  I2.laid (t':=s2.toks) (fun b u e=>FM _ e) (FQ _) ⟨by show 0<=sizeLine;exact Gw _,[],0,.nil,FY _ rfl⟩
 obtain⟨Wv,⟨m0,w0⟩,turn⟩:=q2 _ hD
 have tn3:tn 0 (s2.heap.push {cls:=.type "list", data:=.seq ([]:List Value).toArray}):=T.keep _ _ _ st2 fun b _ o e=>FM _ e
 have fpD:∀b∈fp,(Cs H2 s2.heap.objs.size (.lst [])) b=none:=fun b hb=>by
  obtain⟨o,e,_⟩:=T.obj _ _ st2 b hb
  rw[ar (Gx (FW e))]
  exact(f2 b hb).1
 have fp3:∀b∈fp,b<(s2.heap.push {cls:=.type "list", data:=.seq ([]:List Value).toArray}).objs.size:=fun b hb=>by
  obtain⟨o,e,_⟩:=T.obj _ _ tn3 b hb
  exact FW e
 refine gQ (Q:=fun v H1=>iq ix v σ H1 DD.nx) N' fr hc hkind hcell hfree frl frg cl1 cl2 I3 T tn3 fpD fp3 (fun b hb=>(f2 b hb).2) (hg ⟨cl,fp,X.pn++pins,_,_⟩) (ht ⟨cl,fp,X.pn++pins,_,_⟩) (he ⟨cl,fp,X.pn++pins,_,_⟩) w0 (turn ⟨cl,fp,X.pn++pins,_,_⟩)
  (Rp:=L4 (Gn X.prog X.w) X.A X.xe (some (IS (.Name x px) X.env)) (fun _ s'=>SP X pins DD .next s') (.ref s2.heap.objs.size)) fun s5 H4 m hn k fpo qn=>?_
 show Gb _ X.A (IS (.Name x px) X.env (.ref s2.heap.objs.size)) _ _ s5
 have I5:Inv X pins σ H4 s5:=k s5.heap (Ko _ _)
 obtain⟨f0,f1,f2',f3,f4,f5⟩:=fpo
 refine Jv (dY I5 hN hix hx (v:=.ref s2.heap.objs.size) rfl (fun s6 I6 sb=>?_) hf)
 obtain⟨a,sb,ha⟩:=sb
 have hne:(s2.heap.push {cls:=.type "list", data:=.seq ([]:List Value).toArray}).objs.size≠a:=by
  rcases ha with rfl|ha
  · exact f1
  · exact fun z=>f4 x a ha z.symm
 refine⟨m,hn.at' fun o e=>sb.extBut _ o hne e,fun h' hs'=>?_⟩
 exact⟨_,H4,I6.turned (t':=s6.toks) (fun b o hb e=>hs'.extBut b o hb e) f0 f1 f3 f4 f5,qn⟩
end
end L2
namespace L2.VL
def W.cap:W->Option W
 | .d x=>some (.d x)
 | .reel=>some .reel
 | .vv u=>some (.vv u)
 | .sc ns=>some (.sc ns)
 | .fd kvs=>some (.fd kvs)
 | .fw kvs=>some (.fw kvs)
 | .ft kvs=>some (.ft kvs)
 | .xc x fs=>some (.xc x fs)
 | .dp kvs x=>some (.dp kvs x)
 | _=>none
def dR(fr:List (Option Nat))(ρ:En):En:=fr.map fun o=>o.bind fun j=>((ρ[j]?).join).bind W.cap
def lV(X:Cx)(rl:RlT)(ifs:List Expr)(f:TB):Prop:=∃t,ER X ifs t/\∀{F₀ H₀ F H:Hp}{σ:St}{ρ:En},VR X.K rl F₀ H₀ F H σ ρ->∀(Qd:Bool->Prop)(Q:Bool->Hp->Prop),f ρ Qd ->
 (∀b F' H',Grow rl F H F' H'->Qd b->Q b H')->t σ H Q
theorem bR:lV X rl [] (fun _ Q=>Q true):=⟨_,nA,fun R Qd Q q k=>k true _ _ (Grow.refl R.sub R.reel) q⟩
theorem kw{c:Expr}{f:TB}(h:PB X rl c f):lV X rl [c] f:=let ⟨t,p,k⟩:=h;⟨t,sN p,k⟩
theorem fC{fr:List (Option Nat)}{i:Nat}{w:W}(h:(dR fr ρ)[i]?=some (some w)):∃j w',fr[i]?=some (some j)/\ρ[j]?=some (some w')/\w'.cap=some w:=by
 unfold dR at h
 rw[G_]at h
 cases ef:fr[i]? with
 | none=>rw[ef]at h;cases h
 | some o =>
   cases o with
   | none=>rw[ef]at h;cases h
   | some j =>
     rw[ef]at h
     have h':((ρ[j]?).join).bind W.cap=some w:=GS h
     cases q:ρ[j]? with
     | none=>rw[q]at h';cases h'
     | some o =>
       cases o with
       | none=>rw[q]at h';cases h'
       | some w'=>rw[q]at h';exact⟨j,w',rfl,q,h'⟩
theorem lv{w' w:W}(h:w'.cap=some w):w=w'/\w.own=false/\∀xs,w ≠ .pk xs:=by
 cases w'<;>cases h<;>exact⟨rfl,rfl,(fun _ z=>by cases z)⟩
theorem fy{K:W.Frag}{fr:List (Option Nat)}(R:VR K rl F₀ H₀ F H σ ρ)(g:Grow rl F H F H'):VR K rl F H F H' (jX fr σ) (dR fr ρ):=by
 refine⟨g,fun i w e=>?_,fun i j xs ys v _ e1 _ o1 _ _ _=>?_,fun i xs e=>?_,by simp[jX,dR]⟩
 · obtain⟨j,w',e1,e2,e3⟩:=fC e
   obtain⟨rfl,n1,n2⟩:=lv e3
   obtain⟨v,s1,r1,_⟩:=R.sl j w e2
   refine⟨v,?_,r1.grow g,?_⟩
   · unfold jX
     rw[G_,e1]
     show some ((σ[j]?).join)=_
     rw[s1]
     rfl
   · cases w with
     | ml xs=>cases n1
     | md xs=>cases n1
     | mk xs=>cases n1
     | nt _=>trivial
     | lk=>trivial
     | sc _=>trivial
     | fd _=>trivial
     | fw _=>trivial
     | ft _=>trivial
     | xc _ _=>trivial
     | dp _ _=>trivial
     | d _=>trivial
     | pk _=>trivial
     | reel=>trivial
     | vv _=>trivial
 · obtain⟨_,_,_,_,e3⟩:=fC e1
   rw[(lv e3).2.1]at o1
   cases o1
 · obtain⟨_,_,_,_,e3⟩:=fC e
   exact absurd rfl ((lv e3).2.2 xs)
theorem dA{fr:List (Option Nat)}:lX (dR fr ρ):=fun i xs e=>by
 obtain⟨_,_,_,_,e3⟩:=fC e
 exact(lv e3).2.1
theorem VR.other{K:W.Frag}(R:VR K rl F₀ H₀ F H σ ρ)(n:lX ρ){D:Addr}{o:HO}(h0:H₀ D=none)(f:F D=none)(hr:rl.a≠some D):VR K rl F₀ H₀ F (Cs H D o) σ ρ:=by
 have neF:∀b u,F b=some u->b≠D:=fun b u q z=>by subst z;rw[f]at q;cases q
 have g:Grow rl F₀ H₀ F (Cs H D o):=by
  refine⟨fun b o q1 n=>by rw[ar (ba q1 h0)];exact R.g.same b o q1 n,R.g.fs,fun b o q1=>by rw[ar (neF b o q1)];exact R.sub b o q1,R.g.old,fun y z=>?_⟩
  obtain⟨z1,⟨u,h1,h2⟩⟩:=R.reel y z
  exact⟨z1,⟨u,by rw[ar (fun q=>hr (by rw[<- q];exact z))];exact h1,h2⟩⟩
 refine⟨g,fun i w e=>?_,R.ap,R.np,R.len⟩
 obtain⟨v,h1,h2,h3⟩:=R.sl i w e
 refine⟨v,h1,?_,h3⟩
 cases w with
 | d x=>exact h2
 | reel=>exact h2
 | vv u=>exact h2
 | ml xs=>cases n i _ e
 | md xs=>cases n i _ e
 | mk xs=>cases n i _ e
 | nt ds=>exact h2
 | lk=>trivial
 | sc _=>exact h2
 | fd _=>exact h2
 | fw _=>exact h2
 | ft _=>exact h2
 | xc _ _=>exact h2
 | dp _ _=>exact h2
 | pk xs=>exact absurd e (R.np i xs)
section
variable{X:Cx}{rl:RlT}{elt tg iter:Expr}{ifs:List Expr}{scope:Scope}{pos:Pos}{fi:En->(List FH->Prop)->Prop}{g:EE}{ft:TB}{fe:TV}
end
mutual
def uD:FH->Prop
 | .none=>True
 | .bool _=>True
 | .int i=>i.natAbs<2^1900
 | .str x=>FH.strOk x=true
 | .list xs=>eT xs
 | .tuple xs=>eT xs
 | .dict _=>False
def eT:List FH->Prop
 | []=>True
 | x::xs=>uD x/\eT xs
end
theorem lO{k:Nat}(h:n<2^k)(hk:0<k):n.log2<k:=by
 by_cases h0:n=0
 · subst h0;simpa using hk
 · exact(Nat.log2_lt h0).mpr h
mutual
theorem uD.facts:∀d:FH,uD d->d.showable=true/\d.canLay0=true/\d.hasDict=false/\d.leavesShort 1921=true
 | .none,_=>⟨rfl,rfl,rfl,rfl⟩
 | .bool _,_=>⟨rfl,rfl,rfl,rfl⟩
 | .int i,h=>by
   have hl:i.natAbs.log2<1920:=lO (FN (show i.natAbs<2^1900 from h) (FX (by decide) (by decide))) (by decide)
   refine⟨by simp[JS,hl],rfl,rfl,?_⟩
   simp only[Jo,decide_eq_true_eq]
   exact int_text_len_1921 hl
 | .str x,h=>by
   refine⟨rfl,(show GY (.str x)=true by simp only[GY];exact h),rfl,?_⟩
   have h:x.cps.all (· < 0x110000)=true:=h
   simp only[Jo]
   rw[HJ]
   intro c hc
   have:=(Array.all_eq_true_iff_forall_mem.mp h) c (by simpa using hc)
   simp at this ⊢
   omega
 | .list xs,h=>by
   obtain⟨a,b,c,d⟩:=eT.facts xs h
   exact⟨by simpa[JS]using a,by simpa[GY]using b,by simpa[FH.hasDict]using c,by simpa[Jo]using d⟩
 | .tuple xs,h=>by
   obtain⟨a,b,c,d⟩:=eT.facts xs h
   exact⟨by simpa[JS]using a,by simpa[GY]using b,by simpa[FH.hasDict]using c,by simpa[Jo]using d⟩
 | .dict _,h=>GZ h
theorem eT.facts:∀xs:List FH,eT xs->FH.showableAll xs=true/\GE xs=true/\FH.hasDictAll xs=false/\K8 1921 xs=true
 | [],_=>⟨rfl,rfl,rfl,rfl⟩
 | x::xs,h=>by
   obtain⟨a,b,c,d⟩:=uD.facts x h.1
   obtain⟨a',b',c',d'⟩:=eT.facts xs h.2
   exact⟨by simp[FH.showableAll,a,a'],by simp[GE,b,b'],by simp[FH.hasDictAll,c,c'],by simp[K8,d,d']⟩
end
def EL(d:FH):Prop:=uD d/\d.depth<=60/\d.bulk<=8000
theorem EL.shaped(h:EL d):GC d=true:=by
 obtain⟨_,b,_⟩:=uD.facts d h.1
 have:=h.2.1
 simp[GC,b]
 omega
theorem EL.len(h:EL d):d.shown.length<=sizeLine:=by
 have q:=FH.shown_le_bulk 1921 (by decide) d (uD.facts d h.1).2.2.2
 have:=h.2.2
 have e:sizeLine=16777216:=by decide
 omega
section
variable{X:Cx}{rl:RlT}{a b e:Expr}{es:List Expr}{fa fb fc:TV}{fs:EA}{pos p:Pos}
def vO(K:W.Frag):List V->Hp->VK->Prop:=fun xs H Q=>∃x d,xs=[x]/\Rep K H x d/\EL d/\Q (.str d.shown) H
theorem oS(hgd:X.A.guards=some [])(hu:X.A.units+64<LW):dD X (.builtin "repr") (vO X.K):=by
 intro pins s σ H xs us Q I r ⟨x,d,ex,rx,sh,q⟩
 subst ex
 obtain⟨u,rfl,ru⟩:=vals1 r
 have fin:∀tk h' , (∀b o,s.heap.get? b=some o->h'.get? b=some o)->∀t,EP X pins σ Q (.str d.shown t) {s with heap:=h',toks:=tk}:=fun tk h' k t=>⟨.str d.shown,H,I.kept k,⟨t,rfl⟩,q⟩
 obtain⟨as,rd⟩:=Rep.reads I (.refl H) rx u ru
 have hs:=(uD.facts d sh.1)
 cases rx with
 | non=>cases(show u=Jh from ru);exact P.repr_of_none (fin _ _ (fun _ _ e=>e) _)
 | bl b=>cases(show u=L8 b from ru);exact P.repr_of_bool (fin _ _ (fun _ _ e=>e) _)
 | int i =>
   obtain⟨t,e⟩:=(show ∃t,u=K1 i t from ru)
   cases e
   exact P.repr_of_int (by simpa[JS]using hs.1) (fin _ _ (fun _ _ e=>e) _)
 | str x =>
   obtain⟨t,e⟩:=(show ∃t,u=LP x t from ru)
   cases e
   exact P.repr_of_str (fin _ _ (fun _ _ e=>e) _) sh.len
 | tup sq rs =>
   cases(show u=Ia _ from ru)
   exact repr_of_reads' rd hs.1 (FH.noDict_hsm hs.2.2.1) hgd (by have:=sh.2.1;omega) (fun _ _ e=>e) (fun h' t tk hk=>fin tk h' hk t) sh.len
 | lst sq rs =>
   cases(show u=Ia _ from ru)
   exact repr_of_reads' rd hs.1 (FH.noDict_hsm hs.2.2.1) hgd (by have:=sh.2.1;omega) (fun _ _ e=>e) (fun h' t tk hk=>fin tk h' hk t) sh.len
def qr:List W->(W->Prop)->Prop:=fun ws Q=>∃w d,ws=[w]/\w.dat=some d/\EL d/\Q (.d (.str d.shown))
theorem rS:fx X rl (vO X.K) qr:=fun{F H vs ws} Qd Q s ra r ⟨w,d,ew,e1,sh,q⟩ k=>by
 subst ew
 obtain⟨v,rfl,r1⟩:=lY r
 exact⟨v,d,rfl,r1.dat s e1,sh,k _ (.d _) _ _ (Grow.refl s ra) (.str _) trivial q⟩
theorem gB(hr:Room 0 X.A)(hm:X.mg "repr" = none)(ha:EO X rl [e] fs)(hg:Gl X "repr" := by rfl)(he:FU [e] X.env=(false,eval e X.env)::FU [] X.env:=by rfl)(hpl:(Hs pos (FU [] X.env)).any (·.1)=false:=by rfl) :
 PV X rl (.Call (.Name "repr" p) [e] [] pos) (dJ qr fs):=fI (oS hr.gd hr.units) rS hm (by first|rfl|exact boot_repr) ha hg (by decide) (by decide) he hpl
theorem cE(hm:X.mg "len" = none)(ha:EO X rl [a] fs)(hg:Gl X "len" := by rfl)(he:FU [a] X.env=(false,eval a X.env)::FU [] X.env:=by rfl)(hpl:(Hs pos (FU [] X.env)).any (·.1)=false:=by rfl) :
 PV X rl (.Call (.Name "len" p) [a] [] pos) (dJ xR fs):=fI jq uQ hm boot_len ha hg (by decide) (by decide) he hpl
theorem uZ(hm:X.mg "abs" = none)(ha:EO X rl [a] fs)(hg:Gl X "abs" := by rfl)(he:FU [a] X.env=(false,eval a X.env)::FU [] X.env:=by rfl)(hpl:(Hs pos (FU [] X.env)).any (·.1)=false:=by rfl) :
 PV X rl (.Call (.Name "abs" p) [a] [] pos) (dJ xU fs):=fI qL uR hm (by first|rfl|exact boot_abs) ha hg (by decide) (by decide) he hpl
end
structure FnIn (K:W.Frag) (mg:Str->Option Value) (x:Str) (st:Stmt) (ps:List Str):Prop where
 ex:∃f fd,mg x=some (.ref f)/\Fun K x x st f fd/\Binds K fd ps []
structure Bz (mg:Str->Option Value):Prop where
 int_:mg "int" = none
 bool_:mg "bool" = none
 str_:mg "str" = none
 list_:mg "list" = none
 tuple_:mg "tuple" = none
 dict_:mg "dict" = none
 isinstance_:mg "isinstance" = none
 len_:mg "len" = none
 abs_:mg "abs" = none
 repr_:mg "repr" = none
 range_:mg "range" = none
 all_:mg "all" = none
 any_:mg "any" = none
 sum_:mg "sum" = none
 min_:mg "min" = none
 max_:mg "max" = none
 sorted_:mg "sorted" = none
 zip_:mg "zip" = none
 enumerate_:mg "enumerate" = none
 reversed_:mg "reversed" = none
 divmod_:mg "divmod" = none
 set_:mg "set" = none
section
variable{P:Gi}{w:G5}{K:W.Frag}{mg:Str->Option Value}{base:Heap}{rl:RlT}{x:Str}{st:Stmt}{N ps:List Str}{k:Nat}{Pd:List W->(FH->Prop)->Prop}{t:EB}
theorem Dfn.of(Fn:FnIn K mg x st ps)(S:FnScope N ps (defScope st))(mono:∀ws Q Q',(∀d,Q d->Q' d)->Pd ws Q->Pd ws Q')(len:∀ws Q,Pd ws Q->ws.length=ps.length)
 (hbody:∀{f:Addr}(cdv:Value)(A:Hf)(outer:List Env)(s:FO)(H:Hp)(E:XK),Room k (A.deeper (J_ x (defScope st) s.heap.objs.size f cdv)) ->
  kd (lS Fq P w K mg base N x (defScope st) f cdv A outer s H E).nox rl (defBody st) t)
 (hread:∀ws Q,Pd ws Q->t (lC Q) (cF N ws)):Dfn P w K mg base rl x ps (k+1) Pd:=by
 obtain⟨f,fd,hm,F,hb⟩:=Fn.ex
 exact⟨mono,f,fd,hm,F.kp,hb,Cj F S len hbody hread⟩
end
section
variable{X:Cx}{rl:RlT}{e:Expr}{es:List Expr}{fa fb fc:TV}{fs:EA}{pos p:Pos}
end
def D_(pre:FH->Prop)(f:FH->FH):List W->(FH->Prop)->Prop:=fun ws Q=>∃a,ws=[.d a]/\pre a/\Q (f a)
def D9(pre:FH->FH->Prop)(f:FH->FH->FH):List W->(FH->Prop)->Prop:=fun ws Q=>∃a b,ws=[.d a,.d b]/\pre a b/\Q (f a b)
theorem D_.mono{pre:FH->Prop}{f:FH->FH}:∀ws (Q Q':FH->Prop),(∀d,Q d->Q' d)->D_ pre f ws Q->D_ pre f ws Q':=fun _ _ _ h ⟨a,e,p,q⟩=>⟨a,e,p,h _ q⟩
theorem D9.mono{pre:FH->FH->Prop}{f:FH->FH->FH}:∀ws (Q Q':FH->Prop),(∀d,Q d->Q' d)->D9 pre f ws Q->D9 pre f ws Q':=fun _ _ _ h ⟨a,b,e,p,q⟩=>⟨a,b,e,p,h _ q⟩
theorem D_.len{pre:FH->Prop}{f:FH->FH}:∀ws (Q:FH->Prop),D_ pre f ws Q->ws.length=1:=fun _ _ ⟨a,e,_⟩=>by subst e;rfl
theorem D9.len{pre:FH->FH->Prop}{f:FH->FH->FH}:∀ws (Q:FH->Prop),D9 pre f ws Q->ws.length=2:=fun _ _ ⟨a,b,e,_⟩=>by subst e;rfl
def C_(post:FH->Prop):List W->(FH->Prop)->Prop:=fun ws Q=>ws=[.reel]/\∀d,post d->Q d
theorem C_.mono{post:FH->Prop}:∀ws (Q Q':FH->Prop),(∀d,Q d->Q' d)->C_ post ws Q->C_ post ws Q':=fun _ _ _ h ⟨e,q⟩=>⟨e,fun d hd=>h d (q d hd)⟩
theorem C_.len{post:FH->Prop}:∀ws (Q:FH->Prop),C_ post ws Q->ws.length=1:=fun _ _ ⟨e,_⟩=>by subst e;rfl
def sW:List W->(FH->Prop)->Prop:=fun ws Q=>∃m:Int,ws=[.reel,.d (.int m)]/\0<m/\m<2^60/\∀k:Int,0<=k->k<m->Q (.int k)
theorem sW.mono:∀ws (Q Q':FH->Prop),(∀d,Q d->Q' d)->sW ws Q->sW ws Q':=fun _ _ _ h ⟨m,e,p,z,q⟩=>⟨m,e,p,z,fun k a b=>h _ (q k a b)⟩
theorem sW.len:∀ws (Q:FH->Prop),sW ws Q->ws.length=2:=fun _ _ ⟨m,e,_⟩=>by subst e;rfl
theorem fz_d(x:FH):(W.d x).fz = .d x:=rfl
theorem fz_ml(x:List FH):(W.ml x).fz = .d (.list x):=rfl
theorem fz_pk(x:List FH):(W.pk x).fz = .pk x:=rfl
theorem fz_reel:W.reel.fz = .reel:=rfl
theorem fz_vv(x:V):(W.vv x).fz = .vv x:=rfl
theorem pk_d(x:FH):L2.VL.W.peek (.d x) = .d x:=rfl
theorem pk_ml(x:List FH):L2.VL.W.peek (.ml x) = .pk x:=rfl
theorem pk_reel:L2.VL.W.peek .reel = .reel:=rfl
theorem pk_vv(x:V):L2.VL.W.peek (.vv x) = .vv x:=rfl
theorem dat_d(x:FH):(W.d x).dat=some x:=rfl
theorem dat_ml(x:List FH):(W.ml x).dat=some (.list x):=rfl
theorem dat_pk(x:List FH):(W.pk x).dat=some (.list x):=rfl
theorem isPk_d(x:FH):(W.d x).isPk=false:=rfl
theorem isPk_ml(x:List FH):(W.ml x).isPk=false:=rfl
theorem isPk_reel:W.reel.isPk=false:=rfl
theorem dats_nil:gP []=some []:=rfl
theorem dats_d(x:FH)(r:List W):gP (.d x::r)=(gP r).map (x :: ·):=rfl
theorem arg_d(x:FH):eM (.d x)=true:=rfl
theorem arg_reel:eM .reel=true:=rfl
theorem item_l(xs:List FH)(i:Int):L2.VL.itemAt (.list xs) i=L2.atI xs i:=rfl
theorem item_t(xs:List FH)(i:Int):L2.VL.itemAt (.tuple xs) i=L2.atI xs i:=rfl
theorem len_l(xs:List FH):qb (.list xs)=some xs.length:=rfl
theorem len_t(xs:List FH):qb (.tuple xs)=some xs.length:=rfl
theorem at0{α:Type}(x:α)(r:List α):L2.atI (x::r) 0=some x:=by simp[L2.atI,L2.ixN]
theorem at1{α:Type}(x y:α)(r:List α):L2.atI (x::y::r) 1=some y:=by
 have:(1:Int)<((x::y::r).length:Int):=by simp;omega
 simp only[L2.atI,L2.ixN]
 rw[if_pos (by decide),if_pos this]
 rfl
theorem f_{x y:Int}(h:y≠0):(x.fmod y).natAbs<y.natAbs:=by
 rcases Int.lt_or_gt_of_ne h with hy|hy
 · have h1:=K9 x y
   have e:x.fmod y = -((-x).fmod (-y)):=by
    have:=Int.neg_fmod_neg x y
    omega
   have p:0 < -y:=by omega
   have b1:=HL (-x) p
   have b2:=IH (-x) p
   omega
 · have b1:=HL x hy
   have b2:=IH x hy
   omega
theorem ip(x y:Int):GF y (x.fmod y)=GF x y:=by
 have e:x.fmod y=x+y*(-(x.fdiv y)):=by
  have:=K9 x y
  rw[Int.mul_neg]
  omega
 rw[e,Int.gcd_add_mul_left_right]
 exact Kb y x
theorem eqv_ii(a b:Int):Hi (.int a) (.int b)=(a==b):=by simp[Hi]
theorem shaped_i(a:Int):GC (.int a)=true:=rfl
theorem shaped_b(a:Bool):GC (.bool a)=true:=rfl
def zk:List W->(FH->Prop)->Prop:=fun ws Q=>∃i j:Int,ws=[.d (.int i),.d (.int j)]/\Q (.int (GF i j))
theorem zk.mono:∀ws (Q Q':FH->Prop),(∀d,Q d->Q' d)->zk ws Q->zk ws Q':=fun _ _ _ h ⟨i,j,e,q⟩=>⟨i,j,e,h _ q⟩
theorem zk.len:∀ws (Q:FH->Prop),zk ws Q->ws.length=2:=fun _ _ ⟨_,_,e,_⟩=>by subst e;rfl
theorem dW.of{i j:Int}(h:j≠0)(b:j.natAbs<2^64):dW i j:=⟨h,FN b (FX (by decide) (by decide))⟩
theorem gg:∀ns:List Int,GE (ns.map GA)=true
 | []=>rfl
 | n::ns=>by simp[GE,GY,gg ns]
theorem gO:∀ns:List Int,Go (ns.map GA)=0
 | []=>rfl
 | n::ns=>by simp[Go,GR,gO ns]
theorem shaped_ints(ns:List Int):GC (.list (ns.map .int))=true:=by simp[GC,GY,GR,gg,gO]
theorem uc(ns:List FH):Hi (.list ns) (.list [])=ns.isEmpty:=by cases ns<;>simp[Hi,FH.eqvAll]
theorem t_{a:Int}(h:b≠0):0<(GF a b:Int):=by
 have:=JH a h
 omega
theorem wZ{a:Int}(h:b≠0):(GF a b)<=b.natAbs:=Nat.le_of_dvd (by omega) (Kp a b)
theorem EL.pair{a b:FH}(h:EL (.tuple [a,b])):a.canLay0=true/\b.canLay0=true/\a.depth<=59/\b.depth<=59:=by
 obtain⟨_,c,_⟩:=uD.facts _ h.1
 have d:=h.2.1
 simp[GY,GE]at c
 simp[GR,Go]at d
 exact⟨c.1,c.2,by omega,by omega⟩
def tO:List W->(FH->Prop)->Prop:=fun ws Q=>∃a b:Int,ws=[.d (.int a),.d (.int b)]/\b≠0/\b.natAbs<2^8000 /\
 ∀c,c=(if 0<b then(GF a b:Int)else -(GF a b:Int))->Q (.tuple [.int (a.fdiv c),.int (b.fdiv c)])
theorem tO.mono:∀ws (Q Q':FH->Prop),(∀d,Q d->Q' d)->tO ws Q->tO ws Q':=fun _ _ _ h ⟨a,b,e,p,z,q⟩=>⟨a,b,e,p,z,fun c hc=>h _ (q c hc)⟩
theorem tO.len:∀ws (Q:FH->Prop),tO ws Q->ws.length=2:=fun _ _ ⟨_,_,e,_⟩=>by subst e;rfl
structure Lf (d:FH):Prop where
 nice:uD d
 dep:d.depth<=2
 wt:d.bulk<=2000
theorem Lf.int{i:Int}(h:i.natAbs<2^1000):Lf (.int i) :=
 ⟨K5 h (IU (by decide) (by decide)),by simp[GR],by simp[IL]⟩
theorem Lf.shw(h:Lf d):EL d:=⟨h.nice,by have:=h.dep;omega,by have:=h.wt;omega⟩
theorem EL.t1{a:FH}(ha:Lf a):EL (.tuple [a]):=by
 refine⟨⟨ha.nice,trivial⟩,?_,?_⟩
 · have:=ha.dep;simp[GR,Go];omega
 · have:=ha.wt;simp[IL,HQ];omega
theorem EL.t2{a b:FH}(ha:Lf a)(hb:Lf b):EL (.tuple [a,b]):=by
 refine⟨⟨ha.nice,hb.nice,trivial⟩,?_,?_⟩
 · have:=ha.dep;have:=hb.dep;simp[GR,Go];omega
 · have:=ha.wt;have:=hb.wt;simp[IL,HQ];omega
theorem EL.l2{a b:FH}(ha:Lf a)(hb:Lf b):EL (.list [a,b]):=by
 refine⟨⟨ha.nice,hb.nice,trivial⟩,?_,?_⟩
 · have:=ha.dep;have:=hb.dep;simp[GR,Go];omega
 · have:=ha.wt;have:=hb.wt;simp[IL,HQ];omega
theorem Lf.pair{a:Int}(ha:a.natAbs<2^900)(hb:b.natAbs<2^900):Lf (.tuple [.int a,.int b]):=by
 refine⟨⟨K5 ha (IU (by decide) (by decide)),K5 hb (IU (by decide) (by decide)),trivial⟩,by simp[GR,Go],by simp[IL,HQ]⟩
theorem xw{xs:List α}{k:Int}(h0:0<=k)(h1:k<(xs.length:Int)):∃z,L2.atI xs k=some z/\z∈xs:=by
 obtain⟨n,rfl⟩:=ID h0
 have hn:n<xs.length:=by omega
 exact⟨xs[n],j9 (GB hn),G8 hn⟩
theorem Lf.i{i:Int}(h:i.natAbs<2^250):Lf (.int i):=.int (FN h (FX (by decide) (by decide)))
theorem Lf.p{a:Int}(ha:a.natAbs<2^250)(hb:b.natAbs<2^250):Lf (.tuple [.int a,.int b]):=.pair (FN ha (FX (by decide) (by decide))) (FN hb (FX (by decide) (by decide)))
theorem fM{K:W.Frag}{i:Str}(h:Rep K F v (.str i)):v = .str i:=by cases h;rfl
def xS(neg:Bool):W->W->(W->Prop)->Prop:=fun x y Q=>∃a b:Str,x = .d (.str a)/\y = .d (.str b)/\Q (.d (.bool (if neg then !decide (a=b)else decide (a=b))))
theorem dE:Ey X rl De (xS false):=fun{F H x y wx wy} Qd Q s ra r1 r2 q k=>by
 obtain⟨a,b,rfl,rfl,q⟩:=q
 have e1:=fM r1
 have e2:=fM r2
 subst e1 e2
 have e:decide (V.str a=V.str b)=decide (a=b):=by
  by_cases h:a=b
  · subst h;simp
  · rw[decide_eq_false h,decide_eq_false fun z=>h (by injection z)]
 exact⟨rfl,by rw[e];exact k _ (.d _) _ _ (Grow.refl s ra) (.bl _) trivial q⟩
theorem mC:Ey X rl Db (xS true):=fun{F H x y wx wy} Qd Q s ra r1 r2 q k=>by
 obtain⟨a,b,rfl,rfl,q⟩:=q
 have e1:=fM r1
 have e2:=fM r2
 subst e1 e2
 have e:decide (V.str a=V.str b)=decide (a=b):=by
  by_cases h:a=b
  · subst h;simp
  · rw[decide_eq_false h,decide_eq_false fun z=>h (by injection z)]
 exact⟨rfl,by rw[e];exact k _ (.d _) _ _ (Grow.refl s ra) (.bl _) trivial q⟩
def Bc(K:W.Frag)(rl:RlT)(P:List W->(List FH->Prop)->Prop):Sp:=fun vs H Q _=>∃F ws,bC F H/\EM rl F H/\dU K rl F H vs ws/\ws.all eM=true/\P ws fun xs=>∀v F' H',Grow rl F H F' H'->iE K rl F' H' v xs->dq H v (.ml xs)->Q v H'
def wP(Q:List FH->Prop):VEnds:=⟨fun _=>False,fun w=>∃xs,w = .ml xs/\Q xs,fun _=>False,fun _=>False⟩
structure DfnL (P:Gi) (w:G5) (K:W.Frag) (mg:Str->Option Value) (base:Heap) (rl:RlT) (x:Str) (ps:List Str) (k:Nat) (Pd:List W->(List FH->Prop)->Prop):Prop where
 mono:∀ws Q Q',(∀d,Q d->Q' d)->Pd ws Q->Pd ws Q'
 ex:∃f fd,mg x=some (.ref f)/\W.keepIn K (.ref f)=true/\Binds K fd ps []/\FnOk P w K mg base Fq k f fd ps (Bc K rl Pd)
section
variable{P:Gi}{w:G5}{K:W.Frag}{mg:Str->Option Value}{base:Heap}{rl:RlT}{x:Str}{st:Stmt}{N ps:List Str}{k:Nat}{Pd:List W->(List FH->Prop)->Prop}{t:EB}
theorem DfnL.of(Fn:FnIn K mg x st ps)(S:FnScope N ps (defScope st))(mono:∀ws Q Q',(∀d,Q d->Q' d)->Pd ws Q->Pd ws Q')(len:∀ws Q,Pd ws Q->ws.length=ps.length)
 (hbody:∀{f:Addr}(cdv:Value)(A:Hf)(outer:List Env)(s:FO)(H:Hp)(E:XK),Room k (A.deeper (J_ x (defScope st) s.heap.objs.size f cdv)) ->
  kd (lS Fq P w K mg base N x (defScope st) f cdv A outer s H E).nox rl (defBody st) t)
 (hread:∀ws Q,Pd ws Q->t (wP Q) (cF N ws)):DfnL P w K mg base rl x ps (k+1) Pd:=by
 obtain⟨f,fd,hm,F,hb⟩:=Fn.ex
 refine⟨mono,f,fd,hm,F.kp,hb,?_⟩
 refine F.ok S (fun vs H Q E ⟨F,ws,_,_,r,_,q⟩=>(HC r).trans (len ws _ q)) fun cdv A outer s H vs Q E hr h=>?_
 obtain⟨F,ws,sm,ra,r,ok,q⟩:=h
 obtain⟨T,p,kk⟩:=hbody cdv A outer s H E hr
 refine⟨T,p,kk (dr sm ra r ok) (wP _) _ ⟨fun _ _ _ _ _ _ z=>GZ z,?_,fun _ _ _ _ _ _ z=>GZ z,fun _ _ _ _ _ _ z=>GZ z⟩ (hread ws _ q)⟩
 rintro v w1 F1 H1 g1 r1 n1 ⟨xs,rfl,q1⟩
 exact q1 v F1 H1 g1 r1 n1
end
section
variable{X:Cx}{rl:RlT}{e:Expr}{es:List Expr}{fs:EA}{pos p:Pos}
theorem sP(X:Cx)(rest:List Stmt):ET X rest (fun D σ H=>∀pins s,Inv X pins σ H s->Gb (Gn X.prog X.w) X.A (execs rest X.env) (SP X pins D) X.xe s):=fun pins s σ H D I h=>h pins s I
end
section
variable{X:Cx}{rl:RlT}{a b c e:Expr}{es:List Expr}{fa fb fc:TV}{fs:EA}{pos p:Pos}
def eU:FH->Option (List FH)
 | .list xs=>some xs
 | .tuple xs=>some xs
 | _=>none
theorem seq_l(xs:List FH):eU (.list xs)=some xs:=rfl
theorem seq_t(xs:List FH):eU (.tuple xs)=some xs:=rfl
theorem eU.of{o:Option FH}(h:o=some d)(e:eU d=some xs):o=some (.list xs)\/o=some (.tuple xs):=by
 cases d<;>cases e
 · exact .inl h
 · exact .inr h
def ox:List W->(W->Prop)->Prop:=fun ws Q=>∃w d xs,ws=[w]/\w.dat=some d/\eU d=some xs/\Q (.d (.tuple xs))
theorem qQ:fx X rl (fun xs H Q=>∃p ys,xs=[.ref p]/\((EH X.K H p ys/\∀l,H l=none->Q (.ref l) (Cs H l (.tup ys)))\/(EG X.K H p ys/\Q (.ref p) H))) ox:=fun{F H vs ws} Qd Q s ra r ⟨w,d,xs,ew,ed1,ed2,q⟩ k=>by
 have ed:=eU.of ed1 ed2
 subst ew
 obtain⟨v,rfl,r1⟩:=lY r
 rcases ed with ed|ed
 · obtain⟨a,us,rfl,sq,rs⟩:=r1.items s ed
   refine⟨a,us,rfl,.inl ⟨sq,fun l hl=>?_⟩⟩
   have g:=Grow.data (a:=l) (o:=.tup us) s ra hl
   exact k _ (.d (.tuple xs)) _ _ g (.tup (.inl (.inl av)) (rs.mono g.fs)) trivial q
 · cases w with
   | d y =>
     cases ed
     cases(show Rep X.K F v (.tuple xs)from r1)with
     | tup sq rs=>exact⟨_,_,rfl,.inr ⟨d6 s sq,k _ (.d (.tuple xs)) _ _ (Grow.refl s ra) (.tup sq rs) trivial q⟩⟩
   | ml ys=>cases ed
   | pk ys=>cases ed
   | reel=>cases ed
   | vv u=>cases ed
   | md u=>cases ed
   | mk u=>cases ed
   | lk=>cases ed
   | sc _=>cases ed
   | fd _=>cases ed
   | fw _=>cases ed
   | ft _=>cases ed
   | xc _ _=>cases ed
   | dp _ _=>cases ed
   | nt ds =>
     cases ed
     obtain⟨b,us,rfl,h,q'⟩:=r1
     exact⟨_,_,rfl,.inr ⟨.inl (.inl (s _ _ h)),k _ (.d (.tuple xs)) _ _ (Grow.refl s ra) (.tup (.inl (.inl h)) q') trivial q⟩⟩
theorem jB(hm:X.mg "tuple" = none)(ha:EO X rl [a] fs)(hg:Gl X "tuple" := by rfl)(he:FU [a] X.env=(false,eval a X.env)::FU [] X.env:=by rfl)(hpl:(Hs pos (FU [] X.env)).any (·.1)=false:=by rfl) :
 PV X rl (.Call (.Name "tuple" p) [a] [] pos) (dJ ox fs):=g_ eK qQ hm (by rfl) ha hg (by decide) (by decide) he hpl
def qu:List W->(W->Prop)->Prop:=fun ws Q=>∃w d xs,ws=[w]/\w.dat=some d/\eU d=some xs/\Q (.ml xs)
theorem uP:fx X rl (fun xs H Q=>∃p ys,xs=[.ref p]/\(EH X.K H p ys\/EG X.K H p ys)/\∀l,H l=none->Q (.ref l) (Cs H l (.lst ys))) qu:=fun{F H vs ws} Qd Q s ra r ⟨w,d,xs,ew,ed1,ed2,q⟩ k=>by
 have ed:=eU.of ed1 ed2
 subst ew
 obtain⟨v,rfl,r1⟩:=lY r
 rcases ed with ed|ed
 · obtain⟨a,us,rfl,sq,rs⟩:=r1.items s ed
   exact⟨a,us,rfl,.inl sq,fun l hl=>k _ (.ml xs) _ _ (Grow.laid s ra hl) (cC s ra hl rs) (fun a ea=>by cases ea;exact hl) q⟩
 · obtain⟨a,us,rfl,sq,rs⟩:=r1.itemsT s ed
   exact⟨a,us,rfl,.inr sq,fun l hl=>k _ (.ml xs) _ _ (Grow.laid s ra hl) (cC s ra hl rs) (fun a ea=>by cases ea;exact hl) q⟩
theorem gY(hm:X.mg "list" = none)(ha:EO X rl [a] fs)(hg:Gl X "list" := by rfl)(he:FU [a] X.env=(false,eval a X.env)::FU [] X.env:=by rfl)(hpl:(Hs pos (FU [] X.env)).any (·.1)=false:=by rfl) :
 PV X rl (.Call (.Name "list" p) [a] [] pos) (dJ qu fs):=g_ jp uP hm (by rfl) ha hg (by decide) (by decide) he hpl
end
section
variable{X:Cx}{rl:RlT}
end
section
variable{X:Cx}{rl:RlT}{a b c e:Expr}{es:List Expr}{fa fb fc:TV}{fs:EA}{pos p p2:Pos}
def D7(f:Int->Int->FH):List W->(W->Prop)->Prop:=fun ws Q=>∃i j,ws=[.d (.int i),.d (.int j)]/\Q (.d (f i j))
theorem x5{f:Int->Int->V}{g:Int->Int->FH}(h:∀K F i j,Rep K F (f i j) (g i j)):fx X rl (fun xs H Q=>∃i j,xs=[.int i,.int j]/\Q (f i j) H) (D7 g):=fun{F H vs ws} Qd Q s ra r ⟨i,j,ew,q⟩ k=>by
 subst ew
 obtain⟨v,u,rfl,r1,r2⟩:=yI r
 have e1:=aP r1
 have e2:=aP r2
 subst e1 e2
 exact⟨i,j,rfl,k _ (.d _) _ _ (Grow.refl s ra) (h _ _ i j) trivial q⟩
theorem mI(hm:X.mg "max" = none)(ha:EO X rl [a,b] fs)(hc:X.calm=true:=by rfl)(hg:Gl X "max" := by rfl)(he:FU [a,b] X.env=(false,eval a X.env)::FU [b] X.env:=by rfl)(hpl:(Hs pos (FU [b] X.env)).any (·.1)=false:=by rfl) :
 PV X rl (.Call (.Name "max" p) [a,b] [] pos) (dJ (D7 fun i j=>.int (max i j)) fs) :=
 fI (oT hc) (x5 (f:=fun i j=>.int (if j>i then j else i)) fun _ _ i j=>(show(if j>i then j else i)=max i j by split<;>omega) ▸ .int _) hm (by rfl) ha hg (by decide) (by decide) he hpl
def qv:List W->(W->Prop)->Prop:=fun ws Q=>(∃i,ws=[.d (.int i)]/\Q (.d (.int i)))\/∃k:Bool,ws=[.d (.bool k)]/\Q (.d (.int (if k then 1 else 0)))
theorem rT:fx X rl (fun xs H Q=>(∃i,xs=[.int i]/\Q (.int i) H)\/∃k,xs=[.bl k]/\Q (.int (if k then 1 else 0)) H) qv:=fun{F H vs ws} Qd Q s ra r h k=>by
 rcases h with⟨i,ew,q⟩|⟨i,ew,q⟩
 · subst ew
   obtain⟨v,rfl,r1⟩:=lY r
   have e1:=aP r1
   subst e1
   exact .inl ⟨i,rfl,k _ (.d _) _ _ (Grow.refl s ra) (.int _) trivial q⟩
 · subst ew
   obtain⟨v,rfl,r1⟩:=lY r
   have e1:=eV r1
   subst e1
   exact .inr ⟨i,rfl,k _ (.d _) _ _ (Grow.refl s ra) (.int _) trivial q⟩
theorem qS(hm:X.mg "int" = none)(ha:EO X rl [a] fs)(hg:Gl X "int" := by rfl)(he:FU [a] X.env=(false,eval a X.env)::FU [] X.env:=by rfl)(hpl:(Hs pos (FU [] X.env)).any (·.1)=false:=by rfl) :
 PV X rl (.Call (.Name "int" p) [a] [] pos) (dJ qv fs):=g_ oU rT hm (by rfl) ha hg (by decide) (by decide) he hpl
def DU(C:Int->Int->Prop)(f:Int->Int->Int):ED:=fun x y H Q=>∃i j,x = .int i/\y = .int j/\C i j/\Q (.int (f i j)) H
theorem t3:EW X .Mult (DU aZ fun i j=>i*j):=by
 intro pins s σ H x y v u Q I r1 r2 h
 obtain⟨i,j,e1,e2,hc,q⟩:=h
 subst e1;subst e2
 obtain⟨t,rfl⟩:=r1
 obtain⟨t',rfl⟩:=r2
 exact imul_int ⟨.int _,H,I.tok _,⟨_,rfl⟩,q⟩ hc.ok
def yl(i:Nat)(C:Int->Int->Prop)(f:Int->Int->Int)(fa:TV):EB:=fun D ρ=>∃n,ρ[i]?=some (some (.d (.int n)))/\fa ρ fun w=>∃m,w = .d (.int m)/\C n m/\D.nx (ρ.set i (some (.d (.int (f n m)))))
theorem uL(i:Nat){op:LS}{C:Int->Int->Prop}{f:Int->Int->Int}(hN:X.N.Nodup)(ho:EW X op (DU C f))(he:PV X rl e fa)(hi:X.N[i]?=some x:=by rfl)(hx:Loc X.env.scope x:=by first|exact Ix rfl|exact HN rfl)
 (hf:X.fn x=true\/X.env.scope.names.lookup x=some .local:=by first|exact .inl rfl|exact .inr rfl):EU X rl (.AugAssign (.Name x pos') op e pos) (yl i C f fa):=by
 obtain⟨t,p,k⟩:=he
 refine⟨_,v4 hN hi hx p ho hf,fun R Dv D ok ⟨n,e1,q⟩=>?_⟩
 obtain⟨v,s1,r1,_⟩:=R.sl i _ e1
 have ev:=aP r1
 subst ev
 refine⟨_,s1,k R _ _ q fun v w F1 H1 g1 r1 n1 ⟨m,ew,hc,q1⟩=>?_⟩
 subst ew
 have ev:=aP r1
 subst ev
 exact⟨n,m,rfl,rfl,hc,ok.nx _ _ _ _ g1.fs (R.set g1 (v:=.int (f n m)) (w:=.d (.int (f n m))) (.int _) trivial (fun _ z=>by cases z) i) q1⟩
def cutD(xs:List FH)(lo hi:Option Int):List FH:=(xs.drop (HT.sIx xs.length 0 lo)).take (HT.sIx xs.length xs.length hi-HT.sIx xs.length 0 lo)
theorem Reps.cut{K:W.Frag}{ds:List FH}(r:Reps K F vs ds)(lo hi:Option Int):Reps K F (qF vs lo hi) (cutD ds lo hi):=by
 unfold qF cutD
 rw[r.length]
 exact(r.drop _).take _
abbrev EC:=En->(Option Int->Prop)->Prop
def EQ(X:Cx)(rl:RlT)(o:Option Expr)(f:EC):Prop:=∃t,PO X o t/\∀{F₀ H₀ F H:Hp}{σ:St}{ρ:En},VR X.K rl F₀ H₀ F H σ ρ->∀(Qd:Option Int->Prop)(Q:Option Int->Hp->Prop),f ρ Qd ->
 (∀o F' H',Grow rl F H F' H'->Qd o->Q o H')->t σ H Q
def Dr:EC:=fun _ Q=>Q none
def Ds(fa:TV):EC:=fun ρ Q=>fa ρ fun w=>∃i,w = .d (.int i)/\Q (some i)
theorem fG:EQ X rl none Dr:=⟨_,sU,fun R Qd Q q k=>k _ _ _ (Grow.refl R.sub R.reel) q⟩
theorem fF(h:PV X rl e fa):EQ X rl (some e) (Ds fa):=by
 obtain⟨t,p,k⟩:=h
 refine⟨_,sT p,fun R Qd Q q h=>k R _ _ q fun v w F1 H1 g1 r1 n1 ⟨i,ew,q1⟩=>?_⟩
 subst ew
 exact⟨i,aP r1,h _ F1 H1 g1 q1⟩
def yb(fa:TV)(fl fh:EC):TV:=fun ρ Q=>fa ρ fun w=>fl ρ fun l=>fh ρ fun h=>∃xs,w.dat=some (.list xs)/\Q (.ml (cutD xs l h))
theorem uV{lo hi:Option Expr}{fl fh:EC}(ha:PV X rl a fa)(hl:EQ X rl lo fl)(hh:EQ X rl hi fh):PV X rl (.Subscript a (.Slice lo hi none p2) pos) (yb fa fl fh):=by
 obtain⟨t,p,k⟩:=ha
 obtain⟨tl,pl,kl⟩:=hl
 obtain⟨th,ph,kh⟩:=hh
 refine⟨_,ij m9 p pl ph,fun R Qd Q q h=>k R _ _ q fun v w F1 H1 g1 r1 n1 q1=>?_⟩
 refine kl (R.grow g1) _ _ q1 fun l F2 H2 g2 q2=>kh ((R.grow g1).grow g2) _ _ q2 fun u F3 H3 g3 q3=>?_
 obtain⟨xs,ed,q3⟩:=q3
 have r3:=(r1.grow g2).grow g3
 obtain⟨a,vs,rfl,sq,rs⟩:=r3.items g3.sub ed
 have g:=(g1.trans g2).trans g3
 exact⟨a,vs,rfl,sq,fun p hp=>h _ (.ml _) _ _ (g.trans (Grow.laid g3.sub g3.reel hp)) (cC g3.sub g3.reel hp (rs.cut l u)) (fun a ea=>by cases ea;exact g.freeB hp) q3⟩
def qx:W->W->(W->Prop)->Prop:=fun x y Q=>∃xs ys,x.dat=some (.list xs)/\y.dat=some (.list ys)/\xs.length+ys.length<=sizeLine/\Q (.ml (xs++ys))
theorem cQ.lst{K:W.Frag}{F H:Hp}{v:V}{w:W}{xs:List FH}(s:bC F H)(r:cQ K rl F H v w)(e:w.dat=some (.list xs)):∃a vs,v = .ref a/\H a=some (.lst vs)/\Reps K F vs xs:=by
 have own:iE K rl F H v xs->∃a vs,v = .ref a/\H a=some (.lst vs)/\Reps K F vs xs:=fun⟨a,vs,e1,_,_,e2,e3⟩=>⟨a,vs,e1,e2,e3⟩
 cases w with
 | d y =>
   cases e
   cases(show Rep K F v (.list xs)from r)with
   | lst h q=>exact⟨_,_,rfl,s _ _ h,q⟩
 | ml ys=>cases e;exact own r
 | pk ys=>cases e;exact own r
 | reel=>cases e
 | vv u=>cases e
 | md u=>cases e
 | mk u=>cases e
 | nt u=>cases e
 | lk=>cases e
 | sc _=>cases e
 | fd _=>cases e
 | fw _=>cases e
 | ft _=>cases e
 | xc _ _=>cases e
 | dp _ _=>cases e
theorem rP:Ey X rl AU qx:=fun{F H x y wx wy} Qd Q s ra r1 r2 q k=>by
 obtain⟨xs,ys,e1,e2,z,q⟩:=q
 obtain⟨a,vs,rfl,h1,q1⟩:=r1.lst s e1
 obtain⟨b,us,rfl,h2,q2⟩:=r2.lst s e2
 refine⟨a,b,vs,us,rfl,rfl,h1,h2,by rw[q1.length,q2.length];exact z,fun p hp=>?_⟩
 exact k _ (.ml _) _ _ (Grow.laid s ra hp) (cC s ra hp (q1.append q2)) (fun a ea=>by cases ea;exact hp) q
theorem iQ(ha:PV X rl a fa)(hb:PV X rl b fb):PV X rl (.BinOp a .Add b pos) (Cq qx fa fb):=ja wD rP ha hb
structure GlD (K:W.Frag) (mg:Str->Option Value) (x:Str) (d:FH):Prop where
 ex:∃v u,mg x=some u/\RelV v u/\∀F,Rep K F v d
theorem dG(G:GlD X.K X.mg x d)(hg:Gl X x:=by rfl)(hd:(x==("__debug__" : Str))=false:=by decide):PV X rl (.Name x pos) (vC d):=by
 obtain⟨v,u,h1,h2,h3⟩:=G.ex
 exact sL h1 h2 h3 hg hd
structure GlK (K:W.Frag) (x:Str) (d:FH):Prop where
 ex:∃v u,W.nsIn K GQ x=some (some u)/\RelV v u/\∀F,Rep K F v d
theorem GlK.of{K:W.Frag}(k:GlK K x d)(Y:K.In h)(G:h.Ns GQ mg):GlD K mg x d:=by
 obtain⟨v,u,h1,h2,h3⟩:=k.ex
 exact⟨v,u,W.mg_of Y G h1,h2,h3⟩
end
end L2.VL
namespace L2
section
variable{X:Cx}{a b:Expr}{ta:TA}{p q pos pos2:Pos}
theorem gK{α β:Type}{R:α->β->Prop}:∀{xs:List α}{ys:List β},xs.length=ys.length->(∀(i:Nat) x y,xs[i]?=some x->ys[i]?=some y->R x y)->Hv R xs ys
 | [],[],_,_=>.nil
 | x::xs,y::ys,hl,h=>.cons (h 0 x y rfl rfl) (gK (by simpa using hl) fun i x y e1 e2=>h (i+1) x y (by simpa using e1) (by simpa using e2))
 | [],_::_,hl,_=>by simp at hl
 | _::_,[],hl,_=>by simp at hl
def eB(lo:Int)(n:Nat):List V:=(G9 n).map fun(i:Nat)=>V.int (lo+i)
theorem dX{lo:Int}{acc:Array Value}(h:Mt (fun i v=>∃t,v = .int (lo+i*1) t) acc n):cj (eB lo n) acc.toList:=by
 obtain⟨h1,h2⟩:=h
 refine gK ?_ ?_
 · simp[eB,h1]
 · intro i v u e1 e2
   unfold eB at e1
   rw[G_]at e1
   obtain⟨t,e4⟩:=h2 i u (by simpa using e2)
   by_cases hi:i<n
   · rw[GB (by simpa using hi)]at e1
     simp at e1
     subst e1
     exact⟨t,by rw[e4];simp⟩
   · rw[K6 (by simpa using hi)]at e1
     cases e1
theorem lP{Q:VK}{lo hi:Int}{t u v:Tok}{tk:Nat}(hc:X.calm=true)(I:Inv X pins σ H s)(h1 : -(2^62)<=lo)(h2:lo<2^62)(h3 : -(2^62)<=hi)(h4:hi<2^62)(h5:(hi-lo).toNat<=2^24)
 (q:∀l,H l=none->Q (.ref l) (Cs H l (.lst (eB lo (hi-lo).toNat)))):Gb (Gn X.prog X.w) X.A (call (.type "list") [.ref s.heap.objs.size]) (EP X pins σ Q) X.xe {s with heap:=s.heap.push {cls:=.type "range", data:=.fields #[.int lo t,.int hi u,.int 1 v]},toks:=tk}:=by
 have I1:Inv X pins σ H {s with heap:=s.heap.push {cls:=.type "range", data:=.fields #[.int lo t,.int hi u,.int 1 v]},toks:=tk}:=I.kept fun b o e=>FM _ e
 refine call_list_range (n:=(hi-lo).toNat) (I.ok.hd hc) (Mq ..) (small_one h1 h2 h3 h4) (by rw[LV];split<;>omega) h5 fun h' tk acc c hk hn hi=>?_
 have hv:=dX hi
 refine⟨.ref _,_,I1.laid (t':=tk) hk (FQ _) (show cH X.prog X.w _ h' _ (.lst _)from⟨?_,acc.toList,c,hv,by rw[IV];exact hn⟩),rfl,q _ (I1.hok.fresh (FQ _))⟩
 show(eB lo _).length<=sizeLine
 rw[eB,FR,List.length_range]
 exact GI h5 (by decide)
def Bm(ta:TA):TE:=fun σ H Q=>ta σ H fun vs H1=>∃j:Int,vs=[.int j]/\(-(2^62)<=j/\j<2^62)/\j.toNat<=2^24/\∀l,H1 l=none->Q (.ref l) (Cs H1 l (.lst (eB 0 j.toNat)))
theorem lN(hc:X.calm=true)(hl:Gl X "list")(hml:X.mg "list" = none)(hg:Gl X "range")(hm:X.mg "range" = none)(ha:PA X [a] ta)(hs:FU [a] X.env=[(false,eval a X.env)]:=by rfl)
 (he:FU [.Call (.Name "range" p) [a] [] pos2] X.env=(false,eval (.Call (.Name "range" p) [a] [] pos2) X.env)::FU [] X.env:=by rfl)(hpl:(Hs pos (FU [] X.env)).any (·.1)=false:=by rfl) :
 PE X (.Call (.Name "list" q) [.Call (.Name "range" p) [a] [] pos2] [] pos) (Bm ta):=by
 intro pins s σ H Q I h
 refine Il (dm I hl hml (by rfl) ?_ (by decide) (by decide))
 refine GN ?_ he hpl
 rw[he]
 show Gb _ _ (spliced ((false,eval (.Call (.Name "range" p) [a] [] pos2) X.env)::Hs pos (FU [] X.env))) _ _ s
 refine J9 ?_
 refine Call_ (dm I hg hm L9 (GN (CF (ha pos2 pins s σ H _ I h) fun us s1 ⟨vs,H1,I1,r1,q1⟩=>?_) hs rfl))
 obtain⟨j,e,⟨h3,h4⟩,h5,q1⟩:=q1
 subst e
 cases r1 with
 | cons r rr =>
   cases rr
   obtain⟨t,rfl⟩:=r
   exact Mf (Kj (lP hc I1 (by omega) (by omega) h3 h4 (by simpa using h5) (by simpa using q1)))
end
end L2
namespace L2.VL
section
variable{X:Cx}{rl:RlT}{a b c e:Expr}{es:List Expr}{fa fb fc:TV}{fs:EA}{pos pos2 p q:Pos}
theorem gG{K:W.Frag}(lo:Int)(n:Nat):Reps K F (eB lo n) (aV lo n):=by
 unfold eB aV
 generalize G9 n=l
 induction l with
 | nil=>exact .nil
 | cons x l ih=>exact .cons (.int _) ih
def AJ(fs:EA):TV:=fun ρ Q=>fs ρ fun ws=>∃j:Int,ws=[.d (.int j)]/\(-(2^62)<=j/\j<2^62)/\j.toNat<=2^24/\Q (.ml (aV 0 j.toNat))
theorem iO(hml:X.mg "list" = none)(hm:X.mg "range" = none)(ha:EO X rl [a] fs)(hc:X.calm=true:=by rfl)(hl:Gl X "list" := by rfl)(hg:Gl X "range" := by rfl)(hs:FU [a] X.env=[(false,eval a X.env)]:=by rfl)
 (he:FU [.Call (.Name "range" p) [a] [] pos2] X.env=(false,eval (.Call (.Name "range" p) [a] [] pos2) X.env)::FU [] X.env:=by rfl)(hpl:(Hs pos (FU [] X.env)).any (·.1)=false:=by rfl) :
 PV X rl (.Call (.Name "list" q) [.Call (.Name "range" p) [a] [] pos2] [] pos) (AJ fs):=by
 obtain⟨t,p1,k⟩:=ha
 refine⟨_,lN hc hl hml hg hm p1 hs he hpl,fun R Qd Q q h=>k R _ _ q fun vs ws F1 H1 g1 r1 ⟨j,ew,z,y,q1⟩=>?_⟩
 subst ew
 obtain⟨v,rfl,rv⟩:=lY r1
 have e1:=aP rv
 subst e1
 exact⟨j,rfl,z,y,fun l hl=>h _ (.ml _) _ _ (g1.trans (Grow.laid g1.sub g1.reel hl)) (cC g1.sub g1.reel hl (gG _ _)) (fun a ea=>by cases ea;exact g1.freeB hl) q1⟩
theorem Reps.erase{K:W.Frag}{F:Hp}:∀{vs:List V}{ds:List FH}(n:Nat),Reps K F vs ds->Reps K F (vs.eraseIdx n) (ds.eraseIdx n)
 | _,_,_,.nil=>by simp;exact .nil
 | _,_,0,.cons h r=>r
 | _,_,n+1,.cons h r=>.cons h (Reps.erase n r)
end
structure Sm (dp bk:Nat) (d:FH):Prop where
 nice:uD d
 dep:d.depth<=dp
 blk:d.bulk<=bk
theorem gL:∀{xs:List FH},(∀d∈xs,uD d)->eT xs
 | [],_=>trivial
 | x::xs,h=>⟨h x FT,gL fun d hd=>h d (FP _ hd)⟩
theorem ga{k:Nat}:∀{xs:List FH},(∀d∈xs,d.depth<=k)->Go xs<=k+1
 | [],_=>by simp[Go]
 | x::xs,h=>by
   have h1:=h x FT
   have h2:=ga (k:=k) (xs:=xs) fun d hd=>h d (FP _ hd)
   simp only[Go]
   omega
theorem gS{k:Nat}:∀{xs:List FH},(∀d∈xs,d.bulk<=k)->HQ xs<=(k+1)*xs.length
 | [],_=>by simp[HQ]
 | x::xs,h=>by
   have h1:=h x FT
   have h2:=gS (k:=k) (xs:=xs) fun d hd=>h d (FP _ hd)
   simp only[HQ,Gp,Nat.mul_succ]
   omega
theorem Sm.seq{dp bk:Nat}(h:∀d∈xs,Sm dp bk d)(hl:xs.length<=n):Sm (dp+2) ((bk+1)*n) (.tuple xs)/\Sm (dp+2) ((bk+1)*n) (.list xs):=by
 have a:=gL fun d hd=>(h d hd).nice
 have b:=ga fun d hd=>(h d hd).dep
 have c:HQ xs<=(bk+1)*n:=GI (gS fun d hd=>(h d hd).blk) (Nat.mul_le_mul_left _ hl)
 refine⟨⟨a,?_,c⟩,⟨a,?_,c⟩⟩<;>simp only[GR]<;>omega
theorem Sm.shw{dp bk:Nat}(h:Sm dp bk d)(h1:dp<=60)(h2:bk<=8000):EL d:=⟨h.nice,by have:=h.dep;omega,by have:=h.blk;omega⟩
theorem Sm.int{i:Int}(h:i.natAbs<2^1000):Sm 0 0 (.int i):=⟨(Lf.int h).nice,by simp[GR],by simp[IL]⟩
theorem Sm.bool{b:Bool}:Sm 0 0 (.bool b):=⟨trivial,by simp[GR],by simp[IL]⟩
theorem Sm.none:Sm 0 0 .none:=⟨trivial,by simp[GR],by simp[IL]⟩
theorem Sm.mono{dp bk dp' bk':Nat}(h:Sm dp bk d)(h1:dp<=dp')(h2:bk<=bk'):Sm dp' bk' d:=⟨h.nice,GI h.dep h1,GI h.blk h2⟩
theorem Sm.pair{a:Int}(ha:a.natAbs<2^1000)(hb:b.natAbs<2^1000):Sm 2 2 (.tuple [.int a,.int b]) :=
 (Sm.seq (dp:=0) (bk:=0) (n:=2) (xs:=[.int a,.int b]) (fun d hd=>by
  rcases Gh.mp hd with rfl|hd
  · exact Sm.int ha
  · rcases Gh.mp hd with rfl|hd
    · exact Sm.int hb
    · cases hd) (FQ _)).1
theorem EL.refl(h:EL d):Hi d d=true:=SeqAt.eqv_refl d (uD.facts d h.1).2.1
end L2.VL
namespace L2
section
variable{X:Cx}{tg e:Expr}{ta te:TE}{p p2 pos:Pos}
end
end L2
namespace L2.VL
section
variable{X:Cx}{rl:RlT}{a b c e tg:Expr}{es:List Expr}{fa fb fc:TV}{fs:EA}{pos pos2 p p2 q:Pos}
end
end L2.VL
namespace L2
section
variable{X:Cx}
end
end L2
namespace L2.VL
section
variable{X:Cx}{rl:RlT}{a b c e:Expr}{es:List Expr}{fa fb fc:TV}{fs:EA}{pos p p2:Pos}
end
end L2.VL
namespace L2.TM
section
variable{prog:Gi}{w:G5}{A:Hf}{E:Value->FO->Prop}{s:FO}{k:Int}{t:Tok}{l:Addr}{its:Array Value}
end
end L2.TM
namespace L2
section
variable{X:Cx}
end
end L2
namespace L2.VL
section
variable{X:Cx}{rl:RlT}{a b c e:Expr}{es:List Expr}{fa fb fc:TV}{fs:EA}{pos p p2:Pos}
theorem Reps.repl{K:W.Frag}{F:Hp}{vs:List V}{ds:List FH}(r:Reps K F vs ds):∀n:Nat,Reps K F (GU n vs).flatten (GU n ds).flatten
 | 0=>.nil
 | n+1=>by rw[JT,JT,List.flatten_cons,List.flatten_cons];exact r.append (Reps.repl r n)
def zr:W->W->(W->Prop)->Prop:=fun x y Q=>∃xs ys,x = .d (.tuple xs)/\y = .d (.tuple ys)/\xs≠[]/\xs.length+ys.length<=sizeLine/\Q (.d (.tuple (xs++ys)))
theorem rO:Ey X rl (sI X.K) zr:=fun{F H x y wx wy} Qd Q s ra r1 r2 q k=>by
 obtain⟨xs,ys,rfl,rfl,hne,hz,q⟩:=q
 cases(show Rep X.K F x (.tuple xs)from r1)with
 | @tup a vs _ sq rs =>
   cases(show Rep X.K F y (.tuple ys)from r2)with
   | @tup b us _ sq2 rs2 =>
     refine⟨a,b,vs,us,rfl,rfl,d6 s sq,d6 s sq2,fun z=>hne ?_,by rw[rs.length,rs2.length];exact hz,fun e=>?_,fun e p hp=>?_⟩
     · subst z;cases rs;rfl
     · subst e
       cases rs2
       rw[Ht]at q
       exact k _ (.d (.tuple xs)) _ _ (Grow.refl s ra) (.tup sq rs) trivial q
     · have g:=Grow.data (a:=p) (o:=.tup (vs++us)) s ra hp
       exact k _ (.d _) _ _ g (.tup (.inl (.inl av)) ((rs.append rs2).mono g.fs)) trivial q
end
end L2.VL
namespace L2
section
variable{X:Cx}
theorem Room.u65{k:Nat}(r:Room k A):A.units+65<LW:=by have:=r.un;omega
def vQ(K:W.Frag):R2:=fun x y H Q=>∃a b ys,x = .ref a/\y = .ref b/\EG K H a []/\EG K H b ys/\Q (.ref b) H
theorem tI:E3 X (IP .Add) (vQ X.K):=by
 intro pins s σ H x y v u Q I rx ry h
 obtain⟨a,b,ys,rfl,rfl,ha,hb,q⟩:=h
 cases rx
 cases ry
 obtain⟨its,r1,p1,_⟩:=I.tuple ha
 obtain⟨its2,r2,p2,_⟩:=I.tuple hb
 cases r1
 obtain⟨⟨c1,d1,e1,sl1⟩,ho,hc,n,hd⟩:=p1
 obtain⟨⟨c2,d2,e2,sl2⟩,ho2,hc2,n2,hd2⟩:=p2
 cases hc;cases hd;cases hc2;cases hd2
 exact Mh ⟨_,ho,rfl⟩ ⟨_,ho2,rfl⟩ KL LY Js Jm (Jj _ _)
  (tuple_addW0 a b _ its2.toArray n n2 d1 d2 sl1 sl2 rfl) ⟨ho,ho2,⟨.ref b,H,I,rfl,q⟩⟩
def vP(K:W.Frag):R2:=fun x y H Q=>sI K x y H Q\/vQ K x y H Q
theorem tH:E3 X (IP .Add) (vP X.K):=fun pins s σ H x y v u Q I rx ry h=>h.elim (tG pins s σ H x y v u Q I rx ry) (tI pins s σ H x y v u Q I rx ry)
section
variable{prog:Gi}{w:G5}{A:Hf}{E:Value->FO->Prop}{s:FO}
end
theorem lA{vs:List Value}(h:JN vs ns):cj (ns.map V.int) vs:=by
 induction h with
 | nil=>exact .nil
 | cons n t r ih=>exact .cons ⟨t,rfl⟩ ih
end
end L2
namespace L2.VL
section
variable{X:Cx}{rl:RlT}{a b c e:Expr}{es:List Expr}{fa fb fc:TV}{fs:EA}{pos p p2:Pos}
def qy:W->W->(W->Prop)->Prop:=fun x y Q=>∃xs ys,x = .d (.tuple xs)/\y = .d (.tuple ys)/\xs.length+ys.length<=sizeLine/\Q (.d (.tuple (xs++ys)))
theorem rQ:Ey X rl (vP X.K) qy:=fun{F H x y wx wy} Qd Q s ra r1 r2 q k=>by
 obtain⟨xs,ys,rfl,rfl,hz,q⟩:=q
 by_cases hx:xs=[]
 · subst hx
   cases(show Rep X.K F x (.tuple [])from r1)with
   | @tup a vs _ sq rs =>
     cases rs
     cases(show Rep X.K F y (.tuple ys)from r2)with
     | @tup b us _ sq2 rs2=>exact .inr ⟨a,b,us,rfl,rfl,d6 s sq,d6 s sq2,k _ (.d (.tuple ys)) _ _ (Grow.refl s ra) (.tup sq2 rs2) trivial q⟩
 · exact .inl (rO Qd Q s ra r1 r2 ⟨xs,ys,rfl,rfl,hx,hz,q⟩ k)
theorem mJ(ha:PV X rl a fa)(hb:PV X rl b fb):PV X rl (.BinOp a .Add b pos) (Cq qy fa fb):=ja tH rQ ha hb
theorem ie{K:W.Frag}{F:Hp}:∀{vs:List V}{ns:List Int},Reps K F vs (ns.map .int)->vs=ns.map V.int
 | _,[],h=>h.nil_iff
 | _,n::ns,.cons h r=>by rw[aP h,ie r];rfl
theorem lh{K:W.Frag}{F:Hp}:∀{ns:List Int},Reps K F (ns.map V.int) (ns.map .int)
 | []=>.nil
 | n::ns=>.cons (.int n) lh
end
end L2.VL
namespace L2.TO
section
variable{prog:Gi}{w:G5}{A:Hf}{E:Value->FO->Prop}{s:FO}
theorem j6{Q:List Value->FO->Prop}{r:Addr}{a:Int}{t u v:Tok}(hh:A.handled=none)(hr:MG s.heap r a b c t u v)(hsmall:JU a b c=true)
 (hn:IB a b c=n)(hlen:n<=2^24)
 (hQ:∀h' tk acc,(∀b o,s.heap.get? b=some o->h'.get? b=some o)->Mt (fun i v=>∃t,v = .int (a+i*c) t) acc n->Q acc.toList {s with heap:=h',toks:=tk}) :
 Gb (Gn prog w) A (collect (.ref r)) Q E s:=by
 have hS:(s.heap.push {cls:=.type "list", data:=.seq ([]:List Value).toArray}).get? s.heap.objs.size=some {cls:=.type "list", data:=.seq #[]}:=FY _ rfl
 have fin':∀(h':Heap)(tk:Nat)(acc:Array Value)(c':Nat),(∀b o,b≠s.heap.objs.size->(s.heap.push {cls:=.type "list", data:=.seq ([]:List Value).toArray}).get? b=some o->h'.get? b=some o)->h'.get? s.heap.objs.size=some {cls:=.type "list", dict:=none,data:=.seq acc c',slots:=#[]} ->
  Mt (fun i v=>∃t,v = .int (a+i*c) t) acc n->Gb (Gn prog w) A (match Ia s.heap.objs.size with
  | Ia a=>do
    match(<- load a).data with
     | Data.seq xs _=>pure xs.toList
     | _=>unsupported "internal:collect"
  | _=>unsupported "internal:collect") Q E {s with heap:=h',toks:=tk}:=fun h' tk acc c' hk hS' hacc=>by
  exact FI (m:=load s.heap.objs.size) (wpAny_load hS' (FS (hQ h' tk acc (fun b o e=>hk b o (Gx (FW e)) (FM _ e)) hacc)))
 unfold collect;refine FI (wpAny_runValue (Jp F.entry_proto_collect ?_));rw[Ir F.plain_proto_collect _]
 refine FI (m:=newList []) (GP (FS ⟨Jq F.plain_list_iadd _,Jp F.entry_list_iadd ?_⟩));rw[Ir F.plain_list_iadd _]
 refine Gr (wpAny_extend_range (s:={s with heap:=s.heap.push {cls:=.type "list", data:=.seq ([]:List Value).toArray}})
  (R:=fun r s'=>r = .ok (.ret (.ref s.heap.objs.size))/\∃(h':Heap)(tk:Nat)(acc:Array Value)(c':Nat),s'={s with heap:=h',toks:=tk}/\(∀b o,b≠s.heap.objs.size->(s.heap.push {cls:=.type "list", data:=.seq ([]:List Value).toArray}).get? b=some o->h'.get? b=some o)/\h'.get? s.heap.objs.size=some {cls:=.type "list", dict:=none,data:=.seq acc c',slots:=#[]}/\Mt (fun i v=>∃t,v = .int (a+i*c) t) acc n)
  hh (show MG _ r a b c t u v from FM _ hr) hsmall hn hlen s.heap.objs.size (.ref s.heap.objs.size) 0 hS fun h' tk acc c' hk hS' hacc=>⟨rfl,h',tk,acc,c',rfl,hk,hS',hacc⟩) (fun fin s' h=>?_) (fun e s' h=>?_)
 · cases fin with
   | done f =>
     obtain⟨e,h',tk,acc,c',rfl,hk,hS',hacc⟩:=h
     cases e
     exact fin' h' tk acc c' hk hS' hacc
   | again c'=>exact⟨h.1,JB h.2 fun r s'' hr=>by obtain⟨rfl,h',tk,acc,c',rfl,hk,hS',hacc⟩:=hr;exact fin' h' tk acc c' hk hS' hacc⟩
 · exact absurd h.1 (by simp)
theorem jn{Q₁:Value->FO->Prop}{r:Addr}{a:Int}{t u v:Tok}(hh:A.handled=none)(hr:MG s.heap r a b c t u v)(hsmall:JU a b c=true)
 (hn:IB a b c=n)(hlen:n<=2^24)
 (h:∀(h':Heap)(tk:Nat)(acc:Array Value),(∀b o,s.heap.get? b=some o->h'.get? b=some o)->Mt (fun i v=>∃t,v = .int (a+i*c) t) acc n->Q₁ (.ref h'.objs.size) {s with heap:=h'.push {cls:=.type "tuple", data:=.seq acc},toks:=tk}) :
 HY (Gn prog w) A (.call (.builtin "tuple.__new__") ⟨[.type "tuple", .ref r],[]⟩) (wants Q₁ E) s:=by
 refine codeAny_of_tree ?_
 show Gb _ A.in1 (do checkBuiltinCall "tuple.__new__" ⟨[.type "tuple", .ref r],[]⟩;again (.builtin "tuple.__new__" ⟨[.type "tuple", .ref r],[]⟩)) _ _ s
 refine FI (LH (F.newCall_tuple_1 _) (FS ⟨Jq F.plain_tuple_new _,Jp F.entry_tuple_new ?_⟩))
 rw[Ir F.plain_tuple_new _]
 have hsub:=sub_tuple_self
 have hinit:=init_tuple_lookup
 have hmh:=madeHere_tuple
 have hTI:s.TypeIs (.ref r) "range" := ⟨_,hr,rfl⟩
 wp_walk using K4 hTI,j6 (A:=A.in1) hh hr hsmall hn hlen
 intro h' tk acc hk hacc
 show Gb _ _ (HE acc.toList.toArray >>= fun v=>ret v) _ _ _
 unfold HE
 refine FI (GP ?_ (by show acc.toList.toArray.size<=sizeLine;simp only[IV];rw[hacc.1];exact GI hlen (by decide)))
 refine FS ?_
 have e:acc.toList.toArray=acc:=by simp
 rw[e]
 exact h h' tk acc hk hacc
theorem call_rng{r:Addr}{a:Int}{t u v:Tok}(hh:A.handled=none)(hr:MG s.heap r a b c t u v)(hsmall:JU a b c=true)
 (hn:IB a b c=n)(hlen:n<=2^24)
 (h:∀(h':Heap)(tk:Nat)(acc:Array Value),(∀b o,s.heap.get? b=some o->h'.get? b=some o)->Mt (fun i v=>∃t,v = .int (a+i*c) t) acc n->Q (.ref h'.objs.size) {s with heap:=h'.push {cls:=.type "tuple", data:=.seq acc},toks:=tk}) :
 Gb (Gn prog w) A (call (.type "tuple") [.ref r]) Q E s:=by
 refine callType_codes (Q₁:=fun obj s₁=>s₁.TypeIs obj "tuple" /\ Q obj s₁) F.called_tuple (F.typeCall_tuple_1 _) F.entry_object_init
  (jn (A:=A.in1) hh hr hsmall hn hlen fun h' tk acc hm hacc=>⟨⟨_,FY _ rfl,rfl⟩,h h' tk acc hm hacc⟩) fun obj s₁ h₁=>?_
 exact⟨h₁.1,F.args_object_init_2 obj _,object_init_meets F.called_tuple.init.lookup F.called_tuple.made (by decide) prog w A.in1 _ s₁ ⟨h₁.1,rfl,h₁.2⟩⟩
end
end L2.TO
namespace L2
section
variable{X:Cx}{a b e:Expr}{ta:TA}{te:TE}{p p2 q pos pos2:Pos}
theorem mT{Q:VK}{lo hi:Int}{t u v:Tok}{tk:Nat}(hc:X.calm=true)(I:Inv X pins σ H s)(h1 : -(2^62)<=lo)(h2:lo<2^62)(h3 : -(2^62)<=hi)(h4:hi<2^62)(h5:(hi-lo).toNat<=2^24)
 (q:∀l,H l=none->Q (.ref l) (Cs H l (.tup (eB lo (hi-lo).toNat)))):Gb (Gn X.prog X.w) X.A (call (.type "tuple") [.ref s.heap.objs.size]) (EP X pins σ Q) X.xe {s with heap:=s.heap.push {cls:=.type "range", data:=.fields #[.int lo t,.int hi u,.int 1 v]},toks:=tk}:=by
 have I1:Inv X pins σ H {s with heap:=s.heap.push {cls:=.type "range", data:=.fields #[.int lo t,.int hi u,.int 1 v]},toks:=tk}:=I.kept fun b o e=>FM _ e
 refine TO.call_rng (n:=(hi-lo).toNat) (I.ok.hd hc) (Mq ..) (small_one h1 h2 h3 h4) (by rw[LV];split<;>omega) h5 fun h' tk acc hk hi=>?_
 have hv:=dX hi
 have I2:=I1.kept (t':=tk) hk
 refine⟨.ref _,_,I2.laid (t':=tk) (o:=.tup (eB lo _)) (fun b o e=>FM _ e) (FQ _) ⟨?_,acc.toList,hv,by rw[IV];exact o7.new _ _⟩,rfl,q _ (I2.hok.fresh (FQ _))⟩
 rw[eB,FR,List.length_range]
 exact GI h5 (by decide)
def Bf(ta:TA):TE:=fun σ H Q=>ta σ H fun vs H1=>∃j:Int,vs=[.int j]/\(-(2^62)<=j/\j<2^62)/\j.toNat<=2^24/\∀l,H1 l=none->Q (.ref l) (Cs H1 l (.tup (eB 0 j.toNat)))
theorem lM(hc:X.calm=true)(hl:Gl X "tuple")(hml:X.mg "tuple" = none)(hg:Gl X "range")(hm:X.mg "range" = none)(ha:PA X [a] ta)(hs:FU [a] X.env=[(false,eval a X.env)]:=by rfl)
 (he:FU [.Call (.Name "range" p) [a] [] pos2] X.env=(false,eval (.Call (.Name "range" p) [a] [] pos2) X.env)::FU [] X.env:=by rfl)(hpl:(Hs pos (FU [] X.env)).any (·.1)=false:=by rfl) :
 PE X (.Call (.Name "tuple" q) [.Call (.Name "range" p) [a] [] pos2] [] pos) (Bf ta):=by
 intro pins s σ H Q I h
 refine Il (dm I hl hml (by rfl) ?_ (by decide) (by decide))
 refine GN ?_ he hpl
 rw[he]
 show Gb _ _ (spliced ((false,eval (.Call (.Name "range" p) [a] [] pos2) X.env)::Hs pos (FU [] X.env))) _ _ s
 refine J9 ?_
 refine Call_ (dm I hg hm L9 (GN (CF (ha pos2 pins s σ H _ I h) fun us s1 ⟨vs,H1,I1,r1,q1⟩=>?_) hs rfl))
 obtain⟨j,e,⟨h3,h4⟩,h5,q1⟩:=q1
 subst e
 cases r1 with
 | cons r rr =>
   cases rr
   obtain⟨t,rfl⟩:=r
   exact Mf (Kj (mT hc I1 (by omega) (by omega) h3 h4 (by simpa using h5) (by simpa using q1)))
end
end L2
namespace L2.VL
section
variable{X:Cx}{rl:RlT}{a b c e:Expr}{es:List Expr}{fa fb fc:TV}{fs:EA}{pos pos2 p q p2:Pos}
def AG(fs:EA):TV:=fun ρ Q=>fs ρ fun ws=>∃j:Int,ws=[.d (.int j)]/\(-(2^62)<=j/\j<2^62)/\j.toNat<=2^24/\Q (.d (.tuple (aV 0 j.toNat)))
theorem mF(hml:X.mg "tuple" = none)(hm:X.mg "range" = none)(ha:EO X rl [a] fs)(hc:X.calm=true:=by rfl)(hl:Gl X "tuple" := by rfl)(hg:Gl X "range" := by rfl)(hs:FU [a] X.env=[(false,eval a X.env)]:=by rfl)
 (he:FU [.Call (.Name "range" p) [a] [] pos2] X.env=(false,eval (.Call (.Name "range" p) [a] [] pos2) X.env)::FU [] X.env:=by rfl)(hpl:(Hs pos (FU [] X.env)).any (·.1)=false:=by rfl) :
 PV X rl (.Call (.Name "tuple" q) [.Call (.Name "range" p) [a] [] pos2] [] pos) (AG fs):=by
 obtain⟨t,p1,k⟩:=ha
 refine⟨_,lM hc hl hml hg hm p1 hs he hpl,fun R Qd Q q h=>k R _ _ q fun vs ws F1 H1 g1 r1 ⟨j,ew,z,y,q1⟩=>?_⟩
 subst ew
 obtain⟨v,rfl,rv⟩:=lY r1
 have e1:=aP rv
 subst e1
 refine⟨j,rfl,z,y,fun l hl=>?_⟩
 have g:=Grow.data (a:=l) (o:=.tup (eB 0 j.toNat)) g1.sub g1.reel hl
 exact h _ (.d _) _ _ (g1.trans g) (.tup (.inl (.inl av)) (gG _ _)) trivial q1
end
end L2.VL
namespace L2.TW
section
variable{prog:Gi}{w:G5}{A:Hf}{E:Value->FO->Prop}{s:FO}
theorem get_whole{t sl:Addr}{items:Array Value}{vl vu:Value}{lo hi:Option Int}(ht:IsTup s.heap t items)(hs:s.heap.IsSliceOf sl vl vu .none)(pl:LZ vl lo)(pu:LZ vu hi)
 (hw:HT.sIx items.size 0 lo=0/\HT.sIx items.size items.size hi=items.size)(h:Q (.ref t) s):Gb (Gn prog w) A (KB (.ref t) (.ref sl)) Q E s:=by
 have ty:s.TypeIs (.ref sl) "slice" := let ⟨o,h1,h2,_⟩:=hs;⟨o,h1,h2⟩
 have key:Gb (Gn prog w) A (call (.builtin "tuple.__getitem__") [.ref t,.ref sl]) Q E s:=by
  refine HI GW ht.typeIs entry_tuple_getitem ?_ (args_tuple_getitem _ _)
  show Gb _ _ (J6 (.ref t) >>= _) _ _ s;refine FI (tupleItemsOf_ ht (FI (K4 ty ?_)))
  rw[if_pos (by decide)]
  refine FI (HT.sliceApplied_gen hs pl pu ?_)
  rw[hw.1,hw.2,Nat.sub_zero]
  show Gb _ _ (if(((0:Nat):Int)==0&&(1:Int)==1&&items.size==items.size)=true then _ else _) _ _ s
  rw[if_pos (by simp)]
  unfold Builtin.Tuple.tupleIsExact
  refine FI (FI (K4 ht.typeIs (FS ?_)))
  rw[if_pos (by decide)]
  exact FI (Ji (FI (FS (FS ⟨_,rfl,h⟩))))
 unfold KB;try with_reducible refine IC ?_
 first|exact FI (FS (FI (Kk ht.typeIs (by decide) (FI (G3 (name:=F0 "__getitem__") ht.typeIs GW (CF key fun v s' q=>FS q))))))|exact FI (Kk ht.typeIs (by decide) (FI (G3 (name:=F0 "__getitem__") ht.typeIs GW (CF key fun v s' q=>FS q))))
end
end L2.TW
namespace L2
section
variable{X:Cx}
def Bw(K:W.Frag):V->Option Int->Option Int->Hp->VK->Prop:=fun x lo hi H Q=>AO K x lo hi H Q\/∃a xs,x = .ref a/\EG K H a xs/\(HT.sIx xs.length 0 lo=0/\HT.sIx xs.length xs.length hi=xs.length)/\Q (.ref a) H
theorem sC:EK X (Bw X.K):=by
 intro pins s σ H x v vl vu lo hi sl Q I rx hs pl pu h
 rcases h with h|⟨a,xs,rfl,hx,hw,q⟩
 · exact vG pins s σ H x v vl vu lo hi sl Q I rx hs pl pu h
 · cases rx
   obtain⟨its,r,ht,hz⟩:=I.tuple hx
   have hlen:its.toArray.size=xs.length:=by rw[Gk];exact r.length.symm
   exact⟨"tuple", _,GW.lookup,ht.typeIs,TW.get_whole ht hs pl pu (by rw[hlen];exact hw) ⟨.ref a,H,I,rfl,q⟩⟩
end
end L2
namespace L2.VL
section
variable{X:Cx}{rl:RlT}{a b c e:Expr}{es:List Expr}{fa fb fc:TV}{fs:EA}{pos p p2:Pos}
theorem oM{l u:Option Int}(h:HT.sIx xs.length 0 l=0/\HT.sIx xs.length xs.length u=xs.length):cutD xs l u=xs:=by
 unfold cutD
 rw[h.1,h.2]
 simp
def yc(fa:TV)(fl fh:EC):TV:=fun ρ Q=>fa ρ fun w=>fl ρ fun l=>fh ρ fun h=>∃xs,w = .d (.tuple xs)/\Q (.d (.tuple (cutD xs l h)))
theorem uW{lo hi:Option Expr}{fl fh:EC}(ha:PV X rl a fa)(hl:EQ X rl lo fl)(hh:EQ X rl hi fh):PV X rl (.Subscript a (.Slice lo hi none p2) pos) (yc fa fl fh):=by
 obtain⟨t,p,k⟩:=ha
 obtain⟨tl,pl,kl⟩:=hl
 obtain⟨th,ph,kh⟩:=hh
 refine⟨_,ij sC p pl ph,fun R Qd Q q h=>k R _ _ q fun v w F1 H1 g1 r1 n1 q1=>?_⟩
 refine kl (R.grow g1) _ _ q1 fun l F2 H2 g2 q2=>kh ((R.grow g1).grow g2) _ _ q2 fun u F3 H3 g3 q3=>?_
 obtain⟨xs,rfl,q3⟩:=q3
 have r3:=(r1.grow g2).grow g3
 have g:=(g1.trans g2).trans g3
 cases(show Rep X.K F3 v (.tuple xs)from r3)with
 | @tup a vs _ sq rs =>
   by_cases hw:HT.sIx xs.length 0 l=0/\HT.sIx xs.length xs.length u=xs.length
   · rw[oM hw]at q3
     exact .inr ⟨a,vs,rfl,d6 g3.sub sq,by rw[rs.length];exact hw,h _ (.d _) _ _ g (.tup sq rs) trivial q3⟩
   · refine .inl ⟨a,vs,rfl,d6 g3.sub sq,by rw[rs.length];exact hw,fun p hp=>?_⟩
     have g':=Grow.data (a:=p) (o:=.tup (qF vs l u)) g3.sub g3.reel hp
     exact h _ (.d _) _ _ (g.trans g') (.tup (.inl (.inl av)) ((rs.cut l u).mono g'.fs)) trivial q3
end
end L2.VL
namespace L2
abbrev AK(D:List (Str×Int)):List (FH×FH):=(D.map fun q=>(q.1,GA q.2)).map fun q=>(Kq q.1,q.2)
structure GlT (P:Gi) (w:G5) (K:W.Frag) (mg:Str->Option Value) (x:Str) (D:List (Str×Int)):Prop where
 ex:∃p,mg x=some (.ref p)/\∀h,K.In h->StrTab P w h p (AK D)
section
variable{X:Cx}{e:Expr}{ty:TE}{px apos cpos:Pos}
end
end L2
namespace L2.VL
section
variable{X:Cx}{rl:RlT}{a b c e:Expr}{es:List Expr}{fa fb fc:TV}{fs:EA}{pos p p2 px apos cpos:Pos}
end
end L2.VL
set_option exponentiation.threshold 10000
namespace L2.VL
def zm:List W->(FH->Prop)->Prop:=fun ws Q=>∃i j:Int,ws=[.d (.int i),.d (.int j)]/\0<=i/\0<=j/\Q (.int (GF i j))
theorem zm.mono:∀ws (Q Q':FH->Prop),(∀d,Q d->Q' d)->zm ws Q->zm ws Q':=fun _ _ _ h ⟨i,j,e,a,b,q⟩=>⟨i,j,e,a,b,h _ q⟩
theorem zm.len:∀ws (Q:FH->Prop),zm ws Q->ws.length=2:=fun _ _ ⟨_,_,e,_⟩=>by subst e;rfl
def p9(a b:Int):FH:=.tuple [.int (a.fdiv (GF a b)),.int (b.fdiv (GF a b))]
def y_:List W->(FH->Prop)->Prop:=fun ws Q=>∃a b:Int,ws=[.d (.int a),.d (.int b)]/\0<b/\b.natAbs<2^8000/\Q (p9 a b)
theorem y_.mono:∀ws (Q Q':FH->Prop),(∀d,Q d->Q' d)->y_ ws Q->y_ ws Q':=fun _ _ _ h ⟨i,j,e,a,b,q⟩=>⟨i,j,e,a,b,h _ q⟩
theorem y_.len:∀ws (Q:FH->Prop),y_ ws Q->ws.length=2:=fun _ _ ⟨_,_,e,_⟩=>by subst e;rfl
theorem ot{a:Int}(hb:0<b)(z:b.natAbs<2^8000)(i:Int):dW i (GF a b:Int):=by
 have h1:=t_ (a:=a) (b:=b) (by omega)
 have h2:=wZ (a:=a) (b:=b) (by omega)
 exact⟨by omega,Im (by omega) (FN z (FX (by decide) (by decide)))⟩
def iP(n:Nat)(pre:List Int->Prop)(f:List Int->FH):List W->(FH->Prop)->Prop:=fun ws Q=>∃xs:List Int,ws=xs.map (fun i=>.d (.int i))/\xs.length=n/\pre xs/\Q (f xs)
theorem iP.mono{pre:List Int->Prop}{f:List Int->FH}:∀ws (Q Q':FH->Prop),(∀d,Q d->Q' d)->iP n pre f ws Q->iP n pre f ws Q':=fun _ _ _ h ⟨i,e,a,b,q⟩=>⟨i,e,a,b,h _ q⟩
def DZ(pre:Int->Int->Prop)(f:Int->Int->FH):List W->(FH->Prop)->Prop:=fun ws Q=>∃i j:Int,ws=[.d (.int i),.d (.int j)]/\pre i j/\Q (f i j)
theorem DZ.mono{pre:Int->Int->Prop}{f:Int->Int->FH}:∀ws (Q Q':FH->Prop),(∀d,Q d->Q' d)->DZ pre f ws Q->DZ pre f ws Q':=fun _ _ _ h ⟨i,j,e,a,q⟩=>⟨i,j,e,a,h _ q⟩
theorem DZ.len{pre:Int->Int->Prop}{f:Int->Int->FH}:∀ws (Q:FH->Prop),DZ pre f ws Q->ws.length=2:=fun _ _ ⟨_,_,e,_⟩=>by subst e;rfl
structure IsEx (b:Int) (p:List Int):Prop where
 len:p.length=b.toNat
 zero:p.head?=some 0
 nd:p.Nodup
 rng:∀x∈p,0<=x/\x<b
def Ec(p:List Int):FH:=.tuple (p.map .int)
def Ea:List W->(FH->Prop)->Prop:=fun ws Q=>∃b:Int,ws=[.reel,.d (.int b)]/\2<=b/\b<=16/\∀p,IsEx b p->Q (Ec p)
theorem Ea.mono:∀ws (Q Q':FH->Prop),(∀d,Q d->Q' d)->Ea ws Q->Ea ws Q':=fun _ _ _ h ⟨b,e,x,y,q⟩=>⟨b,e,x,y,fun p hp=>h _ (q p hp)⟩
theorem Ea.len:∀ws (Q:FH->Prop),Ea ws Q->ws.length=2:=fun _ _ ⟨_,e,_⟩=>by subst e;rfl
def jy(lo:Int)(n:Nat):List Int:=(G9 n).map fun(i:Nat)=>lo+i
theorem cK(lo:Int)(n:Nat):aV lo n=(jy lo n).map .int:=by simp[aV,jy]
theorem qj{lo x:Int}:x∈jy lo n↔lo<=x/\x<lo+n:=by
 unfold jy
 simp only[GJ,IZ]
 constructor
 · rintro⟨k,hk,rfl⟩;omega
 · rintro⟨h1,h2⟩
   exact⟨(x-lo).toNat,by omega,by omega⟩
theorem bP(lo:Int)(n:Nat):(jy lo n).length=n:=by simp[jy]
def xM(rows:List (Int×List Int)):FH:=.tuple (rows.map fun r=>.tuple [.int r.1,Ec r.2])
structure IsRow (rows:List (Int×List Int)):Prop where
 lo:1<=rows.length
 hi:rows.length<=4
 ok:∀r∈rows,2<=r.1/\r.1<=16/\IsEx r.1 r.2
 co:rows.Pairwise fun x y=>GF x.1 y.1=1
def yH:List W->(FH->Prop)->Prop:=fun ws Q=>∃m:Int,ws=[.reel,.d (.int m)]/\1<=m/\m<=4/\∀rows,IsRow rows->rows.length<=m.toNat->Q (xM rows)
theorem yH.mono:∀ws (Q Q':FH->Prop),(∀d,Q d->Q' d)->yH ws Q->yH ws Q':=fun _ _ _ h ⟨b,e,x,y,q⟩=>⟨b,e,x,y,fun p hp hl=>h _ (q p hp hl)⟩
theorem yH.len:∀ws (Q:FH->Prop),yH ws Q->ws.length=2:=fun _ _ ⟨_,e,_⟩=>by subst e;rfl
def xD(bs:List Int):Prop:=bs.length=4/\(∀b∈bs,2<=b/\b<=16)/\bs.Pairwise fun x y=>GF x y=1
instance (bs:List Int):Decidable (xD bs):=by unfold xD;infer_instance
def tN:List W->(FH->Prop)->Prop:=fun ws Q=>∃b n:Int,ws=[.d (.int b),.d (.int n)]/\2<=b/\b<=16/\n<2^40/\∀e:Nat,n<=b^e->(∀k<e,b^k<n)->Q (.int e)
theorem tN.mono:∀ws (Q Q':FH->Prop),(∀d,Q d->Q' d)->tN ws Q->tN ws Q':=fun _ _ _ h ⟨b,n,e,x,y,z,q⟩=>⟨b,n,e,x,y,z,fun p a b=>h _ (q p a b)⟩
theorem tN.len:∀ws (Q:FH->Prop),tN ws Q->ws.length=2:=fun _ _ ⟨_,_,e,_⟩=>by subst e;rfl
def pr(a b:Int):FH:=.tuple [.int a,.int b]
def oX:List W->(FH->Prop)->Prop:=fun ws Q=>∃a b c d:Int,ws=[.d (pr a b),.d (pr c d)]/\aZ a d/\aZ c b/\Q (.bool (decide (a*d<c*b)))
theorem oX.mono:∀ws (Q Q':FH->Prop),(∀d,Q d->Q' d)->oX ws Q->oX ws Q':=fun _ _ _ h ⟨b,n,c,d,e,x,y,q⟩=>⟨b,n,c,d,e,x,y,h _ q⟩
theorem oX.len:∀ws (Q:FH->Prop),oX ws Q->ws.length=2:=fun _ _ ⟨_,_,_,_,e,_⟩=>by subst e;rfl
def tU(f:Bool->FH->FH->FH):List W->(FH->Prop)->Prop:=fun ws Q=>∃a b c d:Int,ws=[.d (pr a b),.d (pr c d)]/\aZ a d/\aZ c b/\Q (f (decide (a*d<c*b)) (pr a b) (pr c d))
theorem tU.mono{f:Bool->FH->FH->FH}:∀ws (Q Q':FH->Prop),(∀d,Q d->Q' d)->tU f ws Q->tU f ws Q':=fun _ _ _ h ⟨b,n,c,d,e,x,y,q⟩=>⟨b,n,c,d,e,x,y,h _ q⟩
theorem tU.len{f:Bool->FH->FH->FH}:∀ws (Q:FH->Prop),tU f ws Q->ws.length=2:=fun _ _ ⟨_,_,_,_,e,_⟩=>by subst e;rfl
def wH(b n:Int):Nat:=((G9 31).filter fun k=>decide (b^k<n)).length
theorem dz(h:1<=b){i:Nat}(hij:i<=j):b^i<=b^j:=by
 induction hij with
 | refl=>exact JV _
 | step _ ih =>
   rw[Io]
   have:0<=b^i:=Kc (Ib (by omega))
   exact K_ ih (by
    rename_i m _
    have hm:0<b^m:=Ib (by omega)
    have:=G0 h (Kc hm)
    omega)
theorem kO{a b:Int}(h0:0<=a)(h:a<=b):∀k:Nat,a^k<=b^k
 | 0=>by simp
 | k+1=>by
   rw[Io,Io]
   exact I_ (kO h0 h k) h h0 (Lx (by omega))
def yF(n:Int)(p:Int)(r:Int×List Int):Int:=p*max 1 ((r.1-1)*wH r.1 n)
def xv(p n:Int):FH:=p9 (min n p) n
def Da:List W->(FH->Prop)->Prop:=fun ws Q=>∃rows n,ws=[.d (xM rows),.d (.int n)]/\IsRow rows/\1<=n/\n<=2^31/\Q (xv (rows.foldl (yF n) 1+rows.length) n)
theorem Da.mono:∀ws (Q Q':FH->Prop),(∀d,Q d->Q' d)->Da ws Q->Da ws Q':=fun _ _ _ h ⟨b,n,e,x,y,z,q⟩=>⟨b,n,e,x,y,z,h _ q⟩
theorem Da.len:∀ws (Q:FH->Prop),Da ws Q->ws.length=2:=fun _ _ ⟨_,_,e,_⟩=>by subst e;rfl
theorem GlK.pair{K:W.Frag}{a:Int}{p:Addr}{sl:Array (Option Value)}{t u:Tok}(h1:W.nsIn K GQ x=some (some (.ref p)))
 (h2:K.lookup p=some ⟨.type "tuple", none,.seq #[.int a t,.int b u] n,sl⟩):GlK K x (pr a b):=by
 refine⟨.ref p,.ref p,h1,rfl,fun F=>.tup (vs:=[.int a,.int b]) (.inr ⟨_,_,n,h2,rfl,rfl,(by show 2<=sizeLine;decide),.cons ⟨t,rfl⟩ (.cons ⟨u,rfl⟩ .nil),rfl⟩) (.cons (.int a) (.cons (.int b) .nil))⟩
end L2.VL
set_option exponentiation.threshold 10000
namespace L2.VL
def digs(b n:Nat):List Nat:=if h:2<=b/\0<n then(n%b)::digs b (n / b)else []
termination_by n
decreasing_by exact JW h.2 h.1
theorem dn(b:Nat):digs b 0=[]:=by unfold digs;simp
theorem fD{b:Nat}(hb:2<=b)(hn:0<n):digs b n=(n%b)::digs b (n / b):=by
 rw[digs]
 simp[hb,hn]
theorem ui{b:Nat}(hb:2<=b):∀n:Nat,∀a∈digs b n,a<b:=by
 intro n
 induction n using JX with
 | ind n ih =>
   intro a ha
   by_cases hn:0<n
   · rw[fD hb hn]at ha
     rcases Gh.mp ha with rfl|ha
     · exact Nat.mod_lt _ (by omega)
     · exact ih (n / b) (JW hn hb) a ha
   · have:n=0:=by omega
     subst this
     rw[dn]at ha
     cases ha
theorem qE{b:Nat}(hb:2<=b):∀n:Nat,0<n->b^(digs b n).length<=b*n:=by
 intro n
 induction n using JX with
 | ind n ih =>
   intro hn
   rw[fD hb hn,Gp,La]
   by_cases h:0<n / b
   · have:=ih (n / b) (JW hn hb) h
     have h2:b*(n / b)<=n:=Nat.mul_div_le n b
     calc b^(digs b (n / b)).length*b<=(b*(n / b))*b:=Lr b this
      _<=n*b:=Lr b h2
      _=b*n:=Nat.mul_comm _ _
   · have:n / b=0:=Nat.eq_zero_of_not_pos h
     rw[this,dn]
     simp
     exact KE b hn
def BB(b:Int)(n:Nat):Int:=b^(digs b.toNat n).length
def stepT(b:Int)(p:List Int)(t:Int)(a:Nat):Int:=t*b+p.getD a 0
def yt(b:Int)(p:List Int)(n:Nat):Int:=(digs b.toNat n).foldl (stepT b p) 0
def yq(b:Int)(p:List Int)(n:Nat):FH:=p9 (yt b p n) (BB b n)
theorem t9{p:List Int}(ex:IsEx b p){a:Nat}(h:a<b.toNat):p[a]?=some (p.getD a 0)/\0<=p.getD a 0/\p.getD a 0<b:=by
 have hl:a<p.length:=by rw[ex.len];exact h
 have e:p.getD a 0=p[a]:=by simp[List.getD,hl]
 have:=ex.rng p[a] (G8 hl)
 rw[e]
 exact⟨GB hl,this⟩
def zy:List W->(FH->Prop)->Prop:=fun ws Q=>∃b n:Int,ws=[.d (.int b),.d (.int n)]/\2<=b/\b<=16/\0<=n/\n<2^100/\Q (.list ((digs b.toNat n.toNat).map fun(k:Nat)=>.int k))
theorem zy.mono:∀ws (Q Q':FH->Prop),(∀d,Q d->Q' d)->zy ws Q->zy ws Q':=fun _ _ _ h ⟨b,n,e,x,y,z,u,q⟩=>⟨b,n,e,x,y,z,u,h _ q⟩
theorem zy.len:∀ws (Q:FH->Prop),zy ws Q->ws.length=2:=fun _ _ ⟨_,_,e,_⟩=>by subst e;rfl
def yY:List W->(FH->Prop)->Prop:=fun ws Q=>∃(b:Int)(xs:List Int),ws=[.d (.int b),.d (.list (xs.map .int))]/\0<=b/\b<=16/\Q (.int (xs.reverse.foldl (fun t a=>t*b+a) 0))
theorem yY.mono:∀ws (Q Q':FH->Prop),(∀d,Q d->Q' d)->yY ws Q->yY ws Q':=fun _ _ _ h ⟨b,n,e,x,y,q⟩=>⟨b,n,e,x,y,h _ q⟩
theorem yY.len:∀ws (Q:FH->Prop),yY ws Q->ws.length=2:=fun _ _ ⟨_,_,e,_⟩=>by subst e;rfl
def se(f:Int->List Int->Nat->FH):List W->(FH->Prop)->Prop:=fun ws Q=>∃(b:Int)(p:List Int)(n:Int),ws=[.d (.int b),.d (Ec p),.d (.int n)]/\2<=b/\b<=16/\IsEx b p/\0<=n/\n<2^100/\Q (f b p n.toNat)
theorem se.mono{f:Int->List Int->Nat->FH}:∀ws (Q Q':FH->Prop),(∀d,Q d->Q' d)->se f ws Q->se f ws Q':=fun _ _ _ h ⟨b,p,n,e,x,y,z,u,v,q⟩=>⟨b,p,n,e,x,y,z,u,v,h _ q⟩
theorem se.len{f:Int->List Int->Nat->FH}:∀ws (Q:FH->Prop),se f ws Q->ws.length=3:=fun _ _ ⟨_,_,_,e,_⟩=>by subst e;rfl
def v8(rows:List (Int×List Int))(n:Nat):FH:=.tuple (rows.map fun r=>yq r.1 r.2 n)
def By(rows:List (Int×List Int))(n m:Nat):FH:=.tuple ((G9 m).map fun i=>v8 rows (n+i))
def yQ:List W->(FH->Prop)->Prop:=fun ws Q=>∃rows n m,ws=[.d (xM rows),.d (.int n),.d (.int m)]/\IsRow rows/\0<=n/\n<2^60/\0<=m/\m<=1000/\Q (By rows n.toNat m.toNat)
theorem yQ.mono:∀ws (Q Q':FH->Prop),(∀d,Q d->Q' d)->yQ ws Q->yQ ws Q':=fun _ _ _ h ⟨b,p,n,e,x,y,z,u,v,q⟩=>⟨b,p,n,e,x,y,z,u,v,h _ q⟩
theorem yQ.len:∀ws (Q:FH->Prop),yQ ws Q->ws.length=3:=fun _ _ ⟨_,_,_,e,_⟩=>by subst e;rfl
def Cv:FH->Int
 | .int i=>i
 | _=>0
def BQ(K:W.Frag)(F:Hp)(v:V)(ds:List FH):Prop:=∃a vs,v = .ref a/\F a=some (.tup vs)/\Reps K F vs ds
def Bb(K:W.Frag)(rl:RlT)(P:List W->(List FH->Prop)->Prop):Sp:=fun vs H Q _=>∃F ws,bC F H/\EM rl F H/\dU K rl F H vs ws/\ws.all eM=true/\P ws fun xs=>∀v F' H',Grow rl F H F' H'->BQ K F' v xs->Q v H'
def vw(Q:List FH->Prop):VEnds:=⟨fun _=>False,fun w=>∃xs,w = .nt xs/\Q xs,fun _=>False,fun _=>False⟩
structure DfnT (P:Gi) (w:G5) (K:W.Frag) (mg:Str->Option Value) (base:Heap) (rl:RlT) (x:Str) (ps:List Str) (k:Nat) (Pd:List W->(List FH->Prop)->Prop):Prop where
 mono:∀ws Q Q',(∀d,Q d->Q' d)->Pd ws Q->Pd ws Q'
 ex:∃f fd,mg x=some (.ref f)/\W.keepIn K (.ref f)=true/\Binds K fd ps []/\FnOk P w K mg base Fq k f fd ps (Bb K rl Pd)
section
variable{P:Gi}{w:G5}{K:W.Frag}{mg:Str->Option Value}{base:Heap}{rl:RlT}{x:Str}{st:Stmt}{N ps:List Str}{k:Nat}{Pd:List W->(List FH->Prop)->Prop}{t:EB}
theorem DfnT.of(Fn:FnIn K mg x st ps)(S:FnScope N ps (defScope st))(mono:∀ws Q Q',(∀d,Q d->Q' d)->Pd ws Q->Pd ws Q')(len:∀ws Q,Pd ws Q->ws.length=ps.length)
 (hbody:∀{f:Addr}(cdv:Value)(A:Hf)(outer:List Env)(s:FO)(H:Hp)(E:XK),Room k (A.deeper (J_ x (defScope st) s.heap.objs.size f cdv)) ->
  kd (lS Fq P w K mg base N x (defScope st) f cdv A outer s H E).nox rl (defBody st) t)
 (hread:∀ws Q,Pd ws Q->t (vw Q) (cF N ws)):DfnT P w K mg base rl x ps (k+1) Pd:=by
 obtain⟨f,fd,hm,F,hb⟩:=Fn.ex
 refine⟨mono,f,fd,hm,F.kp,hb,?_⟩
 refine F.ok S (fun vs H Q E ⟨F,ws,_,_,r,_,q⟩=>(HC r).trans (len ws _ q)) fun cdv A outer s H vs Q E hr h=>?_
 obtain⟨F,ws,sm,ra,r,ok,q⟩:=h
 obtain⟨T,p,kk⟩:=hbody cdv A outer s H E hr
 refine⟨T,p,kk (dr sm ra r ok) (vw _) _ ⟨fun _ _ _ _ _ _ z=>GZ z,?_,fun _ _ _ _ _ _ z=>GZ z,fun _ _ _ _ _ _ z=>GZ z⟩ (hread ws _ q)⟩
 rintro v w1 F1 H1 g1 r1 n1 ⟨xs,rfl,q1⟩
 exact q1 v F1 H1 g1 r1
end
section
variable{X:Cx}{rl:RlT}{a b c e:Expr}{es:List Expr}{fa fb fc:TV}{fs:EA}{pos p p2 px apos cpos:Pos}
def x8(kvs:List (List E7×FH))(k:List E7):Option FH:=(kvs.find? fun kv=>decide (kv.1=k)).map (·.2)
def AV(kvs:List (List E7×FH))(k:List E7)(x:FH):List (List E7×FH) :=
 if(kvs.any fun kv=>decide (kv.1=k))=true then kvs.map (fun kv=>if kv.1=k then(kv.1,x)else kv)else kvs++[(k,x)]
theorem KD.val{K:W.Frag}{us:List (List E7×V)}{kvs:List (List E7×FH)}(r:KD K F us kvs)(k:List E7):(fA us k=none/\x8 kvs k=none)\/∃v d,fA us k=some v/\x8 kvs k=some d/\Rep K F v d:=by
 induction r with
 | nil=>exact .inl ⟨rfl,rfl⟩
 | @cons p q ps qs h t ih =>
   unfold fA x8 at *
   rw[Hb,Hb,h.1]
   by_cases e:q.1=k
   · simp only[e,decide_true]
     exact .inr ⟨p.2,q.2,rfl,rfl,h.2⟩
   · simp only[e,decide_false]
     exact ih
theorem KD.any{K:W.Frag}{us:List (List E7×V)}{kvs:List (List E7×FH)}(r:KD K F us kvs)(k:List E7):(us.any fun kv=>decide (kv.1=k))=kvs.any fun kv=>decide (kv.1=k):=by
 induction r with
 | nil=>rfl
 | cons h t ih=>rw[HZ,HZ,ih,h.1]
theorem KD.repl{K:W.Frag}{us:List (List E7×V)}{kvs:List (List E7×FH)}(r:KD K F us kvs)(k:List E7)(rv:Rep K F v d):KD K F (us.map fun kv=>if kv.1=k then(kv.1,v)else kv) (kvs.map fun kv=>if kv.1=k then(kv.1,d)else kv):=by
 induction r with
 | nil=>exact .nil
 | @cons p q ps qs h t ih =>
   refine .cons ?_ ih
   show(if p.1=k then(p.1,v)else p).1=(if q.1=k then(q.1,d)else q).1/\Rep K F (if p.1=k then(p.1,v)else p).2 (if q.1=k then(q.1,d)else q).2
   by_cases e:q.1=k
   · have e':p.1=k:=h.1.trans e
     rw[if_pos e,if_pos e']
     exact⟨h.1,rv⟩
   · have e':¬p.1=k:=fun z=>e (h.1.symm.trans z)
     rw[if_neg e,if_neg e']
     exact h
theorem KD.snoc{K:W.Frag}{us:List (List E7×V)}{kvs:List (List E7×FH)}(r:KD K F us kvs)(k:List E7)(rv:Rep K F v d):KD K F (us++[(k,v)]) (kvs++[(k,d)]):=by
 induction r with
 | nil=>exact .cons ⟨rfl,rv⟩ .nil
 | cons h t ih=>exact .cons h ih
theorem KD.put{K:W.Frag}{us:List (List E7×V)}{kvs:List (List E7×FH)}(r:KD K F us kvs)(k:List E7)(rv:Rep K F v d):KD K F (dN us k v) (AV kvs k d):=by
 unfold dN AV
 rw[r.any k]
 split
 · exact r.repl k rv
 · exact r.snoc k rv
end
end L2.VL
namespace L2.IX
section
variable{prog:Gi}{w:G5}{A:Hf}{E:Value->FO->Prop}{s:FO}
end
end L2.IX
namespace L2
section
variable{X:Cx}
end
end L2
namespace L2.VL
section
variable{X:Cx}{rl:RlT}{a b c e:Expr}{es:List Expr}{fa fb fc:TV}{fs:EA}{pos p p2 px apos cpos:Pos}
def wV:FH->Bool
 | .none=>true
 | _=>false
end
end L2.VL
namespace L2.ZP
section
variable{prog:Gi}{w:G5}{A:Hf}{E:Value->FO->Prop}{s:FO}{it a:Addr}{k:Nat}{xs:Array Value}{v:Value}
theorem sr(st:s.heap.IsTupleIter it a k)(tu:s.heap.IsTuple a xs)(e:xs[k]?=some v)
 (q:∀g,g.IsTupleIter it a (k+1)->Ij it s.heap g->Q v {s with heap:=g}):Gb (Gn prog w) A (GM (.ref it)) Q E s:=by
 have ty:=st.typeIs
 obtain⟨o,oe,oc,od⟩:=st
 obtain⟨l,le,_,_,ld⟩:=tu
 unfold GM
 have sl:=F.slot_tuple_iterator_next
 refine FI (G3 (name:=F0 "__next__") ty sl (HI sl ty F.entry_tuple_iterator_next ?_ (F.args_tuple_iterator_next_1 _)))
 show Gb _ _ (do let z <- Mu (.ref it) 0;_) _ _ s
 refine FI (Ha oe od (x:=.ref a) rfl ?_)
 show Gb _ _ (ite ((Ia a==Jh)=true) _ _) _ _ s
 rw[if_neg (show ¬(Ia a == .none)=true by intro z;cases z)]
 show Gb _ _ (do let z <- Mu (.ref it) 1;_) _ _ s
 refine FI (Ha oe od (x:=.int k 0) rfl ?_)
 show Gb _ _ (do let z <- Mv (.ref a);_) _ _ s
 refine FI (HR le ld ?_)
 simp only[H_,e]
 refine FI (wpAny_setField oe od (by simp) (FS ⟨v,rfl,FS (q _ ?_ (LI ..))⟩))
 refine⟨_,Lb _ oe (Obj.isFreed_of_fields (Obj.data_mapFields od _)),?_,?_⟩
 · exact(Obj.cls_mapFields ..).trans oc
 · rw[Obj.data_mapFields od];simp[Mp]
theorem vp(hd:A.handled=none)(st:s.heap.IsTupleIter it a k)(tu:s.heap.IsTuple a xs)(e:xs[k]?=none)
 (q:∀g x,Heap.ExtBut it s.heap g->(∃o,g.get? x=some o/\o.cls = .type "StopIteration")->E (.ref x) {s with heap:=g}):Gb (Gn prog w) A (GM (.ref it)) Q E s:=by
 have ty:=st.typeIs
 obtain⟨o,oe,oc,od⟩:=st
 obtain⟨l,le,_,_,ld⟩:=tu
 unfold GM
 have sl:=F.slot_tuple_iterator_next
 refine FI (G3 (name:=F0 "__next__") ty sl (HI sl ty F.entry_tuple_iterator_next ?_ (F.args_tuple_iterator_next_1 _)))
 show Gb _ _ (do let z <- Mu (.ref it) 0;_) _ _ s
 refine FI (Ha oe od (x:=.ref a) rfl ?_)
 show Gb _ _ (ite ((Ia a==Jh)=true) _ _) _ _ s
 rw[if_neg (show ¬(Ia a == .none)=true by intro z;cases z)]
 show Gb _ _ (do let z <- Mu (.ref it) 1;_) _ _ s
 refine FI (Ha oe od (x:=.int k 0) rfl ?_)
 show Gb _ _ (do let z <- Mv (.ref a);_) _ _ s
 refine FI (HR le ld ?_)
 simp only[H_,e]
 refine FI (Ji (FI (wpAny_setField oe od (by simp) ?_)))
 show Gb _ _ (do let z <- newExc (.type "StopIteration") [];_) _ _ _
 refine FI ?_
 simp only[newExc,newTuple]
 refine FI (GP ?_ (by size_fits))
 refine FI (m:=firstArgMember _ _) (LH (a:=.none) (by first|rfl|(simp only[firstArgMember];rfl)) (GP ?_ (by size_fits)))
 simp only[raiseNew]
 refine FI (wpAny_handled ?_)
 first
  | rw[show A.in1.handled=none from hd]
  | rw[hd]
 refine FI (FS (wpAny_throw ?_))
 exact q _ _ (((LI ..).extBut.push _).push _) ⟨_,FY _ rfl,rfl⟩
end
def Fh(h:Heap)(it a:Addr)(xs:Array Value)(k:Nat):Prop:=(h.IsListIter it a k/\h.IsList a xs)\/(h.IsTupleIter it a k/\h.IsTuple a xs)
section
variable{prog:Gi}{w:G5}{A:Hf}{E:Value->FO->Prop}{s:FO}{it a:Addr}{k:Nat}{xs:Array Value}{v:Value}
theorem Fh.item(st:Fh s.heap it a xs k)(ne:a≠it)(e:xs[k]?=some v)
 (q:∀g,Fh g it a xs (k+1)->Ij it s.heap g->Q v {s with heap:=g}):Gb (Gn prog w) A (GM (.ref it)) Q E s:=by
 rcases st with⟨h1,h2⟩|⟨h1,h2⟩
 · exact wpAny_nextOf_list_item h1 h2 e fun g h3 h4=>q g (.inl ⟨h3,h2.extBut h4.extBut ne⟩) h4
 · exact sr h1 h2 e fun g h3 h4=>q g (.inr ⟨h3,h2.extBut h4.extBut ne⟩) h4
theorem Fh.fin(hd:A.handled=none)(st:Fh s.heap it a xs k)(e:xs[k]?=none)
 (q:∀g x,Heap.ExtBut it s.heap g->(∃o,g.get? x=some o/\o.cls = .type "StopIteration")->E (.ref x) {s with heap:=g}):Gb (Gn prog w) A (GM (.ref it)) Q E s:=by
 rcases st with⟨h1,h2⟩|⟨h1,h2⟩
 · exact wpAny_nextOf_list_end hd h1 h2 e q
 · exact vp hd h1 h2 e q
theorem Fh.keep(st:Fh h it a xs k)(e1:∀o,h.get? it=some o->h'.get? it=some o)(e2:∀o,h.get? a=some o->h'.get? a=some o):Fh h' it a xs k:=by
 rcases st with⟨⟨o,h1,r1⟩,⟨p,h2,r2⟩⟩|⟨⟨o,h1,r1⟩,⟨p,h2,r2⟩⟩
 · exact .inl ⟨⟨o,e1 _ h1,r1⟩,⟨p,e2 _ h2,r2⟩⟩
 · exact .inr ⟨⟨o,e1 _ h1,r1⟩,⟨p,e2 _ h2,r2⟩⟩
theorem Fh.lt(st:Fh h it a xs k):it<h.objs.size/\a<h.objs.size:=by
 rcases st with⟨⟨o,h1,_⟩,⟨p,h2,_⟩⟩|⟨⟨o,h1,_⟩,⟨p,h2,_⟩⟩<;>exact⟨FW h1,FW h2⟩
end
section
variable{prog:Gi}{w:G5}{A:Hf}{E:Value->FO->Prop}{s:FO}{z ti to i1 i2 a1 a2:Addr}{k1 k2:Nat}{xs ys:Array Value}{x y p q:Value}
theorem SameBut.keep{b:Addr}(sb:Ij a h h')(ne:b≠a):∀o,h.get? b=some o->h'.get? b=some o:=fun o e=>sb.extBut _ _ ne e
theorem rJ(D:ZipApart z ti to i1 i2 a1 a2)(oz:Md s.heap z ti to .none)(oi:JY s.heap ti (.ref i1) (.ref i2))(oo:JY s.heap to p q)
 (s1:Fh s.heap i1 a1 xs k1)(s2:Fh s.heap i2 a2 ys k2)(ex:xs[k1]?=some x)(ey:ys[k2]?=some y)
 (done:∀g,Md g z ti to (Mp s.heap.objs.size)->JY g to x y->Fh g i1 a1 xs (k1+1)->Fh g i2 a2 ys (k2+1)->JY g s.heap.objs.size x y->g.objs.size=s.heap.objs.size+1 ->
  (∀b o,b≠z->b≠to->b≠i1->b≠i2->s.heap.get? b=some o->g.get? b=some o)->Q (.ref s.heap.objs.size) {s with heap:=g}) :
 Gb (Gn prog w) A (Builtin.«zip.__next__» ⟨[.ref z],[]⟩) (fun r s'=>∃u,r = .done (.ret u)/\Q u s') E s:=by
 show Gb _ _ (do let c <- Mu (.ref z) 2;_) _ _ _
 refine FI (Ha oz rfl (x:=.bool false) rfl ?_)
 show Gb _ _ (do let c <- Mu (.ref z) 3;_) _ _ _
 refine FI (Ha oz rfl (x:=.ref ti) rfl ?_)
 refine FI (HR oi rfl ?_)
 show Gb _ _ (do let c <- GX (.ref z);_) _ _ _
 refine FI ?_
 unfold GX
 refine FI (Ha oz rfl (x:=Jh) rfl (FS ?_))
 simp only[if_true]
 refine FI (Ji (FI (Ha oz rfl (x:=.ref to) rfl (FI (Hg oz (by simp) fun g1 z1 b1=>?_)))))
 have z1:Md g1 z ti to .ellipsis:=z1
 refine FI ?_
 simp only[JP,List.forIn_nil,List.zipIdx_cons,List.zipIdx_nil]
 have s1a:Fh g1 i1 a1 xs k1:=s1.keep (SameBut.keep b1 D.i1z) (SameBut.keep b1 D.l1z)
 refine FI (FI (KF ?_))
 show Gb _ _ (do let c <- GM (.ref i1);_) _ _ _
 refine FI (s1a.item D.l1i1 ex fun g2 s1b b2=>FS ?_)
 have o2:JY g2 to p q:=b2.extBut _ _ D.TOi1 (b1.extBut _ _ D.TOz oo)
 refine FI (HR o2 rfl (FI (JG o2 fun g3 o3 b3=>?_)))
 have o3:JY g3 to x q:=o3
 refine FI (Jd (FS ?_))
 have s2a:Fh g3 i2 a2 ys k2:=((s2.keep (SameBut.keep b1 D.i2z) (SameBut.keep b1 D.l2z)).keep (SameBut.keep b2 D.i12.symm) (SameBut.keep b2 D.l2i1)).keep (SameBut.keep b3 D.TOi2.symm) (SameBut.keep b3 D.l2TO)
 refine FI (FI (KF ?_))
 show Gb _ _ (do let c <- GM (.ref i2);_) _ _ _
 refine FI (s2a.item D.l2i2 ey fun g4 s2b b4=>FS ?_)
 have o4:JY g4 to x q:=b4.extBut _ _ D.TOi2 o3
 refine FI (HR o4 rfl (FI (JG o4 fun g5 o5 b5=>?_)))
 have o5:JY g5 to x y:=o5
 refine FI (Jd (FS (FS ?_)))
 refine FI (HR o5 rfl (FI (wpAny_newTuple ?_)))
 have size:g5.objs.size=s.heap.objs.size:=by rw[b5.1,b4.1,b3.1,b2.1,b1.1]
 have z5:Md g5 z ti to .ellipsis:=b5.extBut _ _ D.TOz.symm (b4.extBut _ _ D.i2z.symm (b3.extBut _ _ D.TOz.symm (b2.extBut _ _ D.i1z.symm z1)))
 have kp:∀b o,b≠z->b≠to->b≠i1->b≠i2->s.heap.get? b=some o->g5.get? b=some o:=fun b o n1 n2 n3 n4 e=>b5.extBut _ _ n2 (b4.extBut _ _ n4 (b3.extBut _ _ n2 (b2.extBut _ _ n3 (b1.extBut _ _ n1 e))))
 have s1c:Fh g5 i1 a1 xs (k1+1):=((s1b.keep (SameBut.keep b3 D.TOi1.symm) (SameBut.keep b3 D.l1TO)).keep (SameBut.keep b4 D.i12) (SameBut.keep b4 D.l1i2)).keep (SameBut.keep b5 D.TOi1.symm) (SameBut.keep b5 D.l1TO)
 have s2c:Fh g5 i2 a2 ys (k2+1):=s2b.keep (SameBut.keep b5 D.TOi2.symm) (SameBut.keep b5 D.l2TO)
 have zl:z<g5.objs.size:=FW z5
 show Gb _ _ (do HA (.ref z) (.ref g5.objs.size);_) _ _ _
 refine FI ?_
 unfold HA
 have z6:Md (g5.push {cls:=.type "tuple", data:=.seq #[x,y]}) z ti to .ellipsis:=FM _ z5
 refine FI (Hg z6 (by simp) fun g7 z7 b7=>?_)
 have z7:Md g7 z ti to (Mp g5.objs.size):=z7
 refine Hg z7 (by simp) fun g8 z8 b8=>?_
 have z8:Md g8 z ti to (Mp g5.objs.size):=z8
 have up:∀b o,b≠z->g5.get? b=some o->g8.get? b=some o:=fun b o n e=>b8.extBut _ _ n (b7.extBut _ _ n (FM _ e))
 have t8:JY g8 g5.objs.size x y:=b8.extBut _ _ (H0 zl) (b7.extBut _ _ (H0 zl) (FY _ rfl))
 have l8:g8.objs.size=g5.objs.size+1:=by rw[b8.1,b7.1,Ho]
 rw[size]at z8 t8 l8
 refine FS ⟨_,rfl,?_⟩
 show Q (.ref g5.objs.size) _
 rw[size]
 exact done g8 z8 (up _ _ D.TOz o5) (s1c.keep (fun o e=>up _ o D.i1z e) fun o e=>up _ o D.l1z e) (s2c.keep (fun o e=>up _ o D.i2z e) fun o e=>up _ o D.l2z e) t8 l8 fun b o n1 n2 n3 n4 e=>up b o n1 (kp b o n1 n2 n3 n4 e)
theorem uH{Q:Fin->FO->Prop}(hd:A.handled=none)(D:ZipApart z ti to i1 i2 a1 a2)(oz:Md s.heap z ti to .none)(oi:JY s.heap ti (.ref i1) (.ref i2))(oo:JY s.heap to p q)
 (s1:Fh s.heap i1 a1 xs k1)(s2:Fh s.heap i2 a2 ys k2)(e:xs[k1]?=none\/ys[k2]?=none)
 (q':∀g x,(∀b o,b≠z->b≠to->b≠i1->b≠i2->s.heap.get? b=some o->g.get? b=some o)->(∃o,g.get? x=some o/\o.cls = .type "StopIteration")->E (.ref x) {s with heap:=g}) :
 Gb (Gn prog w) A (Builtin.«zip.__next__» ⟨[.ref z],[]⟩) Q E s:=by
 show Gb _ _ (do let c <- Mu (.ref z) 2;_) _ _ _
 refine FI (Ha oz rfl (x:=.bool false) rfl ?_)
 show Gb _ _ (do let c <- Mu (.ref z) 3;_) _ _ _
 refine FI (Ha oz rfl (x:=.ref ti) rfl ?_)
 refine FI (HR oi rfl ?_)
 show Gb _ _ (do let c <- GX (.ref z);_) _ _ _
 refine FI ?_
 unfold GX
 refine FI (Ha oz rfl (x:=Jh) rfl (FS ?_))
 simp only[if_true]
 refine FI (Ji (FI (Ha oz rfl (x:=.ref to) rfl (FI (Hg oz (by simp) fun g1 z1 b1=>?_)))))
 have z1:Md g1 z ti to .ellipsis:=z1
 refine FI ?_
 simp only[JP,List.forIn_nil,List.zipIdx_cons,List.zipIdx_nil]
 have s1a:Fh g1 i1 a1 xs k1:=s1.keep (SameBut.keep b1 D.i1z) (SameBut.keep b1 D.l1z)
 refine FI (FI (KF ?_))
 show Gb _ _ (do let c <- GM (.ref i1);_) _ _ _
 have last:∀(g g':Heap)(u:Addr)(o:Obj),g.get? u=some o->o.cls = .type "StopIteration" -> Md g z ti to .ellipsis->Ij z g g'->∃o,g'.get? u=some o/\o.cls = .type "StopIteration" := fun g g' u o h1 h2 h3 sb=>by
  have ne:u≠z:=fun c=>by rw[c,h3]at h1;cases h1;simp at h2
  exact⟨o,sb.extBut _ _ ne h1,h2⟩
 cases ex:xs[k1]? with
 | none =>
   refine FI (s1a.fin hd ex fun g2 u b2 ⟨o,ou,oc⟩=>?_)
   have z2:Md g2 z ti to .ellipsis:=b2 _ _ D.i1z.symm z1
   exact Hg z2 (by simp) fun g3 _ b3=>q' g3 u (fun b o n1 _ n3 _ e=>b3.extBut _ _ n1 (b2 _ _ n3 (b1.extBut _ _ n1 e))) (last g2 g3 u o ou oc z2 b3)
 | some x =>
   have ey:ys[k2]?=none:=e.elim (fun h=>by rw[ex]at h;cases h) id
   refine FI (s1a.item D.l1i1 ex fun g2 s1b b2=>FS ?_)
   have o2:JY g2 to p q:=b2.extBut _ _ D.TOi1 (b1.extBut _ _ D.TOz oo)
   refine FI (HR o2 rfl (FI (JG o2 fun g3 o3 b3=>?_)))
   refine FI (Jd (FS ?_))
   have s2a:Fh g3 i2 a2 ys k2:=((s2.keep (SameBut.keep b1 D.i2z) (SameBut.keep b1 D.l2z)).keep (SameBut.keep b2 D.i12.symm) (SameBut.keep b2 D.l2i1)).keep (SameBut.keep b3 D.TOi2.symm) (SameBut.keep b3 D.l2TO)
   refine FI (FI (KF ?_))
   show Gb _ _ (do let c <- GM (.ref i2);_) _ _ _
   refine FI (s2a.fin hd ey fun g4 u b4 ⟨o,ou,oc⟩=>?_)
   have z4:Md g4 z ti to .ellipsis:=b4 _ _ D.i2z.symm (b3.extBut _ _ D.TOz.symm (b2.extBut _ _ D.i1z.symm z1))
   exact Hg z4 (by simp) fun g5 _ b5=>q' g5 u (fun b o n1 n2 n3 n4 e=>b5.extBut _ _ n1 (b4 _ _ n4 (b3.extBut _ _ n2 (b2.extBut _ _ n3 (b1.extBut _ _ n1 e))))) (last g4 g5 u o ou oc z4 b5)
end
def EJ(b:Bool)(h:Heap)(a:Addr)(xs:Array Value):Prop:=bif b then h.IsTuple a xs else h.IsList a xs
def DQ(b:Bool):String:=bif b then "tuple_iterator" else "list_iterator"
theorem EJ.push{b:Bool}{h:Heap}{a:Addr}{xs:Array Value}(q:EJ b h a xs)(o:Obj):EJ b (h.push o) a xs:=by
 cases b with
 | true=>exact Heap.IsTuple.push q o
 | false=>exact Heap.IsList.push q o
section
variable{prog:Gi}{w:G5}{A:Hf}{E:Value->FO->Prop}{s:FO}{b b1 b2:Bool}{a a1 a2:Addr}{xs ys:Array Value}
theorem qi(st:EJ b s.heap a xs)(q:Q (.ref s.heap.objs.size) {s with heap:=s.heap.push {cls:=.type (DQ b),data:=.fields #[.ref a,.int 0 0]}}):Gb (Gn prog w) A (Mn (.ref a)) Q E s:=by
 cases b with
 | true=>exact J8 st q
 | false=>exact Jw st q
abbrev y1(h:Heap)(b1:Bool)(a1:Addr):Heap:=h.push {cls:=.type (DQ b1),data:=.fields #[.ref a1,.int 0 0]}
abbrev y2(h:Heap)(b1 b2:Bool)(a1 a2:Addr):Heap:=(y1 h b1 a1).push {cls:=.type (DQ b2),data:=.fields #[.ref a2,.int 0 0]}
abbrev y3(h:Heap)(b1 b2:Bool)(a1 a2:Addr):Heap:=(y2 h b1 b2 a1 a2).push {cls:=.type "tuple", data:=.seq #[.ref h.objs.size,.ref (y1 h b1 a1).objs.size]}
abbrev y4(h:Heap)(b1 b2:Bool)(a1 a2:Addr):Heap:=(y3 h b1 b2 a1 a2).push {cls:=.type "tuple", data:=.seq #[.none,.none]}
abbrev y5(h:Heap)(b1 b2:Bool)(a1 a2:Addr):Heap:=(y4 h b1 b2 a1 a2).push {cls:=.type "zip", data:=.fields #[.none,.bool false,.bool false,.ref (y2 h b1 b2 a1 a2).objs.size,.ref (y3 h b1 b2 a1 a2).objs.size]}
theorem rK(b1 b2:Bool)(a1 a2:Addr)(xs ys:Array Value) :
 Meets (Builtin.«zip.__new__» ⟨[.type "zip", .ref a1,.ref a2],[]⟩) (fun _ R s=>EJ b1 s.heap a1 xs/\EJ b2 s.heap a2 ys/\R (.ok (.ret (.ref (y4 s.heap b1 b2 a1 a2).objs.size))) {s with heap:=y5 s.heap b1 b2 a1 a2}) :=
 .of_wp fun prog w A R s h=>by
  obtain⟨hp,g,d,tk,os⟩:=s
  obtain⟨q1,q2,h⟩:=h
  have hsub:=sub_zip
  have k1:EJ b1 (Mw ⟨hp,g,d,tk,os⟩) a1 xs:=q1
  have k2:EJ b2 (Mw ⟨hp.push {cls:=.type (DQ b1),data:=.fields #[.ref a1,.int 0 0]},g,d,tk,os⟩) a2 ys:=q2.push _
  wp_walk using qi k1,qi k2
  exact⟨_,rfl,h⟩
theorem qK(q1:EJ b1 s.heap a1 xs)(q2:EJ b2 s.heap a2 ys)
 (k:∀g,Md g (s.heap.objs.size+4) (s.heap.objs.size+2) (s.heap.objs.size+3) .none->JY g (s.heap.objs.size+2) (.ref s.heap.objs.size) (.ref (s.heap.objs.size+1))->JY g (s.heap.objs.size+3) .none .none ->
  Fh g s.heap.objs.size a1 xs 0->Fh g (s.heap.objs.size+1) a2 ys 0->g.objs.size=s.heap.objs.size+5->(∀c o,s.heap.get? c=some o->g.get? c=some o)->Q (.ref (s.heap.objs.size+4)) {s with heap:=g}) :
 Gb (Gn prog w) A (call (.type "zip") [.ref a1,.ref a2]) Q E s:=by
 refine callType_new F.called_zip (by decide) (F.typeCall_zip_2 _ _) (F.newCall_zip_2 _ _) (fun u=>F.args_object_init_3 u _ _) F.entry_zip_new (rK b1 b2 a1 a2 xs ys) ⟨q1,q2,?_⟩
 have n1:(y1 s.heap b1 a1).objs.size=s.heap.objs.size+1:=Ho ..
 have n2:(y2 s.heap b1 b2 a1 a2).objs.size=s.heap.objs.size+2:=by rw[Ho,n1]
 have n3:(y3 s.heap b1 b2 a1 a2).objs.size=s.heap.objs.size+3:=by rw[Ho,n2]
 have n4:(y4 s.heap b1 b2 a1 a2).objs.size=s.heap.objs.size+4:=by rw[Ho,n3]
 have n5:(y5 s.heap b1 b2 a1 a2).objs.size=s.heap.objs.size+5:=by rw[Ho,n4]
 have pu:∀{h:Heap}{o u:Obj}{c:Addr},h.get? c=some u->(h.push o).get? c=some u:=fun e=>FM _ e
 have kp:∀c o,s.heap.get? c=some o->(y5 s.heap b1 b2 a1 a2).get? c=some o:=fun c o e=>pu (pu (pu (pu (pu e))))
 have f5:(y5 s.heap b1 b2 a1 a2).get? (y4 s.heap b1 b2 a1 a2).objs.size=some _:=FY _ rfl
 have f4:(y5 s.heap b1 b2 a1 a2).get? (y3 s.heap b1 b2 a1 a2).objs.size=some _:=pu (FY _ rfl)
 have f3:(y5 s.heap b1 b2 a1 a2).get? (y2 s.heap b1 b2 a1 a2).objs.size=some _:=pu (pu (FY _ rfl))
 have f2:(y5 s.heap b1 b2 a1 a2).get? (y1 s.heap b1 a1).objs.size=some _:=pu (pu (pu (FY _ rfl)))
 have f1:(y5 s.heap b1 b2 a1 a2).get? s.heap.objs.size=some _:=pu (pu (pu (pu (FY _ rfl))))
 show _/\_
 rw[n2,n3,n4]at f5
 rw[n1,n2]at f3
 rw[n3]at f4
 rw[n1]at f2
 rw[n4]
 have mk:∀{b:Bool}{i a:Addr}{zs:Array Value},(y5 s.heap b1 b2 a1 a2).get? i=some {cls:=.type (DQ b),data:=.fields #[.ref a,.int 0 0]}->EJ b s.heap a zs->Fh (y5 s.heap b1 b2 a1 a2) i a zs 0:=fun{b i a zs} e q=>by
  cases b with
  | true=>obtain⟨o,h1,h2⟩:=(show s.heap.IsTuple a zs from q);exact .inr ⟨⟨_,e,rfl,rfl⟩,⟨o,kp _ _ h1,h2⟩⟩
  | false=>obtain⟨o,h1,h2⟩:=(show s.heap.IsList a zs from q);exact .inl ⟨⟨_,e,rfl,rfl⟩,⟨o,kp _ _ h1,h2⟩⟩
 exact⟨⟨_,f5,rfl⟩,k _ f5 f3 f4 (mk f1 q1) (mk f2 q2) n5 kp⟩
end
end L2.ZP
namespace L2
open PySem PySem.Spec PyProof.Rows L2.ZP
theorem Inv.turnedL{ch:List Addr}(I:Inv X pins σ H s)(k:∀b o,b∉ch->s.heap.get? b=some o->h'.get? b=some o)(hn:∀b∈ch,iF X pins H b) :
 Inv X pins σ H {s with heap:=h',toks:=t' }:=by
 have nit:∀b u,H b=some u->b∉ch:=fun b u e z=>by rw[(hn b z).1]at e;cases e
 refine I.step (g':=s.gens) (d':=s.drawn) (ch:=ch) (fun b hb=>?_) (fun b o _ _ hc e _=>k b o hc e) (fun b o _ _ hc e _=>⟨o.slots,k b o hc e⟩) (fun _ _ _ _ n=>n) (fun b o hc e=>⟨o,k b o hc e⟩) (fun _ _ e=>e) (fun _ _ _ e=>e) (fun b ps e=>⟨#[],by rw[e];simp⟩) (fun m hm=>?_) (fun b u e=>?_) I.bare
 · obtain⟨_,h2,_,h4,h5,h6⟩:=hn b hb
   exact⟨h4,h2,h5,h6⟩
 · obtain⟨o,es,ep,ho,r⟩:=hm
   exact⟨o,es,ep,k _ o (fun z=>(hn _ z).2.1 rfl) ho,r⟩
 · refine(I.hok b u e).stay (fun c v hc q=>k c v ?_ q) (fun _ q=>q) fun _ _ q=>q
   rcases hc with z|z
   · rw[z];exact nit b u e
   · exact nit c _ z
def EI(b:Bool)(K:W.Frag)(H:Hp)(a:Addr)(xs:List V):Prop:=bif b then EG K H a xs else EH K H a xs
theorem Inv.sqB{b:Bool}{xs:List V}(I:Inv X pins σ H s)(h:EI b X.K H a xs):∃its,cj xs its/\EJ b s.heap a its.toArray:=by
 cases b with
 | true =>
   obtain⟨its,r,t,z⟩:=I.tuple h
   exact⟨its,r,t⟩
 | false =>
   obtain⟨its,r,p,z⟩:=I.list h
   exact⟨its,r,p.isList⟩
theorem Inv.sqB_inj{b:Bool}{xs ys:List V}(I:Inv X pins σ H s)(h:EI b X.K H a xs)(h':EI b X.K H a ys):xs=ys:=by
 cases b with
 | true=>exact I.tuple_inj h h'
 | false=>exact I.list_inj h h'
def Fa(K:W.Frag)(b1 b2:Bool)(a1 a2:Addr):It :=
 ⟨fun i H=>∃xs ys x y,EI b1 K H a1 xs/\EI b2 K H a2 ys/\xs[i]?=some x/\ys[i]?=some y,
  fun i H v H'=>∃x y p,(∀xs,EI b1 K H a1 xs->xs[i]?=some x)/\(∀ys,EI b2 K H a2 ys->ys[i]?=some y)/\H p=none/\v = .ref p/\H'=Cs H p (.tup [x,y]),
  fun i H=>∃xs ys,EI b1 K H a1 xs/\EI b2 K H a2 ys/\(xs.length<=i\/ys.length<=i)⟩
def Fi(b:Bool)(h:Heap)(it a:Addr)(k:Nat):Prop:=bif b then h.IsTupleIter it a k else h.IsListIter it a k
theorem Fi.it1{b:Bool}{k:Nat}{xs:Array Value}(q:Fi b h it a k)(r:EJ b h a xs):Fh h it a xs k:=by
 cases b with
 | true=>exact .inr ⟨q,r⟩
 | false=>exact .inl ⟨q,r⟩
theorem Fi.keep{b:Bool}{k:Nat}(q:Fi b h it a k)(e:∀o,h.get? it=some o->h'.get? it=some o):Fi b h' it a k:=by
 cases b with
 | true=>obtain⟨o,h1,r⟩:=(show h.IsTupleIter it a k from q);exact⟨o,e _ h1,r⟩
 | false=>obtain⟨o,h1,r⟩:=(show h.IsListIter it a k from q);exact⟨o,e _ h1,r⟩
theorem Fi.obj{b:Bool}{k:Nat}(q:Fi b h it a k):∃o,h.get? it=some o/\∀v,o.data ≠ .cell v:=by
 cases b with
 | true=>obtain⟨o,h1,_,d⟩:=(show h.IsTupleIter it a k from q);exact⟨o,h1,fun v z=>by rw[d]at z;cases z⟩
 | false=>obtain⟨o,h1,_,d⟩:=(show h.IsListIter it a k from q);exact⟨o,h1,fun v z=>by rw[d]at z;cases z⟩
theorem Fh.ir{b:Bool}{k:Nat}{xs:Array Value}{h0:Heap}(q:Fh h it a xs k)(r:Fi b h0 it a j)(s:EJ b h a xs):Fi b h it a k:=by
 cases b with
 | true =>
   rcases q with⟨_,⟨o,e,c,_⟩⟩|⟨q,_⟩
   · obtain⟨o',e',c',_⟩:=(show h.IsTuple a xs from s)
     rw[e]at e';cases e';rw[c]at c';injection c' with z;exact absurd z (by decide)
   · exact q
 | false =>
   rcases q with⟨q,_⟩|⟨_,⟨o,e,c,_⟩⟩
   · exact q
   · obtain⟨o',e',c',_⟩:=(show h.IsList a xs from s)
     rw[e]at e';cases e';rw[c]at c';injection c' with z;exact absurd z (by decide)
def ZS(b1 b2:Bool)(z ti to i1 i2 a1 a2:Addr)(i:Nat)(h:Heap):Prop:=Md h z ti to .none/\JY h ti (.ref i1) (.ref i2)/\(∃p q,JY h to p q)/\Fi b1 h i1 a1 i/\Fi b2 h i2 a2 i
theorem EJ.of{b:Bool}{xs:Array Value}(q:EJ b h a xs)(e:∀o,h.get? a=some o->h'.get? a=some o):EJ b h' a xs:=by
 cases b with
 | true=>obtain⟨o,h1,r⟩:=(show h.IsTuple a xs from q);exact⟨o,e _ h1,r⟩
 | false=>obtain⟨o,h1,r⟩:=(show h.IsList a xs from q);exact⟨o,e _ h1,r⟩
theorem pA{w:G5}{K:W.Frag}{elts:List Expr}{kt:Nat}{pt:Pos}(b1 b2:Bool)(z ti to i1 i2 a1 a2:Addr)(D:ZipApart z ti to i1 i2 a1 a2) :
 Turn P w K (.Tuple elts kt pt) (Fa K b1 b2 a1 a2) [z,ti,to,i1,i2] z (ZS b1 b2 z ti to i1 i2 a1 a2) where
 mem:=by simp
 obj:=fun i h ⟨h1,h2,⟨p,q,h3⟩,h4,h5⟩ b hb=>by
  simp at hb
  rcases hb with rfl|rfl|rfl|rfl|rfl
  · exact⟨_,h1,fun v c=>by cases c⟩
  · exact⟨_,h2,fun v c=>by cases c⟩
  · exact⟨_,h3,fun v c=>by cases c⟩
  · exact h4.obj
  · exact h5.obj
 keep:=fun i h h' ⟨h1,h2,⟨p,q,h3⟩,h4,h5⟩ k=>⟨k z (by simp) _ h1,k ti (by simp) _ h2,⟨p,q,k to (by simp) _ h3⟩,h4.keep fun o e=>k i1 (by simp) o e,h5.keep fun o e=>k i2 (by simp) o e⟩
 item:=by
  intro X hP hw hK hc i pins s σ H E I hf st hg
  subst hP hw hK
  obtain⟨h1,h2,⟨p,q,h3⟩,h4,h5⟩:=st
  obtain⟨xs,ys,x,y,q1,q2,ex,ey⟩:=hg
  obtain⟨its,r1,t1⟩:=I.sqB q1
  obtain⟨jts,r2,t2⟩:=I.sqB q2
  obtain⟨u,hu,ru⟩:=r1.get ex
  obtain⟨v,hv,rv⟩:=r2.get ey
  have ty:s.TypeIs (.ref z) "zip" := ⟨_,h1,rfl⟩
  unfold Ki
  refine FI (KG (G3 (name:=F0 "__next__") ty F.slot_zip_next (HI F.slot_zip_next ty F.entry_zip_next
   (rJ D h1 h2 h3 (h4.it1 t1) (h5.it1 t2) (by simpa using hu) (by simpa using hv) fun g e1 e2 e3 e4 e5 e6 e7=>FS ?_) (F.args_zip_next_1 _))))
  have hz:s.heap.objs.size≠z:=H0 (FW h1)
  refine⟨.ref s.heap.objs.size,rfl,wpAny_letOwnedTupleGo_zip e1 fun g' f1 fb=>?_⟩
  have hp:H s.heap.objs.size=none:=I.hok.fresh (FQ _)
  have I1:Inv X pins σ (Cs H s.heap.objs.size (.tup [x,y])) {s with heap:=s.heap.push {cls:=.type "tuple", data:=.seq [u,v].toArray}} :=
   I.laid (t':=s.toks) (o:=.tup [x,y]) (fun b ob e=>FM _ e) (FQ _) ⟨(by show 2<=sizeLine;decide),[u,v],.cons ru (.cons rv .nil),o7.new _ _⟩
  have ne:∀b∈[z,ti,to,i1,i2],b≠s.heap.objs.size:=fun b hb e=>by
   simp at hb
   rcases hb with rfl|rfl|rfl|rfl|rfl
   · exact hz e.symm
   · exact absurd (FW h2) (by rw[e];exact GT _)
   · exact absurd (FW h3) (by rw[e];exact GT _)
   · obtain⟨o,ho,_⟩:=h4.obj
     exact absurd (FW ho) (by rw[e];exact GT _)
   · obtain⟨o,ho,_⟩:=h5.obj
     exact absurd (FW ho) (by rw[e];exact GT _)
  have kg:∀b o,b∉[z,ti,to,i1,i2]->(s.heap.push {cls:=.type "tuple", data:=.seq [u,v].toArray}).get? b=some o->g'.get? b=some o:=fun b o hb e=>by
   simp at hb
   obtain⟨n1,n2,n3,n4,n5⟩:=hb
   refine fb.extBut _ _ n1 ?_
   by_cases hbn:b=s.heap.objs.size
   · subst hbn
     rw[FY _ rfl]at e
     cases e
     exact e5
   · exact e7 b o n1 n3 n4 n5 (by rw[Heap.get?_push_ne _ _ _ hbn]at e;exact e)
  have fp1:∀b∈[z,ti,to,i1,i2],iF X pins (Cs H s.heap.objs.size (.tup [x,y])) b:=fun b hb=>by
   obtain⟨f0,fr⟩:=hf b hb
   exact⟨by rw[ar (ne b hb)];exact f0,fr⟩
  have I2:Inv X pins σ (Cs H s.heap.objs.size (.tup [x,y])) {s with heap:=g' }:=I1.turnedL (t':=s.toks) kg fp1
  have k8:∀b o,b≠z->g.get? b=some o->g'.get? b=some o:=fun b o n e=>fb.extBut _ _ n e
  have t1':EJ b1 g a1 its.toArray:=EJ.of t1 fun o e=>e7 _ o D.l1z D.l1TO D.l1i1 D.l1i2 e
  have t2':EJ b2 g a2 jts.toArray:=EJ.of t2 fun o e=>e7 _ o D.l2z D.l2TO D.l2i1 D.l2i2 e
  refine⟨.ref s.heap.objs.size,_,I2,rfl,⟨x,y,_,fun xs' q'=>by rw[I.sqB_inj q' q1];exact ex,fun ys' q'=>by rw[I.sqB_inj q' q2];exact ey,hp,rfl,rfl⟩,⟨f1,k8 _ _ D.TIz (e7 _ _ D.TIz D.TITO D.TIi1 D.TIi2 h2),⟨_,_,k8 _ _ D.TOz e2⟩,(Fh.ir e3 h4 t1').keep fun o e=>k8 _ o D.i1z e,(Fh.ir e4 h5 t2').keep fun o e=>k8 _ o D.i2z e⟩,fun b hb=>(fp1 b hb).1⟩
 done:=by
  intro X hP hw hK hc i pins s σ H E I hf st hg
  subst hP hw hK
  obtain⟨h1,h2,⟨p,q,h3⟩,h4,h5⟩:=st
  obtain⟨xs,ys,q1,q2,ex⟩:=hg
  obtain⟨its,r1,t1⟩:=I.sqB q1
  obtain⟨jts,r2,t2⟩:=I.sqB q2
  have l1:=r1.length
  have l2:=r2.length
  have ty:s.TypeIs (.ref z) "zip" := ⟨_,h1,rfl⟩
  unfold Ki
  refine FI (KG (G3 (name:=F0 "__next__") ty F.slot_zip_next (HI F.slot_zip_next ty F.entry_zip_next
   (uH (I.ok.hd hc) D h1 h2 h3 (h4.it1 t1) (h5.it1 t2) (by simp;omega) fun g e kg ⟨o,ho,hoc⟩=>?_) (F.args_zip_next_1 _))))
  refine FI (wpAny_isInstance (T := "StopIteration") (b:=true) ⟨o,ho,hoc⟩ isSubtype_stop (FS ⟨rfl,?_⟩))
  exact I.turnedL (t':=s.toks) (fun b o hb e=>by simp at hb;exact kg b o hb.1 hb.2.2.1 hb.2.2.2.1 hb.2.2.2.2 e) hf
 self:=fun _ _ _ _ _ st h=>wpAny_pyIter_zip st.1 h
open PySem PySem.Spec PyProof.Rows L2.ZP
section
variable{X:Cx}{e1 e2:Expr}{ta:TA}{elts:List Expr}{kt:Nat}{pt p pos:Pos}
def BG(K:W.Frag)(b1 b2:Bool)(t:TA):TI:=fun σ H R=>t σ H fun vs H1=>∃a1 a2 xs ys,vs=[.ref a1,.ref a2]/\EI b1 K H1 a1 xs/\EI b2 K H1 a2 ys/\R (Fa K b1 b2 a1 a2) H1
theorem wa(b1 b2:Bool)(hg:Gl X "zip")(hm:X.mg "zip" = none)(ha:PA X [e1,e2] ta)(hs:FU [e1,e2] X.env=(false,eval e1 X.env)::FU [e2] X.env:=by rfl)(hpl:(Hs pos (FU [e2] X.env)).any (·.1)=false:=by rfl) :
 PI X (.Tuple elts kt pt) (.Call (.Name "zip" p) [e1,e2] [] pos) (BG X.K b1 b2 ta):=by
 intro pins s σ H R I h
 refine Call_ (dm I hg hm (by rfl) (GN (CF (ha pos pins s σ H _ I h) fun us s1 ⟨vs,H1,I1,r1,q1⟩=>?_) hs hpl) (by decide) (by decide))
 obtain⟨a1,a2,xs,ys,ev,q1,q2,q⟩:=q1
 subst ev
 cases r1 with
 | cons r rr =>
   cases rr with
   | cons r' rr =>
     cases rr
     cases r
     cases r'
     obtain⟨its,v1,t1⟩:=I1.sqB q1
     obtain⟨jts,v2,t2⟩:=I1.sqB q2
     refine qK t1 t2 fun g f1 f2 f3 f4 f5 f6 kp=>wpAny_pyIter_zip f1 ?_
     have lt1:a1<s1.heap.objs.size/\a2<s1.heap.objs.size:=by
      constructor
      · cases b1 with
        | true=>obtain⟨o,ho,_⟩:=(show s1.heap.IsTuple a1 _ from t1);exact FW ho
        | false=>obtain⟨o,ho,_⟩:=(show s1.heap.IsList a1 _ from t1);exact FW ho
      · cases b2 with
        | true=>obtain⟨o,ho,_⟩:=(show s1.heap.IsTuple a2 _ from t2);exact FW ho
        | false=>obtain⟨o,ho,_⟩:=(show s1.heap.IsList a2 _ from t2);exact FW ho
     obtain⟨l1,l2⟩:=lt1
     have ap:∀{n c:Nat},c<n->∀k:Nat,c≠n+k:=fun h k e=>by omega
     have D:ZipApart (s1.heap.objs.size+4) (s1.heap.objs.size+2) (s1.heap.objs.size+3) s1.heap.objs.size (s1.heap.objs.size+1) a1 a2:=by
      generalize hN:s1.heap.objs.size=N at l1 l2
      exact⟨by simp,by simp,by simp,by simp,by simp,by simp,by simp,by simp,by simp,by simp,ap l1 4,ap l1 3,ap l1 0,ap l1 1,ap l2 4,ap l2 3,ap l2 0,ap l2 1⟩
     have kg:∀b o,s1.heap.get? b=some o->g.get? b=some o:=kp
     have I2:Inv X pins σ H1 {s1 with heap:=g}:=I1.kept (t':=s1.toks) kg
     have ir:∀{b:Bool}{it a:Addr}{zs:Array Value},Fh g it a zs 0->EJ b s1.heap a zs->Fi b g it a 0:=fun{b it a zs} q r=>by
      have r':=EJ.of r fun o e=>kg _ o e
      cases b with
      | true =>
        rcases q with⟨_,⟨o,e,c,_⟩⟩|⟨q,_⟩
        · obtain⟨o',e',c',_⟩:=(show g.IsTuple a zs from r')
          rw[e]at e';cases e';rw[c]at c';injection c' with z;exact absurd z (by decide)
        · exact q
      | false =>
        rcases q with⟨q,_⟩|⟨_,⟨o,e,c,_⟩⟩
        · exact q
        · obtain⟨o',e',c',_⟩:=(show g.IsList a zs from r')
          rw[e]at e';cases e';rw[c]at c';injection c' with z;exact absurd z (by decide)
     refine⟨_,[s1.heap.objs.size+4,s1.heap.objs.size+2,s1.heap.objs.size+3,s1.heap.objs.size,s1.heap.objs.size+1],_,_,H1,rfl,I2,pA b1 b2 _ _ _ _ _ a1 a2 D,⟨f1,f2,⟨_,_,f3⟩,ir f4 t1,ir f5 t2⟩,fun b hb=>?_,q⟩
     have hb':s1.heap.objs.size<=b:=by
      simp at hb
      rcases hb with rfl|rfl|rfl|rfl|rfl
      · exact Jc _ 4
      · exact Jc _ 2
      · exact Jc _ 3
      · exact FQ _
      · exact Jc _ 1
     exact I1.fpOk hb' (I1.hok.fresh hb')
end
end L2
namespace L2.VL
section
variable{X:Cx}{rl:RlT}{a b:Expr}{elts:List Expr}{kt:Nat}{pt p pos:Pos}{fs:EA}
def ko(xs ys:List FH):List FH:=List.zipWith (fun x y=>.tuple [x,y]) xs ys
def cZ:FH->Bool
 | .tuple _=>true
 | _=>false
theorem nl{K:W.Frag}(r:Rep K F v d)(e:eU d=some xs):∃a vs,v = .ref a/\Reps K F vs xs/\∀H,bC F H->EI (cZ d) K H a vs:=by
 cases r with
 | tup sq rs=>cases e;exact⟨_,_,rfl,rs,fun H s=>d6 s sq⟩
 | lst h rs=>cases e;exact⟨_,_,rfl,rs,fun H s=>.inl (.inl (s _ _ h))⟩
 | non=>cases e
 | bl b=>cases e
 | int i=>cases e
 | str x=>cases e
theorem km{ys:List FH}{i:Nat}(h:(ko xs ys)[i]?=some d):∃x y,xs[i]?=some x/\ys[i]?=some y/\d = .tuple [x,y]:=by
 unfold ko at h
 rw[List.getElem?_zipWith]at h
 cases ex:xs[i]? with
 | none=>rw[ex]at h;cases h
 | some x =>
   cases ey:ys[i]? with
   | none=>rw[ex,ey]at h;cases h
   | some y=>rw[ex,ey]at h;cases h;exact⟨x,y,rfl,rfl,rfl⟩
theorem uO(b1 b2:Bool)(hm:X.mg "zip" = none)(ha:EO X rl [a,b] fs)(hg:Gl X "zip" := by rfl)(hs:FU [a,b] X.env=(false,eval a X.env)::FU [b] X.env:=by rfl)(hpl:(Hs pos (FU [b] X.env)).any (·.1)=false:=by rfl) :
 EX X rl (.Tuple elts kt pt) (.Call (.Name "zip" p) [a,b] [] pos) (fun ρ Q=>fs ρ fun ws=>∃dx dy xs ys,ws=[.d dx,.d dy]/\eU dx=some xs/\eU dy=some ys/\cZ dx=b1/\cZ dy=b2/\Q (ko xs ys)):=by
 obtain⟨t,p1,k⟩:=ha
 refine⟨_,wa b1 b2 hg hm p1 hs hpl,fun R Qd Q q h=>k R _ _ q fun vs ws F1 H1 g1 r1 ⟨dx,dy,xs,ys,ew,e1,e2,kb1,kb2,q1⟩=>?_⟩
 subst ew kb1 kb2
 obtain⟨v,u,rfl,rv,ru⟩:=yI r1
 obtain⟨a1,vs,rfl,rs,sq1⟩:=nl rv e1
 obtain⟨a2,us,rfl,rt,sq2⟩:=nl ru e2
 refine⟨a1,a2,vs,us,rfl,sq1 _ g1.sub,sq2 _ g1.sub,h _ (ko xs ys) F1 H1 g1 ⟨fun i H x e s=>?_,fun i H hl s=>?_,fun i H v H' x F2 e s s2 ra y=>?_⟩ q1⟩
 · obtain⟨x1,y1,ex,ey,_⟩:=km e
   obtain⟨v1,ev1,_⟩:=rs.get ex
   obtain⟨u1,eu1,_⟩:=rt.get ey
   exact⟨vs,us,v1,u1,sq1 _ s,sq2 _ s,ev1,eu1⟩
 · refine⟨vs,us,sq1 _ s,sq2 _ s,?_⟩
   unfold ko at hl
   rw[List.length_zipWith]at hl
   rw[rs.length,rt.length]
   omega
 · obtain⟨x1,y1,ex,ey,ed⟩:=km e
   obtain⟨vx,vy,pp,hx,hy,hp,ev,eH⟩:=y
   obtain⟨v1,ev1,rv1⟩:=rs.get ex
   obtain⟨u1,eu1,ru1⟩:=rt.get ey
   have h1:=hx vs (sq1 _ (s.trans s2))
   have h2:=hy us (sq2 _ (s.trans s2))
   rw[ev1]at h1
   rw[eu1]at h2
   cases h1
   cases h2
   subst ev eH ed
   have g:=Grow.data (a:=pp) (o:=.tup [vx,vy]) s2 ra hp
   exact⟨_,g,.tup (.inl (.inl av)) (.cons ((rv1.mono s).mono g.fs) (.cons ((ru1.mono s).mono g.fs) .nil))⟩
def DV(b1 b2:Bool)(fs:EA):En->(List FH->Prop)->Prop:=fun ρ Q=>fs ρ fun ws=>∃dx dy xs ys,ws=[.d dx,.d dy]/\eU dx=some xs/\eU dy=some ys/\cZ dx=b1/\cZ dy=b2/\Q (ko xs ys)
theorem kD(hm:X.mg "zip" = none)(ha:EO X rl [a,b] fs)(hg:Gl X "zip" := by rfl)(hs:FU [a,b] X.env=(false,eval a X.env)::FU [b] X.env:=by rfl)(hpl:(Hs pos (FU [b] X.env)).any (·.1)=false:=by rfl) :
 EX X rl (.Tuple elts kt pt) (.Call (.Name "zip" p) [a,b] [] pos) (DV true true fs):=uO true true hm ha hg hs hpl
end
theorem nr{α:Sort u}{a b:α}(h:a=b):a=b:=h
abbrev Mo(α:Type):=(α->Prop)->Prop
def ret{α:Type}(a:α):Mo α:=fun Q=>Q a
def Ek{α β:Type}(m:Mo α)(f:α->Mo β):Mo β:=fun Q=>m fun a=>f a Q
def D2{α:Type}(P:Prop)(m:Mo α):Mo α:=fun Q=>P/\m Q
def stk{α:Type}:Mo α:=fun _=>False
def anyM{α:Type}(P:α->Prop):Mo α:=fun Q=>∀a,P a->Q a
def aU{α β:Type}(o:Option α)(f:α->Mo β):Mo β:=match o with
 | some a=>f a
 | none=>stk
section
variable{α β γ:Type}
theorem bnd_ret(a:α)(f:α->Mo β):Ek (ret a) f=f a:=nr rfl
theorem bnd_bnd(m:Mo α)(f:α->Mo β)(g:β->Mo γ):Ek (Ek m f) g=Ek m fun a=>Ek (f a) g:=nr rfl
theorem bnd_grd(P:Prop)(m:Mo α)(f:α->Mo β):Ek (D2 P m) f=D2 P (Ek m f):=nr rfl
theorem bnd_stk(f:α->Mo β):Ek stk f=stk:=nr rfl
theorem bnd_ite(c:Prop)[Decidable c](a b:Mo α)(f:α->Mo β):Ek (if c then a else b) f=if c then Ek a f else Ek b f:=by split<;>rfl
theorem bnd_opt(o:Option α)(k:α->Mo β)(f:β->Mo γ):Ek (aU o k) f=aU o fun a=>Ek (k a) f:=by cases o<;>rfl
theorem opt_some(a:α)(k:α->Mo β):aU (some a) k=k a:=nr rfl
theorem opt_none(k:α->Mo β):aU none k=stk:=nr rfl
theorem ai{P:Prop}(h:P)(m:Mo α):D2 P m=m:=by funext Q;exact propext ⟨fun z=>z.2,fun z=>⟨h,z⟩⟩
theorem grd_T(m:Mo α):D2 True m=m:=ai trivial m
theorem fY(c:Prop)[Decidable c](a b:Mo α)(Q:α->Prop):(if c then a else b) Q=if c then a Q else b Q:=by split<;>rfl
theorem ag{m n:Mo α}(h:∀Q,m Q↔n Q):m=n:=funext fun Q=>propext (h Q)
end
def asI:W->Option Int
 | .d (.int i)=>some i
 | _=>none
def asB:W->Option Bool
 | .d (.bool b)=>some b
 | _=>none
def asS:W->Option Str
 | .d (.str b)=>some b
 | _=>none
def asD:W->Option FH
 | .d x=>some x
 | _=>none
def lstD:FH->Option (List FH)
 | .list xs=>some xs
 | _=>none
def tupD:FH->Option (List FH)
 | .tuple xs=>some xs
 | _=>none
def Ev(w:W):Option (List FH):=w.dat.bind lstD
def Er(w:W):Option (List FH):=(asD w).bind tupD
def Eu(w:W):Option (List FH):=w.dat.bind eU
def CC:W->Option Int
 | .d (.int i)=>some i
 | .d (.bool b)=>some (if b then 1 else 0)
 | _=>none
def BE:W->Option String
 | .vv (.ty T)=>some T
 | _=>none
def zH:List FH->Option (List Bool)
 | []=>some []
 | .bool b::r=>(zH r).map (b :: ·)
 | _=>none
def jh:List FH->Option (List Int)
 | []=>some []
 | .int b::r=>(jh r).map (b :: ·)
 | _=>none
theorem blsD_map:∀bs:List Bool,zH (bs.map .bool)=some bs
 | []=>rfl
 | b::bs=>by show(zH (bs.map .bool)).map (b :: ·)=_;rw[blsD_map bs];rfl
theorem intsD_map:∀bs:List Int,jh (bs.map .int)=some bs
 | []=>rfl
 | b::bs=>by show(jh (bs.map .int)).map (b :: ·)=_;rw[intsD_map bs];rfl
theorem lg:∀{xs:List FH}{bs:List Int},jh xs=some bs->xs=bs.map .int
 | [],bs,h=>by cases h;rfl
 | .int b::r,bs,h=>by
   have h:(jh r).map (b :: ·)=some bs:=h
   cases q:jh r with
   | none=>rw[q]at h;cases h
   | some cs=>rw[q]at h;cases h;rw[lg q];rfl
 | .none::_,_,h=>by cases h
 | .bool _::_,_,h=>by cases h
 | .str _::_,_,h=>by cases h
 | .list _::_,_,h=>by cases h
 | .tuple _::_,_,h=>by cases h
 | .dict _::_,_,h=>by cases h
theorem asI_d(i:Int):asI (.d (.int i))=some i:=rfl
theorem asB_d(i:Bool):asB (.d (.bool i))=some i:=rfl
theorem asS_d(i:Str):asS (.d (.str i))=some i:=rfl
theorem asD_d(i:FH):asD (.d i)=some i:=rfl
theorem asT_d(x:FH):Er (.d x)=tupD x:=rfl
theorem asL_d(x:FH):Ev (.d x)=lstD x:=rfl
theorem asL_ml(x:List FH):Ev (.ml x)=some x:=rfl
theorem asL_pk(x:List FH):Ev (.pk x)=some x:=rfl
theorem asQ_d(x:FH):Eu (.d x)=eU x:=rfl
theorem asQ_ml(x:List FH):Eu (.ml x)=some x:=rfl
theorem asQ_pk(x:List FH):Eu (.pk x)=some x:=rfl
theorem lstD_l(x:List FH):lstD (.list x)=some x:=rfl
theorem tupD_t(x:List FH):tupD (.tuple x)=some x:=rfl
theorem toI_i(i:Int):CC (.d (.int i))=some i:=rfl
theorem toI_b(i:Bool):CC (.d (.bool i))=some (if i then 1 else 0):=rfl
theorem isiT_t(T:String):BE (.vv (.ty T))=some T:=rfl
theorem dH{w:W}{i:Int}:asI w=some i↔w = .d (.int i):=by
 constructor
 · intro h;unfold asI at h;split at h<;>simp_all
 · rintro rfl;rfl
theorem lz{w:W}{i:Bool}:asB w=some i↔w = .d (.bool i):=by
 constructor
 · intro h;unfold asB at h;split at h<;>simp_all
 · rintro rfl;rfl
theorem xy{w:W}{i:Str}:asS w=some i↔w = .d (.str i):=by
 constructor
 · intro h;unfold asS at h;split at h<;>simp_all
 · rintro rfl;rfl
theorem jv{w:W}{i:FH}:asD w=some i↔w = .d i:=by
 constructor
 · intro h;unfold asD at h;split at h<;>simp_all
 · rintro rfl;rfl
theorem y9{w:FH}{i:List FH}:lstD w=some i↔w = .list i:=by
 constructor
 · intro h;unfold lstD at h;split at h<;>simp_all
 · rintro rfl;rfl
theorem sj{w:FH}{i:List FH}:tupD w=some i↔w = .tuple i:=by
 constructor
 · intro h;unfold tupD at h;split at h<;>simp_all
 · rintro rfl;rfl
theorem rF{w:W}{i:List FH}:Er w=some i↔w = .d (.tuple i):=by
 constructor
 · intro h
   unfold Er at h
   cases q:asD w with
   | none=>rw[q]at h;cases h
   | some x=>rw[q]at h;rw[jv.mp q,sj.mp h]
 · rintro rfl;rfl
theorem rG{w:W}{i:List FH}:Ev w=some i↔w.dat=some (.list i):=by
 unfold Ev
 constructor
 · intro h
   cases q:w.dat with
   | none=>rw[q]at h;cases h
   | some x=>rw[q]at h;rw[y9.mp h]
 · intro h;rw[h];rfl
theorem ak{β:Type}{o:Option α}{k:α->Mo β}{Q:β->Prop}:aU o k Q↔∃a,o=some a/\k a Q:=by
 cases o with
 | none=>exact⟨fun z=>z.elim,fun⟨_,z,_⟩=>by cases z⟩
 | some a=>exact⟨fun z=>⟨a,rfl,z⟩,fun⟨_,e,z⟩=>by cases e;exact z⟩
section
variable{fa fb fc:TV}{fs:EA}{f g:TB}{ρ:En}{t u:EB}
theorem m_vC(x:FH):vC x ρ=ret (.d x):=nr rfl
theorem m_vVar(i:Nat):x9 i ρ=aU ((ρ[i]?).join) fun w=>ret w.peek:=by
 refine ag fun Q=>?_
 rw[ak]
 constructor
 · rintro⟨w,e,q⟩;exact⟨w,by rw[e];rfl,q⟩
 · rintro⟨w,e,q⟩
   refine⟨w,?_,q⟩
   cases h:ρ[i]? with
   | none=>rw[h]at e;cases e
   | some o=>rw[h]at e;cases o with
     | none=>cases e
     | some x=>cases e;rfl
theorem m_vNil:yh ρ=ret []:=nr rfl
theorem m_vCons{f:TV}:r_ f fs ρ=Ek (f ρ) fun w=>Ek (fs ρ) fun ws=>ret (w.fz::ws):=nr rfl
theorem m_vOp(h:W->W->(W->Prop)->Prop):Cq h fa fb ρ=Ek (fa ρ) fun x=>Ek (fb ρ) fun y=>h x y:=nr rfl
theorem m_gI(C:Int->Int->Prop)(h:Int->Int->FH)(x y:W):gI C h x y=aU (asI x) fun i=>aU (asI y) fun j=>D2 (C i j) (ret (.d (h i j))):=by
 refine ag fun Q=>?_
 simp only[ak,dH,gI,D2,ret]
 exact⟨fun⟨i,j,a,b,c,q⟩=>⟨i,a,j,b,c,q⟩,fun⟨i,a,j,b,c,q⟩=>⟨i,j,a,b,c,q⟩⟩
theorem m_gI0(h:Int->Int->FH)(x y:W):D8 h x y=aU (asI x) fun i=>aU (asI y) fun j=>ret (.d (h i j)):=by
 refine ag fun Q=>?_
 simp only[ak,dH,D8,ret]
 exact⟨fun⟨i,j,a,b,q⟩=>⟨i,a,j,b,q⟩,fun⟨i,a,j,b,q⟩=>⟨i,j,a,b,q⟩⟩
theorem m_vNeg:yi fa ρ=Ek (fa ρ) fun x=>aU (asI x) fun i=>ret (.d (.int (-i))):=by
 refine ag fun Q=>?_
 simp only[yi,Ek,ak,dH,ret]
theorem m_vTest{f:TV}:mL f ρ=Ek (f ρ) fun w=>aU (asB w) ret:=by
 refine ag fun Q=>?_
 simp only[mL,Ek,ak,lz,ret]
theorem m_gEqD(neg:Bool)(x y:W):zo neg x y=aU x.dat fun dx=>aU y.dat fun dy=>D2 (GC dx=true) (D2 (GC dy=true) (ret (.d (.bool (if neg then !Hi dx dy else Hi dx dy))))):=by
 refine ag fun Q=>?_
 simp only[ak,zo,D2,ret]
 exact⟨fun⟨i,j,a,b,c,d,q⟩=>⟨i,a,j,b,c,d,q⟩,fun⟨i,a,j,b,c,d,q⟩=>⟨i,j,a,b,c,d,q⟩⟩
theorem xz{w:W}{i:List FH}:Eu w=some i↔(w.dat=some (.list i)\/w.dat=some (.tuple i)):=by
 unfold Eu
 constructor
 · intro h
   cases q:w.dat with
   | none=>rw[q]at h;cases h
   | some x=>rw[q]at h;exact eU.of (o:=some x) rfl h
 · rintro(h|h)<;>rw[h]<;>rfl
theorem m_gInD(neg:Bool)(x y:W):zn neg x y=aU x.dat fun dx=>aU (Eu y) fun ys=>D2 (GC dx=true) (D2 (GE ys=true) (ret (.d (.bool (if neg then !(ys.any fun z=>Hi z dx)else ys.any fun z=>Hi z dx))))):=by
 refine ag fun Q=>?_
 simp only[ak,xz,zn,D2,ret]
 exact⟨fun⟨i,j,a,b,c,d,q⟩=>⟨i,a,j,b,c,d,q⟩,fun⟨i,a,j,b,c,d,q⟩=>⟨i,j,a,b,c,d,q⟩⟩
theorem m_vAnd:xL f g ρ=Ek (f ρ) fun b=>if b=true then g ρ else ret false:=by
 refine ag fun Q=>?_
 simp only[xL,Ek,fY,ret]
theorem m_vOr:Cp f g ρ=Ek (f ρ) fun b=>if b=true then ret true else g ρ:=by
 refine ag fun Q=>?_
 simp only[Cp,Ek,fY,ret]
theorem m_vNot:AI f ρ=Ek (f ρ) fun b=>ret (!b):=nr rfl
theorem m_vAndV:sa fa fb ρ=Ek (fa ρ) fun w=>aU (asB w) fun b=>if b=true then fb ρ else ret (.d (.bool false)):=by
 refine ag fun Q=>?_
 simp only[sa,Ek,ak,lz,fY,ret]
theorem m_vOrV:yg fa fb ρ=Ek (fa ρ) fun w=>aU (asB w) fun b=>if b=true then ret (.d (.bool true))else fb ρ:=by
 refine ag fun Q=>?_
 simp only[yg,Ek,ak,lz,fY,ret]
theorem m_vNotV:rY fa ρ=Ek (fa ρ) fun w=>aU (asB w) fun b=>ret (.d (.bool (!b))):=by
 refine ag fun Q=>?_
 simp only[rY,Ek,ak,lz,ret]
theorem m_vIf{t:TB}:Cr t fa fb ρ=Ek (t ρ) fun c=>if c=true then fa ρ else fb ρ:=by
 refine ag fun Q=>?_
 simp only[Cr,Ek,fY]
theorem m_vTup:x_ fs ρ=Ek (fs ρ) fun ws=>aU (gP ws) fun ds=>D2 (ds.length<=sizeLine) (ret (.d (.tuple ds))):=by
 refine ag fun Q=>?_
 simp only[x_,Ek,ak,D2,ret]
theorem m_vLst:yj fs ρ=Ek (fs ρ) fun ws=>aU (gP ws) fun ds=>D2 (ds.length<=sizeLine) (ret (.ml ds)):=by
 refine ag fun Q=>?_
 simp only[yj,Ek,ak,D2,ret]
theorem m_gIx(x y:W):D6 x y=aU x.dat fun dx=>aU (asI y) fun i=>aU (itemAt dx i) fun z=>ret (.d z):=by
 refine ag fun Q=>?_
 simp only[D6,ak,dH,ret]
 exact⟨fun⟨i,j,z,a,b,c,q⟩=>⟨i,a,j,b,z,c,q⟩,fun⟨i,a,j,b,z,c,q⟩=>⟨i,j,z,a,b,c,q⟩⟩
theorem m_vCall(h:List W->(W->Prop)->Prop):dJ h fs ρ=Ek (fs ρ) h:=nr rfl
theorem m_gAbs(w:W):xU [w]=aU (asI w) fun i=>ret (.d (.int (if i<0 then -i else i))):=by
 refine ag fun Q=>?_
 simp only[xU,ak,dH,ret,Hl,and_true]
theorem m_gLen(w:W):xR [w]=aU w.dat fun d=>aU (qb d) fun n=>ret (.d (.int n)):=by
 refine ag fun Q=>?_
 simp only[xR,ak,ret,Hl,and_true]
 exact⟨fun⟨w',d,n,e,a,b,q⟩=>by subst e;exact⟨d,a,n,b,q⟩,fun⟨d,a,n,b,q⟩=>⟨w,d,n,rfl,a,b,q⟩⟩
theorem m_gRepr(w:W):qr [w]=aU w.dat fun d=>D2 (EL d) (ret (.d (.str d.shown))):=by
 refine ag fun Q=>?_
 simp only[qr,ak,ret,D2,Hl,and_true]
 exact⟨fun⟨w',d,e,a,b,q⟩=>by subst e;exact⟨d,a,b,q⟩,fun⟨d,a,b,q⟩=>⟨w,d,rfl,a,b,q⟩⟩
theorem m_gTupO(w:W):ox [w]=aU (Eu w) fun xs=>ret (.d (.tuple xs)):=by
 refine ag fun Q=>?_
 simp only[ox,ak,ret,Hl,and_true]
 constructor
 · rintro⟨w',d,xs,e,a,b,q⟩;subst e;exact⟨xs,by unfold Eu;rw[a];exact b,q⟩
 · rintro⟨xs,e,q⟩
   unfold Eu at e
   cases h:w.dat with
   | none=>rw[h]at e;cases e
   | some d=>rw[h]at e;exact⟨w,d,xs,rfl,h,e,q⟩
theorem m_gLstO(w:W):qu [w]=aU (Eu w) fun xs=>ret (.ml xs):=by
 refine ag fun Q=>?_
 simp only[qu,ak,ret,Hl,and_true]
 constructor
 · rintro⟨w',d,xs,e,a,b,q⟩;subst e;exact⟨xs,by unfold Eu;rw[a];exact b,q⟩
 · rintro⟨xs,e,q⟩
   unfold Eu at e
   cases h:w.dat with
   | none=>rw[h]at e;cases e
   | some d=>rw[h]at e;exact⟨w,d,xs,rfl,h,e,q⟩
theorem m_gI2(h:Int->Int->FH)(x y:W):D7 h [x,y]=aU (asI x) fun i=>aU (asI y) fun j=>ret (.d (h i j)):=by
 refine ag fun Q=>?_
 simp only[ak,dH,D7,ret,Hl,and_true]
 exact⟨fun⟨i,j,⟨a,b⟩,q⟩=>⟨i,a,j,b,q⟩,fun⟨i,a,j,b,q⟩=>⟨i,j,⟨a,b⟩,q⟩⟩
theorem vj{w:W}{i:Int}:CC w=some i↔(w = .d (.int i)\/∃b:Bool,w = .d (.bool b)/\i=if b then 1 else 0):=by
 constructor
 · intro h
   unfold CC at h
   split at h
   · cases h;exact .inl rfl
   · cases h;exact .inr ⟨_,rfl,rfl⟩
   · cases h
 · rintro(rfl|⟨b,rfl,rfl⟩)<;>rfl
theorem m_gInt1(w:W):qv [w]=aU (CC w) fun i=>ret (.d (.int i)):=by
 refine ag fun Q=>?_
 simp only[ak,vj,qv,ret,Hl,and_true]
 constructor
 · rintro(⟨i,rfl,q⟩|⟨k,rfl,q⟩)
   · exact⟨i,.inl rfl,q⟩
   · exact⟨_,.inr ⟨k,rfl,rfl⟩,q⟩
 · rintro⟨i,rfl|⟨b,rfl,rfl⟩,q⟩
   · exact .inl ⟨i,rfl,q⟩
   · exact .inr ⟨b,rfl,q⟩
theorem m_oNo:Dr ρ=ret none:=nr rfl
theorem m_oIt:Ds fa ρ=Ek (fa ρ) fun w=>aU (asI w) fun i=>ret (some i):=by
 refine ag fun Q=>?_
 simp only[Ds,Ek,ak,dH,ret]
theorem m_vSlL{fl fh:EC}:yb fa fl fh ρ=Ek (fa ρ) fun w=>Ek (fl ρ) fun l=>Ek (fh ρ) fun h=>aU (Ev w) fun xs=>ret (.ml (cutD xs l h)):=by
 refine ag fun Q=>?_
 simp only[yb,Ek,ak,rG,ret]
theorem m_vSlA{fl fh:EC}:yc fa fl fh ρ=Ek (fa ρ) fun w=>Ek (fl ρ) fun l=>Ek (fh ρ) fun h=>aU (Er w) fun xs=>ret (.d (.tuple (cutD xs l h))):=by
 refine ag fun Q=>?_
 simp only[yc,Ek,ak,rF,ret]
theorem m_gCatD(x y:W):qx x y=aU (Ev x) fun xs=>aU (Ev y) fun ys=>D2 (xs.length+ys.length<=sizeLine) (ret (.ml (xs++ys))):=by
 refine ag fun Q=>?_
 simp only[qx,ak,rG,D2,ret]
 exact⟨fun⟨i,j,a,b,c,q⟩=>⟨i,a,j,b,c,q⟩,fun⟨i,a,j,b,c,q⟩=>⟨i,j,a,b,c,q⟩⟩
theorem m_gCatA(x y:W):qy x y=aU (Er x) fun xs=>aU (Er y) fun ys=>D2 (xs.length+ys.length<=sizeLine) (ret (.d (.tuple (xs++ys)))):=by
 refine ag fun Q=>?_
 simp only[qy,ak,rF,D2,ret]
 exact⟨fun⟨i,j,a,b,c,q⟩=>⟨i,a,j,b,c,q⟩,fun⟨i,a,j,b,c,q⟩=>⟨i,j,a,b,c,q⟩⟩
theorem m_vLR1:AJ fs ρ=Ek (fs ρ) fun ws=>aU (ws.head?.bind asI) fun j=>D2 (ws.length=1) (D2 (-(2^62)<=j/\j<2^62) (D2 (j.toNat<=2^24) (ret (.ml (aV 0 j.toNat))))):=by
 show(Ek (fs ρ) fun ws=>fun(Q:W->Prop)=>∃j:Int,ws=[.d (.int j)]/\(-(2^62)<=j/\j<2^62)/\j.toNat<=2^24/\Q (.ml (aV 0 j.toNat)))=_
 congr 1;funext ws
 refine ag fun Q=>?_
 simp only[ak,D2,ret]
 constructor
 · rintro⟨j,rfl,a,b,q⟩;exact⟨j,rfl,rfl,a,b,q⟩
 · rintro⟨j,e,l,a,b,q⟩
   match ws,l with
   | [w],_=>rw[show w = .d (.int j)from dH.mp e];exact⟨j,rfl,a,b,q⟩
theorem m_vTR1:AG fs ρ=Ek (fs ρ) fun ws=>aU (ws.head?.bind asI) fun j=>D2 (ws.length=1) (D2 (-(2^62)<=j/\j<2^62) (D2 (j.toNat<=2^24) (ret (.d (.tuple (aV 0 j.toNat)))))):=by
 show(Ek (fs ρ) fun ws=>fun(Q:W->Prop)=>∃j:Int,ws=[.d (.int j)]/\(-(2^62)<=j/\j<2^62)/\j.toNat<=2^24/\Q (.d (.tuple (aV 0 j.toNat))))=_
 congr 1;funext ws
 refine ag fun Q=>?_
 simp only[ak,D2,ret]
 constructor
 · rintro⟨j,rfl,a,b,q⟩;exact⟨j,rfl,rfl,a,b,q⟩
 · rintro⟨j,e,l,a,b,q⟩
   match ws,l with
   | [w],_=>rw[show w = .d (.int j)from dH.mp e];exact⟨j,rfl,a,b,q⟩
def two(ws:List W):Option (Int×Int):=match ws with
 | [a,b]=>(asI a).bind fun i=>(asI b).map fun j=>(i,j)
 | _=>none
theorem two_d(a b:Int):two [.d (.int a),.d (.int b)]=some (a,b):=rfl
theorem vg{ws:List W}{p:Int×Int}:two ws=some p↔ws=[.d (.int p.1),.d (.int p.2)]:=by
 constructor
 · intro h
   match ws with
   | []=>cases h
   | [_]=>cases h
   | _::_::_::_=>cases h
   | [a,b] =>
     have h:((asI a).bind fun i=>(asI b).map fun j=>(i,j))=some p:=h
     cases ha:asI a with
     | none=>rw[ha]at h;cases h
     | some i =>
       cases hb:asI b with
       | none=>rw[ha,hb]at h;cases h
       | some j=>rw[ha,hb]at h;cases h;rw[dH.mp ha,dH.mp hb]
 · rintro rfl;rfl
theorem m_iL:iL fa ρ=Ek (fa ρ) fun w=>aU ((asD w.fz).bind lstD) ret:=by
 show(Ek (fa ρ) fun w=>fun(Q:List FH->Prop)=>∃xs,w.fz = .d (.list xs)/\Q xs)=_
 congr 1;funext w
 refine ag fun Q=>?_
 simp only[ak,ret]
 constructor
 · rintro⟨xs,e,q⟩;exact⟨xs,by rw[e];rfl,q⟩
 · rintro⟨xs,e,q⟩
   cases h:asD w.fz with
   | none=>rw[h]at e;cases e
   | some x=>rw[h]at e;rw[jv.mp h,y9.mp e];exact⟨xs,rfl,q⟩
theorem m_iT:iT fa ρ=Ek (fa ρ) fun w=>aU ((asD w.fz).bind tupD) ret:=by
 show(Ek (fa ρ) fun w=>fun(Q:List FH->Prop)=>∃xs,w.fz = .d (.tuple xs)/\Q xs)=_
 congr 1;funext w
 refine ag fun Q=>?_
 simp only[ak,ret]
 constructor
 · rintro⟨xs,e,q⟩;exact⟨xs,by rw[e];rfl,q⟩
 · rintro⟨xs,e,q⟩
   cases h:asD w.fz with
   | none=>rw[h]at e;cases e
   | some x=>rw[h]at e;rw[jv.mp h,sj.mp e];exact⟨xs,rfl,q⟩
theorem m_iR1:DX fs ρ=Ek (fs ρ) fun ws=>aU (ws.head?.bind asI) fun j=>D2 (ws.length=1) (D2 (-(2^62)<=j/\j<2^62) (ret (aV 0 j.toNat))):=by
 show(Ek (fs ρ) fun ws=>fun(Q:List FH->Prop)=>∃j:Int,ws=[.d (.int j)]/\(-(2^62)<=j/\j<2^62)/\Q (aV 0 j.toNat))=_
 congr 1;funext ws
 refine ag fun Q=>?_
 simp only[ak,D2,ret]
 constructor
 · rintro⟨j,rfl,a,q⟩;exact⟨j,rfl,rfl,a,q⟩
 · rintro⟨j,e,l,a,q⟩
   match ws,l with
   | [w],_=>rw[show w = .d (.int j)from dH.mp e];exact⟨j,rfl,a,q⟩
theorem m_iR2:DW fs ρ=Ek (fs ρ) fun ws=>aU (two ws) fun p=>D2 (-(2^62)<=p.1/\p.1<2^62 /\ -(2^62)<=p.2/\p.2<2^62) (ret (aV p.1 (p.2-p.1).toNat)):=by
 show(Ek (fs ρ) fun ws=>fun(Q:List FH->Prop)=>∃i j:Int,ws=[.d (.int i),.d (.int j)]/\(-(2^62)<=i/\i<2^62 /\ -(2^62)<=j/\j<2^62)/\Q (aV i (j-i).toNat))=_
 congr 1;funext ws
 refine ag fun Q=>?_
 simp only[ak,vg,D2,ret]
 exact⟨fun⟨i,j,a,b,q⟩=>⟨(i,j),a,b,q⟩,fun⟨p,a,b,q⟩=>⟨p.1,p.2,a,b,q⟩⟩
def x3(b1 b2:Bool)(ws:List W):Option (List FH):=match ws with
 | [.d x,.d y]=>if cZ x=b1/\cZ y=b2 then(eU x).bind fun xs=>(eU y).map fun ys=>ko xs ys else none
 | _=>none
theorem m_iZb(b1 b2:Bool):DV b1 b2 fs ρ=Ek (fs ρ) fun ws=>aU (x3 b1 b2 ws) ret:=by
 show(Ek (fs ρ) fun ws=>fun(Q:List FH->Prop)=>∃dx dy xs ys,ws=[.d dx,.d dy]/\eU dx=some xs/\eU dy=some ys/\cZ dx=b1/\cZ dy=b2/\Q (ko xs ys))=_
 congr 1;funext ws
 refine ag fun Q=>?_
 simp only[ak,ret]
 constructor
 · rintro⟨dx,dy,xs,ys,rfl,a,b,c,d,q⟩
   exact⟨_,by show(if cZ dx=b1/\cZ dy=b2 then(eU dx).bind fun xs=>(eU dy).map fun ys=>ko xs ys else none)=_;rw[if_pos ⟨c,d⟩,a,b];rfl,q⟩
 · rintro⟨zs,e,q⟩
   unfold x3 at e
   split at e
   · rename_i dx dy
     split at e
     · rename_i c
       cases ha:eU dx with
       | none=>rw[ha]at e;cases e
       | some xs =>
         cases hb:eU dy with
         | none=>rw[ha,hb]at e;cases e
         | some ys=>rw[ha,hb]at e;cases e;exact⟨dx,dy,xs,ys,rfl,ha,hb,c.1,c.2,q⟩
     · cases e
   · cases e
theorem m_vUse(Pd:List W->(FH->Prop)->Prop):xI Pd fs ρ=Ek (fs ρ) fun ws=>D2 (ws.all eM=true) (Ek (Pd ws) fun d=>ret (.d d)):=nr rfl
theorem m_gEqS(neg:Bool)(x y:W):xS neg x y=aU (asS x) fun i=>aU (asS y) fun j=>ret (.d (.bool (if neg then !decide (i=j)else decide (i=j)))):=by
 refine ag fun Q=>?_
 simp only[ak,xy,xS,ret]
 exact⟨fun⟨i,j,a,b,q⟩=>⟨i,a,j,b,q⟩,fun⟨i,a,j,b,q⟩=>⟨i,j,a,b,q⟩⟩
end
inductive Fl where
 | nx (ρ:En)|rt (w:W)|bk (ρ:En)|ct (ρ:En)
def mS(t:EB)(ρ:En):Mo Fl:=fun Q=>t ⟨fun ρ=>Q (.nx ρ),fun w=>Q (.rt w),fun ρ=>Q (.bk ρ),fun ρ=>Q (.ct ρ)⟩ ρ
def sq(m:Mo Fl)(k:En->Mo Fl):Mo Fl:=Ek m fun fl=>match fl with
 | .nx ρ=>k ρ
 | .rt w=>ret (.rt w)
 | .bk ρ=>ret (.bk ρ)
 | .ct ρ=>ret (.ct ρ)
def xl(Q:FH->Prop):Fl->Prop
 | .nx _=>Q .none
 | .rt w=>∃d,w.fz = .d d/\Q d
 | _=>False
section
variable{fa fb fc:TV}{fs:EA}{f g:TB}{ρ:En}{t u:EB}{k:En->Mo Fl}
theorem aw{Q:FH->Prop}(h:mS t ρ (xl Q)):t (lC Q) ρ:=h
theorem end_d(Q:FH->Prop)(d:FH):xl Q (.rt (.d d))=Q d:=propext ⟨fun⟨_,e,q⟩=>by cases e;exact q,fun q=>⟨d,rfl,q⟩⟩
theorem end_ml(Q:FH->Prop)(d:List FH):xl Q (.rt (.ml d))=Q (.list d):=propext ⟨fun⟨_,e,q⟩=>by cases e;exact q,fun q=>⟨_,rfl,q⟩⟩
theorem end_nx(Q:FH->Prop)(ρ:En):xl Q (.nx ρ)=Q .none:=nr rfl
theorem sq_nx:sq (ret (.nx ρ)) k=k ρ:=nr rfl
theorem sq_rt(w:W):sq (ret (.rt w)) k=ret (.rt w):=nr rfl
theorem sq_bk:sq (ret (.bk ρ)) k=ret (.bk ρ):=nr rfl
theorem sq_ct:sq (ret (.ct ρ)) k=ret (.ct ρ):=nr rfl
theorem sq_grd(P:Prop)(m:Mo Fl):sq (D2 P m) k=D2 P (sq m k):=nr rfl
theorem sq_stk:sq stk k=stk:=nr rfl
theorem sq_ite(c:Prop)[Decidable c](a b:Mo Fl):sq (if c then a else b) k=if c then sq a k else sq b k:=by split<;>rfl
theorem vF(o:Option α)(h:α->Mo Fl):sq (aU o h) k=aU o fun a=>sq (h a) k:=by cases o<;>rfl
theorem s_next:mS rZ ρ=ret (.nx ρ):=nr rfl
theorem s_seq:mS (ye t u) ρ=sq (mS t ρ) (mS u):=by
 refine ag fun Q=>?_
 show t ⟨fun ρ=>u ⟨_,_,_,_⟩ ρ,_,_,_⟩ ρ↔_
 exact Jy
theorem s_ret:mS (yf fa) ρ=Ek (fa ρ) fun w=>ret (.rt w):=nr rfl
theorem s_ifS:mS (xK f t u) ρ=Ek (f ρ) fun b=>if b=true then mS t ρ else mS u ρ:=by
 refine ag fun Q=>?_
 simp only[mS,xK,Ek,fY]
theorem s_set(i:Nat):mS (yd i fa) ρ=Ek (fa ρ) fun w=>D2 (w.isPk=false) (ret (.nx (ρ.set i (some w)))):=nr rfl
theorem s_never:mS (fun _ _=>False) ρ=stk:=nr rfl
theorem m_hName(i:Nat)(x:FH):wY i x ρ=ret (ρ.set i (some (.d x))):=nr rfl
theorem wL(xs:List FH):zj xs ρ=D2 (xs=[]) (ret ρ):=nr rfl
theorem tP{g:EE}{gs:o9}(xs:List FH):qq g gs xs ρ=aU (match xs with | []=>none|y::r=>some (y,r)) fun p=>Ek (g p.1 ρ) fun ρ'=>gs p.2 ρ':=by
 refine ag fun Q=>?_
 simp only[ak,qq,Ek]
 constructor
 · rintro⟨y,r,rfl,q⟩;exact⟨(y,r),rfl,q⟩
 · rintro⟨p,e,q⟩
   cases xs with
   | nil=>cases e
   | cons y r=>cases e;exact⟨y,r,rfl,q⟩
theorem m_hCons_c{g:EE}{gs:o9}(y:FH)(r:List FH):qq g gs (y::r) ρ=Ek (g y ρ) fun ρ'=>gs r ρ':=by rw[tP];rfl
theorem m_hNil_n:zj [] ρ=ret ρ:=by rw[wL,ai rfl]
theorem m_hTup(n:Nat){gs:o9}(x:FH):zi n gs x ρ=aU (tupD x) fun xs=>D2 (xs.length=n) (gs xs ρ):=by
 refine ag fun Q=>?_
 simp only[ak,sj,zi,D2]
theorem s_asg{g:EE}:mS (ym fa g) ρ=Ek (fa ρ) fun w=>aU (asD w) fun x=>Ek (g x ρ) fun ρ'=>ret (.nx ρ'):=by
 refine ag fun Q=>?_
 simp only[mS,ym,Ek,ak,jv,ret]
theorem s_par(i j:Nat):mS (AH i j fs) ρ=Ek (fs ρ) fun ws=>aU (gP ws) fun ds=>aU (match ds with | [x,y]=>some (x,y)|_=>none) fun p=>ret (.nx ((ρ.set i (some (.d p.1))).set j (some (.d p.2)))):=by
 show(Ek (fs ρ) fun ws=>fun(Q:Fl->Prop)=>∃x y,gP ws=some [x,y]/\Q (.nx ((ρ.set i (some (.d x))).set j (some (.d y)))))=_
 congr 1;funext ws
 refine ag fun Q=>?_
 simp only[ak,ret]
 constructor
 · rintro⟨x,y,e,q⟩;exact⟨_,e,(x,y),rfl,q⟩
 · rintro⟨ds,e,p,e2,q⟩
   split at e2
   · cases e2;exact⟨_,_,e,q⟩
   · cases e2
def C3(ρ:En)(i:Nat):Option Int:=((ρ[i]?).join).bind asI
def asM:W->Option (List FH)
 | .ml xs=>some xs
 | _=>none
def C2(ρ:En)(i:Nat):Option (List FH):=((ρ[i]?).join).bind asM
theorem asM_ml(xs:List FH):asM (.ml xs)=some xs:=rfl
theorem A0{w:W}:asM w=some xs↔w = .ml xs:=by
 constructor
 · intro h;unfold asM at h;split at h<;>simp_all
 · rintro rfl;rfl
theorem qX{i:Nat}:C2 ρ i=some xs↔ρ[i]?=some (some (.ml xs)):=by
 unfold C2
 constructor
 · intro h
   cases q:ρ[i]? with
   | none=>rw[q]at h;cases h
   | some o=>rw[q]at h;cases o with
     | none=>cases h
     | some w=>rw[A0.mp h]
 · intro h;rw[h];rfl
theorem vI{i:Nat}{n:Int}:C3 ρ i=some n↔ρ[i]?=some (some (.d (.int n))):=by
 unfold C3
 constructor
 · intro h
   cases q:ρ[i]? with
   | none=>rw[q]at h;cases h
   | some o=>rw[q]at h;cases o with
     | none=>cases h
     | some w=>rw[dH.mp h]
 · intro h;rw[h];rfl
theorem s_aug(i:Nat)(C:Int->Int->Prop)(h:Int->Int->Int):mS (yl i C h fa) ρ=aU (C3 ρ i) fun n=>Ek (fa ρ) fun w=>aU (asI w) fun m=>D2 (C n m) (ret (.nx (ρ.set i (some (.d (.int (h n m))))))):=by
 refine ag fun Q=>?_
 simp only[mS,yl,Ek,ak,vI,dH,D2,ret]
theorem s_frz(i:Nat):mS (yk i t) ρ=aU (C2 ρ i) fun xs=>mS t (ρ.set i (some (.d (.list xs)))):=by
 refine ag fun Q=>?_
 simp only[mS,yk,ak,qX]
theorem s_mut(i:Nat)(h:List FH->List W->(List FH->Prop)->Prop):mS (xJ i h fs) ρ=aU (C2 ρ i) fun xs=>Ek (fs ρ) fun ws=>Ek (h xs ws) fun ys=>ret (.nx (ρ.set i (some (.ml ys)))):=by
 refine ag fun Q=>?_
 simp only[mS,xJ,Ek,ak,qX,ret]
theorem m_gApp(xs:List FH)(w:W):xT xs [w]=aU (asD w) fun x=>D2 (xs.length<sizeLine) (ret (xs++[x])):=by
 refine ag fun Q=>?_
 simp only[xT,ak,jv,D2,ret]
 constructor
 · rintro⟨x,e,a,q⟩
   cases w<;>first|(cases e;exact⟨_,rfl,a,q⟩)|cases e
 · rintro⟨x,rfl,a,q⟩;exact⟨x,rfl,a,q⟩
end
def Le(a b:En):Prop:=a.length=b.length/\∀(i:Nat) w,a[i]?=some (some w)->b[i]?=some (some w)
theorem Le.refl(a:En):Le a a:=⟨rfl,fun _ _ h=>h⟩
theorem Le.trans{a b c:En}(h:Le a b)(h':Le b c):Le a c:=⟨h.1.trans h'.1,fun i w e=>h'.2 i w (h.2 i w e)⟩
theorem le_nil:Le [] []=True:=propext ⟨fun _=>trivial,fun _=>Le.refl _⟩
theorem le_cn(x:Option W)(a b:En):Le (none::a) (x::b)=Le a b:=by
 refine propext ⟨fun h=>⟨by have:=h.1;simpa using this,fun i w e=>by have:=h.2 (i+1) w (by simpa using e);simpa using this⟩,fun h=>⟨by simp[h.1],fun i w e=>?_⟩⟩
 cases i with
 | zero=>simp at e
 | succ i=>simpa using h.2 i w (by simpa using e)
theorem le_cs(x:Option W)(a b:En):Le (x::a) (x::b)=Le a b:=by
 refine propext ⟨fun h=>⟨by have:=h.1;simpa using this,fun i w e=>by have:=h.2 (i+1) w (by simpa using e);simpa using this⟩,fun h=>⟨by simp[h.1],fun i w e=>?_⟩⟩
 cases i with
 | zero=>simpa using e
 | succ i=>simpa using h.2 i w (by simpa using e)
theorem VR.le{K:W.Frag}{ρ0:En}(R:VR K rl F₀ H₀ F H σ ρ)(h:Le ρ0 ρ):VR K rl F₀ H₀ F H σ ρ0 :=
 ⟨R.g,fun i w e=>R.sl i w (h.2 i w e),fun i j x y v n e1 e2=>R.ap i j x y v n (h.2 i x e1) (h.2 j y e2),fun i xs e=>R.np i xs (h.2 i _ e),h.1.trans R.len⟩
def fo:List Nat->En->En
 | [],ρ=>ρ
 | i::l,ρ=>fo l (ρ.set i none)
theorem wO(ρ:En)(i:Nat):Le (ρ.set i none) ρ:=by
 refine⟨by simp,fun j w e=>?_⟩
 rw[Hn]at e
 split at e
 · split at e
   · cases e
   · cases e
 · exact e
theorem eQ:∀(l:List Nat)(ρ:En),Le (fo l ρ) ρ
 | [],ρ=>Le.refl ρ
 | i::l,ρ=>(eQ l (ρ.set i none)).trans (wO ρ i)
theorem fo_nil(ρ:En):fo [] ρ=ρ:=rfl
theorem fo_cons(i:Nat)(l:List Nat)(ρ:En):fo (i::l) ρ=fo l (ρ.set i none):=rfl
def ce(fl:List Nat)(g:EE)(t:EB):List FH->EB
 | [],D,ρ=>D.nx ρ
 | x::xs,D,ρ=>g x ρ fun ρ2=>t {D with nx:=fun ρ'=>ce fl g t xs D (fo fl ρ'),ct:=fun ρ'=>ce fl g t xs D (fo fl ρ'),bk:=fun ρ'=>D.nx (fo fl ρ')} ρ2
def u8(fl:List Nat)(fi:En->(List FH->Prop)->Prop)(g:EE)(t:EB):EB:=fun D ρ=>fi ρ fun xs=>ce fl g t xs D (fo fl ρ)
section
variable{X:Cx}{rl:RlT}{st:Stmt}{rest body:List Stmt}{t u:EB}{a b c e:Expr}{es:List Expr}{fa fb:TV}{fs:EA}{f:TB}{pos p:Pos}
theorem bY(fl:List Nat){g:EE}(hp:LU (Gn X.prog X.w) X.A X.env X.xe)(hc:X.calm=true)(hi:EX X rl tg iter fi)(hg:E1 X rl tg g)(hb:kd X rl body t)
 (hs:∀x,Gj iter X.env x=pure x:=by intro _;rfl):EU X rl (.For tg iter body [] pos) (u8 fl fi g t):=by
 obtain⟨wi,p0,k0⟩:=hi
 obtain⟨G,p1,k1⟩:=hg
 obtain⟨T,p2,k2⟩:=hb
 refine⟨_,rb hp hc p0 p1 p2 hs,fun{F₀ H₀ F H σ ρ} R Dv D ok q=>k0 R _ _ q fun J xs F1 H1 g1 vi q1=>?_⟩
 refine⟨fun i m σ H=>m=xs.length-i/\i<=xs.length/\∃F ρ,bC F1 F/\VR X.K rl F₀ H₀ F H σ ρ/\ce fl g t (xs.drop i) Dv ρ,⟨xs.length,by simp,Gw _,F1,fo fl ρ,.refl _,(R.grow g1).le (eQ fl ρ),by simpa using q1⟩,?_⟩
 rintro i m σ H ⟨rfl,hi,F2,ρ2,s2,R2,j2⟩
 have sH:bC F1 H:=s2.trans R2.sub
 by_cases hlt:i<xs.length
 · have ei:xs[i]?=some xs[i]:=by simp[hlt]
   rw[GV hlt]at j2
   refine .inr ⟨vi.go i H _ ei sH,fun σ' H'=>∃F ρ,bC F1 F/\VR X.K rl F₀ H₀ F H' σ' ρ/\ce fl g t (xs.drop (i+1)) Dv ρ,fun σ' H' z=>⟨xs.length-(i+1),by omega,rfl,hlt,z⟩,fun v H' y=>?_⟩
   obtain⟨Fy,gy,rv⟩:=vi.yld i H v H' _ F2 ei s2 R2.sub R2.reel y
   refine k1 (R2.grow gy) v _ _ _ rv j2 fun F3 H3 σ3 ρ3 s3 n3 R3 q3=>?_
   have s13:bC F1 F3:=s2.trans (gy.fs.trans s3.fs)
   exact k2 R3 {Dv with nx:=fun ρ'=>ce fl g t (xs.drop (i+1)) Dv (fo fl ρ'),ct:=fun ρ'=>ce fl g t (xs.drop (i+1)) Dv (fo fl ρ'),bk:=fun ρ'=>Dv.nx (fo fl ρ')} _
    ⟨fun F4 H4 σ4 ρ4 s4 R4 q4=>⟨F4,fo fl ρ4,s13.trans s4,R4.le (eQ fl ρ4),q4⟩,ok.rt,fun F4 H4 σ4 ρ4 s4 R4 q4=>ok.nx _ _ _ _ (g1.fs.trans (s13.trans s4)) (R4.le (eQ fl ρ4)) q4,fun F4 H4 σ4 ρ4 s4 R4 q4=>⟨F4,fo fl ρ4,s13.trans s4,R4.le (eQ fl ρ4),q4⟩⟩ q3
 · have e:i=xs.length:=by omega
   subst e
   rw[HW]at j2
   exact .inl ⟨vi.stop _ H (FQ _) sH,ok.nx _ _ _ _ (g1.fs.trans s2) R2 j2⟩
def Ck(fl:List Nat)(f:TB)(t:EB)(m:Nat):EB:=fun D ρ=>f ρ fun b=>if b=true then t {D with nx:=fun ρ'=>∃k,∃h:k<m,Ck fl f t k D (fo fl ρ'),ct:=fun ρ'=>∃k,∃h:k<m,Ck fl f t k D (fo fl ρ'),bk:=fun ρ'=>D.nx (fo fl ρ')} ρ else D.nx ρ
termination_by m
def mK(fl:List Nat)(f:TB)(t:EB):EB:=fun D ρ=>∃m,Ck fl f t m D (fo fl ρ)
theorem qT(fl:List Nat)(f:TB)(t:EB)(m:Nat)(D:VEnds)(ρ:En):Ck fl f t m D ρ=f ρ fun b=>if b=true then t {D with nx:=fun ρ'=>∃k,∃h:k<m,Ck fl f t k D (fo fl ρ'),ct:=fun ρ'=>∃k,∃h:k<m,Ck fl f t k D (fo fl ρ'),bk:=fun ρ'=>D.nx (fo fl ρ')} ρ else D.nx ρ:=by
 conv=>lhs;unfold Ck
theorem iG(fl:List Nat)(hp:LU (Gn X.prog X.w) X.A X.env X.xe)(hc:PB X rl c f)(hb:kd X rl body t):EU X rl (.While c body [] pos) (mK fl f t):=by
 obtain⟨t0,p0,k0⟩:=hc
 obtain⟨t1,p1,k1⟩:=hb
 refine⟨_,pN hp p0 p1,fun{F₀ H₀ F H σ ρ} R Dv D ok q=>?_⟩
 obtain⟨m,j0⟩:=q
 refine⟨fun m σ' H'=>∃F' ρ',bC F F'/\VR X.K rl F₀ H₀ F' H' σ' ρ'/\Ck fl f t m Dv ρ',⟨m,F,fo fl ρ,.refl _,R.le (eQ fl ρ),j0⟩,?_⟩
 rintro m σ2 H2 ⟨F2,ρ2,s2,R2,j⟩
 rw[qT]at j
 refine k0 R2 _ _ j fun b F1 H1 g1 q1=>?_
 cases b with
 | false=>exact ok.nx _ _ _ _ (s2.trans g1.fs) (R2.grow g1) q1
 | true =>
   refine⟨fun σ' H'=>∃F' ρ',bC F F'/\VR X.K rl F₀ H₀ F' H' σ' ρ'/\∃m',m'<m/\Ck fl f t m' Dv ρ',fun σ' H' ⟨F',ρ',s',R',m',hm,j⟩=>⟨m',hm,F',ρ',s',R',j⟩,?_⟩
   exact k1 (R2.grow g1) {Dv with nx:=fun ρ'=>∃k,∃h:k<m,Ck fl f t k Dv (fo fl ρ'),ct:=fun ρ'=>∃k,∃h:k<m,Ck fl f t k Dv (fo fl ρ'),bk:=fun ρ'=>Dv.nx (fo fl ρ')} _
    ⟨fun F3 H3 σ3 ρ3 s3 R3 ⟨m',hm,q3⟩=>⟨F3,fo fl ρ3,(s2.trans g1.fs).trans s3,R3.le (eQ fl ρ3),m',hm,q3⟩,ok.rt,fun F3 H3 σ3 ρ3 s3 R3 q3=>ok.nx _ _ _ _ ((s2.trans g1.fs).trans s3) (R3.le (eQ fl ρ3)) q3,fun F3 H3 σ3 ρ3 s3 R3 ⟨m',hm,q3⟩=>⟨F3,fo fl ρ3,(s2.trans g1.fs).trans s3,R3.le (eQ fl ρ3),m',hm,q3⟩⟩ q1
end
def DJ(fl:List Nat)(k:En->Mo Fl):Fl->Mo Fl
 | .nx ρ=>k (fo fl ρ)
 | .ct ρ=>k (fo fl ρ)
 | .bk ρ=>ret (.nx (fo fl ρ))
 | .rt w=>ret (.rt w)
def fX(fl:List Nat)(b:FH->En->Mo Fl):List FH->En->Mo Fl
 | [],ρ=>ret (.nx ρ)
 | x::xs,ρ=>Ek (b x ρ) (DJ fl (fX fl b xs))
theorem jU(fl:List Nat)(g:EE)(t:EB):∀(xs:List FH)(ρ:En),mS (ce fl g t xs) ρ=fX fl (fun x ρ=>Ek (g x ρ) (mS t)) xs ρ
 | [],ρ=>rfl
 | x::xs,ρ=>by
   refine ag fun Q=>?_
   show(g x ρ fun ρ2=>t ⟨fun ρ'=>mS (ce fl g t xs) (fo fl ρ') Q,fun w=>Q (.rt w),fun ρ'=>Q (.nx (fo fl ρ')),fun ρ'=>mS (ce fl g t xs) (fo fl ρ') Q⟩ ρ2)↔_
   simp only[jU fl g t xs]
   exact Jy
def Ep(g:EE)(t:EB):FH->En->Mo Fl:=fun x ρ=>Ek (g x ρ) (mS t)
theorem bdy_ap(g:EE)(t:EB)(x:FH)(ρ:En):Ep g t x ρ=Ek (g x ρ) (mS t):=nr rfl
theorem s_for(fl:List Nat)(fi:En->(List FH->Prop)->Prop)(g:EE)(t:EB)(ρ:En):mS (u8 fl fi g t) ρ=Ek (fi ρ) fun xs=>fX fl (Ep g t) xs (fo fl ρ):=by
 refine ag fun Q=>?_
 show(fi ρ fun xs=>mS (ce fl g t xs) (fo fl ρ) Q)↔_
 simp only[jU]
 exact Jy
def DI(fl:List Nat)(J:En->Prop)(Q:Fl->Prop):Fl->Prop
 | .nx ρ=>J (fo fl ρ)
 | .ct ρ=>J (fo fl ρ)
 | .bk ρ=>Q (.nx (fo fl ρ))
 | .rt w=>Q (.rt w)
section
variable{α σ:Type}{fl:List Nat}{b:FH->En->Mo Fl}
theorem kY(J:Nat->En->Prop){Q:Fl->Prop}:∀{xs:List FH}{ρ:En}(n:Nat),J n ρ->(∀i x ρ,xs[i]?=some x->J (n+i) ρ->∀k:Fl->Prop,(∀r,DI fl (J (n+i+1)) Q r->k r)->b x ρ k)->(∀ρ,J (n+xs.length) ρ->Q (.nx ρ))->fX fl b xs ρ Q
 | [],ρ,n,h0,_,fin=>fin ρ h0
 | x::xs,ρ,n,h0,step,fin=>by
   refine step 0 x ρ rfl h0 (fun r=>DJ fl (fX fl b xs) r Q) fun r hr=>?_
   have rc:∀ρ',J (n+1) ρ'->fX fl b xs ρ' Q:=fun ρ' h'=>kY J (n+1) h' (fun i y ρ e j k hk=>step (i+1) y ρ (by simpa using e) (by rw[show n+(i+1)=n+1+i by omega];exact j) k (by rw[show n+(i+1)+1=n+1+i+1 by omega];exact hk)) (fun ρ j=>fin ρ (by rw[Gp,show n+(xs.length+1)=n+1+xs.length by omega];exact j))
   cases r with
   | nx ρ'=>exact rc _ hr
   | ct ρ'=>exact rc _ hr
   | bk ρ'=>exact hr
   | rt w=>exact hr
theorem nV{xs:List α}{enc:α->FH}{Q:Fl->Prop}(J:Nat->En->Prop)(h0:J 0 ρ)
 (step:∀i (h:i<xs.length) ρ,J i ρ->∀k:Fl->Prop,(∀r,DI fl (J (i+1)) Q r->k r)->b (enc xs[i]) ρ k)(fin:∀ρ,J xs.length ρ->Q (.nx ρ)):fX fl b (xs.map enc) ρ Q:=by
 refine kY J 0 h0 (fun i x ρ e j k hk=>?_) (fun ρ j=>fin ρ (by simpa using j))
 have hi:i<xs.length:=by have:=(GD.mp e).1;simpa using this
 rw[G_,GB hi]at e
 cases e
 rw[Nat.zero_add]at j hk
 exact step i hi ρ j k hk
theorem qa{lo:Int}{Q:Fl->Prop}(J:Nat->En->Prop)(h0:J 0 ρ)
 (step:∀i,i<n->∀ρ,J i ρ->∀k:Fl->Prop,(∀r,DI fl (J (i+1)) Q r->k r)->b (.int (lo+i)) ρ k)(fin:∀ρ,J n ρ->Q (.nx ρ)):fX fl b (aV lo n) ρ Q:=by
 refine nV (xs:=G9 n) J h0 (fun i h ρ j k hk=>?_) (fun ρ j=>fin ρ (by simpa using j))
 rw[List.getElem_range]
 exact step i (by simpa using h) ρ j k hk
end
def gw(fl:List Nat)(f:TB)(t:EB)(ρ:En):Mo Fl:=fun Q=>∃m,mS (Ck fl f t m) ρ Q
theorem s_while(fl:List Nat)(f:TB)(t:EB)(ρ:En):mS (mK fl f t) ρ=gw fl f t (fo fl ρ):=nr rfl
theorem pg(fl:List Nat)(f:TB)(t:EB)(m:Nat)(ρ:En):mS (Ck fl f t m) ρ=Ek (f ρ) fun b=>if b=true then Ek (mS t ρ) (DJ fl fun ρ'=>fun Q=>∃k,∃h:k<m,mS (Ck fl f t k) ρ' Q)else ret (.nx ρ):=by
 refine ag fun Q=>?_
 show Ck fl f t m _ ρ↔_
 rw[qT]
 simp only[Ek,fY]
 exact Jy
theorem rM{fl:List Nat}{f:TB}{t:EB}(h:f ρ=ret false):gw fl f t ρ=ret (.nx ρ):=by
 refine ag fun Q=>?_
 constructor
 · rintro⟨m,q⟩;rw[pg,h,bnd_ret,if_neg (by decide)]at q;exact q
 · intro q;refine⟨0,?_⟩;rw[pg,h,bnd_ret,if_neg (by decide)];exact q
theorem rL{fl:List Nat}{f:TB}{t:EB}{ρ':En}(h:f ρ=ret true)(h2:mS t ρ=ret (.nx ρ')):gw fl f t ρ=gw fl f t (fo fl ρ'):=by
 refine ag fun Q=>?_
 constructor
 · rintro⟨m,q⟩;rw[pg,h,bnd_ret,if_pos rfl,h2,bnd_ret]at q;obtain⟨k,_,q⟩:=q;exact⟨k,q⟩
 · rintro⟨m,q⟩;refine⟨m+1,?_⟩;rw[pg,h,bnd_ret,if_pos rfl,h2,bnd_ret];exact⟨m,Nat.lt_succ_self m,q⟩
theorem mh{σ:Type}{fl:List Nat}{f:TB}{t:EB}(st:σ->En)(c:σ->Bool)(nxt:σ->σ)(μ:σ->Nat)(I:σ->Prop)
 (hf:∀s,I s->f (st s)=ret (c s))(ht:∀s,I s->c s=true->I (nxt s)/\μ (nxt s)<μ s/\∃ρ',mS t (st s)=ret (.nx ρ')/\fo fl ρ'=st (nxt s))(s:σ)(hs:I s):∃s',I s'/\c s'=false/\gw fl f t (st s)=ret (.nx (st s')):=by
 induction hm:μ s using JX generalizing s with
 | ind n ih =>
   subst hm
   cases hc:c s with
   | false=>exact⟨s,hs,hc,rM (by rw[hf s hs,hc])⟩
   | true =>
     obtain⟨i1,m1,ρ',e1,e2⟩:=ht s hs hc
     obtain⟨s',a,b,e⟩:=ih _ m1 (nxt s) i1 rfl
     exact⟨s',a,b,by rw[rL (by rw[hf s hs,hc]) e1,e2,e]⟩
def kH(ρ0:En)(g:EE)(ft:TB)(fe:TV):List FH->List FH->(List FH->Prop)->Prop
 | [],acc,Q=>Q acc
 | x::xs,acc,Q=>g x ρ0 fun ρ2=>Le ρ0 ρ2/\ft ρ2 fun b=>if b=true then fe ρ2 fun w=>∃d,w.fz = .d d/\acc.length<sizeLine/\kH ρ0 g ft fe xs (acc++[d]) Q else kH ρ0 g ft fe xs acc Q
def kI(fi:En->(List FH->Prop)->Prop)(fr:List (Option Nat))(g:EE)(ft:TB)(fe:TV):TV:=fun ρ Q=>fi ρ fun xs=>kH (dR fr ρ) g ft fe xs [] fun ds=>Q (.ml ds)
section
variable{X:Cx}{rl:RlT}{elt tg iter:Expr}{ifs:List Expr}{scope:Scope}{pos:Pos}{fi:En->(List FH->Prop)->Prop}{g:EE}{ft:TB}{fe:TV}
theorem lb{wi:TI}(fr:List (Option Nat))(k0:∀{F₀ H₀ F H:Hp}{σ:St}{ρ:En},VR X.K rl F₀ H₀ F H σ ρ->∀(Qd:List FH->Prop)(R:It->Hp->Prop),fi ρ Qd ->
 (∀J xs F' H',Grow rl F H F' H'->VIt X.K rl F' J xs->Qd xs->R J H')->wi σ H R)
 (hg:∀y,E1 (blk X N' scope y) rl tg g)(ht:∀y,lV (blk X N' scope y) rl ifs ft)(he:∀y,PV (blk X N' scope y) rl elt fe)
 (R:VR X.K rl F₀ H₀ F H σ ρ)(Qd:W->Prop)(Q:VK)(q:kI fi fr g ft fe ρ Qd)
 (k:∀v w F' H',Grow rl F H F' H'->cQ X.K rl F' H' v w->dq H v w->Qd w->Q v H'):pC wi fr (fun y=>Gc (hg y)) (fun y=>Gc (ht y)) (fun y=>Gc (he y)) σ H Q:=by
 refine k0 R _ _ q fun J xs F1 H1 g1 vi q1=>?_
 intro D hD
 have rD:rl.a≠some D:=fun e=>by obtain⟨o,z⟩:=g1.reel.live e;rw[hD]at z;cases z
 have FD:F1 D=none:=g1.sub.free hD
 have gD:Grow rl F1 H1 F1 (Cs H1 D (.lst [])):=Grow.laid g1.sub g1.reel hD
 have R1:=R.grow g1
 have n0:lX (dR fr ρ):=dA
 refine⟨fun i m acc σc Hc=>m=xs.length-i/\i<=xs.length/\∃Fc ds,VR X.K rl F1 H1 Fc Hc σc (dR fr ρ)/\Hc D=some (.lst acc)/\Fc D=none/\Reps X.K Fc acc ds/\kH (dR fr ρ) g ft fe (xs.drop i) ds (fun ds=>Qd (.ml ds)),
  ⟨xs.length,by simp,Gw _,F1,[],fy R1 gD,av,FD,.nil,by simpa using q1⟩,?_⟩
 rintro z i m acc σc Hc ⟨rfl,hi,Fc,ds,Rc,hDc,fDc,rs,q2⟩
 have sH:bC F1 Hc:=Rc.g.fs.trans Rc.sub
 by_cases hlt:i<xs.length
 · have ei:xs[i]?=some xs[i]:=by simp[hlt]
   have ed:xs.drop i=xs[i]::xs.drop (i+1):=GV hlt
   rw[ed]at q2
   refine .inr ⟨vi.go i Hc _ ei sH,fun v H' y=>?_⟩
   obtain⟨Fy,gy,rv⟩:=vi.yld i Hc v H' _ Fc ei Rc.g.fs Rc.sub Rc.reel y
   refine(FK (hg z)).2 (Rc.grow gy) v _ _ _ rv q2 fun F3 H3 σ3 ρ3 g3 n3 R3 ⟨le3,q3⟩=>?_
   refine(FK (ht z)).2 R3 _ _ q3 fun b F4 H4 g4 q4=>?_
   have R4:=R3.grow g4
   have g34:=(gy.trans g3).trans g4
   have keepD:∀{Fx Hx:Hp},Grow rl Fc Hc Fx Hx->Hx D=some (.lst acc)/\Fx D=none:=fun gx=>⟨gx.same D _ hDc rD,by rw[gx.old D _ hDc];exact fDc⟩
   cases b with
   | false=>exact⟨xs.length-(i+1),by omega,rfl,hlt,F4,ds,R4.le le3,(keepD g34).1,(keepD g34).2,rs.mono g34.fs,q4⟩
   | true =>
     refine(FK (he z)).2 R4 _ _ q4 fun v5 w5 F5 H5 g5 r5 n5 ⟨d,ed5,hl,q5⟩=>?_
     obtain⟨F6,g6,s6,r6⟩:=cQ.fz g5 r5 n5
     rw[ed5]at r6
     have g36:=g34.trans g6
     refine⟨(keepD g36).1,by rw[rs.length];exact hl,xs.length-(i+1),by omega,rfl,hlt,F6,ds++[d],((R4.grow g6).le le3).other n0 hD (keepD g36).2 rD,av,(keepD g36).2,(rs.mono g36.fs).snoc r6,q5⟩
 · have e:i=xs.length:=by omega
   subst e
   rw[HW]at q2
   refine .inl ⟨vi.stop _ Hc (FQ _) sH,k _ (.ml ds) Fc Hc (g1.trans Rc.g) ⟨D,acc,rfl,fDc,rD,hDc,rs⟩ (fun a ea=>by cases ea;exact g1.freeB hD) q2⟩
theorem bU(N':List Str)(fr:List (Option Nat))(hc:X.calm=true)(hi:EX X rl tg iter fi)
 (hg:∀y,E1 (blk X N' scope y) rl tg g)(ht:∀y,lV (blk X N' scope y) rl ifs ft)(he:∀y,PV (blk X N' scope y) rl elt fe)
 (hfr:lm fr N' X.N scope X.env.scope=true:=by rfl)(hsc:lI scope X.env.scope=true:=by rfl)
 (hs:∀x,Gj iter X.env x=pure x:=by intro _;rfl):PV X rl (.ListComp elt [⟨tg,iter,ifs,0⟩] scope pos) (kI fi fr g ft fe):=by
 obtain⟨wi,p0,k0⟩:=hi
 exact⟨_,ik N' fr hc p0 hfr hsc (fun y=>(FK (hg y)).1) (fun y=>(FK (ht y)).1) (fun y=>(FK (he y)).1) hs,fun R Qd Q q k=>lb fr k0 hg ht he R Qd Q q k⟩
end
def DR(ρ0:En)(g:EE)(ft:TB)(fe:TV)(x:FH):Mo (Option FH):=Ek (g x ρ0) fun ρ2=>D2 (Le ρ0 ρ2) (Ek (ft ρ2) fun b=>if b=true then Ek (fe ρ2) fun w=>aU (asD w.fz) fun d=>ret (some d)else ret none)
def cp(b:FH->Mo (Option FH)):List FH->List FH->Mo (List FH)
 | [],acc=>ret acc
 | x::xs,acc=>Ek (b x) fun o=>match o with
   | some d=>D2 (acc.length<sizeLine) (cp b xs (acc++[d]))
   | none=>cp b xs acc
theorem iC(ρ0:En)(g:EE)(ft:TB)(fe:TV):∀(xs acc:List FH),kH ρ0 g ft fe xs acc=cp (DR ρ0 g ft fe) xs acc
 | [],acc=>rfl
 | x::xs,acc=>by
   refine ag fun Q=>?_
   show(g x ρ0 fun ρ2=>Le ρ0 ρ2/\ft ρ2 fun b=>if b=true then fe ρ2 fun w=>∃d,w.fz = .d d/\acc.length<sizeLine/\kH ρ0 g ft fe xs (acc++[d]) Q else kH ρ0 g ft fe xs acc Q)↔(Ek (DR ρ0 g ft fe x) _) Q
   simp only[iC ρ0 g ft fe xs]
   have:∀(ρ2:En)(b:Bool),(if b=true then fe ρ2 fun w=>∃d,w.fz = .d d/\acc.length<sizeLine/\cp (DR ρ0 g ft fe) xs (acc++[d]) Q else cp (DR ρ0 g ft fe) xs acc Q)=(Ek (if b=true then Ek (fe ρ2) fun w=>aU (asD w.fz) fun d=>ret (some d)else ret none) fun o=>match o with
   | some d=>D2 (acc.length<sizeLine) (cp (DR ρ0 g ft fe) xs (acc++[d]))
   | none=>cp (DR ρ0 g ft fe) xs acc) Q:=by
     intro ρ2 b
     cases b with
     | false=>rfl
     | true =>
       rw[if_pos rfl,if_pos rfl]
       show _=fe ρ2 fun w=>_
       congr 1
       funext w
       refine propext ?_
       show _↔(Ek (aU (asD w.fz) fun d=>ret (some d)) _) Q
       rw[bnd_opt,ak]
       simp only[jv]
       exact Jy
   simp only[this]
   exact Jy
theorem m_comp(fi:En->(List FH->Prop)->Prop)(fr:List (Option Nat))(g:EE)(ft:TB)(fe:TV)(ρ:En):kI fi fr g ft fe ρ=Ek (fi ρ) fun xs=>Ek (cp (DR (dR fr ρ) g ft fe) xs []) fun ds=>ret (.ml ds):=by
 refine ag fun Q=>?_
 show(fi ρ fun xs=>kH (dR fr ρ) g ft fe xs [] fun ds=>Q (.ml ds))↔_
 simp only[iC]
 exact Jy
section
variable{α:Type}{b:FH->Mo (Option FH)}
theorem eF{enc:α->FH}(f:α->Option FH):∀(xs:List α)(acc:List FH),(∀x∈xs,b (enc x)=ret (f x))->acc.length+xs.length<=sizeLine->cp b (xs.map enc) acc=ret (acc++xs.filterMap f)
 | [],acc,_,_=>by simp[cp]
 | x::xs,acc,h,hl=>by
   show Ek (b (enc x)) _=_
   rw[h x FT,bnd_ret]
   simp at hl
   cases e:f x with
   | none =>
     show cp b (xs.map enc) acc=_
     rw[eF f xs acc (fun y hy=>h y (FP _ hy)) (by omega),List.filterMap_cons_none e]
   | some d =>
     show D2 (acc.length<sizeLine) (cp b (xs.map enc) (acc++[d]))=_
     rw[ai (by omega),eF f xs (acc++[d]) (fun y hy=>h y (FP _ hy)) (by simp;omega),List.filterMap_cons_some e]
     simp
theorem oP{xs:List α}{enc:α->FH}(f:α->Option FH)(h:∀x∈xs,b (enc x)=ret (f x))(hl:xs.length<=sizeLine):cp b (xs.map enc) []=ret (xs.filterMap f):=by
 have:=eF f xs [] h (by simpa using hl)
 simpa using this
theorem comp_map{xs:List α}{enc:α->FH}(f:α->FH)(h:∀x∈xs,b (enc x)=ret (some (f x)))(hl:xs.length<=sizeLine):cp b (xs.map enc) []=ret (xs.map f):=by
 rw[oP (fun x=>some (f x)) h hl,KW]
theorem e9{enc:α->FH}(R:α->FH->Prop){Q:List FH->Prop}:∀(xs:List α)(acc:List FH),(∀x∈xs,∀k:Option FH->Prop,(∀d,R x d->k (some d))->b (enc x) k)->acc.length+xs.length<=sizeLine->(∀ds,Hv R xs ds->Q (acc++ds))->cp b (xs.map enc) acc Q
 | [],acc,_,_,fin=>by have:=fin [] .nil;rw[Ht]at this;exact this
 | x::xs,acc,h,hl,fin=>by
   simp at hl
   refine h x FT _ fun d r=>?_
   refine⟨by omega,e9 R xs (acc++[d]) (fun y hy=>h y (FP _ hy)) (by simp;omega) fun ds ps=>?_⟩
   have:=fin (d::ds) (.cons r ps)
   simpa using this
theorem lp{xs:List α}{enc:α->FH}(R:α->FH->Prop){Q:List FH->Prop}(h:∀x∈xs,∀k:Option FH->Prop,(∀d,R x d->k (some d))->b (enc x) k)(hl:xs.length<=sizeLine)(fin:∀ds,Hv R xs ds->Q ds):cp b (xs.map enc) [] Q :=
 e9 R xs [] h (by simpa using hl) (by simpa using fin)
theorem oQ{lo:Int}(P:FH->Prop){Q:List FH->Prop}(h:∀j,j<n->∀k:Option FH->Prop,(∀d,P d->k (some d))->b (.int (lo+j)) k)(hl:n<=sizeLine)(fin:∀ds:List FH,ds.length=n->(∀d∈ds,P d)->Q ds):cp b (aV lo n) [] Q:=by
 refine lp (xs:=G9 n) (fun _ d=>P d) (fun j hj=>h j (IZ.mp hj)) (by simpa using hl) fun ds ps=>?_
 refine fin ds ?_ ?_
 · have:=HC ps;simpa using this.symm
 · clear fin h hl
   intro d hd
   generalize G9 n=l at ps
   induction ps with
   | nil=>cases hd
   | cons r _ ih=>exact(Gh.mp hd).elim (fun e=>by rw[e];exact r) ih
end
section
variable(c:Prop)[Decidable c]
theorem ite_nx(a b:En):(if c then ret (Fl.nx a)else ret (Fl.nx b))=ret (Fl.nx (if c then a else b)):=by split<;>rfl
theorem ite_rt(a b:W):(if c then ret (Fl.rt a)else ret (Fl.rt b))=ret (Fl.rt (if c then a else b)):=by split<;>rfl
theorem ite_retd(a b:FH):(if c then ret (W.d a)else ret (W.d b))=ret (W.d (if c then a else b)):=by split<;>rfl
theorem ite_retb(a b:Bool):(if c then ret a else ret b)=ret (if c then a else b):=by split<;>rfl
theorem ite_rets(a b:FH):(if c then ret (some a)else ret (some b))=ret (some (if c then a else b)):=by split<;>rfl
theorem ite_cons{α:Type}(x y:α)(l m:List α):(if c then x::l else y::m)=(if c then x else y)::(if c then l else m):=by split<;>rfl
theorem ite_some{α:Type}(x y:α):(if c then some x else some y)=some (if c then x else y):=by split<;>rfl
theorem ite_d(a b:FH):(if c then W.d a else W.d b)=W.d (if c then a else b):=by split<;>rfl
theorem ite_pi(a b:Int):(if c then GA a else GA b)=GA (if c then a else b):=by split<;>rfl
theorem ite_pb(a b:Bool):(if c then Ic a else Ic b)=Ic (if c then a else b):=by split<;>rfl
theorem itb_tt(b y:Bool):(if b=true then true else y)=(b||y):=by cases b<;>rfl
theorem itb_ff(b y:Bool):(if b=true then y else false)=(b&&y):=by cases b<;>rfl
theorem itb_ft(b y:Bool):(if b=true then false else y)=(!b&&y):=by cases b<;>rfl
theorem itb_tf(b y:Bool):(if b=true then y else true)=(!b||y):=by cases b<;>rfl
end
theorem ac(h:n<=1000):(n<=sizeLine)=True:=by have:=GL;exact propext ⟨fun _=>trivial,fun _=>by omega⟩
theorem tup2(x y:FH):(match [x,y]with | [x,y]=>some (x,y)|_=>none)=some (x,y):=rfl
theorem bnd_tt{α β:Type}(a:α)(f:α->Mo β):Ek (fun Q=>Q a) f=f a:=nr rfl
section
variable{α β:Type}
theorem aA{P:α->Prop}{f:α->Mo β}{Q:β->Prop}(h:∀a,P a->f a Q):Ek (anyM P) f Q:=h
theorem ca{P:Prop}{m:Mo α}{Q:α->Prop}(h:P)(h':m Q):D2 P m Q:=⟨h,h'⟩
theorem dB{c:Prop}[Decidable c]{a b:Mo α}{Q:α->Prop}(h:c->a Q)(h':¬c->b Q):(if c then a else b) Q:=by split<;>simp_all
end
theorem ay{Q:FH->Prop}(h:Q d):ret (Fl.rt (.d d)) (xl Q):=⟨d,rfl,h⟩
section
variable{α:Type}{k:En->Mo Fl}{Q:Fl->Prop}
theorem CZ{m:Mo α}{h:α->Mo Fl}(z:Ek m (fun a=>sq (h a) k) Q):sq (Ek m h) k Q:=z
theorem CY{o:Option α}{h:α->Mo Fl}(z:aU o (fun a=>sq (h a) k) Q):sq (aU o h) k Q:=by rw[vF];exact z
def kc(k1 k2:En->Mo Fl):En->Mo Fl:=fun ρ=>sq (k1 ρ) k2
theorem kc_ap(k1 k2:En->Mo Fl)(ρ:En):kc k1 k2 ρ=sq (k1 ρ) k2:=nr rfl
theorem sq_sq(m:Mo Fl)(k1 k2:En->Mo Fl):sq (sq m k1) k2=sq m (kc k1 k2):=by
 refine ag fun Q=>?_
 show m _↔m _
 have:∀fl:Fl,(sq (match fl with | .nx ρ=>k1 ρ | .rt w=>ret (.rt w) | .bk ρ=>ret (.bk ρ) | .ct ρ=>ret (.ct ρ)) k2) Q=(match fl with | .nx ρ=>kc k1 k2 ρ | .rt w=>ret (.rt w) | .bk ρ=>ret (.bk ρ) | .ct ρ=>ret (.ct ρ):Mo Fl) Q:=by intro fl;cases fl<;>rfl
 exact Iff.of_eq (congrArg m (funext this))
theorem aT{P:α->Prop}{f:α->Mo Fl}(z:∀a,P a->sq (f a) k Q):sq (Ek (anyM P) f) k Q:=z
end
theorem pk_sc(x:List Int):L2.VL.W.peek (.sc x) = .sc x:=rfl
theorem fz_sc(x:List Int):(W.sc x).fz = .sc x:=rfl
theorem arg_sc(x:List Int):eM (.sc x)=true:=rfl
theorem isPk_sc(x:List Int):(W.sc x).isPk=false:=rfl
section
variable{X:Cx}{rl:RlT}{a b c e:Expr}{es:List Expr}{fa fb fc:TV}{fs:EA}{pos p p2:Pos}{ρ:En}
def asSc:W->Option (List Int)
 | .sc ns=>some ns
 | _=>none
theorem asSc_s(ns:List Int):asSc (.sc ns)=some ns:=rfl
theorem uy{w:W}{i:List Int}:asSc w=some i↔w = .sc i:=by
 constructor
 · intro h;unfold asSc at h;split at h<;>simp_all
 · rintro rfl;rfl
theorem atI_map{β:Type}(f:α->β)(xs:List α)(i:Int):atI (xs.map f) i=(atI xs i).map f:=by
 unfold atI
 rw[FR]
 cases ixN xs.length i<;>simp
theorem nj{K:W.Frag}{F:Hp}:∀ns:List Int,Reps K F (ns.map V.int) (ns.map GA)
 | []=>.nil
 | n::ns=>.cons (.int n) (nj ns)
def ya(fa:TV)(fl fh:EC):TV:=fun ρ Q=>fa ρ fun w=>fl ρ fun l=>fh ρ fun h=>∃ns:List Int,w = .sc ns/\Q (.ml (cutD (ns.map .int) l h))
theorem uU{lo hi:Option Expr}{fl fh:EC}(ha:PV X rl a fa)(hl:EQ X rl lo fl)(hh:EQ X rl hi fh):PV X rl (.Subscript a (.Slice lo hi none p2) pos) (ya fa fl fh):=by
 obtain⟨t,p,k⟩:=ha
 obtain⟨tl,pl,kl⟩:=hl
 obtain⟨th,ph,kh⟩:=hh
 refine⟨_,ij m9 p pl ph,fun R Qd Q q h=>k R _ _ q fun v w F1 H1 g1 r1 n1 q1=>?_⟩
 refine kl (R.grow g1) _ _ q1 fun l F2 H2 g2 q2=>kh ((R.grow g1).grow g2) _ _ q2 fun u F3 H3 g3 q3=>?_
 obtain⟨ns,rfl,q3⟩:=q3
 obtain⟨a,rfl,sq⟩:=(r1.grow g2).grow g3
 have g:=(g1.trans g2).trans g3
 exact⟨a,_,rfl,pI g3.sub sq,fun p hp=>h _ (.ml _) _ _ (g.trans (Grow.laid g3.sub g3.reel hp)) (cC g3.sub g3.reel hp ((nj ns).cut l u)) (fun a ea=>by cases ea;exact g.freeB hp) q3⟩
theorem m_vSlS{fl fh:EC}:ya fa fl fh ρ=Ek (fa ρ) fun w=>Ek (fl ρ) fun l=>Ek (fh ρ) fun h=>aU (asSc w) fun ns=>ret (.ml (cutD (ns.map .int) l h)):=by
 refine ag fun Q=>?_
 simp only[ya,Ek,ak,uy,ret]
end
def C1(K:W.Frag)(pre:List W->Prop):Sp:=fun vs H Q _=>∃F ws,bC F H/\dU K RlT.no F H vs ws/\ws.all eM=true/\pre ws/\∀r F' H',H r=none->Grow RlT.no F H F' H'->EM (RlT.at' r BM) F' H'->Q (.ref r) H'
structure DfnR (P:Gi) (w:G5) (K:W.Frag) (mg:Str->Option Value) (base:Heap) (x:Str) (ps:List Str) (k:Nat) (pre:List W->Prop):Prop where
 ex:∃f fd,mg x=some (.ref f)/\W.keepIn K (.ref f)=true/\Binds K fd ps []/\FnOk P w K mg base Fq k f fd ps (C1 K pre)
def Dy:Option W->Option W
 | some .reel=>none
 | o=>o
def nR(ρ:En):En:=ρ.map Dy
def W.isR:W->Bool
 | .reel=>true
 | _=>false
def u7(i:Nat)(pre:List W->Prop)(fs:EA)(t:EB):EB:=fun D ρ=>fs ρ fun ws=>ws.all eM=true/\pre ws/\t ⟨fun ρ'=>D.nx (nR ρ'),fun w=>w.isR=false/\D.rt w,fun ρ'=>D.bk (nR ρ'),fun ρ'=>D.ct (nR ρ')⟩ (ρ.set i (some .reel))
theorem t4{r:Addr}(g:Grow RlT.no F₀ H₀ F H)(ra:EM (RlT.at' r BM) F H):Grow (RlT.at' r BM) F₀ H₀ F H:=⟨fun b o e _=>g.same b o e (by simp),g.fs,g.sub,g.old,ra⟩
theorem lj{r:Addr}{n':Nat}(g:Grow (RlT.at' r n') F₀ H₀ F H)(n:H₀ r=none):Grow RlT.no F₀ H₀ F H:=⟨fun b o e _=>g.same b o e (fun z=>by cases z;rw[n]at e;cases e),g.fs,g.sub,g.old,fun _ z=>by cases z⟩
theorem vM{K:W.Frag}{r:Addr}{w:W}(h:cQ K RlT.no F H v w)(ne:∀a,w.own=true\/(∃xs,w = .pk xs)->v = .ref a->a≠r):cQ K (RlT.at' r BM) F H v w:=by
 cases w with
 | d x=>exact h
 | ml xs=>obtain⟨a,vs,e,f,_,g⟩:=h;exact⟨a,vs,e,f,fun z=>ne a (.inl rfl) e (by cases z;rfl),g⟩
 | pk xs=>obtain⟨a,vs,e,f,_,g⟩:=h;exact⟨a,vs,e,f,fun z=>ne a (.inr ⟨_,rfl⟩) e (by cases z;rfl),g⟩
 | reel=>obtain⟨_,z,_⟩:=h;cases z
 | vv u=>exact h
 | md kvs=>obtain⟨a,vs,e,f,_,g⟩:=h;exact⟨a,vs,e,f,fun z=>ne a (.inl rfl) e (by cases z;rfl),g⟩
 | mk kvs=>obtain⟨a,vs,e,f,_,g⟩:=h;exact⟨a,vs,e,f,fun z=>ne a (.inl rfl) e (by cases z;rfl),g⟩
 | nt ds=>exact h
 | lk=>trivial
 | sc ns=>exact h
 | fd _=>exact h
 | fw _=>exact h
 | ft _=>exact h
 | xc _ _=>exact h
 | dp _ _=>exact h
theorem nn{K:W.Frag}{r:Addr}{n':Nat}{w:W}(h:cQ K (RlT.at' r n') F H v w)(n:w.isR=false):cQ K RlT.no F H v w:=by
 cases w with
 | d x=>exact h
 | ml xs=>obtain⟨a,vs,e,f,_,g⟩:=h;exact⟨a,vs,e,f,by simp,g⟩
 | pk xs=>obtain⟨a,vs,e,f,_,g⟩:=h;exact⟨a,vs,e,f,by simp,g⟩
 | reel=>cases n
 | vv u=>exact h
 | md kvs=>obtain⟨a,vs,e,f,_,g⟩:=h;exact⟨a,vs,e,f,by simp,g⟩
 | mk kvs=>obtain⟨a,vs,e,f,_,g⟩:=h;exact⟨a,vs,e,f,by simp,g⟩
 | nt ds=>exact h
 | lk=>trivial
 | sc ns=>exact h
 | fd _=>exact h
 | fw _=>exact h
 | ft _=>exact h
 | xc _ _=>exact h
 | dp _ _=>exact h
theorem kW{i:Nat}{w:W}(h:(nR ρ)[i]?=some (some w)):ρ[i]?=some (some w)/\w.isR=false:=by
 unfold nR at h
 rw[G_]at h
 cases e:ρ[i]? with
 | none=>rw[e]at h;cases h
 | some o =>
   rw[e]at h
   cases o with
   | none=>cases h
   | some u=>cases u<;>first|(cases h;exact⟨rfl,rfl⟩)|cases h
theorem VR.out{K:W.Frag}{r:Addr}{n':Nat}(R:VR K (RlT.at' r n') F₀ H₀ F H σ ρ)(n:H₀ r=none):VR K RlT.no F₀ H₀ F H σ (nR ρ):=by
 refine⟨lj R.g n,fun i w e=>?_,fun i j x y v hn e1 e2=>R.ap i j x y v hn (kW e1).1 (kW e2).1,fun i xs e=>R.np i xs (kW e).1,?_⟩
 · obtain⟨e1,e2⟩:=kW e
   obtain⟨v,h1,h2,h3⟩:=R.sl i w e1
   exact⟨v,h1,nn h2 e2,h3⟩
 · have:=R.len;simpa[nR]using this
theorem VR.into{K:W.Frag}{r:Addr}(R:VR K RlT.no F₀ H₀ F H σ ρ)(n:H r=none)(g:Grow RlT.no F H F' H')(ra:EM (RlT.at' r BM) F' H')(i:Nat):VR K (RlT.at' r BM) F₀ H₀ F' H' (σ.set i (some (.ref r))) (ρ.set i (some .reel)):=by
 have R1:=R.grow g
 refine⟨t4 R1.g ra,fun j w e=>?_,fun j k x y v hn e1 e2 o1 o2 s1 s2=>?_,fun j xs e=>?_,by simp[R.len]⟩
 · by_cases hj:i=j
   · subst hj
     have hi:i<ρ.length:=by
      rw[Hn]at e
      by_cases hi:i<ρ.length
      · exact hi
      · simp[hi]at e
     rw[Gm hi]at e
     cases e
     exact⟨.ref r,by rw[Gm (by rw[<- R.len];exact hi)],⟨r,rfl,rfl⟩,trivial⟩
   · rw[Gf hj]at e
     obtain⟨v,h1,h2,h3⟩:=R1.sl j w e
     refine⟨v,by rw[Gf hj];exact h1,vM h2 fun a ow ea z=>?_,h3⟩
     obtain⟨v0,h10,h20,_⟩:=R.sl j w e
     rw[h1]at h10
     cases h10
     rcases ow with ow|⟨xs,rfl⟩
     · obtain⟨b,o,eb,hb⟩:=h20.live ow
       rw[ea]at eb
       cases eb
       rw[z,n]at hb
       cases hb
     · exact absurd e (R.np j xs)
 · have key:∀(m:Nat)(z:W),(ρ.set i (some W.reel))[m]?=some (some z)->z.own=true->i≠m/\ρ[m]?=some (some z):=fun m z e o=>by
     by_cases hm:i=m
     · subst hm
       rw[Hn]at e
       split at e
       · split at e
         · cases e;cases o
         · cases e
       · exact absurd rfl (by assumption)
     · rw[Gf hm]at e;exact⟨hm,e⟩
   obtain⟨n1,d1⟩:=key j x e1 o1
   obtain⟨n2,d2⟩:=key k y e2 o2
   rw[Gf n1]at s1
   rw[Gf n2]at s2
   exact R1.ap j k x y v hn d1 d2 o1 o2 s1 s2
 · rw[Hn]at e
   split at e
   · split at e
     · cases e
     · cases e
   · exact R1.np j xs e
section
variable{X:Cx}{st:Stmt}{rest body:List Stmt}{t u:EB}{a b c e:Expr}{es:List Expr}{fa fb:TV}{fs:EA}{pos p px cpos:Pos}{ρ:En}
end
def Ct:Fl->Mo Fl
 | .nx ρ=>ret (.nx (nR ρ))
 | .rt w=>D2 (w.isR=false) (ret (.rt w))
 | .bk ρ=>ret (.bk (nR ρ))
 | .ct ρ=>ret (.ct (nR ρ))
theorem s_newR(i:Nat)(pre:List W->Prop)(fs:EA)(t:EB)(ρ:En):mS (u7 i pre fs t) ρ=Ek (fs ρ) fun ws=>D2 (ws.all eM=true) (D2 (pre ws) (Ek (mS t (ρ.set i (some .reel))) Ct)):=nr rfl
theorem nR_nil:nR []=[]:=rfl
theorem nR_r(l:En):nR (some .reel::l)=none::nR l:=rfl
theorem nR_n(l:En):nR (none::l)=none::nR l:=rfl
theorem nR_d(x:FH)(l:En):nR (some (.d x)::l)=some (.d x)::nR l:=rfl
theorem nR_ml(x:List FH)(l:En):nR (some (.ml x)::l)=some (.ml x)::nR l:=rfl
theorem nR_sc(x:List Int)(l:En):nR (some (.sc x)::l)=some (.sc x)::nR l:=rfl
def gE(K:W.Frag):Sp:=fun vs H Q _=>∃(a:Addr)(ns:List Int),vs=[.ref a]/\EH K H a (ns.map V.int)/\ns.length<=63/\∀H',Q (.bl true) H'
def BC:VEnds:=⟨fun _=>False,fun w=>w = .d (.bool true),fun _=>False,fun _=>False⟩
def uE:Fl->Prop
 | .rt w=>w = .d (.bool true)
 | _=>False
theorem un_law(m:Mo Fl):Ek m Ct uE=m uE:=by
 show m (fun fl=>Ct fl uE)=m uE
 congr 1
 funext fl
 cases fl with
 | rt w=>exact propext ⟨fun⟨_,h⟩=>h,fun h=>⟨by rw[show w = .d (.bool true)from h];rfl,h⟩⟩
 | _=>rfl
theorem tX:ret (Fl.rt (.d (.bool true))) uE:=rfl
section
variable{P:Gi}{w:G5}{K:W.Frag}{mg:Str->Option Value}{base:Heap}{st:Stmt}{N:List Str}{k:Nat}{t:EB}{x:Str}
theorem tJ{f:Addr}(F:Fun K "law" "law" st f fd)(S:FnScope N [x] (defScope st))
 (hbody:∀(cdv:Value)(A:Hf)(outer:List Env)(s:FO)(H:Hp)(E:XK),Room k (A.deeper (J_ "law" (defScope st) s.heap.objs.size f cdv))->kd (lS Fq P w K mg base N "law" (defScope st) f cdv A outer s H E).nox RlT.no (defBody st) t)
 (hread:∀ns:List Int,ns.length<=63->mS t (cF N [.sc ns]) uE):FnOk P w K mg base Fq (k+1) f fd [x] (gE K):=by
 refine F.ok S (fun vs H Q E h=>?_) (fun cdv A outer s H vs Q E hr h=>?_)
 · obtain⟨a,ns,rfl,_⟩:=h
   rfl
 · obtain⟨a,ns,rfl,hS,hl,kq⟩:=h
   obtain⟨T,p,kk⟩:=hbody cdv A outer s H E hr
   have rw0:dU K RlT.no H H [.ref a] [.sc ns]:=.cons ⟨a,rfl,hS⟩ .nil
   have R:VR K RlT.no H H H H (start N [.ref a]) (cF N [.sc ns]):=dr (.refl H) (fun _ z=>by cases z) rw0 rfl
   refine⟨T,p,kk R BC _ ⟨fun _ _ _ _ _ _ z=>GZ z,?_,fun _ _ _ _ _ _ z=>GZ z,fun _ _ _ _ _ _ z=>GZ z⟩ (hread ns hl)⟩
   rintro v w1 F1 H1 g1 r1 n1 z
   have z:w1 = .d (.bool true):=z
   subst z
   have e:=eV r1
   subst e
   exact kq H1
end
def lB(i:Nat)(fa:TV):EB:=fun D ρ=>fa ρ fun w=>∃d,w.fz = .d d/\D.nx (ρ.set i (some (.d d)))
section
variable{X:Cx}{rl:RlT}{st:Stmt}{rest body:List Stmt}{t u:EB}{a b c e:Expr}{es:List Expr}{fa fb:TV}{fs:EA}{f:TB}{pos p:Pos}{ρ:En}
theorem am(i:Nat)(hN:X.N.Nodup)(he:PV X rl e fa)(hi:X.N[i]?=some x:=by rfl)(hx:Loc X.env.scope x:=by first|exact Ix rfl|exact HN rfl)
 (hs:HS e (some (.Name x pos')) pos.line X.env=pure false:=by rfl)(hf:X.fn x=true\/X.env.scope.names.lookup x=some .local:=by first|exact .inl rfl|exact .inr rfl) :
 EU X rl (.Assign [.Name x pos'] e pos) (lB i fa):=by
 obtain⟨t,p,k⟩:=he
 refine⟨_,fN hN hi hx p hs hf,fun R Dv D ok q=>k R _ _ q fun v w F1 H1 g1 r1 n1 ⟨d,ed,q1⟩=>?_⟩
 obtain⟨F2,g2,s2,r2⟩:=cQ.fz g1 r1 n1
 rw[ed]at r2
 exact ok.nx _ _ _ _ g2.fs (R.set g2 r2 trivial (fun xs z=>by cases z) i) q1
theorem s_setZ(i:Nat):mS (lB i fa) ρ=Ek (fa ρ) fun w=>aU (asD w.fz) fun d=>ret (.nx (ρ.set i (some (.d d)))):=by
 show(Ek (fa ρ) fun w=>fun(Q:Fl->Prop)=>∃d,w.fz = .d d/\Q (.nx (ρ.set i (some (.d d)))))=_
 congr 1;funext w
 refine ag fun Q=>?_
 simp only[ak,jv,ret]
end
section
variable{X:Cx}{rl:RlT}{elt tg iter:Expr}{ifs:List Expr}{scope:Scope}{pos:Pos}{fi:En->(List FH->Prop)->Prop}{g:EE}{ft:TB}{fe:TV}
theorem cx(i:Nat){b:Bool}(hN:X.N.Nodup)(N':List Str)(fr:List (Option Nat))(hc:X.calm=true)(hi:EX X rl tg iter fi)
 (hg:∀y,E1 (blk X N' scope y) rl tg g)(ht:∀y,lV (blk X N' scope y) rl ifs ft)(he:∀y,PV (blk X N' scope y) rl elt fe)
 (hsw:HS (.ListComp elt [⟨tg,iter,ifs,0⟩] scope pos) (some (.Name x px)) spos.line X.env=pure b:=by rfl)
 (hix:X.N[i]?=some x:=by rfl)(hx:Loc X.env.scope x:=by first|exact Ix rfl|exact HN rfl)(hf:X.fn x=true\/X.env.scope.names.lookup x=some .local:=by first|exact .inl rfl|exact .inr rfl)
 (hfr:lm fr N' X.N scope X.env.scope=true:=by rfl)(hsc:lI scope X.env.scope=true:=by rfl)
 (hs:∀x,Gj iter X.env x=pure x:=by intro _;rfl):EU X rl (.Assign [.Name x px] (.ListComp elt [⟨tg,iter,ifs,0⟩] scope pos) spos) (lB i (kI fi fr g ft fe)):=by
 obtain⟨wi,p0,k0⟩:=hi
 refine⟨_,lK N' fr hc p0 hfr hsc (fun y=>(FK (hg y)).1) (fun y=>(FK (ht y)).1) (fun y=>(FK (he y)).1) hN hix hx hf hsw hs,fun R Dv D ok q=>lb fr k0 hg ht he R _ _ q fun v w F1 H1 g1 r1 n1 ⟨d,ed,q1⟩=>?_⟩
 obtain⟨F2,g2,s2,r2⟩:=cQ.fz g1 r1 n1
 rw[ed]at r2
 exact ok.nx _ _ _ _ g2.fs (R.set g2 r2 trivial (fun xs z=>by cases z) i) q1
end
def eN(xs:List Int):FH:=.tuple (xs.map .int)
def y8(xs:List Int):FH:=.list (xs.map .int)
theorem dP:∀{xs ys:List Int},xs.map GA=ys.map GA↔xs=ys:=by
 intro xs ys
 constructor
 · intro h
   have:=congrArg jh h
   rw[intsD_map,intsD_map]at this
   exact GS this
 · rintro rfl;rfl
theorem kK{xs ys:List Int}:eN xs=eN ys↔xs=ys:=by
 unfold eN
 rw[Hh,dP]
theorem p8{xs ys:List Int}:y8 xs=y8 ys↔xs=ys:=by
 unfold y8
 rw[IR,dP]
theorem aO{α:Type}{f:α->FH}(h:∀a b,f a=f b↔a=b):∀{xs ys:List α},xs.map f=ys.map f↔xs=ys
 | [],[]=>by simp
 | [],_::_=>by simp
 | _::_,[]=>by simp
 | x::xs,y::ys=>by simp[h,aO h (xs:=xs) (ys:=ys)]
def yr(xs:List (List Int)):FH:=.tuple (xs.map eN)
theorem pB{xs ys:List (List Int)}:yr xs=yr ys↔xs=ys:=by
 unfold yr
 rw[Hh,aO fun _ _=>kK]
theorem xx{xs:List α}{i:Int}(h0:0<=i)(h1:i<(xs.length:Int)):atI xs i=some (xs[i.toNat]'(by omega)):=by
 obtain⟨n,rfl⟩:=ID h0
 exact j9 (GB (by omega))
section
variable{α σ:Type}{fl:List Nat}{b:FH->En->Mo Fl}{k:En->Mo Fl}{Q:Fl->Prop}{ρ:En}
theorem kr{f:TB}{t:EB}(st:σ->En)(c:σ->Bool)(nxt:σ->σ)(μ:σ->Nat)(I:σ->Prop)(s:σ)(h0:ρ=st s)(hs:I s)
 (hf:∀s,I s->f (st s)=ret (c s))(ht:∀s,I s->c s=true->I (nxt s)/\μ (nxt s)<μ s/\∃ρ',mS t (st s)=ret (.nx ρ')/\fo fl ρ'=st (nxt s))(fin:∀s,I s->c s=false->k (st s) Q):sq (gw fl f t ρ) k Q:=by
 subst h0
 obtain⟨s',a,b,e⟩:=mh st c nxt μ I hf ht s hs
 rw[e]
 exact fin s' a b
def DH(fl:List Nat)(J:En->Prop)(k:En->Mo Fl)(Q:Fl->Prop):Fl->Prop
 | .nx ρ=>J (fo fl ρ)
 | .ct ρ=>J (fo fl ρ)
 | .bk ρ=>k (fo fl ρ) Q
 | .rt w=>Q (.rt w)
theorem bV{J:En->Prop}{ρ:En}(h:J (fo fl ρ)):DH fl J k Q (.nx ρ):=h
theorem eA{xs:List α}{enc:α->FH}(J:Nat->En->Prop)(hx:xs'=xs.map enc)(h0:J 0 ρ)
 (step:∀i (h:i<xs.length) ρ,J i ρ->∀K:Fl->Prop,(∀r,DH fl (J (i+1)) k Q r->K r)->b (enc xs[i]) ρ K)(fin:∀ρ,J xs.length ρ->k ρ Q):sq (fX fl b xs' ρ) k Q:=by
 subst hx
 refine nV (Q:=fun r=>(match r with | .nx ρ=>k ρ | .rt w=>ret (.rt w) | .bk ρ=>ret (.bk ρ) | .ct ρ=>ret (.ct ρ):Mo Fl) Q) J h0 (fun i hi ρ j K hK=>step i hi ρ j K fun r hr=>hK r ?_) fin
 cases r<;>exact hr
theorem dQ{lo:Int}(J:Nat->En->Prop)(h0:J 0 ρ)
 (step:∀i,i<n->∀ρ,J i ρ->∀K:Fl->Prop,(∀r,DH fl (J (i+1)) k Q r->K r)->b (.int (lo+i)) ρ K)(fin:∀ρ,J n ρ->k ρ Q):sq (fX fl b (aV lo n) ρ) k Q:=by
 refine qa (Q:=fun r=>(match r with | .nx ρ=>k ρ | .rt w=>ret (.rt w) | .bk ρ=>ret (.bk ρ) | .ct ρ=>ret (.ct ρ):Mo Fl) Q) J h0 (fun i hi ρ j K hK=>step i hi ρ j K fun r hr=>hK r ?_) fin
 cases r<;>exact hr
end
section
variable{α β:Type}{b:FH->Mo (Option FH)}{k:List FH->Mo β}{Q:β->Prop}
theorem rE{xs:List α}{enc:α->FH}(f:α->Option FH)(hx:xs'=xs.map enc)(h:∀x∈xs,b (enc x)=ret (f x))(hl:xs.length<=sizeLine)(fin:k (xs.filterMap f) Q):Ek (cp b xs' []) k Q:=by
 subst hx;rw[oP f h hl];exact fin
theorem b9{xs:List α}{enc:α->FH}(f:α->FH)(hx:xs'=xs.map enc)(h:∀x∈xs,b (enc x)=ret (some (f x)))(hl:xs.length<=sizeLine)(fin:k (xs.map f) Q):Ek (cp b xs' []) k Q:=by
 subst hx;rw[comp_map f h hl];exact fin
theorem uq{xs:List α}{enc:α->FH}(R:α->FH->Prop)(hx:xs'=xs.map enc)(h:∀x∈xs,∀K:Option FH->Prop,(∀d,R x d->K (some d))->b (enc x) K)(hl:xs.length<=sizeLine)(fin:∀ds,Hv R xs ds->k ds Q):Ek (cp b xs' []) k Q:=by
 subst hx;exact lp R h hl fin
theorem qJ{lo:Int}(P:FH->Prop)(h:∀j,j<n->∀K:Option FH->Prop,(∀d,P d->K (some d))->b (.int (lo+j)) K)(hl:n<=sizeLine)(fin:∀ds:List FH,ds.length=n->(∀d∈ds,P d)->k ds Q):Ek (cp b (aV lo n) []) k Q :=
 oQ P h hl fin
end
section
variable{α β:Type}
theorem nQ{i:Int}{k:FH->Mo β}{Q:β->Prop}(h0:0<=i)(h1:i<(xs.length:Int))(h:∀z∈xs,k z Q):aU (atI xs i) k Q:=by
 obtain⟨z,e,m⟩:=xw h0 h1
 rw[e]
 exact h z m
theorem gM{xs:List α}{enc:α->FH}{i:Int}{k:FH->Mo β}{Q:β->Prop}(P:α->Prop)(hx:xs'=xs.map enc)(h0:0<=i)(h1:i<(xs.length:Int))(hP:∀z∈xs,P z)(h:∀z,P z->k (enc z) Q):aU (atI xs' i) k Q:=by
 subst hx
 refine nQ h0 (by simpa using h1) fun z mz=>?_
 obtain⟨x,hx,rfl⟩:=GJ.mp mz
 exact h x (hP x hx)
end
theorem ln{α:Type}{enc:α->FH}{P:α->Prop}:∀{ds:List FH},(∀d∈ds,∃x,P x/\d=enc x)->∃xs:List α,ds=xs.map enc/\xs.length=ds.length/\∀x∈xs,P x
 | [],_=>⟨[],rfl,rfl,by simp⟩
 | d::ds,h=>by
   obtain⟨x,hx,e⟩:=h d FT
   obtain⟨xs,e1,e2,e3⟩:=ln (ds:=ds) fun d hd=>h d (FP _ hd)
   exact⟨x::xs,by rw[e,e1];rfl,by simp[e2],fun y hy=>(Gh.mp hy).elim (fun z=>by rw[z];exact hx) (e3 y)⟩
section
variable{X:Cx}{rl:RlT}{a b c o e:Expr}{es:List Expr}{fa fb:TV}{fs:EA}{pos p apos cpos:Pos}{ρ:En}
end
end L2.VL
namespace L2
section
variable{X:Cx}{pos:Pos}
end
end L2
namespace L2.VL
section
variable{X:Cx}{rl:RlT}{es:List Expr}{pos:Pos}{ρ:En}
end
def zS:=FJ @bnd_tt (FJ @bnd_ret (FJ @bnd_bnd (FJ @bnd_grd (FJ @bnd_stk (FJ @bnd_ite (FJ @bnd_opt (FJ @opt_some (FJ @opt_none (FJ @grd_T (FJ @sq_nx (FJ @sq_rt (FJ @sq_bk (FJ @sq_ct (FJ @sq_grd (FJ @sq_stk (FJ @sq_ite (FJ @sq_sq (@kc_ap))))))))))))))))))
def zV:=FJ @ite_nx (FJ @ite_rt (FJ @ite_retd (FJ @ite_retb (FJ @ite_rets (FJ @ite_cons (FJ @ite_some (FJ @ite_d (FJ @ite_pi (FJ @ite_pb (FJ @itb_tt (FJ @itb_ff (FJ @itb_ft (FJ @itb_tf (@ite_self.{1}))))))))))))))
def zY:=FJ @m_vC (FJ @m_vVar (FJ @m_vNil (FJ @m_vCons (FJ @m_vOp (FJ @m_gI (FJ @m_gI0 (FJ @m_vNeg (FJ @m_vTest (FJ @m_gEqD (FJ @m_gInD (FJ @m_vAnd (FJ @m_vOr (FJ @m_vNot (FJ @m_vAndV (FJ @m_vOrV (FJ @m_vNotV (FJ @m_vIf (FJ @m_vTup (FJ @m_vLst (FJ @m_gIx (FJ @m_vCall (FJ @m_gAbs (@m_gLen)))))))))))))))))))))))
def zX:=FJ @m_gRepr (FJ @m_gTupO (FJ @m_gLstO (FJ @m_gI2 (FJ @m_gInt1 (FJ @m_oNo (FJ @m_oIt (FJ @m_vSlL (FJ @m_vSlA (FJ @m_gCatD (FJ @m_gCatA (FJ @m_vLR1 (FJ @m_vTR1 (FJ @m_iL (FJ @m_iT (FJ @m_iR1 (@m_iR2))))))))))))))))
def zW:=FJ @m_iZb (FJ @m_vUse (FJ @m_gEqS (FJ @m_comp (@m_vSlS))))
def zO:=FJ @s_next (FJ @s_seq (FJ @s_ret (FJ @s_ifS (FJ @s_set (FJ @s_setZ (FJ @s_never (FJ @s_asg (FJ @s_par (FJ @s_aug (FJ @s_frz (FJ @s_mut (FJ @s_for (FJ @bdy_ap (FJ @s_while (FJ @s_newR (FJ @m_hName (@m_hNil_n)))))))))))))))))
def zN:=FJ @m_hCons_c (FJ @m_hTup (@m_gApp))
def zR:=FJ @pk_sc (FJ @fz_sc (FJ @arg_sc (FJ @isPk_sc (FJ @asI_d (FJ @asB_d (FJ @asS_d (FJ @asD_d (FJ @asT_d (FJ @asL_d (FJ @asL_ml (FJ @asL_pk (FJ @asQ_d (FJ @asQ_ml (FJ @asQ_pk (FJ @lstD_l (FJ @tupD_t (FJ @toI_i (FJ @toI_b (FJ @isiT_t (FJ @asM_ml (FJ @asSc_s (FJ @two_d (@fz_d)))))))))))))))))))))))
def zQ:=FJ @fz_ml (FJ @fz_pk (FJ @fz_reel (FJ @fz_vv (FJ @pk_d (FJ @pk_ml (FJ @pk_reel (FJ @pk_vv (FJ @dat_d (FJ @dat_ml (FJ @dat_pk (FJ @isPk_d (FJ @isPk_ml (FJ @isPk_reel (FJ @dats_nil (FJ @dats_d (FJ @arg_d (FJ @arg_reel (FJ @item_l (FJ @item_t (FJ @len_l (FJ @len_t (FJ @seq_l (@seq_t)))))))))))))))))))))))
def zP:=FJ @at0 (FJ @at1 (FJ @blsD_map (FJ @tup2 (FJ @fo_nil (FJ @fo_cons (FJ @nR_nil (FJ @nR_r (FJ @nR_n (FJ @nR_d (FJ @nR_ml (FJ @nR_sc (FJ @le_nil (FJ @le_cn (FJ @le_cs (FJ @end_d (FJ @end_ml (FJ @end_nx (@un_law))))))))))))))))))
def zU:=FJ @Gz.{0,0} (FJ @Ka.{0,0} (FJ @Gp.{0} (FJ @IK.{0} (FJ @List.getElem?_cons_zero.{0} (FJ @List.getElem?_cons_succ.{0} (FJ @List.set_cons_zero.{0} (FJ @List.set_cons_succ.{0} (FJ @List.set_nil.{0} (FJ @KM.{0} (FJ @List.nil_append.{0} (FJ @L6.{0} (FJ @List.all_nil.{0} (FJ @List.head?_cons.{0} (FJ @Bool.and_true (FJ @MH.injEq.{0} (FJ @Option.map_some.{0,0} (FJ @Option.bind_some.{0,0} (FJ @Option.bind_none.{0,0} (FJ @Option.join_some.{0} (FJ @Option.join_none.{0} (FJ @Jn (FJ @and_self (@and_true)))))))))))))))))))))))
def zT:=FJ @true_and (FJ @shaped_i (FJ @eqv_ii (FJ @shaped_b (FJ @Bool.true_and (FJ @Bool.and_self (FJ @Bool.not_true (FJ @Bool.not_false (FJ @FR.{0,0} (FJ @H_ (FJ @Bool.true_eq_false (FJ @decide_true (FJ @decide_false (FJ @List.isEmpty_cons.{0} (FJ @List.isEmpty_nil.{0} (@List.isEmpty_map.{0,0})))))))))))))))
structure GlTK (P:Gi) (w:G5) (K:W.Frag) (x:Str) (D:List (Str×Int)):Prop where
 ex:∃p,W.nsIn K GQ x=some (some (.ref p))/\∀h,K.In h->StrTab P w h p (AK D)
theorem GlTK.of{w:G5}{K:W.Frag}{D:List (Str×Int)}(k:GlTK P w K x D)(Y:K.In h)(G:h.Ns GQ mg):GlT P w K mg x D:=by
 obtain⟨p,h1,h2⟩:=k.ex
 exact⟨p,W.mg_of Y G h1,h2⟩
section
variable{X:Cx}{rl:RlT}{e:Expr}{fa:TV}{pos dpos q1 q2 q3 q4:Pos}{ρ:En}{j1 j2 j3 j4:Nat}{a b x y:Str}
end
theorem EM.pay{a:Option Addr}{b b':Nat}{F H:Hp}(r:EM ⟨a,b⟩ F H)(h:b'<=b):EM ⟨a,b'⟩ F H:=fun x e=>by
 obtain⟨z,⟨o,q,ro⟩⟩:=r x e
 exact⟨z,⟨o,q,ro.pay h⟩⟩
theorem Grow.pay{a:Option Addr}{b b':Nat}{F H F' H':Hp}(g:Grow ⟨a,b⟩ F H F' H')(h:b'<=b):Grow ⟨a,b'⟩ F H F' H':=⟨g.same,g.fs,g.sub,g.old,g.reel.pay h⟩
theorem Grow.tr{a:Option Addr}{b b':Nat}{F1 H1 F2 H2:Hp}(g:Grow ⟨a,b⟩ F H F1 H1)(g':Grow ⟨a,b'⟩ F1 H1 F2 H2):Grow ⟨a,b'⟩ F H F2 H2 :=
 ⟨fun c o e n=>g'.same c o (g.same c o e n) n,g.fs.trans g'.fs,g'.sub,fun c o e=>by obtain⟨o',e'⟩:=g.live e;rw[g'.old c o' e',g.old c o e],g'.reel⟩
theorem cQ.on{K:W.Frag}{a:Option Addr}{b b':Nat}{w:W}(r:cQ K ⟨a,b⟩ F H v w):cQ K ⟨a,b'⟩ F H v w:=by cases w<;>exact r
theorem cQ.gr{K:W.Frag}{a:Option Addr}{b b' b2:Nat}{w:W}(g:Grow ⟨a,b'⟩ F H F' H')(r:cQ K ⟨a,b⟩ F H v w):cQ K ⟨a,b2⟩ F' H' v w:=((r.on (b':=b')).grow g).on
theorem VR.gr{K:W.Frag}{a:Option Addr}{b b':Nat}{F₀ H₀ F H F' H':Hp}{σ:St}{ρ:En}(r:VR K ⟨a,b⟩ F₀ H₀ F H σ ρ)(g:Grow ⟨a,b'⟩ F H F' H'):VR K ⟨a,b'⟩ F₀ H₀ F' H' σ ρ :=
 ⟨r.g.tr g,fun i w e=>let ⟨v,e1,e2,e3⟩:=r.sl i w e;⟨v,e1,e2.gr g,e3⟩,r.ap,r.np,r.len⟩
theorem VR.pay{K:W.Frag}{a:Option Addr}{b b':Nat}{F₀ H₀ F H:Hp}{σ:St}{ρ:En}(r:VR K ⟨a,b⟩ F₀ H₀ F H σ ρ)(h:b'<=b):VR K ⟨a,b'⟩ F₀ H₀ F H σ ρ:=r.gr ((Grow.refl r.sub r.reel).pay h)
theorem EndsOk.pay{K:W.Frag}{a:Option Addr}{b b':Nat}{F₀ H₀ Fs:Hp}{Dv:VEnds}{D:Ends}(ok:EndsOk K ⟨a,b'⟩ F₀ H₀ Fs Dv D)(h:b'<=b):EndsOk K ⟨a,b⟩ F₀ H₀ Fs Dv D :=
 ⟨fun F H σ ρ s R=>ok.nx F H σ ρ s (R.pay h),fun v w F H g r n=>ok.rt v w F H (g.pay h) r.on n,fun F H σ ρ s R=>ok.bk F H σ ρ s (R.pay h),fun F H σ ρ s R=>ok.ct F H σ ρ s (R.pay h)⟩
def CV(X:Cx)(al:Option Addr)(c:Nat)(e:Expr)(f:TV):Prop:=∃t,PE X e t/\∀{b:Nat}{F₀ H₀ F H:Hp}{σ:St}{ρ:En},VR X.K ⟨al,b+c⟩ F₀ H₀ F H σ ρ->∀(Qd:W->Prop)(Q:VK),f ρ Qd ->
 (∀v w F' H',Grow ⟨al,b⟩ F H F' H'->cQ X.K ⟨al,b⟩ F' H' v w->dq H v w->Qd w->Q v H')->t σ H Q
def CB(X:Cx)(al:Option Addr)(c:Nat)(e:Expr)(f:TB):Prop:=∃t,PT X e t/\∀{b:Nat}{F₀ H₀ F H:Hp}{σ:St}{ρ:En},VR X.K ⟨al,b+c⟩ F₀ H₀ F H σ ρ->∀(Qd:Bool->Prop)(Q:Bool->Hp->Prop),f ρ Qd ->
 (∀k F' H',Grow ⟨al,b⟩ F H F' H'->Qd k->Q k H')->t σ H Q
def Fw(X:Cx)(al:Option Addr)(c:Nat)(e:Expr)(f:TB):Prop:=∃t,PW X e t/\∀{b:Nat}{F₀ H₀ F H:Hp}{σ:St}{ρ:En},VR X.K ⟨al,b+c⟩ F₀ H₀ F H σ ρ->∀(Qd:Bool->Prop)(Q:Bool->Hp->Prop),f ρ Qd ->
 (∀k F' H',Grow ⟨al,b⟩ F H F' H'->Qd k->Q k H')->t σ H Q
def Ft(X:Cx)(al:Option Addr)(c:Nat)(es:List Expr)(f:EA):Prop:=∃t,PA X es t/\∀{b:Nat}{F₀ H₀ F H:Hp}{σ:St}{ρ:En},VR X.K ⟨al,b+c⟩ F₀ H₀ F H σ ρ->∀(Qd:List W->Prop)(Q:List V->Hp->Prop),f ρ Qd ->
 (∀vs ws F' H',Grow ⟨al,b⟩ F H F' H'->dU X.K ⟨al,b⟩ F' H' vs ws->Qd ws->Q vs H')->t σ H Q
def CS(X:Cx)(al:Option Addr)(c:Nat)(st:Stmt)(t:EB):Prop:=∃T,PS X st T/\∀{b:Nat}{F₀ H₀ F H:Hp}{σ:St}{ρ:En},VR X.K ⟨al,b+c⟩ F₀ H₀ F H σ ρ->∀Dv D,EndsOk X.K ⟨al,b⟩ F₀ H₀ F Dv D->t Dv ρ->T D σ H
def Fv(X:Cx)(al:Option Addr)(c:Nat)(st:List Stmt)(t:EB):Prop:=∃T,ET X st T/\∀{b:Nat}{F₀ H₀ F H:Hp}{σ:St}{ρ:En},VR X.K ⟨al,b+c⟩ F₀ H₀ F H σ ρ->∀Dv D,EndsOk X.K ⟨al,b⟩ F₀ H₀ F Dv D->t Dv ρ->T D σ H
def CI(X:Cx)(al:Option Addr)(c:Nat)(tg iter:Expr)(fi:En->(List FH->Prop)->Prop):Prop:=∃wi,PI X tg iter wi/\∀{b:Nat}{F₀ H₀ F H:Hp}{σ:St}{ρ:En},VR X.K ⟨al,b+c⟩ F₀ H₀ F H σ ρ->∀(Qd:List FH->Prop)(R:It->Hp->Prop),fi ρ Qd ->
 (∀J xs F' H',Grow ⟨al,b⟩ F H F' H'->(∀b',VIt X.K ⟨al,b'⟩ F' J xs)->Qd xs->R J H')->wi σ H R
section
variable{X:Cx}{al:Option Addr}{c c1 c2 c3:Nat}{st:Stmt}{rest body:List Stmt}{t u:EB}{a b e ec:Expr}{es:List Expr}{fa fb:TV}{fs:EA}{f g:TB}{pos p:Pos}
theorem cv(h:∀n,PV X ⟨al,n⟩ e fa):CV X al 0 e fa :=
 ⟨fun σ H Q=>∃n,Gc (h n) σ H Q,fun pins s σ H Q I ⟨n,z⟩=>(FK (h n)).1 pins s σ H Q I z,fun{b F₀ H₀ F H σ ρ} R Qd Q q k=>⟨b,(FK (h b)).2 R Qd Q q k⟩⟩
theorem cb(h:∀n,PB X ⟨al,n⟩ e f):CB X al 0 e f :=
 ⟨fun σ H Q=>∃n,Gc (h n) σ H Q,fun pins s σ H Q I ⟨n,z⟩=>(FK (h n)).1 pins s σ H Q I z,fun{b F₀ H₀ F H σ ρ} R Qd Q q k=>⟨b,(FK (h b)).2 R Qd Q q k⟩⟩
theorem Ef(h:∀n,EO X ⟨al,n⟩ es fs):Ft X al 0 es fs :=
 ⟨fun σ H Q=>∃n,Gc (h n) σ H Q,fun p pins s σ H Q I ⟨n,z⟩=>(FK (h n)).1 p pins s σ H Q I z,fun{b F₀ H₀ F H σ ρ} R Qd Q q k=>⟨b,(FK (h b)).2 R Qd Q q k⟩⟩
theorem cs(h:∀n,EU X ⟨al,n⟩ st t):CS X al 0 st t :=
 ⟨fun D σ H=>∃n,Gc (h n) D σ H,fun pins s σ H D I ⟨n,z⟩=>(FK (h n)).1 pins s σ H D I z,fun{b F₀ H₀ F H σ ρ} R Dv D ok q=>⟨b,(FK (h b)).2 R Dv D ok q⟩⟩
theorem Eg(h:∀n,kd X ⟨al,n⟩ body t):Fv X al 0 body t :=
 ⟨fun D σ H=>∃n,Gc (h n) D σ H,fun pins s σ H D I ⟨n,z⟩=>(FK (h n)).1 pins s σ H D I z,fun{b F₀ H₀ F H σ ρ} R Dv D ok q=>⟨b,(FK (h b)).2 R Dv D ok q⟩⟩
theorem VIt.on{K:W.Frag}{r r':RlT}{J:It}(h:VIt K r F J xs):VIt K r' F J xs:=⟨h.go,h.stop,h.yld⟩
theorem ci(h:∀n,EX X ⟨al,n⟩ tg iter fi):CI X al 0 tg iter fi :=
 ⟨fun σ H Q=>∃n,Gc (h n) σ H Q,fun pins s σ H Q I ⟨n,z⟩=>(FK (h n)).1 pins s σ H Q I z,fun{b F₀ H₀ F H σ ρ} R Qd Q q k=>⟨b,(FK (h b)).2 R Qd Q q fun J xs F' H' g v=>k J xs F' H' g fun _=>v.on⟩⟩
theorem cB:Ft X al 0 [] yh:=Ef fun _=>ab
theorem aD(h1:CV X al c1 e fa)(h2:Ft X al c2 es fs)(hs:FU (e::es) X.env=(false,eval e X.env)::FU es X.env:=by rfl):Ft X al (c1+c2) (e::es) (r_ fa fs):=by
 obtain⟨t,p1,k1⟩:=h1
 obtain⟨ts,p2,k2⟩:=h2
 refine⟨_,nL p1 p2 hs,fun{n _ _ _ _ _ _} R Qd Q q k=>?_⟩
 refine k1 (b:=n+c2) (R.pay (by omega)) _ _ q fun v w F1 H1 g1 r1 n1 q1=>?_
 obtain⟨F2,g2,s2,r2⟩:=cQ.fz g1 r1 n1
 refine k2 (b:=n) (R.gr g2) _ _ q1 fun vs ws F3 H3 g3 r3 q3=>?_
 exact k (v::vs) (w.fz::ws) F3 H3 (g2.tr g3) (.cons (r2.gr g3) r3) q3
theorem rC{r:R2}{g:W->W->(W->Prop)->Prop}(vo:∀n,Ey X ⟨al,n⟩ r g)(ha:CV X al c1 a fa)(hb:CV X al c2 b fb){e:Expr}(hp:∀ta tb,PE X a ta->PE X b tb->PE X e (CL r ta tb)):CV X al (c1+c2) e (Cq g fa fb):=by
 obtain⟨ta,p1,k1⟩:=ha
 obtain⟨tb,p2,k2⟩:=hb
 refine⟨_,hp ta tb p1 p2,fun{n _ _ _ _ _ _} R Qd Q q k=>?_⟩
 refine k1 (b:=n+c2) (R.pay (by omega)) _ _ q fun v w F1 H1 g1 r1 n1 q1=>?_
 refine k2 (b:=n) (R.gr g1) _ _ q1 fun v2 w2 F2 H2 g2 r2 n2 q2=>?_
 exact vo n Qd Q g2.sub g2.reel (r1.gr g2) r2 q2 fun v3 w3 F3 H3 g3 r3 n3 q3=>k v3 w3 F3 H3 ((g1.tr g2).tr g3) r3 ((n3.back g2).back g1) q3
theorem zE{op:LS}{r:R2}{g:W->W->(W->Prop)->Prop}(ho:E3 X (IP op) r)(vo:∀n,Ey X ⟨al,n⟩ r g)(ha:CV X al c1 a fa)(hb:CV X al c2 b fb):CV X al (c1+c2) (.BinOp a op b pos) (Cq g fa fb) :=
 rC vo ha hb fun _ _ p1 p2=>wl ho p1 p2
theorem xu(ha:CV X al c1 a fa)(hb:CV X al c2 b fb):CV X al (c1+c2) (.BinOp a .Add b pos) (Cq (D8 fun i j=>.int (i+j)) fa fb):=zE rh (fun _=>dt fun _ _ _ _=>.int _) ha hb
theorem AZ(ha:CV X al c1 a fa)(hb:CV X al c2 b fb)(hs:ka b:=by exact fun _ _=>rfl):CV X al (c1+c2) (.Subscript a b pos) (Cq D6 fa fb):=rC (fun _=>uM) ha hb fun _ _ p1 p2=>wq rm p1 p2 hs
theorem xr{r:R2}{g:W->W->(W->Prop)->Prop}(ho:E3 X (IF op) r)(vo:∀n,Ey X ⟨al,n⟩ r g)(hm:IQ op b=false)(ha:CV X al c1 a fa)(hb:CV X al c2 b fb):CB X al (c1+c2) (.Compare a [op] [b] pos) (mL (Cq g fa fb)):=by
 obtain⟨ta,p1,k1⟩:=ha
 obtain⟨tb,p2,k2⟩:=hb
 refine⟨_,nB ho p1 p2 hm,fun{n _ _ _ _ _ _} R Qd Q q k=>?_⟩
 refine k1 (b:=n+c2) (R.pay (by omega)) _ _ q fun v w F1 H1 g1 r1 n1 q1=>?_
 refine k2 (b:=n) (R.gr g1) _ _ q1 fun v2 w2 F2 H2 g2 r2 n2 q2=>?_
 refine vo n _ _ g2.sub g2.reel (r1.gr g2) r2 q2 fun v3 w3 F3 H3 g3 r3 n3 ⟨kb,ew,q3⟩=>?_
 subst ew
 exact⟨kb,eV r3,k kb F3 H3 ((g1.tr g2).tr g3) q3⟩
theorem uo(ha:CB X al c a f):Fw X al c (.BoolOp .And [a] pos) f:=by
 obtain⟨t,p,k⟩:=ha
 exact⟨t,ny p,k⟩
theorem Fw.cb(h:Fw X al c e f):CB X al c e f:=by
 obtain⟨t,p,k⟩:=h
 exact⟨t,p.pt,k⟩
theorem xt{rest:List Expr}(ha:CB X al c1 a f)(hb:Fw X al c2 (.BoolOp .And (b::rest) pos) g):Fw X al (c1+c2) (.BoolOp .And (a::b::rest) pos) (xL f g):=by
 obtain⟨t,p,k⟩:=ha
 obtain⟨t2,p2,k2⟩:=hb
 refine⟨_,qZ p p2,fun{n _ _ _ _ _ _} R Qd Q q h=>k (b:=n+c2) (R.pay (by omega)) _ _ q fun c F1 H1 g1 q1=>?_⟩
 cases c with
 | true=>exact k2 (b:=n) (R.gr g1) _ _ q1 fun c F2 H2 g2 q2=>h c F2 H2 (g1.tr g2) q2
 | false=>exact h false F1 H1 (g1.pay (by omega)) q1
theorem qI{g:List W->(W->Prop)->Prop}(vc:∀n,fx X ⟨al,n⟩ r g)(ha:Ft X al c es fs){e:Expr}(hp:∀ta,PA X es ta->PE X e (CO r ta)):CV X al c e (dJ g fs):=by
 obtain⟨ta,p1,k1⟩:=ha
 refine⟨_,hp ta p1,fun{n _ _ _ _ _ _} R Qd Q q k=>k1 R _ _ q fun vs ws F1 H1 g1 r1 q1=>?_⟩
 exact vc n Qd Q g1.sub g1.reel r1 q1 fun v w F2 H2 g2 r2 n2 q2=>k v w F2 H2 (g1.tr g2) r2 (n2.back g1) q2
theorem qM{T:String}{g:List W->(W->Prop)->Prop}(hc:dD X (.type T) r)(vc:∀n,fx X ⟨al,n⟩ r g)(hm:X.mg x=none)(hv:II x=some (.type T))(ha:Ft X al c (e::es) fs)(hg:Gl X x:=by rfl)(hn:x ≠ "__name__" := by decide)(hdb:(x==("__debug__" : Str))=false:=by decide)
 (he:FU (e::es) X.env=(false,eval e X.env)::FU es X.env:=by rfl)(hpl:(Hs pos (FU es X.env)).any (·.1)=false:=by rfl):CV X al c (.Call (.Name x p) (e::es) [] pos) (dJ g fs) :=
 qI vc ha fun _ p1=>jd hc hg hm hv p1 hn hdb he hpl
theorem ur(hm:X.mg "tuple" = none)(ha:Ft X al c [a] fs)(hg:Gl X "tuple" := by rfl)(he:FU [a] X.env=(false,eval a X.env)::FU [] X.env:=by rfl)(hpl:(Hs pos (FU [] X.env)).any (·.1)=false:=by rfl) :
 CV X al c (.Call (.Name "tuple" p) [a] [] pos) (dJ ox fs):=qM eK (fun _=>qQ) hm (by rfl) ha hg (by decide) (by decide) he hpl
theorem xo:Fv X al 0 [] rZ:=Eg fun _=>bT
theorem e8(h:CS X al c st t):Fv X al c [st] t:=by
 obtain⟨T,p,k⟩:=h
 exact⟨T,jJ p,k⟩
theorem bu(h:CS X al c1 st t)(h2:Fv X al c2 rest u):Fv X al (c1+c2) (st::rest) (ye t u):=by
 obtain⟨T,p,k⟩:=h
 obtain⟨T2,p2,k2⟩:=h2
 refine⟨_,d7 p p2,fun{n _ _ _ _ _ _} R Dv D ok q=>k (b:=n+c2) (R.pay (by omega)) {Dv with nx:=u Dv} {D with nx:=T2 D} ?_ q⟩
 have o2:=ok.pay (b:=n+c2) (by omega)
 exact⟨fun F H σ ρ s' R' q'=>k2 (b:=n) R' Dv D (ok.on s') q',o2.rt,o2.bk,o2.ct⟩
theorem xn(h:CV X al c e fa):CS X al c (.Return (some e) pos) (yf fa):=by
 obtain⟨t,p,k⟩:=h
 exact⟨_,nD p,fun R Dv D ok q=>k R _ _ q fun v w F1 H1 g1 r1 n1 q1=>ok.rt v w F1 H1 (R.g.tr g1) r1 (n1.back R.g) q1⟩
theorem zD{A B:List Stmt}(hc:CB X al c1 ec f)(ha:Fv X al c2 A t)(hb:Fv X al c3 B u):CS X al (c1+(c2+c3)) (.If ec A B pos) (xK f t u):=by
 obtain⟨t0,p0,k0⟩:=hc
 obtain⟨t1,p1,k1⟩:=ha
 obtain⟨t2,p2,k2⟩:=hb
 refine⟨_,vZ p0 p1 p2,fun{n _ _ _ _ _ _} R Dv D ok q=>k0 (b:=n+(c2+c3)) (R.pay (by omega)) _ _ q fun k F1 H1 g1 q1=>?_⟩
 cases k with
 | true=>exact k1 (b:=n) ((R.gr g1).pay (by omega)) Dv D (ok.on g1.fs) q1
 | false=>exact k2 (b:=n) ((R.gr g1).pay (by omega)) Dv D (ok.on g1.fs) q1
theorem VR.setC{K:W.Frag}{n':Nat}(r:VR K ⟨al,n⟩ F₀ H₀ F H σ ρ){H1 F1:Hp}(g:Grow ⟨al,n'⟩ F H F1 H1)(hn:n'<=n){w:W}(rw':cQ K ⟨al,n'⟩ F1 H1 v w)(hw:dq H v w)(hp:∀xs,w ≠ .pk xs)(i:Nat):VR K ⟨al,n'⟩ F₀ H₀ F1 H1 (σ.set i (some v)) (ρ.set i (some w)) :=
 (r.pay hn).set g rw' hw hp i
theorem ge(i:Nat)(hN:X.N.Nodup)(he:CV X al c e fa)(hi:X.N[i]?=some x:=by rfl)(hx:Loc X.env.scope x:=by first|exact Ix rfl|exact HN rfl)
 (hs:HS e (some (.Name x pos')) pos.line X.env=pure false:=by rfl)(hf:X.fn x=true\/X.env.scope.names.lookup x=some .local:=by first|exact .inl rfl|exact .inr rfl) :
 CS X al c (.Assign [.Name x pos'] e pos) (lB i fa):=by
 obtain⟨t,p,k⟩:=he
 refine⟨_,fN hN hi hx p hs hf,fun R Dv D ok q=>k R _ _ q fun v w F1 H1 g1 r1 n1 ⟨d,ed,q1⟩=>?_⟩
 obtain⟨F2,g2,s2,r2⟩:=cQ.fz g1 r1 n1
 rw[ed]at r2
 exact ok.nx _ _ _ _ g2.fs (R.setC g2 (by omega) r2 trivial (fun xs z=>by cases z) i) q1
end
theorem iV{i c:Nat}(h:i<n):(n-i)*c=(n-(i+1))*c+c:=by
 have:n-i=(n-(i+1))+1:=by omega
 rw[this,Nat.succ_mul]
def u9(n:Nat)(fl:List Nat)(fi:En->(List FH->Prop)->Prop)(g:EE)(t:EB):EB:=fun D ρ=>fi ρ fun xs=>xs.length<=n/\ce fl g t xs D (fo fl ρ)
section
variable{X:Cx}{al:Option Addr}{c c1 c2 c3:Nat}{st:Stmt}{rest body:List Stmt}{t u:EB}{a b e ec:Expr}{es:List Expr}{fa fb:TV}{fs:EA}{f:TB}{pos p:Pos}
theorem oN(n:Nat)(fl:List Nat){g:EE}(hp:LU (Gn X.prog X.w) X.A X.env X.xe)(hc:X.calm=true)(hi:CI X al c1 tg iter fi)(hg:∀m,E1 X ⟨al,m⟩ tg g)(hb:Fv X al c2 body t)
 (hs:∀x,Gj iter X.env x=pure x:=by intro _;rfl):CS X al (c1+n*c2) (.For tg iter body [] pos) (u9 n fl fi g t):=by
 obtain⟨wi,p0,k0⟩:=hi
 obtain⟨T,p2,k2⟩:=hb
 have p1:PG X tg (fun v σ H Q=>∃m,Gc (hg m) v σ H Q):=fun pins s σ H v u Q I rv ⟨m,z⟩=>(FK (hg m)).1 pins s σ H v u Q I rv z
 refine⟨_,rb hp hc p0 p1 p2 hs,fun{b F₀ H₀ F H σ ρ} R Dv D ok q=>k0 (b:=b+n*c2) (R.pay (by omega)) _ _ q fun J xs F1 H1 g1 vi ⟨hn,q1⟩=>?_⟩
 refine⟨fun i m σ H=>m=xs.length-i/\i<=xs.length/\∃F ρ,bC F1 F/\VR X.K ⟨al,b+(n-i)*c2⟩ F₀ H₀ F H σ ρ/\ce fl g t (xs.drop i) Dv ρ,⟨xs.length,by simp,Gw _,F1,fo fl ρ,.refl _,(R.gr g1).le (eQ fl ρ),by simpa using q1⟩,?_⟩
 rintro i m σ H ⟨rfl,hi,F2,ρ2,s2,R2,j2⟩
 have sH:bC F1 H:=s2.trans R2.sub
 by_cases hlt:i<xs.length
 · have ei:xs[i]?=some xs[i]:=by simp[hlt]
   rw[GV hlt]at j2
   have el:=iV (n:=n) (i:=i) (c:=c2) (by omega)
   refine .inr ⟨(vi 0).go i H _ ei sH,fun σ' H'=>∃F ρ,bC F1 F/\VR X.K ⟨al,b+(n-(i+1))*c2⟩ F₀ H₀ F H' σ' ρ/\ce fl g t (xs.drop (i+1)) Dv ρ,fun σ' H' z=>⟨xs.length-(i+1),by omega,rfl,hlt,z⟩,fun v H' y=>?_⟩
   obtain⟨Fy,gy,rv⟩:=(vi 0).yld i H v H' _ F2 ei s2 R2.sub R2.reel y
   refine⟨_,(FK (hg (b+(n-i)*c2))).2 (R2.gr gy) v _ _ _ rv j2 fun F3 H3 σ3 ρ3 s3 n3 R3 q3=>?_⟩
   have s13:bC F1 F3:=s2.trans (gy.fs.trans s3.fs)
   have o2:=ok.pay (b:=b+(n-(i+1))*c2) (by omega)
   exact k2 (b:=b+(n-(i+1))*c2) (R3.pay (by omega)) {Dv with nx:=fun ρ'=>ce fl g t (xs.drop (i+1)) Dv (fo fl ρ'),ct:=fun ρ'=>ce fl g t (xs.drop (i+1)) Dv (fo fl ρ'),bk:=fun ρ'=>Dv.nx (fo fl ρ')} _
    ⟨fun F4 H4 σ4 ρ4 s4 R4 q4=>⟨F4,fo fl ρ4,s13.trans s4,R4.le (eQ fl ρ4),q4⟩,o2.rt,fun F4 H4 σ4 ρ4 s4 R4 q4=>o2.nx _ _ _ _ (g1.fs.trans (s13.trans s4)) (R4.le (eQ fl ρ4)) q4,fun F4 H4 σ4 ρ4 s4 R4 q4=>⟨F4,fo fl ρ4,s13.trans s4,R4.le (eQ fl ρ4),q4⟩⟩ q3
 · have e:i=xs.length:=by omega
   subst e
   rw[HW]at j2
   exact .inl ⟨(vi 0).stop _ H (FQ _) sH,ok.nx _ _ _ _ (g1.fs.trans s2) (R2.pay (by omega)) j2⟩
theorem uu{ps:List Str}{k:Nat}{Pd:List W->(FH->Prop)->Prop}(D:∀n,Dfn X.prog X.w X.K X.mg X.base ⟨al,n⟩ x ps k Pd)(hr:Room k X.A)(ha:Ft X al c (e::es) fs)(hg:Gl X x:=by rfl)
 (hdb:(x==("__debug__" : Str))=false:=by decide)(he:FU (e::es) X.env=(false,eval e X.env)::FU es X.env:=by rfl)(hpl:(Hs pos (FU es X.env)).any (·.1)=false:=by rfl) :
 CV X al c (.Call (.Name x p) (e::es) [] pos) (xI Pd fs):=by
 obtain⟨t,p1,kk⟩:=ha
 have P:∀n,∃tn:TE,PE X (.Call (.Name x p) (e::es) [] pos) tn/\∀σ H Q,(t σ H fun vs H1=>Ci X.K ⟨al,n⟩ Pd vs H1 Q fun _ _ _=>False)->tn σ H Q:=fun n=>by
  obtain⟨f,fd,hm,hk,hb,F⟩:=(D n).ex
  exact⟨_,im F hr hg hm hk hb .nil pV p1 hdb he hpl,fun σ H Q z=>by simpa[vA,Ht]using z⟩
 refine⟨fun σ H Q=>∃n,Gc (P n) σ H Q,fun pins s σ H Q I ⟨n,z⟩=>(FK (P n)).1 pins s σ H Q I z,fun{n _ _ _ _ _ _} R Qd Q q h=>⟨n,(FK (P n)).2 _ _ _ (kk (b:=n) R _ _ q fun vs ws F1 H1 g1 r1 ⟨ok,q1⟩=>?_)⟩⟩
 refine⟨F1,ws,g1.sub,g1.reel,r1,ok,?_⟩
 exact(D n).mono ws _ _ (fun d qd v F2 H2 g2 r2=>h v (.d d) F2 H2 (g1.tr g2) r2 trivial qd) q1
def BO(K:W.Frag)(al:Option Addr)(c:Nat)(P:List W->(FH->Prop)->Prop):Sp:=fun vs H Q _=>∃b F ws,bC F H/\EM ⟨al,b+c⟩ F H/\dU K ⟨al,b+c⟩ F H vs ws/\ws.all eM=true/\P ws fun d=>∀v F' H',Grow ⟨al,b⟩ F H F' H'->Rep K F' v d->Q v H'
structure DfnC (P:Gi) (w:G5) (K:W.Frag) (mg:Str->Option Value) (base:Heap) (al:Option Addr) (c:Nat) (x:Str) (ps:List Str) (k:Nat) (Pd:List W->(FH->Prop)->Prop):Prop where
 mono:∀ws Q Q',(∀d,Q d->Q' d)->Pd ws Q->Pd ws Q'
 ex:∃f fd,mg x=some (.ref f)/\W.keepIn K (.ref f)=true/\Binds K fd ps []/\FnOk P w K mg base Fq k f fd ps (BO K al c Pd)
theorem eL{ps:List Str}{k:Nat}{Pd:List W->(FH->Prop)->Prop}(D:DfnC X.prog X.w X.K X.mg X.base al c2 x ps k Pd)(hr:Room k X.A)(ha:Ft X al c1 (e::es) fs)(hg:Gl X x:=by rfl)
 (hdb:(x==("__debug__" : Str))=false:=by decide)(he:FU (e::es) X.env=(false,eval e X.env)::FU es X.env:=by rfl)(hpl:(Hs pos (FU es X.env)).any (·.1)=false:=by rfl) :
 CV X al (c1+c2) (.Call (.Name x p) (e::es) [] pos) (xI Pd fs):=by
 obtain⟨f,fd,hm,hk,hb,F⟩:=D.ex
 obtain⟨t,p1,kk⟩:=ha
 refine⟨_,im F hr hg hm hk hb .nil pV p1 hdb he hpl,fun{n _ _ _ _ _ _} R Qd Q q h=>kk (b:=n+c2) (R.pay (by omega)) _ _ q fun vs ws F1 H1 g1 r1 ⟨ok,q1⟩=>?_⟩
 refine⟨n,F1,ws,g1.sub,g1.reel,by rw[Ht];exact r1,ok,?_⟩
 exact D.mono ws _ _ (fun d qd v F2 H2 g2 r2=>h v (.d d) F2 H2 (g1.tr g2) r2 trivial qd) q1
end
section
variable{P:Gi}{w:G5}{K:W.Frag}{mg:Str->Option Value}{base:Heap}{al:Option Addr}{c c0:Nat}{x:Str}{st:Stmt}{N ps:List Str}{k:Nat}{Pd:List W->(FH->Prop)->Prop}{t:EB}
theorem DfnC.of(Fn:FnIn K mg x st ps)(S:FnScope N ps (defScope st))(mono:∀ws Q Q',(∀d,Q d->Q' d)->Pd ws Q->Pd ws Q')(len:∀ws Q,Pd ws Q->ws.length=ps.length)
 (hbody:∀{f:Addr}(cdv:Value)(A:Hf)(outer:List Env)(s:FO)(H:Hp)(E:XK),Room k (A.deeper (J_ x (defScope st) s.heap.objs.size f cdv)) ->
  Fv (lS Fq P w K mg base N x (defScope st) f cdv A outer s H E).nox al c0 (defBody st) t)
 (hle:c0<=c)(hread:∀ws Q,Pd ws Q->t (lC Q) (cF N ws)):DfnC P w K mg base al c x ps (k+1) Pd:=by
 obtain⟨f,fd,hm,F,hb⟩:=Fn.ex
 refine⟨mono,f,fd,hm,F.kp,hb,?_⟩
 refine F.ok S (fun vs H Q E ⟨n,F,ws,_,_,r,_,q⟩=>(HC r).trans (len ws _ q)) fun cdv A outer s H vs Q E hr h=>?_
 obtain⟨n,F1,ws,sm,ra,r,ok,q⟩:=h
 obtain⟨T,p,kk⟩:=hbody cdv A outer s H E hr
 refine⟨T,p,kk (b:=n) ((dr sm ra r ok).pay (by omega)) (lC _) _ ⟨?_,?_,fun _ _ _ _ _ _ z=>GZ z,fun _ _ _ _ _ _ z=>GZ z⟩ (hread ws _ q)⟩
 · intro F2 H2 σ1 ρ1 _ R1 q1
   exact q1 .non F2 H2 R1.g .non
 · rintro v w1 F2 H2 g1 r1 n1 ⟨d,ed,q1⟩
   obtain⟨F3,g2,s2,r2⟩:=cQ.fz g1 r1 n1
   rw[ed]at r2
   exact q1 v F3 H2 g2 r2
end
def mO(n:Nat)(fi:En->(List FH->Prop)->Prop)(fr:List (Option Nat))(g:EE)(ft:TB)(fe:TV):TV:=fun ρ Q=>fi ρ fun xs=>xs.length<=n/\kH (dR fr ρ) g ft fe xs [] fun ds=>Q (.ml ds)
def Fu(X:Cx)(al:Option Addr)(c:Nat)(ifs:List Expr)(f:TB):Prop:=∃t,ER X ifs t/\∀{b:Nat}{F₀ H₀ F H:Hp}{σ:St}{ρ:En},VR X.K ⟨al,b+c⟩ F₀ H₀ F H σ ρ->∀(Qd:Bool->Prop)(Q:Bool->Hp->Prop),f ρ Qd ->
 (∀k F' H',Grow ⟨al,b⟩ F H F' H'->Qd k->Q k H')->t σ H Q
theorem xm{al:Option Addr}:Fu X al 0 [] (fun _ Q=>Q true):=⟨_,nA,fun R Qd Q q k=>k true _ _ (Grow.refl R.sub R.reel) q⟩
section
variable{X:Cx}{al:Option Addr}{c1 c2 c3:Nat}{elt tg iter:Expr}{ifs:List Expr}{scope:Scope}{pos:Pos}{fi:En->(List FH->Prop)->Prop}{g:EE}{ft:TB}{fe:TV}
abbrev CG{Y:Cx}(hg:∀m,E1 Y ⟨al,m⟩ tg g):TG:=fun v σ H Q=>∃m,Gc (hg m) v σ H Q
theorem yu{Y:Cx}(hg:∀m,E1 Y ⟨al,m⟩ tg g):PG Y tg (CG hg):=fun pins s σ H v u Q I rv ⟨m,z⟩=>(FK (hg m)).1 pins s σ H v u Q I rv z
theorem qe{wi:TI}(n:Nat)(fr:List (Option Nat))(k0:∀{b:Nat}{F₀ H₀ F H:Hp}{σ:St}{ρ:En},VR X.K ⟨al,b+c1⟩ F₀ H₀ F H σ ρ->∀(Qd:List FH->Prop)(R:It->Hp->Prop),fi ρ Qd ->
 (∀J xs F' H',Grow ⟨al,b⟩ F H F' H'->(∀b',VIt X.K ⟨al,b'⟩ F' J xs)->Qd xs->R J H')->wi σ H R)
 (hg:∀y m,E1 (blk X N' scope y) ⟨al,m⟩ tg g)(ht:∀y,Fu (blk X N' scope y) al c2 ifs ft)(he:∀y,CV (blk X N' scope y) al c3 elt fe)
 {b:Nat}(R:VR X.K ⟨al,b+(c1+n*(c2+c3))⟩ F₀ H₀ F H σ ρ)(Qd:W->Prop)(Q:VK)(q:mO n fi fr g ft fe ρ Qd)
 (k:∀v w F' H',Grow ⟨al,b⟩ F H F' H'->cQ X.K ⟨al,b⟩ F' H' v w->dq H v w->Qd w->Q v H'):pC wi fr (fun y=>CG (hg y)) (fun y=>Gc (ht y)) (fun y=>Gc (he y)) σ H Q:=by
 refine k0 (b:=b+n*(c2+c3)) (R.pay (by omega)) _ _ q fun J xs F1 H1 g1 vi ⟨hn,q1⟩=>?_
 intro D hD
 have rD:al≠some D:=fun e=>by obtain⟨o,z⟩:=g1.reel.live e;rw[hD]at z;cases z
 have FD:F1 D=none:=g1.sub.free hD
 have gD:Grow ⟨al,b+n*(c2+c3)⟩ F1 H1 F1 (Cs H1 D (.lst [])):=Grow.laid g1.sub g1.reel hD
 have R1:=R.gr g1
 have n0:lX (dR fr ρ):=dA
 refine⟨fun i m acc σc Hc=>m=xs.length-i/\i<=xs.length/\∃Fc ds,VR X.K ⟨al,b+(n-i)*(c2+c3)⟩ F1 H1 Fc Hc σc (dR fr ρ)/\Hc D=some (.lst acc)/\Fc D=none/\Reps X.K Fc acc ds/\kH (dR fr ρ) g ft fe (xs.drop i) ds (fun ds=>Qd (.ml ds)),
  ⟨xs.length,by simp,Gw _,F1,[],fy R1 gD,av,FD,.nil,by simpa using q1⟩,?_⟩
 rintro z i m acc σc Hc ⟨rfl,hi,Fc,ds,Rc,hDc,fDc,rs,q2⟩
 have sH:bC F1 Hc:=Rc.g.fs.trans Rc.sub
 by_cases hlt:i<xs.length
 · have ei:xs[i]?=some xs[i]:=by simp[hlt]
   have ed:xs.drop i=xs[i]::xs.drop (i+1):=GV hlt
   rw[ed]at q2
   have el:=iV (n:=n) (i:=i) (c:=c2+c3) (by omega)
   refine .inr ⟨(vi 0).go i Hc _ ei sH,fun v H' y=>?_⟩
   obtain⟨Fy,gy,rv⟩:=(vi 0).yld i Hc v H' _ Fc ei Rc.g.fs Rc.sub Rc.reel y
   refine⟨_,(FK (hg z _)).2 (Rc.gr gy) v _ _ _ rv q2 fun F3 H3 σ3 ρ3 g3 n3 R3 ⟨le3,q3⟩=>?_⟩
   obtain⟨_,kt⟩:=FK (ht z)
   refine kt (b:=b+(n-(i+1))*(c2+c3)+c3) (R3.pay (by omega)) _ _ q3 fun k4 F4 H4 g4 q4=>?_
   have R4:=R3.gr g4
   have g34:=(gy.tr g3).tr g4
   have keepD:∀{m:Nat}{Fx Hx:Hp},Grow ⟨al,m⟩ Fc Hc Fx Hx->Hx D=some (.lst acc)/\Fx D=none:=fun gx=>⟨gx.same D _ hDc rD,by rw[gx.old D _ hDc];exact fDc⟩
   cases k4 with
   | false=>exact⟨xs.length-(i+1),by omega,rfl,hlt,F4,ds,(R4.pay (by omega)).le le3,(keepD g34).1,(keepD g34).2,rs.mono g34.fs,q4⟩
   | true =>
     obtain⟨_,kv⟩:=FK (he z)
     refine kv (b:=b+(n-(i+1))*(c2+c3)) R4 _ _ q4 fun v5 w5 F5 H5 g5 r5 n5 ⟨d,ed5,hl,q5⟩=>?_
     obtain⟨F6,g6,s6,r6⟩:=cQ.fz g5 r5 n5
     rw[ed5]at r6
     have g36:=g34.tr g6
     refine⟨(keepD g36).1,by rw[rs.length];exact hl,xs.length-(i+1),by omega,rfl,hlt,F6,ds++[d],((R4.gr g6).le le3).other n0 hD (keepD g36).2 rD,av,(keepD g36).2,(rs.mono g36.fs).snoc r6,q5⟩
 · have e:i=xs.length:=by omega
   subst e
   rw[HW]at q2
   refine .inl ⟨(vi 0).stop _ Hc (FQ _) sH,k _ (.ml ds) Fc Hc (g1.tr (Rc.g.pay (by omega))) ⟨D,acc,rfl,fDc,rD,hDc,rs⟩ (fun a ea=>by cases ea;exact g1.freeB hD) q2⟩
theorem ut(n:Nat)(N':List Str)(fr:List (Option Nat))(hc:X.calm=true)(hi:CI X al c1 tg iter fi)
 (hg:∀y m,E1 (blk X N' scope y) ⟨al,m⟩ tg g)(ht:∀y,Fu (blk X N' scope y) al c2 ifs ft)(he:∀y,CV (blk X N' scope y) al c3 elt fe)
 (hfr:lm fr N' X.N scope X.env.scope=true:=by rfl)(hsc:lI scope X.env.scope=true:=by rfl)
 (hs:∀x,Gj iter X.env x=pure x:=by intro _;rfl):CV X al (c1+n*(c2+c3)) (.ListComp elt [⟨tg,iter,ifs,0⟩] scope pos) (mO n fi fr g ft fe):=by
 obtain⟨wi,p0,k0⟩:=hi
 exact⟨_,ik N' fr hc p0 hfr hsc (fun y=>yu (hg y)) (fun y=>(FK (ht y)).1) (fun y=>(FK (he y)).1) hs,fun R Qd Q q k=>qe n fr k0 hg ht he R Qd Q q k⟩
end
def kC:E7:=Ju "cells"
def kA:E7:=Ju "at"
def kL:E7:=Ju "left"
theorem zb:¬kC=kA:=by decide +kernel
theorem za:¬kC=kL:=by decide +kernel
theorem xQ:¬kA=kL:=by decide +kernel
def jx(c:Addr)(a l:Int):List (E7×V):=[(kC,.ref c),(kA,.int a),(kL,.int l)]
theorem jA{p:E7×V}{r:List (E7×V)}{k:E7}(e:¬p.1=k):fA (p::r) k=fA r k:=by
 unfold fA
 rw[Hb]
 simp[e]
theorem Bs(c:Addr)(a l:Int):fA (jx c a l) kC=some (.ref c):=du rfl
theorem Bt(c:Addr)(a l:Int):fA (jx c a l) kA=some (.int a):=by unfold jx;rw[jA zb];exact du rfl
theorem Br(c:Addr)(a l:Int):fA (jx c a l) kL=some (.int l):=by unfold jx;rw[jA za,jA xQ];exact du rfl
theorem Dw{a b:E7}(h:¬a=b):¬b=a:=fun e=>h e.symm
theorem yO(c:Addr)(a l n:Int):dN (jx c a l) kL (.int n)=jx c a n:=by
 unfold dN jx
 rw[if_pos (by simp)]
 simp[za,xQ]
theorem yP(c:Addr)(a l n:Int):dN (jx c a l) kA (.int n)=jx c n l:=by
 unfold dN jx
 rw[if_pos (by simp)]
 simp[zb,Dw xQ]
theorem zG:(0:Int)+BM<2^59990:=by
 have h:BM<2^59990:=IU (by decide) (by decide)
 rw[Lc]
 exact_mod_cast h
theorem ReelOk.kv{r:Addr}(h:ReelOk n F H r):∃(c:Addr)(ns:List Int)(a l:Int),H r=some (.dK (jx c a l))/\F c=some (.lst (ns.map V.int))/\ns.length<=63/\0<=a/\0<=l/\a+n<2^59990:=by
 obtain⟨o,e,c,ns,a,l,rfl,q⟩:=h.ex
 exact⟨c,ns,a,l,e,q⟩
theorem EM.put{al:Option Addr}{n':Nat}{K:W.Frag}{r c:Addr}{a l:Int}(R:VR K ⟨al,n⟩ F₀ H₀ F H σ ρ)(e:al=some r)(h:F c=some (.lst (ns.map V.int))/\ns.length<=63/\0<=a/\0<=l/\a+n'<2^59990):VR K ⟨al,n'⟩ F₀ H₀ F (Cs H r (.dK (jx c a l))) σ ρ:=by
 have fr:F r=none:=(R.reel r e).1
 have neF:∀b u,F b=some u->b≠r:=fun b u q z=>by subst z;rw[fr]at q;cases q
 have g:Grow ⟨al,n'⟩ F H F (Cs H r (.dK (jx c a l))):=by
  refine⟨fun b o q n=>by rw[ar (fun z=>n (by rw[z];exact e))];exact q,.refl F,fun b o q=>by rw[ar (neF b o q)];exact R.sub b o q,fun _ _ _=>rfl,fun y z=>?_⟩
  have:y=r:=GS (z.symm.trans e)
  subst this
  exact⟨fr,⟨_,av,c,ns,a,l,rfl,h⟩⟩
 exact R.gr g
theorem i7{K:W.Frag}{F:Hp}:∀ns:List Int,Reps K F (ns.map V.int) (ns.map GA)
 | []=>.nil
 | n::ns=>.cons (.int n) (i7 ns)
section
variable{X:Cx}{rl:RlT}{e:Expr}{fa:TV}{pos p p1 p2:Pos}{ρ:En}
def Cn(i:Nat):TV:=fun ρ Q=>ρ[i]?=some (some .reel)/\∀n:Int,0<=n->Q (.d (.int n))
def Co(i:Nat):TV:=fun ρ Q=>ρ[i]?=some (some .reel)/\∀ns:List Int,ns.length<=63->Q (.d (.list (ns.map .int)))
theorem mH{i:Nat}{j}(hr:Room 0 X.A)(hN:X.N[i]?=some x:=by rfl)(hv:Ex X.env.scope x:=by first|exact Ix rfl|exact HN (Ix rfl)|exact HN (HN rfl))
 (hd:(x==("__debug__" : Str))=false:=by decide)(hcd:(x==("__classdict__" : Str))=false:=by decide)(hs:uC (.Constant (.str "left") j p2):=by exact fun _ _=>rfl):PV X rl (.Subscript (.Name x p1) (.Constant (.str "left") j p2) pos) (Cn i):=by
 refine⟨_,il (oj hr) (fO hN hv hd hcd) d8 hs,fun{F₀ H₀ F H σ ρ} R Qd Q ⟨e1,q⟩ h=>?_⟩
 obtain⟨v,s1,⟨r,er,ev⟩,_⟩:=R.sl i _ e1
 subst ev
 obtain⟨_,ok⟩:=R.reel r er
 obtain⟨c,ns,a,l,hH,_,_,b1,b2,b3⟩:=ok.kv
 refine⟨.ref r,s1,r,.int l,rfl,?_,h _ (.d _) F H (Grow.refl R.sub R.reel) (.int l) trivial (q l b2)⟩
 have g:=xF.k (k:=kL) hH
 rw[Br]at g
 exact g
theorem pj{i:Nat}{j}(hr:Room 0 X.A)(hN:X.N[i]?=some x:=by rfl)(hv:Ex X.env.scope x:=by first|exact Ix rfl|exact HN (Ix rfl)|exact HN (HN rfl))
 (hd:(x==("__debug__" : Str))=false:=by decide)(hcd:(x==("__classdict__" : Str))=false:=by decide)(hs:uC (.Constant (.str "cells") j p2):=by exact fun _ _=>rfl):PV X rl (.Subscript (.Name x p1) (.Constant (.str "cells") j p2) pos) (Co i):=by
 refine⟨_,il (oj hr) (fO hN hv hd hcd) d8 hs,fun{F₀ H₀ F H σ ρ} R Qd Q ⟨e1,q⟩ h=>?_⟩
 obtain⟨v,s1,⟨r,er,ev⟩,_⟩:=R.sl i _ e1
 subst ev
 obtain⟨_,ok⟩:=R.reel r er
 obtain⟨c,ns,a,l,hH,hc,hl,_⟩:=ok.kv
 refine⟨.ref r,s1,r,.ref c,rfl,?_,h _ (.d _) F H (Grow.refl R.sub R.reel) (Rep.lst hc (i7 ns)) trivial (q ns hl)⟩
 have g:=xF.k (k:=kC) hH
 rw[Bs]at g
 exact g
def u6(i:Nat)(fa:TV):EB:=fun D ρ=>fa ρ fun w=>∃n,w = .d (.int n)/\0<=n/\ρ[i]?=some (some .reel)/\D.nx ρ
theorem mj{i:Nat}{j}(hr:Room 0 X.A)(ha:PV X rl e fa)(hN:X.N[i]?=some x:=by rfl)(hv:Ex X.env.scope x:=by first|exact Ix rfl|exact HN (Ix rfl)|exact HN (HN rfl))
 (hd:(x==("__debug__" : Str))=false:=by decide)(hcd:(x==("__classdict__" : Str))=false:=by decide)(hsw:HS e (some (.Subscript (.Name x p1) (.Constant (.str "left") j p2) pos')) pos.line X.env=pure false:=by rfl) :
 EU X rl (.Assign [.Subscript (.Name x p1) (.Constant (.str "left") j p2) pos'] e pos) (u6 i fa):=by
 obtain⟨t,p3,kk⟩:=ha
 refine⟨_,nE (oj hr) (fO hN hv hd hcd) d8 p3 hsw,fun{F₀ H₀ F H σ ρ} R Dv D ok q=>kk R _ _ q fun v w F1 H1 g1 r1 n1 ⟨n,ew,hn,e1,q1⟩=>?_⟩
 subst ew
 have ev:=aP r1
 subst ev
 have R1:=R.grow g1
 obtain⟨v,s1,⟨r,er,ev⟩,_⟩:=R1.sl i _ e1
 subst ev
 obtain⟨_,okr⟩:=R1.reel r er
 obtain⟨c,ns,a,l,hH,hc,hl,b1,b2,b3⟩:=okr.kv
 refine⟨.ref r,s1,r,_,rfl,xY.k (k:=kL) hH (iY (by show 3<=1000;decide)),?_⟩
 rw[yO]
 exact ok.nx _ _ _ _ g1.fs (EM.put (al:=rl.a) (n:=rl.b) (n':=rl.b) R1 er ⟨hc,hl,b1,hn,b3⟩) q1
def Et:W->Option Unit
 | .reel=>some ()
 | _=>none
theorem bN:Et .reel=some ():=rfl
theorem AM{i:Nat}:(((ρ[i]?).join).bind Et=some ())↔ρ[i]?=some (some .reel):=by
 constructor
 · intro h
   cases q:ρ[i]? with
   | none=>rw[q]at h;cases h
   | some o=>rw[q]at h;cases o with
     | none=>cases h
     | some w=>cases w<;>first|rfl|cases h
 · intro h;rw[h];rfl
theorem vH{β:Type}{i:Nat}{k:Unit->Mo β}{Q:β->Prop}:aU (((ρ[i]?).join).bind Et) k Q↔ρ[i]?=some (some .reel)/\k () Q:=by
 rw[ak]
 exact⟨fun⟨u,a,q⟩=>⟨AM.mp a,q⟩,fun⟨a,q⟩=>⟨(),AM.mpr a,q⟩⟩
theorem bL(i:Nat):Cn i ρ=aU (((ρ[i]?).join).bind Et) fun _=>Ek (anyM fun n:Int=>0<=n) fun n=>ret (.d (.int n)):=ag fun Q=>(Iff.intro (fun⟨a,q⟩=>vH.mpr ⟨a,fun n h=>q n h⟩) fun h=>⟨(vH.mp h).1,fun n hn=>(vH.mp h).2 n hn⟩)
theorem bM(i:Nat):Co i ρ=aU (((ρ[i]?).join).bind Et) fun _=>Ek (anyM fun ns:List Int=>ns.length<=63) fun ns=>ret (.d (.list (ns.map .int))):=ag fun Q=>(Iff.intro (fun⟨a,q⟩=>vH.mpr ⟨a,fun n h=>q n h⟩) fun h=>⟨(vH.mp h).1,fun n hn=>(vH.mp h).2 n hn⟩)
theorem aJ(i:Nat):mS (u6 i fa) ρ=Ek (fa ρ) fun w=>aU (asI w) fun n=>D2 (0<=n) (aU (((ρ[i]?).join).bind Et) fun _=>ret (.nx ρ)):=by
 show(Ek (fa ρ) fun w=>fun(Q:Fl->Prop)=>∃n,w = .d (.int n)/\0<=n/\ρ[i]?=some (some .reel)/\Q (.nx ρ))=_
 congr 1;funext w
 refine ag fun Q=>?_
 simp only[ak (o:=asI w),dH,D2,vH,ret]
end
theorem p7(c:Addr):fU [] [(kC,V.ref c),(kA,.int 0),(kL,.int 0)]=jx c 0 0:=by
 unfold fU jx
 simp only[IM,List.foldl_nil]
 have p0:dN ([]:List (E7×V)) kC (V.ref c)=[(kC,V.ref c)]:=rfl
 rw[p0]
 unfold dN
 simp[zb,za,xQ]
section
variable{X:Cx}{e1:Expr}{f1:TV}{pos dpos q1 q2 q3 q4 q5:Pos}{j1 j2 j3 j4 j5:Nat}
theorem oC(h1:PV X RlT.no e1 f1) :
 ∃ T,ET X [.Return (some (.Dict [some (.Constant (.str "cells") j1 q1),some (.Constant (.str "at") j2 q2),some (.Constant (.str "left") j3 q3)] [e1,.Constant (.int 0) j4 q4,.Constant (.int 0) j5 q5] dpos)) pos] T /\
   ∀ {F H:Hp}{σ:St}{ρ:En},VR X.K RlT.no F H F H σ ρ->∀D:Ends,(f1 ρ fun w=>∃ns:List Int,w = .ml (ns.map .int)/\ns.length<=63) ->
     (∀r F' H',H r=none->Grow RlT.no F H F' H'->EM (RlT.at' r BM) F' H'->D.rt (.ref r) H')->T D σ H:=by
 obtain⟨g1,pe1,ke1⟩:=h1
 refine⟨_,jJ (nD (tp (ig d8 pe1 (ig d8 nJ (ig d8 nJ sS))) rfl rfl (by intro z;cases z) (by show 3<=15;decide))),fun{F H σ ρ} R D q fin=>?_⟩
 intro p hp
 have gp:Grow RlT.no F H F (Cs H p (.dK [])):=Grow.laid R.sub R.reel hp
 refine ke1 (R.grow gp) _ _ q fun v1 w1 F3 H3 g3 r1 n1 qc=>?_
 obtain⟨ns,rfl,hl⟩:=qc
 obtain⟨F4,g4,s4,r4⟩:=cQ.fz (w:=.ml (ns.map .int)) g3 r1 n1
 have r4:Rep X.K F4 v1 (.list (ns.map .int)):=r4
 cases r4 with
 | @lst a vs _ hc rs =>
   have ev:=ie rs
   subst ev
   have hp5:H3 p=some (.dK []):=g3.same p _ av (by simp)
   refine⟨hp5,[(kC,.ref a),(kA,.int 0),(kL,.int 0)],rfl,(by show 3<=15;decide),?_⟩
   rw[p7]
   have f5:F4 p=none:=by rw[g4.old p _ av];exact R.sub.free hp
   have g0:Grow RlT.no F H F4 H3:=gp.trans g4
   refine fin p F4 _ hp ⟨fun b o eb _=>by rw[ar (ba eb hp)];exact g0.same b o eb (by simp),g0.fs,fun b o eb=>?_,g0.old,fun _ z=>by cases z⟩ (fun r er=>?_)
   · have:b≠p:=fun z=>by subst z;rw[f5]at eb;cases eb
     rw[ar this]
     exact g0.sub b o eb
   · cases er
     exact⟨f5,⟨_,av,a,ns,0,0,rfl,hc,hl,by omega,by omega,zG⟩⟩
end
def Cm(m:Nat)(i:Nat):TV:=fun ρ Q=>ρ[i]?=some (some .reel)/\∀n:Int,0<=n->n+m<2^59990->Q (.d (.int n))
section
variable{X:Cx}{al:Option Addr}{m m' c:Nat}{rest:List Stmt}{u:EB}{e:Expr}{fa:TV}{pos p p1 p2:Pos}{ρ:En}
theorem rW{i:Nat}{j}(hr:Room 0 X.A)(hN:X.N[i]?=some x:=by rfl)(hv:Ex X.env.scope x:=by first|exact Ix rfl|exact HN (Ix rfl)|exact HN (HN rfl))
 (hd:(x==("__debug__" : Str))=false:=by decide)(hcd:(x==("__classdict__" : Str))=false:=by decide)(hs:uC (.Constant (.str "at") j p2):=by exact fun _ _=>rfl):PV X ⟨al,m⟩ (.Subscript (.Name x p1) (.Constant (.str "at") j p2) pos) (Cm m i):=by
 refine⟨_,il (oj hr) (fO hN hv hd hcd) d8 hs,fun{F₀ H₀ F H σ ρ} R Qd Q ⟨e1,q⟩ h=>?_⟩
 obtain⟨v,s1,⟨r,er,ev⟩,_⟩:=R.sl i _ e1
 subst ev
 obtain⟨_,ok⟩:=R.reel r er
 obtain⟨c,ns,a,l,hH,hc,hl,b1,b2,b3⟩:=ok.kv
 refine⟨.ref r,s1,r,.int a,rfl,?_,h _ (.d _) F H (Grow.refl R.sub R.reel) (.int a) trivial (q a b1 b3)⟩
 have g:=xF.k (k:=kA) hH
 rw[Bt]at g
 exact g
def u_(i ih:Nat)(u:EB):EB:=fun D ρ=>ρ[ih]?=some (some .reel)/\i<ρ.length/\∀n:Int,0<=n->n<2^59990->u D (ρ.set i (some (.d (.int n))))
theorem ul(i ih:Nat){h:Str}{j1 j2 j3:Nat}{q1 q2 q3 q4 q5 q6 q7 q8 q9 q10 q11:Pos}(hr:Room 0 X.A)(hN:X.N.Nodup)(hne:i≠ih)(hrest:Fv X al c rest u)(hi:X.N[i]?=some x:=by rfl)(hih:X.N[ih]?=some h:=by rfl)
 (hx:Loc X.env.scope x:=by first|exact Ix rfl|exact HN rfl)(hf:X.fn x=true\/X.env.scope.names.lookup x=some .local:=by first|exact .inl rfl|exact .inr rfl)
 (hv:Ex X.env.scope h:=by first|exact Ix rfl|exact HN (Ix rfl)|exact HN (HN rfl))(hvx:Ex X.env.scope x:=by first|exact Ix rfl|exact HN (Ix rfl)|exact HN (HN rfl))
 (hd:(h==("__debug__" : Str))=false:=by decide)(hcd:(h==("__classdict__" : Str))=false:=by decide)(hd':(x==("__debug__" : Str))=false:=by decide)(hcd':(x==("__classdict__" : Str))=false:=by decide)
 (hs:HS (.Subscript (.Name h q1) (.Constant (.str "at") j1 q2) q3) (some (.Name x q6)) q7.line X.env=pure false:=by rfl)
 (hsw:HS (.BinOp (.Name x q8) .Add (.Constant (.int 1) j2 q4) q5) (some (.Subscript (.Name h q9) (.Constant (.str "at") j3 q10) q11)) pos.line X.env=pure false:=by rfl)
 (hsl:uC (.Constant (.str "at") j1 q2):=by exact fun _ _=>rfl) :
 Fv X al (1+c) (.Assign [.Name x q6] (.Subscript (.Name h q1) (.Constant (.str "at") j1 q2) q3) q7 :: .Assign [.Subscript (.Name h q9) (.Constant (.str "at") j3 q10) q11] (.BinOp (.Name x q8) .Add (.Constant (.int 1) j2 q4) q5) pos::rest) (u_ i ih u):=by
 obtain⟨T,pT,kR⟩:=hrest
 have s1:∀n,EU X ⟨al,n⟩ (.Assign [.Name x q6] (.Subscript (.Name h q1) (.Constant (.str "at") j1 q2) q3) q7) (lB i (Cm n ih)):=fun n=>am i hN (rW hr hih hv hd hcd hsl) hi hx hs hf
 have s2:∀n,PV X ⟨al,n⟩ (.BinOp (.Name x q8) .Add (.Constant (.int 1) j2 q4) q5) (Cq (D8 fun i j=>.int (i+j)) (x9 i) (vC (.int 1))):=fun n=>v_add (vn i hi hvx hd' hcd') af
 refine⟨_,d7 (t:=fun D σ H=>∃n,Gc (s1 n) D σ H) (fun pins s σ H D I ⟨n,z⟩=>(FK (s1 n)).1 pins s σ H D I z) (d7 (nE (tv:=fun σ H Q=>∃n,Gc (s2 n) σ H Q) (oj hr) (fO hih hv hd hcd) d8 (fun pins s σ H Q I ⟨n,z⟩=>(FK (s2 n)).1 pins s σ H Q I z) hsw) pT),fun{b F₀ H₀ F H σ ρ} R Dv D ok ⟨e1,hlen,q⟩=>⟨b+(1+c),?_⟩⟩
 refine(FK (s1 (b+(1+c)))).2 R {Dv with nx:=fun ρ'=>∃n:Int,(0<=n/\n+(b+(1+c):Nat)<2^59990)/\ρ'=ρ.set i (some (.d (.int n)))} _ ⟨fun F1 H1 σ1 ρ1 sm R1 qn=>?_,fun v w F1 H1 g r n q=>(ok.pay (by omega)).rt v w F1 H1 g r n q,fun F1 H1 σ1 ρ1 sm R1 q=>(ok.pay (b:=b+(1+c)) (by omega)).bk F1 H1 σ1 ρ1 sm R1 q,fun F1 H1 σ1 ρ1 sm R1 q=>(ok.pay (b:=b+(1+c)) (by omega)).ct F1 H1 σ1 ρ1 sm R1 q⟩ ?_
 · obtain⟨n,⟨hn,hl⟩,rfl⟩:=qn
   refine⟨b+(1+c),(FK (s2 (b+(1+c)))).2 R1 (fun w=>w = .d (.int (n+1))) _ ?_ fun v w F2 H2 g2 r2 n2 qw=>?_⟩
   · exact⟨.d (.int n),by rw[Gm hlen],n,1,rfl,rfl,rfl⟩
   · subst qw
     have ev:=aP r2
     subst ev
     have R2:=R1.grow g2
     obtain⟨v2,s2',⟨r,er,ev2⟩,_⟩:=R2.sl ih .reel (by rw[Gf hne];exact e1)
     subst ev2
     obtain⟨_,okr⟩:=R2.reel r er
     obtain⟨cc,ns,a,l,hH,hc,h63,b1,b2,b3⟩:=okr.kv
     refine⟨.ref r,s2',r,_,rfl,xY.k (k:=kA) hH (iY (by show 3<=1000;decide)),?_⟩
     rw[yP]
     exact kR (b:=b) (EM.put (n':=b+c) R2 er ⟨hc,h63,by omega,b2,by omega⟩) Dv D (ok.on (sm.trans g2.fs)) (q n hn (by omega))
 · exact⟨e1,fun n h0 h1=>⟨.int n,rfl,n,⟨h0,h1⟩,rfl⟩⟩
theorem aL(i ih:Nat):mS (u_ i ih u) ρ=aU (((ρ[ih]?).join).bind Et) fun _=>D2 (i<ρ.length) (Ek (anyM fun n:Int=>0<=n/\n<2^59990) fun n=>mS u (ρ.set i (some (.d (.int n))))):=ag fun Q=>(Iff.intro (fun⟨a,l,q⟩=>vH.mpr ⟨a,l,fun n hn=>q n hn.1 hn.2⟩) fun h=>⟨(vH.mp h).1,(vH.mp h).2.1,fun n h0 h1=>(vH.mp h).2.2 n ⟨h0,h1⟩⟩)
theorem uk(i:Nat){f:Str}{ps:List Str}{k:Nat}{pre:List W->Prop}{fs:EA}{es:List Expr}{cpos:Pos}(D:DfnR X.prog X.w X.K X.mg X.base f ps k pre)(hr:Room k X.A)(hN:X.N.Nodup)(ha:EO X RlT.no (e::es) fs)(hrest:∀r,Fv X (some r) c rest u)(hc:c<=BM)
 (hi:X.N[i]?=some x:=by rfl)(hx:Loc X.env.scope x:=by first|exact Ix rfl|exact HN rfl)(hg:Gl X f:=by rfl)(hdb:(f==("__debug__" : Str))=false:=by decide)
 (he:FU (e::es) X.env=(false,eval e X.env)::FU es X.env:=by rfl)(hpl:(Hs cpos (FU es X.env)).any (·.1)=false:=by rfl)
 (hs:HS (.Call (.Name f p) (e::es) [] cpos) (some (.Name x px)) pos.line X.env=pure false:=by rfl)(hf:X.fn x=true\/X.env.scope.names.lookup x=some .local:=by first|exact .inl rfl|exact .inr rfl) :
 kd X RlT.no (.Assign [.Name x px] (.Call (.Name f p) (e::es) [] cpos) pos::rest) (u7 i pre fs u):=by
 obtain⟨fa,fd,hm,hk,hb,F⟩:=D.ex
 obtain⟨ta,p1,k1⟩:=ha
 refine⟨_,d7 (fN hN hi hx (im F hr hg hm hk hb .nil pV p1 hdb he hpl) hs hf) (sP X rest),fun{F₀ H₀ F H σ ρ} R Dv D ok q=>k1 R _ _ q fun vs ws F1 H1 g1 r1 ⟨ao,pw,q1⟩=>?_⟩
 have R1:=R.grow g1
 refine⟨F1,ws,g1.sub,by rw[Ht];exact r1,ao,pw,fun r F2 H2 hr2 g2 ra=>?_⟩
 intro pins s I
 obtain⟨T,pT,kT⟩:=hrest r
 have h0:H₀ r=none:=R1.g.freeB hr2
 refine pT pins s _ H2 D I (kT (b:=0) ((R1.into hr2 g2 ra i).pay (by omega)) _ D ⟨fun F3 H3 σ3 ρ3 s3 R3 q3=>?_,fun v w F3 H3 g3 r3 n3 q3=>?_,fun F3 H3 σ3 ρ3 s3 R3 q3=>?_,fun F3 H3 σ3 ρ3 s3 R3 q3=>?_⟩ q1)
 · exact ok.nx F3 H3 σ3 _ (g1.fs.trans (g2.fs.trans s3)) (R3.out h0) q3
 · exact ok.rt v w F3 H3 (lj g3 h0) (nn r3 q3.1) n3 q3.2
 · exact ok.bk F3 H3 σ3 _ (g1.fs.trans (g2.fs.trans s3)) (R3.out h0) q3
 · exact ok.ct F3 H3 σ3 _ (g1.fs.trans (g2.fs.trans s3)) (R3.out h0) q3
end
theorem aK(n:Nat)(fl:List Nat)(fi:En->(List FH->Prop)->Prop)(g:EE)(t:EB)(ρ:En):mS (u9 n fl fi g t) ρ=Ek (fi ρ) fun xs=>D2 (xs.length<=n) (fX fl (Ep g t) xs (fo fl ρ)):=by
 refine ag fun Q=>?_
 show(fi ρ fun xs=>xs.length<=n/\mS (ce fl g t xs) (fo fl ρ) Q)↔_
 simp only[jU]
 exact Jy
theorem az(n:Nat)(fi:En->(List FH->Prop)->Prop)(fr:List (Option Nat))(g:EE)(ft:TB)(fe:TV)(ρ:En):mO n fi fr g ft fe ρ=Ek (fi ρ) fun xs=>D2 (xs.length<=n) (Ek (cp (DR (dR fr ρ) g ft fe) xs []) fun ds=>ret (.ml ds)):=by
 refine ag fun Q=>?_
 show(fi ρ fun xs=>xs.length<=n/\kH (dR fr ρ) g ft fe xs [] fun ds=>Q (.ml ds))↔_
 simp only[iC]
 exact Jy
def fr(q:Rat):FH:=.tuple [.int q.num,.int q.den]
theorem ji{r:Rat}(h:fr q=fr r):q=r:=by
 simp only[fr,Hh,Hl,KN,and_true]at h
 exact Rat.ext h.1 (by omega)
theorem d_(n:Int)(d:Nat)(h:d≠0):p9 n d=fr (KH n d h):=by
 unfold p9 fr
 rw[Rat.normalize_eq]
 have g:(GF n d:Int)=((n.natAbs.gcd d:Nat):Int):=by simp[GF]
 have gp:0<n.natAbs.gcd d:=Nat.gcd_pos_of_pos_right _ (by omega)
 have e1:n.fdiv (GF n d)=n / ((n.natAbs.gcd d:Nat):Int):=by rw[g,Ih _ (by omega)]
 have e2:(d:Int).fdiv (GF n d)=((d / n.natAbs.gcd d:Nat):Int):=by rw[g,Ih _ (by omega),Int.natCast_ediv]
 rw[e1,e2]
theorem fW{a:Int}(hb:0<b):p9 a b=fr ((a:Rat) / (b:Rat)):=by
 obtain⟨d,rfl⟩:=ID (show 0<=b by omega)
 rw[d_ a d (by omega)]
 congr 1
 have:(KH a d (by omega))=mkRat a d:=by rw[Rat.normalize_eq_mkRat]
 rw[this,Rat.mkRat_eq_div]
 rfl
theorem xg(q r:Rat):p9 (q.num*r.den+r.num*q.den) (q.den*r.den)=fr (q+r):=by
 have:=d_ (q.num*r.den+r.num*q.den) (q.den*r.den) (Ld q.den_nz r.den_nz)
 rw[JZ]at this
 rw[this,Rat.add_def]
theorem w_(q r:Rat):p9 (q.num*r.den-r.num*q.den) (q.den*r.den)=fr (q-r):=by
 have:=d_ (q.num*r.den-r.num*q.den) (q.den*r.den) (Ld q.den_nz r.den_nz)
 rw[JZ]at this
 rw[this,Rat.sub_def]
theorem xb(q r:Rat):p9 (q.num*r.num) (q.den*r.den)=fr (q*r):=by
 have:=d_ (q.num*r.num) (q.den*r.den) (Ld q.den_nz r.den_nz)
 rw[JZ]at this
 rw[this,Rat.mul_def]
theorem zu(q r:Rat):decide (q.num*r.den<r.num*q.den)=decide (q<r):=by
 rw[decide_eq_decide]
 exact(Lo q r).symm
def Dg(f:Rat->Rat->FH)(pre:Rat->Rat->Prop):List W->(FH->Prop)->Prop:=fun ws Q=>∃q r,ws=[.d (fr q),.d (fr r)]/\pre q r/\Q (f q r)
theorem Dg.mono{f:Rat->Rat->FH}{pre:Rat->Rat->Prop}:∀ws (Q Q':FH->Prop),(∀d,Q d->Q' d)->Dg f pre ws Q->Dg f pre ws Q':=fun _ _ _ h ⟨q,r,e,p,x⟩=>⟨q,r,e,p,h _ x⟩
theorem Dg.len{f:Rat->Rat->FH}{pre:Rat->Rat->Prop}:∀ws (Q:FH->Prop),Dg f pre ws Q->ws.length=2:=fun _ _ ⟨_,_,e,_⟩=>by subst e;rfl
def Di(f:Rat->FH)(pre:Rat->Prop):List W->(FH->Prop)->Prop:=fun ws Q=>∃q,ws=[.d (fr q)]/\pre q/\Q (f q)
theorem Di.mono{f:Rat->FH}{pre:Rat->Prop}:∀ws (Q Q':FH->Prop),(∀d,Q d->Q' d)->Di f pre ws Q->Di f pre ws Q':=fun _ _ _ h ⟨q,e,p,x⟩=>⟨q,e,p,h _ x⟩
theorem Di.len{f:Rat->FH}{pre:Rat->Prop}:∀ws (Q:FH->Prop),Di f pre ws Q->ws.length=1:=fun _ _ ⟨_,e,_⟩=>by subst e;rfl
def Df(n:Nat)(q:Rat):Prop:=q.num.natAbs<2^n/\q.den<2^n
theorem Df.mono(h:Df n q)(hm:n<=m):Df m q:=⟨FN h.1 (FX (by decide) hm),FN h.2 (FX (by decide) hm)⟩
theorem iD{i:Int}(h:i.natAbs<2^2000):Fz i:=FN h (FX (by decide) (by decide))
theorem Df.bn(h:Df 2000 q):Fz q.num:=iD h.1
theorem Df.bd(h:Df 2000 q):Fz (q.den:Int):=iD (by rw[Hq];exact h.2)
theorem eR(q r:Rat):(0:Int)<(q.den:Int)*(r.den:Int):=Je (by have:=q.den_nz;omega) (by have:=r.den_nz;omega)
theorem gb{r:Rat}(h:Df 2000 q)(h':Df 2000 r):((q.den:Int)*(r.den:Int)).natAbs<2^8000:=by
 rw[Ja,Hq,Hq]
 have:q.den*r.den<2^2000*2^2000:=KO h.2 h'.2
 rw[<- Mx]at this
 exact FN this (FX (by decide) (by decide))
inductive Sd where
 | to (t:Rat)|from(a b:Rat)|round (a b:Rat)
def Sd.last:Sd->Rat
 | .to t=>t | .from _ b=>b | .round _ b=>b
def Sd.first:Sd->Rat
 | .to t=>t | .from a _=>a | .round a _=>a
def Sd.word:Sd->Str
 | .to _ => "to" | .from _ _ => "from" | .round _ _ => "round"
def C8:Sd->FH
 | .to t=>.tuple [.str "to", fr t]
 | .from a b=>.tuple [.str "from", fr a,fr b]
 | .round a b=>.tuple [.str "round", fr a,fr b]
def mx(q r:Rat):Rat:=if q<r then r else q
def mn(q r:Rat):Rat:=if q<r then q else r
def CQ:Sd->Rat
 | .to t=>mx t 0
 | .from a b=>mx (mx b 0-mx a 0) 0
 | .round a b=>mn (1+(mx b 0-mx a 0)) 1
def Sd.Sm(s:Sd):Prop:=Df 60 s.first/\Df 60 s.last
theorem fr0:pr 0 1=fr 0:=rfl
theorem fr1:pr 1 1=fr 1:=rfl
theorem xO:Df 60 0:=⟨by decide,by decide⟩
theorem Bx:Df 60 1:=⟨by decide,by decide⟩
theorem jO{r:Rat}(h:Df n q)(h':Df n r):Df n (mx q r):=by unfold mx;split<;>assumption
theorem jN{n:Int}{d k:Nat}(hd:d≠0)(h1:n.natAbs<2^k)(h2:d<2^k):Df k (KH n d hd):=by
 rw[Rat.normalize_eq]
 refine⟨?_,Im (Nat.div_le_self _ _) h2⟩
 show(n / ((n.natAbs.gcd d:Nat):Int)).natAbs<2^k
 have hdv:((n.natAbs.gcd d:Nat):Int)∣n:=Int.ofNat_dvd_left.mpr (Nat.gcd_dvd_left _ _)
 rw[Int.natAbs_ediv_of_dvd hdv,Hq]
 exact Im (Nat.div_le_self _ _) h1
theorem cG{a b:Nat}(h1:a<2^m)(h2:b<2^n):a*b<2^(m+n):=by
 rw[Mx]
 exact KO h1 h2
theorem kX{r:Rat}(h:Df m q)(h':Df n r):Df (m+n) (q*r):=by
 rw[Rat.mul_def]
 refine jN _ ?_ (cG h.2 h'.2)
 rw[Ja]
 exact cG h.1 h'.1
theorem rH{r:Rat}(h:Df m q)(h':Df n r):Df (m+n+1) (q+r):=by
 rw[Rat.add_def]
 have a1:=cG h.1 h'.2
 have a2:=cG h'.1 h.2
 rw[Nat.add_comm n m]at a2
 have a3:=cG h.2 h'.2
 refine jN _ ?_ (FN a3 (FX (by decide) (by omega)))
 have t:=Int.natAbs_add_le (q.num*r.den) (r.num*q.den)
 rw[Ja,Ja,Hq,Hq]at t
 rw[La]
 omega
theorem iW{r:Rat}(h:Df m q)(h':Df n r):Df (m+n+1) (q-r):=by
 rw[Rat.sub_eq_add_neg]
 exact rH h ⟨by rw[Rat.neg_num,Ly];exact h'.1,h'.2⟩
theorem Df.up(h:Df 60 q):Df 2000 q:=h.mono (by decide)
def zx{α:Type}(pre:α->Prop)(enc:α->FH)(f:α->FH):List W->(FH->Prop)->Prop:=fun ws Q=>∃a,ws=[.d (enc a)]/\pre a/\Q (f a)
theorem zx.mono{pre:α->Prop}{enc:α->FH}{f:α->FH}:∀ws (Q Q':FH->Prop),(∀d,Q d->Q' d)->zx pre enc f ws Q->zx pre enc f ws Q':=fun _ _ _ h ⟨a,e,p,q⟩=>⟨a,e,p,h _ q⟩
theorem zx.len{pre:α->Prop}{enc:α->FH}{f:α->FH}:∀ws (Q:FH->Prop),zx pre enc f ws Q->ws.length=1:=fun _ _ ⟨_,e,_⟩=>by subst e;rfl
def D5(x y:Rat)(b:Bool):Bool:=if b then !decide (y<x)else decide (x<y)
def D4:List W->(FH->Prop)->Prop:=fun ws Q=>∃x y b,ws=[.d (fr x),.d (fr y),.d (.bool b)]/\Df 2000 x/\Df 2000 y/\Q (.bool (D5 x y b))
theorem D4.mono:∀ws (Q Q':FH->Prop),(∀d,Q d->Q' d)->D4 ws Q->D4 ws Q':=fun _ _ _ h ⟨a,b,c,e,p,p',q⟩=>⟨a,b,c,e,p,p',h _ q⟩
theorem D4.len:∀ws (Q:FH->Prop),D4 ws Q->ws.length=3:=fun _ _ ⟨_,_,_,e,_⟩=>by subst e;rfl
def DT(w:Str):Prop:=w = "half" \/ w = "shut" \/ w = "open"
theorem DT.sh{w:Str}(h:DT w):GC (.str w)=true:=by rcases h with rfl|rfl|rfl<;>decide +kernel
def DF(s:Sd)(w:Str)(x:Rat):Bool :=
 let ahead:=D5 x s.last (decide (w = "shut"))
 let behind:=D5 s.first x (!decide (w = "open"))
 match s with
 | .to _=>ahead
 | .from _ _=>behind&&ahead
 | .round _ _=>behind||ahead
def DE:List W->(FH->Prop)->Prop:=fun ws Q=>∃x s w,ws=[.d (fr x),.d (C8 s),.d (.str w)]/\Df 60 x/\s.Sm/\DT w/\Q (.bool (DF s w x))
theorem DE.mono:∀ws (Q Q':FH->Prop),(∀d,Q d->Q' d)->DE ws Q->DE ws Q':=fun _ _ _ h ⟨a,b,c,e,p,p',p'',q⟩=>⟨a,b,c,e,p,p',p'',h _ q⟩
theorem DE.len:∀ws (Q:FH->Prop),DE ws Q->ws.length=3:=fun _ _ ⟨_,_,_,e,_⟩=>by subst e;rfl
def sR(qs:List Rat):Rat:=qs.foldl (· * ·) 1
def pdP:List W->(FH->Prop)->Prop:=fun ws Q=>∃qs:List Rat,ws=[.d (.list (qs.map fr))]/\qs.length<=4/\(∀q∈qs,Df 400 q)/\Q (fr (sR qs))
theorem pdP.mono:∀ws (Q Q':FH->Prop),(∀d,Q d->Q' d)->pdP ws Q->pdP ws Q':=fun _ _ _ h ⟨a,e,p,p',q⟩=>⟨a,e,p,p',h _ q⟩
theorem pdP.len:∀ws (Q:FH->Prop),pdP ws Q->ws.length=1:=fun _ _ ⟨_,e,_⟩=>by subst e;rfl
def oW(ss:List Sd):FH:=.tuple (ss.map C8)
def zL(ss:List Sd):Prop:=1<=ss.length/\ss.length<=4/\∀s∈ss,s.Sm
def ptD(qs:List Rat):FH:=.tuple (qs.map fr)
def A3(n:Nat)(qs:List Rat):Prop:=qs.length=n/\∀q∈qs,Df 60 q
def DM(qs:List Rat)(ss:List Sd)(w:Str):Bool:=(qs.zip ss).all fun p=>DF p.2 w p.1
def DL:List W->(FH->Prop)->Prop:=fun ws Q=>∃qs ss w,ws=[.d (ptD qs),.d (oW ss),.d (.str w)]/\A3 ss.length qs/\zL ss/\DT w/\Q (.bool (DM qs ss w))
theorem DL.mono:∀ws (Q Q':FH->Prop),(∀d,Q d->Q' d)->DL ws Q->DL ws Q':=fun _ _ _ h ⟨a,b,c,e,p,p',p'',q⟩=>⟨a,b,c,e,p,p',p'',h _ q⟩
theorem DL.len:∀ws (Q:FH->Prop),DL ws Q->ws.length=3:=fun _ _ ⟨_,_,_,e,_⟩=>by subst e;rfl
def ptsQ(ps:List (List Rat)):FH:=.tuple (ps.map ptD)
def A4(n:Nat)(ps:List (List Rat)):Prop:=1<=ps.length/\ps.length<=40/\∀p∈ps,A3 n p
def Eh(f:List (List Rat)->List Sd->Str->FH):List W->(FH->Prop)->Prop:=fun ws Q=>∃ps ss w,ws=[.d (ptsQ ps),.d (oW ss),.d (.str w)]/\A4 ss.length ps/\zL ss/\DT w/\Q (f ps ss w)
theorem Eh.mono{f:List (List Rat)->List Sd->Str->FH}:∀ws (Q Q':FH->Prop),(∀d,Q d->Q' d)->Eh f ws Q->Eh f ws Q':=fun _ _ _ h ⟨a,b,c,e,p,p',p'',q⟩=>⟨a,b,c,e,p,p',p'',h _ q⟩
theorem Eh.len{f:List (List Rat)->List Sd->Str->FH}:∀ws (Q:FH->Prop),Eh f ws Q->ws.length=3:=fun _ _ ⟨_,_,_,e,_⟩=>by subst e;rfl
def DB(f:List (List Rat)->List Sd->Rat):List W->(FH->Prop)->Prop:=fun ws Q=>∃ps ss,ws=[.d (ptsQ ps),.d (oW ss)]/\A4 ss.length ps/\zL ss/\Q (fr (f ps ss))
theorem DB.mono{f:List (List Rat)->List Sd->Rat}:∀ws (Q Q':FH->Prop),(∀d,Q d->Q' d)->DB f ws Q->DB f ws Q':=fun _ _ _ h ⟨a,b,e,p,p',q⟩=>⟨a,b,e,p,p',h _ q⟩
theorem DB.len{f:List (List Rat)->List Sd->Rat}:∀ws (Q:FH->Prop),DB f ws Q->ws.length=2:=fun _ _ ⟨_,_,e,_⟩=>by subst e;rfl
theorem at_last2{α:Type}(x y:α):L2.atI [x,y] (-1)=some y:=rfl
theorem at_last3{α:Type}(x y z:α):L2.atI [x,y,z] (-1)=some z:=rfl
theorem kj{α β:Type}(f:α->FH)(g:β->FH):∀(xs:List α)(ys:List β),ko (xs.map f) (ys.map g)=(xs.zip ys).map fun p=>.tuple [f p.1,g p.2]
 | [],_=>by simp[ko]
 | _::_,[]=>by simp[ko]
 | x::xs,y::ys=>by
   show Hw [f x,g y]::ko (xs.map f) (ys.map g)=_
   rw[kj f g xs ys]
   rfl
theorem jV:∀qs:List Rat,GE (qs.map fr)=true
 | []=>rfl
 | q::qs=>by simp[GE,GY,fr,jV qs]
theorem oF:∀qs:List Rat,Go (qs.map fr)<=3
 | []=>by simp[Go]
 | q::qs=>by
   have:=oF qs
   simp[Go,GR,fr]at this ⊢
   omega
theorem at_last1{α:Type}(x:α):L2.atI [x] (-1)=some x:=rfl
def Dx:List W->(FH->Prop)->Prop:=fun ws Q=>ws=[.reel]/\∀q,Df 60 q->Q (fr q)
theorem Dx.mono:∀ws (Q Q':FH->Prop),(∀d,Q d->Q' d)->Dx ws Q->Dx ws Q':=fun _ _ _ h ⟨e,q⟩=>⟨e,fun r hr=>h _ (q r hr)⟩
theorem Dx.len:∀ws (Q:FH->Prop),Dx ws Q->ws.length=1:=fun _ _ ⟨e,_⟩=>by subst e;rfl
def Ed:List W->(FH->Prop)->Prop:=fun ws Q=>∃qs:List Rat,ws=[.reel,.d (.list (qs.map fr))]/\(∀q∈qs,Df 60 q)/\qs.length<=40/\∀q,Df 60 q->Q (fr q)
theorem Ed.mono:∀ws (Q Q':FH->Prop),(∀d,Q d->Q' d)->Ed ws Q->Ed ws Q':=fun _ _ _ h ⟨a,e,p,p',q⟩=>⟨a,e,p,p',fun r hr=>h _ (q r hr)⟩
theorem Ed.len:∀ws (Q:FH->Prop),Ed ws Q->ws.length=2:=fun _ _ ⟨_,e,_⟩=>by subst e;rfl
def AY(w:Str):Prop:=w = "to" \/ w = "from" \/ w = "round"
theorem AY.sh{w:Str}(h:AY w):GC (.str w)=true:=by rcases h with rfl|rfl|rfl<;>decide +kernel
def C7:List W->(FH->Prop)->Prop:=fun ws Q=>∃(qs:List Rat)(w:Str),ws=[.reel,.d (.list (qs.map fr)),.d (.str w)]/\(∀q∈qs,Df 60 q)/\qs.length<=40/\AY w/\∀s:Sd,s.Sm->Q (C8 s)
theorem C7.mono:∀ws (Q Q':FH->Prop),(∀d,Q d->Q' d)->C7 ws Q->C7 ws Q':=fun _ _ _ h ⟨a,b,e,p,p',p'',q⟩=>⟨a,b,e,p,p',p'',fun r hr=>h _ (q r hr)⟩
theorem C7.len:∀ws (Q:FH->Prop),C7 ws Q->ws.length=3:=fun _ _ ⟨_,_,e,_⟩=>by subst e;rfl
theorem cR{r:Rat}:fr q=fr r↔q=r:=⟨ji,fun h=>by rw[h]⟩
theorem bH{s t:Sd}:C8 s=C8 t↔s=t:=by
 constructor
 · intro h
   have n1:¬(F0 "from" = F0 "round"):=by decide +kernel
   cases s<;>cases t<;>simp[C8,cR,n1,LB n1]at h ⊢ <;> first|exact h|exact(n1 h.1.symm).elim|exact(n1 h.1).elim
 · rintro rfl;rfl
theorem bI{a b:List Rat}:ptD a=ptD b↔a=b:=by
 unfold ptD
 rw[Hh,aO fun _ _=>cR]
theorem aN{a b:List Sd}:oW a=oW b↔a=b:=by
 unfold oW
 rw[Hh,aO fun _ _=>bH]
theorem aM{a b:List (List Rat)}:ptsQ a=ptsQ b↔a=b:=by
 unfold ptsQ
 rw[Hh,aO fun _ _=>bI]
theorem bJ{a b:List Rat}:a.map fr=b.map fr↔a=b:=aO fun _ _=>cR
theorem item_fr0(q:Rat):itemAt (fr q) 0=some (.int q.num):=rfl
theorem item_fr1(q:Rat):itemAt (fr q) 1=some (.int q.den):=rfl
theorem tupD_pt(a:List Rat):tupD (ptD a)=some (a.map fr):=rfl
theorem seqD_pt(a:List Rat):eU (ptD a)=some (a.map fr):=rfl
theorem lenD_pt(a:List Rat):qb (ptD a)=some a.length:=by show some (a.map fr).length=_;rw[FR]
theorem item_pt(a:List Rat)(i:Int):itemAt (ptD a) i=(atI a i).map fr:=atI_map _ _ _
theorem tupD_bx(a:List Sd):tupD (oW a)=some (a.map C8):=rfl
theorem seqD_bx(a:List Sd):eU (oW a)=some (a.map C8):=rfl
theorem lenD_bx(a:List Sd):qb (oW a)=some a.length:=by show some (a.map C8).length=_;rw[FR]
theorem item_bx(a:List Sd)(i:Int):itemAt (oW a) i=(atI a i).map C8:=atI_map _ _ _
theorem tupD_ps(a:List (List Rat)):tupD (ptsQ a)=some (a.map ptD):=rfl
theorem seqD_ps(a:List (List Rat)):eU (ptsQ a)=some (a.map ptD):=rfl
theorem lenD_ps(a:List (List Rat)):qb (ptsQ a)=some a.length:=by show some (a.map ptD).length=_;rw[FR]
theorem item_ps(a:List (List Rat))(i:Int):itemAt (ptsQ a) i=(atI a i).map ptD:=atI_map _ _ _
theorem kind_pt(a:List Rat):cZ (ptD a)=cZ (.tuple []):=rfl
theorem kind_bx(a:List Sd):cZ (oW a)=cZ (.tuple []):=rfl
def qd(a b:Int):Rat:=(a:Rat) / (b:Rat)
theorem nU{a:Int}(hb:0<b):Hw [.int (a.fdiv (GF a b)),.int (b.fdiv (GF a b))]=fr (qd a b):=fW hb
theorem tQ{a:Int}(hb:b<0):Hw [.int (a.fdiv (-(GF a b:Int))),.int (b.fdiv (-(GF a b:Int)))]=fr (qd a b):=by
 have h:=nU (a:=-a) (b:=-b) (by omega)
 have e:qd (-a) (-b)=qd a b:=by
  unfold qd
  rw[Rat.intCast_neg,Rat.intCast_neg]
  have : (b : Rat) ≠ 0 := by intro z;have:b=0:=by exact_mod_cast z
                             omega
  grind
 rw[<- e,<- h,Int.gcd_neg,Int.neg_gcd]
 congr 2
 · rw[<- Int.neg_fdiv_neg,Int.neg_neg]
 · rw[<- Int.neg_fdiv_neg (b:=-(GF a b:Int)),Int.neg_neg]
theorem jI(q:Rat):qd q.num q.den=q:=by
 unfold qd
 have:=Rat.mkRat_self q
 rw[Rat.mkRat_eq_div]at this
 exact this
theorem vT(q r:Rat):qd (q.num*r.den+r.num*q.den) (q.den*r.den)=q+r:=ji (by rw[<- xg];exact(fW (eR q r)).symm)
theorem vR(q r:Rat):qd (q.num*r.den-r.num*q.den) (q.den*r.den)=q-r:=ji (by rw[<- w_];exact(fW (eR q r)).symm)
theorem vS(q r:Rat):qd (q.num*r.num) (q.den*r.den)=q*r:=ji (by rw[<- xb];exact(fW (eR q r)).symm)
theorem eE(q:Rat):(0:Int)<(q.den:Int):=by have:=q.den_nz;omega
theorem i9{a:Int}{k:Nat}(hb:0<b)(h1:a.natAbs<2^k)(h2:b.natAbs<2^k):Df k (qd a b):=by
 obtain⟨d,rfl⟩:=ID (show 0<=b by omega)
 have hd:d≠0:=by omega
 have e:qd a d=KH a d hd:=ji (by rw[<- d_,fW (by omega)];rfl)
 rw[e]
 exact jN _ h1 (by simpa using h2)
theorem xh(h:Df n q)(hn:n<=1000):Sm 2 2 (fr q) :=
 Sm.pair (FN h.1 (FX (by decide) hn)) (by rw[Hq];exact FN h.2 (FX (by decide) hn))
def sg(x y:Rat):Int:=x.num*y.den-y.num*x.den
theorem nY:∀ps:List (List Rat),GE (ps.map ptD)=true
 | []=>rfl
 | p::ps=>by simp[GE,GY,ptD,jV,nY ps]
theorem oE:∀ps:List (List Rat),Go (ps.map ptD)<=5
 | []=>by simp[Go]
 | p::ps=>by
   have:=oE ps
   have:=oF p
   simp[Go,GR,ptD]at *
   omega
theorem lE(ps:List (List Rat)):GC (.list (ps.map ptD))=true:=by
 have:=oE ps
 simp[GC,GY,GR,nY]
 omega
def pdim(ps:List (List Rat)):Nat:=(ps.head?.getD []).length
theorem xa(h:Df n q)(hn:n<=1000):EL (fr q):=(xh h hn).shw (by decide) (by decide)
def xX(qs:List Rat):Prop:=∀q∈qs,0<=q/\q<1
def xC(ps:List (List Rat)):Prop:=∀p∈ps,xX p
theorem xX.snoc{r:Rat}(h:xX qs)(hr:0<=r/\r<1):xX (qs++[r]):=fun q hq=>by
 rcases Gv.mp hq with h'|h'
 · exact h q h'
 · simp at h';rw[h'];exact hr
theorem xC.snoc{r:List Rat}(h:xC ps)(hr:xX r):xC (ps++[r]):=fun q hq=>by
 rcases Gv.mp hq with h'|h'
 · exact h q h'
 · simp at h';rw[h'];exact hr
theorem sJ{a:Int}(hb:0<b)(h:0<=a):0<=qd a b:=by
 unfold qd
 have h1:(0:Rat)<=(a:Rat):=by exact_mod_cast h
 have h2:(0:Rat)<(b:Rat):=by exact_mod_cast hb
 rw[My]
 exact Rat.mul_nonneg h1 (Mi (Rat.inv_pos.mpr h2))
theorem qY{a:Int}(hb:0<b)(h:a<b):qd a b<1:=by
 unfold qd
 have h1:(a:Rat)<(b:Rat):=by exact_mod_cast h
 have h2:(0:Rat)<(b:Rat):=by exact_mod_cast hb
 exact(Rat.div_lt_iff h2).mpr (by rw[Rat.one_mul];exact h1)
def FE:=FJ @item_fr0 (FJ @item_fr1 (FJ @tupD_pt (FJ @seqD_pt (FJ @lenD_pt (FJ @item_pt (FJ @tupD_bx (FJ @seqD_bx (FJ @lenD_bx (FJ @item_bx (FJ @tupD_ps (FJ @seqD_ps (FJ @lenD_ps (FJ @item_ps (FJ @at_last1 (FJ @at_last2 (FJ @at_last3 (FJ @kind_pt (FJ @kind_bx (FJ @fr0 (@fr1))))))))))))))))))))
def fv(b:Int):List Int->Rat
 | []=>0
 | d::ds=>((d:Rat)+fv b ds) / (b:Rat)
def nv(b:Int):List Int->Int
 | []=>0
 | d::ds=>d+b*nv b ds
def tv(b:Int)(ds:List Int):Int:=ds.foldl (fun t d=>t*b+d) 0
def Fm(b:Int)(ds:List Int):Prop:=∀d∈ds,0<=d/\d<b
theorem iw(b:Int):∀(ds:List Int)(t:Int),ds.foldl (fun t d=>t*b+d) t=t*b^ds.length+tv b ds
 | [],t=>by simp[tv]
 | d::ds,t=>by
   rw[IM,iw b ds (t*b+d),show tv b (d::ds)=ds.foldl (fun t d=>t*b+d) (0*b+d)from rfl,iw b ds (0*b+d),Gp,Io]
   grind
theorem hG(b d:Int)(ds:List Int):tv b (d::ds)=d*b^ds.length+tv b ds:=by
 rw[show tv b (d::ds)=ds.foldl (fun t d=>t*b+d) (0*b+d)from rfl,iw];grind
theorem cr(h:0<b):(b:Rat)≠0:=by
 intro z
 have:b=0:=by exact_mod_cast z
 omega
theorem vh{b:Int}(hb:2<=b):∀ds:List Int,qd (tv b ds) (b^ds.length)=fv b ds
 | []=>by rw[show tv b []=0 from rfl,IK,Mj];show((0:Int):Rat) / ((1:Int):Rat)=0;rw[My,show((0:Int):Rat)=0 from rfl,Rat.zero_mul]
 | d::ds=>by
   have ih:=vh hb ds
   have h1:=cr (show 0<b by omega)
   have h2:=cr (show 0<b^ds.length from Ib (by omega))
   rw[hG,fv,<- ih,Gp,Io]
   unfold qd
   rw[Rat.intCast_add,Hm,Hm]
   grind
theorem mQ{b:Int}(hb:2<=b):∀ds:List Int,Fm b ds->0<=tv b ds/\tv b ds<b^ds.length
 | [],_=>⟨JV _,by simp[tv]⟩
 | d::ds,h=>by
   obtain⟨i1,i2⟩:=mQ hb ds fun x m=>h x (FP _ m)
   obtain⟨j1,j2⟩:=h d FT
   have hp:0<b^ds.length:=Ib (by omega)
   rw[hG,Gp,Io,Kd (b^ds.length) b]
   have h1:0<=d*b^ds.length:=HB j1 (by omega)
   have h2:(d+1)*b^ds.length<=b*b^ds.length:=Gu (by omega) (by omega)
   rw[Int.add_mul,LJ]at h2
   omega
def Xp(b t B:Int)(ds:List Int):Prop:=Fm b ds/\t*b^ds.length=tv b ds*B
theorem Xp.nil{t:Int}(h:Xp b t B []):t=0:=by
 have:=h.2
 simpa[tv]using this
theorem Xp.cons{b t B d:Int}{ds:List Int}(hb:2<=b)(hB:0<B)(h:Xp b t B (d::ds)):(t*b) / B=d/\Xp b (t*b%B) B ds:=by
 obtain⟨f,e⟩:=h
 have fd:Fm b ds:=fun x m=>f x (FP _ m)
 obtain⟨s0,s1⟩:=mQ hb ds fd
 rw[hG,Gp,Io]at e
 generalize hn:b^ds.length=n at *
 generalize hs:tv b ds=s at *
 have hn0:0<n:=by rw[<- hn];exact Ib (by omega)
 have e1:n*(t*b-d*B)=s*B:=by grind
 have r0:0<=t*b-d*B:=by
  by_cases z:0<=t*b-d*B
  · exact z
  · have:n*(t*b-d*B)<0:=Kg hn0 (by omega)
    have:0<=s*B:=HB s0 (by omega)
    omega
 have r1:t*b-d*B<B:=by
  have h1:s*B<n*B:=Ie s1 hB
  exact Int.lt_of_mul_lt_mul_left (e1▸h1) (by omega)
 have q:t*b / B=d:=by
  have:t*b=(t*b-d*B)+d*B:=by omega
  rw[this,Int.add_mul_ediv_right _ _ (by omega),Int.ediv_eq_zero_of_lt r0 r1,Lc]
 have q2:t*b%B=t*b-d*B:=by rw[Int.emod_def,q,Kd B d]
 exact⟨q,fd,by rw[q2,hn,hs,Kd,e1]⟩
theorem Cy{b:Int}(hb:2<=b):∀ds:List Int,Fm b ds->tv b ds=0->∀d∈ds,d=0
 | [],_,_,_,m=>nomatch m
 | d::ds,h,e,x,m=>by
   have fd:Fm b ds:=fun x m=>h x (FP _ m)
   obtain⟨s0,s1⟩:=mQ hb ds fd
   obtain⟨j1,j2⟩:=h d FT
   have hp:0<b^ds.length:=Ib (by omega)
   rw[hG]at e
   have hd:d=0:=by
    by_cases z:d=0
    · exact z
    · have:0<d*b^ds.length:=Je (by omega) hp
      omega
   subst hd
   rw[Int.zero_mul,Lc]at e
   rcases Gh.mp m with rfl|m
   · rfl
   · exact Cy hb ds fd e x m
theorem Dt(b:Int)(f:Int->Int)(h0:f 0=0):∀ds:List Int,(∀d∈ds,d=0)->nv b (ds.map f)=0
 | [],_=>rfl
 | d::ds,h=>by
   rw[Gz,nv,h d FT,h0,Dt b f h0 ds fun x m=>h x (FP _ m)];simp
theorem Xp.zero(hb:2<=b)(hB:0<B)(h:Xp b 0 B ds):∀d∈ds,d=0:=by
 have e:=h.2
 rw[Int.zero_mul]at e
 have:tv b ds=0:=by
  rcases Int.mul_eq_zero.mp e.symm with z|z
  · exact z
  · omega
 exact Cy hb ds h.1 this
theorem Xp.uniq{b B:Int}(hb:2<=b)(hB:0<B)(f:Int->Int)(h0:f 0=0):∀(ds es:List Int)(t:Int),Xp b t B ds->Xp b t B es->nv b (ds.map f)=nv b (es.map f)
 | [],es,t,h,k=>by
   have:=h.nil
   subst this
   rw[Dt b f h0 es (k.zero hb hB)];rfl
 | d::ds,[],t,h,k=>by
   have:=k.nil
   subst this
   rw[Dt b f h0 (d::ds) (h.zero hb hB)];rfl
 | d::ds,e::es,t,h,k=>by
   obtain⟨a1,a2⟩:=h.cons hb hB
   obtain⟨b1,b2⟩:=k.cons hb hB
   rw[Gz,Gz,nv,nv,Xp.uniq hb hB f h0 ds es _ a2 b2,<- a1,<- b1]
def ix(p:List Int)(f:Int):Int:=(p.idxOf f:Int)
def A5(b:Int)(q:Rat):Prop:=∃ds,Xp b q.num q.den ds
open Classical in
noncomputable def qN(b:Int)(p:List Int)(q:Rat):Option Int:=if h:A5 b q then some (nv b (h.choose.map (ix p)))else none
theorem DP{p:List Int}(ex:IsEx b p):ix p 0=0:=by
 cases p with
 | nil=>cases ex.zero
 | cons x p =>
   have:=ex.zero
   simp only[List.head?_cons,MH.injEq]at this
   subst this
   simp[ix,List.idxOf_cons_self]
theorem uw{p:List Int}(hb:2<=b)(ex:IsEx b p)(h:Xp b q.num q.den ds):qN b p q=some (nv b (ds.map (ix p))):=by
 have hx:A5 b q:=⟨ds,h⟩
 unfold qN
 rw[dif_pos hx,Xp.uniq hb (eE q) (ix p) (DP ex) _ ds q.num hx.choose_spec h]
def Ee(b n:Int):List Int:=(digs b.toNat n.toNat).map fun(k:Nat)=>(k:Int)
theorem tM{b:Nat}(hb:2<=b):∀n:Nat,nv (b:Int) ((digs b n).map fun(k:Nat)=>(k:Int))=n:=by
 intro n
 induction n using JX with
 | _ n ih =>
   by_cases h:0<n
   · rw[fD hb h,Gz,nv,ih (n / b) (JW h (by omega))]
     have:=Nat.mod_add_div n b
     exact_mod_cast this
   · have:n=0:=by omega
     subst this
     rw[dn];rfl
theorem wF{n:Int}(hb:2<=b)(hn:0<=n):nv b (Ee b n)=n:=by
 have:=tM (b:=b.toNat) (by omega) n.toNat
 rw[Ig (by omega),Ig hn]at this
 exact this
theorem oB(hb:2<=b)(n:Int):Fm b (Ee b n):=by
 intro d m
 obtain⟨k,mk,rfl⟩:=GJ.mp m
 have:=ui (b:=b.toNat) (by omega) _ k mk
 omega
theorem kQ(b:Int)(m:Nat):∀xs:List Int,nv b (xs++GU m 0)=nv b xs
 | []=>by
   show nv b (GU m 0)=0
   induction m with
   | zero=>rfl
   | succ m ih=>rw[JT,nv,ih];simp
 | x::xs=>by rw[KM,nv,kQ b m xs,nv]
theorem sd(b:Int)(ds:List Int)(d:Int):tv b (ds++[d])=tv b ds*b+d:=by simp[tv]
theorem mP(b:Int):∀xs:List Int,tv b xs.reverse=nv b xs
 | []=>rfl
 | x::xs=>by rw[Kl,sd,mP b xs,nv];grind
theorem k_{b:Nat}(hb:2<=b):∀(k n:Nat),n<b^k->(digs b n).length<=k
 | k,n,h=>by
   by_cases hn:0<n
   · cases k with
     | zero=>simp at h;omega
     | succ k =>
       rw[fD hb hn,Gp]
       have:n / b<b^k:=by rw[Nat.div_lt_iff_lt_mul (by omega)];rw[La]at h;exact h
       have:=k_ hb k (n / b) this
       omega
   · have:n=0:=by omega
     subst this
     rw[dn];simp
theorem tV{n:Int}{k:Nat}(hb:2<=b)(hn:0<=n)(h:n<b^k):(Ee b n).length<=k:=by
 unfold Ee
 rw[FR]
 refine k_ (by omega) k _ ?_
 have:((n.toNat:Nat):Int)<((b.toNat^k:Nat):Int):=by
  rw[Ig hn,Int.natCast_pow,Ig (by omega)];exact h
 exact_mod_cast this
def Dn(b c:Int)(k:Nat):List Int:=Ee b c++GU (k-(Ee b c).length) 0
theorem jM{k:Nat}(hb:2<=b)(hc:0<=c)(h:c<b^k):(Dn b c k).length=k:=by
 have:=tV hb hc h
 simp[Dn];omega
theorem nK{k:Nat}(hb:2<=b):Fm b (Dn b c k):=by
 intro d m
 rcases Gv.mp m with m|m
 · exact oB hb c d m
 · rw[(List.mem_replicate.mp m).2];omega
theorem wv{k:Nat}(hb:2<=b)(hc:0<=c):nv b (Dn b c k)=c:=by
 unfold Dn
 rw[kQ,wF hb hc]
theorem wu{t:Int}{k:Nat}(hb:2<=b)(hc:0<=c)(h:c<b^k)(e:c*B=t*b^k):Xp b t B (Dn b c k).reverse:=by
 refine⟨fun d m=>nK hb d (KP.mp m),?_⟩
 rw[Jf,jM hb hc h,mP,wv hb hc,e]
theorem pK{a:Int}(hc:0<c):(qd a c).num*c=a*(qd a c).den:=by
 have h1:=cr hc
 have h2:=cr (eE (qd a c))
 have e:qd (qd a c).num (qd a c).den=qd a c:=jI _
 have e':((qd a c).num:Rat) / (((qd a c).den:Int):Rat)=(a:Rat) / (c:Rat):=e
 generalize (qd a c).num=x at *
 generalize ((qd a c).den:Int)=y at *
 have:(x:Rat)*(c:Rat)=(a:Rat)*(y:Rat):=by grind
 exact_mod_cast this
def Eb(p:List Int)(a:Int):Int:=p.getD a.toNat 0
theorem xj{p:List Int}(ex:IsEx b p){a:Int}(h0:0<=a)(h:a<b):0<=Eb p a/\Eb p a<b:=(t9 ex (show a.toNat<b.toNat by omega)).2
theorem Dm:∀(l r:List Int),l.Nodup->(∀x∈l,x∈r)->l.length<=r.length
 | [],r,_,_=>Gw _
 | x::l,r,nd,h=>by
   have hx:=h x FT
   obtain⟨n1,n2⟩:=Iw.mp nd
   have:=Dm l (r.erase x) n2 fun y my=>(Ls (a:=y) (b:=x) (fun z=>n1 (by rw[<- z];exact my))).mpr (h y (FP _ my))
   rw[Kr hx]at this
   have:=Jt hx
   simp only[Gp]
   omega
theorem wJ{p:List Int}(ex:IsEx b p){f:Int}(h0:0<=f)(h:f<b):f∈p:=by
 by_cases m:f∈p
 · exact m
 · have:=Dm (f::p) (jy 0 b.toNat) (Iw.mpr ⟨m,ex.nd⟩) fun x mx=>by
     rw[qj]
     rcases Gh.mp mx with rfl|mx
     · omega
     · have:=ex.rng x mx;omega
   rw[bP,Gp,ex.len]at this
   omega
theorem zd{p:List Int}(ex:IsEx b p){f:Int}(h0:0<=f)(h:f<b):0<=ix p f/\ix p f<b:=by
 have:=List.idxOf_lt_length_of_mem (wJ ex h0 h)
 rw[ex.len]at this
 unfold ix
 omega
def yp(b:Int)(p:List Int)(n:Int):Rat:=fv b ((Ee b n).map (Eb p))
theorem xi{p:List Int}(ex:IsEx b p)(f:Fm b ds):Fm b (ds.map (Eb p)):=by
 intro d m
 obtain⟨a,ma,rfl⟩:=GJ.mp m
 exact xj ex (f a ma).1 (f a ma).2
theorem rq{p:List Int}(ex:IsEx b p)(f:Fm b ds):Fm b (ds.map (ix p)):=by
 intro d m
 obtain⟨a,ma,rfl⟩:=GJ.mp m
 exact zd ex (f a ma).1 (f a ma).2
theorem tL{b:Int}(hb:2<=b):∀es:List Int,Fm b es->0<=nv b es
 | [],_=>JV _
 | e::es,f=>by
   have h1:=tL hb es fun x m=>f x (FP _ m)
   have h2:=(f e FT).1
   have:=HB (show 0<=b by omega) h1
   rw[nv];omega
theorem wG(hb:2<=b)(es:List Int)(f:Fm b es):nv b es<b^es.length:=by
 have:=(mQ hb es.reverse fun d m=>f d (KP.mp m)).2
 rwa [mP,Jf]at this
theorem ux{p:List Int}{v:Int}(hb:2<=b)(ex:IsEx b p)(hx:Xp b q.num q.den ds)(h:qN b p q=some v):0<=v/\v<b^ds.length:=by
 rw[uw hb ex hx]at h
 cases h
 have f:=rq ex hx.1
 have:=wG hb _ f
 rw[FR]at this
 exact⟨tL hb _ f,this⟩
theorem zC(b:Int):Ee b 0=[]:=by unfold Ee;rw[show(0:Int).toNat=0 from rfl,dn];rfl
def Fx(b:Int)(N:Nat)(q:Rat):Prop:=∃(T:Int)(k:Nat),q=qd T (b^k)/\0<=T/\T<b^k/\b^k<2^N
theorem yL{a d:Int}(hb:0<b)(hd:0<d):qd a b*qd c d=qd (a*c) (b*d):=by
 have h1:=cr hb
 have h2:=cr hd
 unfold qd
 rw[Hm,Hm]
 grind
theorem Fx.lt{N:Nat}(hb:2<=b)(h:Fx b N q):q<1:=by
 obtain⟨T,k,rfl,h0,h1,_⟩:=h
 exact qY (Ib (by omega)) h1
theorem oZ{x:Int}{N:Nat}(h0:0<=x)(h:x<2^N):x.natAbs<2^N:=by
 have:((x.natAbs:Nat):Int)<((2^N:Nat):Int):=by rw[Lu h0];exact_mod_cast h
 exact_mod_cast this
theorem Fx.sm{N:Nat}(hb:2<=b)(h:Fx b N q):Df N q:=by
 obtain⟨T,k,rfl,h0,h1,h2⟩:=h
 have hp:0<b^k:=Ib (by omega)
 exact i9 hp (oZ h0 (by omega)) (oZ (by omega) h2)
theorem Fx.mono{N M:Nat}(h:Fx b N q)(hm:N<=M):Fx b M q:=by
 obtain⟨T,k,e,h0,h1,h2⟩:=h
 exact⟨T,k,e,h0,h1,Int.lt_of_lt_of_le h2 (dz (by decide) hm)⟩
theorem jP{x y:Int}{N M:Nat}(x0:0<=x)(y0:0<y)(hx:x<2^N)(hy:y<2^M):x*y<2^(N+M):=by
 rw[Int.pow_add]
 have h1:x*y<2^N*y:=Ie hx y0
 have h2:(2:Int)^N*y<=2^N*2^M:=G0 (by omega) (Lx (by decide))
 omega
theorem Fx.turn{p:List Int}{n:Int}(hb:2<=b)(h16:b<=16)(ex:IsEx b p)(h0:0<=n)(h1:n<=10^9+1):Fx b 40 (yp b p n):=by
 have f:=xi ex (oB hb n)
 obtain⟨t0,t1⟩:=mQ hb _ f
 refine⟨_,_,(vh hb _).symm,t0,t1,?_⟩
 rw[FR]
 by_cases hn:0<n
 · have h:=qE (b:=b.toNat) (by omega) n.toNat (by omega)
   unfold Ee
   rw[FR]
   have h':((b.toNat^(digs b.toNat n.toNat).length:Nat):Int)<=((b.toNat*n.toNat:Nat):Int):=by exact_mod_cast h
   rw[Int.natCast_pow,JZ,Ig (by omega),Ig (by omega)]at h'
   have h3:b*n<=16*n:=Gu h16 h0
   omega
 · have:n=0:=by omega
   subst this
   rw[zC,IK,Mj];decide
theorem Fx.xp{N:Nat}(hb:2<=b)(h:Fx b N q):∃ds,Xp b q.num q.den ds/\b^ds.length<2^N:=by
 obtain⟨T,k,rfl,h0,h1,h2⟩:=h
 have hp:0<b^k:=Ib (by omega)
 refine⟨_,wu hb h0 h1 (pK hp).symm,?_⟩
 rw[Jf,jM hb h0 h1]
 exact h2
theorem Fx.back{p:List Int}{N:Nat}(hb:2<=b)(ex:IsEx b p)(h:Fx b N q)(hN:N<=1000):∀v,qN b p q=some v->v.natAbs<2^1000:=by
 intro v e
 obtain⟨ds,hx,hl⟩:=h.xp hb
 obtain⟨v0,v1⟩:=ux hb ex hx e
 exact FN (oZ v0 (Int.lt_trans v1 hl)) (FX (by decide) hN)
theorem eqv_fr(a b:Rat):Hi (fr a) (fr b)=decide (a=b):=by
 unfold fr
 simp only[Hi,FH.eqvAll]
 by_cases h:a=b
 · subst h;simp[Hi]
 · have:¬(a.num=b.num/\a.den=b.den):=fun z=>h (Rat.ext z.1 z.2)
   simp only[h,decide_false,Bool.and_true,Hi]
   rw[Bool.and_eq_false_iff]
   by_cases h1:a.num=b.num
   · right
     have:a.den≠b.den:=fun z=>this ⟨h1,z⟩
     simp;omega
   · left;simpa using h1
theorem m_(q:Rat):GC (fr q)=true:=by
 simp[GC,fr,GY,GE,GR,Go]
def q9:Rat:=⟨999999999998,999999999999,by decide,by decide⟩
def Sd.ends:Sd->List Rat
 | .to t=>[t] | .from a b=>[a,b] | .round a b=>[a,b]
theorem oA{α:Type}(p:α->Bool)(f:α->FH):∀xs:List α,(xs.filterMap fun x=>if p x=true then some (f x)else none)=(xs.filter p).map f
 | []=>rfl
 | x::xs=>by
   have ih:=oA p f xs
   cases h:p x<;>simp[h,ih]
def Ch(b:Int)(p:List Int)(k c:Int):Int:=nv b ((Dn b c k.toNat).reverse.map (ix p))
theorem uJ{p:List Int}{k:Int}(hb:2<=b)(ex:IsEx b p)(h0:0<=c)(h1:c<b^k.toNat):0<=Ch b p k c/\Ch b p k c<b^k.toNat:=by
 have f:=rq ex (fun d m=>nK (c:=c) (k:=k.toNat) hb d (KP.mp m))
 have:=wG hb _ f
 rw[FR,Jf,jM hb h0 h1]at this
 exact⟨tL hb _ f,this⟩
theorem jQ{M s y:Int}(c:GF M s=1):M*s∣y↔M∣y/\s∣y:=by
 constructor
 · intro h;exact⟨L7 (Jz M s) h,L7 (Int.dvd_mul_left M s) h⟩
 · rintro⟨h1,h2⟩
   have:=LL.mul_dvd_of_dvd_of_dvd (show LL M.natAbs s.natAbs from c) (JE.mpr h1) (JE.mpr h2)
   exact JE.mp (by rwa [Ja])
theorem qC{n s w:Int}(w0:0<=w)(w1:w<s):s∣n-w↔n%s=w:=by
 rw[Int.dvd_iff_emod_eq_zero,<- Int.emod_eq_emod_iff_emod_sub_eq_zero,Int.emod_eq_of_lt w0 w1]
theorem qG{M s r w h:Int}(hM:0<M)(hs:0<s)(c:GF M s=1)(r0:0<=r)(r1:r<M)(w0:0<=w)(w1:w<s)(hh:s∣M*h-1) :
 0<=r+M*((w-r)*h%s)/\r+M*((w-r)*h%s)<M*s/\∀n,M*s∣n-(r+M*((w-r)*h%s))↔M∣n-r/\n%s=w:=by
 have x0:0<=(w-r)*h%s:=Lg _ (by omega)
 have x1:(w-r)*h%s<s:=Ke _ hs
 have dx:s∣(w-r)*h-(w-r)*h%s:=Int.dvd_self_sub_emod
 generalize (w-r)*h%s=x at *
 have m0:0<=M*x:=HB (by omega) x0
 have m1:M*x<=M*(s-1):=G0 (by omega) (by omega)
 have m2:M*(s-1)=M*s-M:=by rw[Int.mul_sub,Int.mul_one]
 have dw:s∣r+M*x-w:=by
  obtain⟨u,hu⟩:=dx
  obtain⟨v,hv⟩:=hh
  refine⟨(w-r)*v-M*u,?_⟩
  have hx:x=(w-r)*h-s*u:=by omega
  have hMh:M*h=1+s*v:=by omega
  have:M*x=(w-r)*(M*h)-M*s*u:=by rw[hx];grind
  rw[hMh]at this
  rw[this];grind
 refine⟨by omega,by omega,fun n=>?_⟩
 rw[jQ c,<- qC w0 w1]
 constructor
 · rintro⟨a1,a2⟩
   refine⟨?_,?_⟩
   · have:=Int.dvd_add a1 (Jz M x)
     rwa [show n-(r+M*x)+M*x=n-r by omega]at this
   · have:=Int.dvd_add a2 dw
     rwa [show n-(r+M*x)+(r+M*x-w)=n-w by omega]at this
 · rintro⟨a1,a2⟩
   refine⟨?_,?_⟩
   · have:=Int.dvd_sub a1 (Jz M x)
     rwa [show n-r-M*x=n-(r+M*x) by omega]at this
   · have:=Int.dvd_sub a2 dw
     rwa [show n-w-(r+M*x-w)=n-(r+M*x) by omega]at this
structure Iv (a m f h r d:Int):Prop where
 r0:0<r
 d0:0<d
 c:GF r d=1
 hh:m∣a*h-r
 hf:m∣a*f-d
 sg:(0<=h/\f<=0/\h*d-f*r=m)\/(h<=0/\0<=f/\f*r-h*d=m)
theorem Iv.start{a m:Int}(ha:0<a)(hm:0<m)(c:GF a m=1):Iv a m 0 1 a m:=⟨ha,hm,c,by simp,by simp,.inl ⟨by decide,by decide,by omega⟩⟩
theorem Iv.step{a m f h r d:Int}(i:Iv a m f h r d)(r1:1<r):Iv a m h (f-d / r*h) (d-d / r*r) r/\(d-d / r*r).toNat<r.toNat:=by
 obtain⟨r0,d0,c,hh,hf,sg⟩:=i
 have e:d-d / r*r=d%r:=by rw[Int.emod_def,Kd]
 have m0:=Lg d (show r≠0 by omega)
 have m1:=Ke d r0
 have q0:0<=d / r:=Int.ediv_nonneg (by omega) (by omega)
 have c':GF (d%r) r=1:=by
  rw[Kb,<- Int.fmod_eq_emod_of_nonneg d (show 0<=r by omega),ip,Kb]
  exact c
 have nz:d%r≠0:=fun z=>by
  rw[z,Int.gcd_zero_left]at c'
  omega
 rw[e]
 have ed:d=d%r+d / r*r:=by omega
 refine⟨⟨by omega,r0,c',?_,hh,?_⟩,by omega⟩
 · obtain⟨u,hu⟩:=hh
   obtain⟨v,hv⟩:=hf
   refine⟨v-d / r*u,?_⟩
   rw[<- e]
   generalize d / r=q at *
   grind
 · rw[<- e]
   generalize d / r=q at *
   rcases sg with⟨a1,a2,a3⟩|⟨a1,a2,a3⟩
   · right
     have:=HB q0 a1
     exact⟨by omega,a1,by grind⟩
   · left
     have:=HB q0 (show 0 <= -h by omega)
     rw[Int.mul_neg]at this
     exact⟨by omega,a1,by grind⟩
abbrev Pc:=(Int×List Int)×(Int×Int)
def CW(z:Pc):Int:=z.1.1^z.2.1.toNat
def wz(z:Pc):Int:=Ch z.1.1 z.1.2 z.2.1 z.2.2
def v7(zs:List Pc):Int:=zs.foldl (fun t z=>t*CW z) 1
structure PcOk (z:Pc):Prop where
 b2:2<=z.1.1
 b16:z.1.1<=16
 ex:IsEx z.1.1 z.1.2
 k0:0<=z.2.1
 k8:z.2.1<=8
 c0:0<=z.2.2
 c1:z.2.2<z.1.1^z.2.1.toNat
theorem PcOk.st{z:Pc}(h:PcOk z):0<CW z/\CW z<=2^32:=by
 refine⟨Ib (by have:=h.b2;omega),?_⟩
 have h1:CW z<=16^z.2.1.toNat:=kO (by have:=h.b2;omega) h.b16 _
 have h2:(16:Int)^z.2.1.toNat<=16^8:=dz (by decide) (by have:=h.k8;omega)
 have h3:(16:Int)^8=2^32:=by decide
 omega
theorem PcOk.w{z:Pc}(h:PcOk z):0<=wz z/\wz z<CW z:=uJ h.b2 h.ex h.c0 h.c1
structure Ixs (zs:List Pc) (r M:Int):Prop where
 r0:0<=r
 r1:r<M
 M1:M=v7 zs
 Mb:M<=2^(32*zs.length)
 iff:∀n,M∣n-r↔∀z∈zs,n%CW z=wz z
theorem Ixs.nil:Ixs [] 0 1:=⟨by decide,by decide,rfl,by decide,fun n=>by simp⟩
theorem oq{a:Int}(h:GF a b=1)(k:Nat):GF a (b^k)=1:=by
 have:LL a.natAbs (b.natAbs^k):=LL.pow_right k h
 rw[GF,Int.natAbs_pow];exact this
theorem Ixs.step{zs:List Pc}{r M h:Int}{z:Pc}(i:Ixs zs r M)(ok:PcOk z)(c:GF M (CW z)=1)(hh:CW z∣M*h-1):Ixs (zs++[z]) (r+M*((wz z-r)*h%CW z)) (M*CW z):=by
 obtain⟨s0,s1⟩:=ok.st
 obtain⟨w0,w1⟩:=ok.w
 have M0:0<M:=by have:=i.r0;have:=i.r1;omega
 obtain⟨a0,a1,a2⟩:=qG M0 s0 c i.r0 i.r1 w0 w1 hh
 refine⟨a0,a1,by rw[i.M1];simp[v7],?_,fun n=>?_⟩
 · rw[Gg,HV,Nat.mul_add,Int.pow_add]
   exact I_ i.Mb s1 (by omega) (Lx (by decide))
 · rw[a2 n,i.iff n]
   simp only[Gv,Gq]
   constructor
   · rintro⟨p,q⟩ y (hy|rfl)
     · exact p y hy
     · exact q
   · intro p
     exact⟨fun y hy=>p y (.inl hy),p z (.inr rfl)⟩
theorem Ixs.uniq{zs:List Pc}{r M r' M':Int}(i:Ixs zs r M)(j:Ixs zs r' M'):r=r'/\M=M':=by
 have e:M=M':=by rw[i.M1,j.M1]
 subst e
 refine⟨?_,rfl⟩
 have h:M∣r'-r:=(i.iff r').mpr ((j.iff r').mp (by simp))
 obtain⟨u,hu⟩:=h
 have:=i.r0;have:=i.r1;have:=j.r0;have:=j.r1
 have:u=0:=by
  rcases Int.lt_trichotomy u 0 with z|z|z
  · have:M*u<=M*(-1):=G0 (by omega) (by omega)
    omega
  · exact z
  · have:M*1<=M*u:=G0 (by omega) (by omega)
    omega
 subst this
 omega
def xB(rows:List (Int×List Int))(sm:List (Int×Int)):Prop:=IsRow rows/\sm.length=rows.length/\∀z∈rows.zip sm,PcOk z
theorem xB.len{rows:List (Int×List Int)}{sm:List (Int×Int)}(h:xB rows sm):(rows.zip sm).length=rows.length:=by rw[List.length_zip,h.2.1,Nat.min_self]
theorem xB.co{rows:List (Int×List Int)}{sm:List (Int×Int)}(h:xB rows sm){i:Nat}(hi:i<(rows.zip sm).length):∀z∈(rows.zip sm).take i,GF (CW z) (CW (rows.zip sm)[i])=1:=by
 intro z mz
 obtain⟨j,hj,e⟩:=List.mem_iff_getElem.mp mz
 rw[GG]at hj
 rw[Ks]at e
 have lr:=h.len
 have p:=List.pairwise_iff_getElem.mp h.1.co j i (by omega) (by omega) (by omega)
 subst e
 unfold CW
 rw[List.getElem_zip,List.getElem_zip]
 have:=oq p (sm[i]'(by have:=h.2.1;omega)).1.toNat
 rw[Kb]at this
 have:=oq this (sm[j]'(by have:=h.2.1;omega)).1.toNat
 rw[Kb]
 exact this
noncomputable def tf(p:Prop):Bool:=@decide p (Classical.propDecidable p)
noncomputable def ze(b:Int)(d:FH):Bool:=tf (∃p,d=Ec p/\IsEx b p)
noncomputable def xA(bs:List Int):Bool:=tf (bs.Pairwise fun x y=>GF x y=1)
theorem lw:∀{xs:List FH}{x:FH},x∈xs->x.bulk<=HQ xs
 | y::ys,x,h=>by
   simp only[HQ]
   rcases Gh.mp h with rfl|h
   · omega
   · have:=lw h;omega
theorem jk:∀{xs:List FH}{x:FH},x∈xs->x.depth<=Go xs
 | y::ys,x,h=>by
   simp only[Go]
   rcases Gh.mp h with rfl|h
   · omega
   · have:=jk h;omega
theorem kU:∀{xs:List FH}{x:FH},eT xs->x∈xs->uD x
 | y::ys,x,h,hx=>by
   rcases Gh.mp hx with rfl|hx
   · exact h.1
   · exact kU h.2 hx
theorem EL.mem{x:FH}(h:EL (.tuple xs))(hx:x∈xs):EL x:=by
 obtain⟨a,b,c⟩:=h
 have h1:=lw hx
 have h2:=jk hx
 simp only[GR]at b
 simp only[IL]at c
 exact⟨kU a hx,by omega,by omega⟩
theorem Sm.i{i:Int}(h:i.natAbs<2^1000):Sm 0 3 (.int i):=(Sm.int h).mono (by decide) (by decide)
theorem Sm.i2{i:Int}(h:i.natAbs<2^1000):Sm 2 68 (.int i):=(Sm.int h).mono (by decide) (by decide)
theorem sB{p:List Int}(h:∀x∈p,0<=x/\x<100):∀d∈p.map GA,Sm 0 3 d:=fun d hd=>by
 obtain⟨i,hi,rfl⟩:=GJ.mp hd
 have:=h i hi
 exact .i (FN (show i.natAbs<2^7 by omega) (FX (by decide) (by decide)))
theorem IsEx.sm{p:List Int}(h:IsEx b p)(hb:b<=16):∀d∈p.map GA,Sm 0 3 d:=sB fun x hx=>by have:=h.rng x hx;omega
theorem GlK.int{K:W.Frag}{x:Str}{a:Int}{t:Tok}(h1:W.nsIn K GQ x=some (some (.int a t))):GlK K x (.int a):=⟨.int a,.int a t,h1,⟨t,rfl⟩,fun F=>.int a⟩
def zz:List W->(FH->Prop)->Prop:=fun ws Q=>∃b d,ws=[.d (.int b),.d d]/\2<=b/\b<=16/\EL d/\Q (.bool (ze b d))
theorem zz.mono:∀ws (Q Q':FH->Prop),(∀d,Q d->Q' d)->zz ws Q->zz ws Q':=fun _ _ _ h ⟨b,d,e,x,y,z,q⟩=>⟨b,d,e,x,y,z,h _ q⟩
theorem zz.len:∀ws (Q:FH->Prop),zz ws Q->ws.length=2:=fun _ _ ⟨_,_,e,_⟩=>by subst e;rfl
def Ew:List W->(FH->Prop)->Prop:=fun ws Q=>∃bs:List Int,ws=[.d (.list (bs.map .int))]/\bs.length<=4/\(∀b∈bs,2<=b/\b<=16)/\Q (.bool (xA bs))
theorem Ew.mono:∀ws (Q Q':FH->Prop),(∀d,Q d->Q' d)->Ew ws Q->Ew ws Q':=fun _ _ _ h ⟨b,e,x,y,q⟩=>⟨b,e,x,y,h _ q⟩
theorem Ew.len:∀ws (Q:FH->Prop),Ew ws Q->ws.length=1:=fun _ _ ⟨_,e,_⟩=>by subst e;rfl
def Ej:List W->(FH->Prop)->Prop:=fun ws Q=>∃b p,ws=[.reel,.d (.tuple [.int b,Ec p])]/\2<=b/\b<=16/\IsEx b p/\∀d,Sm 4 276 d->Q d
theorem Ej.mono:∀ws (Q Q':FH->Prop),(∀d,Q d->Q' d)->Ej ws Q->Ej ws Q':=fun _ _ _ h ⟨b,p,e,x,y,z,q⟩=>⟨b,p,e,x,y,z,fun d hd=>h _ (q d hd)⟩
theorem Ej.len:∀ws (Q:FH->Prop),Ej ws Q->ws.length=2:=fun _ _ ⟨_,_,e,_⟩=>by subst e;rfl
def Em:List W->(FH->Prop)->Prop:=fun ws Q=>∃rows,ws=[.reel,.d (xM rows)]/\IsRow rows/\∀d,Sm 8 2600 d->Q d
theorem Em.mono:∀ws (Q Q':FH->Prop),(∀d,Q d->Q' d)->Em ws Q->Em ws Q':=fun _ _ _ h ⟨p,e,x,q⟩=>⟨p,e,x,fun d hd=>h _ (q d hd)⟩
theorem Em.len:∀ws (Q:FH->Prop),Em ws Q->ws.length=2:=fun _ _ ⟨_,e,_⟩=>by subst e;rfl
def Tm(n:Nat)(d:FH):Prop:=d.canLay0=true/\d.depth<=n
theorem mU{n:Nat}:∀{xs:List FH},(∀x∈xs,Tm n x)->GE xs=true/\Go xs<=n
 | [],_=>⟨rfl,by simp[Go]⟩
 | x::xs,h=>by
   obtain⟨a,b⟩:=mU fun y m=>h y (FP x m)
   obtain⟨c,d⟩:=h x FT
   simp[GE,Go,a,c]
   omega
theorem Tm.tup{n:Nat}{xs:List FH}(h:∀x∈xs,Tm n x):Tm (n+1) (.tuple xs):=by
 obtain⟨a,b⟩:=mU h
 exact⟨by simp[GY,a],by simp[GR];omega⟩
theorem Tm.lst{n:Nat}{xs:List FH}(h:∀x∈xs,Tm n x):Tm (n+1) (.list xs):=by
 obtain⟨a,b⟩:=mU h
 exact⟨by simp[GY,a],by simp[GR];omega⟩
theorem Tm.int(i:Int):Tm n (.int i):=⟨by simp[GY],by simp[GR]⟩
theorem Tm.bool(i:Bool):Tm n (.bool i):=⟨by simp[GY],by simp[GR]⟩
theorem Tm.none:Tm n .none:=⟨by simp[GY],by simp[GR]⟩
theorem Tm.mono(h:Tm n d)(hm:n<=m):Tm m d:=⟨h.1,GI h.2 hm⟩
theorem Tm.shaped(h:Tm n d)(hn:n<=50):GC d=true:=by
 obtain⟨a,b⟩:=h
 simp[GC,a]
 omega
end L2.VL
namespace L2
theorem lT{prog:Gi}{w:G5}{R:Mr->FO->Prop}{kx vx target:Expr}{it:Value}{D:Addr}{env:Env}(I:Nat->FO->Prop)
 (turn:∀n s,I n s->Gb (Gn prog w) A (Ki it) (fun r s₁=>(r=none/\R (.ok .next) s₁)\/∃v,r=some v /\
  Gb (Gn prog w) A (HU target it v) (fun _ s₂=>Gb (Gn prog w) A (IS target env v) (fun _ s₃=>Gb (Gn prog w) A (dL ifs env) (fun ok s₄ =>
   if ok=true then Gb (Gn prog w) A (eval kx env) (fun x s₅=>Gb (Gn prog w) A (eval vx env) (fun y s₆=>Gb (Gn prog w) A (dictSet D x y) (fun _ s₇=>∃m,m<n/\I m s₇) (fun _ _=>False) s₆) (fun _ _=>False) s₅) (fun _ _=>False) s₄
   else ∃m,m<n/\I m s₄) (fun _ _=>False) s₃) (fun _ _=>False) s₂) (fun _ _=>False) s₁) (fun _ _=>False) s)
 (n:Nat)(h:I n s):HY (Gn prog w) A (.compLoop (.DictComp kx vx [⟨target,iter,ifs,0⟩] scope pos) 0 it (.ref D) env) R s:=by
 refine K7 rfl I (fun n s hI=>?_) n h
 show Gb _ A ((L1 (.DictComp kx vx [⟨target,iter,ifs,0⟩] scope pos) 0 it (.ref D) env).onRaise (fun x=>do L3 x env;JQ x)) _ _ s
 refine LG ?_
 rw[compTurn_dict]
 refine FI (HD (FI (Gr (turn n s hI) (fun r s₁ h₁=>?_) fun _ _ h'=>h'.elim)))
 rcases h₁ with⟨rfl,h₁⟩|⟨v,rfl,h₁⟩
 · exact FS h₁
 · refine FI (Gr h₁ (fun _ s₂ h₂=>FI (Gr h₂ (fun _ s₃ h₃=>FI (Gr h₃ (fun ok s₄ h₄=>?_) fun _ _ z=>z.elim)) fun _ _ z=>z.elim)) fun _ _ z=>z.elim)
   cases ok with
   | false=>exact FS ⟨rfl,h₄⟩
   | true=>exact FI (FI (Gr h₄ (fun x s₅ h₅=>FI (IC (Gr h₅ (fun y s₆ h₆=>FI (HD (IC (Gr h₆ (fun _ s₇ h₇=>FS ⟨rfl,h₇⟩) fun _ _ z=>z.elim)))) fun _ _ z=>z.elim))) fun _ _ z=>z.elim))
def mW(wi:TI)(fr:List (Option Nat))(g:CompA->TG)(tt:CompA->TT)(tk te:CompA->TE):TE:=fun σ H Q=>wi σ H fun J H1=>∀D,H1 D=none->∃Wv:Nat->Nat->List (E7×V)->St->Hp->Prop,(∃m,Wv 0 m [] (jX fr σ) (Cs H1 D (.dK []))) /\
 ∀ (z:CompA) i m acc σc H,Wv i m acc σc H->(J.stop i H/\Q (.ref D) H)\/(J.go i H/\∀x H',J.yld i H x H'->g z x σc H' fun σ2 H2=>tt z σ2 H2 fun b H3 =>
   if b=true then tk z σ2 H3 fun ky H4=>te z σ2 H4 fun y H5=>∃k:E7,ky=kV k/\H5 D=some (.dK acc)/\acc.length<sizeLine/\∃m',m'<m/\Wv (i+1) m' (dN acc k y) σ2 (Cs H5 D (.dK (dN acc k y)))else ∃m',m'<m/\Wv (i+1) m' acc σ2 H3)
theorem gf{kx vx:Expr}{g:TG}{tt:TT}{tk te:TE}{H3:Hp}{s3:FO}{D:Addr}{J:It}{Q:VK}
 {cl:List (Str×Addr)}(N':List Str)(fr:List (Option Nat))(hc:X.calm=true)(hkind:scope.kind = .function)(hcell:∀y∈scope.names,y.2 = .cell->scope.names.lookup y.1=some .cell)
 (hfree:∀y∈scope.names,y.2 = .free->X.env.kindOf y.1=some .cell\/X.env.kindOf y.1=some .free)(frl:fr.length=N'.length)
 (frg:∀(i j:Nat),fr[i]?=some (some j)->∃x,N'[i]?=some x/\X.N[j]?=some x/\scope.names.lookup x=some .free/\(X.env.scope.names.lookup x=some .cell\/X.env.scope.names.lookup x=some .free))
 (cl1:∀x c,cl.lookup x=some c->X.env.cells.lookup x=some c)(cl2:∀x,(x,G4)∈scope.names->(cl.lookup x).isSome=true)
 (I3:Inv X pins σ H3 s3)(T:Turn X.prog X.w X.K tg J fp it tn)(tn3:tn 0 s3.heap)(fpD:∀b∈fp,H3 b=none)(fp3:∀b∈fp,b<s3.heap.objs.size)
 (fpk:∀b∈fp,b≠X.env.locals/\b∉X.fs/\(b∈X.ex\/X.s₀.heap.objs.size<=b)/\(∀x c,X.env.cells.lookup x=some c->c≠b)/\∀p∈X.pn++pins,p.1≠b)
 (hg:PG (aX X N' scope cl fp (X.pn++pins) s3 H3) tg g)(ht:ER (aX X N' scope cl fp (X.pn++pins) s3 H3) ifs tt)(hk:PE (aX X N' scope cl fp (X.pn++pins) s3 H3) kx tk)(he:PE (aX X N' scope cl fp (X.pn++pins) s3 H3) vx te)
 {Wv:Nat->Nat->List (E7×V)->St->Hp->Prop}{m0:Nat}(w0:Wv 0 m0 [] (jX fr σ) H3)
 (turn:∀i m acc σc H,Wv i m acc σc H->(J.stop i H/\Q (.ref D) H)\/(J.go i H/\∀x H',J.yld i H x H'->g x σc H' fun σ2 H2=>tt σ2 H2 fun b H3 =>
  if b=true then tk σ2 H3 fun ky H4=>te σ2 H4 fun y H5=>∃k:E7,ky=kV k/\H5 D=some (.dK acc)/\acc.length<sizeLine/\∃m',m'<m/\Wv (i+1) m' (dN acc k y) σ2 (Cs H5 D (.dK (dN acc k y)))else ∃m',m'<m/\Wv (i+1) m' acc σ2 H3))
 (fin:∀s5 H4 m,s5.heap.Ns s3.heap.objs.size m->(∀h',Ij s3.heap.objs.size s5.heap h'->Inv X pins σ H4 {s5 with heap:=h' })->iF X pins H4 s3.heap.objs.size->Q (.ref D) H4->Rp s3.heap.objs.size (.ok .next) s5) :
 Gb (Gn X.prog X.w) X.A (JA scope X.env.globals cl [] X.env.qual none .none (some X.env)) (fun cenv s₄ =>
  HY (Gn X.prog X.w) X.A (.compStart (.DictComp kx vx [⟨tg,iter,ifs,0⟩] scope pos) 0 (.ref it) (.ref D) {cenv with scope:=ME scope X.env})
   (Rp cenv.locals) s₄) X.xe s3:=by
 refine fS ?_
 have ok:=cellsFrom_ok scope.names (s3.heap.push {cls:=.type "dict", data:=.dict #[]}) (s3.heap.objs.size+1) [] ⟨fun _ _ hm=>(nomatch hm),Km⟩ (by rw[Ho];exact FQ _)
 rw[Ho]at ok
 have kp:∀b o,s3.heap.get? b=some o->(Kn (s3.heap.push {cls:=.type "dict", data:=.dict #[]}) scope.names).get? b=some o:=fun b o e=>JR _ _ b o (FM _ e)
 have hns₁:(Kn (s3.heap.push {cls:=.type "dict", data:=.dict #[]}) scope.names).Ns s3.heap.objs.size (fun _=>none):=(Heap.Ns.new s3.heap (.type "dict")).keeps (JR _ _)
 generalize Kn (s3.heap.push {cls:=.type "dict", data:=.dict #[]}) scope.names=h₁ at ok kp hns₁ ⊢
 have cs:∀x c,(G6 (s3.heap.objs.size+1) scope.names cl).lookup x=some c->(G6 (s3.heap.objs.size+1) scope.names []).lookup x=some c\/cl.lookup x=some c:=fun x c e=>by
  rw[aE,cw]at e
  cases q:(G6 (s3.heap.objs.size+1) scope.names []).lookup x with
  | none=>rw[q]at e;exact .inr (by simpa using e)
  | some c'=>rw[q]at e;exact .inl (by simpa using e)
 have own:∀x c,(G6 (s3.heap.objs.size+1) scope.names []).lookup x=some c->h₁.IsCell c none/\s3.heap.objs.size+1<=c:=fun x c e=>ok.empty x c (GK e)
 have clt:∀x c,cl.lookup x=some c->c<s3.heap.objs.size:=fun x c e=>by
  obtain⟨v,o,ho,_⟩:=I3.cell x c (cl1 x c e)
  exact FW ho
 have frn:∀x,scope.names.lookup x=some .free->(G6 (s3.heap.objs.size+1) scope.names []).lookup x=none:=fun x e=>by
  cases q:(G6 (s3.heap.objs.size+1) scope.names []).lookup x with
  | none=>rfl
  | some c =>
    have:=hcell (x,.cell) (cu (GK q)) rfl
    rw[e]at this
    cases this
 have notC:∀b o,s3.heap.get? b=some o->b≠s3.heap.objs.size:=fun b o e=>Gx (FW e)
 have fpstk:∀b∈fp,b∉frs X.stack:=fun b hb z=>(Gh.mp (I3.stkSub b z)).elim (fpk b hb).1 (fpk b hb).2.1
 have cellK:∀c v,s3.heap.IsCell c v->h₁.IsCell c v:=fun c v ⟨o,ho,hd⟩=>⟨o,kp c o ho,hd⟩
 have IY:Inv (aX X N' scope cl fp (X.pn++pins) s3 H3) [] (jX fr σ) H3 {s3 with heap:=h₁}:=by
  refine⟨⟨I3.ok.mod,hkind,I3.ok.glob,I3.ok.blt,FQ _,fun x y c e1 e2=>?_,fun x hx=>?_,fun x c _ e=>?_,I3.ok.hd,I3.ok.frames,.inl rfl,
   fun b hb=>⟨Gx (fp3 b hb),fun x c e=>?_⟩,I3.bs,GI I3.ok.bsz I3.sz,fun b o e hb=>?_,fun b hb=>fpstk b hb,I3.stack,I3.stkFree⟩,
   rfl,I3.bare,Un.kept kp,⟨_,hns₁,fun i x v e1 e2 e3=>?_⟩,fun x c e=>?_,I3.hok.fresh (FQ _),fun x c e=>?_,fun p hp=>?_,I3.hok.kept kp,?_⟩
  · rcases cs x c e1 with q1|q1<;>rcases cs y c e2 with q2|q2
    · exact Mg ok.apart (GK q1) (GK q2)
    · exact absurd (FN (clt y c q2) (Hu (own x c q1).2)) (GT _)
    · exact absurd (FN (clt x c q1) (Hu (own y c q2).2)) (GT _)
    · exact I3.ok.inj x y c (cl1 x c q1) (cl1 y c q2)
  · refine Hr.mp ?_
    show((G6 (s3.heap.objs.size+1) scope.names cl).lookup x).isSome=true
    rcases eW hx with q|q
    · exact W.cellsFrom_some _ _ _ (.inr (cl2 x q))
    · exact W.cellsFrom_some _ _ _ (.inl (hcell _ q rfl))
  · rename_i hfn
    rcases cs x c e with q|q
    · have:=(own x c q).2
      show s3.heap.objs.size<=c
      omega
    · have hfn:(scope.names.lookup x==some HP)=true:=hfn
      have hl:scope.names.lookup x=some .cell:=by simpa using hfn
      obtain⟨c',ec'⟩:=Hr.mp (W.cellsFrom_some scope.names (s3.heap.objs.size+1) [] (.inl hl))
      have e':(G6 (s3.heap.objs.size+1) scope.names cl).lookup x=some c:=e
      rw[aE,cw,ec']at e'
      simp at e'
      subst e'
      exact Hu (own x c' ec').2
  · rcases cs x c e with q|q
    · exact fun z=>absurd (FN (fp3 b hb) (Hu (by rw[<- z];exact(own x c q).2))) (GT _)
    · exact(fpk b hb).2.2.2.1 x c (cl1 x c q)
  · rcases(fpk b hb).2.2.1 with z|z
    · exact I3.ok.noex b o e z
    · exact absurd (FN (FW e) (GI I3.ok.bsz z)) (GT _)
  · have e2':(fr[i]?).map (fun o=>o.bind fun j=>(σ[j]?).join)=some (some v):=by unfold jX at e2;rw[G_]at e2;exact e2
    cases ef:fr[i]? with
    | none=>rw[ef]at e2';cases e2'
    | some o =>
      cases o with
      | none=>rw[ef]at e2';cases e2'
      | some j =>
        rw[ef]at e2'
        have e3':(σ[j]?).join=some v:=GS e2'
        have e4:σ[j]?=some (some v):=by
         cases q:σ[j]? with
         | none=>rw[q]at e3';cases e3'
         | some z=>rw[q]at e3';cases e3';rfl
        obtain⟨x',n1,n2,n3,n4⟩:=frg i j ef
        have ex:x'=x:=GS (n1.symm.trans e1)
        subst ex
        obtain⟨m,hn,hl⟩:=I3.loc
        obtain⟨u,ru,lk⟩:=hl j x' v n2 e4 (n4.elim (fun z=>.inr (.inl z)) fun z=>.inr (.inr z))
        refine⟨u,ru,?_⟩
        rcases lk with⟨kl,_⟩|⟨_,c,ec,hcl⟩
        · exact absurd (show X.env.scope.names.lookup x'=some .local from kl) (by rcases n4 with z|z<;>rw[z]<;>decide)
        · obtain⟨c',ec'⟩:=Hr.mp (cl2 x' (gN n3))
          have:=cl1 x' c' ec'
          rw[ec]at this
          cases this
          refine .inr ⟨df n3,c,?_,cellK _ _ hcl⟩
          show(G6 (s3.heap.objs.size+1) scope.names cl).lookup x'=some c
          rw[aE,cw,frn x' n3]
          simpa using ec'
  · rcases cs x c e with q|q
    · exact⟨_,(own x c q).1⟩
    · obtain⟨v,z⟩:=I3.cell x c (cl1 x c q)
      exact⟨v,cellK _ _ z⟩
  · rcases cs x c e with q|q
    · exact I3.hok.fresh (by have:=(own x c q).2;omega)
    · exact I3.freeC x c (cl1 x c q)
  · rw[Ht]at hp
    obtain⟨e,n,ne,nf,d⟩:=I3.pin p hp
    exact⟨kp _ _ e,n,notC _ _ e,fun z=>(Gh.mp (I3.stkSub p.1 z)).elim ne nf,d⟩
  · unfold jX
    rw[FR]
    exact frl
 have loop:HY (Gn X.prog X.w) X.A (.compLoop (.DictComp kx vx [⟨tg,iter,ifs,0⟩] scope pos) 0 (.ref it) (.ref D) {compEnvC scope cl s3.heap.objs.size X.env with cells:=G6 (s3.heap.objs.size+1) scope.names cl})
  (Rp s3.heap.objs.size) {s3 with heap:=h₁}:=by
  have stat:∀{H':Hp},(∀b∈fp,H' b=none)->∀b∈fp,iF (aX X N' scope cl fp (X.pn++pins) s3 H3) [] H' b:=fun hn b hb =>
   ⟨hn b hb,Gx (fp3 b hb),fpstk b hb,.inl hb,fun x c e=>(by
    rcases cs x c e with q|q
    · exact fun z=>absurd (FN (fp3 b hb) (Hu (by rw[<- z];exact(own x c q).2))) (GT _)
    · exact(fpk b hb).2.2.2.1 x c (cl1 x c q)),fun p hp=>by rw[Ht]at hp;exact(fpk b hb).2.2.2.2 p hp⟩
  refine lT (fun n s'=>∃i acc σ' H',Inv (aX X N' scope cl fp (X.pn++pins) s3 H3) [] σ' H' s'/\tn i s'.heap/\(∀b∈fp,H' b=none)/\Wv i n acc σ' H') ?_ m0
   ⟨0,[],_,_,IY,T.keep _ _ _ tn3 fun b _ o e=>kp b o e,fpD,w0⟩
  rintro n s4 ⟨i,acc,σ4,H4,I4,st4,fr4,w4⟩
  rcases turn i n acc σ4 H4 w4 with⟨stop,qn⟩|⟨go,step⟩
  · refine CF (T.done (aX X N' scope cl fp (X.pn++pins) s3 H3) rfl rfl rfl hc i [] s4 σ4 H4 (fun _ _=>False) I4 (stat fr4) st4 stop) fun r s5 ⟨hr,I5⟩=>.inl ⟨hr,?_⟩
    obtain⟨m,hn,_⟩:=I5.loc
    refine fin s5 H4 m hn (fun h' hs'=>?_) (I3.fpOk (FQ _) I5.free) qn
    have k':∀b o,b≠s3.heap.objs.size->s5.heap.get? b=some o->h'.get? b=some o:=fun b o nb e=>hs'.extBut b o nb e
    have u5:Un (frs X.stack) fp H3 H4 s3.heap s5.heap:=I5.base
    have un:Un (frs X.stack) fp H3 H4 s3.heap h' :=
     ⟨fun b o e n hb hx=>k' b o (notC b o e) (u5.keep b o e n hb hx),fun b o e n hb hx=>by obtain⟨sl,q⟩:=u5.slot b o e n hb hx;exact⟨sl,k' b _ (notC b o e) q⟩,u5.free,
      fun b o e hx=>by obtain⟨o',q⟩:=u5.there b o e hx;exact⟨o',k' b _ (notC b o e) q⟩,u5.tups,u5.frzs,u5.tbls⟩
    have nC:H4 s3.heap.objs.size=none:=I5.free
    have hok':Fj X.prog X.w H4 h':=fun b u e=>(I5.hok b u e).stay (fun c v hcv q=>k' c v (by
     rintro rfl
     rcases hcv with z|z
     · rw[<- z]at e;rw[nC]at e;cases e
     · rw[nC]at z;cases z) q) (fun _ q=>q) fun _ _ q=>q
    obtain⟨hh,g5,d5,t5,os5⟩:=s5
    have os':os5=s3.os:=I5.os
    subst os'
    have I':=Inv.call (s:=s3) (h':=h') (g':=g5) (d':=d5) (t':=t5) (ch:=fp) I3 un hok' I5.bare (fun b hb=>⟨(fpk b hb).2.2.1,(fpk b hb).1,(fpk b hb).2.2.2.1,(fpk b hb).2.2.2.2⟩)
    exact I'
  · refine CF (T.item (aX X N' scope cl fp (X.pn++pins) s3 H3) rfl rfl rfl hc i [] s4 σ4 H4 (fun _ _=>False) I4 (stat fr4) st4 go) fun r s5 ⟨u,hr,h5⟩=>.inr ⟨u,hr,?_⟩
    refine CF h5 fun _ s6 ⟨x,H6,I6,r6,y6,st6,fr6⟩=>?_
    have I6':=I6.pinned (stat fr6) (T.obj _ _ st6)
    have again:∀{σ7:St}{H7:Hp}{s7:FO},Inv (aX X N' scope cl fp (X.pn++pins) s3 H3) ([]++eX fp s6.heap) σ7 H7 s7->∀{acc':List (E7×V)}{m':Nat},m'<n->Wv (i+1) m' acc' σ7 H7 ->
     ∃m,m<n/\∃i acc σ' H',Inv (aX X N' scope cl fp (X.pn++pins) s3 H3) [] σ' H' s7/\tn i s7.heap/\(∀b∈fp,H' b=none)/\Wv i m acc σ' H':=fun{σ7 H7 s7} I7 {acc' m'} hm w7=>by
     refine⟨m',hm,i+1,acc',σ7,H7,I7.unpinned,T.keep _ _ _ st6 fun b hb o e=>(I7.pin (b,o) (FZ _ (FZ _ (bw hb e)))).1,fun b hb=>?_,w7⟩
     obtain⟨o,e,d⟩:=T.obj _ _ st6 b hb
     exact(I7.pin (b,o) (FZ _ (FZ _ (bw hb e)))).2.1
    refine CF (hg _ s6 σ4 H6 x u _ I6' r6 (step x H6 y6)) fun _ s7 ⟨σ7,H7,I7,q7⟩=>?_
    refine CF (ht _ s7 σ7 H7 _ I7 q7) fun ok s8 ⟨H8,I8,q8⟩=>?_
    cases ok with
    | false =>
      rw[if_neg Gs]at q8 ⊢
      obtain⟨m',hm,w8⟩:=q8
      exact again I8 hm w8
    | true =>
      rw[if_pos rfl]at q8 ⊢
      refine CF (hk _ s8 σ7 H8 _ I8 q8) fun ku s9 ⟨ky,H9,I9,rk,q9⟩=>?_
      refine CF (he _ s9 σ7 H9 _ I9 q9) fun y s10 ⟨yv,H10,I10,r10,k,ek,eD,hl,m',hm,w10⟩=>?_
      subst ek
      obtain⟨z,hd,vs,rel,dd⟩:=uh I10.hok eD
      have hz:vs.length<=sizeLine:=by rw[<- rel.length];exact z
      have hl2:(dN acc k yv).length<=sizeLine:=by have:=cO acc k yv;omega
      refine wpAny_dictSet_pairs (hsz:=hz) (n_ rk) dd fun h' dd' hs=>?_
      have hex:∃q,h'.get? D=some q:=let ⟨q,_,_,hq,_⟩:=dd';⟨q,hq⟩
      exact again (iB I10 (by rw[eD];exact JI) hs hex (dk_new hl2 hd (rel.put k r10) dd')) hm w10
 exact codeAny_compStart_dict loop (T.self X.A 0 _ _ _ (T.keep _ _ _ tn3 fun b _ o e=>kp b o e) loop)
section
variable{X:Cx}{kx vx tg iter:Expr}{ifs:List Expr}{scope:Scope}{pos:Pos}{wi:TI}{g:CompA->TG}{tt:CompA->TT}{tk te:CompA->TE}
theorem pS(N':List Str)(fr:List (Option Nat))(hc:X.calm=true)(hi:PI X tg iter wi)(hfr:lm fr N' X.N scope X.env.scope=true)(hsc:lI scope X.env.scope=true)
 (hg:∀y,PG (blk X N' scope y) tg (g y))(ht:∀y,ER (blk X N' scope y) ifs (tt y))(hk:∀y,PE (blk X N' scope y) kx (tk y))(he:∀y,PE (blk X N' scope y) vx (te y))
 (hs:∀x,Gj iter X.env x=pure x:=by intro _;rfl):PE X (.DictComp kx vx [⟨tg,iter,ifs,0⟩] scope pos) (mW wi fr g tt tk te):=by
 intro pins s σ H Q I h
 obtain⟨sk,sn⟩:=FV.mp hsc
 have hkind:scope.kind = .function:=of_decide_eq_true sk
 have hall:=HJ.mp sn
 have hcell:∀y∈scope.names,y.2 = .cell->scope.names.lookup y.1=some .cell:=fun y hy hl=>by
  rcases Gd.mp (FV.mp (FV.mp (hall y hy)).1).1 with z|z
  · exact absurd hl (of_decide_eq_true z)
  · exact of_decide_eq_true z
 have hnames:∀y∈scope.names,y.2 = .local->scope.names.lookup y.1=some .local:=fun y hy hl=>by
  rcases Gd.mp (FV.mp (FV.mp (hall y hy)).1).2 with z|z
  · exact absurd hl (of_decide_eq_true z)
  · exact of_decide_eq_true z
 have hfree:∀y∈scope.names,y.2 = .free->X.env.kindOf y.1=some .cell\/X.env.kindOf y.1=some .free:=fun y hy hl=>by
  rcases Gd.mp (FV.mp (hall y hy)).2 with z|z
  · exact absurd hl (of_decide_eq_true z)
  · exact(Gd.mp z).imp of_decide_eq_true of_decide_eq_true
 obtain⟨frl,frg⟩:=lm.get hfr
 obtain⟨cl,hclos,cl1,cl2⟩:=b_ (env:=X.env) (scope:=scope) fun y hy hl=>I.ok.has y.1 (hfree y hy hl)
 rw[arm_eval_DictComp]
 refine HF (use:=none) rfl hs hclos hkind hnames (CF (hi pins s σ H _ I h) fun v s1 h1=>CF h1 fun itv s2 h2=>?_)
 obtain⟨it,fp,tn,J,H2,e,I2,T,st2,f2,q2⟩:=h2
 subst e
 refine GP ?_
 have hD:H2 s2.heap.objs.size=none:=I2.hok.fresh (FQ _)
 have I3:Inv X pins σ (Cs H2 s2.heap.objs.size (.dK [])) {s2 with heap:=s2.heap.push {cls:=.type "dict", data:=.dict #[]}} :=
  I2.laid (t':=s2.toks) (fun b u e=>FM _ e) (FQ _) (iz s2.heap I2.big)
 obtain⟨Wv,⟨m0,w0⟩,turn⟩:=q2 _ hD
 have tn3:tn 0 (s2.heap.push {cls:=.type "dict", data:=.dict #[]}):=T.keep _ _ _ st2 fun b _ o e=>FM _ e
 have fpD:∀b∈fp,(Cs H2 s2.heap.objs.size (.dK [])) b=none:=fun b hb=>by
  obtain⟨o,e,_⟩:=T.obj _ _ st2 b hb
  rw[ar (Gx (FW e))]
  exact(f2 b hb).1
 have fp3:∀b∈fp,b<(s2.heap.push {cls:=.type "dict", data:=.dict #[]}).objs.size:=fun b hb=>by
  obtain⟨o,e,_⟩:=T.obj _ _ tn3 b hb
  exact FW e
 exact gf N' fr hc hkind hcell hfree frl frg cl1 cl2 I3 T tn3 fpD fp3 (fun b hb=>(f2 b hb).2) (hg ⟨cl,fp,X.pn++pins,_,_⟩) (ht ⟨cl,fp,X.pn++pins,_,_⟩) (hk ⟨cl,fp,X.pn++pins,_,_⟩) (he ⟨cl,fp,X.pn++pins,_,_⟩) w0 (turn ⟨cl,fp,X.pn++pins,_,_⟩)
  (Rp:=L4 (Gn X.prog X.w) X.A X.xe none (EP X pins σ Q) (.ref s2.heap.objs.size)) fun s5 H4 m hn k _ qn=>⟨m,hn,fun h' hs'=>⟨.ref _,H4,k h' hs',rfl,qn⟩⟩
theorem jK{b:Bool}{ix:Nat}(N':List Str)(fr:List (Option Nat))(hc:X.calm=true)(hi:PI X tg iter wi)(hfr:lm fr N' X.N scope X.env.scope=true)(hsc:lI scope X.env.scope=true)
 (hg:∀y,PG (blk X N' scope y) tg (g y))(ht:∀y,ER (blk X N' scope y) ifs (tt y))(hk:∀y,PE (blk X N' scope y) kx (tk y))(he:∀y,PE (blk X N' scope y) vx (te y))(hN:X.N.Nodup)(hix:X.N[ix]?=some x)(hx:Loc X.env.scope x)
 (hf:X.fn x=true\/X.env.scope.names.lookup x=some .local)(hsw:HS (.DictComp kx vx [⟨tg,iter,ifs,0⟩] scope pos) (some (.Name x px)) spos.line X.env=pure b)
 (hs:∀x,Gj iter X.env x=pure x):PS X (.Assign [.Name x px] (.DictComp kx vx [⟨tg,iter,ifs,0⟩] scope pos) spos) (vB (mW wi fr g tt tk te) (iq ix)):=by
 cases b with
 | false=>exact fN hN hix hx (pS N' fr hc hi hfr hsc hg ht hk he hs) hsw hf
 | true =>
 intro pins s σ H DD I h
 obtain⟨sk,sn⟩:=FV.mp hsc
 have hkind:scope.kind = .function:=of_decide_eq_true sk
 have hall:=HJ.mp sn
 have hcell:∀y∈scope.names,y.2 = .cell->scope.names.lookup y.1=some .cell:=fun y hy hl=>by
  rcases Gd.mp (FV.mp (FV.mp (hall y hy)).1).1 with z|z
  · exact absurd hl (of_decide_eq_true z)
  · exact of_decide_eq_true z
 have hnames:∀y∈scope.names,y.2 = .local->scope.names.lookup y.1=some .local:=fun y hy hl=>by
  rcases Gd.mp (FV.mp (FV.mp (hall y hy)).1).2 with z|z
  · exact absurd hl (of_decide_eq_true z)
  · exact of_decide_eq_true z
 have hfree:∀y∈scope.names,y.2 = .free->X.env.kindOf y.1=some .cell\/X.env.kindOf y.1=some .free:=fun y hy hl=>by
  rcases Gd.mp (FV.mp (hall y hy)).2 with z|z
  · exact absurd hl (of_decide_eq_true z)
  · exact(Gd.mp z).imp of_decide_eq_true of_decide_eq_true
 obtain⟨frl,frg⟩:=lm.get hfr
 obtain⟨cl,hclos,cl1,cl2⟩:=b_ (env:=X.env) (scope:=scope) fun y hy hl=>I.ok.has y.1 (hfree y hy hl)
 rw[JD _ _ _ _ hsw]
 refine FI (HD (FI ?_))
 show Gb _ X.A (do let _ <- L5 (.DictComp kx vx [⟨tg,iter,ifs,0⟩] scope pos) scope X.env _ newDict false (eval iter X.env) (some (IS (.Name x px) X.env))) _ _ s
 refine FI (Gr (HF (use:=some (IS (.Name x px) X.env)) (Q:=fun _ s'=>SP X pins DD .next s') rfl hs hclos hkind hnames
  (CF (hi pins s σ H _ I h) fun v s1 h1=>CF h1 fun itv s2 h2=>?_)) (fun _ s' hq=>FS (FS hq)) fun _ _ e=>e)
 obtain⟨it,fp,tn,J,H2,e,I2,T,st2,f2,q2⟩:=h2
 subst e
 refine GP ?_
 have hD:H2 s2.heap.objs.size=none:=I2.hok.fresh (FQ _)
 have I3:Inv X pins σ (Cs H2 s2.heap.objs.size (.dK [])) {s2 with heap:=s2.heap.push {cls:=.type "dict", data:=.dict #[]}} :=
  I2.laid (t':=s2.toks) (fun b u e=>FM _ e) (FQ _) (iz s2.heap I2.big)
 obtain⟨Wv,⟨m0,w0⟩,turn⟩:=q2 _ hD
 have tn3:tn 0 (s2.heap.push {cls:=.type "dict", data:=.dict #[]}):=T.keep _ _ _ st2 fun b _ o e=>FM _ e
 have fpD:∀b∈fp,(Cs H2 s2.heap.objs.size (.dK [])) b=none:=fun b hb=>by
  obtain⟨o,e,_⟩:=T.obj _ _ st2 b hb
  rw[ar (Gx (FW e))]
  exact(f2 b hb).1
 have fp3:∀b∈fp,b<(s2.heap.push {cls:=.type "dict", data:=.dict #[]}).objs.size:=fun b hb=>by
  obtain⟨o,e,_⟩:=T.obj _ _ tn3 b hb
  exact FW e
 refine gf (Q:=fun v H1=>iq ix v σ H1 DD.nx) N' fr hc hkind hcell hfree frl frg cl1 cl2 I3 T tn3 fpD fp3 (fun b hb=>(f2 b hb).2) (hg ⟨cl,fp,X.pn++pins,_,_⟩) (ht ⟨cl,fp,X.pn++pins,_,_⟩) (hk ⟨cl,fp,X.pn++pins,_,_⟩) (he ⟨cl,fp,X.pn++pins,_,_⟩) w0 (turn ⟨cl,fp,X.pn++pins,_,_⟩)
  (Rp:=L4 (Gn X.prog X.w) X.A X.xe (some (IS (.Name x px) X.env)) (fun _ s'=>SP X pins DD .next s') (.ref s2.heap.objs.size)) fun s5 H4 m hn k fpo qn=>?_
 show Gb _ X.A (IS (.Name x px) X.env (.ref s2.heap.objs.size)) _ _ s5
 have I5:Inv X pins σ H4 s5:=k s5.heap (Ko _ _)
 obtain⟨f0,f1,f2',f3,f4,f5⟩:=fpo
 refine Jv (dY I5 hN hix hx (v:=.ref s2.heap.objs.size) rfl (fun s6 I6 sb=>?_) hf)
 obtain⟨a,sb,ha⟩:=sb
 have hne:(s2.heap.push {cls:=.type "dict", data:=.dict #[]}).objs.size≠a:=by
  rcases ha with rfl|ha
  · exact f1
  · exact fun z=>f4 x a ha z.symm
 refine⟨m,hn.at' fun o e=>sb.extBut _ o hne e,fun h' hs'=>?_⟩
 exact⟨_,H4,I6.turned (t':=s6.toks) (fun b o hb e=>hs'.extBut b o hb e) f0 f1 f3 f4 f5,qn⟩
end
def cz:Option Int->List Int->Option Int
 | o,[]=>o
 | none,n::r=>cz (some n) r
 | some m,n::r=>cz (some (if n>m then n else m)) r
theorem oY(a d:Value):argsOk "max" ⟨[a],[(F0 "default", d)]⟩:=by unfold argsOk;kernel_rfl
section
variable{prog:Gi}{w:G5}{A:Hf}{E:Value->FO->Prop}
def xH(o:Option Int)(arr:Array Value):Prop:=match o with
 | none=>arr = #[]
 | some m=>∃t,arr = #[.int m t,.int m t]
theorem nS{R:Mr->FO->Prop}{I l S:Addr}{vs:List Value}{d:Value}(hh:A.handled=none)(hI:JN vs ns)(hl:l≠I)(hSI:S≠I)(hSl:S≠l) :
 ∀ (k j:Nat)(s:FO)(o:Option Int)(arr:Array Value)(c:Nat),vs.length-j=k->j<=vs.length->xH o arr->s.heap.IsListIter I l j->s.heap.IsList l vs.toArray ->
   s.heap.get? S=some {cls:=.type "list", dict:=none,data:=.seq arr c,slots:=#[]} ->
   (∀v h' tk,(cz o (ns.drop j)=none/\v=d\/∃m t,cz o (ns.drop j)=some m/\v = .int m t)->(∀b q,b≠I->b≠S->s.heap.get? b=some q->h'.get? b=some q)->R (.ok (.ret v)) {s with heap:=h',toks:=tk}) ->
   HY (Gn prog w) A (.builtin "max.loop" ⟨[.ref I,.none,.ref S],[(F0 "default", d)]⟩) R s:=by
 have hn:(toString "max" ++ toString ".loop" : String) = "max.loop" := by decide
 have W:=Walks.list (prog:=prog) (w:=w) (A:=A.in1) hh I l hl vs.toArray
 have hz:vs.toArray.size=vs.length:=Gk ..
 have len:vs.length=ns.length:=hI.length
 intro k
 induction k with
 | zero =>
   intro j s o arr c hk hj hb h1 h2 hS hR
   have ej:j=vs.length:=by omega
   subst ej
   have ed:ns.drop vs.length=[]:=by rw[len];exact HW
   rw[ed]at hR
   refine Jp (KY) ?_;rw[Ir HM _]
   show Gb _ A.in1 (Mv (.ref S) >>= _) _ _ s;refine FI (HR hS rfl ?_)
   show Gb _ A.in1 (tryCatch (Ki (.ref I)) _ >>= _) _ _ s;refine FI (Lz (W.done s _ _ (by rw[hz];exact⟨h1,h2⟩) fun h' tk kp=>?_))
   have kp':∀b q,b≠I->s.heap.get? b=some q->h'.get? b=some q:=fun b q n e=>kp b q (by simpa using n) e
   cases o with
   | none =>
     cases(show arr = #[]from hb)
     exact FI (Ji (FS (hR d h' tk (.inl ⟨rfl,rfl⟩) fun b q n _ e=>kp' b q n e)))
   | some m =>
     obtain⟨t,rfl⟩:=(show ∃t,arr = #[.int m t,.int m t]from hb)
     show Gb _ A.in1 (updateSeq S (fun _=>#[]) >>= _) _ _ _;refine FI (Lh (kp' S _ hSI hS) rfl (FI (Jd (FS ?_))))
     exact hR _ _ tk (.inr ⟨m,t,rfl,rfl⟩) fun b q n n2 e=>(Hy _ _ n2.symm).trans (kp' b q n e)
 | succ k ih =>
   intro j s o arr c hk hj hb h1 h2 hS hR
   have hlt:j<vs.length:=by omega
   refine Jp (KY) ?_;rw[Ir HM _]
   show Gb _ A.in1 (Mv (.ref S) >>= _) _ _ s;refine FI (HR hS rfl ?_)
   show Gb _ A.in1 (tryCatch (Ki (.ref I)) _ >>= _) _ _ s;refine FI (Lz (W.item j s _ _ (by rw[hz];exact hlt) ⟨h1,h2⟩ fun v h' tk hP st kp=>?_))
   have kp':∀b q,b≠I->s.heap.get? b=some q->h'.get? b=some q:=fun b q n e=>kp b q (by simpa using n) e
   have hS':=kp' S _ hSI hS
   have hv:vs[j]?=some v:=by simpa using hP
   obtain⟨n,t,en,rfl⟩:∃n t,ns[j]?=some n/\v = .int n t:=by
    have hv':=hv
    clear hR ih hk hj hlt h1 h2 hP st W hz len
    induction hI generalizing j with
    | nil=>simp at hv'
    | cons n t r ih2 =>
      cases j with
      | zero=>simp at hv';subst hv';exact⟨n,t,rfl,rfl⟩
      | succ j=>simp at hv';simpa using ih2 j (by simpa using hv) hv'
   have ed:ns.drop j=n::ns.drop (j+1):=by
    have hj2:j<ns.length:=by omega
    rw[GV hj2]
    rw[GB hj2]at en
    cases en
    rfl
   rw[ed]at hR
   have put:∀(o2:Option Int)(t2:Tok),o2=some n->t2=t->cz o (n::ns.drop (j+1))=cz (some n) (ns.drop (j+1)) ->
    HY (Gn prog w) A (.builtin "max.loop" ⟨[.ref I,.none,.ref S],[(F0 "default", d)]⟩) R {s with heap:=h'.update S (L_ fun _=>#[.int n t,.int n t]),toks:=tk}:=fun o2 t2 _ _ er=>by
    refine ih (j+1) _ (some n) #[.int n t,.int n t] _ (by omega) (by omega) ⟨t,rfl⟩ (st.1.at fun q e=>(Hy _ _ hSI).trans e) (st.2.at fun q e=>(Hy _ _ hSl).trans e) (Lb _ hS' rfl) fun v2 h2 tk2 hv2 kp2=>?_
    rw[<- er]at hv2
    exact hR v2 h2 tk2 hv2 fun b q n1 n2 e=>kp2 b q n1 n2 ((Hy _ _ n2.symm).trans (kp' b q n1 e))
   cases o with
   | none =>
     cases(show arr = #[]from hb)
     show Gb _ A.in1 (updateSeq S (fun _=>#[.int n t,.int n t]) >>= _) _ _ _;refine FI (Lh hS' rfl ?_)
     rw[hn]
     exact FS ⟨Jq HM _,put _ _ rfl rfl rfl⟩
   | some m =>
     obtain⟨t0,rfl⟩:=(show ∃t,arr = #[.int m t,.int m t]from hb)
     show Gb _ A.in1 (tryCatch (holding [.int n t,.int n t] (richCompare .Gt (.int n t) (.int m t0) >>= _)) _ >>= _) _ _ _
     have cm:CmpOf prog w A.in1 .Gt (fun i v=>∃x t,v=K1 x t/\x=(if i=0 then m else n)) (fun i j=>decide ((if i=0 then m else n)>(if j=0 then m else n))):=PySem.CmpOf.ints_gt (fun i=>if i=0 then m else n) fun i v ⟨x,t,e,e2⟩=>⟨t,by rw[e,e2]⟩
     refine FI (Lz (IC (FI (cm 1 0 _ _ _ _ _ ⟨n,t,rfl,rfl⟩ ⟨m,t0,rfl,rfl⟩ ?_))))
     refine FI (IC (Is (FI (Jd (FS ?_)))))
     by_cases hg:n>m
     · simp only[if_neg (show ¬((1:Nat)=0) by decide),if_pos (show(0:Nat)=0 from rfl),decide_eq_true hg,if_true]
       refine FI (Lh hS' rfl (FI (Jd ?_)))
       rw[hn]
       exact FS ⟨Jq HM _,put _ _ rfl rfl (by simp only[cz,if_pos hg])⟩
     · simp only[if_neg (show ¬((1:Nat)=0) by decide),if_pos (show(0:Nat)=0 from rfl),if_true,decide_eq_false hg,Jn,if_false]
       refine FI (Jd ?_)
       rw[hn]
       refine FS ⟨Jq HM _,ih (j+1) _ (some m) _ c (by omega) (by omega) ⟨t0,rfl⟩ st.1 st.2 hS' fun v2 h2 tk2 hv2 kp2=>?_⟩
       refine hR v2 h2 tk2 ?_ fun b q n1 n2 e=>kp2 b q n1 n2 (kp' b q n1 e)
       simp only[cz,if_neg hg]
       exact hv2
theorem jT{l:Addr}{vs:List Value}{d:Value}(hh:A.handled=none)(hI:JN vs ns)(hls:s.heap.IsList l vs.toArray)
 (hQ:∀v h' tk,(cz none ns=none/\v=d\/∃m t,cz none ns=some m/\v = .int m t)->(∀b q,s.heap.get? b=some q->h'.get? b=some q)->Q v {s with heap:=h',toks:=tk}) :
 Gb (Gn prog w) A (call (.builtin "max") [.ref l] [(F0 "default", d)]) Q E s:=by
 have hn:(toString "max" ++ toString ".loop" : String) = "max.loop" := by decide
 obtain⟨ol,hol,_⟩:=id hls
 have hll:l<s.heap.objs.size:=FW hol
 refine PyProof.Rows.kmk_tree (PySem.F.kind_max) PySem.F.plain_max PySem.F.entry_max (oY _ _) ?_
 show Gb _ A.in1 (J0 "max" ["key", "default"] 0 ⟨[],[(F0 "default", d)]⟩ >>= _) _ _ s
 refine FI (LH (show J0 "max" ["key", "default"] 0 ⟨[],[(F0 "default", d)]⟩=pure [none,some d]from rfl) ?_)
 refine FI (FS (FI (Jw hls (FI (wpAny_newList ?_ (Gw _))))))
 rw[hn]
 have zI:(s.heap.push {cls:=.type "list_iterator", data:=.fields #[.ref l,.int 0 0]}).objs.size=s.heap.objs.size+1:=size_push' ..
 refine FS ⟨Jq HM _,?_⟩
 refine nS (I:=s.heap.objs.size) (l:=l) hh hI (Gx hll) (by rw[zI];exact H0 (Nat.lt_succ_self _)) (by rw[zI];exact H0 (Kt hll)) vs.length 0 _ none #[] 0 (by omega) (Gw _) rfl
  ⟨_,FM _ (FY _ rfl),rfl,rfl⟩ (hls.at fun q e=>FM _ (FM _ e)) (FY _ rfl) fun v h' tk hv kp=>?_
 refine hQ v h' tk (by simpa using hv) fun b q e=>?_
 have hb:=FW e
 exact kp b q (Gx hb) (by rw[zI];exact Gx (Kt hb)) (FM _ (FM _ e))
end
section
variable{X:Cx}
theorem eC{P:Gi}{w:G5}:∀{vs:List (E7×Value)}{ns:List Int}{l:List Value},vs.map (·.1)=ns.map HX->l.length=vs.length ->
 (∀(i:Nat) v,l[i]?=some v->∃k x,vs[i]?=some (k,x)/\(bA P w).is k v=true)->JN l ns
 | [],[],[],_,_,_=>.nil
 | [],[],_::_,_,h,_=>by simp at h
 | [],_::_,_,h,_,_=>by simp at h
 | _::_,[],_,h,_,_=>by simp at h
 | _::_,_::_,[],_,h,_=>by simp at h
 | (k,x)::vs,n::ns,v::l,h1,h2,h3=>by
   simp only[Gz,Hl]at h1
   obtain⟨k',x',e,hv⟩:=h3 0 v rfl
   simp at e
   obtain⟨rfl,rfl⟩:=e
   rw[h1.1]at hv
   have hv:jW (HX n) v=true:=hv
   rcases aY hv with⟨i,t,e1,e2⟩|⟨y,t,e1,e2⟩
   · cases e1
     subst e2
     exact .cons n t (eC (P:=P) (w:=w) h1.2 (by simpa using h2) fun i v hv=>by simpa using h3 (i+1) v (by simpa using hv))
   · cases e1
theorem jD{prog:Gi}{w:G5}{vs:List (E7×Value)}(hh:A.handled=none)(hd:(a==IN)=false)
 (dd:s.heap.DictOf (bA prog w) a vs)(hk:vs.map (·.1)=ns.map HX)(h64:ns.length<64)
 (h:∀(h0 h':Heap)(tk:Nat)(out:Array Value)(ns':List Int)(c:Nat),(∀b o,s.heap.get? b=some o->h0.get? b=some o)->(∀b o,h0.get? b=some o->h'.get? b=some o)->h'.get? h0.objs.size=some (Mz "list" out c) ->
  JN out.toList ns'->ns'.Perm ns->ns'.Pairwise (· <= ·)->Q (.ref h0.objs.size) {s with heap:=h',toks:=tk}) :
 Gb (Gn prog w) A (call (.builtin "sorted") [.ref a]) Q E s:=by
 obtain⟨ep,da⟩:=dd.dictAt
 have sz:=GL
 have hl:vs.length=ns.length:=by have:=congrArg List.length hk;simpa using this
 refine Calls.call_function_entry kind_sorted plain_sorted entry_sorted (args_sorted1 (.ref a)) ?_;unfold Builtin.«sorted»
 refine FI (m:=checkCount "sorted" 1 1 _) (FS (FI (W.kdu_collect (A:=A.in1) (W.kdl_dict (knd:=bA prog w) (kvs:=vs) (ep:=ep) hd) hh da (by omega) fun h0 tk acc k0 hacc=>FI (wpAny_newList ?_ ?_))))
 · have iA:JN acc.toList ns:=eC (P:=prog) (w:=w) hk (by rw[IA];exact hacc.1) fun i v e=>hacc.2 i v (by rw[<- Array.getElem?_toList];exact e)
   have l64:acc.toList.length<64:=by rw[iA.length];exact h64
   have hoL:(h0.push (Mz "list" acc.toList.toArray 0)).get? h0.objs.size=some (Mz "list" acc.toList.toArray 0):=FY _ rfl
   show Gb _ _ _ _ _ {s with heap:=h0.push (Mz "list" acc.toList.toArray 0),toks:=tk}
   refine FI (IC (HI slot_list_sort ⟨_,hoL,rfl⟩ entry_list_sort (list_sort_tree (s:={s with heap:=h0.push (Mz "list" acc.toList.toArray 0),toks:=tk}) hoL iA l64 fun out ns' q1 q2 q3=>⟨_,rfl,?_⟩) (args_list_sort _)))
   have e1:=get?_update_seq hoL (fun _=>#[])
   have e2:((((h0.push (Mz "list" acc.toList.toArray 0)).update h0.objs.size (L_ fun _=>#[])).push (Mz "tuple" acc.toList.toArray 0)).push (Mz "list" #[] 0)).get? h0.objs.size=_ :=
    FM _ (FM _ e1)
   have e3:=get?_update_seq e2 (fun _=>out)
   refine FS ⟨_,rfl,h h0 _ _ out ns' _ k0 (fun b ob eb=>?_) e3 q1 q2 q3⟩
   have ne:h0.objs.size≠b:=H0 (FW eb)
   exact(Hy _ _ ne).trans (FM _ (FM _ ((Hy _ _ ne).trans (FM _ eb))))
 · rw[IA,hacc.1];omega
theorem jo(hc:X.calm=true):dD X (.builtin "sorted") (fun xs H Q=>∃(a:Addr)(us:List (E7×V))(ns:List Int),xs=[.ref a]/\Rd H a (.dK us)/\us.map (·.1)=ns.map HX/\ns.length<64 /\
 ∀ns':List Int,ns'.Perm ns->ns'.Pairwise (· <= ·)->∀l,H l=none->Q (.ref l) (Cs H l (.lst (ns'.map V.int)))):=by
 intro pins s σ H xs us Q I r ⟨a,vs,ns,ex,hq,hk,h64,q⟩
 subst ex
 obtain⟨u,rfl,ru⟩:=vals1 r
 cases ru
 obtain⟨z,hd,ws,rel,dd⟩:=qD I.hok hq
 have sz:=GL
 refine jD (I.ok.hd hc) hd dd (by rw[<- rel.keys];exact hk) h64 fun h0 h' tk out ns' c k0 k1 e a1 a2 a3=>?_
 have I1:Inv X pins σ H {s with heap:=h0}:=I.kept (t':=s.toks) k0
 refine⟨.ref h0.objs.size,_,I1.laid (t':=tk) (o:=.lst (ns'.map V.int)) k1 (FQ _) ⟨?_,out.toList,c,lA a1,by rw[IV];exact e⟩,rfl,q ns' a2 a3 _ (I1.hok.fresh (FQ _))⟩
 rw[FR,a2.length_eq]
 omega
def Dz(d:V)(ns:List Int):V:=match cz none ns with
 | none=>d
 | some m=>.int m
def yA(K:W.Frag)(t tk:TA):TE:=fun σ H Q=>t σ H fun vs H1=>tk σ H1 fun zs H2=>∃l ns d,vs=[.ref l]/\zs=[d]/\EH K H2 l (ns.map V.int)/\Q (Dz d ns) H2
theorem tj{c:Expr}{t tk:TA}{p kpos:Pos}(hc:X.calm=true)(hm:X.mg "max" = none)(ha:PA X [e] t)(hk:PK X [⟨some "default", c,kpos⟩] tk)(hg:Gl X "max")
 (he:Hs pos (FU [e] X.env)=(false,eval e X.env)::Hs pos (FU [] X.env):=by rfl)(hpl:(Hs pos (FU [e] X.env)).any (·.1)=false:=by rfl) :
 PE X (.Call (.Name "max" p) [e] [⟨some "default", c,kpos⟩] pos) (yA X.K t tk):=by
 intro pins s σ H Q I h
 refine Il (dm I hg hm (by rfl) ?_ (by decide) (by decide))
 refine PyProof.Rows.callWith_kw (CF (ha pos pins s σ H _ I h) fun us s1 ⟨vs,H1,I1,r1,q1⟩=>?_) he hpl
 refine CF (hk pos pins s1 σ H1 _ I1 q1) fun ws s2 ⟨zs,H2,I2,r2,l,ns,d,e1,e2,sq,q2⟩=>?_
 subst e1 e2
 obtain⟨u,rfl,ru⟩:=vals1 r1
 obtain⟨w',rfl,rw'⟩:=vals1 r2
 cases ru
 obtain⟨its,rv,pl,hz⟩:=I2.list sq
 show Gb _ _ (call (.builtin "max") [.ref l] [(F0 "default", w')]) _ _ _
 refine jT (I.ok.hd hc) (intsAre_of rv) pl.isList fun v h' tk hv kp=>⟨Dz d ns,H2,I2.kept kp,?_,q2⟩
 rcases hv with⟨e,rfl⟩|⟨m,t,e,rfl⟩
 · unfold Dz;rw[e];exact rw'
 · unfold Dz;rw[e];exact⟨t,rfl⟩
end
end L2
theorem L2.Room.un1{k:Nat}{A:PySem.Around}(r:L2.Room k A):A.units+1<PySem.cLine:=by have:=r.un;omega
namespace L2.VL
def gA(kvs:List (E7×FH))(k:E7):Option FH:=(kvs.find? fun kv=>decide (kv.1=k)).map (·.2)
def putF(kvs:List (E7×FH))(k:E7)(x:FH):List (E7×FH) :=
 if(kvs.any fun kv=>decide (kv.1=k))=true then kvs.map (fun kv=>if kv.1=k then(kv.1,x)else kv)else kvs++[(k,x)]
section
variable{K:W.Frag}{F:Hp}{us:List (E7×V)}{kvs:List (E7×FH)}
theorem E9.val(r:E9 K F us kvs)(k:E7):(fA us k=none/\gA kvs k=none)\/∃v d,fA us k=some v/\gA kvs k=some d/\Rep K F v d:=by
 induction r with
 | nil=>exact .inl ⟨rfl,rfl⟩
 | @cons p q ps qs h t ih =>
   unfold fA gA at *
   rw[Hb,Hb,h.1]
   by_cases e:q.1=k
   · simp only[e,decide_true]
     exact .inr ⟨p.2,q.2,rfl,rfl,h.2⟩
   · simp only[e,decide_false]
     exact ih
theorem E9.any(r:E9 K F us kvs)(k:E7):(us.any fun kv=>decide (kv.1=k))=kvs.any fun kv=>decide (kv.1=k):=by
 induction r with
 | nil=>rfl
 | cons h t ih=>rw[HZ,HZ,ih,h.1]
theorem E9.keys(r:E9 K F us kvs):us.map (·.1)=kvs.map (·.1):=by
 induction r with
 | nil=>rfl
 | cons h t ih=>rw[Gz,Gz,ih,h.1]
theorem E9.repl(r:E9 K F us kvs)(k:E7)(rv:Rep K F v d):E9 K F (us.map fun kv=>if kv.1=k then(kv.1,v)else kv) (kvs.map fun kv=>if kv.1=k then(kv.1,d)else kv):=by
 induction r with
 | nil=>exact .nil
 | @cons p q ps qs h t ih =>
   refine .cons ?_ ih
   show(if p.1=k then(p.1,v)else p).1=(if q.1=k then(q.1,d)else q).1/\Rep K F (if p.1=k then(p.1,v)else p).2 (if q.1=k then(q.1,d)else q).2
   by_cases e:q.1=k
   · have e':p.1=k:=h.1.trans e
     rw[if_pos e,if_pos e']
     exact⟨h.1,rv⟩
   · have e':¬p.1=k:=fun z=>e (h.1.symm.trans z)
     rw[if_neg e,if_neg e']
     exact h
theorem E9.snoc(r:E9 K F us kvs)(k:E7)(rv:Rep K F v d):E9 K F (us++[(k,v)]) (kvs++[(k,d)]):=by
 induction r with
 | nil=>exact .cons ⟨rfl,rv⟩ .nil
 | cons h t ih=>exact .cons h ih
theorem E9.put(r:E9 K F us kvs)(k:E7)(rv:Rep K F v d):E9 K F (dN us k v) (putF kvs k d):=by
 unfold dN putF
 rw[r.any k]
 split
 · exact r.repl k rv
 · exact r.snoc k rv
theorem E9.mono{F':Hp}(s:bC F F')(r:E9 K F us kvs):E9 K F' us kvs:=Hv.mapP r fun _ _ z=>⟨z.1,z.2.mono s⟩
end
def lZ:W->Option E7
 | .d (.int i)=>some (.inl i)
 | .d (.str x)=>some (.inr x)
 | _=>none
def asFd:W->Option (List (E7×FH))
 | .fd kvs=>some kvs
 | _=>none
theorem keyW_i(i:Int):lZ (.d (.int i))=some (.inl i):=rfl
theorem keyW_s(x:Str):lZ (.d (.str x))=some (.inr x):=rfl
theorem asFd_f(kvs:List (E7×FH)):asFd (.fd kvs)=some kvs:=rfl
theorem uz{w:W}{kvs:List (E7×FH)}:asFd w=some kvs↔w = .fd kvs:=by
 constructor
 · intro h;unfold asFd at h;split at h<;>simp_all
 · rintro rfl;rfl
theorem lf{K:W.Frag}{w:W}{k:E7}(e:lZ w=some k)(r:cQ K rl F H v w):v=kV k:=by
 unfold lZ at e
 split at e
 · cases e;exact aP r
 · cases e;exact fM r
 · cases e
theorem isPk_fd(kvs:List (E7×FH)):(W.fd kvs).isPk=false:=rfl
theorem fz_fd(kvs:List (E7×FH)):(W.fd kvs).fz = .fd kvs:=rfl
theorem pk_fd(kvs:List (E7×FH)):(W.fd kvs).peek = .fd kvs:=rfl
def qU(ρ0:En)(g:EE)(ft:TB)(fk fe:TV):List FH->List (E7×FH)->(List (E7×FH)->Prop)->Prop
 | [],acc,Q=>Q acc
 | x::xs,acc,Q=>g x ρ0 fun ρ2=>Le ρ0 ρ2/\ft ρ2 fun b=>if b=true then fk ρ2 fun wk=>∃k,lZ wk=some k/\fe ρ2 fun w=>∃d,w.fz = .d d/\acc.length<sizeLine/\qU ρ0 g ft fk fe xs (putF acc k d) Q else qU ρ0 g ft fk fe xs acc Q
def mN(fi:En->(List FH->Prop)->Prop)(fr:List (Option Nat))(g:EE)(ft:TB)(fk fe:TV):TV:=fun ρ Q=>fi ρ fun xs=>qU (dR fr ρ) g ft fk fe xs [] fun kvs=>Q (.fd kvs)
section
variable{X:Cx}{rl:RlT}{kx vx tg iter:Expr}{ifs:List Expr}{scope:Scope}{pos:Pos}{fi:En->(List FH->Prop)->Prop}{g:EE}{ft:TB}{fk fe:TV}
theorem uj{wi:TI}(fr:List (Option Nat))(k0:∀{F₀ H₀ F H:Hp}{σ:St}{ρ:En},VR X.K rl F₀ H₀ F H σ ρ->∀(Qd:List FH->Prop)(R:It->Hp->Prop),fi ρ Qd ->
 (∀J xs F' H',Grow rl F H F' H'->VIt X.K rl F' J xs->Qd xs->R J H')->wi σ H R)
 (hg:∀y,E1 (blk X N' scope y) rl tg g)(ht:∀y,lV (blk X N' scope y) rl ifs ft)(hk:∀y,PV (blk X N' scope y) rl kx fk)(he:∀y,PV (blk X N' scope y) rl vx fe)
 (R:VR X.K rl F₀ H₀ F H σ ρ)(Qd:W->Prop)(Q:VK)(q:mN fi fr g ft fk fe ρ Qd)
 (k:∀v w F' H',Grow rl F H F' H'->cQ X.K rl F' H' v w->dq H v w->Qd w->Q v H'):mW wi fr (fun y=>Gc (hg y)) (fun y=>Gc (ht y)) (fun y=>Gc (hk y)) (fun y=>Gc (he y)) σ H Q:=by
 refine k0 R _ _ q fun J xs F1 H1 g1 vi q1=>?_
 intro D hD
 have rD:rl.a≠some D:=fun e=>by obtain⟨o,z⟩:=g1.reel.live e;rw[hD]at z;cases z
 have FD:F1 D=none:=g1.sub.free hD
 have gD:Grow rl F1 H1 F1 (Cs H1 D (.dK [])):=Grow.laid g1.sub g1.reel hD
 have R1:=R.grow g1
 have n0:lX (dR fr ρ):=dA
 refine⟨fun i m acc σc Hc=>m=xs.length-i/\i<=xs.length/\∃Fc ds,VR X.K rl F1 H1 Fc Hc σc (dR fr ρ)/\Hc D=some (.dK acc)/\Fc D=none/\E9 X.K Fc acc ds/\qU (dR fr ρ) g ft fk fe (xs.drop i) ds (fun ds=>Qd (.fd ds)),
  ⟨xs.length,by simp,Gw _,F1,[],fy R1 gD,av,FD,.nil,by simpa using q1⟩,?_⟩
 rintro z i m acc σc Hc ⟨rfl,hi,Fc,ds,Rc,hDc,fDc,rs,q2⟩
 have sH:bC F1 Hc:=Rc.g.fs.trans Rc.sub
 by_cases hlt:i<xs.length
 · have ei:xs[i]?=some xs[i]:=by simp[hlt]
   have ed:xs.drop i=xs[i]::xs.drop (i+1):=GV hlt
   rw[ed]at q2
   refine .inr ⟨vi.go i Hc _ ei sH,fun v H' y=>?_⟩
   obtain⟨Fy,gy,rv⟩:=vi.yld i Hc v H' _ Fc ei Rc.g.fs Rc.sub Rc.reel y
   refine(FK (hg z)).2 (Rc.grow gy) v _ _ _ rv q2 fun F3 H3 σ3 ρ3 g3 n3 R3 ⟨le3,q3⟩=>?_
   refine(FK (ht z)).2 R3 _ _ q3 fun b F4 H4 g4 q4=>?_
   have R4:=R3.grow g4
   have g34:=(gy.trans g3).trans g4
   have keepD:∀{Fx Hx:Hp},Grow rl Fc Hc Fx Hx->Hx D=some (.dK acc)/\Fx D=none:=fun gx=>⟨gx.same D _ hDc rD,by rw[gx.old D _ hDc];exact fDc⟩
   cases b with
   | false=>exact⟨xs.length-(i+1),by omega,rfl,hlt,F4,ds,R4.le le3,(keepD g34).1,(keepD g34).2,rs.mono g34.fs,q4⟩
   | true =>
     refine(FK (hk z)).2 R4 _ _ q4 fun vk wk Fk Hk gk rk nk ⟨kk,ekk,qk⟩=>?_
     have evk:=lf ekk rk
     have R5:=R4.grow gk
     refine(FK (he z)).2 R5 _ _ qk fun v5 w5 F5 H5 g5 r5 n5 ⟨d,ed5,hl,q5⟩=>?_
     obtain⟨F6,g6,s6,r6⟩:=cQ.fz g5 r5 n5
     rw[ed5]at r6
     have g36:=(g34.trans gk).trans g6
     have lds:acc.length=ds.length:=HC rs
     refine⟨kk,evk,(keepD g36).1,by rw[lds];exact hl,xs.length-(i+1),by omega,rfl,hlt,F6,putF ds kk d,((R5.grow g6).le le3).other n0 hD (keepD g36).2 rD,av,(keepD g36).2,(rs.mono g36.fs).put kk r6,q5⟩
 · have e:i=xs.length:=by omega
   subst e
   rw[HW]at q2
   have neF:∀b u,Fc b=some u->b≠D:=fun b u q z=>by subst z;rw[fDc]at q;cases q
   have fsm:bC Fc (Cs Fc D (.dK acc)):=fun b u z=>by rw[ar (neF b u z)];exact z
   refine .inl ⟨vi.stop _ Hc (FQ _) sH,k _ (.fd ds) (Cs Fc D (.dK acc)) Hc ((g1.trans Rc.g).freeze (g1.freeB hD) hDc fDc rD) ⟨D,acc,rfl,av,rs.mono fsm⟩ trivial q2⟩
theorem jz(i:Nat){b:Bool}(hN:X.N.Nodup)(N':List Str)(fr:List (Option Nat))(hc:X.calm=true)(hi:EX X rl tg iter fi)
 (hg:∀y,E1 (blk X N' scope y) rl tg g)(ht:∀y,lV (blk X N' scope y) rl ifs ft)(hk:∀y,PV (blk X N' scope y) rl kx fk)(he:∀y,PV (blk X N' scope y) rl vx fe)
 (hsw:HS (.DictComp kx vx [⟨tg,iter,ifs,0⟩] scope pos) (some (.Name x px)) spos.line X.env=pure b:=by rfl)
 (hix:X.N[i]?=some x:=by rfl)(hx:Loc X.env.scope x:=by first|exact Ix rfl|exact HN rfl)(hf:X.fn x=true\/X.env.scope.names.lookup x=some .local:=by first|exact .inl rfl|exact .inr rfl)
 (hfr:lm fr N' X.N scope X.env.scope=true:=by rfl)(hsc:lI scope X.env.scope=true:=by rfl)
 (hs:∀x,Gj iter X.env x=pure x:=by intro _;rfl):EU X rl (.Assign [.Name x px] (.DictComp kx vx [⟨tg,iter,ifs,0⟩] scope pos) spos) (yd i (mN fi fr g ft fk fe)):=by
 obtain⟨wi,p0,k0⟩:=hi
 refine⟨_,jK N' fr hc p0 hfr hsc (fun y=>(FK (hg y)).1) (fun y=>(FK (ht y)).1) (fun y=>(FK (hk y)).1) (fun y=>(FK (he y)).1) hN hix hx hf hsw hs,fun R Dv D ok q=>uj fr k0 hg ht hk he R _ _ q fun v w F1 H1 g1 r1 n1 ⟨hp,q1⟩=>?_⟩
 exact ok.nx _ _ _ _ g1.fs (R.set g1 r1 n1 (fun xs z=>by subst z;cases hp) i) q1
end
def DS(ρ0:En)(g:EE)(ft:TB)(fk fe:TV)(x:FH):Mo (Option (E7×FH)):=Ek (g x ρ0) fun ρ2=>D2 (Le ρ0 ρ2) (Ek (ft ρ2) fun b=>if b=true then Ek (fk ρ2) fun wk=>aU (lZ wk) fun k=>Ek (fe ρ2) fun w=>aU (asD w.fz) fun d=>ret (some (k,d))else ret none)
def eI(b:FH->Mo (Option (E7×FH))):List FH->List (E7×FH)->Mo (List (E7×FH))
 | [],acc=>ret acc
 | x::xs,acc=>Ek (b x) fun o=>match o with
   | some d=>D2 (acc.length<sizeLine) (eI b xs (putF acc d.1 d.2))
   | none=>eI b xs acc
theorem lq(ρ0:En)(g:EE)(ft:TB)(fk fe:TV):∀(xs:List FH)(acc:List (E7×FH)),qU ρ0 g ft fk fe xs acc=eI (DS ρ0 g ft fk fe) xs acc
 | [],acc=>rfl
 | x::xs,acc=>by
   refine ag fun Q=>?_
   show(g x ρ0 fun ρ2=>Le ρ0 ρ2/\ft ρ2 fun b=>if b=true then fk ρ2 fun wk=>∃k,lZ wk=some k/\fe ρ2 fun w=>∃d,w.fz = .d d/\acc.length<sizeLine/\qU ρ0 g ft fk fe xs (putF acc k d) Q else qU ρ0 g ft fk fe xs acc Q)↔(Ek (DS ρ0 g ft fk fe x) _) Q
   simp only[lq ρ0 g ft fk fe xs]
   have:∀(ρ2:En)(b:Bool),(if b=true then fk ρ2 fun wk=>∃k,lZ wk=some k/\fe ρ2 fun w=>∃d,w.fz = .d d/\acc.length<sizeLine/\eI (DS ρ0 g ft fk fe) xs (putF acc k d) Q else eI (DS ρ0 g ft fk fe) xs acc Q)=(Ek (if b=true then Ek (fk ρ2) fun wk=>aU (lZ wk) fun k=>Ek (fe ρ2) fun w=>aU (asD w.fz) fun d=>ret (some (k,d))else ret none) fun o=>match o with
   | some d=>D2 (acc.length<sizeLine) (eI (DS ρ0 g ft fk fe) xs (putF acc d.1 d.2))
   | none=>eI (DS ρ0 g ft fk fe) xs acc) Q:=by
     intro ρ2 b
     cases b with
     | false=>rfl
     | true =>
       rw[if_pos rfl,if_pos rfl]
       show _=fk ρ2 fun wk=>_
       congr 1
       funext wk
       refine propext ?_
       show _↔(Ek (aU (lZ wk) fun k=>Ek (fe ρ2) fun w=>aU (asD w.fz) fun d=>ret (some (k,d))) _) Q
       rw[bnd_opt,ak]
       have e2:∀(k:E7),(fe ρ2 fun w=>∃d,w.fz = .d d/\acc.length<sizeLine/\eI (DS ρ0 g ft fk fe) xs (putF acc k d) Q)=(Ek (Ek (fe ρ2) fun w=>aU (asD w.fz) fun d=>ret (some (k,d))) fun o=>match o with
        | some d=>D2 (acc.length<sizeLine) (eI (DS ρ0 g ft fk fe) xs (putF acc d.1 d.2))
        | none=>eI (DS ρ0 g ft fk fe) xs acc) Q:=fun k=>by
        show _=fe ρ2 fun w=>_
        congr 1
        funext w
        refine propext ?_
        show _↔(Ek (aU (asD w.fz) fun d=>ret (some (k,d))) _) Q
        rw[bnd_opt,ak]
        simp only[jv]
        exact Jy
       simp only[e2]
   simp only[this]
   exact Jy
theorem m_compD(fi:En->(List FH->Prop)->Prop)(fr:List (Option Nat))(g:EE)(ft:TB)(fk fe:TV)(ρ:En):mN fi fr g ft fk fe ρ=Ek (fi ρ) fun xs=>Ek (eI (DS (dR fr ρ) g ft fk fe) xs []) fun kvs=>ret (.fd kvs):=by
 refine ag fun Q=>?_
 show(fi ρ fun xs=>qU (dR fr ρ) g ft fk fe xs [] fun ds=>Q (.fd ds))↔_
 simp only[lq]
 exact Jy
theorem pM(kvs:List (E7×FH))(k:E7)(x:FH):(putF kvs k x).length<=kvs.length+1:=by
 unfold putF;split<;>simp
section
variable{α:Type}{b:FH->Mo (Option (E7×FH))}
theorem jl{enc:α->FH}(f:α->E7×FH):∀(xs:List α)(acc:List (E7×FH)),(∀x∈xs,b (enc x)=ret (some (f x)))->acc.length+xs.length<=sizeLine->eI b (xs.map enc) acc=ret ((xs.map f).foldl (fun a p=>putF a p.1 p.2) acc)
 | [],acc,_,_=>rfl
 | x::xs,acc,h,hl=>by
   show Ek (b (enc x)) _=_
   rw[h x FT,bnd_ret]
   show D2 (acc.length<sizeLine) (eI b (xs.map enc) (putF acc (f x).1 (f x).2))=_
   simp only[Gp]at hl
   have:=pM acc (f x).1 (f x).2
   rw[ai (by omega),jl f xs _ (fun y hy=>h y (FP _ hy)) (by omega)]
   rfl
theorem ug{β:Type}{Q:β->Prop}{k:List (E7×FH)->Mo β}{xs:List α}{enc:α->FH}(f:α->E7×FH)(hx:xs'=xs.map enc)(h:∀x∈xs,b (enc x)=ret (some (f x)))(hl:xs.length<=sizeLine)
 (fin:k ((xs.map f).foldl (fun a p=>putF a p.1 p.2) []) Q):Ek (eI b xs' []) k Q:=by
 subst hx
 rw[jl f xs [] h (by simpa using hl)]
 exact fin
end
section
variable{X:Cx}{rl:RlT}{a c e o i:Expr}{es:List Expr}{fa fb:TV}{fs:EA}{pos p kpos:Pos}{ρ:En}
def mM(fa fb:TV):TV:=fun ρ Q=>fa ρ fun x=>fb ρ fun y=>∃kvs k d,x = .fd kvs/\lZ y=some k/\gA kvs k=some d/\Q (.d d)
theorem rX(hu:X.A.units+1<LW)(ho:PV X rl o fa)(hi:PV X rl i fb)(hs:uC i:=by intro _ _;rfl):PV X rl (.Subscript o i pos) (mM fa fb):=by
 obtain⟨t1,p1,k1⟩:=ho
 obtain⟨t2,p2,k2⟩:=hi
 refine⟨_,il hu p1 p2 hs,fun R Qd Q q h=>k1 R _ _ q fun v w F1 H1 g1 r1 n1 q1=>k2 (R.grow g1) _ _ q1 fun v2 w2 F2 H2 g2 r2 n2 ⟨kvs,k,d,ex,ek,ed,q2⟩=>?_⟩
 subst ex
 obtain⟨x,us,rfl,hx,rk⟩:=r1.grow g2
 have ev:=lf ek r2
 subst ev
 rcases rk.val k with⟨_,z⟩|⟨v3,d3,e1,e2,r3⟩
 · rw[ed]at z;cases z
 · rw[ed]at e2
   cases e2
   refine⟨x,v3,rfl,?_,h v3 (.d d) F2 H2 (g1.trans g2) r3 trivial q2⟩
   rw[<- e1]
   exact xF.k (g2.sub _ _ hx)
theorem m_vDGetF:mM fa fb ρ=Ek (fa ρ) fun x=>Ek (fb ρ) fun y=>aU (asFd x) fun kvs=>aU (lZ y) fun k=>aU (gA kvs k) fun d=>ret (.d d):=by
 refine ag fun Q=>?_
 simp only[mM,Ek,ak,uz,ret]
 constructor
 · intro h;refine cast ?_ h;congr 1;funext x;congr 1;funext y;exact propext ⟨fun⟨a,b,c,d,e,f,g⟩=>⟨a,d,b,e,c,f,g⟩,fun⟨a,d,b,e,c,f,g⟩=>⟨a,b,c,d,e,f,g⟩⟩
 · intro h;refine cast ?_ h;congr 1;funext x;congr 1;funext y;exact propext ⟨fun⟨a,d,b,e,c,f,g⟩=>⟨a,b,c,d,e,f,g⟩,fun⟨a,b,c,d,e,f,g⟩=>⟨a,d,b,e,c,f,g⟩⟩
def w6:List W->(W->Prop)->Prop:=fun ws Q=>∃(kvs:List (E7×FH))(ns:List Int),ws=[.fd kvs]/\kvs.map (·.1)=ns.map HX/\ns.length<64/\∀ns':List Int,ns'.Perm ns->ns'.Pairwise (· <= ·)->Q (.ml (ns'.map .int))
theorem mG(hc:X.calm=true)(hm:X.mg "sorted" = none)(ha:EO X rl [a] fs)(hg:Gl X "sorted" := by rfl)(he:FU [a] X.env=(false,eval a X.env)::FU [] X.env:=by rfl)(hpl:(Hs pos (FU [] X.env)).any (·.1)=false:=by rfl) :
 PV X rl (.Call (.Name "sorted" p) [a] [] pos) (dJ w6 fs):=by
 refine fI (jo hc) (fun{F H vs ws} Qd Q s ra r ⟨kvs,ns,ew,ek,hl,q⟩ k=>?_) hm (by rfl) ha hg (by decide) (by decide) he hpl
 subst ew
 obtain⟨v,rfl,b,us,rfl,hb,rk⟩:=lY r
 exact⟨b,us,ns,rfl,.inl (s _ _ hb),by rw[rk.keys];exact ek,hl,fun ns' h1 h2 l hl=>k _ (.ml _) _ _ (Grow.laid s ra hl) (cC s ra hl lh) (fun a ea=>by cases ea;exact hl) (q ns' h1 h2)⟩
theorem sA{Q:α->Prop}{K:W->Mo α}{kvs:List (E7×FH)}(ns:List Int)(e:kvs.map (·.1)=ns.map HX)(hl:ns.length<64)(h:∀ns':List Int,ns'.Perm ns->ns'.Pairwise (· <= ·)->K (.ml (ns'.map .int)) Q):Ek (w6 [.fd kvs]) K Q :=
 ⟨kvs,ns,rfl,e,hl,fun ns' h1 h2=>h ns' h1 h2⟩
def DA(d:Int)(ns:List Int):Int:=(cz none ns).getD d
def r8(fs:EA)(fc:TV):TV:=fun ρ Q=>fs ρ fun ws=>fc ρ fun y=>∃ns d,gP ws=some [.list (ns.map .int)]/\y = .d (.int d)/\Q (.d (.int (DA d ns)))
theorem uY(hc:X.calm=true)(hm:X.mg "max" = none)(ha:EO X rl [e] fs)(hk:PV X rl c fb)(hg:Gl X "max" := by rfl)
 (he:Hs pos (FU [e] X.env)=(false,eval e X.env)::Hs pos (FU [] X.env):=by rfl)(hpl:(Hs pos (FU [e] X.env)).any (·.1)=false:=by rfl) :
 PV X rl (.Call (.Name "max" p) [e] [⟨some "default", c,kpos⟩] pos) (r8 fs fb):=by
 obtain⟨t1,p1,k1⟩:=ha
 obtain⟨t2,p2,k2⟩:=hk
 refine⟨_,tj hc hm p1 (sV p2 v_) hg he hpl,fun R Qd Q q h=>k1 R _ _ q fun vs ws F1 H1 g1 r1 q1=>k2 (R.grow g1) _ _ q1 fun v2 w2 F2 H2 g2 r2 n2 ⟨ns,d,ed,ew,q2⟩=>?_⟩
 subst ew
 have e2:=aP r2
 subst e2
 have rs:=dC r1 ed
 cases rs with
 | cons rx rs =>
   cases rs
   cases rx with
   | @lst l us _ hb ry =>
     have eu:=ie ry
     subst eu
     refine⟨l,ns,.int d,rfl,rfl,.inl (.inl (g2.sub _ _ (g2.fs _ _ hb))),h _ (.d (.int (DA d ns))) F2 H2 (g1.trans g2) ?_ trivial q2⟩
     have:Dz (.int d) ns = .int (DA d ns):=by unfold Dz DA;cases cz none ns<;>rfl
     rw[this]
     exact .int _
def nO(ws:List W):Option (List Int):=match gP ws with
 | some [.list xs]=>jh xs
 | _=>none
theorem m_vMaxD{fc:TV}:r8 fs fc ρ=Ek (fs ρ) fun ws=>Ek (fc ρ) fun y=>aU (nO ws) fun ns=>aU (asI y) fun d=>ret (.d (.int (DA d ns))):=by
 have key:∀(ws:List W)(ns:List Int),nO ws=some ns↔gP ws=some [.list (ns.map .int)]:=by
  intro ws ns
  unfold nO
  constructor
  · intro h
    split at h
    · rename_i xs e;rw[e,lg h]
    · cases h
  · intro h;rw[h];exact intsD_map ns
 refine ag fun Q=>?_
 simp only[r8,Ek,ak,dH,ret,key]
 constructor
 · intro h;refine cast ?_ h;congr 1;funext x;congr 1;funext y;exact propext ⟨fun⟨a,b,c,d,e⟩=>⟨a,c,b,d,e⟩,fun⟨a,c,b,d,e⟩=>⟨a,b,c,d,e⟩⟩
 · intro h;refine cast ?_ h;congr 1;funext x;congr 1;funext y;exact propext ⟨fun⟨a,c,b,d,e⟩=>⟨a,b,c,d,e⟩,fun⟨a,b,c,d,e⟩=>⟨a,c,b,d,e⟩⟩
theorem oneIs_l(ns:List Int):nO [.d (.list (ns.map .int))]=some ns:=by
 unfold nO gP
 exact intsD_map ns
end
def FF:=FJ @m_compD (FJ @m_vDGetF (FJ @m_vMaxD (FJ @keyW_i (FJ @keyW_s (FJ @asFd_f (FJ @isPk_fd (FJ @fz_fd (FJ @pk_fd (@oneIs_l)))))))))
end L2.VL
namespace L2
def BI(K:W.Frag)(tl:TE):TI:=fun σ H R=>tl σ H fun x H1=>∃a,x = .ref a/\(((∃xs,EH K H1 a xs)/\R (Ff K a) H1)\/((∃xs,EG K H1 a xs)/\R (Fb K a) H1))
theorem wd{l:Expr}{tl:TE}(hl:PE X l tl):PI X tg l (BI X.K tl):=by
 intro pins s σ H R I h
 refine CF (hl pins s σ H _ I h) fun v s1 ⟨x,H1,I1,r1,q1⟩=>?_
 obtain⟨a,e,q1⟩:=q1
 subst e
 cases r1
 have fin:∀b∈[s1.heap.objs.size],iF X pins H1 b:=fun b hb=>by
  have e:b=s1.heap.objs.size:=by simpa using hb
  subst e
  exact I1.fpOk (FQ _) (I1.hok.fresh (FQ _))
 rcases q1 with⟨⟨xs,hq⟩,q⟩|⟨⟨xs,hq⟩,q⟩
 · obtain⟨its,rv,p,hz⟩:=I1.list hq
   exact Jw p.isList ⟨s1.heap.objs.size,[s1.heap.objs.size],_,_,H1,rfl,I1.kept (t':=s1.toks) fun b o e=>FM _ e,iU a _,⟨_,FY _ rfl,rfl,rfl⟩,fin,q⟩
 · obtain⟨its,rv,p,hz⟩:=I1.tuple hq
   exact J8 (show s1.heap.IsTuple a its.toArray from p) ⟨s1.heap.objs.size,[s1.heap.objs.size],_,_,H1,rfl,I1.kept (t':=s1.toks) fun b o e=>FM _ e,gC a _,⟨_,FY _ rfl,rfl,rfl⟩,fin,q⟩
end L2
namespace L2.VL
section
variable{X:Cx}{rl:RlT}{tg:Expr}{fa:TV}{ρ:En}
def iS(fa:TV):En->(List FH->Prop)->Prop:=fun ρ Q=>fa ρ fun w=>∃xs,(w.fz = .d (.list xs)\/w.fz = .d (.tuple xs))/\Q xs
theorem kE{l:Expr}(hl:PV X rl l fa):EX X rl tg l (iS fa):=by
 obtain⟨t,p,k⟩:=hl
 refine⟨_,wd p,fun R Qd Q q h=>k R _ _ q fun v w F1 H1 g1 r1 n1 ⟨xs,ew,q1⟩=>?_⟩
 obtain⟨F2,g2,s2,r2⟩:=cQ.fz g1 r1 n1
 rcases ew with ew|ew
 · rw[ew]at r2
   cases(show Rep X.K F2 v (.list xs)from r2)with
   | @lst a vs _ sq rs =>
     have sqH:∀H,bC F2 H->EH X.K H a vs:=fun H s=>.inl (.inl (s _ _ sq))
     refine⟨a,rfl,.inl ⟨⟨vs,sqH H1 g2.sub⟩,h _ xs F2 H1 g2 (.of (fun i H x e s=>?_) (fun i H hl s=>⟨vs,sqH H s,by rw[rs.length];exact hl⟩) (fun i H v H' x e s y=>?_)) q1⟩⟩
     · obtain⟨v,ev,_⟩:=rs.get e
       exact⟨vs,v,sqH H s,ev⟩
     · obtain⟨e',hy⟩:=y
       obtain⟨v',ev,rv⟩:=rs.get e
       have:=hy vs (sqH H s)
       rw[ev]at this
       cases this
       exact⟨e',rv⟩
 · rw[ew]at r2
   cases(show Rep X.K F2 v (.tuple xs)from r2)with
   | @tup a vs _ sq rs =>
     have sqH:∀H,bC F2 H->EG X.K H a vs:=fun H s=>d6 s sq
     refine⟨a,rfl,.inr ⟨⟨vs,sqH H1 g2.sub⟩,h _ xs F2 H1 g2 (.of (fun i H x e s=>?_) (fun i H hl s=>⟨vs,sqH H s,by rw[rs.length];exact hl⟩) (fun i H v H' x e s y=>?_)) q1⟩⟩
     · obtain⟨v,ev,_⟩:=rs.get e
       exact⟨vs,v,sqH H s,ev⟩
     · obtain⟨e',hy⟩:=y
       obtain⟨v',ev,rv⟩:=rs.get e
       have:=hy vs (sqH H s)
       rw[ev]at this
       cases this
       exact⟨e',rv⟩
def seqW:W->Option (List FH)
 | .d (.list xs)=>some xs
 | .d (.tuple xs)=>some xs
 | _=>none
theorem seqW_l(xs:List FH):seqW (.d (.list xs))=some xs:=rfl
theorem seqW_t(xs:List FH):seqW (.d (.tuple xs))=some xs:=rfl
theorem sD{w:W}:seqW w=some xs↔(w = .d (.list xs)\/w = .d (.tuple xs)):=by
 constructor
 · intro h;unfold seqW at h;split at h<;>simp_all
 · rintro(rfl|rfl)<;>rfl
theorem m_iS:iS fa ρ=Ek (fa ρ) fun w=>aU (seqW w.fz) ret:=by
 refine ag fun Q=>?_
 simp only[iS,Ek,ak,sD,ret]
def FA:=FJ @m_iS (FJ @seqW_l (@seqW_t))
end
end L2.VL
namespace L2
variable{X:Cx}
end L2
namespace L2.VL
section
variable{X:Cx}{rl:RlT}{a e:Expr}{es:List Expr}{fs:EA}{pos:Pos}
def BF(ws:List W):Option (Int×FH):=match gP ws with
 | some [.int i,x]=>some (i,x)
 | _=>none
theorem wW(i:Int)(x:FH):BF [.d (.int i),.d x]=some (i,x):=rfl
def FC:=@wW
end
def qO(b:Nat):FH->Prop
 | .none=>True
 | .bool _=>True
 | .int i=>i.natAbs<2^1000
 | .str x=>FH.strOk x=true/\(Kq x).bulk<=b
 | _=>False
def Lv(b:Nat):List Nat->FH->Prop
 | [],d=>qO b d
 | c::cs,d=>qO b d\/∃xs,(d = .tuple xs\/d = .list xs)/\xs.length<=c/\∀x∈xs,Lv b cs x
def DG(b:Nat):List Nat->Nat
 | []=>b
 | c::cs=>(DG b cs+1)*c
theorem qO.Sm{b:Nat}{d:FH}(h:qO b d):VL.Sm 0 b d:=by
 cases d with
 | none=>exact Sm.none.mono (FQ _) (Gw _)
 | bool b=>exact Sm.bool.mono (FQ _) (Gw _)
 | int i=>exact(Sm.int h).mono (FQ _) (Gw _)
 | str x=>exact⟨h.1,by simp[GR],h.2⟩
 | list xs=>cases h
 | tuple xs=>cases h
 | dict xs=>cases h
theorem Lv.leaf{b:Nat}{cs:List Nat}(h:qO b d):Lv b cs d:=by cases cs with
 | nil=>exact h
 | cons c cs=>exact .inl h
theorem Lv.tup{b c:Nat}{cs:List Nat}{xs:List FH}(hl:xs.length<=c)(h:∀x∈xs,Lv b cs x):Lv b (c::cs) (.tuple xs):=.inr ⟨xs,.inl rfl,hl,h⟩
theorem Lv.lst{b c:Nat}{cs:List Nat}{xs:List FH}(hl:xs.length<=c)(h:∀x∈xs,Lv b cs x):Lv b (c::cs) (.list xs):=.inr ⟨xs,.inr rfl,hl,h⟩
def DN:List Nat->List Nat->Bool
 | [],_=>true
 | _::_,[]=>false
 | a::as,b::bs=>decide (a<=b)&&DN as bs
theorem Lv.mono{b:Nat}:∀{as bs:List Nat}{d:FH},DN as bs=true->Lv b as d->Lv b bs d
 | [],_,_,_,h=>.leaf h
 | _::_,[],_,z,_=>by cases z
 | a::as,c::bs,d,z,h=>by
   simp only[DN,Jb,decide_eq_true_iff]at z
   rcases h with h|⟨xs,e,hl,h⟩
   · exact .inl h
   · exact .inr ⟨xs,e,GI hl z.1,fun x mx=>Lv.mono z.2 (h x mx)⟩
theorem rj(b:Nat):∀cs:List Nat,(∀c∈cs,1<=c)->b<=DG b cs
 | [],_=>FQ _
 | c::cs,h=>by
   have h1:=rj b cs fun x m=>h x (FP _ m)
   have h2:=h c FT
   show b<=(DG b cs+1)*c
   exact GI (GI h1 (Nat.le_succ _)) (KE _ h2)
theorem Lv.Sm{b:Nat}:∀{cs:List Nat}{d:FH},(∀c∈cs,1<=c)->Lv b cs d->VL.Sm (2*cs.length) (DG b cs) d
 | [],d,_,h=>qO.Sm h
 | c::cs,d,hc,h=>by
   rcases h with h|⟨xs,e,hl,h⟩
   · exact(qO.Sm h).mono (Gw _) (rj b _ hc)
   · have:=Sm.seq (n:=c) (fun x mx=>Lv.Sm (fun y m=>hc y (FP _ m)) (h x mx)) hl
     rcases e with rfl|rfl
     · exact this.1
     · exact this.2
theorem Lv.shw{b:Nat}{cs:List Nat}{d:FH}(h:Lv b cs d)(h0:∀c∈cs,1<=c:=by decide)(h1:2*cs.length<=60:=by decide)(h2:DG b cs<=8000:=by decide):EL d:=(h.Sm h0).shw h1 h2
end L2.VL
namespace L2
section
variable{X:Cx}
end
end L2
namespace L2.VL
section
variable{X:Cx}{rl:RlT}{a:Expr}{fs:EA}{pos p:Pos}
end
end L2.VL
namespace L2
abbrev DO(elt t1 i1:Expr)(f1:List Expr)(t2 i2:Expr)(f2:List Expr)(scope:Scope)(pos:Pos):Expr:=.ListComp elt [⟨t1,i1,f1,0⟩,⟨t2,i2,f2,0⟩] scope pos
theorem si(elt t1 i1:Expr)(f1:List Expr)(t2 i2:Expr)(f2:List Expr)(scope:Scope)(pos:Pos)(it acc:Value)(env:Env) :
 L1 (DO elt t1 i1 f1 t2 i2 f2 scope pos) 0 it acc env=(LD i1.pos >>= fun _=>Ki it >>= fun r=>match r with
  | none=>pure (.done .next)
  | some v=>HU t1 it v >>= fun _=>IS t1 env v >>= fun _=>dL f1 env >>= fun ok=>(if ok=true then
      (eval i2 env >>= fun x=>LD i2.pos >>= fun _=>Gj i2 env x >>= fun x=>holding [x] (Mn x) >>= fun y=>runOwn (.compStart (DO elt t1 i1 f1 t2 i2 f2 scope pos) 1 y acc env) env >>= fun _=>again (.compLoop (DO elt t1 i1 f1 t2 i2 f2 scope pos) 0 it acc env))
      else again (.compLoop (DO elt t1 i1 f1 t2 i2 f2 scope pos) 0 it acc env))):=by rfl
theorem sf(elt t1 i1:Expr)(f1:List Expr)(t2 i2:Expr)(f2:List Expr)(scope:Scope)(pos:Pos)(it acc:Value)(env:Env) :
 L1 (DO elt t1 i1 f1 t2 i2 f2 scope pos) 1 it acc env=(LD i2.pos >>= fun _=>Ki it >>= fun r=>match r with
  | none=>pure (.done .next)
  | some v=>HU t2 it v >>= fun _=>IS t2 env v >>= fun _=>dL f2 env >>= fun ok=>(if ok=true then
      ((eval elt env >>= fun x=>call (.builtin "list.append") [acc,x] >>= fun _=>pure ()) >>= fun _=>again (.compLoop (DO elt t1 i1 f1 t2 i2 f2 scope pos) 1 it acc env))
      else again (.compLoop (DO elt t1 i1 f1 t2 i2 f2 scope pos) 1 it acc env))):=by rfl
section
variable{prog:Gi}{w:G5}{A:Hf}{R:Mr->FO->Prop}{s:FO}{elt t1 i1 t2 i2:Expr}{f1 f2:List Expr}{scope:Scope}{pos:Pos}{it acc:Value}{env:Env}
theorem tS(I:Nat->FO->Prop)(hs:∀x,Gj i2 env x=pure x)
 (turn:∀n s,I n s->Gb (Gn prog w) A (Ki it) (fun r s₁=>(r=none/\R (.ok .next) s₁)\/∃v,r=some v /\
  Gb (Gn prog w) A (HU t1 it v) (fun _ s₂=>Gb (Gn prog w) A (IS t1 env v) (fun _ s₃=>Gb (Gn prog w) A (dL f1 env) (fun ok s₄ =>
   if ok=true then Gb (Gn prog w) A (eval i2 env) (fun x s₅=>Gb (Gn prog w) A (Mn x) (fun y s₆=>HY (Gn prog w) A (.compStart (DO elt t1 i1 f1 t2 i2 f2 scope pos) 1 y acc env) (fun r s₇=>r = .ok .next/\∃m,m<n/\I m s₇) s₆) (fun _ _=>False) s₅) (fun _ _=>False) s₄
   else ∃m,m<n/\I m s₄) (fun _ _=>False) s₃) (fun _ _=>False) s₂) (fun _ _=>False) s₁) (fun _ _=>False) s)
 (n:Nat)(h:I n s):HY (Gn prog w) A (.compLoop (DO elt t1 i1 f1 t2 i2 f2 scope pos) 0 it acc env) R s:=by
 refine K7 rfl I (fun n s hI=>?_) n h
 show Gb _ A ((L1 (DO elt t1 i1 f1 t2 i2 f2 scope pos) 0 it acc env).onRaise (fun x=>do L3 x env;JQ x)) _ _ s
 refine LG ?_
 rw[si]
 refine FI (HD (FI (Gr (turn n s hI) (fun r s₁ h₁=>?_) fun _ _ h'=>h'.elim)))
 rcases h₁ with⟨rfl,h₁⟩|⟨v,rfl,h₁⟩
 · exact FS h₁
 · refine FI (Gr h₁ (fun _ s₂ h₂=>FI (Gr h₂ (fun _ s₃ h₃=>FI (Gr h₃ (fun ok s₄ h₄=>?_) fun _ _ z=>z.elim)) fun _ _ z=>z.elim)) fun _ _ z=>z.elim)
   cases ok with
   | false=>exact FS ⟨rfl,h₄⟩
   | true =>
     refine FI (Gr h₄ (fun x s₅ h₅=>FI (HD (FI (LH (hs x) (FI (IC (Gr h₅ (fun y s₆ h₆=>?_) fun _ _ z=>z.elim))))))) fun _ _ z=>z.elim)
     refine FI (wpAny_runOwn (JB h₆ fun r s₇ ⟨hr,h₇⟩=>?_))
     subst hr
     exact FS ⟨rfl,h₇⟩
theorem tR(I:Nat->FO->Prop)
 (turn:∀n s,I n s->Gb (Gn prog w) A (Ki it) (fun r s₁=>(r=none/\R (.ok .next) s₁)\/∃v,r=some v /\
  Gb (Gn prog w) A (HU t2 it v) (fun _ s₂=>Gb (Gn prog w) A (IS t2 env v) (fun _ s₃=>Gb (Gn prog w) A (dL f2 env) (fun ok s₄ =>
   if ok=true then Gb (Gn prog w) A (eval elt env) (fun x s₅=>Gb (Gn prog w) A (call (.builtin "list.append") [acc,x]) (fun _ s₆=>∃m,m<n/\I m s₆) (fun _ _=>False) s₅) (fun _ _=>False) s₄
   else ∃m,m<n/\I m s₄) (fun _ _=>False) s₃) (fun _ _=>False) s₂) (fun _ _=>False) s₁) (fun _ _=>False) s)
 (n:Nat)(h:I n s):HY (Gn prog w) A (.compLoop (DO elt t1 i1 f1 t2 i2 f2 scope pos) 1 it acc env) R s:=by
 refine K7 rfl I (fun n s hI=>?_) n h
 show Gb _ A ((L1 (DO elt t1 i1 f1 t2 i2 f2 scope pos) 1 it acc env).onRaise (fun x=>do L3 x env;JQ x)) _ _ s
 refine LG ?_
 rw[sf]
 refine FI (HD (FI (Gr (turn n s hI) (fun r s₁ h₁=>?_) fun _ _ h'=>h'.elim)))
 rcases h₁ with⟨rfl,h₁⟩|⟨v,rfl,h₁⟩
 · exact FS h₁
 · refine FI (Gr h₁ (fun _ s₂ h₂=>FI (Gr h₂ (fun _ s₃ h₃=>FI (Gr h₃ (fun ok s₄ h₄=>?_) fun _ _ z=>z.elim)) fun _ _ z=>z.elim)) fun _ _ z=>z.elim)
   cases ok with
   | false=>exact FS ⟨rfl,h₄⟩
   | true=>exact FI (FI (Gr h₄ (fun x s₅ h₅=>FI (Gr h₅ (fun _ s₆ h₆=>FS (FS ⟨rfl,h₆⟩)) fun _ _ z=>z.elim)) fun _ _ z=>z.elim))
theorem pD
 (h0:HY (Gn prog w) A (.compLoop (DO elt t1 i1 f1 t2 i2 f2 scope pos) 1 it acc env) R s)
 (h:Gb (Gn prog w) A (Mn it) (fun it' s'=>HY (Gn prog w) A (.compLoop (DO elt t1 i1 f1 t2 i2 f2 scope pos) 1 it' acc env) R s') (notedBy (Gn prog w) A env fun x s'=>R (.error x) s') s) :
 HY (Gn prog w) A (.compStart (DO elt t1 i1 f1 t2 i2 f2 scope pos) 1 it acc env) R s:=by
 refine codeAny_of_tree ?_
 show Gb _ _ ((compStart (DO elt t1 i1 f1 t2 i2 f2 scope pos) 1 it acc env).onRaise (fun x=>do L3 x env;LD theWindowsPlace)) _ _ s
 refine wpAny_notedAt ?_
 unfold compStart
 show Gb _ _ (ask >>= _) _ _ s
 refine FI (wpAny_askSetting (wpAny_ite ?_))
 split
 · first
     | exact FI (FS (FS (FJ rfl h0)))
     | exact FS (FJ rfl h0)
 · first
     | exact FI (Ji (FI (HD (FI (Gr h (fun it' s' h'=>FS (FJ rfl h')) fun _ _ x=>x)))))
     | (refine FI (Ji ?_);show Gb _ _ (LD i2.pos >>= _) _ _ s;exact FI (HD (FI (Gr h (fun it' s' h'=>FS (FJ rfl h')) fun _ _ x=>x))))
end
def CM(wi:TI)(g:TG)(tt:TT)(te:TE)(D:Addr)(acc:List V)(σ:St)(H:Hp)(R:List V->St->Hp->Prop):Prop:=wi σ H fun J H1=>∃Wv:Nat->Nat->List V->St->Hp->Prop,(∃m,Wv 0 m acc σ H1) /\
 ∀ i m acc σc H,Wv i m acc σc H->(J.stop i H/\R acc σc H)\/(J.go i H/\∀x H',J.yld i H x H'->g x σc H' fun σ2 H2=>tt σ2 H2 fun b H3 =>
   if b=true then te σ2 H3 fun y H4=>H4 D=some (.lst acc)/\acc.length<sizeLine/\∃m',m'<m/\Wv (i+1) m' (acc++[y]) σ2 (Cs H4 D (.lst (acc++[y])))else ∃m',m'<m/\Wv (i+1) m' acc σ2 H3)
section
variable{Y:Cx}{elt t1 i1 t2 i2:Expr}{f1 f2:List Expr}{scope:Scope}{pos:Pos}{wi:TI}{g:TG}{tt:TT}{te:TE}{D:Addr}
theorem wX(hc:Y.calm=true)(hx:Y.xe=fun _ _=>False)(hi:PI Y t2 i2 wi)(hg:PG Y t2 g)(ht:ER Y f2 tt)(he:PE Y elt te){acc:List V}{R:List V->St->Hp->Prop}{Rp:FO->Prop}
 (I:Inv Y pins σ H s)(q:CM wi g tt te D acc σ H R)(fin:∀acc σ5 H5 s5,Inv Y pins σ5 H5 s5->R acc σ5 H5->Rp s5) :
 Gb (Gn Y.prog Y.w) Y.A (eval i2 Y.env) (fun x s₅=>Gb (Gn Y.prog Y.w) Y.A (Mn x) (fun y s₆=>HY (Gn Y.prog Y.w) Y.A (.compStart (DO elt t1 i1 f1 t2 i2 f2 scope pos) 1 y (.ref D) Y.env) (fun r s₇=>r = .ok .next/\Rp s₇) s₆) (fun _ _=>False) s₅) (fun _ _=>False) s:=by
 have hi':=hi pins s σ H _ I q
 rw[hx]at hi'
 refine CF hi' fun v s1 h1=>CF h1 fun itv s2 h2=>?_
 obtain⟨it,fp,tn,J,H2,e,I2,T,st2,f2',Wv,⟨m0,w0⟩,turn⟩:=h2
 subst e
 have stat:∀{H':Hp},(∀b∈fp,H' b=none)->∀b∈fp,iF Y pins H' b:=fun hn b hb=>⟨hn b hb,(f2' b hb).2⟩
 have loop:HY (Gn Y.prog Y.w) Y.A (.compLoop (DO elt t1 i1 f1 t2 i2 f2 scope pos) 1 (.ref it) (.ref D) Y.env) (fun r s₇=>r = .ok .next/\Rp s₇) s2:=by
  refine tR (fun n s'=>∃i acc σ' H',Inv Y pins σ' H' s'/\tn i s'.heap/\(∀b∈fp,H' b=none)/\Wv i n acc σ' H') ?_ m0 ⟨0,acc,σ,H2,I2,st2,fun b hb=>(f2' b hb).1,w0⟩
  rintro n s4 ⟨i,acc,σ4,H4,I4,st4,fr4,w4⟩
  rcases turn i n acc σ4 H4 w4 with⟨stop,qn⟩|⟨go,step⟩
  · exact CF (T.done Y rfl rfl rfl hc i pins s4 σ4 H4 (fun _ _=>False) I4 (stat fr4) st4 stop) fun r s5 ⟨hr,I5⟩=>.inl ⟨hr,rfl,fin acc σ4 H4 s5 I5 qn⟩
  · refine CF (T.item Y rfl rfl rfl hc i pins s4 σ4 H4 (fun _ _=>False) I4 (stat fr4) st4 go) fun r s5 ⟨u,hr,h5⟩=>.inr ⟨u,hr,?_⟩
    refine CF h5 fun _ s6 ⟨x,H6,I6,r6,y6,st6,fr6⟩=>?_
    have I6':=I6.pinned (stat fr6) (T.obj _ _ st6)
    have again:∀{σ7:St}{H7:Hp}{s7:FO},Inv Y (pins++eX fp s6.heap) σ7 H7 s7->∀{acc':List V}{m':Nat},m'<n->Wv (i+1) m' acc' σ7 H7 ->
     ∃m,m<n/\∃i acc σ' H',Inv Y pins σ' H' s7/\tn i s7.heap/\(∀b∈fp,H' b=none)/\Wv i m acc σ' H':=fun{σ7 H7 s7} I7 {acc' m'} hm w7=>by
     refine⟨m',hm,i+1,acc',σ7,H7,I7.unpinned,T.keep _ _ _ st6 fun b hb o e=>(I7.pin (b,o) (FZ _ (FZ _ (bw hb e)))).1,fun b hb=>?_,w7⟩
     obtain⟨o,e,d⟩:=T.obj _ _ st6 b hb
     exact(I7.pin (b,o) (FZ _ (FZ _ (bw hb e)))).2.1
    have h7:=hg _ s6 σ4 H6 x u _ I6' r6 (step x H6 y6)
    rw[hx]at h7
    refine CF h7 fun _ s7 ⟨σ7,H7,I7,q7⟩=>?_
    have h8:=ht _ s7 σ7 H7 _ I7 q7
    rw[hx]at h8
    refine CF h8 fun ok s8 ⟨H8,I8,q8⟩=>?_
    cases ok with
    | false =>
      rw[if_neg Gs]at q8 ⊢
      obtain⟨m',hm,w8⟩:=q8
      exact again I8 hm w8
    | true =>
      rw[if_pos rfl]at q8 ⊢
      have h9:=he _ s8 σ7 H8 _ I8 q8
      rw[hx]at h9
      refine CF h9 fun y s9 ⟨yv,H9,I9,r9,eD,hl,m',hm,w9⟩=>?_
      have h10:=fT (X:=Y) _ s9 σ7 H9 (.ref D) [yv] (.ref D) [y] (fun _ H'=>H'=Cs H9 D (.lst (acc++[yv]))) I9 rfl (.cons r9 .nil) ⟨D,acc,yv,rfl,rfl,eD,hl,rfl⟩
      rw[hx]at h10
      exact CF h10 fun _ s10 ⟨_,H10,I10,_,e10⟩=>by subst e10;exact again I10 hm w9
 exact pD loop (T.self Y.A 0 _ _ _ st2 loop)
end
def mX(wi:TI)(fr:List (Option Nat))(g:CompA->TG)(tt:CompA->TT)(wj:CompA->TI)(g2:CompA->TG)(tt2:CompA->TT)(te:CompA->TE):TE:=fun σ H Q=>wi σ H fun J H1=>∀D,H1 D=none->∃Wv:Nat->Nat->List V->St->Hp->Prop,(∃m,Wv 0 m [] (jX fr σ) (Cs H1 D (.lst []))) /\
 ∀ (z:CompA) i m acc σc H,Wv i m acc σc H->(J.stop i H/\Q (.ref D) H)\/(J.go i H/\∀x H',J.yld i H x H'->g z x σc H' fun σ2 H2=>tt z σ2 H2 fun b H3 =>
   if b=true then CM (wj z) (g2 z) (tt2 z) (te z) D acc σ2 H3 fun acc' σ5 H5=>∃m',m'<m/\Wv (i+1) m' acc' σ5 H5 else ∃m',m'<m/\Wv (i+1) m' acc σ2 H3)
section
variable{Y:Cx}{elt t1 i1 t2 i2:Expr}{f1 f2:List Expr}{scope:Scope}{pos:Pos}{wj:TI}{g g2:TG}{tt tt2:TT}{te:TE}{D:Addr}
theorem rf(hc:Y.calm=true)(hx:Y.xe=fun _ _=>False)(hg:PG Y t1 g)(ht:ER Y f1 tt)(hj:PI Y t2 i2 wj)(hg2:PG Y t2 g2)(ht2:ER Y f2 tt2)(he:PE Y elt te)(hs:∀x,Gj i2 Y.env x=pure x)
 {J:It}{Q:VK}(T:Turn Y.prog Y.w Y.K t1 J fp it tn)(I:Inv Y [] σ H s)(st0:tn 0 s.heap)(fp0:∀b∈fp,H b=none)(stat:∀{H':Hp},(∀b∈fp,H' b=none)->∀b∈fp,iF Y [] H' b)
 {Wv:Nat->Nat->List V->St->Hp->Prop}{m0:Nat}(w0:Wv 0 m0 [] σ H)
 (turn:∀i m acc σc H,Wv i m acc σc H->(J.stop i H/\Q (.ref D) H)\/(J.go i H/\∀x H',J.yld i H x H'->g x σc H' fun σ2 H2=>tt σ2 H2 fun b H3 =>
  if b=true then CM wj g2 tt2 te D acc σ2 H3 fun acc' σ5 H5=>∃m',m'<m/\Wv (i+1) m' acc' σ5 H5 else ∃m',m'<m/\Wv (i+1) m' acc σ2 H3)) :
 HY (Gn Y.prog Y.w) Y.A (.compStart (DO elt t1 i1 f1 t2 i2 f2 scope pos) 0 (.ref it) (.ref D) Y.env) (fun r s5=>r = .ok .next/\∃σ5 H4,Inv Y [] σ5 H4 s5/\Q (.ref D) H4) s:=by
 have loop:HY (Gn Y.prog Y.w) Y.A (.compLoop (DO elt t1 i1 f1 t2 i2 f2 scope pos) 0 (.ref it) (.ref D) Y.env) (fun r s5=>r = .ok .next/\∃σ5 H4,Inv Y [] σ5 H4 s5/\Q (.ref D) H4) s:=by
  refine tS (fun n s'=>∃i acc σ' H',Inv Y [] σ' H' s'/\tn i s'.heap/\(∀b∈fp,H' b=none)/\Wv i n acc σ' H') hs ?_ m0 ⟨0,[],_,_,I,st0,fp0,w0⟩
  rintro n s4 ⟨i,acc,σ4,H4,I4,st4,fr4,w4⟩
  rcases turn i n acc σ4 H4 w4 with⟨stop,qn⟩|⟨go,step⟩
  · exact CF (T.done Y rfl rfl rfl hc i [] s4 σ4 H4 (fun _ _=>False) I4 (stat fr4) st4 stop) fun r s5 ⟨hr,I5⟩=>.inl ⟨hr,rfl,σ4,H4,I5,qn⟩
  · refine CF (T.item Y rfl rfl rfl hc i [] s4 σ4 H4 (fun _ _=>False) I4 (stat fr4) st4 go) fun r s5 ⟨u,hr,h5⟩=>.inr ⟨u,hr,?_⟩
    refine CF h5 fun _ s6 ⟨x,H6,I6,r6,y6,st6,fr6⟩=>?_
    have I6':=I6.pinned (stat fr6) (T.obj _ _ st6)
    have again:∀{σ7:St}{H7:Hp}{s7:FO},Inv Y ([]++eX fp s6.heap) σ7 H7 s7->∀{acc':List V}{m':Nat},m'<n->Wv (i+1) m' acc' σ7 H7 ->
     ∃m,m<n/\∃i acc σ' H',Inv Y [] σ' H' s7/\tn i s7.heap/\(∀b∈fp,H' b=none)/\Wv i m acc σ' H':=fun{σ7 H7 s7} I7 {acc' m'} hm w7=>by
     refine⟨m',hm,i+1,acc',σ7,H7,I7.unpinned,T.keep _ _ _ st6 fun b hb o e=>(I7.pin (b,o) (FZ _ (FZ _ (bw hb e)))).1,fun b hb=>?_,w7⟩
     obtain⟨o,e,d⟩:=T.obj _ _ st6 b hb
     exact(I7.pin (b,o) (FZ _ (FZ _ (bw hb e)))).2.1
    have h7:=hg _ s6 σ4 H6 x u _ I6' r6 (step x H6 y6)
    rw[hx]at h7
    refine CF h7 fun _ s7 ⟨σ7,H7,I7,q7⟩=>?_
    have h8:=ht _ s7 σ7 H7 _ I7 q7
    rw[hx]at h8
    refine CF h8 fun ok s8 ⟨H8,I8,q8⟩=>?_
    cases ok with
    | false =>
      rw[if_neg Gs]at q8 ⊢
      obtain⟨m',hm,w8⟩:=q8
      exact again I8 hm w8
    | true =>
      rw[if_pos rfl]at q8 ⊢
      exact wX hc hx hj hg2 ht2 he I8 q8 fun acc' σ9 H9 s9 I9 ⟨m',hm,w9⟩=>again I9 hm w9
 exact KU loop (T.self Y.A 0 _ _ _ st0 loop)
end
section
variable{X:Cx}{elt t1 i1 t2 i2:Expr}{f1 f2:List Expr}{scope:Scope}{pos:Pos}{wi:TI}{wj:CompA->TI}{g g2:CompA->TG}{tt tt2:CompA->TT}{te:CompA->TE}
theorem lI.get{scope scX:Scope}(hsc:lI scope scX=true):scope.kind = .function/\(∀y∈scope.names,y.2 = .cell->scope.names.lookup y.1=some .cell)/\(∀y∈scope.names,y.2 = .local->scope.names.lookup y.1=some .local) /\
 ∀y∈scope.names,y.2 = .free->scX.names.lookup y.1=some .cell\/scX.names.lookup y.1=some .free:=by
 obtain⟨sk,sn⟩:=FV.mp hsc
 have hall:=HJ.mp sn
 refine⟨of_decide_eq_true sk,fun y hy hl=>?_,fun y hy hl=>?_,fun y hy hl=>?_⟩
 · rcases Gd.mp (FV.mp (FV.mp (hall y hy)).1).1 with z|z
   · exact absurd hl (of_decide_eq_true z)
   · exact of_decide_eq_true z
 · rcases Gd.mp (FV.mp (FV.mp (hall y hy)).1).2 with z|z
   · exact absurd hl (of_decide_eq_true z)
   · exact of_decide_eq_true z
 · rcases Gd.mp (FV.mp (hall y hy)).2 with z|z
   · exact absurd hl (of_decide_eq_true z)
   · exact(Gd.mp z).imp of_decide_eq_true of_decide_eq_true
theorem jc(N':List Str)(fr:List (Option Nat))(hc:X.calm=true)(hi:PI X t1 i1 wi)(hfr:lm fr N' X.N scope X.env.scope=true)(hsc:lI scope X.env.scope=true)
 (hg:∀y,PG (blk X N' scope y) t1 (g y))(ht:∀y,ER (blk X N' scope y) f1 (tt y))(hj:∀y,PI (blk X N' scope y) t2 i2 (wj y))(hg2:∀y,PG (blk X N' scope y) t2 (g2 y))(ht2:∀y,ER (blk X N' scope y) f2 (tt2 y))(he:∀y,PE (blk X N' scope y) elt (te y))
 (hs:∀x,Gj i1 X.env x=pure x:=by intro _;rfl)(hs2:∀y x,Gj i2 (blk X N' scope y).env x=pure x:=by intro _ _;rfl):PE X (DO elt t1 i1 f1 t2 i2 f2 scope pos) (mX wi fr g tt wj g2 tt2 te):=by
 intro pins s σ H Q I h
 obtain⟨hkind,hcell,hnames,hfree⟩:=lI.get hsc
 obtain⟨frl,frg⟩:=lm.get hfr
 obtain⟨cl,hclos,cl1,cl2⟩:=b_ (env:=X.env) (scope:=scope) fun y hy hl=>I.ok.has y.1 (hfree y hy hl)
 rw[eval_ListComp]
 refine HF (use:=none) rfl hs hclos hkind hnames (CF (hi pins s σ H _ I h) fun v s1 h1=>CF h1 fun itv s2 h2=>?_)
 obtain⟨it,fp,tn,J,H2,e,I2,T,st2,f2,q2⟩:=h2
 subst e
 refine GP ?_
 have hD:H2 s2.heap.objs.size=none:=I2.hok.fresh (FQ _)
 have I3:Inv X pins σ (Cs H2 s2.heap.objs.size (.lst [])) {s2 with heap:=s2.heap.push {cls:=.type "list", data:=.seq ([]:List Value).toArray}} :=
  I2.laid (t':=s2.toks) (fun b u e=>FM _ e) (FQ _) ⟨by show 0<=sizeLine;exact Gw _,[],0,.nil,FY _ rfl⟩
 obtain⟨Wv,⟨m0,w0⟩,turn⟩:=q2 _ hD
 have tn3:tn 0 (s2.heap.push {cls:=.type "list", data:=.seq ([]:List Value).toArray}):=T.keep _ _ _ st2 fun b _ o e=>FM _ e
 have fpD:∀b∈fp,(Cs H2 s2.heap.objs.size (.lst [])) b=none:=fun b hb=>by
  obtain⟨o,e,_⟩:=T.obj _ _ st2 b hb
  rw[ar (Gx (FW e))]
  exact(f2 b hb).1
 have fp3:∀b∈fp,b<(s2.heap.push {cls:=.type "list", data:=.seq ([]:List Value).toArray}).objs.size:=fun b hb=>by
  obtain⟨o,e,_⟩:=T.obj _ _ tn3 b hb
  exact FW e
 exact dS N' fr hc hkind hcell hfree frl frg cl1 cl2 I3 T tn3 fpD fp3 (fun b hb=>(f2 b hb).2)
  (fun s' IY tY stat=>rf (Y:=blk X N' scope ⟨cl,fp,X.pn++pins,_,_⟩) hc rfl (hg ⟨cl,fp,X.pn++pins,_,_⟩) (ht ⟨cl,fp,X.pn++pins,_,_⟩) (hj ⟨cl,fp,X.pn++pins,_,_⟩) (hg2 ⟨cl,fp,X.pn++pins,_,_⟩) (ht2 ⟨cl,fp,X.pn++pins,_,_⟩) (he ⟨cl,fp,X.pn++pins,_,_⟩) (hs2 ⟨cl,fp,X.pn++pins,_,_⟩) T IY tY fpD stat w0 (turn ⟨cl,fp,X.pn++pins,_,_⟩))
  (Rp:=L4 (Gn X.prog X.w) X.A X.xe none (EP X pins σ Q) (.ref s2.heap.objs.size)) fun s5 H4 m hn k _ qn=>⟨m,hn,fun h' hs'=>⟨.ref _,H4,k h' hs',rfl,qn⟩⟩
theorem jL{b:Bool}{ix:Nat}(N':List Str)(fr:List (Option Nat))(hc:X.calm=true)(hi:PI X t1 i1 wi)(hfr:lm fr N' X.N scope X.env.scope=true)(hsc:lI scope X.env.scope=true)
 (hg:∀y,PG (blk X N' scope y) t1 (g y))(ht:∀y,ER (blk X N' scope y) f1 (tt y))(hj:∀y,PI (blk X N' scope y) t2 i2 (wj y))(hg2:∀y,PG (blk X N' scope y) t2 (g2 y))(ht2:∀y,ER (blk X N' scope y) f2 (tt2 y))(he:∀y,PE (blk X N' scope y) elt (te y))
 (hN:X.N.Nodup)(hix:X.N[ix]?=some x)(hx:Loc X.env.scope x)(hf:X.fn x=true\/X.env.scope.names.lookup x=some .local)(hsw:HS (DO elt t1 i1 f1 t2 i2 f2 scope pos) (some (.Name x px)) spos.line X.env=pure b)
 (hs:∀x,Gj i1 X.env x=pure x)(hs2:∀y x,Gj i2 (blk X N' scope y).env x=pure x):PS X (.Assign [.Name x px] (DO elt t1 i1 f1 t2 i2 f2 scope pos) spos) (vB (mX wi fr g tt wj g2 tt2 te) (iq ix)):=by
 cases b with
 | false=>exact fN hN hix hx (jc N' fr hc hi hfr hsc hg ht hj hg2 ht2 he hs hs2) hsw hf
 | true =>
 intro pins s σ H DD I h
 obtain⟨hkind,hcell,hnames,hfree⟩:=lI.get hsc
 obtain⟨frl,frg⟩:=lm.get hfr
 obtain⟨cl,hclos,cl1,cl2⟩:=b_ (env:=X.env) (scope:=scope) fun y hy hl=>I.ok.has y.1 (hfree y hy hl)
 rw[JD _ _ _ _ hsw]
 refine FI (HD (FI ?_))
 show Gb _ X.A (do let _ <- L5 (DO elt t1 i1 f1 t2 i2 f2 scope pos) scope X.env _ (newList []) false (eval i1 X.env) (some (IS (.Name x px) X.env))) _ _ s
 refine FI (Gr (HF (use:=some (IS (.Name x px) X.env)) (Q:=fun _ s'=>SP X pins DD .next s') rfl hs hclos hkind hnames
  (CF (hi pins s σ H _ I h) fun v s1 h1=>CF h1 fun itv s2 h2=>?_)) (fun _ s' hq=>FS (FS hq)) fun _ _ e=>e)
 obtain⟨it,fp,tn,J,H2,e,I2,T,st2,f2,q2⟩:=h2
 subst e
 refine GP ?_
 have hD:H2 s2.heap.objs.size=none:=I2.hok.fresh (FQ _)
 have I3:Inv X pins σ (Cs H2 s2.heap.objs.size (.lst [])) {s2 with heap:=s2.heap.push {cls:=.type "list", data:=.seq ([]:List Value).toArray}} :=
  I2.laid (t':=s2.toks) (fun b u e=>FM _ e) (FQ _) ⟨by show 0<=sizeLine;exact Gw _,[],0,.nil,FY _ rfl⟩
 obtain⟨Wv,⟨m0,w0⟩,turn⟩:=q2 _ hD
 have tn3:tn 0 (s2.heap.push {cls:=.type "list", data:=.seq ([]:List Value).toArray}):=T.keep _ _ _ st2 fun b _ o e=>FM _ e
 have fpD:∀b∈fp,(Cs H2 s2.heap.objs.size (.lst [])) b=none:=fun b hb=>by
  obtain⟨o,e,_⟩:=T.obj _ _ st2 b hb
  rw[ar (Gx (FW e))]
  exact(f2 b hb).1
 have fp3:∀b∈fp,b<(s2.heap.push {cls:=.type "list", data:=.seq ([]:List Value).toArray}).objs.size:=fun b hb=>by
  obtain⟨o,e,_⟩:=T.obj _ _ tn3 b hb
  exact FW e
 refine dS (Q:=fun v H1=>iq ix v σ H1 DD.nx) N' fr hc hkind hcell hfree frl frg cl1 cl2 I3 T tn3 fpD fp3 (fun b hb=>(f2 b hb).2)
  (fun s' IY tY stat=>rf (Y:=blk X N' scope ⟨cl,fp,X.pn++pins,_,_⟩) (Q:=fun v H1=>iq ix v σ H1 DD.nx) hc rfl (hg ⟨cl,fp,X.pn++pins,_,_⟩) (ht ⟨cl,fp,X.pn++pins,_,_⟩) (hj ⟨cl,fp,X.pn++pins,_,_⟩) (hg2 ⟨cl,fp,X.pn++pins,_,_⟩) (ht2 ⟨cl,fp,X.pn++pins,_,_⟩) (he ⟨cl,fp,X.pn++pins,_,_⟩) (hs2 ⟨cl,fp,X.pn++pins,_,_⟩) T IY tY fpD stat w0 (turn ⟨cl,fp,X.pn++pins,_,_⟩))
  (Rp:=L4 (Gn X.prog X.w) X.A X.xe (some (IS (.Name x px) X.env)) (fun _ s'=>SP X pins DD .next s') (.ref s2.heap.objs.size)) fun s5 H4 m hn k fpo qn=>?_
 show Gb _ X.A (IS (.Name x px) X.env (.ref s2.heap.objs.size)) _ _ s5
 have I5:Inv X pins σ H4 s5:=k s5.heap (Ko _ _)
 obtain⟨f0,f1,f2',f3,f4,f5⟩:=fpo
 refine Jv (dY I5 hN hix hx (v:=.ref s2.heap.objs.size) rfl (fun s6 I6 sb=>?_) hf)
 obtain⟨a,sb,ha⟩:=sb
 have hne:(s2.heap.push {cls:=.type "list", data:=.seq ([]:List Value).toArray}).objs.size≠a:=by
  rcases ha with rfl|ha
  · exact f1
  · exact fun z=>f4 x a ha z.symm
 refine⟨m,hn.at' fun o e=>sb.extBut _ o hne e,fun h' hs'=>?_⟩
 exact⟨_,H4,I6.turned (t':=s6.toks) (fun b o hb e=>hs'.extBut b o hb e) f0 f1 f3 f4 f5,qn⟩
end
end L2
namespace L2.VL
def pv(ρ0:En)(g:EE)(ft:TB)(fj:En->(List FH->Prop)->Prop)(g2:EE)(ft2:TB)(fe:TV):List FH->List FH->(List FH->Prop)->Prop
 | [],acc,Q=>Q acc
 | x::xs,acc,Q=>g x ρ0 fun ρ2=>Le ρ0 ρ2/\ft ρ2 fun b=>if b=true then fj ρ2 fun ys=>kH ρ2 g2 ft2 fe ys acc fun acc'=>pv ρ0 g ft fj g2 ft2 fe xs acc' Q else pv ρ0 g ft fj g2 ft2 fe xs acc Q
def kJ(fi:En->(List FH->Prop)->Prop)(fr:List (Option Nat))(g:EE)(ft:TB)(fj:En->(List FH->Prop)->Prop)(g2:EE)(ft2:TB)(fe:TV):TV:=fun ρ Q=>fi ρ fun xs=>pv (dR fr ρ) g ft fj g2 ft2 fe xs [] fun ds=>Q (.ml ds)
section
variable{X:Cx}{rl:RlT}{elt t1 i1 t2 i2:Expr}{f1 f2:List Expr}{scope:Scope}{pos:Pos}{fi fj:En->(List FH->Prop)->Prop}{g g2:EE}{ft ft2:TB}{fe:TV}
theorem lc{wi:TI}(fr:List (Option Nat))(k0:∀{F₀ H₀ F H:Hp}{σ:St}{ρ:En},VR X.K rl F₀ H₀ F H σ ρ->∀(Qd:List FH->Prop)(R:It->Hp->Prop),fi ρ Qd ->
 (∀J xs F' H',Grow rl F H F' H'->VIt X.K rl F' J xs->Qd xs->R J H')->wi σ H R)
 (hg:∀y,E1 (blk X N' scope y) rl t1 g)(ht:∀y,lV (blk X N' scope y) rl f1 ft)(hj:∀y,EX (blk X N' scope y) rl t2 i2 fj)(hg2:∀y,E1 (blk X N' scope y) rl t2 g2)(ht2:∀y,lV (blk X N' scope y) rl f2 ft2)(he:∀y,PV (blk X N' scope y) rl elt fe)
 (R:VR X.K rl F₀ H₀ F H σ ρ)(Qd:W->Prop)(Q:VK)(q:kJ fi fr g ft fj g2 ft2 fe ρ Qd)
 (k:∀v w F' H',Grow rl F H F' H'->cQ X.K rl F' H' v w->dq H v w->Qd w->Q v H') :
 mX wi fr (fun y=>Gc (hg y)) (fun y=>Gc (ht y)) (fun y=>Gc (hj y)) (fun y=>Gc (hg2 y)) (fun y=>Gc (ht2 y)) (fun y=>Gc (he y)) σ H Q:=by
 refine k0 R _ _ q fun J xs F1 H1 g1 vi q1=>?_
 intro D hD
 have rD:rl.a≠some D:=fun e=>by obtain⟨o,z⟩:=g1.reel.live e;rw[hD]at z;cases z
 have FD:F1 D=none:=g1.sub.free hD
 have gD:Grow rl F1 H1 F1 (Cs H1 D (.lst [])):=Grow.laid g1.sub g1.reel hD
 have R1:=R.grow g1
 have n0:lX (dR fr ρ):=dA
 have keepD:∀{acc:List V}{Fc Hc Fx Hx:Hp},Hc D=some (.lst acc)->Fc D=none->Grow rl Fc Hc Fx Hx->Hx D=some (.lst acc)/\Fx D=none:=fun hDc fDc gx=>⟨gx.same D _ hDc rD,by rw[gx.old D _ hDc];exact fDc⟩
 refine⟨fun i m acc σc Hc=>m=xs.length-i/\i<=xs.length/\∃Fc ds,VR X.K rl F1 H1 Fc Hc σc (dR fr ρ)/\Hc D=some (.lst acc)/\Fc D=none/\Reps X.K Fc acc ds/\pv (dR fr ρ) g ft fj g2 ft2 fe (xs.drop i) ds (fun ds=>Qd (.ml ds)),
  ⟨xs.length,by simp,Gw _,F1,[],fy R1 gD,av,FD,.nil,by simpa using q1⟩,?_⟩
 rintro z i m acc σc Hc ⟨rfl,hi,Fc,ds,Rc,hDc,fDc,rs,q2⟩
 have sH:bC F1 Hc:=Rc.g.fs.trans Rc.sub
 by_cases hlt:i<xs.length
 · have ei:xs[i]?=some xs[i]:=by simp[hlt]
   have ed:xs.drop i=xs[i]::xs.drop (i+1):=GV hlt
   rw[ed]at q2
   refine .inr ⟨vi.go i Hc _ ei sH,fun v H' y=>?_⟩
   obtain⟨Fy,gy,rv⟩:=vi.yld i Hc v H' _ Fc ei Rc.g.fs Rc.sub Rc.reel y
   refine(FK (hg z)).2 (Rc.grow gy) v _ _ _ rv q2 fun F3 H3 σ3 ρ3 g3 n3 R3 ⟨le3,q3⟩=>?_
   refine(FK (ht z)).2 R3 _ _ q3 fun b F4 H4 g4 q4=>?_
   have R4:=R3.grow g4
   have g34:=(gy.trans g3).trans g4
   have nm3:lX ρ3:=n3 n0
   cases b with
   | false=>exact⟨xs.length-(i+1),by omega,rfl,hlt,F4,ds,R4.le le3,(keepD hDc fDc g34).1,(keepD hDc fDc g34).2,rs.mono g34.fs,q4⟩
   | true =>
     refine(FK (hj z)).2 R4 _ _ q4 fun J2 ys F5 H5 g5 vi2 q5=>?_
     have g35:=g34.trans g5
     refine⟨fun j m acc σe He=>m=ys.length-j/\j<=ys.length/\∃Fe es,VR X.K rl F1 H1 Fe He σe ρ3/\bC F5 Fe/\He D=some (.lst acc)/\Fe D=none/\Reps X.K Fe acc es /\
      kH ρ3 g2 ft2 fe (ys.drop j) es (fun es=>pv (dR fr ρ) g ft fj g2 ft2 fe (xs.drop (i+1)) es (fun ds=>Qd (.ml ds))),
      ⟨ys.length,by simp,Gw _,F5,ds,R4.grow g5,.refl _,(keepD hDc fDc g35).1,(keepD hDc fDc g35).2,rs.mono g35.fs,by simpa using q5⟩,?_⟩
     rintro j m acc2 σe He ⟨rfl,hj',Fe,es,Re,s5,hDe,fDe,res,q6⟩
     have sHe:bC F5 He:=s5.trans Re.sub
     by_cases hlt2:j<ys.length
     · have ej:ys[j]?=some ys[j]:=by simp[hlt2]
       have edj:ys.drop j=ys[j]::ys.drop (j+1):=GV hlt2
       rw[edj]at q6
       refine .inr ⟨vi2.go j He _ ej sHe,fun v2 H2' y2=>?_⟩
       obtain⟨Fy2,gy2,rv2⟩:=vi2.yld j He v2 H2' _ Fe ej s5 Re.sub Re.reel y2
       refine(FK (hg2 z)).2 (Re.grow gy2) v2 _ _ _ rv2 q6 fun F7 H7 σ7 ρ7 g7 n7 R7 ⟨le7,q7⟩=>?_
       refine(FK (ht2 z)).2 R7 _ _ q7 fun b2 F8 H8 g8 q8=>?_
       have R8:=R7.grow g8
       have g78:=(gy2.trans g7).trans g8
       cases b2 with
       | false=>exact⟨ys.length-(j+1),by omega,rfl,hlt2,F8,es,R8.le le7,s5.trans g78.fs,(keepD hDe fDe g78).1,(keepD hDe fDe g78).2,res.mono g78.fs,q8⟩
       | true =>
         refine(FK (he z)).2 R8 _ _ q8 fun v9 w9 F9 H9 g9 r9 n9 ⟨d,ed9,hl,q9⟩=>?_
         obtain⟨F10,g10,s10,r10⟩:=cQ.fz g9 r9 n9
         rw[ed9]at r10
         have g710:=g78.trans g10
         refine⟨(keepD hDe fDe g710).1,by rw[res.length];exact hl,ys.length-(j+1),by omega,rfl,hlt2,F10,es++[d],((R8.grow g10).le le7).other nm3 hD (keepD hDe fDe g710).2 rD,s5.trans g710.fs,av,(keepD hDe fDe g710).2,(res.mono g710.fs).snoc r10,q9⟩
     · have e:j=ys.length:=by omega
       subst e
       rw[HW]at q6
       exact .inl ⟨vi2.stop _ He (FQ _) sHe,xs.length-(i+1),by omega,rfl,hlt,Fe,es,Re.le le3,hDe,fDe,res,q6⟩
 · have e:i=xs.length:=by omega
   subst e
   rw[HW]at q2
   refine .inl ⟨vi.stop _ Hc (FQ _) sH,k _ (.ml ds) Fc Hc (g1.trans Rc.g) ⟨D,acc,rfl,fDc,rD,hDc,rs⟩ (fun a ea=>by cases ea;exact g1.freeB hD) q2⟩
theorem pq(N':List Str)(fr:List (Option Nat))(hc:X.calm=true)(hi:EX X rl t1 i1 fi)
 (hg:∀y,E1 (blk X N' scope y) rl t1 g)(ht:∀y,lV (blk X N' scope y) rl f1 ft)(hj:∀y,EX (blk X N' scope y) rl t2 i2 fj)(hg2:∀y,E1 (blk X N' scope y) rl t2 g2)(ht2:∀y,lV (blk X N' scope y) rl f2 ft2)(he:∀y,PV (blk X N' scope y) rl elt fe)
 (hfr:lm fr N' X.N scope X.env.scope=true:=by rfl)(hsc:lI scope X.env.scope=true:=by rfl)
 (hs:∀x,Gj i1 X.env x=pure x:=by intro _;rfl)(hs2:∀y x,Gj i2 (blk X N' scope y).env x=pure x:=by intro _ _;rfl):PV X rl (.ListComp elt [⟨t1,i1,f1,0⟩,⟨t2,i2,f2,0⟩] scope pos) (kJ fi fr g ft fj g2 ft2 fe):=by
 obtain⟨wi,p0,k0⟩:=hi
 exact⟨_,jc N' fr hc p0 hfr hsc (fun y=>(FK (hg y)).1) (fun y=>(FK (ht y)).1) (fun y=>(FK (hj y)).1) (fun y=>(FK (hg2 y)).1) (fun y=>(FK (ht2 y)).1) (fun y=>(FK (he y)).1) hs hs2,
  fun R Qd Q q k=>lc fr k0 hg ht hj hg2 ht2 he R Qd Q q k⟩
theorem fE(i:Nat){b:Bool}(hN:X.N.Nodup)(N':List Str)(fr:List (Option Nat))(hc:X.calm=true)(hi:EX X rl t1 i1 fi)
 (hg:∀y,E1 (blk X N' scope y) rl t1 g)(ht:∀y,lV (blk X N' scope y) rl f1 ft)(hj:∀y,EX (blk X N' scope y) rl t2 i2 fj)(hg2:∀y,E1 (blk X N' scope y) rl t2 g2)(ht2:∀y,lV (blk X N' scope y) rl f2 ft2)(he:∀y,PV (blk X N' scope y) rl elt fe)
 (hsw:HS (.ListComp elt [⟨t1,i1,f1,0⟩,⟨t2,i2,f2,0⟩] scope pos) (some (.Name x px)) spos.line X.env=pure b:=by rfl)
 (hix:X.N[i]?=some x:=by rfl)(hx:Loc X.env.scope x:=by first|exact Ix rfl|exact HN rfl)(hf:X.fn x=true\/X.env.scope.names.lookup x=some .local:=by first|exact .inl rfl|exact .inr rfl)
 (hfr:lm fr N' X.N scope X.env.scope=true:=by rfl)(hsc:lI scope X.env.scope=true:=by rfl)
 (hs:∀x,Gj i1 X.env x=pure x:=by intro _;rfl)(hs2:∀y x,Gj i2 (blk X N' scope y).env x=pure x:=by intro _ _;rfl) :
 EU X rl (.Assign [.Name x px] (.ListComp elt [⟨t1,i1,f1,0⟩,⟨t2,i2,f2,0⟩] scope pos) spos) (lB i (kJ fi fr g ft fj g2 ft2 fe)):=by
 obtain⟨wi,p0,k0⟩:=hi
 refine⟨_,jL N' fr hc p0 hfr hsc (fun y=>(FK (hg y)).1) (fun y=>(FK (ht y)).1) (fun y=>(FK (hj y)).1) (fun y=>(FK (hg2 y)).1) (fun y=>(FK (ht2 y)).1) (fun y=>(FK (he y)).1) hN hix hx hf hsw hs hs2,
  fun R Dv D ok q=>lc fr k0 hg ht hj hg2 ht2 he R _ _ q fun v w F1 H1 g1 r1 n1 ⟨d,ed,q1⟩=>?_⟩
 obtain⟨F2,g2,s2,r2⟩:=cQ.fz g1 r1 n1
 rw[ed]at r2
 exact ok.nx _ _ _ _ g2.fs (R.set g2 r2 trivial (fun xs z=>by cases z) i) q1
end
def rn(ρ0:En)(g:EE)(ft:TB)(fj:En->(List FH->Prop)->Prop)(g2:EE)(ft2:TB)(fe:TV)(x:FH)(acc:List FH):Mo (List FH) :=
 Ek (g x ρ0) fun ρ2=>D2 (Le ρ0 ρ2) (Ek (ft ρ2) fun b=>if b=true then Ek (fj ρ2) fun ys=>cp (DR ρ2 g2 ft2 fe) ys acc else ret acc)
def eG(b:FH->List FH->Mo (List FH)):List FH->List FH->Mo (List FH)
 | [],acc=>ret acc
 | x::xs,acc=>Ek (b x acc) (eG b xs)
theorem ls(ρ0:En)(g:EE)(ft:TB)(fj:En->(List FH->Prop)->Prop)(g2:EE)(ft2:TB)(fe:TV):∀(xs acc:List FH),pv ρ0 g ft fj g2 ft2 fe xs acc=eG (rn ρ0 g ft fj g2 ft2 fe) xs acc
 | [],acc=>rfl
 | x::xs,acc=>by
   refine ag fun Q=>?_
   show(g x ρ0 fun ρ2=>Le ρ0 ρ2/\ft ρ2 fun b=>if b=true then fj ρ2 fun ys=>kH ρ2 g2 ft2 fe ys acc fun acc'=>pv ρ0 g ft fj g2 ft2 fe xs acc' Q else pv ρ0 g ft fj g2 ft2 fe xs acc Q)↔(Ek (rn ρ0 g ft fj g2 ft2 fe x acc) (eG (rn ρ0 g ft fj g2 ft2 fe) xs)) Q
   simp only[ls ρ0 g ft fj g2 ft2 fe xs,iC]
   have:∀(ρ2:En)(b:Bool),(if b=true then fj ρ2 fun ys=>cp (DR ρ2 g2 ft2 fe) ys acc fun acc'=>eG (rn ρ0 g ft fj g2 ft2 fe) xs acc' Q else eG (rn ρ0 g ft fj g2 ft2 fe) xs acc Q)
    = (Ek (if b=true then Ek (fj ρ2) fun ys=>cp (DR ρ2 g2 ft2 fe) ys acc else ret acc) (eG (rn ρ0 g ft fj g2 ft2 fe) xs)) Q:=by
    intro ρ2 b
    cases b<;>rfl
   simp only[this]
   exact Jy
theorem m_comp2(fi:En->(List FH->Prop)->Prop)(fr:List (Option Nat))(g:EE)(ft:TB)(fj:En->(List FH->Prop)->Prop)(g2:EE)(ft2:TB)(fe:TV)(ρ:En) :
 kJ fi fr g ft fj g2 ft2 fe ρ=Ek (fi ρ) fun xs=>Ek (eG (rn (dR fr ρ) g ft fj g2 ft2 fe) xs []) fun ds=>ret (.ml ds):=by
 refine ag fun Q=>?_
 show(fi ρ fun xs=>pv (dR fr ρ) g ft fj g2 ft2 fe xs [] fun ds=>Q (.ml ds))↔_
 simp only[ls]
 exact Jy
section
variable{α β:Type}{b:FH->Mo (Option FH)}
theorem jZ{c:FH->List FH->Mo (List FH)}{xs:List α}{enc:α->FH}(F:α->List FH)(h:∀x∈xs,∀acc:List FH,acc.length+(F x).length<=sizeLine->c (enc x) acc=ret (acc++F x)) :
 ∀acc:List FH,acc.length+(xs.flatMap F).length<=sizeLine->eG c (xs.map enc) acc=ret (acc++xs.flatMap F):=by
 induction xs with
 | nil=>intro acc _;show ret acc=_;simp
 | cons x xs ih =>
   intro acc hl
   rw[Ku,Gg]at hl
   show Ek (c (enc x) acc) _=_
   rw[h x FT acc (by omega),bnd_ret,ih (fun y my=>h y (FP _ my)) (acc++F x) (by rw[Gg];omega),Ku,List.append_assoc]
theorem zF{γ:Type}{c:FH->List FH->Mo (List FH)}{k:List FH->Mo γ}{Q:γ->Prop}{xs:List α}{enc:α->FH}(F:α->List FH)(hx:xs'=xs.map enc)
 (h:∀x∈xs,∀acc:List FH,acc.length+(F x).length<=sizeLine->c (enc x) acc=ret (acc++F x))(hl:(xs.flatMap F).length<=sizeLine)(fin:k (xs.flatMap F) Q):Ek (eG c xs' []) k Q:=by
 subst hx
 rw[jZ F h [] (by simpa using hl),bnd_ret]
 simpa using fin
end
def FG:=FJ @m_comp2 (@bnd_ret)
end L2.VL
namespace L2.ZP
section
variable{prog:Gi}{w:G5}{A:Hf}{E:Value->FO->Prop}{s:FO}{z it a:Addr}{k:Nat}{xs:Array Value}{x p:Value}{b:Bool}
abbrev e2(h:Heap)(b:Bool)(a:Addr):Heap:=(y1 h b a).push {cls:=.type "enumerate", data:=.fields #[.none,.bool false,.ref h.objs.size,Mp 0,.none,.none]}
theorem qB(b:Bool)(a:Addr)(o:Obj)(xs:Array Value)(hr:∀h:Heap,h.get? a=some o->EJ b h a xs) :
 Meets (Builtin.«enumerate.__new__» ⟨[.type "enumerate", .ref a],[]⟩) (fun _ R s=>s.heap.get? a=some o/\R (.ok (.ret (.ref (y1 s.heap b a).objs.size))) {s with heap:=e2 s.heap b a}) :=
 .of_wp fun prog w A R s h=>by
  obtain⟨hp,g,d,tk,os⟩:=s
  obtain⟨l0,h⟩:=h
  have hsub:=sub_enumerate
  have k1:EJ b (Mw ⟨hp,g,d,tk,os⟩) a xs:=hr _ l0
  wp_walk using Jk l0
  refine wpAny_stack_any fun st=>FS ?_
  split
  · rename_i c _ _ _ _ _
    cases(c==Value.type "enumerate")<;>(wp_walk using Jk l0,qi k1;exact⟨_,rfl,h⟩)
  · wp_walk using Jk l0,qi k1
    exact⟨_,rfl,h⟩
theorem EJ.obj(q:EJ b h a xs):∃o,h.get? a=some o/\∀h':Heap,h'.get? a=some o->EJ b h' a xs:=by
 cases b with
 | true=>obtain⟨o,h1,r⟩:=(show h.IsTuple a xs from q);exact⟨o,h1,fun h' e=>⟨o,e,r⟩⟩
 | false=>obtain⟨o,h1,r⟩:=(show h.IsList a xs from q);exact⟨o,h1,fun h' e=>⟨o,e,r⟩⟩
theorem oV(q1:EJ b s.heap a xs)
 (done:∀g,MA g (s.heap.objs.size+1) s.heap.objs.size 0 .none->Fh g s.heap.objs.size a xs 0->g.objs.size=s.heap.objs.size+2->(∀c o,s.heap.get? c=some o->g.get? c=some o)->Q (.ref (s.heap.objs.size+1)) {s with heap:=g}) :
 Gb (Gn prog w) A (call (.type "enumerate") [.ref a]) Q E s:=by
 obtain⟨o,h1,hr⟩:=q1.obj
 refine callType_new F.called_enumerate (by decide) (F.typeCall_enumerate_1 _) (F.newCall_enumerate_1 _) (fun u=>F.args_object_init_2 u _) F.entry_enumerate_new (qB b a o xs hr) ⟨h1,?_⟩
 have n1:(y1 s.heap b a).objs.size=s.heap.objs.size+1:=Ho ..
 have n2:(e2 s.heap b a).objs.size=s.heap.objs.size+2:=by rw[Ho,n1]
 have pu:∀{h:Heap}{o u:Obj}{c:Addr},h.get? c=some u->(h.push o).get? c=some u:=fun e=>FM _ e
 have kp:∀c o,s.heap.get? c=some o->(e2 s.heap b a).get? c=some o:=fun c o e=>pu (pu e)
 have f2:(e2 s.heap b a).get? (y1 s.heap b a).objs.size=some _:=FY _ rfl
 have f1:(e2 s.heap b a).get? s.heap.objs.size=some _:=pu (FY _ rfl)
 show _/\_
 rw[n1]at f2
 rw[n1]
 have mk:Fh (e2 s.heap b a) s.heap.objs.size a xs 0:=by
  have e:=hr _ (kp _ _ h1)
  cases b with
  | true=>exact .inr ⟨⟨_,f1,rfl,rfl⟩,e⟩
  | false=>exact .inl ⟨⟨_,f1,rfl,rfl⟩,e⟩
 exact⟨⟨_,f2,rfl⟩,done _ f2 mk n2 kp⟩
theorem ue(oz:MA s.heap z it k p)(s1:Fh s.heap it a xs k)(ex:xs[k]?=some x)(ne:z≠it)(nz:a≠z)(ni:a≠it)
 (done:∀g,IsEnumOut g z it ((k:Int)+1) x s.heap.objs.size->Fh g it a xs (k+1)->g.get? s.heap.objs.size=some {cls:=.type "tuple", data:=.seq #[.int k s.toks,x]}->g.objs.size=s.heap.objs.size+1 ->
  (∀b o,b≠z->b≠it->s.heap.get? b=some o->g.get? b=some o)->Q (.ref s.heap.objs.size) {s with heap:=g,toks:=s.toks+1}) :
 Gb (Gn prog w) A (Builtin.«enumerate.__next__» ⟨[.ref z],[]⟩) (fun r s'=>∃u,r = .done (.ret u)/\Q u s') E s:=by
 show Gb _ _ (do let c <- Mu (.ref z) 2;_) _ _ _
 refine FI (Ha oz rfl (x:=.ref it) rfl ?_)
 refine FI (s1.item ni ex fun g1 s1a b1=>?_)
 have z1:MA g1 z it k p:=b1.extBut _ _ ne oz
 show Gb _ _ (do let c <- Mu (.ref z) 3;_) _ _ _
 refine FI (Ha z1 rfl (x:=Mp k) rfl ?_)
 show Gb _ _ (do let c <- Mu (.ref z) 4;_) _ _ _
 refine FI (Ha z1 rfl (x:=.none) rfl ?_)
 show Gb _ _ (do let c <- mkInt k;_) _ _ _
 refine FI (wpAny_mkInt ?_)
 show Gb _ _ (do setField (.ref z) 3 (Mp ((k:Int)+1));_) _ _ _
 refine FI (Hg z1 (by simp) fun g2 z2 b2=>?_)
 have z2:MA g2 z it ((k:Int)+1) p:=z2
 show Gb _ _ (do setField (.ref z) 4 .none;_) _ _ _
 refine FI (Hg z2 (by simp) fun g3 z3 b3=>?_)
 have z3:MA g3 z it ((k:Int)+1) p:=z3
 have size:g3.objs.size=s.heap.objs.size:=by rw[b3.1,b2.1,b1.1]
 have s3:Fh g3 it a xs (k+1):=(s1a.keep (SameBut.keep b2 ne.symm) (SameBut.keep b2 nz)).keep (SameBut.keep b3 ne.symm) (SameBut.keep b3 nz)
 have k3:∀b o,b≠z->b≠it->s.heap.get? b=some o->g3.get? b=some o:=fun b o n1 n2 e=>b3.extBut _ _ n1 (b2.extBut _ _ n1 (b1.extBut _ _ n2 e))
 have zl:z<g3.objs.size:=FW z3
 show Gb _ _ (do let c <- newTuple [.int k s.toks,x];_) _ _ _
 refine FI (wpAny_newTuple ?_)
 have z4:MA (g3.push {cls:=.type "tuple", data:=.seq #[.int k s.toks,x]}) z it ((k:Int)+1) p:=FM _ z3
 show Gb _ _ (do let c <- GX (.ref z);_) _ _ _
 refine FI ?_
 unfold GX
 refine FI (Ha z4 rfl (x:=Jh) rfl (FS ?_))
 simp only[if_true]
 refine FI (Ji (FI (Ha z4 rfl (x:=p) rfl (FI (Hg z4 (by simp) fun g5 z5 b5=>?_)))))
 have z5:MA g5 z it ((k:Int)+1) x:=z5
 show Gb _ _ (do HA (.ref z) (.ref g3.objs.size);_) _ _ _
 refine FI ?_
 unfold HA
 refine FI (Hg z5 (by simp) fun g6 z6 b6=>?_)
 have z6:IsEnumOut g6 z it ((k:Int)+1) x g3.objs.size:=z6
 refine Hg z6 (by simp) fun g7 z7 b7=>?_
 have z7:IsEnumOut g7 z it ((k:Int)+1) x g3.objs.size:=z7
 have up:∀b o,b≠z->g3.get? b=some o->g7.get? b=some o:=fun b o n e=>b7.extBut _ _ n (b6.extBut _ _ n (b5.extBut _ _ n (FM _ e)))
 have t7:g7.get? g3.objs.size=some {cls:=.type "tuple", data:=.seq #[.int k s.toks,x]} :=
  b7.extBut _ _ (H0 zl) (b6.extBut _ _ (H0 zl) (b5.extBut _ _ (H0 zl) (FY _ rfl)))
 have l7:g7.objs.size=g3.objs.size+1:=by rw[b7.1,b6.1,b5.1,Ho]
 rw[size]at z7 t7 l7
 refine FI (Jd (FS ⟨_,rfl,?_⟩))
 show Q (.ref g3.objs.size) _
 rw[size]
 exact done g7 z7 (s3.keep (fun o e=>up _ o ne.symm e) fun o e=>up _ o nz e) t7 l7 fun b o n1 n2 e=>up b o n1 (k3 b o n1 n2 e)
end
end L2.ZP
namespace L2
open PySem PySem.Spec PyProof.Rows L2.ZP
def Fg(K:W.Frag)(b:Bool)(a:Addr):It :=
 ⟨fun i H=>∃xs x,EI b K H a xs/\xs[i]?=some x,
  fun i H v H'=>∃x p,(∀xs,EI b K H a xs->xs[i]?=some x)/\H p=none/\v = .ref p/\H'=Cs H p (.tup [.int i,x]),
  fun i H=>∃xs,EI b K H a xs/\xs.length<=i⟩
def ES(b:Bool)(z it a:Addr)(i:Nat)(h:Heap):Prop:=(∃p,MA h z it i p)/\Fi b h it a i
theorem mR{w:G5}{K:W.Frag}{elts:List Expr}{kt:Nat}{pt:Pos}(b:Bool)(z it a:Addr)(ne:z≠it)(nz:a≠z)(ni:a≠it) :
 Turn P w K (.Tuple elts kt pt) (Fg K b a) [z,it] z (ES b z it a) where
 mem:=by simp
 obj:=fun i h ⟨⟨p,h1⟩,h4⟩ c hb=>by
  simp at hb
  rcases hb with rfl|rfl
  · exact⟨_,h1,fun v c=>by cases c⟩
  · exact h4.obj
 keep:=fun i h h' ⟨⟨p,h1⟩,h4⟩ k=>⟨⟨p,k z (by simp) _ h1⟩,h4.keep fun o e=>k it (by simp) o e⟩
 item:=by
  intro X hP hw hK hc i pins s σ H E I hf st hg
  subst hP hw hK
  obtain⟨⟨p,h1⟩,h4⟩:=st
  obtain⟨xs,x,q1,ex⟩:=hg
  obtain⟨its,r1,t1⟩:=I.sqB q1
  obtain⟨u,hu,ru⟩:=r1.get ex
  have ty:s.TypeIs (.ref z) "enumerate" := ⟨_,h1,rfl⟩
  unfold Ki
  refine FI (KG (G3 (name:=F0 "__next__") ty F.slot_enumerate_next (HI F.slot_enumerate_next ty F.entry_enumerate_next
   (ue h1 (h4.it1 t1) (by simpa using hu) ne nz ni fun g e1 e3 e5 e6 e7=>FS ?_) (F.args_enumerate_next_1 _))))
  have hz:s.heap.objs.size≠z:=H0 (FW h1)
  refine⟨.ref s.heap.objs.size,rfl,wpAny_letOwnedTupleGo_enum e1 fun g' f1 fb=>?_⟩
  have hp:H s.heap.objs.size=none:=I.hok.fresh (FQ _)
  have I1:Inv X pins σ (Cs H s.heap.objs.size (.tup [.int i,x])) {s with heap:=s.heap.push {cls:=.type "tuple", data:=.seq [.int i s.toks,u].toArray},toks:=s.toks+1} :=
   I.laid (t':=s.toks+1) (o:=.tup [.int i,x]) (fun b ob e=>FM _ e) (FQ _) ⟨(by show 2<=sizeLine;decide),[.int i s.toks,u],.cons ⟨_,rfl⟩ (.cons ru .nil),o7.new _ _⟩
  have ne':∀b∈[z,it],b≠s.heap.objs.size:=fun b hb e=>by
   simp at hb
   rcases hb with rfl|rfl
   · exact hz e.symm
   · obtain⟨o,ho,_⟩:=h4.obj
     exact absurd (FW ho) (by rw[e];exact GT _)
  have kg:∀b o,b∉[z,it]->(s.heap.push {cls:=.type "tuple", data:=.seq [.int i s.toks,u].toArray}).get? b=some o->g'.get? b=some o:=fun b o hb e=>by
   simp at hb
   obtain⟨n1,n2⟩:=hb
   refine fb.extBut _ _ n1 ?_
   by_cases hbn:b=s.heap.objs.size
   · subst hbn
     rw[FY _ rfl]at e
     cases e
     exact e5
   · exact e7 b o n1 n2 (by rw[Heap.get?_push_ne _ _ _ hbn]at e;exact e)
  have fp1:∀b∈[z,it],iF X pins (Cs H s.heap.objs.size (.tup [.int i,x])) b:=fun b hb=>by
   obtain⟨f0,fr⟩:=hf b hb
   exact⟨by rw[ar (ne' b hb)];exact f0,fr⟩
  have I2:Inv X pins σ (Cs H s.heap.objs.size (.tup [.int i,x])) {s with heap:=g',toks:=s.toks+1}:=I1.turnedL (t':=s.toks+1) kg fp1
  have k8:∀b o,b≠z->g.get? b=some o->g'.get? b=some o:=fun b o n e=>fb.extBut _ _ n e
  have t1':EJ b g a its.toArray:=EJ.of t1 fun o e=>e7 _ o nz ni e
  refine⟨.ref s.heap.objs.size,_,I2,rfl,⟨x,_,fun xs' q'=>by rw[I.sqB_inj q' q1];exact ex,hp,rfl,rfl⟩,⟨⟨_,by simpa using f1⟩,(Fh.ir e3 h4 t1').keep fun o e=>k8 _ o ne.symm e⟩,fun b hb=>(fp1 b hb).1⟩
 done:=by
  intro X hP hw hK hc i pins s σ H E I hf st hg
  subst hP hw hK
  obtain⟨⟨p,h1⟩,h4⟩:=st
  obtain⟨xs,q1,ex⟩:=hg
  obtain⟨its,r1,t1⟩:=I.sqB q1
  have l1:=r1.length
  have ty:s.TypeIs (.ref z) "enumerate" := ⟨_,h1,rfl⟩
  unfold Ki
  refine FI (KG (G3 (name:=F0 "__next__") ty F.slot_enumerate_next (HI F.slot_enumerate_next ty F.entry_enumerate_next ?_ (F.args_enumerate_next_1 _))))
  show Gb _ _ (do let c <- Mu (.ref z) 2;_) _ _ _
  refine FI (Ha h1 rfl (x:=.ref it) rfl ?_)
  refine FI ((h4.it1 t1).fin (I.ok.hd hc) (by simp;omega) fun g e kg ⟨o,ho,hoc⟩=>?_)
  refine FI (wpAny_isInstance (T := "StopIteration") (b:=true) ⟨o,ho,hoc⟩ isSubtype_stop (FS ⟨rfl,?_⟩))
  exact I.turnedL (t':=s.toks) (fun b o hb e=>by simp at hb;exact kg b o hb.2 e) hf
 self:=fun _ _ _ _ _ st h=>by
  obtain⟨⟨p,h1⟩,_⟩:=st
  exact wpAny_pyIter_enum h1 h
section
variable{X:Cx}{e1:Expr}{ta:TA}{elts:List Expr}{kt:Nat}{pt p pos:Pos}
def BJ(K:W.Frag)(b:Bool)(t:TA):TI:=fun σ H R=>t σ H fun vs H1=>∃a xs,vs=[.ref a]/\EI b K H1 a xs/\R (Fg K b a) H1
theorem sY(b:Bool)(hg:Gl X "enumerate")(hm:X.mg "enumerate" = none)(ha:PA X [e1] ta)(hs:FU [e1] X.env=(false,eval e1 X.env)::FU [] X.env:=by rfl)(hpl:(Hs pos (FU [] X.env)).any (·.1)=false:=by rfl) :
 PI X (.Tuple elts kt pt) (.Call (.Name "enumerate" p) [e1] [] pos) (BJ X.K b ta):=by
 intro pins s σ H R I h
 refine Call_ (dm I hg hm (by rfl) (GN (CF (ha pos pins s σ H _ I h) fun us s1 ⟨vs,H1,I1,r1,q1⟩=>?_) hs hpl) (by decide) (by decide))
 obtain⟨a,xs,ev,q1,q⟩:=q1
 subst ev
 cases r1 with
 | cons r rr =>
   cases rr
   cases r
   obtain⟨its,v1,t1⟩:=I1.sqB q1
   refine oV t1 fun g f1 f4 f6 kp=>wpAny_pyIter_enum f1 ?_
   have l1:a<s1.heap.objs.size:=by
    obtain⟨o,ho,_⟩:=t1.obj
    exact FW ho
   have I2:Inv X pins σ H1 {s1 with heap:=g}:=I1.kept (t':=s1.toks) kp
   have ir:Fi b g s1.heap.objs.size a 0:=by
    have r':=EJ.of t1 fun o e=>kp _ o e
    cases b with
    | true =>
      rcases f4 with⟨_,⟨o,e,c,_⟩⟩|⟨q,_⟩
      · obtain⟨o',e',c',_⟩:=(show g.IsTuple a _ from r')
        rw[e]at e';cases e';rw[c]at c';injection c' with z;exact absurd z (by decide)
      · exact q
    | false =>
      rcases f4 with⟨q,_⟩|⟨_,⟨o,e,c,_⟩⟩
      · exact q
      · obtain⟨o',e',c',_⟩:=(show g.IsList a _ from r')
        rw[e]at e';cases e';rw[c]at c';injection c' with z;exact absurd z (by decide)
   refine⟨_,[s1.heap.objs.size+1,s1.heap.objs.size],_,_,H1,rfl,I2,mR b _ _ a (by simp) (Gx (Kt l1)) (Gx l1),⟨⟨_,f1⟩,ir⟩,fun b hb=>?_,q⟩
   have hb':s1.heap.objs.size<=b:=by
    simp at hb
    rcases hb with rfl|rfl
    · exact Jc _ 1
    · exact FQ _
   exact I1.fpOk hb' (I1.hok.fresh hb')
end
end L2
namespace L2.VL
section
variable{X:Cx}{rl:RlT}{a:Expr}{elts:List Expr}{kt:Nat}{pt p pos:Pos}{fs:EA}
def gv(xs:List FH):List FH:=xs.zipIdx.map fun z=>.tuple [.int (z.2:Nat),z.1]
theorem jj{i:Nat}(h:(gv xs)[i]?=some d):∃x,xs[i]?=some x/\d = .tuple [.int (i:Nat),x]:=by
 unfold gv at h
 rw[G_,List.getElem?_zipIdx]at h
 cases ex:xs[i]? with
 | none=>rw[ex]at h;cases h
 | some x=>rw[ex]at h;simp at h;exact⟨x,rfl,h.symm⟩
def DY(b:Bool)(fs:EA):En->(List FH->Prop)->Prop:=fun ρ Q=>fs ρ fun ws=>∃dx xs,ws=[.d dx]/\eU dx=some xs/\cZ dx=b/\Q (gv xs)
theorem rR(b:Bool)(hm:X.mg "enumerate" = none)(ha:EO X rl [a] fs)(hg:Gl X "enumerate" := by rfl)(hs:FU [a] X.env=(false,eval a X.env)::FU [] X.env:=by rfl)(hpl:(Hs pos (FU [] X.env)).any (·.1)=false:=by rfl) :
 EX X rl (.Tuple elts kt pt) (.Call (.Name "enumerate" p) [a] [] pos) (DY b fs):=by
 obtain⟨t,p1,k⟩:=ha
 refine⟨_,sY b hg hm p1 hs hpl,fun R Qd Q q h=>k R _ _ q fun vs ws F1 H1 g1 r1 ⟨dx,xs,ew,e1,kb1,q1⟩=>?_⟩
 subst ew kb1
 obtain⟨v,rfl,rv⟩:=lY r1
 obtain⟨a1,vs,rfl,rs,sq1⟩:=nl rv e1
 refine⟨a1,vs,rfl,sq1 _ g1.sub,h _ (gv xs) F1 H1 g1 ⟨fun i H x e s=>?_,fun i H hl s=>?_,fun i H v H' x F2 e s s2 ra y=>?_⟩ q1⟩
 · obtain⟨x1,ex,_⟩:=jj e
   obtain⟨v1,ev1,_⟩:=rs.get ex
   exact⟨vs,v1,sq1 _ s,ev1⟩
 · refine⟨vs,sq1 _ s,?_⟩
   unfold gv at hl
   rw[FR,Kf]at hl
   rw[rs.length]
   omega
 · obtain⟨x1,ex,ed⟩:=jj e
   obtain⟨vx,pp,hx,hp,ev,eH⟩:=y
   obtain⟨v1,ev1,rv1⟩:=rs.get ex
   have h1:=hx vs (sq1 _ (s.trans s2))
   rw[ev1]at h1
   cases h1
   subst ev eH ed
   have g:=Grow.data (a:=pp) (o:=.tup [.int (i:Nat),vx]) s2 ra hp
   exact⟨_,g,.tup (.inl (.inl av)) (.cons (.int _) (.cons ((rv1.mono s).mono g.fs) .nil))⟩
theorem gW(hm:X.mg "enumerate" = none)(ha:EO X rl [a] fs)(hg:Gl X "enumerate" := by rfl)(hs:FU [a] X.env=(false,eval a X.env)::FU [] X.env:=by rfl)(hpl:(Hs pos (FU [] X.env)).any (·.1)=false:=by rfl) :
 EX X rl (.Tuple elts kt pt) (.Call (.Name "enumerate" p) [a] [] pos) (DY false fs):=rR false hm ha hg hs hpl
end
theorem oD(xs:List α)(enc:α->FH):gv (xs.map enc)=xs.zipIdx.map fun z=>Hw [.int (z.2:Nat),enc z.1]:=by
 unfold gv
 rw[List.zipIdx_map,HK]
 rfl
section
variable{α β:Type}{b:FH->Mo (Option FH)}
end
def C0(b:Bool)(qs:List Rat):FH:=if b then .tuple (qs.map fr)else .list (qs.map fr)
theorem cU{b c:Bool}{rs:List Rat}:C0 b qs=C0 c rs↔b=c/\qs=rs:=by
 cases b<;>cases c<;>simp[C0,bJ]
theorem dM(b:Bool)(qs:List Rat):seqW (.d (C0 b qs))=some (qs.map fr):=by cases b<;>rfl
def o8(kvs:List (E7×FH))(k:E7):Bool:=kvs.any fun kv=>decide (kv.1=k)
theorem qp{kvs:List (E7×FH)}{k:E7}:o8 kvs k=true↔k∈kvs.map (·.1):=by
 unfold o8
 simp only[List.any_eq_true,decide_eq_true_iff,GJ]
theorem jb(kvs:List (E7×FH))(k:E7)(x:FH):(putF kvs k x).map (·.1)=if o8 kvs k=true then kvs.map (·.1)else kvs.map (·.1)++[k]:=by
 unfold putF
 show List.map _ (if o8 kvs k=true then _ else _)=_
 split
 · rw[HK]
   congr 1;funext kv;simp only[Function.comp];split<;>rfl
 · rw[Hd];rfl
theorem pL(kvs:List (E7×FH))(k j:E7)(x:FH):gA (putF kvs k x) j=if j=k then some x else gA kvs j:=by
 have one:∀l:List (E7×FH),gA (l.map fun kv=>if kv.1=k then(kv.1,x)else kv) j=if j=k then(if o8 l k=true then some x else none)else gA l j:=by
  intro l
  induction l with
  | nil=>by_cases h:j=k<;>simp[gA,o8,h]
  | cons p r ih =>
    unfold gA o8 at *
    rw[Gz,Hb,Hb,HZ]
    by_cases h1:p.1=k
    · by_cases h:j=k
      · subst h;simp[h1]
      · have h2:¬k=j:=fun z=>h z.symm
        rw[if_pos h1,if_neg h]
        rw[if_neg h]at ih
        simp only[h1,h2,decide_false]
        exact ih
    · rw[if_neg h1]
      by_cases h:j=k
      · subst h
        rw[if_pos rfl]
        rw[if_pos rfl]at ih
        simp only[h1,decide_false,Bool.false_or]
        exact ih
      · rw[if_neg h]
        rw[if_neg h]at ih
        cases decide (p.1=j)with
        | true=>rfl
        | false=>exact ih
 unfold putF
 show gA (if o8 kvs k=true then _ else _) j=_
 by_cases hm:o8 kvs k=true
 · rw[if_pos hm,one]
   by_cases h:j=k<;>simp[h,hm]
 · rw[if_neg hm]
   unfold gA
   rw[List.find?_append]
   by_cases h:j=k
   · subst h
     have:kvs.find? (fun kv=>decide (kv.1=j))=none:=by
      rw[List.find?_eq_none];intro p hp z
      exact hm (qp.mpr (GJ.mpr ⟨p,hp,by simpa using z⟩))
     simp[this]
   · have h2:¬k=j:=fun z=>h z.symm
     simp[h,h2]
def ub(f:Rat->Int)(qs:List Rat):List (E7×FH):=(qs.map fun q=>((HX (f q):E7),fr q)).foldl (fun a p=>putF a p.1 p.2) []
theorem iy(f:Rat->Int):∀(qs:List Rat)(acc:List (E7×FH))(ns:List Int),acc.map (·.1)=ns.map HX->ns.Nodup->(∀q r,q∈qs->r∈qs->f q=f r->q=r) ->
 ∃ ms:List Int,((qs.map fun q=>((HX (f q):E7),fr q)).foldl (fun a p=>putF a p.1 p.2) acc).map (·.1)=ms.map HX/\ms.Nodup/\(∀n,n∈ms↔n∈ns\/∃q∈qs,f q=n) /\
   ∀n,gA ((qs.map fun q=>((HX (f q):E7),fr q)).foldl (fun a p=>putF a p.1 p.2) acc) (.inl n)=(match qs.find? (fun q=>decide (f q=n))with|some q=>some (fr q)|none=>gA acc (.inl n))/\ms.length<=ns.length+qs.length
 | [],acc,ns,h,nd,_=>⟨ns,h,nd,fun n=>by simp,fun n=>⟨rfl,by simp⟩⟩
 | q::qs,acc,ns,h,nd,inj=>by
   have hmem:o8 acc (HX (f q))=true↔f q∈ns:=by
    rw[qp,h,GJ];constructor
    · rintro⟨x,hx,e⟩;cases e;exact hx
    · intro hx;exact⟨_,hx,rfl⟩
   have inj':∀a b,a∈qs->b∈qs->f a=f b->a=b:=fun a b ha hb=>inj a b (FP _ ha) (FP _ hb)
   have val:∀n:Int,∀r,gA (putF acc (.inl (f q)) (fr q)) (.inl n)=r->(match qs.find? (fun q=>decide (f q=n))with|some q=>some (fr q)|none=>gA (putF acc (.inl (f q)) (fr q)) (.inl n))=(match(q::qs).find? (fun q=>decide (f q=n))with|some q=>some (fr q)|none=>gA acc (.inl n)):=by
    intro n r _
    rw[pL,Hb]
    by_cases e:f q=n
    · subst e
      simp only[decide_true]
      cases e2:qs.find? (fun q'=>decide (f q'=f q))with
      | none=>simp
      | some q' =>
        have m:=Kh e2
        have p:f q'=f q:=by simpa using List.find?_some e2
        have:=inj q' q (FP _ m) FT p
        rw[this]
    · have e':¬n=f q:=fun z=>e z.symm
      simp only[e,decide_false,HX.injEq,e',if_false]
   by_cases hq:f q∈ns
   · obtain⟨ms,a1,a2,a3,a4⟩:=iy f qs (putF acc (.inl (f q)) (fr q)) ns (by rw[jb,if_pos (hmem.mpr hq)];exact h) nd inj'
     refine⟨ms,a1,a2,fun n=>?_,fun n=>⟨?_,?_⟩⟩
     · rw[a3 n]
       simp only[Gh]
       constructor
       · rintro(z|⟨r,hr,e⟩)
         · exact .inl z
         · exact .inr ⟨r,.inr hr,e⟩
       · rintro(z|⟨r,rfl|hr,e⟩)
         · exact .inl z
         · exact .inl (e▸hq)
         · exact .inr ⟨r,hr,e⟩
     · rw[<- val n _ rfl];exact(a4 n).1
     · have:=(a4 n).2;simp only[Gp];omega
   · obtain⟨ms,a1,a2,a3,a4⟩:=iy f qs (putF acc (.inl (f q)) (fr q)) (ns++[f q]) (by rw[jb,if_neg (fun z=>hq (hmem.mp z)),h,Hd];rfl)
       (List.nodup_append.mpr ⟨nd,by simp,fun a ha b hb=>by simp at hb;subst hb;rintro rfl;exact hq ha⟩) inj'
     refine⟨ms,a1,a2,fun n=>?_,fun n=>⟨?_,?_⟩⟩
     · rw[a3 n]
       simp only[Gh,Gv,List.not_mem_nil,or_false]
       constructor
       · rintro((z|z)|⟨r,hr,e⟩)
         · exact .inl z
         · exact .inr ⟨q,.inl rfl,z.symm⟩
         · exact .inr ⟨r,.inr hr,e⟩
       · rintro(z|⟨r,rfl|hr,e⟩)
         · exact .inl (.inl z)
         · exact .inl (.inr e.symm)
         · exact .inr ⟨r,hr,e⟩
     · rw[<- val n _ rfl];exact(a4 n).1
     · have:=(a4 n).2;simp only[Gg,Gp,IK]at this ⊢;omega
theorem ua(f:Rat->Int)(qs:List Rat)(inj:∀q r,q∈qs->r∈qs->f q=f r->q=r) :
 ∃ms:List Int,(ub f qs).map (·.1)=ms.map HX/\ms.Nodup/\(∀n,n∈ms↔∃q∈qs,f q=n)/\(∀q∈qs,gA (ub f qs) (.inl (f q))=some (fr q))/\ms.length<=qs.length:=by
 obtain⟨ms,a1,a2,a3,a4⟩:=iy f qs [] [] rfl List.nodup_nil inj
 refine⟨ms,a1,a2,fun n=>by rw[a3 n];simp,fun q hq=>?_,by have:=(a4 0).2;simpa using this⟩
 have:=(a4 (f q)).1
 show gA ((qs.map fun q=>((HX (f q):E7),fr q)).foldl (fun a p=>putF a p.1 p.2) []) _=_
 rw[this]
 cases e:qs.find? (fun q'=>decide (f q'=f q))with
 | none =>
   rw[List.find?_eq_none]at e
   exact absurd (e q hq) (by simp)
 | some q' =>
   have m:=Kh e
   have p:f q'=f q:=by simpa using List.find?_some e
   rw[inj q' q m hq p]
def CT(S:Int)(q:Rat):Int:=(q.num*S).fdiv q.den
theorem qW(S:Int)(q:Rat):CT S q*q.den<=q.num*S/\q.num*S<(CT S q+1)*q.den:=by
 have h0:(0:Int)<q.den:=eE q
 unfold CT
 rw[Ih _ (by omega)]
 have h1:=Lg (q.num*S) (show(q.den:Int)≠0 by omega)
 have h2:=Ke (q.num*S) h0
 have h3:=Int.mul_ediv_add_emod (q.num*S) q.den
 have e1:q.num*S / (q.den:Int)*(q.den:Int)=(q.den:Int)*(q.num*S / (q.den:Int)):=Kd _ _
 have e2:(q.num*S / (q.den:Int)+1)*(q.den:Int)=(q.den:Int)*(q.num*S / (q.den:Int))+(q.den:Int):=by rw[Int.add_mul,LJ,e1]
 rw[e1,e2]
 constructor<;>omega
theorem lJ(q r:Rat):q<r↔q.num*r.den<r.num*q.den:=Lo q r
theorem mY{r:Rat}(hq:(q.den:Int)<=B)(hr:(r.den:Int)<=B)(h:q<r):CT (B*B) q<CT (B*B) r:=by
 have h0:(0:Int)<q.den:=eE q
 have h1:(0:Int)<r.den:=eE r
 rw[lJ]at h
 obtain⟨a1,a2⟩:=qW (B*B) q
 obtain⟨b1,b2⟩:=qW (B*B) r
 generalize CT (B*B) q=a at *
 generalize CT (B*B) r=b at *
 generalize (q.den:Int)=x at *
 generalize (r.den:Int)=y at *
 by_cases hab:a<b
 · exact hab
 · exfalso
   have hba:b+1<=a+1:=by omega
   have e1:a*x*y<=q.num*(B*B)*y:=Gu a1 (by omega)
   have e2:r.num*(B*B)*x<(b+1)*y*x:=Ie b2 h0
   have e3:(b+1)*y*x<=(a+1)*y*x:=Gu (Gu hba (by omega)) (by omega)
   have hs:x*y<=B*B:=I_ hq hr (by omega) (by omega)
   have h2:q.num*y+1<=r.num*x:=h
   have e4:(q.num*y+1)*(B*B)<=r.num*x*(B*B):=Gu h2 (HB (by omega) (by omega))
   have e5:(q.num*y+1)*(B*B)=q.num*(B*B)*y+B*B:=by grind
   have e6:r.num*x*(B*B)=r.num*(B*B)*x:=by grind
   have e7:(a+1)*y*x=a*x*y+x*y:=by grind
   omega
theorem nq(q r:Rat):q<r\/q=r\/r<q:=by
 by_cases h:q<r
 · exact .inl h
 · by_cases h2:r<q
   · exact .inr (.inr h2)
   · exact .inr (.inl (Rat.le_antisymm (Rat.not_lt.mp h2) (Rat.not_lt.mp h)))
theorem mZ{r:Rat}(hq:(q.den:Int)<=B)(hr:(r.den:Int)<=B)(h:CT (B*B) q=CT (B*B) r):q=r:=by
 rcases nq q r with z|z|z
 · have:=mY hq hr z;omega
 · exact z
 · have:=mY hr hq z;omega
theorem sv{r:Rat}(hq:(q.den:Int)<=B)(hr:(r.den:Int)<=B)(h:CT (B*B) q<CT (B*B) r):q<r:=by
 rcases nq q r with z|z|z
 · exact z
 · subst z;omega
 · have:=mY hr hq z;omega
theorem fL:∀(ns:List Int)(m:Int),∃k,cz (some m) ns=some k/\m<=k/\(∀n∈ns,n<=k)/\(k=m\/k∈ns)
 | [],m=>⟨m,rfl,JV _,by simp,.inl rfl⟩
 | n::ns,m=>by
   obtain⟨k,e,h1,h2,h3⟩:=fL ns (if n>m then n else m)
   refine⟨k,e,by split at h1<;>omega,fun x hx=>?_,?_⟩
   · rcases Gh.mp hx with rfl|hx
     · split at h1<;>omega
     · exact h2 x hx
   · rcases h3 with h3|h3
     · split at h3
       · exact .inr (by rw[h3];exact FT)
       · exact .inl h3
     · exact .inr (FP _ h3)
theorem wI(ns:List Int):(∀n∈ns,n<=DA 1 ns)/\(DA 1 ns=1\/DA 1 ns∈ns):=by
 unfold DA
 cases ns with
 | nil=>exact⟨by simp,.inl rfl⟩
 | cons n ns =>
   obtain⟨k,e,h1,h2,h3⟩:=fL ns n
   have e':cz none (n::ns)=some k:=e
   rw[e']
   refine⟨fun x hx=>?_,.inr ?_⟩
   · rcases Gh.mp hx with rfl|hx
     · exact h1
     · exact h2 x hx
   · rcases h3 with rfl|h3
     · exact FT
     · exact FP _ h3
theorem lx(f:Rat->Int){qs:List Rat}:∀(ns:List Int),(∀n∈ns,∃q∈qs,f q=n)->∃rs:List Rat,ns=rs.map f/\∀r∈rs,r∈qs
 | [],_=>⟨[],rfl,by simp⟩
 | n::ns,h=>by
   obtain⟨rs,e,hr⟩:=lx f ns fun m hm=>h m (FP _ hm)
   obtain⟨q,hq,eq⟩:=h n FT
   exact⟨q::rs,by rw[Gz,eq,<- e],fun r hr'=>(Gh.mp hr').elim (fun z=>z▸hq) (hr r)⟩
def ff(qs rs:List Rat):Prop:=rs.Pairwise (· < ·)/\∀q,q∈rs↔q∈qs
theorem m8{ms:List Int}(hB:∀q∈qs,(q.den:Int)<=B)(nd:ms.Nodup)(hm:∀n,n∈ms↔∃q∈qs,CT (B*B) q=n)(pm:ns.Perm ms)(pw:ns.Pairwise (· <= ·)) :
 ∃rs:List Rat,ns=rs.map (CT (B*B))/\(∀r∈rs,r∈qs)/\ff qs rs:=by
 obtain⟨rs,e,hr⟩:=lx (CT (B*B)) ns fun n hn=>(hm n).mp (pm.mem_iff.mp hn)
 refine⟨rs,e,hr,?_,fun q=>⟨hr q,fun hq=>?_⟩⟩
 · have nd':ns.Nodup:=pm.nodup_iff.mpr nd
   subst e
   have lt:(rs.map (CT (B*B))).Pairwise (· < ·):=by
    have:=pw.and nd'
    exact this.imp fun z=>by have:=z.1;have:=z.2;omega
   rw[List.pairwise_map]at lt
   exact lt.imp_of_mem fun ha hb z=>sv (hB _ (hr _ ha)) (hB _ (hr _ hb)) z
 · have:CT (B*B) q∈ns:=pm.mem_iff.mpr ((hm _).mpr ⟨q,hq,rfl⟩)
   rw[e,GJ]at this
   obtain⟨r,hr',e2⟩:=this
   rw[<- mZ (hB r (hr r hr')) (hB q hq) e2]
   exact hr'
theorem je:∀{rs qs:List Rat},rs.Nodup->(∀x∈rs,x∈qs)->rs.length<=qs.length
 | [],_,_,_=>Gw _
 | r::rs,qs,nd,h=>by
   rw[Iw]at nd
   have hm:=h r FT
   have:=je (rs:=rs) (qs:=qs.erase r) nd.2 fun x hx=>(Ls (fun(z:x=r)=>nd.1 (by rw[<- z];exact hx))).mpr (h x (FP _ hx))
   rw[Kr hm]at this
   have:=Jt hm
   simp only[Gp]
   omega
theorem dv{rs:List Rat}(h:ff qs rs):rs.length<=qs.length:=by
 have nd:rs.Nodup:=h.1.imp fun z e=>by subst e;exact absurd z (Rat.lt_irrefl)
 exact je nd fun x hx=>(h.2 x).mp hx
open PySem PySem.Spec
inductive Sh where
 | one (c v:List Rat)
 | two (c d:List Rat) (vs:List (List Rat))
def Sh.cuts:Sh->List (List Rat)
 | .one c _=>[c]
 | .two c d _=>[c,d]
def Sh.vD:Sh->FH
 | .one _ v=>ptD v
 | .two _ _ vs=>ptsQ vs
def C5(s:Sh):FH:=.tuple [ptsQ s.cuts,s.vD]
def kf(n:Nat)(c:List Rat):Prop:=∃(d:Int)(as:List Int),0<d/\d<2^20/\as.length<=n/\c=as.map (fun a=>qd a d)/\(∀a∈as,0<a/\a<d)/\as.Pairwise (· < ·)
def Sh.Ok:Sh->Prop
 | .one c v=>kf 6 c/\v.length=c.length+1/\∀q∈v,Df 20 q
 | .two c d vs=>kf 3 c/\kf 3 d/\vs.length=c.length+1/\∀v∈vs,v.length=d.length+1/\∀q∈v,Df 20 q
def Sh.at:Sh->List Int->Rat
 | .one _ v,p=>v.getD (p.getD 0 0).toNat 0
 | .two _ _ vs,p=>(vs.getD (p.getD 0 0).toNat []).getD (p.getD 1 0).toNat 0
def A2(cs:List (List Rat))(p:List Int):Prop:=p.length=cs.length/\∀z∈cs.zip p,0<=z.2/\z.2<=(z.1.length:Int)
def lim(c:List Rat):List Rat:=0::(c++[1])
theorem xN{d:Int}(h:0<d):qd 0 d=0:=by unfold qd;rw[My];show(0:Rat)*_=0;rw[Rat.zero_mul]
theorem yK{d:Int}(h:0<d):qd d d=1:=by
 unfold qd
 have:=cr h
 grind
theorem nw(a b:Int){d:Int}(h:0<d):qd a d+qd b d=qd (a+b) d:=by
 unfold qd
 have:=cr h
 rw[Rat.intCast_add]
 grind
theorem kf.len{c:List Rat}(h:kf n c):c.length<=n:=by
 obtain⟨d,as,_,_,hl,rfl,_⟩:=h
 rw[FR];exact hl
theorem tT{c:List Rat}(h:kf n c):∃d:Int,0<d/\d<2^20/\∀q∈lim c,∃a:Int,0<=a/\a<=d/\q=qd a d:=by
 obtain⟨d,as,d0,d1,_,rfl,ha,_⟩:=h
 refine⟨d,d0,d1,fun q hq=>?_⟩
 rcases Gh.mp hq with rfl|hq
 · exact⟨0,JV _,by omega,(xN d0).symm⟩
 rcases Gv.mp hq with hq|hq
 · obtain⟨a,ma,rfl⟩:=GJ.mp hq
   exact⟨a,Kc (ha a ma).1,Kc (ha a ma).2,rfl⟩
 · rw[Gq.mp hq]
   exact⟨d,by omega,JV _,(yK d0).symm⟩
theorem getD_mem{xs:List α}{k:Nat}{d:α}(h:k<xs.length):xs.getD k d∈xs:=by
 rw[Hj,GB h];exact G8 h
theorem wN{c:List Rat}(h:kf n c):∀q∈lim c,Df 20 q:=by
 obtain⟨d,d0,d1,hm⟩:=tT h
 intro q hq
 obtain⟨a,a0,a1,rfl⟩:=hm q hq
 exact i9 d0 (by omega) (by omega)
theorem kf.sm{c:List Rat}(h:kf n c):∀q∈c,Df 20 q:=fun q hq=>wN h q (FP _ (HH _ hq))
structure LcmI (n:Nat) (qs:List Rat) (B:Int):Prop where
 p:0<B
 z:B<2^(n*qs.length+1)
 d:∀q∈qs,(q.den:Int)∣B
theorem LcmI.nil(n:Nat):LcmI n [] 1:=⟨by decide,by simp,by simp⟩
theorem LcmI.step(h:LcmI n qs B)(hq:Df n q):LcmI n (qs++[q]) (B*((q.den:Int) / (GF B q.den:Int))):=by
 have dp:=eE q
 have bp:=h.p
 have gp:(0:Int)<(GF B q.den:Int):=by have:=JH B (show(q.den:Int)≠0 by omega);omega
 obtain⟨b,hb⟩:=Int.gcd_dvd_left (a:=B) (b:=(q.den:Int))
 obtain⟨c,hc⟩:=Int.gcd_dvd_right (a:=B) (b:=(q.den:Int))
 have ec:(q.den:Int) / (GF B q.den:Int)=c:=by
  generalize (GF B q.den:Int)=g at *
  rw[hc];exact Kv _ (by omega)
 rw[ec]
 have c0:0<c:=by
  rcases Int.lt_trichotomy 0 c with h|h|h
  · exact h
  · subst h;omega
  · have:=Kg gp h;omega
 have cle:c<=(q.den:Int):=by
  have:1*c<=(GF B q.den:Int)*c:=Gu (by omega) (by omega)
  omega
 refine⟨Je bp c0,?_,fun r hr=>?_⟩
 · have l:n*(qs++[q]).length+1=(n*qs.length+1)+n:=by rw[Gg,HV,Nat.mul_succ];omega
   rw[l]
   have d2:(q.den:Int)<2^n:=by have:=hq.2;exact_mod_cast this
   exact jP (by omega) c0 h.z (by omega)
 · rcases Gv.mp hr with hr|hr
   · exact L7 (h.d r hr) (Jz _ _)
   · rw[Gq.mp hr]
     refine⟨b,?_⟩
     generalize (GF B q.den:Int)=g at *
     rw[hb,hc]
     grind
theorem A2.one{c:List Rat}{p:List Int}(h:A2 [c] p):∃k:Int,p=[k]/\0<=k/\k<=(c.length:Int):=by
 obtain⟨hl,hz⟩:=h
 match p,hl with
 | [k],_=>exact⟨k,rfl,hz (c,k) FT⟩
theorem A2.two{c d:List Rat}{p:List Int}(h:A2 [c,d] p):∃k j:Int,p=[k,j]/\(0<=k/\k<=(c.length:Int))/\0<=j/\j<=(d.length:Int):=by
 obtain⟨hl,hz⟩:=h
 match p,hl with
 | [k,j],_=>exact⟨k,j,rfl,hz (c,k) FT,hz (d,j) (FP _ FT)⟩
theorem Dj:Df 1 0:=⟨by decide,by decide⟩
theorem Dh:Df 1 1:=⟨by decide,by decide⟩
theorem item_sh0(s:Sh):itemAt (C5 s) 0=some (ptsQ s.cuts):=rfl
theorem item_sh1(s:Sh):itemAt (C5 s) 1=some s.vD:=rfl
theorem lpK_nx(fl:List Nat)(k:En->Mo Fl)(ρ:En):DJ fl k (.nx ρ)=k (fo fl ρ):=nr rfl
theorem lpK_rt(fl:List Nat)(k:En->Mo Fl)(w:W):DJ fl k (.rt w)=ret (.rt w):=nr rfl
theorem seqD_tI(xs:List Int):eU (eN xs)=some (xs.map .int):=rfl
theorem tupD_tI(xs:List Int):tupD (eN xs)=some (xs.map .int):=rfl
theorem item_tI(xs:List Int)(i:Int):itemAt (eN xs) i=(atI xs i).map .int:=atI_map _ _ _
theorem lenD_tI(xs:List Int):qb (eN xs)=some xs.length:=by show some (xs.map GA).length=_;rw[FR]
theorem tup_of(xs:List Int):Hw (xs.map GA)=eN xs:=rfl
theorem pt_of(xs:List Rat):Hw (xs.map fr)=ptD xs:=rfl
theorem vV(xs:List (List Rat)):Hw (xs.map ptD)=ptsQ xs:=rfl
theorem nT(l:List α)(f:α->Rat):l.map (fun z=>fr (f z))=(l.map f).map fr:=by rw[HK];rfl
theorem bZ{xs:List α}{k:Nat}{d:α}(h:k<xs.length):xs.getD k d=xs[k]:=by rw[Hj,GB h];rfl
theorem cD{xs:List α}{i:Int}(d:α)(h0:0<=i)(h1:i<(xs.length:Int)):atI xs i=some (xs.getD i.toNat d):=by rw[xx h0 h1,bZ (by omega)]
def FB:=FJ @item_sh0 (FJ @item_sh1 (FJ @seqD_tI (FJ @tupD_tI (FJ @item_tI (FJ @lenD_tI (FJ @tup_of (FJ @pt_of (FJ @lpK_nx (@lpK_rt)))))))))
theorem Sh.cl(s:Sh):s.cuts.length<=2:=by cases s<;>simp[Sh.cuts]
theorem xf(n:Int):Hw [.int n,.int 1]=fr (qd n 1):=by
 have e:qd n 1=(n:Rat):=by unfold qd;have:((1:Int):Rat)=1:=rfl;rw[this];grind
 rw[e];rfl
theorem xq{a:Int}{k:Nat}(h:b≠0)(hz:b.natAbs<2^k)(hk:k<=9000):dW a b:=⟨h,FN hz (FX (by decide) hk)⟩
open PySem PySem.Spec
theorem fJ{α:Type}:∀{l:List α}{n:Nat},l.length=n+1->∃b t,l=b++[t]
 | [],_,h=>by simp at h
 | [x],_,_=>⟨[],x,rfl⟩
 | x::y::l,n,h=>by
   obtain⟨b,t,e⟩:=fJ (l:=y::l) (n:=l.length) (by simp)
   exact⟨x::b,t,by rw[e];rfl⟩
theorem lR(l r:List α)(i:Nat)(d:α)(h:i<l.length):(l++r).getD i d=l.getD i d:=by
 rw[Hj,Hj,Ip h]
theorem lQ(l r:List α)(i:Nat)(d:α)(h:l.length<=i):(l++r).getD i d=r.getD (i-l.length) d:=by
 rw[Hj,Hj,IT h]
def chP{α:Type}(rows:List (List α)):List (List α):=rows.foldl (fun ch r=>ch.flatMap fun b=>r.map fun t=>b++[t]) [[]]
theorem eJ(rows:List (List α))(r:List α):chP (rows++[r])=(chP rows).flatMap fun b=>r.map fun t=>b++[t]:=by
 unfold chP;rw[Iy];rfl
theorem fV{α:Type}(d:α):∀(n:Nat)(rows:List (List α)),rows.length=n->∀es,es∈chP rows↔es.length=n/\∀i,i<n->es.getD i d∈rows.getD i []
 | 0,rows,h,es=>by
   cases IE.mp h
   show es∈[[]]↔_
   rw[Gq]
   constructor
   · rintro rfl;exact⟨rfl,fun i hi=>by omega⟩
   · rintro⟨e,_⟩;exact IE.mp e
 | n+1,rows,h,es=>by
   obtain⟨rs,r,rfl⟩:∃rs r,rows=rs++[r]:=fJ h
   have hl:rs.length=n:=by simp at h;exact h
   rw[eJ,Ii]
   constructor
   · rintro⟨b,mb,mes⟩
     obtain⟨t,mt,rfl⟩:=GJ.mp mes
     obtain⟨bl,hb⟩:=(fV d n rs hl b).mp mb
     refine⟨by simp[bl],fun i hi=>?_⟩
     by_cases z:i<n
     · rw[lR _ _ _ _ (by omega),lR _ _ _ _ (by omega)];exact hb i z
     · have:i=n:=by omega
       subst this
       rw[lQ _ _ _ _ (by omega),lQ _ _ _ _ (by omega),bl,hl,Li]
       exact mt
   · rintro⟨el,he⟩
     obtain⟨b,t,rfl⟩:∃b t,es=b++[t]:=fJ el
     have bl:b.length=n:=by simp at el;exact el
     refine⟨b,(fV d n rs hl b).mpr ⟨bl,fun i hi=>?_⟩,GJ.mpr ⟨t,?_,rfl⟩⟩
     · have:=he i (by omega)
       rw[lR _ _ _ _ (by omega),lR _ _ _ _ (by omega)]at this;exact this
     · have:=he n (by omega)
       rw[lQ _ _ _ _ (by omega),lQ _ _ _ _ (by omega),bl,hl,Li]at this
       exact this
theorem j7{α:Type}(m:Nat):∀(n:Nat)(rows:List (List α)),rows.length=n->(∀r∈rows,r.length<=m)->(chP rows).length<=m^n
 | 0,rows,h,_=>by cases IE.mp h;exact FQ 1
 | n+1,rows,h,hr=>by
   obtain⟨rs,r,rfl⟩:∃rs r,rows=rs++[r]:=fJ h
   have hl:rs.length=n:=by simp at h;exact h
   have ih:=j7 m n rs hl fun x mx=>hr x (HH _ mx)
   rw[eJ,J1]
   have hm:=hr r (FZ _ FT)
   have:∀(l:List (List α)),(l.map fun b=>(r.map fun t=>b++[t]).length).sum=l.length*r.length:=fun l=>by
    induction l with
    | nil=>simp
    | cons b l ih=>rw[Gz,List.sum_cons,ih,FR,Gp,Nat.succ_mul];omega
   rw[this,La]
   exact Nat.mul_le_mul ih hm
def EN(s:Nat)(ps:List (List Rat)):Prop:=∀p∈ps,p.length=s/\∀q∈p,Df 20 q/\0<=q/\q<1
def C6(p es:List Rat):Bool:=(p.zip es).all fun z=>!decide (z.2<z.1)
def Dq(p es:List Rat):Bool:=(p.zip es).all fun z=>decide (z.1<z.2)
def CU(es:List Rat):Rat:=sR (es.map fun e=>mx e 0)
def shC(ps:List (List Rat))(es:List Rat):Nat:=(ps.filter fun p=>C6 p es).length
def opC(ps:List (List Rat))(es:List Rat):Nat:=(ps.filter fun p=>Dq p es).length
def ov(ps:List (List Rat))(es:List Rat):Rat:=qd (shC ps es) ps.length-CU es
def la(ps:List (List Rat))(es:List Rat):Rat:=CU es-qd (opC ps es) ps.length
def Fo(ps:List (List Rat))(i:Nat)(E:List Rat):Prop:=E.length<=ps.length+1/\∀e,e∈E↔(e=1\/∃p∈ps,e=p.getD i 0)
def ke(n:Nat)(ps:List (List Rat))(Es:List (List Rat)):Prop:=Es.length=n/\∀i,i<n->Fo ps i (Es.getD i [])
def jw(n:Nat)(ps:List (List Rat))(es:List Rat):Prop:=es.length=n/\∀i,i<n->(es.getD i 0=1\/∃p∈ps,es.getD i 0=p.getD i 0)
theorem ke.mem(h:ke n ps Es)(es:List Rat):es∈chP Es↔jw n ps es:=by
 rw[fV 0 n Es h.1 es]
 exact⟨fun⟨a,b⟩=>⟨a,fun i hi=>((h.2 i hi).2 _).mp (b i hi)⟩,fun⟨a,b⟩=>⟨a,fun i hi=>((h.2 i hi).2 _).mpr (b i hi)⟩⟩
def l_(n:Nat)(ps:List (List Rat))(u:Rat):Prop:=(∃es,jw n ps es/\(u=ov ps es\/u=la ps es))/\∀es,jw n ps es->ov ps es<=u/\la ps es<=u
theorem l_.uniq{u v:Rat}(h:l_ n ps u)(g:l_ n ps v):u=v:=by
 obtain⟨es,be,he⟩:=h.1
 obtain⟨fs,bf,hf⟩:=g.1
 have h1:=h.2 fs bf
 have h2:=g.2 es be
 have a:u<=v:=by rcases he with e|e<;>rw[e];exact h2.1;exact h2.2
 have b:v<=u:=by rcases hf with e|e<;>rw[e];exact h1.1;exact h1.2
 exact Rat.le_antisymm a b
noncomputable def Cu(n:Nat)(ps:List (List Rat)):Rat:=open Classical in if h:∃u,l_ n ps u then Gc h else 0
theorem iR{u:Rat}(h:l_ n ps u):Cu n ps=u:=by
 have hx:∃u,l_ n ps u:=⟨u,h⟩
 unfold Cu
 rw[dif_pos hx]
 exact(FK hx).uniq h
theorem ri{e:Rat}(h:Df 20 e):Df 20 (mx e 0):=jO h (Dj.mono (by decide))
theorem re:∀(qs:List Rat)(k:Nat)(a:Rat),Df k a->(∀q∈qs,Df 20 q)->Df (k+20*qs.length) (qs.foldl (· * ·) a)
 | [],k,a,h,_=>h
 | q::qs,k,a,h,hq=>by
   have:=re qs (k+20) (a*q) (kX h (hq q FT)) fun r hr=>hq r (FP _ hr)
   rw[IM]
   refine this.mono ?_
   rw[Gp];omega
theorem m7(hl:es.length<=4)(h:∀e∈es,Df 20 e):Df 81 (CU es):=by
 refine(re _ 1 1 Dh fun q mq=>?_).mono (by rw[FR];omega)
 obtain⟨e,me,rfl⟩:=GJ.mp mq
 exact ri (h e me)
theorem kM(es:List Rat)(e:Rat):CU (es++[e])=CU es*mx e 0:=by
 unfold CU sR;rw[Hd,Iy];rfl
theorem ki{β:Type}{p:List α}{es:List β}{i:Nat}{e:β}(d:α)(hl:es.length=i)(hi:i<p.length):p.zip (es++[e])=p.zip es++[(p.getD i d,e)]:=by
 have hp:p=p.take i++(p.getD i d)::p.drop (i+1):=by
  rw[bZ hi,<- GV hi,Lj]
 have e1:p.zip es=(p.take i).zip es:=by
  conv=>lhs;rw[hp]
  rw[show es=es++[]from(Ht _).symm,List.zip_append (by rw[GG];omega)]
  simp
 rw[e1]
 conv=>lhs;rw[hp]
 rw[List.zip_append (by rw[GG];omega)]
 simp
theorem pE{p:List Rat}{i:Nat}{e:Rat}(hl:es.length=i)(hi:i<p.length):C6 p (es++[e])=(C6 p es && !decide (e<p.getD i 0)):=by
 unfold C6;rw[ki 0 hl hi,List.all_append];simp
theorem pY{p:List Rat}{i:Nat}{e:Rat}(hl:es.length=i)(hi:i<p.length):Dq p (es++[e])=(Dq p es&&decide (p.getD i 0<e)):=by
 unfold Dq;rw[ki 0 hl hi,List.all_append];simp
def plc(f:List Rat->Bool)(ps:List (List Rat)):List Nat:=(G9 ps.length).filter fun k=>f (ps.getD k [])
theorem ii(f:List Rat->Bool)(ps:List (List Rat)):(plc f ps).length=(ps.filter f).length:=by
 unfold plc
 have:ps.filter f=((G9 ps.length).filter fun k=>f (ps.getD k [])).map fun k=>ps.getD k []:=by
  have e:(G9 ps.length).map (fun k=>ps.getD k [])=ps:=by
   refine List.ext_getElem (by simp) fun i h1 h2=>?_
   simp[Hj,GB h2]
  conv=>lhs;rw[<- e,List.filter_map]
  rfl
 rw[this,FR]
theorem kP{f:List Rat->Bool}:∀k∈plc f ps,k<ps.length:=fun k mk=>IZ.mp (K3.mp mk).1
theorem nG{f g h:List Rat->Bool}(e:∀p∈ps,h p=(f p&&g p)):(plc f ps).filter (fun k=>g (ps.getD k []))=plc h ps:=by
 unfold plc
 rw[List.filter_filter]
 refine Kw fun k mk=>?_
 rw[e _ (getD_mem (IZ.mp mk)),Bool.and_comm]
def qH{ps:List (List Rat)}(h1:1<=ps.length)(h:ps.length<=60)(f:List Rat->Bool):Df 60 (qd (ps.filter f).length ps.length) :=
 i9 (by omega) (by have:=HG f ps;omega) (by omega)
theorem uv(hp:EN n ps)(h:jw n ps es):∀e∈es,Df 20 e/\0<=e/\e<=1:=by
 intro e me
 obtain⟨i,hi,rfl⟩:=Jg me
 have hb:=h.2 i (by have:=h.1;omega)
 rw[bZ hi]at hb
 rcases hb with hb|⟨p,mp,hb⟩
 · rw[hb];exact⟨Dh.mono (by decide),by decide,by decide⟩
 · have:=(hp p mp).2 _ (getD_mem (d:=0) (show i<p.length by rw[(hp p mp).1];have:=h.1;omega))
   rw[hb];exact⟨this.1,this.2.1,Mi this.2.2⟩
theorem wA(hp:EN n ps)(n4:n<=4)(h1:1<=ps.length)(h:ps.length<=60)(b:jw n ps es):Df 150 (ov ps es)/\Df 150 (la ps es):=by
 have s:=m7 (by rw[b.1];exact n4) fun e me=>(uv hp b e me).1
 exact⟨(iW (qH h1 h fun p=>C6 p es) s).mono (by decide),(iW s (qH h1 h fun p=>Dq p es)).mono (by decide)⟩
def tpE(es:List Rat):Int:=es.foldl (fun t e=>t*max 0 e.num) 1
def btE(es:List Rat)(m:Int):Int:=es.foldl (fun t e=>t*(e.den:Int)) m
theorem gh(es:List Rat):∀m:Int,btE es m=m*btE es 1:=by
 unfold btE
 induction es with
 | nil=>intro m;simp
 | cons e es ih=>intro m;rw[IM,IM,ih,ih (1*_)];rw[LJ,Int.mul_assoc]
theorem j8(es:List Rat):0<btE es 1:=by
 induction es with
 | nil=>show(0:Int)<1;decide
 | cons e es ih =>
   show 0<btE es (1*(e.den:Int))
   rw[gh]
   exact Je (by have:=eE e;omega) ih
theorem y7(e:Rat):mx e 0=qd (max 0 e.num) e.den:=by
 have dp:=eE e
 unfold mx
 split
 · rename_i h
   have:e.num<0:=by rw[Lo]at h;simpa using h
   rw[Int.max_eq_left (by omega),xN dp]
 · rename_i h
   have:¬e.num<0:=fun z=>h (by rw[Lo];simpa using z)
   rw[Int.max_eq_right (by omega),jI]
theorem vE(es:List Rat):CU es=qd (tpE es) (btE es 1):=by
 have key:∀(es:List Rat)(t b:Int),0<b->(es.map fun e=>mx e 0).foldl (· * ·) (qd t b)=qd (es.foldl (fun t e=>t*max 0 e.num) t) (btE es b):=by
  intro es
  induction es with
  | nil=>intro t b _;rfl
  | cons e es ih =>
    intro t b hb
    rw[Gz,IM,y7,yL hb (eE e),ih _ _ (Je hb (eE e))]
    rfl
 have:=key es 1 1 (by decide)
 rw[yK (by decide)]at this
 exact this
theorem yV(ps:List (List Rat))(h1:1<=ps.length)(es:List Rat):qd ((shC ps es:Int)*btE es 1-tpE es*ps.length) (btE es ps.length)=ov ps es/\qd (tpE es*ps.length-(opC ps es:Int)*btE es 1) (btE es ps.length)=la ps es:=by
 have b0:=j8 es
 have n0:(0:Int)<(ps.length:Int):=by omega
 unfold ov la
 rw[vE,gh es ps.length]
 unfold qd
 have r1:=cr b0
 have r2:=cr n0
 rw[Hm,Rat.intCast_sub,Rat.intCast_sub,Hm,Hm,Hm]
 generalize ((shC ps es:Int):Rat)=x at *
 generalize ((opC ps es:Int):Rat)=x' at *
 generalize ((btE es 1:Int):Rat)=y at *
 generalize ((tpE es:Int):Rat)=z at *
 generalize (((ps.length:Nat):Int):Rat)=w at *
 constructor<;>grind
theorem qV(hl:es.length<=4)(h:∀e∈es,Df 20 e):0<=tpE es/\tpE es<2^81/\btE es 1<2^81:=by
 have key:∀(es:List Rat)(k:Nat)(t b:Int),0<=t->t<2^k->0<b->b<2^k->(∀e∈es,Df 20 e)->(0<=es.foldl (fun t e=>t*max 0 e.num) t/\es.foldl (fun t e=>t*max 0 e.num) t<2^(k+20*es.length))/\btE es b<2^(k+20*es.length):=by
  intro es
  induction es with
  | nil=>intro k t b t0 t1 b0 b1 _;exact⟨⟨t0,t1⟩,b1⟩
  | cons e es ih =>
    intro k t b t0 t1 b0 b1 h
    have he:=h e FT
    have m0:0<=max 0 e.num:=by omega
    have m1:max 0 e.num<2^20:=by have:=he.1;omega
    have d0:=eE e
    have d1:(e.den:Int)<2^20:=by have:=he.2;exact_mod_cast this
    have c1:t*max 0 e.num<2^(k+20):=by
     by_cases z:max 0 e.num=0
     · rw[z,Int.mul_zero];exact Ib (by decide)
     · exact jP t0 (by omega) t1 m1
    have c2:b*(e.den:Int)<2^(k+20):=jP (by omega) d0 b1 d1
    have:=ih (k+20) (t*max 0 e.num) (b*e.den) (HB t0 m0) c1 (Je b0 d0) c2 fun r hr=>h r (FP _ hr)
    rw[Gp,show k+20*(es.length+1)=k+20+20*es.length by omega]
    exact this
 have:=key es 1 1 1 (by decide) (by decide) (by decide) (by decide) h
 have mo:∀x:Int,x<2^(1+20*es.length)->x<2^81:=fun x hx=>Int.lt_of_lt_of_le hx (dz (by decide) (by omega))
 exact⟨this.1.1,mo _ this.1.2,mo _ this.2⟩
theorem io(n:Nat)(ps:List (List Rat)):jw n ps (GU n 1):=⟨JC,fun i hi=>.inl (by rw[bZ (by rw[JC];exact hi),List.getElem_replicate])⟩
theorem nN(hp:EN n ps)(h1:1<=ps.length):ov ps (GU n 1)=0:=by
 have c:shC ps (GU n 1)=ps.length:=by
  unfold shC
  rw[LM.mpr fun p mp=>?_]
  unfold C6
  rw[HJ]
  rintro⟨x,e⟩ mz
  obtain⟨mx_,me⟩:=IJ mz
  have ex:=((hp p mp).2 x mx_).2.2
  rw[(List.mem_replicate.mp me).2]
  simp only[Bool.not_eq_true',decide_eq_false_iff_not]
  intro z
  grind
 have z:CU (GU n 1)=1:=by
  have:∀n,CU (GU n 1)=1:=fun n=>by
   induction n with
   | zero=>rfl
   | succ n ih=>rw[List.replicate_succ',kM,ih,Rat.one_mul];unfold mx;rw[if_neg (by decide)]
  exact this n
 unfold ov
 rw[c,z,yK (by omega)];grind
open PySem PySem.Spec
def Dl(b:Bool)(ps:List (List Rat)):FH:=if b then ptsQ ps else .list (ps.map ptD)
theorem cW{a b:List (List Rat)}:a.map ptD=b.map ptD↔a=b:=aO fun _ _=>bI
theorem dg{b c:Bool}{x y:List (List Rat)}:Dl b x=Dl c y↔b=c/\x=y:=by
 cases b<;>cases c<;>simp[Dl,ptsQ,cW]
theorem fK(b:Bool)(x:List (List Rat)):seqW (.d (Dl b x))=some (x.map ptD):=by cases b<;>rfl
theorem eh(b:Bool)(x:List (List Rat))(i:Int):itemAt (Dl b x) i=(atI x i).map ptD:=by cases b<;>exact atI_map _ _ _
theorem eg(b:Bool)(x:List (List Rat)):qb (Dl b x)=some x.length:=by
 cases b
 · show some (x.map ptD).length=_;rw[FR]
 · show some (x.map ptD).length=_;rw[FR]
def CD(e:Rat):FH:=C8 (.to e)
theorem cJ{a b:Rat}:CD a=CD b↔a=b:=by
 unfold CD;rw[bH];constructor
 · intro h;injection h
 · rintro rfl;rfl
theorem cI{a b:List Rat}:a.map CD=b.map CD↔a=b:=aO fun _ _=>cJ
def DK(E:List Rat):FH:=.list (E.map CD)
theorem cY{a b:List Rat}:DK a=DK b↔a=b:=by unfold DK;rw[IR,cI]
theorem dk{a b:List (List Rat)}:a.map DK=b.map DK↔a=b:=aO fun _ _=>cY
def Ei(es:List Rat):FH:=.tuple (es.map CD)
theorem cP{a b:List Rat}:Ei a=Ei b↔a=b:=by unfold Ei;rw[Hh,cI]
def Eo(bs:List Bool):FH:=.list (bs.map .bool)
theorem c_{a b:List Bool}:Eo a=Eo b↔a=b:=by
 unfold Eo;rw[IR]
 exact aO fun x y=>by rw[Ic.injEq]
def DC(e:Rat)(s f:List Bool):FH:=.tuple [CD e,Eo s,Eo f,fr (mx e 0)]
theorem dj{e e':Rat}{s f s' f':List Bool}:DC e s f=DC e' s' f'↔e=e'/\s=s'/\f=f':=by
 unfold DC
 simp only[Hh,Hl,and_true,cJ,c_,cR]
 constructor
 · rintro⟨h1,h2,h3,_⟩;exact⟨h1,h2,h3⟩
 · rintro⟨rfl,rfl,rfl⟩;exact⟨rfl,rfl,rfl,rfl⟩
def C4(xs:List Rat)(e:Rat):List Bool:=xs.map fun x=>!decide (e<x)
def Do(xs:List Rat)(e:Rat):List Bool:=xs.map fun x=>decide (x<e)
structure Rw where
 es:List Rat
 sh:List Nat
 op:List Nat
 sz:Rat
def Du(ns:List Nat):FH:=.list (ns.map fun k:Nat=>.int (k:Int))
theorem cX{a b:List Nat}:Du a=Du b↔a=b:=by
 unfold Du;rw[IR]
 exact aO fun x y=>by rw[KN];omega
def C9(r:Rw):FH:=.tuple [Ei r.es,Du r.sh,Du r.op,fr r.sz]
theorem cV{a b:Rw}:C9 a=C9 b↔a=b:=by
 unfold C9
 simp only[Hh,Hl,and_true,cP,cX,cR]
 constructor
 · rintro⟨h1,h2,h3,h4⟩;cases a;cases b;simp_all
 · rintro rfl;exact⟨rfl,rfl,rfl,rfl⟩
theorem de{a b:List Rw}:a.map C9=b.map C9↔a=b:=aO fun _ _=>cV
def rwO(ps:List (List Rat))(es:List Rat):Rw:=⟨es,plc (fun p=>C6 p es) ps,plc (fun p=>Dq p es) ps,CU es⟩
def Rw.wid(r:Rw)(e:Rat)(s f:List Bool):Rw:=⟨r.es++[e],r.sh.filter fun k=>s.getD k false,r.op.filter fun k=>f.getD k false,r.sz*mx e 0⟩
def colQ(ps:List (List Rat))(i:Nat):List Rat:=ps.map fun p=>p.getD i 0
theorem jm{i k:Nat}(f:Rat->Bool)(hk:k<ps.length):((colQ ps i).map f).getD k false=f ((ps.getD k []).getD i 0):=by
 rw[bZ (show k<((colQ ps i).map f).length by unfold colQ;rw[FR,FR];exact hk),bZ hk]
 unfold colQ
 rw[KQ,KQ]
theorem uI(hp:∀p∈ps,p.length=n){i:Nat}(hl:es.length=i)(hi:i<n)(e:Rat):(rwO ps es).wid e (C4 (colQ ps i) e) (Do (colQ ps i) e)=rwO ps (es++[e]):=by
 unfold Rw.wid rwO C4 Do
 have h1:(plc (fun p=>C6 p es) ps).filter (fun k=>((colQ ps i).map fun x=>!decide (e<x)).getD k false)=plc (fun p=>C6 p (es++[e])) ps:=by
  rw[<- nG (f:=fun p=>C6 p es) (g:=fun p=>!decide (e<p.getD i 0)) fun p mp=>pE hl (by rw[hp p mp];exact hi)]
  exact Kw fun k mk=>by rw[jm _ (kP k mk)]
 have h2:(plc (fun p=>Dq p es) ps).filter (fun k=>((colQ ps i).map fun x=>decide (x<e)).getD k false)=plc (fun p=>Dq p (es++[e])) ps:=by
  rw[<- nG (f:=fun p=>Dq p es) (g:=fun p=>decide (p.getD i 0<e)) fun p mp=>pY hl (by rw[hp p mp];exact hi)]
  exact Kw fun k mk=>by rw[jm _ (kP k mk)]
 rw[h1,h2,kM]
def tdD(t:Rat×Str×List Rat):FH:=.tuple [fr t.1,.str t.2.1,Ei t.2.2]
theorem cT{a b:Rat×Str×List Rat}:tdD a=tdD b↔a=b:=by
 unfold tdD
 simp only[Hh,Hl,and_true,cP,cR,Kq.injEq]
 constructor
 · rintro⟨h1,h2,h3⟩;exact Prod.ext h1 (Prod.ext h2 h3)
 · rintro rfl;exact⟨rfl,rfl,rfl⟩
theorem db{a b:List (Rat×Str×List Rat)}:a.map tdD=b.map tdD↔a=b:=aO fun _ _=>cT
def msQ(ps:List (List Rat))(es:List Rat):List (Rat×Str×List Rat):=[(ov ps es, "over", es),(la ps es, "lack", es)]
def zA(ws:List W):Option (List FH):=match ws with
 | [.d (.list xs)]=>some (gv xs)
 | _=>none
theorem xk(xs:List FH):zA [.d (.list xs)]=some (gv xs):=rfl
theorem wK{fs:EA}:DY false fs ρ=Ek (fs ρ) fun ws=>aU (zA ws) ret:=by
 show(Ek (fs ρ) fun ws=>fun(Q:List FH->Prop)=>∃dx xs,ws=[.d dx]/\eU dx=some xs/\cZ dx=false/\Q (gv xs))=_
 congr 1;funext ws
 refine ag fun Q=>?_
 simp only[ak,ret]
 constructor
 · rintro⟨dx,xs,rfl,a,b,q⟩
   cases dx with
   | list ys=>cases a;exact⟨_,rfl,q⟩
   | tuple ys=>cases b
   | _=>cases a
 · rintro⟨zs,e,q⟩
   unfold zA at e
   split at e
   · cases e;exact⟨_,_,rfl,rfl,rfl,q⟩
   · cases e
end L2.VL
namespace K81
open PySem PySem.Spec PyProof.Rows L2 L2.VL
local macro_rules | `(tactic| simp_arith only [$xs,*])=>`(tactic| simp (maxSteps:=2000000) (disch:=(first | assumption | omega | decide)) only [zS,zV,zY,zX,zW,zO,zN,zR,zQ,zP,zU,zT,x3,C3,C2,cZ,cF,dR,W.cap,DI,List.replicate,id,↓reduceIte,if_true,Nat.reduceAdd,Nat.reduceSub,Nat.reduceLeDiff,Int.cast_ofNat_Int,Int.reduceBEq,Int.reduceSub,Int.reduceAdd,Int.reduceLT,Int.reduceLE,Int.reduceMul,Int.reduceNeg,reduceCtorEq,wV,$xs,*])
local macro_rules | `(tactic| simp_arith only [$xs,*] at $h:ident)=>`(tactic| simp only [List.cons.injEq,W.d.injEq,PyData.int.injEq,PyData.bool.injEq,PyData.str.injEq,PyData.list.injEq,PyData.tuple.injEq,kK,p8,pB,dP,and_true,true_and,reduceCtorEq,$xs,*] at $h:ident)
section
variable{P:Gi}{w:G5}{K:Iz}{mg:Str->Option Value}{base:Heap}{rl:RlT}{al:Option Addr}
def xP(ws:List W):Prop:=∃ns:List Int,ws=[.sc ns]/\ns.length<=63
theorem xV(xs:List α)(f:α->FH)(k:Nat):VL.cutD (xs.map f) none (some (k:Int))=(xs.take k).map f:=by
 unfold VL.cutD
 rw[HT.sIx_none,HT.sIx_nat,List.drop_zero,FR,Nat.sub_zero,<- List.map_take]
 congr 1
 by_cases z:k<=xs.length
 · rw[Nat.min_eq_left z]
 · rw[Nat.min_eq_right (by omega),GH (by omega),GH (by omega)]
theorem i5:FnScope ["_law_script"] ["_law_script"] (defScope (CA 42)):=⟨rfl,rfl,rfl,by decide +kernel,rfl,by decide +kernel,by decide +kernel⟩
theorem d__law_feed(Fn:FnIn K mg "_law_feed" (CA 42) ["_law_script"])(Z:Bz mg):DfnR P w K mg base "_law_feed" ["_law_script"] 2 xP:=by
 have sc:=i5
 obtain⟨f,fd,hm,F,hb⟩:=Fn.ex
 refine⟨f,fd,hm,F.kp,hb,?_⟩
 refine F.ok (k:=1) sc (fun vs H Q E h=>?_) (fun cdv A outer s H vs Q E hr h=>?_)
 · obtain⟨F,ws,_,r,_,⟨ns,rfl,_⟩,_⟩:=h
   have:=HC r
   simpa using this
 · obtain⟨F,ws,sm,r,ao,⟨ns,rfl,hn⟩,fin⟩:=h
   obtain⟨T,p,kk⟩:=oC (X:=(lS Fq P w K mg base ["_law_script"] "_law_feed" (defScope (CA 42)) f cdv A outer s H E).nox) (gY Z.list_ (aa (uU (vn 0) fG (fF af)) ab))
   refine⟨T,p,kk (dr sm (fun _ z=>by cases z) r ao) _ ?_ fin⟩
   simp_arith only[ac]
   exact⟨ns.take 63,by rw[show(63:Int)=((63:Nat):Int)from rfl,xV],by rw[GG];omega⟩
def bq:List W->(FH->Prop)->Prop:=fun ws Q=>∃(m:Int),ws=[.reel,.d (.int m)]/\((0<m)/\(m<2^60))/\∀k:Int,(0<=k/\k<m)->Q (.int k)
theorem bq.mono:∀ws (Q Q':FH->Prop),(∀d,Q d->Q' d)->bq ws Q->bq ws Q':=fun _ _ _ h_ ⟨m,e_,p_,q_⟩=>⟨m,e_,p_,fun o_ ho_=>h_ _ (q_ o_ ho_)⟩
theorem bq.len:∀ws (Q:FH->Prop),bq ws Q->ws.length=2:=fun _ _ ⟨_,e_,_⟩=>by subst e_;rfl
theorem bq.eq(m:Int)(hm:0<m)(hb:m<2^60):bq [.reel,.d (.int m)]=Ek (anyM fun k:Int=>0<=k/\k<m) fun k=>VL.ret (.int k:FH):=by
 refine ag fun Q=>⟨?_,fun q_=>⟨m,rfl,⟨hm,hb⟩,q_⟩⟩
 rintro⟨m',e_,_,q_⟩
 simp_arith only[and_true]at e_
 obtain rfl:=e_
 exact q_
theorem i6:FnScope ["_law_feed_here", "_law_many", "_law_found", "_law_at", "_law_cells", "_law_cell", "_law_number_here"] ["_law_feed_here", "_law_many"] (defScope (CA 43)):=⟨rfl,rfl,rfl,by decide +kernel,rfl,by decide +kernel,by decide +kernel⟩
theorem d__law_draw(Fn:FnIn K mg "_law_draw" (CA 43) ["_law_feed_here", "_law_many"])(Z:Bz mg)    : DfnC P w K mg base al 1 "_law_draw" ["_law_feed_here", "_law_many"] 1 bq:=by
 have sc:=i6
 refine DfnC.of Fn sc (bq.mono) (bq.len) (fun cdv A outer s H E hr=>(bu (cs fun _=>(cS (bK tF rN (bh _) (mH (i:=0) (hr.mono (Gw _))) af) (ah (am 2 sc.nd (v_mod (mH (i:=0) (hr.mono (Gw _))) (vn 1)))
  (ah (mj (i:=0) (hr.mono (Gw _)) (v_div (mH (i:=0) (hr.mono (Gw _))) (vn 1)))
  (aq (ax (vn 2))))) bT))
  (ul 3 0 (hr.mono (Gw _)) sc.nd (by decide) (bu (cs fun _=>(am 4 sc.nd (pj (i:=0) (hr.mono (Gw _)))))
  (bu (cs fun _=>(am 5 sc.nd (gZ (bK (nM hr.units) iI (bh _) (vn 4) (fg ab)) (bW (vn 4) (v_mod (vn 3) (cE Z.len_ (aa (vn 4) ab)))) (v_mul (vn 3) (vn 3)))))
  (bu (cs fun _=>(cS (E2.pb (uT (bK yW x4 (bh _) (vn 5) (v_pow af af)) (rV (bK pW pi (bh _) (vn 3) (cE Z.len_ (aa (vn 4) ab)))))) (ah (mj (i:=0) (hr.mono (Gw _)) (v_div (vn 5) (vn 1)))
  (aq (ax (v_mod (vn 5) (vn 1))))) bT))
  (bu (cs fun _=>(am 6 sc.nd (v_mod (v_mul (v_add (v_mod (vn 5) af) af) (v_add af (v_mul af (vn 3)))) af)))
  (e8 (cs fun _=>(ax (v_mod (v_div (v_mod (v_add (v_mul (vn 6) af) (v_mul (v_mul (vn 3) (vn 3)) af)) af) af) (vn 1)))))))))))) (by decide) ?_
 rintro ws Q ⟨m,rfl,⟨hm,hb⟩,hQ⟩
 have hm0:m≠0:=by omega
 have hmd:∀i:Int,dW i m:=fun i=>dW.of hm0 (by omega)
 have fm:∀i:Int,0<=i.fmod m/\i.fmod m<m:=fun i=>⟨HL _ hm,IH _ hm⟩
 refine aw ?_
 simp_arith only[ai,ac,bL,bM,aJ,aL,bN,aK,az,ae]
 (with_reducible (first|refine aA fun l hl=>?_|refine aT fun l hl=>?_))
 try rw[sq_ite]
 refine dB (fun _=>?_) fun _=>?_
 · simp_arith only[ai,ac,bL,bM,aJ,aL,bN,aK,az,ae]
   (with_reducible (first|refine aA fun l2 hl2=>?_|refine aT fun l2 hl2=>?_))
   try simp_arith only[ai,ac,bL,bM,aJ,aL,bN,aK,az,ae]
   (with_reducible (first|refine aA fun l3 hl3=>?_|refine aT fun l3 hl3=>?_))
   have h0:=Lk hl3 (show 0<=m by omega)
   try simp_arith only[ai,ac,bL,bM,aJ,aL,bN,aK,az,ae]
   exact ca (hmd _) (ay (hQ _ (fm _)))
 · simp_arith only[ai,ac,bL,bM,aJ,aL,bN,aK,az,ae]
   refine aA fun n hn=>?_
   have h59:n.natAbs<2^59990:=by
    have h1:=hn.2
    rw[<- Lu hn.1]at h1
    exact_mod_cast h1
   have bn:Fz n:=FN h59 (FX (by decide) (by decide))
   have c2:aZ n n:=.bb bn bn
   have c3:aZ 7919 n:=.lt (by decide)
   have c4:∀z:Int,aZ z 69621:=fun z=>.rt (by decide)
   have c5:∀z:Int,aZ z 40692:=fun z=>.rt (by decide)
   have d5:∀z:Int,dW z 5:=fun z=>dW.of (by decide) (by decide)
   have cq:∀z y:Int,aZ (z.fmod 2147483629+1) y:=fun z y=>.lt (by
    have h1:=HL z (show(0:Int)<2147483629 by decide)
    have h2:=IH z (show(0:Int)<2147483629 by decide)
    omega)
   (with_reducible (first|refine aA fun ns hl=>?_|refine aT fun ns hl=>?_))
   try simp_arith only[ai,ac,bL,bM,aJ,aL,bN,aK,az,ae,FR]
   refine ca (shaped_ints ns) (dB (fun he=>?_) fun he=>?_)
   · have hz:(0:Int)<(ns.length:Int):=by
       cases ns with
       | nil=>exact absurd he (by decide)
       | cons a l=>simp only[Gp];omega
     obtain⟨z,ez,_⟩:=xw (xs:=ns) (HL n hz) (IH n hz)
     have ea:atI (ns.map GA) (n.fmod (ns.length:Int))=some (.int z):=by rw[L2.VL.atI_map,ez];rfl
     refine ca (by omega) ?_
     simp_arith only[ai,ac,bL,bM,aJ,aL,bN,aK,az,ae,ea,FR,cq,c3,c4,c5,c2,d5]
     refine ca (show xZ 10 18 from⟨by decide,by decide,by decide⟩) (dB (fun h=>?_) fun _=>ay (hQ _ (fm _)))
     rw[Jb]at h
     have z0:0<=z:=K_ (by decide) (of_decide_eq_true h.1)
     exact ca (hmd _) (ca (Lk z0 (by omega)) (ay (hQ _ (fm _))))
   · simp_arith only[ai,ac,bL,bM,aJ,aL,bN,aK,az,ae,FR,cq,c3,c4,c5,c2,d5]
     refine ca (show xZ 10 18 from⟨by decide,by decide,by decide⟩) (dB (fun h=>?_) fun _=>ay (hQ _ (fm _)))
     rw[Jb]at h
     have z0:0<=n*n:=K_ (by decide) (of_decide_eq_true h.1)
     exact ca (hmd _) (ca (Lk z0 (by omega)) (ay (hQ _ (fm _))))
def aI:List W->(FH->Prop)->Prop:=fun ws Q=>∃(i j:Int),ws=[.d (.int i),.d (.int j)]/\(True)/\Q (.int (GF i j:Nat))
theorem aI.mono:∀ws (Q Q':FH->Prop),(∀d,Q d->Q' d)->aI ws Q->aI ws Q':=fun _ _ _ h_ ⟨i,j,e_,p_,q_⟩=>⟨i,j,e_,p_,h_ _ q_⟩
theorem aI.len:∀ws (Q:FH->Prop),aI ws Q->ws.length=2:=fun _ _ ⟨_,_,e_,_⟩=>by subst e_;rfl
theorem aI.eq(i j:Int)  : aI [.d (.int i),.d (.int j)]=VL.ret (.int (GF i j:Nat):FH):=by
 refine ag fun Q=>⟨?_,fun q_=>⟨i,j,rfl,trivial,q_⟩⟩
 rintro⟨i',j',e_,_,q_⟩
 simp_arith only[and_true]at e_
 obtain⟨rfl,rfl⟩:=e_
 exact q_
theorem eP:FnScope ["one", "other"] ["one", "other"] (defScope (CA 7)):=⟨rfl,rfl,rfl,by decide +kernel,rfl,by decide +kernel,by decide +kernel⟩
theorem d_common_divisor(Fn:FnIn K mg "common_divisor" (CA 7) ["one", "other"])(Z:Bz mg)    : Dfn P w K mg base rl "common_divisor" ["one", "other"] 1 aI:=by
 have sc:=eP
 refine Dfn.of Fn sc (aI.mono) (aI.len) (fun cdv A outer s H E hr=>(ah (iG [] GO (bK (nM hr.units) iI (bh _) (vn 1) af) (aq (qP 0 1 rfl sc.nd (aa (vn 1) (aa (v_mod (vn 0) (vn 1)) ab)))))
  (aq (ax (uZ Z.abs_ (aa (vn 0) ab)))))) ?_
 rintro ws Q ⟨i,j,rfl,_,hQ⟩
 refine aw ?_
 simp_arith only[ac]
 refine kr (σ:=Int×Int) (fun s=>[some (.d (.int s.1)),some (.d (.int s.2))]) (fun s=>!(s.2==0)) (fun s=>(s.2,s.1.fmod s.2)) (fun s=>s.2.natAbs) (fun s=>GF s.1 s.2=GF i j) (i,j) rfl rfl ?_ ?_ ?_
 · intro s _
   simp_arith only[ac]
 · intro s e c
   have hc:s.2≠0:=by simpa using c
   refine⟨by rw[ip];exact e,f_ hc,_,?_,rfl⟩
   simp_arith only[ai,ac]
 · intro s e c
   have hc:s.2=0:=by simpa using c
   simp_arith only[ac]
   rw[hc,Int.gcd_zero_right]at e
   refine ay ?_
   have:(if s.1<0 then -s.1 else s.1)=((GF i j:Nat):Int):=by rw[<- e];split<;>omega
   rw[this]
   exact hQ
def bv:List W->(FH->Prop)->Prop:=fun ws Q=>∃(a b:Int),ws=[.d (.int a),.d (.int b)]/\((b≠0)/\(b.natAbs<2^8000))/\Q (fr (qd a b))
theorem bv.mono:∀ws (Q Q':FH->Prop),(∀d,Q d->Q' d)->bv ws Q->bv ws Q':=fun _ _ _ h_ ⟨a,b,e_,p_,q_⟩=>⟨a,b,e_,p_,h_ _ q_⟩
theorem bv.len:∀ws (Q:FH->Prop),bv ws Q->ws.length=2:=fun _ _ ⟨_,_,e_,_⟩=>by subst e_;rfl
theorem bv.eq(a b:Int)(hb:b≠0)(hz:b.natAbs<2^8000):bv [.d (.int a),.d (.int b)]=VL.ret (fr (qd a b):FH):=by
 refine ag fun Q=>⟨?_,fun q_=>⟨a,b,rfl,⟨hb,hz⟩,q_⟩⟩
 rintro⟨a',b',e_,_,q_⟩
 simp_arith only[cR,bH,bI,aN,aM,bJ]at e_
 obtain⟨rfl,rfl⟩:=e_
 exact q_
theorem jH:FnScope ["top", "bottom", "divisor"] ["top", "bottom"] (defScope (CA 8)):=⟨rfl,rfl,rfl,by decide +kernel,rfl,by decide +kernel,by decide +kernel⟩
theorem d_fraction(Fn:FnIn K mg "fraction" (CA 8) ["top", "bottom"])(Z:Bz mg)(d_common_divisor:∀rl,Dfn P w K mg base rl "common_divisor" ["one", "other"] 1 aI)   : Dfn P w K mg base rl "fraction" ["top", "bottom"] 2 bv:=by
 have sc:=jH
 refine Dfn.of Fn sc (bv.mono) (bv.len) (fun cdv A outer s H E hr=>(ah (cS (bK (rg hr.units) iI (bh _) (vn 1) af) (aq kB) bT)
  (ah (am 2 sc.nd (au (d_common_divisor _) (hr.mono (by decide)) (aa (vn 0) (aa (vn 1) ab))))
  (ah (cS (bK pW pi (bh _) (vn 1) af) (aq (am 2 sc.nd (po (vn 2)))) bT)
  (aq (ax (cn (aa (v_div (vn 0) (vn 2)) (aa (v_div (vn 1) (vn 2)) ab))))))))) ?_
 rintro ws Q ⟨a,b,rfl,⟨hb,hz⟩,hQ⟩
 refine aw ?_
 have h0:(b==0)=false:=by simp;omega
 have g0:(GF a b:Int)≠0:=by have:=Int.gcd_ne_zero_right (a:=a) hb;omega
 have gz:((GF a b:Int)).natAbs<2^9000:=by
  rw[Hq]
  have h1:GF a b<=b.natAbs:=Nat.le_of_dvd (by omega) (Kp ..)
  exact Im h1 (FN hz (FX (by decide) (by decide)))
 have c1:dW a (GF a b:Int):=⟨g0,gz⟩
 have c2:dW b (GF a b:Int):=⟨g0,gz⟩
 have c3:dW a (-(GF a b:Int)):=⟨by omega,by rw[Ly];exact gz⟩
 have c4:dW b (-(GF a b:Int)):=⟨by omega,by rw[Ly];exact gz⟩
 by_cases hn:b<0
 · have h1:decide (b<0)=true:=by simpa using hn
   simp_arith only[ai,ac,aI.eq,h0,h1]
   rw[tQ hn]
   exact ay hQ
 · have h1:decide (b<0)=false:=by simpa using hn
   simp_arith only[ai,ac,aI.eq,h0,h1]
   rw[nU (by omega)]
   exact ay hQ
def fP:List W->(FH->Prop)->Prop:=fun ws Q=>∃(q r:Rat),ws=[.d (fr q),.d (fr r)]/\((Df 2000 q)/\(Df 2000 r))/\Q (fr (q+r))
theorem fP.mono:∀ws (Q Q':FH->Prop),(∀d,Q d->Q' d)->fP ws Q->fP ws Q':=fun _ _ _ h_ ⟨q,r,e_,p_,q_⟩=>⟨q,r,e_,p_,h_ _ q_⟩
theorem fP.len:∀ws (Q:FH->Prop),fP ws Q->ws.length=2:=fun _ _ ⟨_,_,e_,_⟩=>by subst e_;rfl
theorem fP.eq(q r:Rat)(h1:Df 2000 q)(h2:Df 2000 r):fP [.d (fr q),.d (fr r)]=VL.ret (fr (q+r):FH):=by
 refine ag fun Q=>⟨?_,fun q_=>⟨q,r,rfl,⟨h1,h2⟩,q_⟩⟩
 rintro⟨q',r',e_,_,q_⟩
 simp_arith only[cR,bH,bI,aN,aM,bJ]at e_
 obtain⟨rfl,rfl⟩:=e_
 exact q_
theorem sE:FnScope ["one", "other"] ["one", "other"] (defScope (CA 9)):=⟨rfl,rfl,rfl,by decide +kernel,rfl,by decide +kernel,by decide +kernel⟩
theorem d_plus(Fn:FnIn K mg "plus" (CA 9) ["one", "other"])(Z:Bz mg)(d_fraction:∀rl,Dfn P w K mg base rl "fraction" ["top", "bottom"] 2 bv)   : Dfn P w K mg base rl "plus" ["one", "other"] 3 fP:=by
 have sc:=sE
 refine Dfn.of Fn sc (fP.mono) (fP.len) (fun cdv A outer s H E hr=>(aq (ax (au (d_fraction _) (hr.mono (by decide)) (aa (v_add (v_mul (bW (vn 0) af) (bW (vn 1) af)) (v_mul (bW (vn 1) af) (bW (vn 0) af))) (aa (v_mul (bW (vn 0) af) (bW (vn 1) af)) ab)))))) ?_
 rintro ws Q ⟨q,r,rfl,⟨h1,h2⟩,hQ⟩
 refine aw ?_
 have m1:aZ q.num r.den:=.bb h1.bn h2.bd
 have m2:aZ r.num q.den:=.bb h2.bn h1.bd
 have m3:aZ q.den r.den:=.bb h1.bd h2.bd
 have m4:aZ q.num r.num:=.bb h1.bn h2.bn
 have d1:(q.den:Int)*r.den≠0:=by have:=eR q r;omega
 have d2:=gb h1 h2
 simp_arith only[ai,ac,bv.eq,FE,vT]
 exact ay hQ
def eY:List W->(FH->Prop)->Prop:=fun ws Q=>∃(q r:Rat),ws=[.d (fr q),.d (fr r)]/\((Df 2000 q)/\(Df 2000 r))/\Q (fr (q-r))
theorem eY.mono:∀ws (Q Q':FH->Prop),(∀d,Q d->Q' d)->eY ws Q->eY ws Q':=fun _ _ _ h_ ⟨q,r,e_,p_,q_⟩=>⟨q,r,e_,p_,h_ _ q_⟩
theorem eY.len:∀ws (Q:FH->Prop),eY ws Q->ws.length=2:=fun _ _ ⟨_,_,e_,_⟩=>by subst e_;rfl
theorem eY.eq(q r:Rat)(h1:Df 2000 q)(h2:Df 2000 r):eY [.d (fr q),.d (fr r)]=VL.ret (fr (q-r):FH):=by
 refine ag fun Q=>⟨?_,fun q_=>⟨q,r,rfl,⟨h1,h2⟩,q_⟩⟩
 rintro⟨q',r',e_,_,q_⟩
 simp_arith only[cR,bH,bI,aN,aM,bJ]at e_
 obtain⟨rfl,rfl⟩:=e_
 exact q_
theorem sG:FnScope ["one", "other"] ["one", "other"] (defScope (CA 10)):=⟨rfl,rfl,rfl,by decide +kernel,rfl,by decide +kernel,by decide +kernel⟩
theorem d_less(Fn:FnIn K mg "less" (CA 10) ["one", "other"])(Z:Bz mg)(d_fraction:∀rl,Dfn P w K mg base rl "fraction" ["top", "bottom"] 2 bv)   : Dfn P w K mg base rl "less" ["one", "other"] 3 eY:=by
 have sc:=sG
 refine Dfn.of Fn sc (eY.mono) (eY.len) (fun cdv A outer s H E hr=>(aq (ax (au (d_fraction _) (hr.mono (by decide)) (aa (v_sub (v_mul (bW (vn 0) af) (bW (vn 1) af)) (v_mul (bW (vn 1) af) (bW (vn 0) af))) (aa (v_mul (bW (vn 0) af) (bW (vn 1) af)) ab)))))) ?_
 rintro ws Q ⟨q,r,rfl,⟨h1,h2⟩,hQ⟩
 refine aw ?_
 have m1:aZ q.num r.den:=.bb h1.bn h2.bd
 have m2:aZ r.num q.den:=.bb h2.bn h1.bd
 have m3:aZ q.den r.den:=.bb h1.bd h2.bd
 have m4:aZ q.num r.num:=.bb h1.bn h2.bn
 have d1:(q.den:Int)*r.den≠0:=by have:=eR q r;omega
 have d2:=gb h1 h2
 simp_arith only[ai,ac,bv.eq,FE,vR]
 exact ay hQ
def dh:List W->(FH->Prop)->Prop:=fun ws Q=>∃(q r:Rat),ws=[.d (fr q),.d (fr r)]/\((Df 2000 q)/\(Df 2000 r))/\Q (fr (q*r))
theorem dh.mono:∀ws (Q Q':FH->Prop),(∀d,Q d->Q' d)->dh ws Q->dh ws Q':=fun _ _ _ h_ ⟨q,r,e_,p_,q_⟩=>⟨q,r,e_,p_,h_ _ q_⟩
theorem dh.len:∀ws (Q:FH->Prop),dh ws Q->ws.length=2:=fun _ _ ⟨_,_,e_,_⟩=>by subst e_;rfl
theorem dh.eq(q r:Rat)(h1:Df 2000 q)(h2:Df 2000 r):dh [.d (fr q),.d (fr r)]=VL.ret (fr (q*r):FH):=by
 refine ag fun Q=>⟨?_,fun q_=>⟨q,r,rfl,⟨h1,h2⟩,q_⟩⟩
 rintro⟨q',r',e_,_,q_⟩
 simp_arith only[cR,bH,bI,aN,aM,bJ]at e_
 obtain⟨rfl,rfl⟩:=e_
 exact q_
theorem pG:FnScope ["one", "other"] ["one", "other"] (defScope (CA 11)):=⟨rfl,rfl,rfl,by decide +kernel,rfl,by decide +kernel,by decide +kernel⟩
theorem d_times(Fn:FnIn K mg "times" (CA 11) ["one", "other"])(Z:Bz mg)(d_fraction:∀rl,Dfn P w K mg base rl "fraction" ["top", "bottom"] 2 bv)   : Dfn P w K mg base rl "times" ["one", "other"] 3 dh:=by
 have sc:=pG
 refine Dfn.of Fn sc (dh.mono) (dh.len) (fun cdv A outer s H E hr=>(aq (ax (au (d_fraction _) (hr.mono (by decide)) (aa (v_mul (bW (vn 0) af) (bW (vn 1) af)) (aa (v_mul (bW (vn 0) af) (bW (vn 1) af)) ab)))))) ?_
 rintro ws Q ⟨q,r,rfl,⟨h1,h2⟩,hQ⟩
 refine aw ?_
 have m1:aZ q.num r.den:=.bb h1.bn h2.bd
 have m2:aZ r.num q.den:=.bb h2.bn h1.bd
 have m3:aZ q.den r.den:=.bb h1.bd h2.bd
 have m4:aZ q.num r.num:=.bb h1.bn h2.bn
 have d1:(q.den:Int)*r.den≠0:=by have:=eR q r;omega
 have d2:=gb h1 h2
 simp_arith only[ai,ac,bv.eq,FE,vS]
 exact ay hQ
def a_:List W->(FH->Prop)->Prop:=fun ws Q=>∃(q r:Rat),ws=[.d (fr q),.d (fr r)]/\((Df 2000 q)/\(Df 2000 r))/\Q (.bool (decide (q<r)))
theorem a_.mono:∀ws (Q Q':FH->Prop),(∀d,Q d->Q' d)->a_ ws Q->a_ ws Q':=fun _ _ _ h_ ⟨q,r,e_,p_,q_⟩=>⟨q,r,e_,p_,h_ _ q_⟩
theorem a_.len:∀ws (Q:FH->Prop),a_ ws Q->ws.length=2:=fun _ _ ⟨_,_,e_,_⟩=>by subst e_;rfl
theorem a_.eq(q r:Rat)(h1:Df 2000 q)(h2:Df 2000 r):a_ [.d (fr q),.d (fr r)]=VL.ret (.bool (decide (q<r)):FH):=by
 refine ag fun Q=>⟨?_,fun q_=>⟨q,r,rfl,⟨h1,h2⟩,q_⟩⟩
 rintro⟨q',r',e_,_,q_⟩
 simp_arith only[cR,bH,bI,aN,aM,bJ]at e_
 obtain⟨rfl,rfl⟩:=e_
 exact q_
theorem jG:FnScope ["one", "other"] ["one", "other"] (defScope (CA 12)):=⟨rfl,rfl,rfl,by decide +kernel,rfl,by decide +kernel,by decide +kernel⟩
theorem d_is_below(Fn:FnIn K mg "is_below" (CA 12) ["one", "other"])(Z:Bz mg)    : Dfn P w K mg base rl "is_below" ["one", "other"] 1 a_:=by
 have sc:=jG
 refine Dfn.of Fn sc (a_.mono) (a_.len) (fun cdv A outer s H E hr=>(aq (ax (jC pW pi (bh _) (v_mul (bW (vn 0) af) (bW (vn 1) af)) (v_mul (bW (vn 1) af) (bW (vn 0) af)))))) ?_
 rintro ws Q ⟨q,r,rfl,⟨h1,h2⟩,hQ⟩
 refine aw ?_
 have m1:aZ q.num r.den:=.bb h1.bn h2.bd
 have m2:aZ r.num q.den:=.bb h2.bn h1.bd
 simp_arith only[ai,ac,FE,zu]
 exact ay hQ
def cN:List W->(FH->Prop)->Prop:=fun ws Q=>∃(q r:Rat),ws=[.d (fr q),.d (fr r)]/\((Df 2000 q)/\(Df 2000 r))/\Q (fr (mn q r))
theorem cN.mono:∀ws (Q Q':FH->Prop),(∀d,Q d->Q' d)->cN ws Q->cN ws Q':=fun _ _ _ h_ ⟨q,r,e_,p_,q_⟩=>⟨q,r,e_,p_,h_ _ q_⟩
theorem cN.len:∀ws (Q:FH->Prop),cN ws Q->ws.length=2:=fun _ _ ⟨_,_,e_,_⟩=>by subst e_;rfl
theorem cN.eq(q r:Rat)(h1:Df 2000 q)(h2:Df 2000 r):cN [.d (fr q),.d (fr r)]=VL.ret (fr (mn q r):FH):=by
 refine ag fun Q=>⟨?_,fun q_=>⟨q,r,rfl,⟨h1,h2⟩,q_⟩⟩
 rintro⟨q',r',e_,_,q_⟩
 simp_arith only[cR,bH,bI,aN,aM,bJ]at e_
 obtain⟨rfl,rfl⟩:=e_
 exact q_
theorem nh:FnScope ["one", "other"] ["one", "other"] (defScope (CA 13)):=⟨rfl,rfl,rfl,by decide +kernel,rfl,by decide +kernel,by decide +kernel⟩
theorem d_lesser(Fn:FnIn K mg "lesser" (CA 13) ["one", "other"])(Z:Bz mg)(d_is_below:∀rl,Dfn P w K mg base rl "is_below" ["one", "other"] 1 a_)   : Dfn P w K mg base rl "lesser" ["one", "other"] 2 cN:=by
 have sc:=nh
 refine Dfn.of Fn sc (cN.mono) (cN.len) (fun cdv A outer s H E hr=>(aq (ax (gZ (dF (au (d_is_below _) (hr.mono (by decide)) (aa (vn 0) (aa (vn 1) ab)))) (vn 0) (vn 1))))) ?_
 rintro ws Q ⟨q,r,rfl,⟨h1,h2⟩,hQ⟩
 refine aw ?_
 simp_arith only[ai,ac,a_.eq,FE]
 unfold mn at hQ
 refine ay ?_
 by_cases h:q<r<;>simp[h]at hQ ⊢ <;> exact hQ
def cg:List W->(FH->Prop)->Prop:=fun ws Q=>∃(q r:Rat),ws=[.d (fr q),.d (fr r)]/\((Df 2000 q)/\(Df 2000 r))/\Q (fr (mx q r))
theorem cg.mono:∀ws (Q Q':FH->Prop),(∀d,Q d->Q' d)->cg ws Q->cg ws Q':=fun _ _ _ h_ ⟨q,r,e_,p_,q_⟩=>⟨q,r,e_,p_,h_ _ q_⟩
theorem cg.len:∀ws (Q:FH->Prop),cg ws Q->ws.length=2:=fun _ _ ⟨_,_,e_,_⟩=>by subst e_;rfl
theorem cg.eq(q r:Rat)(h1:Df 2000 q)(h2:Df 2000 r):cg [.d (fr q),.d (fr r)]=VL.ret (fr (mx q r):FH):=by
 refine ag fun Q=>⟨?_,fun q_=>⟨q,r,rfl,⟨h1,h2⟩,q_⟩⟩
 rintro⟨q',r',e_,_,q_⟩
 simp_arith only[cR,bH,bI,aN,aM,bJ]at e_
 obtain⟨rfl,rfl⟩:=e_
 exact q_
theorem lH:FnScope ["one", "other"] ["one", "other"] (defScope (CA 14)):=⟨rfl,rfl,rfl,by decide +kernel,rfl,by decide +kernel,by decide +kernel⟩
theorem d_greater(Fn:FnIn K mg "greater" (CA 14) ["one", "other"])(Z:Bz mg)(d_is_below:∀rl,Dfn P w K mg base rl "is_below" ["one", "other"] 1 a_)   : Dfn P w K mg base rl "greater" ["one", "other"] 2 cg:=by
 have sc:=lH
 refine Dfn.of Fn sc (cg.mono) (cg.len) (fun cdv A outer s H E hr=>(aq (ax (gZ (dF (au (d_is_below _) (hr.mono (by decide)) (aa (vn 0) (aa (vn 1) ab)))) (vn 1) (vn 0))))) ?_
 rintro ws Q ⟨q,r,rfl,⟨h1,h2⟩,hQ⟩
 refine aw ?_
 simp_arith only[ai,ac,a_.eq,FE]
 unfold mx at hQ
 refine ay ?_
 by_cases h:q<r<;>simp[h]at hQ ⊢ <;> exact hQ
theorem yM(h:Df 2000 q):(q.den:Int).natAbs<2^2000:=by rw[Hq];exact h.2
def cf:List W->(FH->Prop)->Prop:=fun ws Q=>∃(b:Bool)(qs:List Rat),ws=[.d (C0 b qs)]/\((qs.length<60)/\(∀q∈qs,Df 2000 q))/\∀rs:List Rat,(ff qs rs)->Q (.tuple (rs.map fr))
theorem cf.mono:∀ws (Q Q':FH->Prop),(∀d,Q d->Q' d)->cf ws Q->cf ws Q':=fun _ _ _ h_ ⟨b,qs,e_,p_,q_⟩=>⟨b,qs,e_,p_,fun o_ ho_=>h_ _ (q_ o_ ho_)⟩
theorem cf.len:∀ws (Q:FH->Prop),cf ws Q->ws.length=1:=fun _ _ ⟨_,_,e_,_⟩=>by subst e_;rfl
theorem cf.eq(b:Bool)(qs:List Rat)(hl:qs.length<60)(hq:∀q∈qs,Df 2000 q):cf [.d (C0 b qs)]=Ek (anyM fun rs:List Rat=>ff qs rs) fun rs=>VL.ret (.tuple (rs.map fr):FH):=by
 refine ag fun Q=>⟨?_,fun q_=>⟨b,qs,rfl,⟨hl,hq⟩,q_⟩⟩
 rintro⟨b',qs',e_,_,q_⟩
 simp_arith only[cR,bH,bI,aN,aM,bJ,cU]at e_
 obtain⟨rfl,rfl⟩:=e_
 exact q_
theorem lG:FnScope ["some", "bottom", "scale", "by_size"] ["some"] (defScope (CA 15)):=⟨rfl,rfl,rfl,by decide +kernel,rfl,by decide +kernel,by decide +kernel⟩
theorem d_in_size(Fn:FnIn K mg "in_size" (CA 15) ["some"])(Z:Bz mg)    : Dfn P w K mg base rl "in_size" ["some"] 1 cf:=by
 have sc:=lG
 refine Dfn.of Fn sc (cf.mono) (cf.len) (fun cdv A outer s H E hr=>(ah (am 1 sc.nd (uY rfl Z.max_ (aa (bU ["one"] [none] rfl (kE (vn 0)) (fun _=>(aj 0 (show G1 (["one"]:List Str) by decide +kernel))) (fun _=>bR) (fun _=>(bW (vn 0) af))) ab) af))
  (ah (am 2 sc.nd (v_mul (vn 1) (vn 1)))
  (ah (jz 3 sc.nd ["one", "scale"] [none,some 2] rfl (kE (vn 0)) (fun _=>(aj 0 (show G1 (["one", "scale"]:List Str) by decide +kernel))) (fun _=>bR) (fun _=>(v_div (v_mul (bW (vn 0) af) (vn 1)) (bW (vn 0) af))) (fun _=>(vn 0)))
  (aq (ax (jB Z.tuple_ (aa (bU ["size", "by_size"] [none,some 3] rfl (bi (mG rfl Z.sorted_ (aa (vn 3) ab))) (fun _=>(aj 0 (show G1 (["size", "by_size"]:List Str) by decide +kernel))) (fun _=>bR) (fun _=>(rX hr.un1 (vn 1) (vn 0)))) ab)))))))) ?_
 rintro ws Q ⟨b,qs,rfl,⟨hl,hq⟩,hQ⟩
 refine aw ?_
 have sz:=GL
 simp_arith only[ai,ac,FF,FA,FC,dM,FE]
 refine CZ (b9 (xs:=qs) (enc:=fr) (fun q=>.int q.den) rfl ?_ (by omega) ?_)
 · intro q mq
   simp_arith only[ai,ac,DR,FE]
 have e1:qs.map (fun q=>GA q.den)=(qs.map fun q=>(q.den:Int)).map .int:=by rw[HK];rfl
 rw[e1]
 obtain⟨mx1,mx2⟩:=wI (qs.map fun q=>(q.den:Int))
 have hB:∀q∈qs,(q.den:Int)<=DA 1 (qs.map fun q=>(q.den:Int)):=fun q mq=>mx1 _ (GJ.mpr ⟨q,mq,rfl⟩)
 have bB:Fz (DA 1 (qs.map fun q=>(q.den:Int))):=by
  rcases mx2 with z|z
  · rw[z];exact iD (by decide)
  · obtain⟨q,mq,e⟩:=GJ.mp z
    rw[<- e];exact iD (yM (hq q mq))
 have b2:(DA 1 (qs.map fun q=>(q.den:Int))).natAbs<2^2000:=by
  rcases mx2 with z|z
  · rw[z];decide
  · obtain⟨q,mq,e⟩:=GJ.mp z
    rw[<- e];exact yM (hq q mq)
 simp_arith only[ai,ac,FF,FA,FC,dM,FE]
 generalize DA 1 (qs.map fun q=>(q.den:Int))=B at *
 have cm:aZ B B:=.bb bB bB
 have bS:Fz (B*B):=by
  unfold Fz
  rw[Ja]
  exact FN (KO b2 b2) (by rw[<- Mx];exact FX (by decide) (by decide))
 simp_arith only[ai,ac,FF,FA,FC,dM,FE]
 refine CZ (ug (xs:=qs) (enc:=fr) (fun q=>((HX (CT (B*B) q):E7),fr q)) rfl ?_ (by omega) ?_)
 · intro q mq
   have c1:aZ q.num (B*B):=.bb (hq q mq).bn bS
   have c2:dW (q.num*(B*B)) q.den:=⟨by have:=eE q;omega,FN (yM (hq q mq)) (FX (by decide) (by decide))⟩
   simp_arith only[ai,ac,DS,FF,FA,FC,dM,FE]
   rfl
 obtain⟨ms,f1,f2,f3,f4,f5⟩:=ua (CT (B*B)) qs fun q r mq mr e=>mZ (hB q mq) (hB r mr) e
 have ef:((qs.map fun q=>((HX (CT (B*B) q):E7),fr q)).foldl (fun a p=>VL.putF a p.1 p.2) [])=ub (CT (B*B)) qs:=rfl
 rw[ef]
 simp_arith only[ai,ac,FF,FA,FC,dM,FE]
 refine sA ms f1 (by omega) ?_
 intro ns pm pw
 obtain⟨rs,er,hr,so⟩:=m8 hB f2 f3 pm pw
 subst er
 have lr:=dv so
 simp_arith only[ai,ac,FF,FA,FC,dM,FE]
 refine b9 (xs:=rs) (enc:=fun r=>GA (CT (B*B) r)) fr (by rw[HK];rfl) ?_ (by omega) ?_
 · intro r mr
   have v:=f4 r (hr r mr)
   simp_arith only[ai,ac,DR,FF,FA,FC,dM,FE,v]
 exact ay (hQ rs so)
def bO:List W->(FH->Prop)->Prop:=fun ws Q=>∃(s:Sd),ws=[.d (C8 s)]/\((s.Sm))/\Q (fr (CQ s))
theorem bO.mono:∀ws (Q Q':FH->Prop),(∀d,Q d->Q' d)->bO ws Q->bO ws Q':=fun _ _ _ h_ ⟨s,e_,p_,q_⟩=>⟨s,e_,p_,h_ _ q_⟩
theorem bO.len:∀ws (Q:FH->Prop),bO ws Q->ws.length=1:=fun _ _ ⟨_,e_,_⟩=>by subst e_;rfl
theorem bO.eq(s:Sd)(sm:s.Sm):bO [.d (C8 s)]=VL.ret (fr (CQ s):FH):=by
 refine ag fun Q=>⟨?_,fun q_=>⟨s,rfl,sm,q_⟩⟩
 rintro⟨s',e_,_,q_⟩
 simp_arith only[cR,bH,bI,aN,aM,bJ]at e_
 obtain rfl:=e_
 exact q_
theorem i3:FnScope ["side", "end", "width"] ["side"] (defScope (CA 17)):=⟨rfl,rfl,rfl,by decide +kernel,rfl,by decide +kernel,by decide +kernel⟩
theorem d_side_size(Fn:FnIn K mg "side_size" (CA 17) ["side"])(Z:Bz mg)(d_greater:∀rl,Dfn P w K mg base rl "greater" ["one", "other"] 2 cg)(d_less:∀rl,Dfn P w K mg base rl "less" ["one", "other"] 3 eY)(d_lesser:∀rl,Dfn P w K mg base rl "lesser" ["one", "other"] 2 cN)(d_plus:∀rl,Dfn P w K mg base rl "plus" ["one", "other"] 3 fP)(gl_ZERO:GlD K mg "ZERO" (pr 0 1))(gl_ONE:GlD K mg "ONE" (pr 1 1))  : Dfn P w K mg base rl "side_size" ["side"] 4 bO:=by
 have sc:=i3
 refine Dfn.of Fn sc (bO.mono) (bO.len) (fun cdv A outer s H E hr=>(ah (am 1 sc.nd (au (d_greater _) (hr.mono (by decide)) (aa (bW (vn 0) (po af)) (aa (dG gl_ZERO) ab))))
  (ah (cS (bK gu dE (bh _) (bW (vn 0) af) bX) (aq (ax (vn 1))) bT)
  (ah (am 2 sc.nd (au (d_less _) (hr.mono (by decide)) (aa (vn 1) (aa (au (d_greater _) (hr.mono (by decide)) (aa (bW (vn 0) af) (aa (dG gl_ZERO) ab))) ab))))
  (ah (cS (bK gu dE (bh _) (bW (vn 0) af) bX) (aq (ax (au (d_greater _) (hr.mono (by decide)) (aa (vn 2) (aa (dG gl_ZERO) ab))))) bT)
  (aq (ax (au (d_lesser _) (hr.mono (by decide)) (aa (au (d_plus _) (hr.mono (by decide)) (aa (dG gl_ONE) (aa (vn 2) ab))) (aa (dG gl_ONE) ab)))))))))) ?_
 rintro ws Q ⟨s,rfl,sm,hQ⟩
 have w1:decide (F0 "from" = F0 "to")=false:=by decide +kernel
 have w2:decide (F0 "round" = F0 "to")=false:=by decide +kernel
 have w3:decide (F0 "round" = F0 "from")=false:=by decide +kernel
 have w4:decide (F0 "to" = F0 "to")=true:=by decide +kernel
 have w5:decide (F0 "from" = F0 "from")=true:=by decide +kernel
 refine aw ?_
 have z0:Df 2000 0:=xO.up
 have z1:Df 2000 1:=Bx.up
 cases s with
 | to t =>
   have a1:Df 2000 t:=sm.2.up
   simp_arith only[ai,ac,cg.eq,eY.eq,cN.eq,fP.eq,FE,w1,w2,w3,w4,w5,C8]
   exact ay hQ
 | «from» a b =>
   have a1:Df 2000 b:=sm.2.up
   have a2:Df 2000 a:=sm.1.up
   have m1:Df 60 (mx b 0):=jO sm.2 xO
   have m2:Df 60 (mx a 0):=jO sm.1 xO
   have m3:=m1.up
   have m4:=m2.up
   have m5:Df 2000 (mx b 0-mx a 0):=(iW m1 m2).mono (by decide)
   simp_arith only[ai,ac,cg.eq,eY.eq,cN.eq,fP.eq,FE,w1,w2,w3,w4,w5,C8]
   exact ay hQ
 | round a b =>
   have a1:Df 2000 b:=sm.2.up
   have a2:Df 2000 a:=sm.1.up
   have m1:Df 60 (mx b 0):=jO sm.2 xO
   have m2:Df 60 (mx a 0):=jO sm.1 xO
   have m3:=m1.up
   have m4:=m2.up
   have m5:Df 2000 (mx b 0-mx a 0):=(iW m1 m2).mono (by decide)
   have m6:Df 2000 (1+(mx b 0-mx a 0)):=(rH Bx (iW m1 m2)).mono (by decide)
   simp_arith only[ai,ac,cg.eq,eY.eq,cN.eq,fP.eq,FE,w1,w2,w3,w4,w5,C8]
   exact ay hQ
def bG:List W->(FH->Prop)->Prop:=fun ws Q=>∃(x y:Rat)(b:Bool),ws=[.d (fr x),.d (fr y),.d (.bool b)]/\((Df 2000 x)/\(Df 2000 y))/\Q (.bool (D5 x y b))
theorem bG.mono:∀ws (Q Q':FH->Prop),(∀d,Q d->Q' d)->bG ws Q->bG ws Q':=fun _ _ _ h_ ⟨x,y,b,e_,p_,q_⟩=>⟨x,y,b,e_,p_,h_ _ q_⟩
theorem bG.len:∀ws (Q:FH->Prop),bG ws Q->ws.length=3:=fun _ _ ⟨_,_,_,e_,_⟩=>by subst e_;rfl
theorem bG.eq(x y:Rat)(b:Bool)(h1:Df 2000 x)(h2:Df 2000 y):bG [.d (fr x),.d (fr y),.d (.bool b)]=VL.ret (.bool (D5 x y b):FH):=by
 refine ag fun Q=>⟨?_,fun q_=>⟨x,y,b,rfl,⟨h1,h2⟩,q_⟩⟩
 rintro⟨x',y',b',e_,_,q_⟩
 simp_arith only[cR,bH,bI,aN,aM,bJ]at e_
 obtain⟨rfl,rfl,rfl⟩:=e_
 exact q_
theorem ia:FnScope ["one", "other", "may_meet"] ["one", "other", "may_meet"] (defScope (CA 18)):=⟨rfl,rfl,rfl,by decide +kernel,rfl,by decide +kernel,by decide +kernel⟩
theorem d_goes_ahead(Fn:FnIn K mg "goes_ahead" (CA 18) ["one", "other", "may_meet"])(Z:Bz mg)(d_is_below:∀rl,Dfn P w K mg base rl "is_below" ["one", "other"] 1 a_)   : Dfn P w K mg base rl "goes_ahead" ["one", "other", "may_meet"] 2 bG:=by
 have sc:=ia
 refine Dfn.of Fn sc (bG.mono) (bG.len) (fun cdv A outer s H E hr=>(ah (cS (dF (vn 2)) (aq (ax (v_not (au (d_is_below _) (hr.mono (by decide)) (aa (vn 1) (aa (vn 0) ab)))))) bT)
  (aq (ax (au (d_is_below _) (hr.mono (by decide)) (aa (vn 0) (aa (vn 1) ab))))))) ?_
 rintro ws Q ⟨x,y,b,rfl,⟨h1,h2⟩,hQ⟩
 refine aw ?_
 simp_arith only[ai,ac,a_.eq,FE]
 cases b<;>simp only[D5,Jn,↓reduceIte]at hQ ⊢ <;> exact ay hQ
def fQ:List W->(FH->Prop)->Prop:=fun ws Q=>∃(x:Rat)(s:Sd)(w:Str),ws=[.d (fr x),.d (C8 s),.d (.str w)]/\((Df 60 x)/\(s.Sm)/\(DT w))/\Q (.bool (DF s w x))
theorem fQ.mono:∀ws (Q Q':FH->Prop),(∀d,Q d->Q' d)->fQ ws Q->fQ ws Q':=fun _ _ _ h_ ⟨x,s,w,e_,p_,q_⟩=>⟨x,s,w,e_,p_,h_ _ q_⟩
theorem fQ.len:∀ws (Q:FH->Prop),fQ ws Q->ws.length=3:=fun _ _ ⟨_,_,_,e_,_⟩=>by subst e_;rfl
theorem fQ.eq(x:Rat)(s:Sd)(w:Str)(sx:Df 60 x)(sm:s.Sm)(hw:DT w):fQ [.d (fr x),.d (C8 s),.d (.str w)]=VL.ret (.bool (DF s w x):FH):=by
 refine ag fun Q=>⟨?_,fun q_=>⟨x,s,w,rfl,⟨sx,sm,hw⟩,q_⟩⟩
 rintro⟨x',s',w',e_,_,q_⟩
 simp_arith only[cR,bH,bI,aN,aM,bJ]at e_
 obtain⟨rfl,rfl,rfl⟩:=e_
 exact q_
theorem sF:FnScope ["x", "side", "way", "ahead", "behind"] ["x", "side", "way"] (defScope (CA 19)):=⟨rfl,rfl,rfl,by decide +kernel,rfl,by decide +kernel,by decide +kernel⟩
theorem d_lies(Fn:FnIn K mg "lies" (CA 19) ["x", "side", "way"])(Z:Bz mg)(d_goes_ahead:∀rl,Dfn P w K mg base rl "goes_ahead" ["one", "other", "may_meet"] 2 bG)   : Dfn P w K mg base rl "lies" ["x", "side", "way"] 3 fQ:=by
 have sc:=sF
 refine Dfn.of Fn sc (fQ.mono) (fQ.len) (fun cdv A outer s H E hr=>(ah (am 3 sc.nd (au (d_goes_ahead _) (hr.mono (by decide)) (aa (vn 0) (aa (bW (vn 1) (po af)) (aa (jC gu dE (bh _) (vn 2) bX) ab)))))
  (ah (cS (bK gu dE (bh _) (bW (vn 1) af) bX) (aq (ax (vn 3))) bT)
  (ah (am 4 sc.nd (au (d_goes_ahead _) (hr.mono (by decide)) (aa (bW (vn 1) af) (aa (vn 0) (aa (jC tw mC (bh _) (vn 2) bX) ab)))))
  (ah (cS (bK gu dE (bh _) (bW (vn 1) af) bX) (aq (ax (v_and (vn 4) (uX (vn 3))))) bT)
  (aq (ax (v_or (vn 4) (uX (vn 3)))))))))) ?_
 rintro ws Q ⟨x,s,w,rfl,⟨sx,sm,hw⟩,hQ⟩
 have w1:decide (F0 "from" = F0 "to")=false:=by decide +kernel
 have w2:decide (F0 "round" = F0 "to")=false:=by decide +kernel
 have w3:decide (F0 "round" = F0 "from")=false:=by decide +kernel
 have w4:decide (F0 "to" = F0 "to")=true:=by decide +kernel
 have w5:decide (F0 "from" = F0 "from")=true:=by decide +kernel
 refine aw ?_
 have sx':=sx.up
 have a1:Df 2000 s.last:=sm.2.up
 have a2:Df 2000 s.first:=sm.1.up
 cases s with
 | to t =>
   have a1:Df 2000 t:=a1
   simp_arith only[ai,ac,bG.eq,FE,w1,w2,w3,w4,w5,C8]
   exact ay hQ
 | «from» a b =>
   have a1:Df 2000 b:=a1
   have a2:Df 2000 a:=a2
   simp_arith only[ai,ac,bG.eq,FE,w1,w2,w3,w4,w5,C8]
   exact ay hQ
 | round a b =>
   have a1:Df 2000 b:=a1
   have a2:Df 2000 a:=a2
   simp_arith only[ai,ac,bG.eq,FE,w1,w2,w3,w4,w5,C8]
   exact ay hQ
def bQ:List W->(FH->Prop)->Prop:=fun ws Q=>∃(b:Bool)(ps:List (List Rat)),ws=[.d (Dl b ps)]/\((1<=ps.length))/\Q (.int (pdim ps))
theorem bQ.mono:∀ws (Q Q':FH->Prop),(∀d,Q d->Q' d)->bQ ws Q->bQ ws Q':=fun _ _ _ h_ ⟨b,ps,e_,p_,q_⟩=>⟨b,ps,e_,p_,h_ _ q_⟩
theorem bQ.len:∀ws (Q:FH->Prop),bQ ws Q->ws.length=1:=fun _ _ ⟨_,_,e_,_⟩=>by subst e_;rfl
theorem bQ.eq(b:Bool)(ps:List (List Rat))(h1:1<=ps.length):bQ [.d (Dl b ps)]=VL.ret (.int (pdim ps):FH):=by
 refine ag fun Q=>⟨?_,fun q_=>⟨b,ps,rfl,h1,q_⟩⟩
 rintro⟨b',ps',e_,_,q_⟩
 simp_arith only[cR,bH,bI,aN,aM,bJ,cU,dg,cW,cJ,cI,cY,dk,cP,cX,cV,de,cT,db,c_,dj,and_assoc]at e_
 obtain⟨rfl,rfl⟩:=e_
 exact q_
theorem jF:FnScope ["points"] ["points"] (defScope (CA 21)):=⟨rfl,rfl,rfl,by decide +kernel,rfl,by decide +kernel,by decide +kernel⟩
theorem d_sides_of(Fn:FnIn K mg "sides_of" (CA 21) ["points"])(Z:Bz mg)    : Dfn P w K mg base rl "sides_of" ["points"] 1 bQ:=by
 have sc:=jF
 refine Dfn.of Fn sc (bQ.mono) (bQ.len) (fun cdv A outer s H E hr=>(aq (ax (cE Z.len_ (aa (bW (vn 0) af) ab))))) ?_
 rintro ws Q ⟨b,ps,rfl,h1,hQ⟩
 refine aw ?_
 have e0:atI ps 0=some (ps.head?.getD []):=by
  cases ps with
  | nil=>simp at h1
  | cons p l=>exact at0 p l
 simp_arith only[ai,ac,FA,fK,eh,eg,FE,e0]
 exact ay hQ
def bg:List W->(FH->Prop)->Prop:=fun ws Q=>∃(b:Bool)(ps:List (List Rat))(i:Int),ws=[.d (Dl b ps),.d (.int i)]/\((1<=ps.length)/\(ps.length<60)/\(pdim ps<=4)/\(EN (pdim ps) ps)/\(0<=i)/\(i<pdim ps))/\∀rs:List Rat,(ff (colQ ps i.toNat) rs)->Q (ptD rs)
theorem bg.mono:∀ws (Q Q':FH->Prop),(∀d,Q d->Q' d)->bg ws Q->bg ws Q':=fun _ _ _ h_ ⟨b,ps,i,e_,p_,q_⟩=>⟨b,ps,i,e_,p_,fun o_ ho_=>h_ _ (q_ o_ ho_)⟩
theorem bg.len:∀ws (Q:FH->Prop),bg ws Q->ws.length=2:=fun _ _ ⟨_,_,_,e_,_⟩=>by subst e_;rfl
theorem bg.eq(b:Bool)(ps:List (List Rat))(i:Int)(h1:1<=ps.length)(h60:ps.length<60)(n4:pdim ps<=4)(hp:EN (pdim ps) ps)(i0:0<=i)(i1:i<pdim ps):bg [.d (Dl b ps),.d (.int i)]=Ek (anyM fun rs:List Rat=>ff (colQ ps i.toNat) rs) fun rs=>VL.ret (ptD rs:FH):=by
 refine ag fun Q=>⟨?_,fun q_=>⟨b,ps,i,rfl,⟨h1,h60,n4,hp,i0,i1⟩,q_⟩⟩
 rintro⟨b',ps',i',e_,_,q_⟩
 simp_arith only[cR,bH,bI,aN,aM,bJ,cU,dg,cW,cJ,cI,cY,dk,cP,cX,cV,de,cT,db,c_,dj,and_assoc]at e_
 obtain⟨rfl,rfl,rfl⟩:=e_
 exact q_
theorem hX:FnScope ["points", "side"] ["points", "side"] (defScope (CA 22)):=⟨rfl,rfl,rfl,by decide +kernel,rfl,by decide +kernel,by decide +kernel⟩
theorem d_numbers_at(Fn:FnIn K mg "numbers_at" (CA 22) ["points", "side"])(Z:Bz mg)(d_in_size:∀rl,Dfn P w K mg base rl "in_size" ["some"] 1 cf)   : Dfn P w K mg base rl "numbers_at" ["points", "side"] 2 bg:=by
 have sc:=hX
 refine Dfn.of Fn sc (bg.mono) (bg.len) (fun cdv A outer s H E hr=>(aq (ax (au (d_in_size _) (hr.mono (by decide)) (aa (bU ["point", "side"] [none,some 1] rfl (kE (vn 0)) (fun _=>(aj 0 (show G1 (["point", "side"]:List Str) by decide +kernel))) (fun _=>bR) (fun _=>(bW (vn 0) (vn 1)))) ab))))) ?_
 rintro ws Q ⟨b,ps,i,rfl,⟨h1,h60,n4,hp,i0,i1⟩,hQ⟩
 refine aw ?_
 have sz:=GL
 simp_arith only[ai,ac,FA,fK,eh,eg,FE]
 refine b9 (xs:=ps) (enc:=ptD) (fun p=>fr (p.getD i.toNat 0)) rfl ?_ (by omega) ?_
 · intro p mp
   have e:=cD (xs:=p) 0 i0 (by rw[(hp p mp).1];exact i1)
   simp_arith only[ai,ac,DR,FE,e]
 · rw[nT]
   have pe:cf [.d (.list ((ps.map fun p=>p.getD i.toNat 0).map fr))]=Ek (anyM fun rs:List Rat=>ff (ps.map fun p=>p.getD i.toNat 0) rs) fun rs=>VL.ret (.tuple (rs.map fr)):=cf.eq false _ (by rw[FR];exact h60) fun q mq=>by
    obtain⟨p,mp,rfl⟩:=GJ.mp mq
    exact((hp p mp).2 _ (getD_mem (by rw[(hp p mp).1];omega))).1.mono (by decide)
   simp_arith only[ai,ac,pe]
   (with_reducible (first|refine aA fun rs hrs=>?_|refine aT fun rs hrs=>?_))
   exact ay (hQ rs hrs)
def bE:List W->(FH->Prop)->Prop:=fun ws Q=>∃(rs:List Rat),ws=[.d (ptD rs),.d (.str "corner")]/\((rs.length<=60))/\Q (DK (rs++[1]))
theorem bE.mono:∀ws (Q Q':FH->Prop),(∀d,Q d->Q' d)->bE ws Q->bE ws Q':=fun _ _ _ h_ ⟨rs,e_,p_,q_⟩=>⟨rs,e_,p_,h_ _ q_⟩
theorem bE.len:∀ws (Q:FH->Prop),bE ws Q->ws.length=2:=fun _ _ ⟨_,e_,_⟩=>by subst e_;rfl
theorem bE.eq(rs:List Rat)(hl:rs.length<=60):bE [.d (ptD rs),.d (.str "corner")]=VL.ret (DK (rs++[1]):FH):=by
 refine ag fun Q=>⟨?_,fun q_=>⟨rs,rfl,hl,q_⟩⟩
 rintro⟨rs',e_,_,q_⟩
 simp_arith only[cR,bH,bI,aN,aM,bJ,cU,dg,cW,cJ,cI,cY,dk,cP,cX,cV,de,cT,db,c_,dj,and_assoc]at e_
 obtain⟨rfl,_⟩:=e_
 exact q_
theorem hW:FnScope ["numbers", "family", "ends", "begins", "inner"] ["numbers", "family"] (defScope (CA 26)):=⟨rfl,rfl,rfl,by decide +kernel,rfl,by decide +kernel,by decide +kernel⟩
theorem d_side_looks(Fn:FnIn K mg "side_looks" (CA 26) ["numbers", "family"])(Z:Bz mg)(d_is_below:∀rl,Dfn P w K mg base rl "is_below" ["one", "other"] 1 a_)(gl_ONE:GlD K mg "ONE" (pr 1 1))(gl_BELOW_ALL:GlD K mg "BELOW_ALL" (pr (-1) 1))  : Dfn P w K mg base rl "side_looks" ["numbers", "family"] 2 bE:=by
 have sc:=hW
 refine Dfn.of Fn sc (bE.mono) (bE.len) (fun cdv A outer s H E hr=>(ah (am 2 sc.nd (iQ (gY Z.list_ (aa (vn 0) ab)) (fg (aa (dG gl_ONE) ab))))
  (ah (cS (bK gu dE (bh _) (vn 1) bX) (aq (ax (bU ["end"] [none] rfl (bi (vn 2)) (fun _=>(aj 0 (show G1 (["end"]:List Str) by decide +kernel))) (fun _=>bR) (fun _=>(cn (aa bX (aa (vn 0) ab))))))) bT)
  (ah (am 3 sc.nd (iQ (fg (aa (dG gl_BELOW_ALL) ab)) (gY Z.list_ (aa (vn 0) ab))))
  (ah (fE 4 sc.nd ["a", "b", "ends"] [none,none,some 2] rfl (bi (vn 3)) (fun _=>(aj 0 (show G1 (["a", "b", "ends"]:List Str) by decide +kernel))) (fun _=>bR) (fun _=>(bi (vn 2))) (fun _=>(aj 1 (show G1 (["a", "b", "ends"]:List Str) by decide +kernel))) (fun _=>kw (qR (dF (au (d_is_below _) (hr.mono (by decide)) (aa (vn 1) (aa (vn 0) ab)))))) (fun _=>(cn (aa bX (aa (vn 0) (aa (vn 1) ab))))))
  (ah (cS (bK gu dE (bh _) (vn 1) bX) (aq (ax (vn 4))) bT)
  (aq (ax (iQ (vn 4) (pq ["a", "b", "begins"] [none,none,some 3] rfl (bi (vn 2)) (fun _=>(aj 0 (show G1 (["a", "b", "begins"]:List Str) by decide +kernel))) (fun _=>bR) (fun _=>(bi (vn 2))) (fun _=>(aj 1 (show G1 (["a", "b", "begins"]:List Str) by decide +kernel))) (fun _=>kw (qR (dF (au (d_is_below _) (hr.mono (by decide)) (aa (vn 0) (aa (vn 1) ab)))))) (fun _=>(cn (aa bX (aa (vn 0) (aa (vn 1) ab))))))))))))))) ?_
 rintro ws Q ⟨rs,rfl,hl,hQ⟩
 have w0:GC (Kq "corner")=true:=by decide +kernel
 have wc:decide (F0 "corner" = F0 "corner")=true:=by decide +kernel
 refine aw ?_
 have sz:=GL
 have g1:rs.length+1<=sizeLine:=by omega
 simp_arith only[ai,ac,FE,w0,wc]
 have em:rs.map fr++[fr 1]=(rs++[1]).map fr:=by rw[Hd];rfl
 have em2:rs.map fr++[Hw [GA 1,GA 1]]=(rs++[1]).map fr:=by rw[Hd];rfl
 refine b9 (xs:=rs++[1]) (enc:=fr) CD (by first|exact em|exact em2) ?_ (by simp;omega) ?_
 · intro e me
   simp_arith only[ai,ac,DR]
   rfl
 · simp_arith only[ai,ac]
   exact ay hQ
def aB:List W->(FH->Prop)->Prop:=fun ws Q=>∃(m:Int),ws=[.d (.int m),.d (.str "corner")]/\(True)/\Q (.int (m+1))
theorem aB.mono:∀ws (Q Q':FH->Prop),(∀d,Q d->Q' d)->aB ws Q->aB ws Q':=fun _ _ _ h_ ⟨m,e_,p_,q_⟩=>⟨m,e_,p_,h_ _ q_⟩
theorem aB.len:∀ws (Q:FH->Prop),aB ws Q->ws.length=2:=fun _ _ ⟨_,e_,_⟩=>by subst e_;rfl
theorem aB.eq(m:Int)  : aB [.d (.int m),.d (.str "corner")]=VL.ret (.int (m+1):FH):=by
 refine ag fun Q=>⟨?_,fun q_=>⟨m,rfl,trivial,q_⟩⟩
 rintro⟨m',e_,_,q_⟩
 simp_arith only[cR,bH,bI,aN,aM,bJ,cU,dg,cW,cJ,cI,cY,dk,cP,cX,cV,de,cT,db,c_,dj,and_assoc]at e_
 obtain⟨rfl,_⟩:=e_
 exact q_
theorem d4:FnScope ["many", "family", "inner"] ["many", "family"] (defScope (CA 27)):=⟨rfl,rfl,rfl,by decide +kernel,rfl,by decide +kernel,by decide +kernel⟩
theorem d_many_side_looks(Fn:FnIn K mg "many_side_looks" (CA 27) ["many", "family"])(Z:Bz mg)    : Dfn P w K mg base rl "many_side_looks" ["many", "family"] 1 aB:=by
 have sc:=d4
 refine Dfn.of Fn sc (aB.mono) (aB.len) (fun cdv A outer s H E hr=>(ah (cS (bK gu dE (bh _) (vn 1) bX) (aq (ax (v_add (vn 0) af))) bT)
  (ah (am 2 sc.nd (v_add (v_div (v_mul (v_add (vn 0) af) (v_add (vn 0) af)) af) (vn 0)))
  (aq (ax (gZ (bK gu dE (bh _) (vn 1) bX) (vn 2) (v_mul af (vn 2)))))))) ?_
 rintro ws Q ⟨m,rfl,_,hQ⟩
 have w0:GC (Kq "corner")=true:=by decide +kernel
 have wc:decide (F0 "corner" = F0 "corner")=true:=by decide +kernel
 refine aw ?_
 simp_arith only[ai,ac,w0,wc]
 exact ay hQ
def bF:List W->(FH->Prop)->Prop:=fun ws Q=>∃(b:Bool)(ps:List (List Rat)),ws=[.d (Dl b ps),.d (.str "corner")]/\((1<=ps.length)/\(ps.length<60)/\(pdim ps<=4)/\(EN (pdim ps) ps))/\∀m:Int,(1<=m/\m<=(ps.length+1)^(pdim ps))->Q (.int m)
theorem bF.mono:∀ws (Q Q':FH->Prop),(∀d,Q d->Q' d)->bF ws Q->bF ws Q':=fun _ _ _ h_ ⟨b,ps,e_,p_,q_⟩=>⟨b,ps,e_,p_,fun o_ ho_=>h_ _ (q_ o_ ho_)⟩
theorem bF.len:∀ws (Q:FH->Prop),bF ws Q->ws.length=2:=fun _ _ ⟨_,_,e_,_⟩=>by subst e_;rfl
theorem bF.eq(b:Bool)(ps:List (List Rat))(h1:1<=ps.length)(h60:ps.length<60)(n4:pdim ps<=4)(hp:EN (pdim ps) ps):bF [.d (Dl b ps),.d (.str "corner")]=Ek (anyM fun m:Int=>1<=m/\m<=(ps.length+1)^(pdim ps)) fun m=>VL.ret (.int m:FH):=by
 refine ag fun Q=>⟨?_,fun q_=>⟨b,ps,rfl,⟨h1,h60,n4,hp⟩,q_⟩⟩
 rintro⟨b',ps',e_,_,q_⟩
 simp_arith only[cR,bH,bI,aN,aM,bJ,cU,dg,cW,cJ,cI,cY,dk,cP,cX,cV,de,cT,db,c_,dj,and_assoc]at e_
 obtain⟨rfl,rfl⟩:=e_
 exact q_
theorem hZ:FnScope ["points", "family", "many", "side"] ["points", "family"] (defScope (CA 28)):=⟨rfl,rfl,rfl,by decide +kernel,rfl,by decide +kernel,by decide +kernel⟩
theorem d_many_looks(Fn:FnIn K mg "many_looks" (CA 28) ["points", "family"])(Z:Bz mg)(d_sides_of:∀rl,Dfn P w K mg base rl "sides_of" ["points"] 1 bQ)(d_many_side_looks:∀rl,Dfn P w K mg base rl "many_side_looks" ["many", "family"] 1 aB)(d_numbers_at:∀rl,Dfn P w K mg base rl "numbers_at" ["points", "side"] 2 bg)   : Dfn P w K mg base rl "many_looks" ["points", "family"] 3 bF:=by
 have sc:=hZ
 refine Dfn.of Fn sc (bF.mono) (bF.len) (fun cdv A outer s H E hr=>(ah (am 2 sc.nd af)
  (ah (bY [3] GO rfl (cy Z.range_ (aa (au (d_sides_of _) (hr.mono (by decide)) (aa (vn 0) ab)) ab)) (aj 3 sc.nd) (aq (uL 2 sc.nd t3 (au (d_many_side_looks _) (hr.mono (by decide)) (aa (cE Z.len_ (aa (au (d_numbers_at _) (hr.mono (by decide)) (aa (vn 0) (aa (vn 3) ab))) ab)) (aa (vn 1) ab))))))
  (aq (ax (vn 2)))))) ?_
 rintro ws Q ⟨b,ps,rfl,⟨h1,h60,n4,hp⟩,hQ⟩
 refine aw ?_
 have gn : -(2^62)<=((pdim ps:Nat):Int)/\((pdim ps:Nat):Int)<2^62:=by omega
 simp_arith only[ai,ac,bQ.eq,aB.eq,bg.eq]
 refine dQ (fun i ρ=>∃m:Int,1<=m/\m<=(ps.length+1)^i/\ρ=[some (.d (Dl b ps)),some (.d (.str "corner")),some (.d (.int m)),none]) ⟨1,by decide,by simp,rfl⟩ ?_ ?_
 · rintro i hi ρ ⟨m,m1,m2,rfl⟩ K hK
   have i0:0<=0+(i:Int):=by omega
   have i1:0+(i:Int)<pdim ps:=by omega
   simp_arith only[ai,ac,bg.eq]
   (with_reducible (first|refine aA fun rs hrs=>?_|refine aT fun rs hrs=>?_))
   have ll:=dv hrs
   have l2:rs.length<=ps.length:=by unfold colQ at ll;rw[FR]at ll;exact ll
   have cm:∀x:Int,aZ x ((rs.length:Int)+1):=fun x=>.rt (by omega)
   simp_arith only[ai,ac,FE,aB.eq,cm]
   refine hK _ (bV ⟨_,?_,?_,rfl⟩)
   · have:1*1<=m*((rs.length:Int)+1):=I_ m1 (by omega) (by decide) (by omega)
     omega
   · rw[Io]
     exact I_ m2 (by omega) (by omega) (Kc (Ib (by omega)))
 · rintro ρ ⟨m,m1,m2,rfl⟩
   simp_arith only[ai,ac]
   exact ay (hQ m ⟨m1,m2⟩)
theorem gJ{α β:Type}{R:α->β->Prop}:∀{xs:List α}{ys:List β}{x:α}{y:β},Hv R (xs++[x]) (ys++[y])->xs.length=ys.length->Hv R xs ys/\R x y
 | [],[],x,y,h,_=>by
   cases h with
   | cons r h=>exact⟨.nil,r⟩
 | a::xs,b::ys,x,y,h,e=>by
   cases h with
   | cons r h =>
     obtain⟨h1,h2⟩:=gJ h (by simpa using e)
     exact⟨.cons r h1,h2⟩
 | [],_::_,_,_,_,e=>by simp at e
 | _::_,[],_,_,_,e=>by simp at e
theorem rA{ps:List (List Rat)}:∀(n:Nat)(ds:List FH),Hv (fun(i:Int) d=>∃E:List Rat,Fo ps i.toNat E/\d=DK E) (jy 0 n) ds->∃Es:List (List Rat),ds=Es.map DK/\ke n ps Es
 | 0,ds,h=>by
   have:ds=[]:=IE.mp (by have:=HC h;rw[bP]at this;exact this.symm)
   exact⟨[],this,rfl,fun i hi=>by omega⟩
 | n+1,ds,h=>by
   have hl:=HC h
   rw[bP]at hl
   obtain⟨es,d,rfl⟩:=fJ hl.symm
   rw[show jy 0 (n+1)=jy 0 n++[(n:Int)] by unfold jy;rw[Ll,Hd];simp]at h
   obtain⟨h1,E,hE,rfl⟩:=gJ h (by rw[bP];simp at hl;exact hl)
   obtain⟨Es,rfl,el,he⟩:=rA n es h1
   refine⟨Es++[E],by rw[Hd];rfl,by simp[el],fun i hi=>?_⟩
   by_cases z:i<n
   · rw[lR _ _ _ _ (by omega)];exact he i z
   · have:i=n:=by omega
     subst this
     rw[lQ _ _ _ _ (by omega),el,Li]
     exact hE
theorem xE{i:Nat}{rs:List Rat}(h:ff (colQ ps i) rs):Fo ps i (rs++[1]):=by
 have ll:=dv h
 refine⟨by unfold colQ at ll;rw[FR]at ll;simp;exact ll,fun e=>?_⟩
 rw[Gv,h.2 e,Gq]
 unfold colQ
 rw[GJ]
 constructor
 · rintro(⟨p,mp,rfl⟩|rfl)
   · exact .inr ⟨p,mp,rfl⟩
   · exact .inl rfl
 · rintro(rfl|⟨p,mp,rfl⟩)
   · exact .inr rfl
   · exact .inl ⟨p,mp,rfl⟩
def aQ:List W->(FH->Prop)->Prop:=fun ws Q=>∃(b:Bool)(ps:List (List Rat)),ws=[.d (Dl b ps),.d (.str "corner")]/\((1<=ps.length)/\(ps.length<60)/\(pdim ps<=4)/\(EN (pdim ps) ps)/\(((ps.length:Int)+1)^(pdim ps)<=3000))/\∀Es:List (List Rat),(ke (pdim ps) ps Es)->Q (.list (Es.map DK))
theorem aQ.mono:∀ws (Q Q':FH->Prop),(∀d,Q d->Q' d)->aQ ws Q->aQ ws Q':=fun _ _ _ h_ ⟨b,ps,e_,p_,q_⟩=>⟨b,ps,e_,p_,fun o_ ho_=>h_ _ (q_ o_ ho_)⟩
theorem aQ.len:∀ws (Q:FH->Prop),aQ ws Q->ws.length=2:=fun _ _ ⟨_,_,e_,_⟩=>by subst e_;rfl
theorem aQ.eq(b:Bool)(ps:List (List Rat))(h1:1<=ps.length)(h60:ps.length<60)(n4:pdim ps<=4)(hp:EN (pdim ps) ps)(h3:((ps.length:Int)+1)^(pdim ps)<=3000):aQ [.d (Dl b ps),.d (.str "corner")]=Ek (anyM fun Es:List (List Rat)=>ke (pdim ps) ps Es) fun Es=>VL.ret (.list (Es.map DK):FH):=by
 refine ag fun Q=>⟨?_,fun q_=>⟨b,ps,rfl,⟨h1,h60,n4,hp,h3⟩,q_⟩⟩
 rintro⟨b',ps',e_,_,q_⟩
 simp_arith only[cR,bH,bI,aN,aM,bJ,cU,dg,cW,cJ,cI,cY,dk,cP,cX,cV,de,cT,db,c_,dj,and_assoc]at e_
 obtain⟨rfl,rfl⟩:=e_
 exact q_
theorem fq:FnScope ["points", "family"] ["points", "family"] (defScope (CA 29)):=⟨rfl,rfl,rfl,by decide +kernel,rfl,by decide +kernel,by decide +kernel⟩
theorem d_looks_by_side(Fn:FnIn K mg "looks_by_side" (CA 29) ["points", "family"])(Z:Bz mg)(d_many_looks:∀rl,Dfn P w K mg base rl "many_looks" ["points", "family"] 3 bF)(d_side_looks:∀rl,Dfn P w K mg base rl "side_looks" ["numbers", "family"] 2 bE)(d_numbers_at:∀rl,Dfn P w K mg base rl "numbers_at" ["points", "side"] 2 bg)(d_sides_of:∀rl,Dfn P w K mg base rl "sides_of" ["points"] 1 bQ)(gl_MOST_LOOKS:GlD K mg "MOST_LOOKS" (.int 3000))  : Dfn P w K mg base rl "looks_by_side" ["points", "family"] 4 aQ:=by
 have sc:=fq
 refine Dfn.of Fn sc (aQ.mono) (aQ.len) (fun cdv A outer s H E hr=>(ah (cS (bK tF rN (bh _) (au (d_many_looks _) (hr.mono (by decide)) (aa (vn 0) (aa (vn 1) ab))) (dG gl_MOST_LOOKS)) (aq kB) bT)
  (aq (ax (bU ["side", "points", "family"] [none,some 0,some 1] rfl (cy Z.range_ (aa (au (d_sides_of _) (hr.mono (by decide)) (aa (vn 0) ab)) ab)) (fun _=>(aj 0 (show G1 (["side", "points", "family"]:List Str) by decide +kernel))) (fun _=>bR) (fun _=>(au (d_side_looks _) (hr.mono (by decide)) (aa (au (d_numbers_at _) (hr.mono (by decide)) (aa (vn 1) (aa (vn 0) ab))) (aa (vn 2) ab))))))))) ?_
 rintro ws Q ⟨b,ps,rfl,⟨h1,h60,n4,hp,h3⟩,hQ⟩
 refine aw ?_
 have sz:=GL
 have gn : -(2^62)<=((pdim ps:Nat):Int)/\((pdim ps:Nat):Int)<2^62:=by omega
 simp_arith only[ai,ac,bF.eq]
 (with_reducible (first|refine aA fun m hm=>?_|refine aT fun m hm=>?_))
 have t:decide (3000<m)=false:=by have:=hm.2;simp;omega
 try simp_arith only[ai,ac,bQ.eq,t]
 refine uq (xs:=jy 0 (pdim ps)) (enc:=GA) (fun(i:Int) d=>∃E:List Rat,Fo ps i.toNat E/\d=DK E) (cK _ _) ?_ (by rw[bP];omega) ?_
 · intro i mi K hK
   obtain⟨i0,i1⟩:=qj.mp mi
   have i1:i<pdim ps:=by omega
   simp_arith only[ai,ac,DR,bg.eq]
   (with_reducible (first|refine aA fun rs hrs=>?_|refine aT fun rs hrs=>?_))
   have ll:=dv hrs
   have l2:rs.length<=60:=by unfold colQ at ll;rw[FR]at ll;omega
   simp_arith only[ai,ac,DR,bE.eq]
   exact hK _ ⟨rs++[1],xE hrs,rfl⟩
 · intro ds hds
   obtain⟨Es,rfl,he⟩:=rA _ ds hds
   try simp_arith only[ai,ac]
   exact ay (hQ Es he)
def cM:List W->(FH->Prop)->Prop:=fun ws Q=>∃(xs:List Rat)(e:Rat),ws=[.d (.list (xs.map fr)),.d (CD e)]/\((xs.length<=60)/\(∀x∈xs,Df 60 x)/\(Df 60 e))/\Q (DC e (C4 xs e) (Do xs e))
theorem cM.mono:∀ws (Q Q':FH->Prop),(∀d,Q d->Q' d)->cM ws Q->cM ws Q':=fun _ _ _ h_ ⟨xs,e,e_,p_,q_⟩=>⟨xs,e,e_,p_,h_ _ q_⟩
theorem cM.len:∀ws (Q:FH->Prop),cM ws Q->ws.length=2:=fun _ _ ⟨_,_,e_,_⟩=>by subst e_;rfl
theorem cM.eq(xs:List Rat)(e:Rat)(hl:xs.length<=60)(hx:∀x∈xs,Df 60 x)(he:Df 60 e):cM [.d (.list (xs.map fr)),.d (CD e)]=VL.ret (DC e (C4 xs e) (Do xs e):FH):=by
 refine ag fun Q=>⟨?_,fun q_=>⟨xs,e,rfl,⟨hl,hx,he⟩,q_⟩⟩
 rintro⟨xs',e',e_,_,q_⟩
 simp_arith only[cR,bH,bI,aN,aM,bJ,cU,dg,cW,cJ,cI,cY,dk,cP,cX,cV,de,cT,db,c_,dj,and_assoc]at e_
 obtain⟨rfl,rfl⟩:=e_
 exact q_
theorem ng:FnScope ["numbers", "look", "shut", "free"] ["numbers", "look"] (defScope (CA 30)):=⟨rfl,rfl,rfl,by decide +kernel,rfl,by decide +kernel,by decide +kernel⟩
theorem d_marked(Fn:FnIn K mg "marked" (CA 30) ["numbers", "look"])(Z:Bz mg)(d_lies:∀rl,Dfn P w K mg base rl "lies" ["x", "side", "way"] 3 fQ)(d_side_size:∀rl,Dfn P w K mg base rl "side_size" ["side"] 4 bO)   : Dfn P w K mg base rl "marked" ["numbers", "look"] 5 cM:=by
 have sc:=ng
 refine Dfn.of Fn sc (cM.mono) (cM.len) (fun cdv A outer s H E hr=>(ah (cx 2 sc.nd ["x", "look"] [none,some 1] rfl (bi (vn 0)) (fun _=>(aj 0 (show G1 (["x", "look"]:List Str) by decide +kernel))) (fun _=>bR) (fun _=>(au (d_lies _) (hr.mono (by decide)) (aa (vn 0) (aa (vn 1) (aa bX ab))))))
  (ah (cx 3 sc.nd ["x", "look"] [none,some 1] rfl (bi (vn 0)) (fun _=>(aj 0 (show G1 (["x", "look"]:List Str) by decide +kernel))) (fun _=>bR) (fun _=>(au (d_lies _) (hr.mono (by decide)) (aa (vn 0) (aa (vn 1) (aa bX ab))))))
  (aq (ax (cn (aa (vn 1) (aa (vn 2) (aa (vn 3) (aa (au (d_side_size _) (hr.mono (by decide)) (aa (vn 1) ab)) ab)))))))))) ?_
 rintro ws Q ⟨xs,e,rfl,⟨hl,hx,he⟩,hQ⟩
 refine aw ?_
 have sz:=GL
 have hsd:(Sd.to e).Sm:=⟨he,he⟩
 have ws:DT "shut" := .inr (.inl rfl)
 have wo:DT "open" := .inr (.inr rfl)
 have l1:∀x,DF (.to e) "shut" x = !decide (e<x):=fun x=>by
  show D5 x e (decide (F0 "shut" = F0 "shut"))=_
  rw[show decide (F0 "shut" = F0 "shut")=true by decide +kernel];rfl
 have l2:∀x,DF (.to e) "open" x=decide (x<e):=fun x=>by
  show D5 x e (decide (F0 "open" = F0 "shut"))=_
  rw[show decide (F0 "open" = F0 "shut")=false by decide +kernel];rfl
 have l3:CQ (.to e)=mx e 0:=rfl
 unfold CD
 simp_arith only[ai,ac]
 refine CZ (b9 (xs:=xs) (enc:=fr) (fun x=>.bool (!decide (e<x))) rfl ?_ (by omega) ?_)
 · intro x mx
   have h:=hx x mx
   simp_arith only[ai,ac,DR,fQ.eq,l1]
 simp_arith only[ai,ac]
 refine CZ (b9 (xs:=xs) (enc:=fr) (fun x=>.bool (decide (x<e))) rfl ?_ (by omega) ?_)
 · intro x mx
   have h:=hx x mx
   simp_arith only[ai,ac,DR,fQ.eq,l2]
 simp_arith only[ai,ac,bO.eq,l3]
 refine ay ?_
 unfold DC Eo C4 Do at hQ
 rw[HK,HK]at hQ
 exact hQ
def cA:List W->(FH->Prop)->Prop:=fun ws Q=>∃(r:Rw)(e:Rat)(s f:List Bool),ws=[.d (C9 r),.d (DC e s f)]/\((∀k∈r.sh,k<s.length)/\(∀k∈r.op,k<f.length)/\(r.es.length<=60)/\(r.sh.length<=60)/\(r.op.length<=60)/\(Df 2000 r.sz)/\(Df 2000 (mx e 0)))/\Q (C9 (r.wid e s f))
theorem cA.mono:∀ws (Q Q':FH->Prop),(∀d,Q d->Q' d)->cA ws Q->cA ws Q':=fun _ _ _ h_ ⟨r,e,s,f,e_,p_,q_⟩=>⟨r,e,s,f,e_,p_,h_ _ q_⟩
theorem cA.len:∀ws (Q:FH->Prop),cA ws Q->ws.length=2:=fun _ _ ⟨_,_,_,_,e_,_⟩=>by subst e_;rfl
theorem cA.eq(r:Rw)(e:Rat)(s f:List Bool)(hs:∀k∈r.sh,k<s.length)(ho:∀k∈r.op,k<f.length)(hl:r.es.length<=60)(sl:r.sh.length<=60)(ol:r.op.length<=60)(q1:Df 2000 r.sz)(q2:Df 2000 (mx e 0)):cA [.d (C9 r),.d (DC e s f)]=VL.ret (C9 (r.wid e s f):FH):=by
 refine ag fun Q=>⟨?_,fun q_=>⟨r,e,s,f,rfl,⟨hs,ho,hl,sl,ol,q1,q2⟩,q_⟩⟩
 rintro⟨r',e',s',f',e_,_,q_⟩
 simp_arith only[cR,bH,bI,aN,aM,bJ,cU,dg,cW,cJ,cI,cY,dk,cP,cX,cV,de,cT,db,c_,dj,and_assoc]at e_
 obtain⟨rfl,rfl,rfl,rfl⟩:=e_
 exact q_
theorem lF:FnScope ["row", "mark", "box", "shut", "free", "size", "look", "shut_there", "free_there", "size_there"] ["row", "mark"] (defScope (CA 31)):=⟨rfl,rfl,rfl,by decide +kernel,rfl,by decide +kernel,by decide +kernel⟩
theorem d_widened(Fn:FnIn K mg "widened" (CA 31) ["row", "mark"])(Z:Bz mg)(d_times:∀rl,Dfn P w K mg base rl "times" ["one", "other"] 3 dh)   : Dfn P w K mg base rl "widened" ["row", "mark"] 4 cA:=by
 have sc:=lF
 refine Dfn.of Fn sc (cA.mono) (cA.len) (fun cdv A outer s H E hr=>(ah (mw (vn 0) (fH (n:=4) rfl (aC (aj 2 sc.nd) (aC (aj 3 sc.nd) (aC (aj 4 sc.nd) (aC (aj 5 sc.nd) dI))))))
  (ah (mw (vn 1) (fH (n:=4) rfl (aC (aj 6 sc.nd) (aC (aj 7 sc.nd) (aC (aj 8 sc.nd) (aC (aj 9 sc.nd) dI))))))
  (aq (ax (cn (aa (mJ (vn 2) (cn (aa (vn 6) ab))) (aa (bU ["place", "shut_there"] [none,some 7] rfl (bi (vn 3)) (fun _=>(aj 0 (show G1 (["place", "shut_there"]:List Str) by decide +kernel))) (fun _=>kw (dF (bW (vn 1) (vn 0)))) (fun _=>(vn 0))) (aa (bU ["place", "free_there"] [none,some 8] rfl (bi (vn 4)) (fun _=>(aj 0 (show G1 (["place", "free_there"]:List Str) by decide +kernel))) (fun _=>kw (dF (bW (vn 1) (vn 0)))) (fun _=>(vn 0))) (aa (au (d_times _) (hr.mono (by decide)) (aa (vn 5) (aa (vn 9) ab))) ab)))))))))) ?_
 rintro ws Q ⟨r,e,s,f,rfl,⟨hs,ho,hl,sl,ol,q1,q2⟩,hQ⟩
 refine aw ?_
 have sz:=GL
 have g1:(r.es.map CD).length+1<=sizeLine:=by rw[FR];omega
 have tb:tupD (Ei r.es)=some (r.es.map CD):=rfl
 simp_arith only[ai,ac,C9,DC,Du,Eo,tb]
 refine rE (xs:=r.sh) (enc:=fun k:Nat=>GA (k:Int)) (fun k=>if s.getD k false=true then some (GA (k:Int))else none) rfl ?_ (by omega) ?_
 · intro k mk
   have e1:=cD (xs:=s) false (show(0:Int)<=(k:Int) by omega) (by have:=hs k mk;omega)
   rw[H_]at e1
   have e2:atI (s.map Ic) (k:Int)=some (.bool (s.getD k false)):=by rw[atI_map,e1];rfl
   simp_arith only[ai,ac,DR,e2]
   try rfl
   try (split<;>rfl)
 refine rE (xs:=r.op) (enc:=fun k:Nat=>GA (k:Int)) (fun k=>if f.getD k false=true then some (GA (k:Int))else none) rfl ?_ (by omega) ?_
 · intro k mk
   have e1:=cD (xs:=f) false (show(0:Int)<=(k:Int) by omega) (by have:=ho k mk;omega)
   rw[H_]at e1
   have e2:atI (f.map Ic) (k:Int)=some (.bool (f.getD k false)):=by rw[atI_map,e1];rfl
   simp_arith only[ai,ac,DR,e2]
   try rfl
   try (split<;>rfl)
 rw[oA (fun k=>s.getD k false),oA (fun k=>f.getD k false)]
 simp_arith only[ai,ac,dh.eq]
 refine ay ?_
 have eq:C9 (r.wid e s f) = .tuple [.tuple (r.es.map CD++[CD e]),.list ((r.sh.filter fun k=>s.getD k false).map fun k:Nat=>.int (k:Int)),.list ((r.op.filter fun k=>f.getD k false).map fun k:Nat=>.int (k:Int)),fr (r.sz*mx e 0)]:=by
  unfold C9 Rw.wid Ei Du
  rw[Hd];rfl
 rw[eq]at hQ
 exact hQ
theorem eZ(h:ke n ps Es){i:Nat}(hi:i<=n)(me:es∈chP (Es.take i)):es.length=i/\∀e∈es,e=1\/∃p∈ps,∃j,j<i/\e=p.getD j 0:=by
 have hl:(Es.take i).length=i:=by rw[GG,h.1];omega
 obtain⟨el,he⟩:=(fV 0 i _ hl es).mp me
 refine⟨el,fun e mem=>?_⟩
 obtain⟨j,hj,rfl⟩:=Jg mem
 have:=he j (by omega)
 rw[bZ hj,bZ (by rw[hl];omega),Ks,<- bZ (d:=[]) (by rw[h.1];omega)]at this
 rcases((h.2 j (by omega)).2 _).mp this with z|⟨p,mp,z⟩
 · exact .inl z
 · exact .inr ⟨p,mp,j,by omega,z⟩
theorem ud(hp:EN n ps)(h:ke n ps Es){i:Nat}(hi:i<=n)(me:es∈chP (Es.take i)):∀e∈es,Df 20 e:=by
 intro e mem
 rcases(eZ h hi me).2 e mem with rfl|⟨p,mp,j,hj,rfl⟩
 · exact Dh.mono (by decide)
 · exact((hp p mp).2 _ (getD_mem (by rw[(hp p mp).1];omega))).1
theorem ic(h:ke n ps Es)(h3:((ps.length:Int)+1)^n<=3000){i:Nat}(hi:i<=n):(chP (Es.take i)).length<=3000:=by
 have hl:(Es.take i).length=i:=by rw[GG,h.1];omega
 have:=j7 (ps.length+1) i (Es.take i) hl fun r mr=>by
  obtain⟨j,hj,rfl⟩:=Jg mr
  rw[Ks]
  have:=(h.2 j (by omega)).1
  rwa [bZ (by rw[h.1];omega)]at this
 have h4:(ps.length+1)^i<=(ps.length+1)^n:=FX (by omega) hi
 have h5:(ps.length+1)^n<=3000:=by exact_mod_cast h3
 omega
theorem Bu(ps:List (List Rat)):Hw [Hw [],MB (aV 0 ps.length),MB (aV 0 ps.length),pr 1 1]=C9 (rwO ps []):=by
 have h:∀f:List Rat->Bool,(∀p,f p=true)->Du (plc f ps)=MB (aV 0 ps.length):=fun f hf=>by
  unfold plc Du
  rw[LM.mpr fun k _=>hf _,cK]
  unfold jy
  rw[HK]
  congr 1
  exact List.map_congr_left fun k _=>by show GA _=GA (0+(k:Int));rw[Lc]
 unfold C9 rwO
 dsimp only
 rw[h _ fun p=>by simp[C6],h _ fun p=>by simp[Dq]];rfl
def aR:List W->(FH->Prop)->Prop:=fun ws Q=>∃(b:Bool)(ps:List (List Rat)),ws=[.d (Dl b ps),.d (.str "corner")]/\((1<=ps.length)/\(ps.length<60)/\(pdim ps<=4)/\(EN (pdim ps) ps)/\(((ps.length:Int)+1)^(pdim ps)<=3000))/\∀Es:List (List Rat),(ke (pdim ps) ps Es)->Q (.list (((chP Es).map (rwO ps)).map C9))
theorem aR.mono:∀ws (Q Q':FH->Prop),(∀d,Q d->Q' d)->aR ws Q->aR ws Q':=fun _ _ _ h_ ⟨b,ps,e_,p_,q_⟩=>⟨b,ps,e_,p_,fun o_ ho_=>h_ _ (q_ o_ ho_)⟩
theorem aR.len:∀ws (Q:FH->Prop),aR ws Q->ws.length=2:=fun _ _ ⟨_,_,e_,_⟩=>by subst e_;rfl
theorem aR.eq(b:Bool)(ps:List (List Rat))(h1:1<=ps.length)(h60:ps.length<60)(n4:pdim ps<=4)(hp:EN (pdim ps) ps)(h3:((ps.length:Int)+1)^(pdim ps)<=3000):aR [.d (Dl b ps),.d (.str "corner")]=Ek (anyM fun Es:List (List Rat)=>ke (pdim ps) ps Es) fun Es=>VL.ret (.list (((chP Es).map (rwO ps)).map C9):FH):=by
 refine ag fun Q=>⟨?_,fun q_=>⟨b,ps,rfl,⟨h1,h60,n4,hp,h3⟩,q_⟩⟩
 rintro⟨b',ps',e_,_,q_⟩
 simp_arith only[cR,bH,bI,aN,aM,bJ,cU,dg,cW,cJ,cI,cY,dk,cP,cX,cV,de,cT,db,c_,dj,and_assoc]at e_
 obtain⟨rfl,rfl⟩:=e_
 exact q_
theorem fu:FnScope ["points", "family", "places", "rows", "side", "side_rows", "numbers", "marks"] ["points", "family"] (defScope (CA 32)):=⟨rfl,rfl,rfl,by decide +kernel,rfl,by decide +kernel,by decide +kernel⟩
theorem d_counted_looks(Fn:FnIn K mg "counted_looks" (CA 32) ["points", "family"])(Z:Bz mg)(d_looks_by_side:∀rl,Dfn P w K mg base rl "looks_by_side" ["points", "family"] 4 aQ)(d_marked:∀rl,Dfn P w K mg base rl "marked" ["numbers", "look"] 5 cM)(d_widened:∀rl,Dfn P w K mg base rl "widened" ["row", "mark"] 4 cA)(gl_ONE:GlD K mg "ONE" (pr 1 1))  : Dfn P w K mg base rl "counted_looks" ["points", "family"] 6 aR:=by
 have sc:=fu
 refine Dfn.of Fn sc (aR.mono) (aR.len) (fun cdv A outer s H E hr=>(ah (am 2 sc.nd (iO Z.list_ Z.range_ (aa (cE Z.len_ (aa (vn 0) ab)) ab)))
  (ah (am 3 sc.nd (fg (aa (cn (aa (cn ab) (aa (vn 2) (aa (vn 2) (aa (dG gl_ONE) ab))))) ab)))
  (ah (bY [4,5,6,7] GO rfl (gW Z.enumerate_ (aa (au (d_looks_by_side _) (hr.mono (by decide)) (aa (vn 0) (aa (vn 1) ab))) ab)) (fH (n:=2) rfl (aC (aj 4 sc.nd) (aC (aj 5 sc.nd) dI))) (ah (cx 6 sc.nd ["point", "side"] [none,some 4] rfl (kE (vn 0)) (fun _=>(aj 0 (show G1 (["point", "side"]:List Str) by decide +kernel))) (fun _=>bR) (fun _=>(bW (vn 0) (vn 1))))
  (ah (cx 7 sc.nd ["look", "numbers"] [none,some 6] rfl (bi (vn 5)) (fun _=>(aj 0 (show G1 (["look", "numbers"]:List Str) by decide +kernel))) (fun _=>bR) (fun _=>(au (d_marked _) (hr.mono (by decide)) (aa (vn 1) (aa (vn 0) ab)))))
  (aq (fE 3 sc.nd ["row", "mark", "marks"] [none,none,some 7] rfl (bi (vn 3)) (fun _=>(aj 0 (show G1 (["row", "mark", "marks"]:List Str) by decide +kernel))) (fun _=>bR) (fun _=>(bi (vn 2))) (fun _=>(aj 1 (show G1 (["row", "mark", "marks"]:List Str) by decide +kernel))) (fun _=>bR) (fun _=>(au (d_widened _) (hr.mono (by decide)) (aa (vn 0) (aa (vn 1) ab)))))))))
  (aq (ax (vn 3))))))) ?_
 rintro ws Q ⟨b,ps,rfl,⟨h1,h60,n4,hp,h3⟩,hQ⟩
 refine aw ?_
 have sz:=GL
 have gn : -(2^62)<=((ps.length:Nat):Int)/\((ps.length:Nat):Int)<2^62:=by omega
 have hpl:∀p∈ps,p.length=pdim ps:=fun p mp=>(hp p mp).1
 simp_arith only[ai,ac,FA,fK,eh,eg,aQ.eq,wK]
 (with_reducible (first|refine aA fun Es hE=>?_|refine aT fun Es hE=>?_))
 simp_arith only[ai,ac,xk,oD,Bu]
 refine eA (xs:=Es.zipIdx) (enc:=fun z=>Hw [GA ((z.2:Nat):Int),DK z.1]) (fun i ρ=>ρ=[some (.d (Dl b ps)),some (.d (.str "corner")),some (.d (.list (aV 0 ps.length))),some (.d (.list (((chP (Es.take i)).map (rwO ps)).map C9))),none,none,none,none]) rfl rfl ?_ ?_
 · rintro i hi ρ rfl K hK
   have hi1:i<Es.length:=by rw[Kf]at hi;exact hi
   have hin:i<pdim ps:=by rw[<- hE.1];exact hi1
   have ez:Es.zipIdx[i]=(Es[i],i):=by rw[List.getElem_zipIdx];simp
   rw[ez]
   have hEi:=hE.2 i hin
   rw[bZ hi1]at hEi
   have tk:chP (Es.take (i+1))=(chP (Es.take i)).flatMap fun b=>Es[i].map fun t=>b++[t]:=by rw[Gy hi1,eJ]
   have rl1:=ic hE h3 (show i<=pdim ps by omega)
   have rl2:=ic hE h3 (show i+1<=pdim ps by omega)
   have hsm:∀es∈chP (Es.take i),es.length=i/\∀e∈es,Df 20 e:=fun es me=>⟨(eZ hE (by omega) me).1,ud hp hE (by omega) me⟩
   have hEs:∀e∈Es[i],Df 20 e:=fun e me=>by
    rcases(hEi.2 e).mp me with rfl|⟨p,mp,rfl⟩
    · exact Dh.mono (by decide)
    · exact((hp p mp).2 _ (getD_mem (by rw[(hp p mp).1];exact hin))).1
   have El:=hEi.1
   generalize Es[i]=E at *
   generalize chP (Es.take i)=C at *
   simp_arith only[ai,ac,FA,fK,eh,eg]
   refine CZ (b9 (xs:=ps) (enc:=ptD) (fun p=>fr (p.getD i 0)) rfl ?_ (by omega) ?_)
   · intro p mp
     have e:=cD (xs:=p) 0 (show(0:Int)<=(i:Int) by omega) (by rw[(hp p mp).1];omega)
     rw[H_]at e
     simp_arith only[ai,ac,DR,FE,e]
   rw[nT]
   have ec:(ps.map fun p=>p.getD i 0)=colQ ps i:=rfl
   have cl:(colQ ps i).length<=60:=by unfold colQ;rw[FR];omega
   have c60:∀x∈colQ ps i,Df 60 x:=fun x mx=>by
    obtain⟨p,mp,rfl⟩:=GJ.mp mx
    exact((hp p mp).2 _ (getD_mem (by rw[(hp p mp).1];exact hin))).1.mono (by decide)
   rw[ec]
   simp_arith only[ai,ac,DK]
   refine CZ (b9 (xs:=E) (enc:=CD) (fun e=>DC e (C4 (colQ ps i) e) (Do (colQ ps i) e)) rfl ?_ (by omega) ?_)
   · intro e me
     have h60:Df 60 e:=(hEs e me).mono (by decide)
     simp_arith only[ai,ac,DR,cM.eq]
   simp_arith only[ai,ac,FG]
   have lens:(C.flatMap fun es=>E.map fun e=>C9 (rwO ps (es++[e]))).length<=3000:=by
    rw[tk]at rl2
    refine GI (Nat.le_of_eq ?_) rl2
    rw[J1,J1]
    simp
   refine zF (xs:=C) (enc:=fun es=>C9 (rwO ps es)) (fun es=>E.map fun e=>C9 (rwO ps (es++[e]))) (by rw[HK];rfl) ?_ (by omega) ?_
   · intro es me acc ha
     obtain⟨el,hes⟩:=hsm es me
     rw[FR]at ha
     simp_arith only[ai,ac,rn]
     rw[eF (enc:=fun e=>DC e (C4 (colQ ps i) e) (Do (colQ ps i) e)) (fun e=>some (C9 (rwO ps (es++[e])))) E acc ?_ ha,KW]
     intro e mE
     have k1:∀k∈(rwO ps es).sh,k<(C4 (colQ ps i) e).length:=fun k mk=>by
      have:=kP (f:=fun p=>C6 p es) (ps:=ps) k mk
      unfold C4 colQ;rw[FR,FR];exact this
     have k2:∀k∈(rwO ps es).op,k<(Do (colQ ps i) e).length:=fun k mk=>by
      have:=kP (f:=fun p=>Dq p es) (ps:=ps) k mk
      unfold Do colQ;rw[FR,FR];exact this
     have k3:(rwO ps es).es.length<=60:=by show es.length<=60;omega
     have k4:(rwO ps es).sh.length<=60:=by show(plc (fun p=>C6 p es) ps).length<=60;rw[ii];have:=HG (fun p=>C6 p es) ps;omega
     have k5:(rwO ps es).op.length<=60:=by show(plc (fun p=>Dq p es) ps).length<=60;rw[ii];have:=HG (fun p=>Dq p es) ps;omega
     have k6:Df 2000 (rwO ps es).sz:=(m7 (by omega) hes).mono (by decide)
     have k7:Df 2000 (mx e 0):=(ri (hEs e mE)).mono (by decide)
     have we:=uI hpl el hin e
     simp_arith only[ai,ac,DR,cA.eq,we]
   · try simp_arith only[ai,ac]
     refine hK _ (bV ?_)
     rw[tk]
     simp[fo,List.map_flatMap]
     rfl
 · rintro ρ rfl
   have le:Es.zipIdx.length=Es.length:=Kf ..
   rw[le,GH (FQ _)]
   simp_arith only[ai,ac]
   exact ay (hQ Es hE)
def cL:List W->(FH->Prop)->Prop:=fun ws Q=>∃(b:Bool)(ps:List (List Rat)),ws=[.d (Dl b ps),.d (.str "corner")]/\((1<=ps.length)/\(ps.length<60)/\(pdim ps<=4)/\(EN (pdim ps) ps)/\(((ps.length:Int)+1)^(pdim ps)<=3000))/\∀Es:List (List Rat),(ke (pdim ps) ps Es)->Q (.list (((chP Es).flatMap (msQ ps)).map tdD))
theorem cL.mono:∀ws (Q Q':FH->Prop),(∀d,Q d->Q' d)->cL ws Q->cL ws Q':=fun _ _ _ h_ ⟨b,ps,e_,p_,q_⟩=>⟨b,ps,e_,p_,fun o_ ho_=>h_ _ (q_ o_ ho_)⟩
theorem cL.len:∀ws (Q:FH->Prop),cL ws Q->ws.length=2:=fun _ _ ⟨_,_,e_,_⟩=>by subst e_;rfl
theorem cL.eq(b:Bool)(ps:List (List Rat))(h1:1<=ps.length)(h60:ps.length<60)(n4:pdim ps<=4)(hp:EN (pdim ps) ps)(h3:((ps.length:Int)+1)^(pdim ps)<=3000):cL [.d (Dl b ps),.d (.str "corner")]=Ek (anyM fun Es:List (List Rat)=>ke (pdim ps) ps Es) fun Es=>VL.ret (.list (((chP Es).flatMap (msQ ps)).map tdD):FH):=by
 refine ag fun Q=>⟨?_,fun q_=>⟨b,ps,rfl,⟨h1,h60,n4,hp,h3⟩,q_⟩⟩
 rintro⟨b',ps',e_,_,q_⟩
 simp_arith only[cR,bH,bI,aN,aM,bJ,cU,dg,cW,cJ,cI,cY,dk,cP,cX,cV,de,cT,db,c_,dj,and_assoc]at e_
 obtain⟨rfl,rfl⟩:=e_
 exact q_
theorem nc:FnScope ["points", "family", "many", "told", "box", "shut", "free", "size"] ["points", "family"] (defScope (CA 33)):=⟨rfl,rfl,rfl,by decide +kernel,rfl,by decide +kernel,by decide +kernel⟩
theorem d_misses(Fn:FnIn K mg "misses" (CA 33) ["points", "family"])(Z:Bz mg)(d_counted_looks:∀rl,Dfn P w K mg base rl "counted_looks" ["points", "family"] 6 aR)(d_less:∀rl,Dfn P w K mg base rl "less" ["one", "other"] 3 eY)(d_fraction:∀rl,Dfn P w K mg base rl "fraction" ["top", "bottom"] 2 bv)   : Dfn P w K mg base rl "misses" ["points", "family"] 7 cL:=by
 have sc:=nc
 refine Dfn.of Fn sc (cL.mono) (cL.len) (fun cdv A outer s H E hr=>(ah (am 2 sc.nd (cE Z.len_ (aa (vn 0) ab)))
  (ah (kz 3 sc.nd (fg ab))
  (ah (bY [4,5,6,7] GO rfl (bi (au (d_counted_looks _) (hr.mono (by decide)) (aa (vn 0) (aa (vn 1) ab)))) (fH (n:=4) rfl (aC (aj 4 sc.nd) (aC (aj 5 sc.nd) (aC (aj 6 sc.nd) (aC (aj 7 sc.nd) dI))))) (ah (iH 3 (aa (cn (aa (au (d_less _) (hr.mono (by decide)) (aa (au (d_fraction _) (hr.mono (by decide)) (aa (cE Z.len_ (aa (vn 5) ab)) (aa (vn 2) ab))) (aa (vn 7) ab))) (aa bX (aa (vn 4) ab)))) ab))
  (aq (iH 3 (aa (cn (aa (au (d_less _) (hr.mono (by decide)) (aa (vn 7) (aa (au (d_fraction _) (hr.mono (by decide)) (aa (cE Z.len_ (aa (vn 6) ab)) (aa (vn 2) ab))) ab))) (aa bX (aa (vn 4) ab)))) ab)))))
  (aq (mm 3 (ax (vn 3)))))))) ?_
 rintro ws Q ⟨b,ps,rfl,⟨h1,h60,n4,hp,h3⟩,hQ⟩
 refine aw ?_
 have sz:=GL
 have b0:(ps.length:Int)≠0:=by omega
 have bz:(ps.length:Int).natAbs<2^8000:=FN (show(ps.length:Int).natAbs<2^60 by omega) (FX (by decide) (by decide))
 simp_arith only[ai,ac,FA,fK,eh,eg,aR.eq]
 (with_reducible (first|refine aA fun Es hE=>?_|refine aT fun Es hE=>?_))
 have rl:=ic hE h3 (FQ _)
 rw[GH (by rw[hE.1];exact FQ _)]at rl
 have hbx:∀es∈chP Es,jw (pdim ps) ps es:=fun es me=>(hE.mem es).mp me
 generalize hC:chP Es=C at *
 try simp_arith only[ai,ac]
 refine eA (xs:=C) (enc:=fun es=>C9 (rwO ps es)) (fun i ρ=>ρ=[some (.d (Dl b ps)),some (.d (.str "corner")),some (.d (.int ps.length)),some (.ml (((C.take i).flatMap (msQ ps)).map tdD)),none,none,none,none]) (by rw[HK];rfl) rfl ?_ ?_
 · rintro i hi ρ rfl K hK
   have bx:=hbx _ (G8 hi)
   have tl:∀l:List (List Rat),(l.flatMap (msQ ps)).length=2*l.length:=fun l=>by
    induction l with
    | nil=>rfl
    | cons x l ih=>rw[Ku,Gg,ih,Gp];show 2+_=_;omega
   have tz:((C.take i).flatMap (msQ ps)).length+1<sizeLine:=by rw[tl,GG];omega
   have tz0:((C.take i).flatMap (msQ ps)).length<sizeLine:=by omega
   have tz1:((C.take i).flatMap (msQ ps)).length+1<=sizeLine:=by omega
   have tk:(C.take (i+1)).flatMap (msQ ps)=(C.take i).flatMap (msQ ps)++msQ ps C[i]:=by rw[Gy hi,J3];simp
   generalize C[i]=es at *
   generalize (C.take i).flatMap (msQ ps)=T at *
   have s1:Df 2000 (CU es):=(m7 (by rw[bx.1];exact n4) fun e me=>(uv hp bx e me).1).mono (by decide)
   have s2:Df 2000 (qd (shC ps es) ps.length):=(qH h1 (by omega) fun p=>C6 p es).mono (by decide)
   have s3:Df 2000 (qd (opC ps es) ps.length):=(qH h1 (by omega) fun p=>Dq p es).mono (by decide)
   have c1:(plc (fun p=>C6 p es) ps).length=shC ps es:=ii _ _
   have c2:(plc (fun p=>Dq p es) ps).length=opC ps es:=ii _ _
   simp_arith only[ai,ac,C9,rwO,Du,c1,c2,bv.eq,eY.eq]
   refine ca (by rw[Gg,FR];exact tz) (hK _ (bV ?_))
   rw[tk]
   simp[fo,Hd,msQ,tdD,ov,la]
 · rintro ρ rfl
   rw[GH (FQ _)]
   simp_arith only[ai,ac]
   refine ay ?_
   have:=hQ Es hE
   rw[hC]at this
   exact this
def aH:List W->(FH->Prop)->Prop:=fun ws Q=>∃(ts:List (Rat×Str×List Rat)),ws=[.d (.list (ts.map tdD))]/\((1<=ts.length)/\(∀t∈ts,Df 2000 t.1))/\∀t:Rat×Str×List Rat,(t∈ts/\∀u∈ts,u.1<=t.1)->Q (tdD t)
theorem aH.mono:∀ws (Q Q':FH->Prop),(∀d,Q d->Q' d)->aH ws Q->aH ws Q':=fun _ _ _ h_ ⟨ts,e_,p_,q_⟩=>⟨ts,e_,p_,fun o_ ho_=>h_ _ (q_ o_ ho_)⟩
theorem aH.len:∀ws (Q:FH->Prop),aH ws Q->ws.length=1:=fun _ _ ⟨_,e_,_⟩=>by subst e_;rfl
theorem aH.eq(ts:List (Rat×Str×List Rat))(h1:1<=ts.length)(hq:∀t∈ts,Df 2000 t.1):aH [.d (.list (ts.map tdD))]=Ek (anyM fun t:Rat×Str×List Rat=>t∈ts/\∀u∈ts,u.1<=t.1) fun t=>VL.ret (tdD t:FH):=by
 refine ag fun Q=>⟨?_,fun q_=>⟨ts,rfl,⟨h1,hq⟩,q_⟩⟩
 rintro⟨ts',e_,_,q_⟩
 simp_arith only[cR,bH,bI,aN,aM,bJ,cU,dg,cW,cJ,cI,cY,dk,cP,cX,cV,de,cT,db,c_,dj,and_assoc]at e_
 obtain rfl:=e_
 exact q_
theorem eO:FnScope ["rows", "best", "row"] ["rows"] (defScope (CA 34)):=⟨rfl,rfl,rfl,by decide +kernel,rfl,by decide +kernel,by decide +kernel⟩
theorem d_first_greatest(Fn:FnIn K mg "first_greatest" (CA 34) ["rows"])(Z:Bz mg)(d_is_below:∀rl,Dfn P w K mg base rl "is_below" ["one", "other"] 1 a_)   : Dfn P w K mg base rl "first_greatest" ["rows"] 2 aH:=by
 have sc:=eO
 refine Dfn.of Fn sc (aH.mono) (aH.len) (fun cdv A outer s H E hr=>(ah (am 1 sc.nd (bW (vn 0) af))
  (ah (bY [2] GO rfl (bi (vn 0)) (aj 2 sc.nd) (aq (cS (dF (au (d_is_below _) (hr.mono (by decide)) (aa (bW (vn 1) af) (aa (bW (vn 2) af) ab)))) (aq (am 1 sc.nd (vn 2))) bT)))
  (aq (ax (vn 1)))))) ?_
 rintro ws Q ⟨ts,rfl,⟨h1,hq⟩,hQ⟩
 refine aw ?_
 have e0:atI (ts.map tdD) 0=some (tdD (ts[0]'(by omega))):=by rw[atI_map,show(0:Int)=((0:Nat):Int)from rfl,j9 (GB (by omega))];rfl
 simp_arith only[ai,ac,e0]
 refine eA (xs:=ts) (enc:=tdD) (fun i ρ=>∃t,t∈ts/\(∀u∈ts.take i,u.1<=t.1)/\ρ=[some (.d (.list (ts.map tdD))),some (.d (tdD t)),none]) rfl ⟨ts[0]'(by omega),G8 _,by simp,rfl⟩ ?_ ?_
 · rintro i hi ρ ⟨t,mt,ht,rfl⟩ K hK
   have mi:=G8 hi
   have tk:ts.take (i+1)=ts.take i++[ts[i]]:=Gy hi
   generalize ts[i]=r at *
   have q1:=hq t mt
   have q2:=hq r mi
   have i1:∀t:Rat×Str×List Rat,itemAt (tdD t) 0=some (fr t.1):=fun t=>rfl
   by_cases hlt:t.1<r.1
   · have d:decide (t.1<r.1)=true:=decide_eq_true hlt
     simp_arith only[ai,ac,i1,a_.eq,d]
     refine hK _ (bV ⟨r,mi,fun u mu=>?_,rfl⟩)
     rw[tk]at mu
     rcases Gv.mp mu with mu|mu
     · have:=ht u mu;grind
     · rw[Gq.mp mu];exact LN
   · have d:decide (t.1<r.1)=false:=decide_eq_false hlt
     simp_arith only[ai,ac,i1,a_.eq,d]
     refine hK _ (bV ⟨t,mt,fun u mu=>?_,rfl⟩)
     rw[tk]at mu
     rcases Gv.mp mu with mu|mu
     · exact ht u mu
     · rw[Gq.mp mu];grind
 · rintro ρ ⟨t,mt,ht,rfl⟩
   rw[GH (FQ _)]at ht
   simp_arith only[ai,ac]
   exact ay (hQ t ⟨mt,ht⟩)
theorem vb(hE:ke n ps Es){t:Rat×Str×List Rat}(mt:t∈(chP Es).flatMap (msQ ps))(ht:∀u∈(chP Es).flatMap (msQ ps),u.1<=t.1):l_ n ps t.1:=by
 refine⟨?_,fun es be=>?_⟩
 · obtain⟨es,me,mt⟩:=Ii.mp mt
   refine⟨es,(hE.mem es).mp me,?_⟩
   rcases Gh.mp mt with rfl|mt
   · exact .inl rfl
   · rw[Gq.mp mt];exact .inr rfl
 · have me:=(hE.mem es).mpr be
   exact⟨ht (ov ps es, "over", es) (Ii.mpr ⟨es,me,FT⟩),ht (la ps es, "lack", es) (Ii.mpr ⟨es,me,FP _ FT⟩)⟩
theorem va(hp:EN n ps)(n4:n<=4)(h1:1<=ps.length)(h:ps.length<60){u:Rat}(hu:l_ n ps u):Df 150 u/\0<=u:=by
 refine⟨?_,?_⟩
 · obtain⟨es,be,e⟩:=hu.1
   have:=wA hp n4 h1 (by omega) be
   rcases e with rfl|rfl
   · exact this.1
   · exact this.2
 · have:=(hu.2 _ (io n ps)).1
   rwa [nN hp h1]at this
def dO:List W->(FH->Prop)->Prop:=fun ws Q=>∃(b:Bool)(ps:List (List Rat)),ws=[.d (Dl b ps),.d (.str "corner")]/\((1<=ps.length)/\(ps.length<60)/\(pdim ps<=4)/\(EN (pdim ps) ps)/\(((ps.length:Int)+1)^(pdim ps)<=3000))/\∀t:Rat×Str×List Rat,(l_ (pdim ps) ps t.1)->Q (tdD t)
theorem dO.mono:∀ws (Q Q':FH->Prop),(∀d,Q d->Q' d)->dO ws Q->dO ws Q':=fun _ _ _ h_ ⟨b,ps,e_,p_,q_⟩=>⟨b,ps,e_,p_,fun o_ ho_=>h_ _ (q_ o_ ho_)⟩
theorem dO.len:∀ws (Q:FH->Prop),dO ws Q->ws.length=2:=fun _ _ ⟨_,_,e_,_⟩=>by subst e_;rfl
theorem dO.eq(b:Bool)(ps:List (List Rat))(h1:1<=ps.length)(h60:ps.length<60)(n4:pdim ps<=4)(hp:EN (pdim ps) ps)(h3:((ps.length:Int)+1)^(pdim ps)<=3000):dO [.d (Dl b ps),.d (.str "corner")]=Ek (anyM fun t:Rat×Str×List Rat=>l_ (pdim ps) ps t.1) fun t=>VL.ret (tdD t:FH):=by
 refine ag fun Q=>⟨?_,fun q_=>⟨b,ps,rfl,⟨h1,h60,n4,hp,h3⟩,q_⟩⟩
 rintro⟨b',ps',e_,_,q_⟩
 simp_arith only[cR,bH,bI,aN,aM,bJ,cU,dg,cW,cJ,cI,cY,dk,cP,cX,cV,de,cT,db,c_,dj,and_assoc]at e_
 obtain⟨rfl,rfl⟩:=e_
 exact q_
theorem pF:FnScope ["points", "family"] ["points", "family"] (defScope (CA 35)):=⟨rfl,rfl,rfl,by decide +kernel,rfl,by decide +kernel,by decide +kernel⟩
theorem d_worst(Fn:FnIn K mg "worst" (CA 35) ["points", "family"])(Z:Bz mg)(d_first_greatest:∀rl,Dfn P w K mg base rl "first_greatest" ["rows"] 2 aH)(d_misses:∀rl,Dfn P w K mg base rl "misses" ["points", "family"] 7 cL)   : Dfn P w K mg base rl "worst" ["points", "family"] 8 dO:=by
 have sc:=pF
 refine Dfn.of Fn sc (dO.mono) (dO.len) (fun cdv A outer s H E hr=>(aq (ax (au (d_first_greatest _) (hr.mono (by decide)) (aa (au (d_misses _) (hr.mono (by decide)) (aa (vn 0) (aa (vn 1) ab))) ab))))) ?_
 rintro ws Q ⟨b,ps,rfl,⟨h1,h60,n4,hp,h3⟩,hQ⟩
 refine aw ?_
 simp_arith only[ai,ac,cL.eq]
 (with_reducible (first|refine aA fun Es hE=>?_|refine aT fun Es hE=>?_))
 have c1:1<=((chP Es).flatMap (msQ ps)).length:=by
  have:=Jt (Ii.mpr ⟨_,(hE.mem _).mpr (io _ ps),(show(ov ps (GU (pdim ps) 1),("over" : Str),GU (pdim ps) 1)∈msQ ps (GU (pdim ps) 1)from FT)⟩)
  omega
 have hq:∀t∈(chP Es).flatMap (msQ ps),Df 2000 t.1:=fun t mt=>by
  obtain⟨es,me,mt⟩:=Ii.mp mt
  have:=wA hp n4 h1 (by omega) ((hE.mem es).mp me)
  rcases Gh.mp mt with rfl|mt
  · exact this.1.mono (by decide)
  · rw[Gq.mp mt];exact this.2.mono (by decide)
 simp_arith only[ai,ac,aH.eq]
 (with_reducible (first|refine aA fun t ht=>?_|refine aT fun t ht=>?_))
 exact ay (hQ t (vb hE ht.1 ht.2))
def bc:List W->(FH->Prop)->Prop:=fun ws Q=>∃(b:Bool)(ps:List (List Rat)),ws=[.d (Dl b ps),.d (.str "corner")]/\((1<=ps.length)/\(ps.length<60)/\(pdim ps<=4)/\(EN (pdim ps) ps)/\(((ps.length:Int)+1)^(pdim ps)<=3000))/\Q (fr (Cu (pdim ps) ps))
theorem bc.mono:∀ws (Q Q':FH->Prop),(∀d,Q d->Q' d)->bc ws Q->bc ws Q':=fun _ _ _ h_ ⟨b,ps,e_,p_,q_⟩=>⟨b,ps,e_,p_,h_ _ q_⟩
theorem bc.len:∀ws (Q:FH->Prop),bc ws Q->ws.length=2:=fun _ _ ⟨_,_,e_,_⟩=>by subst e_;rfl
theorem bc.eq(b:Bool)(ps:List (List Rat))(h1:1<=ps.length)(h60:ps.length<60)(n4:pdim ps<=4)(hp:EN (pdim ps) ps)(h3:((ps.length:Int)+1)^(pdim ps)<=3000):bc [.d (Dl b ps),.d (.str "corner")]=VL.ret (fr (Cu (pdim ps) ps):FH):=by
 refine ag fun Q=>⟨?_,fun q_=>⟨b,ps,rfl,⟨h1,h60,n4,hp,h3⟩,q_⟩⟩
 rintro⟨b',ps',e_,_,q_⟩
 simp_arith only[cR,bH,bI,aN,aM,bJ,cU,dg,cW,cJ,cI,cY,dk,cP,cX,cV,de,cT,db,c_,dj,and_assoc]at e_
 obtain⟨rfl,rfl⟩:=e_
 exact q_
theorem hU:FnScope ["points", "family"] ["points", "family"] (defScope (CA 36)):=⟨rfl,rfl,rfl,by decide +kernel,rfl,by decide +kernel,by decide +kernel⟩
theorem d_unevenness(Fn:FnIn K mg "unevenness" (CA 36) ["points", "family"])(Z:Bz mg)(d_worst:∀rl,Dfn P w K mg base rl "worst" ["points", "family"] 8 dO)   : Dfn P w K mg base rl "unevenness" ["points", "family"] 9 bc:=by
 have sc:=hU
 refine Dfn.of Fn sc (bc.mono) (bc.len) (fun cdv A outer s H E hr=>(aq (ax (bW (au (d_worst _) (hr.mono (by decide)) (aa (vn 0) (aa (vn 1) ab))) af)))) ?_
 rintro ws Q ⟨b,ps,rfl,⟨h1,h60,n4,hp,h3⟩,hQ⟩
 refine aw ?_
 have i1:∀t:Rat×Str×List Rat,itemAt (tdD t) 0=some (fr t.1):=fun t=>rfl
 simp_arith only[ai,ac,dO.eq]
 (with_reducible (first|refine aA fun t ht=>?_|refine aT fun t ht=>?_))
 rw[iR ht]at hQ
 simp_arith only[ai,ac,i1]
 exact ay hQ
noncomputable def D0(ps:List (List Rat))(os:List Int):Rat:=(G9 os.length).foldl (fun g k=>mx g (Cu (pdim ps) ((os.take (k+1)).map fun o=>ps.getD o.toNat [])*qd ((k:Int)+1) 1)) 0
theorem ve(hp:EN n ps)(h1:1<=ps.length):∃u,l_ n ps u:=by
 obtain⟨Es,hE⟩:∃Es,ke n ps Es:=⟨(G9 n).map fun i=>1::colQ ps i,by simp,fun i hi=>by
  rw[bZ (by simp;exact hi)]
  simp only[KQ,List.getElem_range]
  refine⟨by simp[colQ],fun e=>?_⟩
  unfold colQ
  rw[Gh,GJ]
  constructor
  · rintro(h|⟨p,mp,rfl⟩)
    · exact .inl h
    · exact .inr ⟨p,mp,rfl⟩
  · rintro(h|⟨p,mp,rfl⟩)
    · exact .inl h
    · exact .inr ⟨p,mp,rfl⟩⟩
 have key:∀l:List (Rat×Str×List Rat),l≠[]->∃t∈l,∀u∈l,u.1<=t.1:=by
  intro l
  induction l with
  | nil=>intro h;exact absurd rfl h
  | cons x l ih =>
    intro _
    by_cases z:l=[]
    · subst z;exact⟨x,FT,fun u mu=>by rw[Gq.mp mu];exact LN⟩
    · obtain⟨t,mt,ht⟩:=ih z
      by_cases c:x.1<=t.1
      · exact⟨t,FP _ mt,fun u mu=>by
          rcases Gh.mp mu with rfl|mu
          · exact c
          · exact ht u mu⟩
      · exact⟨x,FT,fun u mu=>by
          rcases Gh.mp mu with rfl|mu
          · exact LN
          · have:=ht u mu;grind⟩
 obtain⟨t,mt,ht⟩:=key ((chP Es).flatMap (msQ ps)) fun z=>by
  have:(ov ps (GU n 1),("over" : Str),GU n 1)∈(chP Es).flatMap (msQ ps):=Ii.mpr ⟨_,(hE.mem _).mpr (io n ps),FT⟩
  rw[z]at this;cases this
 exact⟨t.1,vb hE mt ht⟩
theorem jE{os:List Int}(hp:EN n ps)(ho:∀o∈os,0<=o/\o<(ps.length:Int))(k:Nat):EN n ((os.take k).map fun o=>ps.getD o.toNat []):=by
 intro p mp
 obtain⟨o,mo,rfl⟩:=GJ.mp mp
 have:=ho o (IW mo)
 exact hp _ (getD_mem (by omega))
theorem d9(hp:EN n ps)(h1:1<=ps.length):pdim ps=n:=by
 cases ps with
 | nil=>simp at h1
 | cons p l=>exact(hp p FT).1
def bD:List W->(FH->Prop)->Prop:=fun ws Q=>∃(q:Rat)(m:Int),ws=[.d (fr q),.d (.int m)]/\((Df 2000 q)/\(Df 2000 (qd m 1)))/\Q (fr (q*qd m 1))
theorem bD.mono:∀ws (Q Q':FH->Prop),(∀d,Q d->Q' d)->bD ws Q->bD ws Q':=fun _ _ _ h_ ⟨q,m,e_,p_,q_⟩=>⟨q,m,e_,p_,h_ _ q_⟩
theorem bD.len:∀ws (Q:FH->Prop),bD ws Q->ws.length=2:=fun _ _ ⟨_,_,e_,_⟩=>by subst e_;rfl
theorem bD.eq(q:Rat)(m:Int)(hq:Df 2000 q)(hm:Df 2000 (qd m 1)):bD [.d (fr q),.d (.int m)]=VL.ret (fr (q*qd m 1):FH):=by
 refine ag fun Q=>⟨?_,fun q_=>⟨q,m,rfl,⟨hq,hm⟩,q_⟩⟩
 rintro⟨q',m',e_,_,q_⟩
 simp_arith only[cR,bH,bI,aN,aM,bJ,cU,dg,cW,cJ,cI,cY,dk,cP,cX,cV,de,cT,db,c_,dj,and_assoc]at e_
 obtain⟨rfl,rfl⟩:=e_
 exact q_
theorem hV:FnScope ["number", "many"] ["number", "many"] (defScope (CA 38)):=⟨rfl,rfl,rfl,by decide +kernel,rfl,by decide +kernel,by decide +kernel⟩
theorem d_times_many(Fn:FnIn K mg "times_many" (CA 38) ["number", "many"])(Z:Bz mg)(d_times:∀rl,Dfn P w K mg base rl "times" ["one", "other"] 3 dh)   : Dfn P w K mg base rl "times_many" ["number", "many"] 4 bD:=by
 have sc:=hV
 refine Dfn.of Fn sc (bD.mono) (bD.len) (fun cdv A outer s H E hr=>(aq (ax (au (d_times _) (hr.mono (by decide)) (aa (vn 0) (aa (cn (aa (vn 1) (aa af ab))) ab)))))) ?_
 rintro ws Q ⟨q,m,rfl,⟨hq,hm⟩,hQ⟩
 refine aw ?_
 simp_arith only[ai,ac,xf,dh.eq]
 exact ay hQ
def di:List W->(FH->Prop)->Prop:=fun ws Q=>∃(ps:List (List Rat))(os:List Int),ws=[.d (ptsQ ps),.d (eN os)]/\((1<=ps.length)/\(ps.length<60)/\(pdim ps<=4)/\(EN (pdim ps) ps)/\(ps.length<=7)/\(pdim ps<=2)/\(∀o∈os,0<=o/\o<(ps.length:Int))/\(os.length<=7))/\Q (fr (D0 ps os))
theorem di.mono:∀ws (Q Q':FH->Prop),(∀d,Q d->Q' d)->di ws Q->di ws Q':=fun _ _ _ h_ ⟨ps,os,e_,p_,q_⟩=>⟨ps,os,e_,p_,h_ _ q_⟩
theorem di.len:∀ws (Q:FH->Prop),di ws Q->ws.length=2:=fun _ _ ⟨_,_,e_,_⟩=>by subst e_;rfl
theorem di.eq(ps:List (List Rat))(os:List Int)(h1:1<=ps.length)(h60:ps.length<60)(n4:pdim ps<=4)(hp:EN (pdim ps) ps)(h7:ps.length<=7)(n2:pdim ps<=2)(ho:∀o∈os,0<=o/\o<(ps.length:Int))(ol:os.length<=7):di [.d (ptsQ ps),.d (eN os)]=VL.ret (fr (D0 ps os):FH):=by
 refine ag fun Q=>⟨?_,fun q_=>⟨ps,os,rfl,⟨h1,h60,n4,hp,h7,n2,ho,ol⟩,q_⟩⟩
 rintro⟨ps',os',e_,_,q_⟩
 simp_arith only[cR,bH,bI,aN,aM,bJ,cU,dg,cW,cJ,cI,cY,dk,cP,cX,cV,de,cT,db,c_,dj,and_assoc]at e_
 obtain⟨rfl,rfl⟩:=e_
 exact q_
theorem pH:FnScope ["points", "order", "greatest", "k", "begun"] ["points", "order"] (defScope (CA 40)):=⟨rfl,rfl,rfl,by decide +kernel,rfl,by decide +kernel,by decide +kernel⟩
theorem d_heave(Fn:FnIn K mg "heave" (CA 40) ["points", "order"])(Z:Bz mg)(d_greater:∀rl,Dfn P w K mg base rl "greater" ["one", "other"] 2 cg)(d_times_many:∀rl,Dfn P w K mg base rl "times_many" ["number", "many"] 4 bD)(d_unevenness:∀rl,Dfn P w K mg base rl "unevenness" ["points", "family"] 9 bc)(gl_ZERO:GlD K mg "ZERO" (pr 0 1))  : Dfn P w K mg base rl "heave" ["points", "order"] 10 di:=by
 have sc:=pH
 refine Dfn.of Fn sc (di.mono) (di.len) (fun cdv A outer s H E hr=>(ah (am 2 sc.nd (dG gl_ZERO))
  (ah (bY [3,4] GO rfl (iM Z.range_ (aa af (aa (v_add (cE Z.len_ (aa (vn 1) ab)) af) ab))) (aj 3 sc.nd) (ah (cx 4 sc.nd ["place", "points"] [none,some 0] rfl (iK (uW (vn 1) fG (fF (vn 3)))) (fun _=>(aj 0 (show G1 (["place", "points"]:List Str) by decide +kernel))) (fun _=>bR) (fun _=>(bW (vn 1) (vn 0))))
  (aq (am 2 sc.nd (au (d_greater _) (hr.mono (by decide)) (aa (vn 2) (aa (au (d_times_many _) (hr.mono (by decide)) (aa (au (d_unevenness _) (hr.mono (by decide)) (aa (vn 4) (aa bX ab))) (aa (vn 3) ab))) ab)))))))
  (aq (ax (vn 2)))))) ?_
 rintro ws Q ⟨ps,os,rfl,⟨h1,h60,n4,hp,h7,n2,ho,ol⟩,hQ⟩
 refine aw ?_
 have sz:=GL
 have go : -(2^62)<=(os.length:Int)+1/\(os.length:Int)+1<2^62:=by omega
 have go1 : -(2^62)<=(1:Int)/\(1:Int)<2^62:=by omega
 have et:((os.length:Int)+1-1).toNat=os.length:=by omega
 simp_arith only[ai,ac,FB,et,FE]
 refine dQ (fun i ρ=>ρ=[some (.d (ptsQ ps)),some (.d (eN os)),some (.d (fr ((G9 i).foldl (fun g k=>mx g (Cu (pdim ps) ((os.take (k+1)).map fun o=>ps.getD o.toNat [])*qd ((k:Int)+1) 1)) 0))),none,none]/\Df 200 ((G9 i).foldl (fun g k=>mx g (Cu (pdim ps) ((os.take (k+1)).map fun o=>ps.getD o.toNat [])*qd ((k:Int)+1) 1)) 0)) ⟨rfl,Dj.mono (by decide)⟩ ?_ ?_
 · rintro i hi ρ ⟨rfl,gsm⟩ K hK
   have sp:=jE hp ho (i+1)
   have sl:((os.take (i+1)).map fun o=>ps.getD o.toNat []).length=i+1:=by rw[FR,GG];omega
   have pd:=d9 sp (by omega)
   have ek:(1:Int)+(i:Int)=((i+1:Nat):Int):=by omega
   have ec:=xV os GA (i+1)
   have e1:((i+1:Nat):Int)=(i:Int)+1:=by omega
   have fs:(G9 (i+1)).foldl (fun g k=>mx g (Cu (pdim ps) ((os.take (k+1)).map fun o=>ps.getD o.toNat [])*qd ((k:Int)+1) 1)) 0=mx ((G9 i).foldl (fun g k=>mx g (Cu (pdim ps) ((os.take (k+1)).map fun o=>ps.getD o.toNat [])*qd ((k:Int)+1) 1)) 0) (Cu (pdim ps) ((os.take (i+1)).map fun o=>ps.getD o.toNat [])*qd ((i:Int)+1) 1):=by
    rw[Ll,Iy];rfl
   generalize (G9 i).foldl (fun g k=>mx g (Cu (pdim ps) ((os.take (k+1)).map fun o=>ps.getD o.toNat [])*qd ((k:Int)+1) 1)) 0=G at *
   rw[ek]
   simp_arith only[ai,ac,FB,ec]
   refine CZ (b9 (xs:=os.take (i+1)) (enc:=GA) (fun o=>ptD (ps.getD o.toNat [])) rfl ?_ (by rw[GG];omega) ?_)
   · intro o mo
     have oo:=ho o (IW mo)
     have e:=cD (xs:=ps) [] oo.1 oo.2
     simp_arith only[ai,ac,DR,FE,e]
   have em:(os.take (i+1)).map (fun o=>ptD (ps.getD o.toNat []))=((os.take (i+1)).map fun o=>ps.getD o.toNat []).map ptD:=by rw[HK];rfl
   rw[em]
   have g3:((((os.take (i+1)).map fun o=>ps.getD o.toNat []).length:Int)+1)^(pdim ((os.take (i+1)).map fun o=>ps.getD o.toNat []))<=3000:=by
    rw[pd,sl]
    have h8:((i+1:Nat):Int)+1<=8:=by omega
    have:(((i+1:Nat):Int)+1)^pdim ps<=8^2:=by
     refine K_ (dz (j:=2) (by omega) n2) ?_
     rw[Io,Io,Mj,LJ]
     have:=I_ h8 h8 (by omega) (by decide)
     omega
    omega
   obtain⟨u,hu⟩:∃u,l_ (pdim ps) ((os.take (i+1)).map fun o=>ps.getD o.toNat []) u:=ve sp (by omega)
   obtain⟨um,u0⟩:=va sp n4 (by omega) (by omega) hu
   generalize hP:(os.take (i+1)).map (fun o=>ps.getD o.toNat [])=P at *
   have pu:bc [.d (.list (P.map ptD)),.d (.str "corner")]=VL.ret (fr u):=by
    have:=bc.eq false P (by omega) (by omega) (by omega) (by rw[pd];exact sp) g3
    rw[pd,iR hu]at this
    exact this
   have s1:Df 2000 u:=um.mono (by decide)
   have s2:Df 2000 (qd ((i+1:Nat):Int) 1):=(i9 (k:=20) (by decide) (by omega) (by decide)).mono (by decide)
   have s3:Df 200 (u*qd ((i+1:Nat):Int) 1):=(kX um (i9 (k:=20) (by decide) (by omega) (by decide))).mono (by decide)
   have s4:Df 2000 (u*qd ((i+1:Nat):Int) 1):=s3.mono (by decide)
   have s5:=gsm.mono (show 200<=2000 by decide)
   simp_arith only[ai,ac,pu,bD.eq,cg.eq]
   rw[iR hu,<- e1]at fs
   refine hK _ (bV ⟨?_,?_⟩)
   · rw[fs];rfl
   · rw[fs];exact jO gsm s3
 · rintro ρ ⟨rfl,_⟩
   simp_arith only[ai,ac]
   exact ay hQ
def bo:List W->(FH->Prop)->Prop:=fun ws Q=>∃(a b:Int),ws=[.d (.int a),.d (.int b)]/\((0<b)/\(b.natAbs<2^8000))/\Q (fr (qd a b))
theorem bo.mono:∀ws (Q Q':FH->Prop),(∀d,Q d->Q' d)->bo ws Q->bo ws Q':=fun _ _ _ h_ ⟨a,b,e_,p_,q_⟩=>⟨a,b,e_,p_,h_ _ q_⟩
theorem bo.len:∀ws (Q:FH->Prop),bo ws Q->ws.length=2:=fun _ _ ⟨_,_,e_,_⟩=>by subst e_;rfl
theorem bo.eq(a b:Int)(hb:0<b)(hz:b.natAbs<2^8000):bo [.d (.int a),.d (.int b)]=VL.ret (fr (qd a b):FH):=by
 refine ag fun Q=>⟨?_,fun q_=>⟨a,b,rfl,⟨hb,hz⟩,q_⟩⟩
 rintro⟨a',b',e_,_,q_⟩
 simp_arith only[cR,bH,bI,aN,aM,bJ]at e_
 obtain⟨rfl,rfl⟩:=e_
 exact q_
theorem i4:FnScope ["_law_n", "_law_d", "_law_one", "_law_other"] ["_law_n", "_law_d"] (defScope (CA 44)):=⟨rfl,rfl,rfl,by decide +kernel,rfl,by decide +kernel,by decide +kernel⟩
theorem d__law_frac(Fn:FnIn K mg "_law_frac" (CA 44) ["_law_n", "_law_d"])(Z:Bz mg)    : Dfn P w K mg base rl "_law_frac" ["_law_n", "_law_d"] 1 bo:=by
 have sc:=i4
 refine Dfn.of Fn sc (bo.mono) (bo.len) (fun cdv A outer s H E hr=>(ah (am 2 sc.nd (uZ Z.abs_ (aa (vn 0) ab)))
  (ah (am 3 sc.nd (vn 1))
  (ah (iG [] GO (bK tF rN (bh _) (vn 3) af) (aq (qP 2 3 rfl sc.nd (aa (vn 3) (aa (v_mod (vn 2) (vn 3)) ab)))))
  (aq (ax (cn (aa (v_div (vn 0) (vn 2)) (aa (v_div (vn 1) (vn 2)) ab))))))))) ?_
 rintro ws Q ⟨a,b,rfl,⟨hb,hz⟩,hQ⟩
 refine aw ?_
 have e:GF (if a<0 then -a else a) b=GF a b:=by split<;>simp[GF]
 simp_arith only[ac]
 refine kr (σ:=Int×Int) (fun s=>[some (.d (.int a)),some (.d (.int b)),some (.d (.int s.1)),some (.d (.int s.2))]) (fun s=>decide (0<s.2)) (fun s=>(s.2,s.1.fmod s.2)) (fun s=>s.2.natAbs) (fun s=>0<=s.1/\0<=s.2/\GF s.1 s.2=GF a b) (if a<0 then -a else a,b) rfl ⟨by dsimp only;split<;>omega,by dsimp only;omega,e⟩ ?_ ?_ ?_
 · intro s _
   simp_arith only[ac]
 · rintro s ⟨h1,h2,e⟩ c
   have hc:0<s.2:=by simpa using c
   have hc':s.2≠0:=by omega
   refine⟨⟨h2,HL _ hc,by rw[ip];exact e⟩,f_ hc',_,?_,rfl⟩
   simp_arith only[ai,ac]
 · rintro s ⟨h1,h2,e⟩ c
   have hc:¬0<s.2:=by simpa using c
   have hc:s.2=0:=by omega
   rw[hc,Int.gcd_zero_right]at e
   have ex:s.1=(GF a b:Int):=by omega
   have c1:dW a (GF a b:Int):=ot hb hz _
   have c2:dW b (GF a b:Int):=ot hb hz _
   simp_arith only[ai,ac,ex]
   rw[nU hb]
   exact ay hQ
theorem BA{a d:Int}:pr a b=pr c d↔a=c/\b=d:=by
 constructor
 · intro h;injection h with h;injection h with h1 h2;injection h2 with h2;injection h1 with h1;injection h2 with h2;exact⟨h1,h2⟩
 · rintro⟨rfl,rfl⟩;rfl
def aF:List W->(FH->Prop)->Prop:=fun ws Q=>∃(a b c d:Int),ws=[.d (pr a b),.d (pr c d)]/\((aZ a d)/\(aZ c b))/\Q (.bool (decide (a*d<c*b)))
theorem aF.mono:∀ws (Q Q':FH->Prop),(∀d,Q d->Q' d)->aF ws Q->aF ws Q':=fun _ _ _ h_ ⟨a,b,c,d,e_,p_,q_⟩=>⟨a,b,c,d,e_,p_,h_ _ q_⟩
theorem aF.len:∀ws (Q:FH->Prop),aF ws Q->ws.length=2:=fun _ _ ⟨_,_,_,_,e_,_⟩=>by subst e_;rfl
theorem aF.eq(a b c d:Int)(m1:aZ a d)(m2:aZ c b):aF [.d (pr a b),.d (pr c d)]=VL.ret (.bool (decide (a*d<c*b)):FH):=by
 refine ag fun Q=>⟨?_,fun q_=>⟨a,b,c,d,rfl,⟨m1,m2⟩,q_⟩⟩
 rintro⟨a',b',c',d',e_,_,q_⟩
 simp_arith only[cR,bH,bI,aN,aM,bJ,BA,and_assoc]at e_
 obtain⟨rfl,rfl,rfl,rfl⟩:=e_
 exact q_
theorem ib:FnScope ["_law_one", "_law_other"] ["_law_one", "_law_other"] (defScope (CA 45)):=⟨rfl,rfl,rfl,by decide +kernel,rfl,by decide +kernel,by decide +kernel⟩
theorem d__law_below(Fn:FnIn K mg "_law_below" (CA 45) ["_law_one", "_law_other"])(Z:Bz mg)    : Dfn P w K mg base rl "_law_below" ["_law_one", "_law_other"] 1 aF:=by
 have sc:=ib
 refine Dfn.of Fn sc (aF.mono) (aF.len) (fun cdv A outer s H E hr=>(aq (ax (jC pW pi (bh _) (v_mul (bW (vn 0) af) (bW (vn 1) af)) (v_mul (bW (vn 1) af) (bW (vn 0) af)))))) ?_
 rintro ws Q ⟨a,b,c,d,rfl,⟨m1,m2⟩,hQ⟩
 refine aw ?_
 have i0:∀a b:Int,itemAt (pr a b) 0=some (.int a):=fun _ _=>rfl
 have i1:∀a b:Int,itemAt (pr a b) 1=some (.int b):=fun _ _=>rfl
 simp_arith only[ai,ac,i0,i1]
 exact ay hQ
theorem tW(q r:Rat)(h1:Df 2000 q)(h2:Df 2000 r):aF [.d (fr q),.d (fr r)]=VL.ret (.bool (decide (q<r))):=by
 have:=aF.eq q.num q.den r.num r.den (.bb h1.bn h2.bd) (.bb h2.bn h1.bd)
 rw[show decide (q.num*(r.den:Int)<r.num*(q.den:Int))=decide (q<r)from decide_eq_decide.mpr (Lo q r).symm]at this
 exact this
def bm:List W->(FH->Prop)->Prop:=fun ws Q=>ws=[.reel]/\(True)/\∀r:Rat,(Df 20 r/\0<=r/\r<1)->Q (fr r)
theorem bm.mono:∀ws (Q Q':FH->Prop),(∀d,Q d->Q' d)->bm ws Q->bm ws Q':=fun _ _ _ h_ ⟨e_,p_,q_⟩=>⟨e_,p_,fun o_ ho_=>h_ _ (q_ o_ ho_)⟩
theorem bm.len:∀ws (Q:FH->Prop),bm ws Q->ws.length=1:=fun _ _ ⟨e_,_⟩=>by subst e_;rfl
theorem bm.eq   : bm [.reel]=Ek (anyM fun r:Rat=>Df 20 r/\0<=r/\r<1) fun r=>VL.ret (fr r:FH):=by
 refine ag fun Q=>⟨?_,fun q_=>⟨rfl,trivial,q_⟩⟩
 rintro⟨e_,_,q_⟩
 simp_arith only[cR,bH,bI,aN,aM,bJ]at e_
 exact q_
theorem gq:FnScope ["_law_feed_here", "_law_d"] ["_law_feed_here"] (defScope (CA 46)):=⟨rfl,rfl,rfl,by decide +kernel,rfl,by decide +kernel,by decide +kernel⟩
theorem d__law_number(Fn:FnIn K mg "_law_number" (CA 46) ["_law_feed_here"])(Z:Bz mg)(d__law_frac:∀rl,Dfn P w K mg base rl "_law_frac" ["_law_n", "_law_d"] 1 bo)(d__law_draw:∀al,DfnC P w K mg base al 1 "_law_draw" ["_law_feed_here", "_law_many"] 1 bq)   : DfnC P w K mg base al 2 "_law_number" ["_law_feed_here"] 2 bm:=by
 have sc:=gq
 refine DfnC.of Fn sc (bm.mono) (bm.len) (fun cdv A outer s H E hr=>(bu (ge 1 sc.nd (AZ (cv fun _=>(fg (aa af (aa af (aa af (aa af (aa af (aa af (aa af (aa af ab)))))))))) (eL (d__law_draw _) (hr.mono (by decide)) (aD (cv fun _=>(vn 0)) (aD (cv fun _=>af) cB)))))
  (e8 (xn (uu (fun n=>d__law_frac _) (hr.mono (by decide)) (aD (eL (d__law_draw _) (hr.mono (by decide)) (aD (cv fun _=>(vn 0)) (aD (cv fun _=>(vn 1)) cB))) (aD (cv fun _=>(vn 1)) cB))))))) (by decide) ?_
 rintro ws Q ⟨rfl,_,hQ⟩
 refine aw ?_
 simp_arith only[ai,ac,bL,bM,aJ,aL,bN,aK,az,ae,bq.eq]
 (with_reducible (first|refine aA fun k hk=>?_|refine aT fun k hk=>?_))
 refine CY (gM (xs:=[2,3,4,5,6,8,12,1000003]) (enc:=GA) (fun m=>2<=m/\m<=1000003) rfl hk.1 (by show k<8;omega) (by decide) fun m hm=>?_)
 have m0:0<m:=by omega
 have mb:m<2^60:=by omega
 have mz:m.natAbs<2^8000:=FN (show m.natAbs<2^60 by omega) (FX (by decide) (by decide))
 simp_arith only[ai,ac,bL,bM,aJ,aL,bN,aK,az,ae,bq.eq]
 (with_reducible (first|refine aA fun x hx=>?_|refine aT fun x hx=>?_))
 simp_arith only[ai,ac,bL,bM,aJ,aL,bN,aK,az,ae,bo.eq]
 exact ay (hQ _ ⟨i9 m0 (by omega) (by omega),sJ m0 hx.1,qY m0 hx.2⟩)
def bj:List W->(FH->Prop)->Prop:=fun ws Q=>∃(s m:Int),ws=[.reel,.d (.int s),.d (.int m)]/\((1<=s)/\(s<=4)/\(1<=m)/\(m<=40))/\∀ps:List (List Rat),(EN s.toNat ps/\ps.length=m.toNat)->Q (ptsQ ps)
theorem bj.mono:∀ws (Q Q':FH->Prop),(∀d,Q d->Q' d)->bj ws Q->bj ws Q':=fun _ _ _ h_ ⟨s,m,e_,p_,q_⟩=>⟨s,m,e_,p_,fun o_ ho_=>h_ _ (q_ o_ ho_)⟩
theorem bj.len:∀ws (Q:FH->Prop),bj ws Q->ws.length=3:=fun _ _ ⟨_,_,e_,_⟩=>by subst e_;rfl
theorem bj.eq(s m:Int)(s1:1<=s)(s4:s<=4)(m1:1<=m)(m40:m<=40):bj [.reel,.d (.int s),.d (.int m)]=Ek (anyM fun ps:List (List Rat)=>EN s.toNat ps/\ps.length=m.toNat) fun ps=>VL.ret (ptsQ ps:FH):=by
 refine ag fun Q=>⟨?_,fun q_=>⟨s,m,rfl,⟨s1,s4,m1,m40⟩,q_⟩⟩
 rintro⟨s',m',e_,_,q_⟩
 simp_arith only[cR,bH,bI,aN,aM,bJ]at e_
 obtain⟨rfl,rfl⟩:=e_
 exact q_
theorem gj:FnScope ["_law_feed_here", "_law_s", "_law_many", "_law_found", "_law_k", "_law_point"] ["_law_feed_here", "_law_s", "_law_many"] (defScope (CA 47)):=⟨rfl,rfl,rfl,by decide +kernel,rfl,by decide +kernel,by decide +kernel⟩
theorem d__law_points(Fn:FnIn K mg "_law_points" (CA 47) ["_law_feed_here", "_law_s", "_law_many"])(Z:Bz mg)(d__law_number:∀al,DfnC P w K mg base al 2 "_law_number" ["_law_feed_here"] 2 bm)(d__law_draw:∀al,DfnC P w K mg base al 1 "_law_draw" ["_law_feed_here", "_law_many"] 1 bq)   : DfnC P w K mg base al 8320 "_law_points" ["_law_feed_here", "_law_s", "_law_many"] 3 bj:=by
 have sc:=gj
 refine DfnC.of Fn sc (bj.mono) (bj.len) (fun cdv A outer s H E hr=>(bu (cs fun _=>(kz 3 sc.nd (fg ab)))
  (bu (oN 64 [4,5] GO rfl (ci fun _=>(cy Z.range_ (aa (vn 2) ab))) (fun _=>(aj 4 sc.nd)) (bu (ge 5 sc.nd (ur Z.tuple_ (aD (ut 64 ["_law_side", "_law_feed_here"] [none,some 0] rfl (ci fun _=>(cy Z.range_ (aa (vn 1) ab))) (fun _ _=>(aj 0 (show G1 (["_law_side", "_law_feed_here"]:List Str) by decide +kernel))) (fun _=>xm) (fun _=>(eL (d__law_number _) (hr.mono (by decide)) (aD (cv fun _=>(vn 1)) cB)))) cB)))
  (bu (zD (Fw.cb (xt (cb fun _=>(bK (nM hr.units) iI (bh _) (vn 3) (fg ab))) (uo (xr (rg hr.units) (fun _=>iI) (bh _) (eL (d__law_draw _) (hr.mono (by decide)) (aD (cv fun _=>(vn 0)) (aD (cv fun _=>af) cB))) (cv fun _=>af))))) (e8 (ge 5 sc.nd (AZ (cv fun _=>(vn 3)) (eL (d__law_draw _) (hr.mono (by decide)) (aD (cv fun _=>(vn 0)) (aD (cv fun _=>(cE Z.len_ (aa (vn 3) ab))) cB)))))) xo)
  (e8 (cs fun _=>(iH 3 (aa (vn 5) ab)))))))
  (e8 (cs fun _=>(ax (jB Z.tuple_ (aa (vn 3) ab)))))))) (by decide) ?_
 rintro ws Q ⟨s,m,rfl,⟨s1,s4,m1,m40⟩,hQ⟩
 refine aw ?_
 have sz:=GL
 have gs : -(2^62)<=s/\s<2^62:=by omega
 have gm : -(2^62)<=m/\m<2^62:=by omega
 simp_arith only[ai,ac,bL,bM,aJ,aL,bN,aK,az,ae]
 refine dQ (fun i ρ=>∃ps:List (List Rat),ps.length=i/\EN s.toNat ps/\ρ=[some .reel,some (.d (.int s)),some (.d (.int m)),some (.ml (ps.map ptD)),none,none]) ⟨[],rfl,by simp[EN],rfl⟩ ?_ ?_
 · rintro i hi ρ ⟨ps,hl,hp,rfl⟩ K hK
   simp_arith only[ai,ac,bL,bM,aJ,aL,bN,aK,az,ae]
   refine CZ (qJ (fun d=>∃r:Rat,(Df 20 r/\0<=r/\r<1)/\d=fr r) ?_ (by omega) ?_)
   · intro j hj K2 hK2
     simp_arith only[ai,ac,DR,bm.eq]
     (with_reducible (first|refine aA fun x hx=>?_|refine aT fun x hx=>?_))
     exact hK2 _ ⟨x,hx,rfl⟩
   intro ds dl hds
   obtain⟨qs,rfl,ql,hqs⟩:=ln hds
   have qlen:qs.length=s.toNat:=by omega
   have qz:(qs.map fr).length<=sizeLine:=by rw[FR];omega
   have pz:ps.length<sizeLine:=by omega
   have fin:∀p:List Rat,(p.length=s.toNat/\∀q∈p,Df 20 q/\0<=q/\q<1)->∀o o',K (.nx [some .reel,some (.d (.int s)),some (.d (.int m)),some (.ml (ps.map ptD++[ptD p])),o,o']):=fun p hpp o o' =>
    hK _ (bV ⟨ps++[p],by rw[Gg,hl];rfl,fun z mz=>by
     rcases Gv.mp mz with h|h
     · exact hp z h
     · rw[Gq.mp h];exact hpp,by simp[fo,Hd]⟩)
   have sh:=lE ps
   have e0:GC (.list [])=true:=by decide
   simp_arith only[ai,ac,bL,bM,aJ,aL,bN,aK,az,ae,FB,sh,e0,uc,bq.eq]
   refine dB (fun hne=>?_) fun _=>fin qs ⟨qlen,hqs⟩ _ _
   (with_reducible (first|refine aA fun a ha=>?_|refine aT fun a ha=>?_))
   try rw[sq_ite]
   refine dB (fun _=>?_) fun _=>?_
   · have pn:0<ps.length:=by
       cases ps with
       | nil=>exact absurd hne (by decide)
       | cons x l=>simp
     have p1:(0:Int)<(ps.length:Int):=by omega
     have p2:(ps.length:Int)<2^60:=by omega
     simp_arith only[ai,ac,bL,bM,aJ,aL,bN,aK,az,ae,bq.eq]
     (with_reducible (first|refine aA fun k hk=>?_|refine aT fun k hk=>?_))
     refine CY (gM (xs:=ps) (enc:=ptD) (fun p:List Rat=>p.length=s.toNat/\∀q∈p,Df 20 q/\0<=q/\q<1) rfl hk.1 hk.2 hp fun p hpp=>?_)
     simp_arith only[ai,ac,bL,bM,aJ,aL,bN,aK,az,ae]
     exact fin p hpp _ _
   · simp_arith only[ai,ac,bL,bM,aJ,aL,bN,aK,az,ae]
     exact fin qs ⟨qlen,hqs⟩ _ _
 · rintro ρ ⟨ps,hl,hp,rfl⟩
   simp_arith only[ai,ac,bL,bM,aJ,aL,bN,aK,az,ae]
   exact ay (hQ ps ⟨hp,hl⟩)
theorem pZ(l:List α)(f:α->Bool):(!((l.map fun z=>Ic (f z)).any fun z=>z.eqv (.bool true)))=l.all fun z=>!f z:=by
 induction l with
 | nil=>rfl
 | cons a l ih =>
   rw[Gz,HZ,L6,Bool.not_or,ih]
   congr 1
   cases f a<;>rfl
theorem p5(l:List α)(f:α->Bool):(!((l.map fun z=>Ic (f z)).any fun z=>z.eqv (.bool false)))=l.all f:=by
 induction l with
 | nil=>rfl
 | cons a l ih =>
   rw[Gz,HZ,L6,Bool.not_or,ih]
   congr 1
   cases f a<;>rfl
theorem jf(l:List α)(f:α->Bool):GE (l.map fun z=>Ic (f z))=true:=by
 induction l with
 | nil=>rfl
 | cons a l ih=>simp[GE,GY,ih]
theorem gT(p es:List Rat):ko (p.map fr) (es.map fr)=(p.zip es).map fun z=>Hw [fr z.1,fr z.2]:=kj _ _ _ _
def br:List W->(FH->Prop)->Prop:=fun ws Q=>∃(ps:List (List Rat))(es:List Rat),ws=[.d (ptsQ ps),.d (ptD es)]/\((1<=ps.length)/\(ps.length<60)/\(es.length<=4)/\(∀p∈ps,p.length<=4/\∀q∈p,Df 20 q)/\(∀e∈es,Df 20 e))/\Q (.tuple [.int ((shC ps es:Int)*btE es 1-tpE es*ps.length),.int (tpE es*ps.length-(opC ps es:Int)*btE es 1),.int (btE es ps.length)])
theorem br.mono:∀ws (Q Q':FH->Prop),(∀d,Q d->Q' d)->br ws Q->br ws Q':=fun _ _ _ h_ ⟨ps,es,e_,p_,q_⟩=>⟨ps,es,e_,p_,h_ _ q_⟩
theorem br.len:∀ws (Q:FH->Prop),br ws Q->ws.length=2:=fun _ _ ⟨_,_,e_,_⟩=>by subst e_;rfl
theorem br.eq(ps:List (List Rat))(es:List Rat)(h1:1<=ps.length)(h60:ps.length<60)(e4:es.length<=4)(hp:∀p∈ps,p.length<=4/\∀q∈p,Df 20 q)(he:∀e∈es,Df 20 e):br [.d (ptsQ ps),.d (ptD es)]=VL.ret (.tuple [.int ((shC ps es:Int)*btE es 1-tpE es*ps.length),.int (tpE es*ps.length-(opC ps es:Int)*btE es 1),.int (btE es ps.length)]:FH):=by
 refine ag fun Q=>⟨?_,fun q_=>⟨ps,es,rfl,⟨h1,h60,e4,hp,he⟩,q_⟩⟩
 rintro⟨ps',es',e_,_,q_⟩
 simp_arith only[cR,bH,bI,aN,aM,bJ,cU,dg,cW,cJ,cI,cY,dk,cP,cX,cV,de,cT,db,c_,dj,and_assoc]at e_
 obtain⟨rfl,rfl⟩:=e_
 exact q_
theorem gt:FnScope ["_law_points_here", "_law_ends", "_law_top", "_law_bottom", "_law_end", "_law_shut", "_law_bare", "_law_point", "_law_part"] ["_law_points_here", "_law_ends"] (defScope (CA 48)):=⟨rfl,rfl,rfl,by decide +kernel,rfl,by decide +kernel,by decide +kernel⟩
theorem d__law_corner(Fn:FnIn K mg "_law_corner" (CA 48) ["_law_points_here", "_law_ends"])(Z:Bz mg)(d__law_below:∀rl,Dfn P w K mg base rl "_law_below" ["_law_one", "_law_other"] 1 aF)   : Dfn P w K mg base rl "_law_corner" ["_law_points_here", "_law_ends"] 2 br:=by
 have sc:=gt
 refine Dfn.of Fn sc (br.mono) (br.len) (fun cdv A outer s H E hr=>(ah (am 2 sc.nd af)
  (ah (am 3 sc.nd (cE Z.len_ (aa (vn 0) ab)))
  (ah (bY [4] GO rfl (iK (vn 1)) (aj 4 sc.nd) (ah (am 2 sc.nd (v_mul (vn 2) (mI Z.max_ (aa af (aa (bW (vn 4) af) ab)))))
  (aq (am 3 sc.nd (v_mul (vn 3) (bW (vn 4) af))))))
  (ah (am 5 sc.nd af)
  (ah (am 6 sc.nd af)
  (ah (bY [7] GO rfl (iK (vn 0)) (aj 7 sc.nd) (ah (am 5 sc.nd (v_add (vn 5) (qS Z.int_ (aa (jC (fR hr.u65) mD (by with_unfolding_all rfl) sM (bU ["_law_x", "_law_end"] [none,none] rfl (kD Z.zip_ (aa (vn 7) (aa (vn 1) ab))) (fun _=>(fH (n:=2) rfl (aC (aj 0 (show G1 (["_law_x", "_law_end"]:List Str) by decide +kernel)) (aC (aj 1 (show G1 (["_law_x", "_law_end"]:List Str) by decide +kernel)) dI)))) (fun _=>bR) (fun _=>(au (d__law_below _) (hr.mono (by decide)) (aa (vn 1) (aa (vn 0) ab)))))) ab))))
  (aq (am 6 sc.nd (v_add (vn 6) (qS Z.int_ (aa (jC (fR hr.u65) mD (by with_unfolding_all rfl) sM (bU ["_law_x", "_law_end"] [none,none] rfl (kD Z.zip_ (aa (vn 7) (aa (vn 1) ab))) (fun _=>(fH (n:=2) rfl (aC (aj 0 (show G1 (["_law_x", "_law_end"]:List Str) by decide +kernel)) (aC (aj 1 (show G1 (["_law_x", "_law_end"]:List Str) by decide +kernel)) dI)))) (fun _=>bR) (fun _=>(au (d__law_below _) (hr.mono (by decide)) (aa (vn 0) (aa (vn 1) ab)))))) ab)))))))
  (ah (am 8 sc.nd (v_div (vn 3) (cE Z.len_ (aa (vn 0) ab))))
  (aq (ax (cn (aa (v_sub (v_mul (vn 5) (vn 8)) (v_mul (vn 2) (cE Z.len_ (aa (vn 0) ab)))) (aa (v_sub (v_mul (vn 2) (cE Z.len_ (aa (vn 0) ab))) (v_mul (vn 6) (vn 8))) (aa (vn 3) ab)))))))))))))) ?_
 rintro ws Q ⟨ps,es,rfl,⟨h1,h60,e4,hp,he⟩,hQ⟩
 refine aw ?_
 have sz:=GL
 simp_arith only[ai,ac,FE]
 refine eA (xs:=es) (enc:=fr) (fun i ρ=>ρ=[some (.d (ptsQ ps)),some (.d (ptD es)),some (.d (.int (tpE (es.take i)))),some (.d (.int (btE (es.take i) ps.length))),none,none,none,none,none]) rfl rfl ?_ ?_
 · rintro i hi ρ rfl K hK
   have q:=he _ (G8 hi)
   have c1:∀x:Int,aZ x (max 0 es[i].num):=fun x=>.rt (by have:=q.1;omega)
   have c2:∀x:Int,aZ x (es[i].den:Int):=fun x=>.rt (by have:=q.2;omega)
   simp_arith only[ai,ac,FE,c1,c2]
   refine hK _ (bV ?_)
   unfold tpE btE
   rw[Gy hi,Iy,Iy];rfl
 · rintro ρ rfl
   rw[GH (FQ _)]
   simp_arith only[ai,ac,FE]
   refine eA (xs:=ps) (enc:=ptD) (fun i ρ=>ρ=[some (.d (ptsQ ps)),some (.d (ptD es)),some (.d (.int (tpE es))),some (.d (.int (btE es ps.length))),none,some (.d (.int (shC (ps.take i) es:Int))),some (.d (.int (opC (ps.take i) es:Int))),none,none]) rfl rfl ?_ ?_
   · rintro i hi ρ rfl K hK
     obtain⟨p4,hq⟩:=hp _ (G8 hi)
     have n1:(shC (ps.take (i+1)) es:Int)=(shC (ps.take i) es:Int)+(if C6 ps[i] es=true then 1 else 0):=by
      unfold shC
      rw[Gy hi,List.filter_append,Gg]
      by_cases c:C6 ps[i] es=true
      · rw[if_pos c,KI (by exact c)];simp
      · rw[if_neg c,KJ (by exact c)];simp
     have n2:(opC (ps.take (i+1)) es:Int)=(opC (ps.take i) es:Int)+(if Dq ps[i] es=true then 1 else 0):=by
      unfold opC
      rw[Gy hi,List.filter_append,Gg]
      by_cases c:Dq ps[i] es=true
      · rw[if_pos c,KI (by exact c)];simp
      · rw[if_neg c,KJ (by exact c)];simp
     generalize ps[i]=p at *
     have zl:(p.zip es).length<=sizeLine:=by rw[List.length_zip];omega
     have t1:=pZ (p.zip es) fun z=>decide (z.2<z.1)
     have t2:=p5 (p.zip es) fun z=>decide (z.1<z.2)
     have t1:(!(((p.zip es).map fun z=>Ic (decide (z.2<z.1))).any fun z=>z.eqv (.bool true)))=C6 p es:=t1
     have t2:(!(((p.zip es).map fun z=>Ic (decide (z.1<z.2))).any fun z=>z.eqv (.bool false)))=Dq p es:=t2
     have y1:=jf (p.zip es) fun z=>decide (z.2<z.1)
     have y2:=jf (p.zip es) fun z=>decide (z.1<z.2)
     simp_arith only[ai,ac,FE,gT]
     refine CZ (b9 (xs:=p.zip es) (enc:=fun z=>Hw [fr z.1,fr z.2]) (fun z=>.bool (decide (z.2<z.1))) rfl ?_ zl ?_)
     · rintro⟨x,e⟩ hm
       obtain⟨mx,me⟩:=IJ hm
       have h2:Df 2000 x:=(hq x mx).mono (by decide)
       have h3:Df 2000 e:=(he e me).mono (by decide)
       simp_arith only[ai,ac,DR,tW]
     simp_arith only[ai,ac,FE,gT,y1,t1]
     refine(show sq (VL.ret (Fl.nx _)) (mS _) K from ?_)
     simp_arith only[ai,ac,FE,gT]
     refine(b9 (xs:=p.zip es) (enc:=fun z=>Hw [fr z.1,fr z.2]) (fun z=>.bool (decide (z.1<z.2))) rfl ?_ zl ?_)
     · rintro⟨x,e⟩ hm
       obtain⟨mx,me⟩:=IJ hm
       have h2:Df 2000 x:=(hq x mx).mono (by decide)
       have h3:Df 2000 e:=(he e me).mono (by decide)
       simp_arith only[ai,ac,DR,tW]
     simp_arith only[ai,ac,FE,gT,y2,t2]
     refine hK _ (bV ?_)
     rw[n1,n2];rfl
   · rintro ρ rfl
     rw[GH (FQ _)]
     obtain⟨tp0,tp1,bt1⟩:=qV e4 he
     have b0:=j8 es
     have n0:(ps.length:Int)≠0:=by omega
     have cd:dW (btE es ps.length) (ps.length:Int):=xq (k:=60) n0 (by omega) (by decide)
     have ed:(btE es ps.length).fdiv (ps.length:Int)=btE es 1:=by
      rw[gh,Ih _ (by omega),Kv _ n0]
     have s60:shC ps es<60:=by have:=HG (fun p=>C6 p es) ps;unfold shC;omega
     have o60:opC ps es<60:=by have:=HG (fun p=>Dq p es) ps;unfold opC;omega
     have m1:aZ (shC ps es:Int) (btE es 1):=.lt (by omega)
     have m2:aZ (opC ps es:Int) (btE es 1):=.lt (by omega)
     have m3:aZ (tpE es) (ps.length:Int):=.rt (by omega)
     simp_arith only[ai,ac,FE,ed]
     exact ay hQ
def xG(n:Nat)(ps:List (List Rat))(C:List (List Rat))(a b:Int):Prop:=0<b/\b<2^100/\a.natAbs<2^100/\0<=qd a b/\(qd a b=0\/∃es∈C,qd a b=ov ps es\/qd a b=la ps es)/\∀es∈C,ov ps es<=qd a b/\la ps es<=qd a b
theorem sK{a:Int}(hb:0<b)(h:a<=c):qd a b<=qd c b:=by
 have e:qd c b=qd a b+qd (c-a) b:=by rw[nw _ _ hb];congr 1;omega
 have n:=sJ hb (show 0<=c-a by omega)
 rw[e]
 grind
theorem i_{a d:Int}(hb:0<b)(hd:0<d):a*d<c*b↔qd a b<qd c d:=by
 have e1:qd a b=qd (a*d) (b*d):=by
  unfold qd
  have r1:=cr hb
  have r2:=cr hd
  rw[Hm,Hm]
  grind
 have e2:qd c d=qd (c*b) (b*d):=by
  unfold qd
  have r1:=cr hb
  have r2:=cr hd
  rw[Hm,Hm]
  grind
 have hbd:=Je hb hd
 rw[e1,e2]
 constructor
 · intro h
   have h1:=sK hbd (show a*d+1<=c*b by omega)
   have h2:qd (a*d+1) (b*d)=qd (a*d) (b*d)+qd 1 (b*d):=(nw _ _ hbd).symm
   have h3:0<qd 1 (b*d):=by
    have z:qd 1 (b*d)≠0:=by
     unfold qd
     have r:=cr hbd
     have:((1:Int):Rat)=1:=rfl
     rw[this]
     intro z
     have:(1:Rat)=0:=by grind
     exact absurd this (by decide)
    have:=sJ hbd (show(0:Int)<=1 by decide)
    grind
   grind
 · intro h
   by_cases c1:a*d<c*b
   · exact c1
   · have:=sK hbd (show c*b<=a*d by omega)
     grind
def aW:List W->(FH->Prop)->Prop:=fun ws Q=>∃(ps:List (List Rat)),ws=[.d (ptsQ ps)]/\((1<=ps.length)/\(ps.length<60)/\(pdim ps<=4)/\(EN (pdim ps) ps)/\((ps.length+1)^(pdim ps)<=3000))/\Q (fr (Cu (pdim ps) ps))
theorem aW.mono:∀ws (Q Q':FH->Prop),(∀d,Q d->Q' d)->aW ws Q->aW ws Q':=fun _ _ _ h_ ⟨ps,e_,p_,q_⟩=>⟨ps,e_,p_,h_ _ q_⟩
theorem aW.len:∀ws (Q:FH->Prop),aW ws Q->ws.length=1:=fun _ _ ⟨_,e_,_⟩=>by subst e_;rfl
theorem aW.eq(ps:List (List Rat))(h1:1<=ps.length)(h60:ps.length<60)(n4:pdim ps<=4)(hp:EN (pdim ps) ps)(h3:(ps.length+1)^(pdim ps)<=3000):aW [.d (ptsQ ps)]=VL.ret (fr (Cu (pdim ps) ps):FH):=by
 refine ag fun Q=>⟨?_,fun q_=>⟨ps,rfl,⟨h1,h60,n4,hp,h3⟩,q_⟩⟩
 rintro⟨ps',e_,_,q_⟩
 simp_arith only[cR,bH,bI,aN,aM,bJ,cU,dg,cW,cJ,cI,cY,dk,cP,cX,cV,de,cT,db,c_,dj,and_assoc]at e_
 obtain rfl:=e_
 exact q_
theorem gi:FnScope ["_law_points_here", "_law_some", "_law_side", "_law_ends", "_law_point", "_law_wider", "_law_one", "_law_best", "_law_above", "_law_beneath", "_law_bottom"] ["_law_points_here"] (defScope (CA 49)):=⟨rfl,rfl,rfl,by decide +kernel,rfl,by decide +kernel,by decide +kernel⟩
theorem d__law_uneven(Fn:FnIn K mg "_law_uneven" (CA 49) ["_law_points_here"])(Z:Bz mg)(d__law_frac:∀rl,Dfn P w K mg base rl "_law_frac" ["_law_n", "_law_d"] 1 bo)(d__law_corner:∀rl,Dfn P w K mg base rl "_law_corner" ["_law_points_here", "_law_ends"] 2 br)(d__law_below:∀rl,Dfn P w K mg base rl "_law_below" ["_law_one", "_law_other"] 1 aF)   : Dfn P w K mg base rl "_law_uneven" ["_law_points_here"] 3 aW:=by
 have sc:=gi
 refine Dfn.of Fn sc (aW.mono) (aW.len) (fun cdv A outer s H E hr=>(ah (am 1 sc.nd (fg (aa (cn ab) ab)))
  (ah (bY [2,3,4,5,6] GO rfl (cy Z.range_ (aa (cE Z.len_ (aa (bW (vn 0) af) ab)) ab)) (aj 2 sc.nd) (ah (kz 3 sc.nd (fg (aa (cn (aa af (aa af ab))) ab)))
  (ah (bY [4] GO rfl (iK (vn 0)) (aj 4 sc.nd) (aq (cS (bK (fR hr.u65) mD (by with_unfolding_all rfl) (bW (vn 4) (vn 2)) (vn 3)) (aq (iH 3 (aa (bW (vn 4) (vn 2)) ab))) bT)))
  (ah (mm 3 (am 5 sc.nd (fg ab)))
  (ah (bY [6] GO rfl (bi (vn 1)) (aj 6 sc.nd) (aq (am 5 sc.nd (iQ (vn 5) (bU ["_law_end", "_law_one"] [none,some 6] rfl (bi (vn 3)) (fun _=>(aj 0 (show G1 (["_law_end", "_law_one"]:List Str) by decide +kernel))) (fun _=>bR) (fun _=>(mJ (vn 1) (cn (aa (vn 0) ab)))))))))
  (aq (am 1 sc.nd (vn 5))))))))
  (ah (am 7 sc.nd (cn (aa af (aa af ab))))
  (ah (bY [6,8,9,10] GO rfl (bi (vn 1)) (aj 6 sc.nd) (ah (mw (au (d__law_corner _) (hr.mono (by decide)) (aa (vn 0) (aa (vn 6) ab))) (fH (n:=3) rfl (aC (aj 8 sc.nd) (aC (aj 9 sc.nd) (aC (aj 10 sc.nd) dI)))))
  (aq (cS (dF (au (d__law_below _) (hr.mono (by decide)) (aa (vn 7) (aa (cn (aa (mI Z.max_ (aa (vn 8) (aa (vn 9) ab))) (aa (vn 10) ab))) ab)))) (aq (am 7 sc.nd (cn (aa (mI Z.max_ (aa (vn 8) (aa (vn 9) ab))) (aa (vn 10) ab))))) bT))))
  (aq (ax (au (d__law_frac _) (hr.mono (by decide)) (aa (bW (vn 7) af) (aa (bW (vn 7) af) ab)))))))))) ?_
 rintro ws Q ⟨ps,rfl,⟨h1,h60,n4,hp,h3⟩,hQ⟩
 refine aw ?_
 have sz:=GL
 have gn : -(2^62)<=((pdim ps:Nat):Int)/\((pdim ps:Nat):Int)<2^62:=by omega
 have e0:atI ps 0=some (ps.head?.getD []):=by
  cases ps with
  | nil=>simp at h1
  | cons p l=>exact at0 p l
 have ep:(ps.head?.getD []).length=pdim ps:=rfl
 simp_arith only[ai,ac,FE,e0,ep]
 refine dQ (fun i ρ=>∃Es:List (List Rat),ke i ps Es/\ρ=[some (.d (ptsQ ps)),some (.d (.list ((chP Es).map ptD))),none,none,none,none,none,none,none,none,none]) ⟨[],⟨rfl,fun i hi=>by omega⟩,rfl⟩ ?_ ?_
 · rintro i hi ρ ⟨Es,hE,rfl⟩ K hK
   simp_arith only[ai,ac,FE]
   refine eA (xs:=ps) (enc:=ptD) (fun j ρ=>∃E:List Rat,Fo (ps.take j) i E/\ρ=[some (.d (ptsQ ps)),some (.d (.list ((chP Es).map ptD))),some (.d (.int (0+(i:Int)))),some (.ml (E.map fr)),none,none,none,none,none,none,none]) rfl ⟨[1],⟨by simp,fun e=>by simp⟩,rfl⟩ ?_ ?_
   · rintro j hj ρ ⟨E,hEj,rfl⟩ K2 hK2
     have hpj:=hp _ (G8 hj)
     have ex:=cD (xs:=ps[j]) 0 (show(0:Int)<=0+(i:Int) by omega) (by rw[hpj.1];omega)
     rw[show(0+(i:Int)).toNat=i by omega]at ex
     have sh:=m_ (ps[j].getD i 0)
     have ly:=jV E
     have El:=hEj.1
     have Elz:E.length<sizeLine:=by rw[GG]at El;omega
     have tk:ps.take (j+1)=ps.take j++[ps[j]]:=Gy hj
     generalize ps[j]=p at *
     generalize hx_:p.getD i 0=x at *
     have ea:((E.map fr).any fun z=>z.eqv (fr x))=decide (x∈E):=by
      rw[List.any_map]
      have:(fun z=>Hi (fr z) (fr x))=fun z=>decide (z=x):=by funext z;exact eqv_fr z x
      show E.any (fun z=>Hi (fr z) (fr x))=_
      rw[this]
      by_cases m:x∈E
      · rw[decide_eq_true m,List.any_eq_true];exact⟨x,m,by simp⟩
      · rw[decide_eq_false m,List.any_eq_false];intro z mz;simp;rintro rfl;exact m mz
     by_cases m:x∈E
     · have d:=decide_eq_true m
       simp_arith only[ai,ac,FE,ex,sh,ly,ea,d]
       refine hK2 _ (bV ⟨E,⟨by rw[tk,Gg,HV];omega,fun e=>?_⟩,rfl⟩)
       rw[hEj.2 e,tk]
       constructor
       · rintro(h|⟨q,mq,h⟩)
         · exact .inl h
         · exact .inr ⟨q,HH _ mq,h⟩
       · rintro(h|⟨q,mq,h⟩)
         · exact .inl h
         · rcases Gv.mp mq with mq|mq
           · exact .inr ⟨q,mq,h⟩
           · rw[Gq.mp mq]at h
             have:=(hEj.2 e).mp (by rw[h,hx_];exact m)
             exact this
     · have d:=decide_eq_false m
       simp_arith only[ai,ac,FE,ex,sh,ly,ea,d]
       refine hK2 _ (bV ⟨E++[x],⟨by rw[tk,Gg,Gg,HV,HV];omega,fun e=>?_⟩,by simp[fo,Hd]⟩)
       rw[Gv,hEj.2 e,tk,Gq]
       constructor
       · rintro((h|⟨q,mq,h⟩)|h)
         · exact .inl h
         · exact .inr ⟨q,HH _ mq,h⟩
         · exact .inr ⟨p,FZ _ FT,by rw[h,hx_]⟩
       · rintro(h|⟨q,mq,h⟩)
         · exact .inl (.inl h)
         · rcases Gv.mp mq with mq|mq
           · exact .inl (.inr ⟨q,mq,h⟩)
           · rw[Gq.mp mq]at h
             exact .inr (by rw[h,hx_])
   · rintro ρ ⟨E,hEj,rfl⟩
     rw[GH (FQ _)]at hEj
     have El:=hEj.1
     have hE':ke (i+1) ps (Es++[E]):=⟨by simp[hE.1],fun k hk=>by
      by_cases z:k<i
      · rw[lR _ _ _ _ (by rw[hE.1];exact z)];exact hE.2 k z
      · have:k=i:=by omega
        subst this
        rw[lQ _ _ _ _ (by rw[hE.1];exact FQ _),hE.1,Li];exact hEj⟩
     have rl:((chP Es).flatMap fun b=>E.map fun t=>b++[t]).length<=3000:=by
      rw[<- eJ]
      have:=j7 (ps.length+1) (i+1) (Es++[E]) hE'.1 fun r mr=>by
       obtain⟨j,hj,rfl⟩:=Jg mr
       have:=(hE'.2 j (by rw[hE'.1]at hj;exact hj)).1
       rwa [bZ hj]at this
      have h4:(ps.length+1)^(i+1)<=(ps.length+1)^(pdim ps):=FX (by omega) (by omega)
      omega
     have hes:∀b∈chP Es,b.length=i:=fun b mb=>((fV 0 i Es hE.1 b).mp mb).1
     have cs:chP (Es++[E])=(chP Es).flatMap fun b=>E.map fun t=>b++[t]:=eJ Es E
     generalize chP Es=C at *
     simp_arith only[ai,ac,FE]
     refine eA (xs:=C) (enc:=ptD) (fun k ρ=>ρ=[some (.d (ptsQ ps)),some (.d (.list (C.map ptD))),some (.d (.int (0+(i:Int)))),some (.d (.list (E.map fr))),none,some (.d (.list (((C.take k).flatMap fun b=>E.map fun t=>b++[t]).map ptD))),none,none,none,none,none]) rfl rfl ?_ ?_
     · rintro k hk ρ rfl K2 hK2
       have bl:=hes _ (G8 hk)
       have tk:(C.take (k+1)).flatMap (fun b=>E.map fun t=>b++[t])=(C.take k).flatMap (fun b=>E.map fun t=>b++[t])++E.map fun t=>C[k]++[t]:=by rw[Gy hk,J3];simp
       have tl:((C.take k).flatMap fun b=>E.map fun t=>b++[t]).length+E.length<=sizeLine:=by
        have e1:C.flatMap (fun b=>E.map fun t=>b++[t])=(C.take (k+1)).flatMap (fun b=>E.map fun t=>b++[t])++(C.drop (k+1)).flatMap (fun b=>E.map fun t=>b++[t]):=by rw[<- J3,Lj]
        rw[e1,Gg,tk,Gg,FR]at rl
        omega
       generalize C[k]=b at *
       generalize (C.take k).flatMap (fun b=>E.map fun t=>b++[t])=T at *
       have bz:b.length+1<=sizeLine:=by omega
       simp_arith only[ai,ac,FE]
       refine b9 (xs:=E) (enc:=fr) (fun t=>ptD (b++[t])) rfl ?_ (by omega) ?_
       · intro t mt
         simp_arith only[ai,ac,DR,FE]
         simp[ptD]
       · have em:E.map (fun t=>ptD (b++[t]))=(E.map fun t=>b++[t]).map ptD:=by rw[HK];rfl
         rw[em]
         simp_arith only[ai,ac]
         refine hK2 _ (bV ?_)
         rw[tk,Hd];rfl
     · rintro ρ rfl
       rw[GH (FQ _)]
       simp_arith only[ai,ac]
       refine hK _ (bV ⟨Es++[E],hE',?_⟩)
       rw[cs];rfl
 · rintro ρ ⟨Es,hE,rfl⟩
   have hbx:∀es∈chP Es,jw (pdim ps) ps es:=fun es me=>(hE.mem es).mp me
   simp_arith only[ai,ac,FE]
   refine eA (xs:=chP Es) (enc:=ptD) (fun k ρ=>∃a b:Int,xG (pdim ps) ps ((chP Es).take k) a b/\ρ=[some (.d (ptsQ ps)),some (.d (.list ((chP Es).map ptD))),none,none,none,none,none,some (.d (pr a b)),none,none,none]) rfl ⟨0,1,⟨by decide,by decide,by decide,by rw[xN (by decide)];exact LN,.inl (xN (by decide)),by simp⟩,rfl⟩ ?_ ?_
   · rintro k hk ρ ⟨a,b,hb,rfl⟩ K hK
     have bx:=hbx _ (G8 hk)
     have tk:(chP Es).take (k+1)=(chP Es).take k++[(chP Es)[k]]:=Gy hk
     generalize (chP Es)[k]=es at *
     obtain⟨b0,b1,a1,a0,hz,hm⟩:=hb
     have he:∀e∈es,Df 20 e:=fun e me=>(uv hp bx e me).1
     have e4:es.length<=4:=by rw[bx.1];exact n4
     have hp4:∀p∈ps,p.length<=4/\∀q∈p,Df 20 q:=fun p mp=>⟨by rw[(hp p mp).1];exact n4,fun q mq=>((hp p mp).2 q mq).1⟩
     obtain⟨o1,o2⟩:=yV ps h1 es
     obtain⟨tp0,tp1,bt1⟩:=qV e4 he
     have bt0:=j8 es
     have s60:shC ps es<60:=by have:=HG (fun p=>C6 p es) ps;unfold shC;omega
     have o60:opC ps es<60:=by have:=HG (fun p=>Dq p es) ps;unfold opC;omega
     have B0:0<btE es ps.length:=by rw[gh];exact Je (by omega) bt0
     have B1:btE es ps.length<2^100:=by
      rw[gh]
      have:(ps.length:Int)*btE es 1<=60*btE es 1:=Gu (by omega) (by omega)
      omega
     have X1:((shC ps es:Int)*btE es 1-tpE es*ps.length).natAbs<2^100:=by
      have u1:(shC ps es:Int)*btE es 1<=60*btE es 1:=Gu (by omega) (by omega)
      have u2:0<=(shC ps es:Int)*btE es 1:=HB (by omega) (by omega)
      have u3:tpE es*ps.length<=tpE es*60:=G0 (by omega) tp0
      have u4:0<=tpE es*(ps.length:Int):=HB tp0 (by omega)
      omega
     have X2:(tpE es*ps.length-(opC ps es:Int)*btE es 1).natAbs<2^100:=by
      have u1:(opC ps es:Int)*btE es 1<=60*btE es 1:=Gu (by omega) (by omega)
      have u2:0<=(opC ps es:Int)*btE es 1:=HB (by omega) (by omega)
      have u3:tpE es*ps.length<=tpE es*60:=G0 (by omega) tp0
      have u4:0<=tpE es*(ps.length:Int):=HB tp0 (by omega)
      omega
     have pc:=br.eq ps es h1 h60 e4 hp4 he
     generalize (shC ps es:Int)*btE es 1-tpE es*ps.length=X at *
     generalize tpE es*ps.length-(opC ps es:Int)*btE es 1=Y at *
     generalize btE es ps.length=B at *
     have M1:(max X Y).natAbs<2^100:=by omega
     have mv:qd (max X Y) B=mx (ov ps es) (la ps es):=by
      rw[<- o1,<- o2]
      unfold mx
      by_cases c:X<Y
      · have:qd X B<qd Y B:=(i_ B0 B0).mp (Ie c B0)
        rw[if_pos this,Int.max_eq_right (by omega)]
      · have:¬qd X B<qd Y B:=fun z=>by
          have:=sK B0 (show Y<=X by omega)
          grind
        rw[if_neg this,Int.max_eq_left (by omega)]
     have lt:=i_ (a:=a) (c:=max X Y) b0 B0
     have pb:aF [.d (pr a b),.d (.tuple [.int (max X Y),.int B])]=VL.ret (.bool (decide (qd a b<qd (max X Y) B))):=by
      have l1:Fz a:=FN a1 (FX (by decide) (by decide))
      have l2:Fz B:=FN (show B.natAbs<2^100 by omega) (FX (by decide) (by decide))
      have l3:Fz (max X Y):=FN M1 (FX (by decide) (by decide))
      have l4:Fz b:=FN (show b.natAbs<2^100 by omega) (FX (by decide) (by decide))
      have:=aF.eq a b (max X Y) B (.bb l1 l2) (.bb l3 l4)
      rw[show decide (a*B<max X Y*b)=decide (qd a b<qd (max X Y) B)from decide_eq_decide.mpr lt]at this
      exact this
     by_cases hlt:qd a b<qd (max X Y) B
     · have d:=decide_eq_true hlt
       simp_arith only[ai,ac,FE,pc,pb,d]
       refine hK _ (bV ⟨max X Y,B,⟨B0,B1,M1,Rat.le_trans a0 (Mi hlt),.inr ⟨es,by rw[tk];exact FZ _ FT,?_⟩,fun fs mf=>?_⟩,rfl⟩)
       · rw[mv];unfold mx;split
         · exact .inr rfl
         · exact .inl rfl
       · rw[tk]at mf
         rcases Gv.mp mf with mf|mf
         · have:=hm fs mf;constructor<;>grind
         · rw[Gq.mp mf,mv];unfold mx;split<;>constructor<;>grind
     · have d:=decide_eq_false hlt
       simp_arith only[ai,ac,FE,pc,pb,d]
       refine hK _ (bV ⟨a,b,⟨b0,b1,a1,a0,?_,fun fs mf=>?_⟩,rfl⟩)
       · rcases hz with hz|⟨fs,mf,hz⟩
         · exact .inl hz
         · exact .inr ⟨fs,by rw[tk];exact HH _ mf,hz⟩
       · rw[tk]at mf
         rcases Gv.mp mf with mf|mf
         · exact hm fs mf
         · rw[Gq.mp mf]
           rw[mv]at hlt
           have h1:ov ps es<=mx (ov ps es) (la ps es):=by unfold mx;split<;>grind
           have h2:la ps es<=mx (ov ps es) (la ps es):=by unfold mx;split<;>grind
           constructor<;>grind
   · rintro ρ ⟨a,b,hb,rfl⟩
     rw[GH (FQ _)]at hb
     obtain⟨b0,b1,a1,a0,hz,hm⟩:=hb
     have iu:l_ (pdim ps) ps (qd a b):=by
      refine⟨?_,fun es be=>hm es ((hE.mem es).mpr be)⟩
      rcases hz with hz|⟨es,me,hz⟩
      · exact⟨_,io _ ps,.inl (by rw[nN hp h1];exact hz)⟩
      · exact⟨es,hbx es me,hz⟩
     rw[iR iu]at hQ
     have bz:b.natAbs<2^8000:=FN (show b.natAbs<2^100 by omega) (FX (by decide) (by decide))
     have i0:∀a b:Int,itemAt (pr a b) 0=some (.int a):=fun _ _=>rfl
     have i1:∀a b:Int,itemAt (pr a b) 1=some (.int b):=fun _ _=>rfl
     simp_arith only[ai,ac,FE,i0,i1,bo.eq]
     exact ay hQ
theorem xP.eq(h:ns.length<=63):xP [.sc ns]=True:=eq_true ⟨ns,rfl,h⟩
theorem yo(ρ:En):Ct (.nx ρ)=VL.ret (.nx (nR ρ)):=rfl
theorem yn(x:FH):Ct (.rt (.d x))=VL.ret (.rt (.d x)):=ag fun Q=>⟨fun⟨_,h⟩=>h,fun h=>⟨rfl,h⟩⟩
def lW(n:Nat)(os:List Int):Prop:=os.length=n/\∀o∈os,0<=o/\o<(n:Int)
theorem BN(xs:List α)(f:α->FH)(k:Nat):VL.cutD (xs.map f) (some (k:Int)) none=(xs.drop k).map f:=by
 unfold VL.cutD
 rw[HT.sIx_none,HT.sIx_nat,FR,<- List.map_drop]
 by_cases z:k<=xs.length
 · rw[Nat.min_eq_left z,GH (by simp)]
 · rw[Nat.min_eq_right (by omega),KZ (show xs.length<=xs.length by omega),KZ (show xs.length<=k by omega)];simp
theorem pJ(u:Rat)(k:Int):qd (k*u.num) u.den=u*qd k 1:=by
 have es:=jI u
 have dp:=eE u
 unfold qd at *
 rw[Hm]
 have h2:=cr dp
 generalize (u.num:Rat)=x at *
 generalize ((u.den:Int):Rat)=y at *
 generalize (k:Rat)=z at *
 have e1:((1:Int):Rat)=1:=rfl
 rw[<- es,e1]
 grind
noncomputable def D1(ps:List (List Rat))(os:List Int)(i:Nat):Rat:=(G9 i).foldl (fun g k=>mx g (Cu (pdim ps) ((os.take (k+1)).map fun o=>ps.getD o.toNat [])*qd ((k:Int)+1) 1)) 0
theorem li(ps:List (List Rat))(os:List Int)(i:Nat):D1 ps os (i+1)=mx (D1 ps os i) (Cu (pdim ps) ((os.take (i+1)).map fun o=>ps.getD o.toNat [])*qd ((i:Int)+1) 1):=by
 unfold D1;rw[Ll,Iy];rfl
theorem qh{os:List Int}(n4:n<=4)(hl:ps.length<=6)(hp:EN n ps)(ol:os.length<=6)(ho:∀o∈os,0<=o/\o<(ps.length:Int)):EL (.tuple [ptsQ ps,eN os]):=by
 have s1:Sm 6 100 (ptsQ ps):=(Sm.seq (xs:=ps.map ptD) (dp:=4) (bk:=12) (n:=6) (fun d md=>by
  obtain⟨p,mp,rfl⟩:=GJ.mp md
  exact(Sm.seq (xs:=p.map fr) (dp:=2) (bk:=2) (n:=4) (fun d md=>by
   obtain⟨q,mq,rfl⟩:=GJ.mp md
   exact xh ((hp p mp).2 q mq).1 (by decide)) (by rw[FR,(hp p mp).1];exact n4)).1) (by rw[FR];exact hl)).1.mono (by decide) (by decide)
 have s2:Sm 6 100 (eN os):=(Sm.seq (xs:=os.map GA) (dp:=0) (bk:=0) (n:=6) (fun d md=>by
  obtain⟨o,mo,rfl⟩:=GJ.mp md
  have:=ho o mo
  exact Sm.int (FN (show o.natAbs<2^4 by omega) (FX (by decide) (by decide)))) (by rw[FR];exact ol)).1.mono (by decide) (by decide)
 exact(Sm.seq (xs:=[ptsQ ps,eN os]) (dp:=6) (bk:=100) (n:=2) (fun d md=>by
  rcases Gh.mp md with rfl|md
  · exact s1
  · rw[Gq.mp md];exact s2) (by simp)).1.shw (by decide) (by decide)
theorem vJ:FnScope ["_law_script", "_law_feed_here", "_law_points_here", "_law_orders", "_law_turn", "_law_left", "_law_order", "_law_k", "_law_at", "_law_due", "_law_here", "_law_kept"] ["_law_script"] (defScope (CA 50)):=⟨rfl,rfl,rfl,by decide +kernel,rfl,by decide +kernel,by decide +kernel⟩
theorem qg(Z:Bz mg)(d__law_feed:DfnR P w K mg base "_law_feed" ["_law_script"] 2 xP)(d__law_points:∀al,DfnC P w K mg base al 8320 "_law_points" ["_law_feed_here", "_law_s", "_law_many"] 3 bj)(d__law_draw:∀al,DfnC P w K mg base al 1 "_law_draw" ["_law_feed_here", "_law_many"] 1 bq)(d__law_uneven:∀rl,Dfn P w K mg base rl "_law_uneven" ["_law_points_here"] 3 aW)(d__law_frac:∀rl,Dfn P w K mg base rl "_law_frac" ["_law_n", "_law_d"] 1 bo)(d__law_below:∀rl,Dfn P w K mg base rl "_law_below" ["_law_one", "_law_other"] 1 aF)(d_heave:∀rl,Dfn P w K mg base rl "heave" ["points", "order"] 10 di){f:Addr}(F:Fun K "law" "law" (CA 50) f fd):FnOk P w K mg base Fq 12 f fd ["_law_script"] (gE K):=by
 have sc:=vJ
 refine tJ F sc (fun cdv A outer s H E hr=>(uk 1 d__law_feed (hr.mono (by decide)) sc.nd (aa (vn 0) ab) (fun r=>(bu (ge 2 sc.nd (eL (d__law_points _) (hr.mono (by decide)) (aD (cv fun _=>(vn 1)) (aD (xu (cv fun _=>af) (eL (d__law_draw _) (hr.mono (by decide)) (aD (cv fun _=>(vn 1)) (aD (cv fun _=>af) cB)))) (aD (xu (cv fun _=>af) (eL (d__law_draw _) (hr.mono (by decide)) (aD (cv fun _=>(vn 1)) (aD (cv fun _=>af) cB)))) cB)))))
  (bu (cs fun _=>(kz 3 sc.nd (fg (aa (mF Z.tuple_ Z.range_ (aa (cE Z.len_ (aa (vn 2) ab)) ab)) ab))))
  (bu (oN 64 [4,5,6,7,8] GO rfl (ci fun _=>(cy Z.range_ (aa af ab))) (fun _=>(aj 4 sc.nd)) (bu (cs fun _=>(am 5 sc.nd (iO Z.list_ Z.range_ (aa (cE Z.len_ (aa (vn 2) ab)) ab))))
  (bu (cs fun _=>(am 6 sc.nd (cn ab)))
  (bu (oN 64 [7,8] GO rfl (ci fun _=>(cy Z.range_ (aa (cE Z.len_ (aa (vn 2) ab)) ab))) (fun _=>(aj 7 sc.nd)) (bu (ge 8 sc.nd (eL (d__law_draw _) (hr.mono (by decide)) (aD (cv fun _=>(vn 1)) (aD (cv fun _=>(cE Z.len_ (aa (vn 5) ab))) cB))))
  (bu (cs fun _=>(am 6 sc.nd (mJ (vn 6) (cn (aa (bW (vn 5) (vn 8)) ab)))))
  (e8 (cs fun _=>(am 5 sc.nd (iQ (uV (vn 5) fG (fF (vn 8))) (uV (vn 5) (fF (v_add (vn 8) af)) fG))))))))
  (e8 (cs fun _=>(iH 3 (aa (vn 6) ab))))))))
  (bu (cs fun _=>(mm 3 (bY [6,7,10,11] GO rfl (bi (vn 3)) (aj 6 sc.nd) (ah (am 9 sc.nd (cn (aa af (aa af ab))))
  (ah (bY [7,10] GO rfl (iM Z.range_ (aa af (aa (v_add (cE Z.len_ (aa (vn 2) ab)) af) ab))) (aj 7 sc.nd) (ah (am 10 sc.nd (au (d__law_uneven _) (hr.mono (by decide)) (aa (jB Z.tuple_ (aa (bU ["_law_place", "_law_points_here"] [none,some 2] rfl (iK (uW (vn 6) fG (fF (vn 7)))) (fun _=>(aj 0 (show G1 (["_law_place", "_law_points_here"]:List Str) by decide +kernel))) (fun _=>bR) (fun _=>(bW (vn 1) (vn 0)))) ab)) ab)))
  (ah (am 10 sc.nd (au (d__law_frac _) (hr.mono (by decide)) (aa (v_mul (vn 7) (bW (vn 10) af)) (aa (bW (vn 10) af) ab))))
  (aq (cS (dF (au (d__law_below _) (hr.mono (by decide)) (aa (vn 9) (aa (vn 10) ab)))) (aq (am 9 sc.nd (vn 10))) bT)))))
  (ah (am 11 sc.nd (gB (hr.mono (Gw _)) Z.repr_ (aa (cn (aa (vn 2) (aa (vn 6) ab))) ab)))
  (aq (cS (E2.pb (x6 (bK tw mC (bh _) (gB (hr.mono (Gw _)) Z.repr_ (aa (au (d_heave _) (hr.mono (by decide)) (aa (vn 2) (aa (vn 6) ab))) ab)) (gB (hr.mono (Gw _)) Z.repr_ (aa (vn 9) ab))) (uS (bK tw mC (bh _) (gB (hr.mono (Gw _)) Z.repr_ (aa (cn (aa (vn 2) (aa (vn 6) ab))) ab)) (vn 11))))) (aq (ax sM)) bT))))))))
  (e8 (cs fun _=>(ax (jC gu dE (bh _) (gB (hr.mono (Gw _)) Z.repr_ (aa (au (d_heave _) (hr.mono (by decide)) (aa (vn 2) (aa (bW (vn 3) (po af)) ab))) ab)) (gB (hr.mono (Gw _)) Z.repr_ (aa (vn 9) ab))))))))))) (by decide +kernel))) ?_
 intro ns hn
 have sz:=GL
 have pf:=xP.eq hn
 simp_arith only[ai,ac,bL,bM,aJ,aL,bN,aK,az,ae,bq.eq,pf,yo,yn]
 (with_reducible (first|refine aA fun s0 hs0=>?_|refine aT fun s0 hs0=>?_))
 have s1:1<=1+s0:=by omega
 have s4:1+s0<=4:=by omega
 have s2:1+s0<=2:=by omega
 generalize 1+s0=s at *
 try simp_arith only[ai,ac,bL,bM,aJ,aL,bN,aK,az,ae,bq.eq]
 (with_reducible (first|refine aA fun m0 hm0=>?_|refine aT fun m0 hm0=>?_))
 have m1:1<=1+m0:=by omega
 have m6:1+m0<=6:=by omega
 have m40:1+m0<=40:=by omega
 generalize 1+m0=m at *
 simp_arith only[ai,ac,bL,bM,aJ,aL,bN,aK,az,ae,bq.eq,bj.eq]
 (with_reducible (first|refine aA fun ps hps=>?_|refine aT fun ps hps=>?_))
 obtain⟨hp,pl⟩:=hps
 have p1:1<=ps.length:=by omega
 have p6:ps.length<=6:=by omega
 have pd:=d9 hp p1
 have gl : -(2^62)<=(ps.length:Int)/\(ps.length:Int)<2^62:=by omega
 simp_arith only[ai,ac,bL,bM,aJ,aL,bN,aK,az,ae,FE]
 have o0:lW ps.length (jy 0 ps.length):=⟨bP _ _,fun o mo=>by have:=qj.mp mo;omega⟩
 refine dQ (fun i ρ=>∃oss:List (List Int),oss.length=i+1/\(∀os∈oss,lW ps.length os)/\ρ=[some (.sc ns),some .reel,some (.d (ptsQ ps)),some (.ml (oss.map eN)),none,none,none,none,none,none,none,none]) ⟨[jy 0 ps.length],rfl,by simpa using o0,by rw[cK];rfl⟩ ?_ ?_
 · rintro i hi ρ ⟨oss,ol,ho,rfl⟩ K hK
   simp_arith only[ai,ac,bL,bM,aJ,aL,bN,aK,az,ae,FE]
   refine dQ (fun j ρ=>∃(l os:List Int),l.length+j=ps.length/\os.length=j/\(∀x∈l,0<=x/\x<(ps.length:Int))/\(∀x∈os,0<=x/\x<(ps.length:Int))/\ρ=[some (.sc ns),some .reel,some (.d (ptsQ ps)),some (.ml (oss.map eN)),some (.d (.int (0+(i:Int)))),some (.d (.list (l.map .int))),some (.d (eN os)),none,none,none,none,none]) ⟨jy 0 ps.length,[],by rw[bP];omega,rfl,fun x mx=>by have:=qj.mp mx;omega,by simp,by rw[cK];rfl⟩ ?_ ?_
   · rintro j hj ρ ⟨l,os,hl,hos,hl2,ho2,rfl⟩ K2 hK2
     have l0:(0:Int)<(l.length:Int):=by omega
     have l1:(l.length:Int)<2^60:=by omega
     simp_arith only[ai,ac,bL,bM,aJ,aL,bN,aK,az,ae,bq.eq,FE]
     (with_reducible (first|refine aA fun z hz=>?_|refine aT fun z hz=>?_))
     have ez:=cD (xs:=l) 0 hz.1 hz.2
     have ez2:atI (l.map GA) z=some (.int (l.getD z.toNat 0)):=by rw[atI_map,ez];rfl
     have zt:z=((z.toNat:Nat):Int):=by have:=hz.1;omega
     have c1:=xV l GA z.toNat
     have c2:=BN l GA (z.toNat+1)
     rw[<- zt]at c1
     rw[show((z.toNat+1:Nat):Int)=z+1 by omega]at c2
     have g1:(os.map GA).length+1<=sizeLine:=by rw[FR];omega
     have g1':os.length+1<=sizeLine:=by omega
     have g2:(l.take z.toNat).length+(l.drop (z.toNat+1)).length<=sizeLine:=by rw[GG,JF];omega
     simp_arith only[ai,ac,bL,bM,aJ,aL,bN,aK,az,ae,FE,FB,ez2,c1,c2]
     refine hK2 _ (bV ⟨l.take z.toNat++l.drop (z.toNat+1),os++[l.getD z.toNat 0],?_,by simp[hos],fun x mx=>?_,fun x mx=>?_,?_⟩)
     · rw[Gg,GG,JF];have:=hz.2;omega
     · rcases Gv.mp mx with h|h
       · exact hl2 x (IW h)
       · exact hl2 x (List.mem_of_mem_drop h)
     · rcases Gv.mp mx with h|h
       · exact ho2 x h
       · rw[Gq.mp h];exact hl2 _ (VL.getD_mem (by have:=hz.2;omega))
     · simp[fo,Hd,eN]
   · rintro ρ ⟨l,os,hl,hos,hl2,ho2,rfl⟩
     have oz:oss.length<sizeLine:=by omega
     simp_arith only[ai,ac,bL,bM,aJ,aL,bN,aK,az,ae]
     refine hK _ (bV ⟨oss++[os],by simp[ol],fun x mx=>?_,by simp[fo,Hd]⟩)
     rcases Gv.mp mx with h|h
     · exact ho x h
     · rw[Gq.mp h];exact⟨hos,ho2⟩
 · rintro ρ ⟨oss,ol,ho,rfl⟩
   have oz:oss.length<=sizeLine:=by omega
   simp_arith only[ai,ac,bL,bM,aJ,aL,bN,aK,az,ae]
   have H0':∀P:List (List Rat),EN s.toNat P->1<=P.length->P.length<=6->1<=P.length/\P.length<60/\pdim P<=4/\EN (pdim P) P:=fun P h a b=>⟨a,by omega,by rw[d9 h a];omega,by rw[d9 h a];exact h⟩
   have n2:pdim ps<=2:=by omega
   have hpd:EN (pdim ps) ps:=by rw[pd];exact hp
   have hvs:∀os,lW ps.length os->∀i,i<=ps.length->Df 200 (D1 ps os i)/\∀(hi:i<ps.length),∃u,Cu (pdim ps) ((os.take (i+1)).map fun o=>ps.getD o.toNat [])=u/\Df 150 u:=fun os hos i=>by
    have key:∀i,i<ps.length->∃u,Cu (pdim ps) ((os.take (i+1)).map fun o=>ps.getD o.toNat [])=u/\Df 150 u:=fun i hi=>by
     have sp:=jE hpd hos.2 (i+1)
     have sl:((os.take (i+1)).map fun o=>ps.getD o.toNat []).length=i+1:=by rw[FR,GG];have:=hos.1;omega
     obtain⟨u,hu⟩:=ve sp (by omega)
     exact⟨u,iR hu,(va sp (by omega) (by omega) (by omega) hu).1⟩
    induction i with
    | zero=>exact fun _=>⟨Dj.mono (by decide),fun hi=>key 0 hi⟩
    | succ i ih =>
      intro hi
      refine⟨?_,fun hi=>key _ hi⟩
      obtain⟨u,eu,um⟩:=key i (by omega)
      rw[li,eu]
      exact jO (ih (by omega)).1 ((kX um (i9 (k:=20) (by decide) (by omega) (by decide))).mono (by decide))
   have hve:∀os,lW ps.length os->D0 ps os=D1 ps os ps.length:=fun os hos=>by unfold D0 D1;rw[hos.1]
   have phv:∀os,lW ps.length os->di [.d (ptsQ ps),.d (eN os)]=VL.ret (fr (D1 ps os ps.length)):=fun os hos=>by
    rw[<- hve os hos]
    exact di.eq ps os p1 (by omega) (by omega) hpd (by omega) n2 hos.2 (by have:=hos.1;omega)
   have swh:∀os,lW ps.length os->EL (fr (D1 ps os ps.length)):=fun os hos=>xa (hvs os hos _ (FQ _)).1 (by decide)
   refine eA (xs:=oss) (enc:=eN) (fun i ρ=>∃o:Option W,(∀h:0<i,∀h2:i<=oss.length,o=some (.d (fr (D1 ps (oss[i-1]'(by omega)) ps.length))))/\ρ=[some (.sc ns),some .reel,some (.d (ptsQ ps)),some (.d (.list (oss.map eN))),none,none,none,none,none,o,none,none]) rfl ⟨none,fun h=>by omega,rfl⟩ ?_ ?_
   · rintro i hi ρ ⟨o,_,rfl⟩ K hK
     have hos:=ho _ (G8 hi)
     generalize hO:oss[i]=os at *
     have go : -(2^62)<=(ps.length:Int)+1/\(ps.length:Int)+1<2^62:=by omega
     have go1 : -(2^62)<=(1:Int)/\(1:Int)<2^62:=by omega
     have et:((ps.length:Int)+1-1).toNat=ps.length:=by omega
     simp_arith only[ai,ac,bL,bM,aJ,aL,bN,aK,az,ae,FE,et]
     refine dQ (fun k ρ=>ρ=[some (.sc ns),some .reel,some (.d (ptsQ ps)),some (.d (.list (oss.map eN))),none,none,some (.d (eN os)),none,none,some (.d (fr (D1 ps os k))),none,none]) rfl ?_ ?_
     · rintro k hk ρ rfl K2 hK2
       have sp:=jE hp hos.2 (k+1)
       have sl:((os.take (k+1)).map fun o=>ps.getD o.toNat []).length=k+1:=by rw[FR,GG];have:=hos.1;omega
       have ek:(1:Int)+(k:Int)=((k+1:Nat):Int):=by omega
       have e1:((k+1:Nat):Int)=(k:Int)+1:=by omega
       have ec:=xV os GA (k+1)
       obtain⟨gsm,hux⟩:=hvs os hos k (by omega)
       obtain⟨u,eu,um⟩:=hux hk
       have fs:=li ps os k
       rw[eu]at fs
       rw[ek]
       simp_arith only[ai,ac,bL,bM,aJ,aL,bN,aK,az,ae,FB,ec]
       refine CZ (b9 (xs:=os.take (k+1)) (enc:=GA) (fun o=>ptD (ps.getD o.toNat [])) rfl ?_ (by rw[GG];have:=hos.1;omega) ?_)
       · intro o mo
         have oo:=hos.2 o (IW mo)
         have e:=cD (xs:=ps) [] oo.1 oo.2
         simp_arith only[ai,ac,DR,FE,e]
       have em:(os.take (k+1)).map (fun o=>ptD (ps.getD o.toNat []))=((os.take (k+1)).map fun o=>ps.getD o.toNat []).map ptD:=by rw[HK];rfl
       rw[em]
       obtain⟨a1,a2,a3,a4⟩:=H0' _ sp (by omega) (by omega)
       have pdP:=d9 sp a1
       rw[<- pd]at pdP
       generalize hP:(os.take (k+1)).map (fun o=>ps.getD o.toNat [])=P at *
       have g3:(P.length+1)^(pdim P)<=3000:=by
        rw[pdP,sl]
        refine GI (FX (by omega) n2) ?_
        have:(k+1+1)^2<=8^2:=Nat.pow_le_pow_left (by omega) 2
        omega
       have pz:(P.map ptD).length<=sizeLine:=by rw[FR];omega
       have pu:aW [.d (ptsQ P)]=VL.ret (fr u):=by
        have:=aW.eq P a1 a2 a3 a4 g3
        rw[pdP,eu]at this
        exact this
       have ck:∀x:Int,aZ ((k+1:Nat):Int) x:=fun x=>.lt (by omega)
       have dp:=eE u
       have bz:(u.den:Int).natAbs<2^8000:=by rw[Hq];exact FN um.2 (FX (by decide) (by decide))
       have qt:=pJ u ((k+1:Nat):Int)
       have s3:Df 2000 (u*qd ((k+1:Nat):Int) 1):=(kX um (i9 (k:=20) (by decide) (by omega) (by decide))).mono (by decide)
       have s5:Df 2000 (D1 ps os k):=gsm.mono (by decide)
       rw[<- e1]at fs
       simp_arith only[ai,ac,bL,bM,aJ,aL,bN,aK,az,ae,FE,vV,pu,ck,bo.eq,qt,tW]
       refine hK2 _ (bV ?_)
       have ei:(if decide (D1 ps os k<u*qd ((k+1:Nat):Int) 1)=true then fr (u*qd ((k+1:Nat):Int) 1)else fr (D1 ps os k))=fr (D1 ps os (k+1)):=by
        rw[fs]
        unfold mx
        by_cases c:D1 ps os k<u*qd ((k+1:Nat):Int) 1
        · rw[if_pos c,if_pos (decide_eq_true c)]
        · rw[if_neg c,if_neg (fun z=>c (of_decide_eq_true z))]
       rw[ei];rfl
     · rintro ρ rfl
       have sw:=qh (show s.toNat<=4 by omega) p6 hp (by have:=hos.1;omega) hos.2
       have ph:=phv os hos
       have sw2:=swh os hos
       simp_arith only[ai,ac,bL,bM,aJ,aL,bN,aK,az,ae,ph]
       refine hK _ (bV ⟨_,fun _ h2=>?_,rfl⟩)
       rw[<- hO]
       rfl
   · rintro ρ ⟨o,hho,rfl⟩
     have e:=hho (by omega) (FQ _)
     subst e
     have hos:=ho _ (G8 (show oss.length-1<oss.length by omega))
     have el:atI oss (-1)=some (oss[oss.length-1]'(by omega)):=by
      unfold L2.atI
      have e:ixN oss.length (-1)=some (oss.length-1):=by
       unfold ixN
       rw[if_neg (by decide),if_pos (by omega)]
       congr 1
       omega
      rw[e]
      exact GB _
     generalize oss[oss.length-1]'(by omega)=os at *
     have ph:=phv os hos
     have sw2:=swh os hos
     have ei:itemAt (.list (oss.map eN)) (-1)=some (eN os):=by show atI (oss.map eN) (-1)=_;rw[atI_map,el];rfl
     simp_arith only[ai,ac,bL,bM,aJ,aL,bN,aK,az,ae,ei,ph]
     exact tX
structure Txt (K:Iz) (mg:Str->Option Value):Prop where
 bz:Bz mg
 f__law_feed:FnIn K mg "_law_feed" (CA 42) ["_law_script"]
 f__law_draw:FnIn K mg "_law_draw" (CA 43) ["_law_feed_here", "_law_many"]
 f_common_divisor:FnIn K mg "common_divisor" (CA 7) ["one", "other"]
 f_fraction:FnIn K mg "fraction" (CA 8) ["top", "bottom"]
 f_plus:FnIn K mg "plus" (CA 9) ["one", "other"]
 f_less:FnIn K mg "less" (CA 10) ["one", "other"]
 f_times:FnIn K mg "times" (CA 11) ["one", "other"]
 f_is_below:FnIn K mg "is_below" (CA 12) ["one", "other"]
 f_lesser:FnIn K mg "lesser" (CA 13) ["one", "other"]
 f_greater:FnIn K mg "greater" (CA 14) ["one", "other"]
 f_in_size:FnIn K mg "in_size" (CA 15) ["some"]
 f_side_size:FnIn K mg "side_size" (CA 17) ["side"]
 f_goes_ahead:FnIn K mg "goes_ahead" (CA 18) ["one", "other", "may_meet"]
 f_lies:FnIn K mg "lies" (CA 19) ["x", "side", "way"]
 f_sides_of:FnIn K mg "sides_of" (CA 21) ["points"]
 f_numbers_at:FnIn K mg "numbers_at" (CA 22) ["points", "side"]
 f_side_looks:FnIn K mg "side_looks" (CA 26) ["numbers", "family"]
 f_many_side_looks:FnIn K mg "many_side_looks" (CA 27) ["many", "family"]
 f_many_looks:FnIn K mg "many_looks" (CA 28) ["points", "family"]
 f_looks_by_side:FnIn K mg "looks_by_side" (CA 29) ["points", "family"]
 f_marked:FnIn K mg "marked" (CA 30) ["numbers", "look"]
 f_widened:FnIn K mg "widened" (CA 31) ["row", "mark"]
 f_counted_looks:FnIn K mg "counted_looks" (CA 32) ["points", "family"]
 f_misses:FnIn K mg "misses" (CA 33) ["points", "family"]
 f_first_greatest:FnIn K mg "first_greatest" (CA 34) ["rows"]
 f_worst:FnIn K mg "worst" (CA 35) ["points", "family"]
 f_unevenness:FnIn K mg "unevenness" (CA 36) ["points", "family"]
 f_times_many:FnIn K mg "times_many" (CA 38) ["number", "many"]
 f_heave:FnIn K mg "heave" (CA 40) ["points", "order"]
 f__law_frac:FnIn K mg "_law_frac" (CA 44) ["_law_n", "_law_d"]
 f__law_below:FnIn K mg "_law_below" (CA 45) ["_law_one", "_law_other"]
 f__law_number:FnIn K mg "_law_number" (CA 46) ["_law_feed_here"]
 f__law_points:FnIn K mg "_law_points" (CA 47) ["_law_feed_here", "_law_s", "_law_many"]
 f__law_corner:FnIn K mg "_law_corner" (CA 48) ["_law_points_here", "_law_ends"]
 f__law_uneven:FnIn K mg "_law_uneven" (CA 49) ["_law_points_here"]
 g_BELOW_ALL:GlD K mg "BELOW_ALL" (pr (-1) 1)
 g_MOST_LOOKS:GlD K mg "MOST_LOOKS" (.int 3000)
 g_ZERO:GlD K mg "ZERO" (pr 0 1)
 g_ONE:GlD K mg "ONE" (pr 1 1)
theorem wE{f:Addr}(F:Fun K "law" "law" (CA 50) f fd)(T:Txt K mg)  : FnOk P w K mg base Fq 12 f fd ["_law_script"] (gE K):=by
 have d__law_feed:DfnR P w K mg base "_law_feed" ["_law_script"] 2 xP:=K81.d__law_feed T.f__law_feed T.bz   
 have d__law_draw:∀al,DfnC P w K mg base al 1 "_law_draw" ["_law_feed_here", "_law_many"] 1 bq:=fun rl=>K81.d__law_draw T.f__law_draw T.bz   
 have d_common_divisor:∀rl,Dfn P w K mg base rl "common_divisor" ["one", "other"] 1 aI:=fun rl=>K81.d_common_divisor T.f_common_divisor T.bz   
 have d_fraction:∀rl,Dfn P w K mg base rl "fraction" ["top", "bottom"] 2 bv:=fun rl=>K81.d_fraction T.f_fraction T.bz d_common_divisor  
 have d_plus:∀rl,Dfn P w K mg base rl "plus" ["one", "other"] 3 fP:=fun rl=>K81.d_plus T.f_plus T.bz d_fraction  
 have d_less:∀rl,Dfn P w K mg base rl "less" ["one", "other"] 3 eY:=fun rl=>K81.d_less T.f_less T.bz d_fraction  
 have d_times:∀rl,Dfn P w K mg base rl "times" ["one", "other"] 3 dh:=fun rl=>K81.d_times T.f_times T.bz d_fraction  
 have d_is_below:∀rl,Dfn P w K mg base rl "is_below" ["one", "other"] 1 a_:=fun rl=>K81.d_is_below T.f_is_below T.bz   
 have d_lesser:∀rl,Dfn P w K mg base rl "lesser" ["one", "other"] 2 cN:=fun rl=>K81.d_lesser T.f_lesser T.bz d_is_below  
 have d_greater:∀rl,Dfn P w K mg base rl "greater" ["one", "other"] 2 cg:=fun rl=>K81.d_greater T.f_greater T.bz d_is_below  
 have d_in_size:∀rl,Dfn P w K mg base rl "in_size" ["some"] 1 cf:=fun rl=>K81.d_in_size T.f_in_size T.bz   
 have d_side_size:∀rl,Dfn P w K mg base rl "side_size" ["side"] 4 bO:=fun rl=>K81.d_side_size T.f_side_size T.bz d_greater d_less d_lesser d_plus T.g_ZERO T.g_ONE 
 have d_goes_ahead:∀rl,Dfn P w K mg base rl "goes_ahead" ["one", "other", "may_meet"] 2 bG:=fun rl=>K81.d_goes_ahead T.f_goes_ahead T.bz d_is_below  
 have d_lies:∀rl,Dfn P w K mg base rl "lies" ["x", "side", "way"] 3 fQ:=fun rl=>K81.d_lies T.f_lies T.bz d_goes_ahead  
 have d_sides_of:∀rl,Dfn P w K mg base rl "sides_of" ["points"] 1 bQ:=fun rl=>K81.d_sides_of T.f_sides_of T.bz   
 have d_numbers_at:∀rl,Dfn P w K mg base rl "numbers_at" ["points", "side"] 2 bg:=fun rl=>K81.d_numbers_at T.f_numbers_at T.bz d_in_size  
 have d_side_looks:∀rl,Dfn P w K mg base rl "side_looks" ["numbers", "family"] 2 bE:=fun rl=>K81.d_side_looks T.f_side_looks T.bz d_is_below T.g_ONE T.g_BELOW_ALL 
 have d_many_side_looks:∀rl,Dfn P w K mg base rl "many_side_looks" ["many", "family"] 1 aB:=fun rl=>K81.d_many_side_looks T.f_many_side_looks T.bz   
 have d_many_looks:∀rl,Dfn P w K mg base rl "many_looks" ["points", "family"] 3 bF:=fun rl=>K81.d_many_looks T.f_many_looks T.bz d_sides_of d_many_side_looks d_numbers_at  
 have d_looks_by_side:∀rl,Dfn P w K mg base rl "looks_by_side" ["points", "family"] 4 aQ:=fun rl=>K81.d_looks_by_side T.f_looks_by_side T.bz d_many_looks d_side_looks d_numbers_at d_sides_of T.g_MOST_LOOKS 
 have d_marked:∀rl,Dfn P w K mg base rl "marked" ["numbers", "look"] 5 cM:=fun rl=>K81.d_marked T.f_marked T.bz d_lies d_side_size  
 have d_widened:∀rl,Dfn P w K mg base rl "widened" ["row", "mark"] 4 cA:=fun rl=>K81.d_widened T.f_widened T.bz d_times  
 have d_counted_looks:∀rl,Dfn P w K mg base rl "counted_looks" ["points", "family"] 6 aR:=fun rl=>K81.d_counted_looks T.f_counted_looks T.bz d_looks_by_side d_marked d_widened T.g_ONE 
 have d_misses:∀rl,Dfn P w K mg base rl "misses" ["points", "family"] 7 cL:=fun rl=>K81.d_misses T.f_misses T.bz d_counted_looks d_less d_fraction  
 have d_first_greatest:∀rl,Dfn P w K mg base rl "first_greatest" ["rows"] 2 aH:=fun rl=>K81.d_first_greatest T.f_first_greatest T.bz d_is_below  
 have d_worst:∀rl,Dfn P w K mg base rl "worst" ["points", "family"] 8 dO:=fun rl=>K81.d_worst T.f_worst T.bz d_first_greatest d_misses  
 have d_unevenness:∀rl,Dfn P w K mg base rl "unevenness" ["points", "family"] 9 bc:=fun rl=>K81.d_unevenness T.f_unevenness T.bz d_worst  
 have d_times_many:∀rl,Dfn P w K mg base rl "times_many" ["number", "many"] 4 bD:=fun rl=>K81.d_times_many T.f_times_many T.bz d_times  
 have d_heave:∀rl,Dfn P w K mg base rl "heave" ["points", "order"] 10 di:=fun rl=>K81.d_heave T.f_heave T.bz d_greater d_times_many d_unevenness T.g_ZERO 
 have d__law_frac:∀rl,Dfn P w K mg base rl "_law_frac" ["_law_n", "_law_d"] 1 bo:=fun rl=>K81.d__law_frac T.f__law_frac T.bz   
 have d__law_below:∀rl,Dfn P w K mg base rl "_law_below" ["_law_one", "_law_other"] 1 aF:=fun rl=>K81.d__law_below T.f__law_below T.bz   
 have d__law_number:∀al,DfnC P w K mg base al 2 "_law_number" ["_law_feed_here"] 2 bm:=fun rl=>K81.d__law_number T.f__law_number T.bz d__law_frac d__law_draw  
 have d__law_points:∀al,DfnC P w K mg base al 8320 "_law_points" ["_law_feed_here", "_law_s", "_law_many"] 3 bj:=fun rl=>K81.d__law_points T.f__law_points T.bz d__law_number d__law_draw  
 have d__law_corner:∀rl,Dfn P w K mg base rl "_law_corner" ["_law_points_here", "_law_ends"] 2 br:=fun rl=>K81.d__law_corner T.f__law_corner T.bz d__law_below  
 have d__law_uneven:∀rl,Dfn P w K mg base rl "_law_uneven" ["_law_points_here"] 3 aW:=fun rl=>K81.d__law_uneven T.f__law_uneven T.bz d__law_frac d__law_corner d__law_below  
 exact qg T.bz d__law_feed d__law_points d__law_draw d__law_uneven d__law_frac d__law_below d_heave   F
end
theorem aG{K:Iz}(X:K.In h)(G:h.Ns GQ mg){st:Stmt}{ps:List Str}{f:Addr}{oc kV dc pm cd ct:Value}{od an:Option Addr}{sl:Array (Option Value)}(a:Mk K GQ x=some (some (.ref f)))(l:K.lookup f=some ⟨oc,od,.func (Ml x x (defArgs st) (defBody st) (defScope st) .none kV dc pm an cd ct),sl⟩)(c:F_ K cd x=true)(k:Ga K (.ref f)=true)(hb:∀(kV doc pm:Value)(an:Option Addr)(cdv ct:Value)(us:List Value),us.length=ps.length->bindArgs (Ml x x (defArgs st) (defBody st) (defScope st) .none kV doc pm an cdv ct) ⟨us,[]⟩=pure (ps.zip us)):FnIn K mg x st ps:=⟨⟨f,_,PySem.W.mg_of X G a,oy l c k,(oy l c k).binds hb⟩⟩
abbrev NI(K:Iz)(x:Str)(f:Addr):Prop:=Mk K GQ x=some (some (.ref f))
abbrev NZ(K:Iz)(x:Str):Prop:=Mk K GQ x=some none
abbrev LK(K:Iz)(x:Str)(st:Stmt)(f:Addr)(oc:Value)(od:Option Addr)(kV dc pm:Value)(an:Option Addr)(cd ct:Value)(sl:Array (Option Value)):Prop:=K.lookup f=some ⟨oc,od,.func (Ml x x (defArgs st) (defBody st) (defScope st) .none kV dc pm an cd ct),sl⟩
theorem all_mk{l:Lm}{w:G5}{K:Iz}{fa:Addr}(X:K.In h)(G:h.Ns GQ mg)(hfa:mg "law" = some (.ref fa))
 {f1 f2 f3 f4 f5 f6 f7 f8 f9 f10 f11 f12 f13 f14 f15 f16 f17 f18 f19 f20 f21 f22 f23 f24 f25 f26 f27 f28 f29 f30 f31 f32 f33 f34 f35 f36:Addr}{od1 an1 od2 an2 od3 an3 od4 an4 od5 an5 od6 an6 od7 an7 od8 an8 od9 an9 od10 an10 od11 an11 od12 an12 od13 an13 od14 an14 od15 an15 od16 an16 od17 an17 od18 an18 od19 an19 od20 an20 od21 an21 od22 an22 od23 an23 od24 an24 od25 an25 od26 an26 od27 an27 od28 an28 od29 an29 od30 an30 od31 an31 od32 an32 od33 an33 od34 an34 od35 an35 od36 an36:Option Addr}{sl1 sl2 sl3 sl4 sl5 sl6 sl7 sl8 sl9 sl10 sl11 sl12 sl13 sl14 sl15 sl16 sl17 sl18 sl19 sl20 sl21 sl22 sl23 sl24 sl25 sl26 sl27 sl28 sl29 sl30 sl31 sl32 sl33 sl34 sl35 sl36:Array (Option Value)}{oc1 kV1 dc1 pm1 cd1 ct1 oc2 kV2 dc2 pm2 cd2 ct2 oc3 kV3 dc3 pm3 cd3 ct3 oc4 kV4 dc4 pm4 cd4 ct4 oc5 kV5 dc5 pm5 cd5 ct5 oc6 kV6 dc6 pm6 cd6 ct6 oc7 kV7 dc7 pm7 cd7 ct7 oc8 kV8 dc8 pm8 cd8 ct8 oc9 kV9 dc9 pm9 cd9 ct9 oc10 kV10 dc10 pm10 cd10 ct10 oc11 kV11 dc11 pm11 cd11 ct11 oc12 kV12 dc12 pm12 cd12 ct12 oc13 kV13 dc13 pm13 cd13 ct13 oc14 kV14 dc14 pm14 cd14 ct14 oc15 kV15 dc15 pm15 cd15 ct15 oc16 kV16 dc16 pm16 cd16 ct16 oc17 kV17 dc17 pm17 cd17 ct17 oc18 kV18 dc18 pm18 cd18 ct18 oc19 kV19 dc19 pm19 cd19 ct19 oc20 kV20 dc20 pm20 cd20 ct20 oc21 kV21 dc21 pm21 cd21 ct21 oc22 kV22 dc22 pm22 cd22 ct22 oc23 kV23 dc23 pm23 cd23 ct23 oc24 kV24 dc24 pm24 cd24 ct24 oc25 kV25 dc25 pm25 cd25 ct25 oc26 kV26 dc26 pm26 cd26 ct26 oc27 kV27 dc27 pm27 cd27 ct27 oc28 kV28 dc28 pm28 cd28 ct28 oc29 kV29 dc29 pm29 cd29 ct29 oc30 kV30 dc30 pm30 cd30 ct30 oc31 kV31 dc31 pm31 cd31 ct31 oc32 kV32 dc32 pm32 cd32 ct32 oc33 kV33 dc33 pm33 cd33 ct33 oc34 kV34 dc34 pm34 cd34 ct34 oc35 kV35 dc35 pm35 cd35 ct35 oc36 kV36 dc36 pm36 cd36 ct36:Value}
 (a1:NI K "_law_feed" f1)(l1:LK K "_law_feed" (CA 42) f1 oc1 od1 kV1 dc1 pm1 an1 cd1 ct1 sl1)(c1:F_ K cd1 "_law_feed" = true)(k1:Ga K (.ref f1)=true)(a2:NI K "_law_draw" f2)(l2:LK K "_law_draw" (CA 43) f2 oc2 od2 kV2 dc2 pm2 an2 cd2 ct2 sl2)(c2:F_ K cd2 "_law_draw" = true)(k2:Ga K (.ref f2)=true)(a3:NI K "common_divisor" f3)(l3:LK K "common_divisor" (CA 7) f3 oc3 od3 kV3 dc3 pm3 an3 cd3 ct3 sl3)(c3:F_ K cd3 "common_divisor" = true)(k3:Ga K (.ref f3)=true)(a4:NI K "fraction" f4)(l4:LK K "fraction" (CA 8) f4 oc4 od4 kV4 dc4 pm4 an4 cd4 ct4 sl4)(c4:F_ K cd4 "fraction" = true)(k4:Ga K (.ref f4)=true)(a5:NI K "plus" f5)(l5:LK K "plus" (CA 9) f5 oc5 od5 kV5 dc5 pm5 an5 cd5 ct5 sl5)(c5:F_ K cd5 "plus" = true)(k5:Ga K (.ref f5)=true)(a6:NI K "less" f6)(l6:LK K "less" (CA 10) f6 oc6 od6 kV6 dc6 pm6 an6 cd6 ct6 sl6)(c6:F_ K cd6 "less" = true)(k6:Ga K (.ref f6)=true)(a7:NI K "times" f7)(l7:LK K "times" (CA 11) f7 oc7 od7 kV7 dc7 pm7 an7 cd7 ct7 sl7)(c7:F_ K cd7 "times" = true)(k7:Ga K (.ref f7)=true)(a8:NI K "is_below" f8)(l8:LK K "is_below" (CA 12) f8 oc8 od8 kV8 dc8 pm8 an8 cd8 ct8 sl8)(c8:F_ K cd8 "is_below" = true)(k8:Ga K (.ref f8)=true)(a9:NI K "lesser" f9)(l9:LK K "lesser" (CA 13) f9 oc9 od9 kV9 dc9 pm9 an9 cd9 ct9 sl9)(c9:F_ K cd9 "lesser" = true)(k9:Ga K (.ref f9)=true)(a10:NI K "greater" f10)(l10:LK K "greater" (CA 14) f10 oc10 od10 kV10 dc10 pm10 an10 cd10 ct10 sl10)(c10:F_ K cd10 "greater" = true)(k10:Ga K (.ref f10)=true)(a11:NI K "in_size" f11)(l11:LK K "in_size" (CA 15) f11 oc11 od11 kV11 dc11 pm11 an11 cd11 ct11 sl11)(c11:F_ K cd11 "in_size" = true)(k11:Ga K (.ref f11)=true)(a12:NI K "side_size" f12)(l12:LK K "side_size" (CA 17) f12 oc12 od12 kV12 dc12 pm12 an12 cd12 ct12 sl12)(c12:F_ K cd12 "side_size" = true)(k12:Ga K (.ref f12)=true)(a13:NI K "goes_ahead" f13)(l13:LK K "goes_ahead" (CA 18) f13 oc13 od13 kV13 dc13 pm13 an13 cd13 ct13 sl13)(c13:F_ K cd13 "goes_ahead" = true)(k13:Ga K (.ref f13)=true)(a14:NI K "lies" f14)(l14:LK K "lies" (CA 19) f14 oc14 od14 kV14 dc14 pm14 an14 cd14 ct14 sl14)(c14:F_ K cd14 "lies" = true)(k14:Ga K (.ref f14)=true)(a15:NI K "sides_of" f15)(l15:LK K "sides_of" (CA 21) f15 oc15 od15 kV15 dc15 pm15 an15 cd15 ct15 sl15)(c15:F_ K cd15 "sides_of" = true)(k15:Ga K (.ref f15)=true)(a16:NI K "numbers_at" f16)(l16:LK K "numbers_at" (CA 22) f16 oc16 od16 kV16 dc16 pm16 an16 cd16 ct16 sl16)(c16:F_ K cd16 "numbers_at" = true)(k16:Ga K (.ref f16)=true)(a17:NI K "side_looks" f17)(l17:LK K "side_looks" (CA 26) f17 oc17 od17 kV17 dc17 pm17 an17 cd17 ct17 sl17)(c17:F_ K cd17 "side_looks" = true)(k17:Ga K (.ref f17)=true)(a18:NI K "many_side_looks" f18)(l18:LK K "many_side_looks" (CA 27) f18 oc18 od18 kV18 dc18 pm18 an18 cd18 ct18 sl18)(c18:F_ K cd18 "many_side_looks" = true)(k18:Ga K (.ref f18)=true)(a19:NI K "many_looks" f19)(l19:LK K "many_looks" (CA 28) f19 oc19 od19 kV19 dc19 pm19 an19 cd19 ct19 sl19)(c19:F_ K cd19 "many_looks" = true)(k19:Ga K (.ref f19)=true)(a20:NI K "looks_by_side" f20)(l20:LK K "looks_by_side" (CA 29) f20 oc20 od20 kV20 dc20 pm20 an20 cd20 ct20 sl20)(c20:F_ K cd20 "looks_by_side" = true)(k20:Ga K (.ref f20)=true)(a21:NI K "marked" f21)(l21:LK K "marked" (CA 30) f21 oc21 od21 kV21 dc21 pm21 an21 cd21 ct21 sl21)(c21:F_ K cd21 "marked" = true)(k21:Ga K (.ref f21)=true)(a22:NI K "widened" f22)(l22:LK K "widened" (CA 31) f22 oc22 od22 kV22 dc22 pm22 an22 cd22 ct22 sl22)(c22:F_ K cd22 "widened" = true)(k22:Ga K (.ref f22)=true)(a23:NI K "counted_looks" f23)(l23:LK K "counted_looks" (CA 32) f23 oc23 od23 kV23 dc23 pm23 an23 cd23 ct23 sl23)(c23:F_ K cd23 "counted_looks" = true)(k23:Ga K (.ref f23)=true)(a24:NI K "misses" f24)(l24:LK K "misses" (CA 33) f24 oc24 od24 kV24 dc24 pm24 an24 cd24 ct24 sl24)(c24:F_ K cd24 "misses" = true)(k24:Ga K (.ref f24)=true)(a25:NI K "first_greatest" f25)(l25:LK K "first_greatest" (CA 34) f25 oc25 od25 kV25 dc25 pm25 an25 cd25 ct25 sl25)(c25:F_ K cd25 "first_greatest" = true)(k25:Ga K (.ref f25)=true)(a26:NI K "worst" f26)(l26:LK K "worst" (CA 35) f26 oc26 od26 kV26 dc26 pm26 an26 cd26 ct26 sl26)(c26:F_ K cd26 "worst" = true)(k26:Ga K (.ref f26)=true)(a27:NI K "unevenness" f27)(l27:LK K "unevenness" (CA 36) f27 oc27 od27 kV27 dc27 pm27 an27 cd27 ct27 sl27)(c27:F_ K cd27 "unevenness" = true)(k27:Ga K (.ref f27)=true)(a28:NI K "times_many" f28)(l28:LK K "times_many" (CA 38) f28 oc28 od28 kV28 dc28 pm28 an28 cd28 ct28 sl28)(c28:F_ K cd28 "times_many" = true)(k28:Ga K (.ref f28)=true)(a29:NI K "heave" f29)(l29:LK K "heave" (CA 40) f29 oc29 od29 kV29 dc29 pm29 an29 cd29 ct29 sl29)(c29:F_ K cd29 "heave" = true)(k29:Ga K (.ref f29)=true)(a30:NI K "_law_frac" f30)(l30:LK K "_law_frac" (CA 44) f30 oc30 od30 kV30 dc30 pm30 an30 cd30 ct30 sl30)(c30:F_ K cd30 "_law_frac" = true)(k30:Ga K (.ref f30)=true)(a31:NI K "_law_below" f31)(l31:LK K "_law_below" (CA 45) f31 oc31 od31 kV31 dc31 pm31 an31 cd31 ct31 sl31)(c31:F_ K cd31 "_law_below" = true)(k31:Ga K (.ref f31)=true)(a32:NI K "_law_number" f32)(l32:LK K "_law_number" (CA 46) f32 oc32 od32 kV32 dc32 pm32 an32 cd32 ct32 sl32)(c32:F_ K cd32 "_law_number" = true)(k32:Ga K (.ref f32)=true)(a33:NI K "_law_points" f33)(l33:LK K "_law_points" (CA 47) f33 oc33 od33 kV33 dc33 pm33 an33 cd33 ct33 sl33)(c33:F_ K cd33 "_law_points" = true)(k33:Ga K (.ref f33)=true)(a34:NI K "_law_corner" f34)(l34:LK K "_law_corner" (CA 48) f34 oc34 od34 kV34 dc34 pm34 an34 cd34 ct34 sl34)(c34:F_ K cd34 "_law_corner" = true)(k34:Ga K (.ref f34)=true)(a35:NI K "_law_uneven" f35)(l35:LK K "_law_uneven" (CA 49) f35 oc35 od35 kV35 dc35 pm35 an35 cd35 ct35 sl35)(c35:F_ K cd35 "_law_uneven" = true)(k35:Ga K (.ref f35)=true)(a36:NI K "law" f36)(l36:LK K "law" (CA 50) f36 oc36 od36 kV36 dc36 pm36 an36 cd36 ct36 sl36)(c36:F_ K cd36 "law" = true)(k36:Ga K (.ref f36)=true)
 (z_int:NZ K "int")(z_bool:NZ K "bool")(z_str:NZ K "str")(z_list:NZ K "list")(z_tuple:NZ K "tuple")(z_dict:NZ K "dict")(z_isinstance:NZ K "isinstance")(z_len:NZ K "len")(z_abs:NZ K "abs")(z_repr:NZ K "repr")(z_range:NZ K "range")(z_all:NZ K "all")(z_any:NZ K "any")(z_sum:NZ K "sum")(z_min:NZ K "min")(z_max:NZ K "max")(z_sorted:NZ K "sorted")(z_zip:NZ K "zip")(z_enumerate:NZ K "enumerate")(z_reversed:NZ K "reversed")(z_divmod:NZ K "divmod")(z_set:NZ K "set")(g_BELOW_ALL:GlK K "BELOW_ALL" (pr (-1) 1))(g_MOST_LOOKS:GlK K "MOST_LOOKS" (.int 3000))(g_ZERO:GlK K "ZERO" (pr 0 1))(g_ONE:GlK K "ONE" (pr 1 1))  :
 ∃fd:Ik,(∀(s:FO)(v:Value),Ms s fd ⟨[v],[]⟩ [("_law_script", v)])/\∀base:Heap,K.In base->base.Ns GQ mg->FnOk l.prog w K mg base Fq 12 fa fd ["_law_script"] (gE K):=by
 have e:=hfa.symm.trans (PySem.W.mg_of X G a36)
 cases e
 have B:Bz mg:=⟨Ge X G z_int,Ge X G z_bool,Ge X G z_str,Ge X G z_list,Ge X G z_tuple,Ge X G z_dict,Ge X G z_isinstance,Ge X G z_len,Ge X G z_abs,Ge X G z_repr,Ge X G z_range,Ge X G z_all,Ge X G z_any,Ge X G z_sum,Ge X G z_min,Ge X G z_max,Ge X G z_sorted,Ge X G z_zip,Ge X G z_enumerate,Ge X G z_reversed,Ge X G z_divmod,Ge X G z_set⟩
 have T:Txt K mg:=⟨B,(aG X G a1 l1 c1 k1 fun _ _ _ _ _ _ us hl=>match us,hl with | [_],_=>rfl),(aG X G a2 l2 c2 k2 fun _ _ _ _ _ _ us hl=>match us,hl with | [_,_],_=>rfl),(aG X G a3 l3 c3 k3 fun _ _ _ _ _ _ us hl=>match us,hl with | [_,_],_=>rfl),(aG X G a4 l4 c4 k4 fun _ _ _ _ _ _ us hl=>match us,hl with | [_,_],_=>rfl),(aG X G a5 l5 c5 k5 fun _ _ _ _ _ _ us hl=>match us,hl with | [_,_],_=>rfl),(aG X G a6 l6 c6 k6 fun _ _ _ _ _ _ us hl=>match us,hl with | [_,_],_=>rfl),(aG X G a7 l7 c7 k7 fun _ _ _ _ _ _ us hl=>match us,hl with | [_,_],_=>rfl),(aG X G a8 l8 c8 k8 fun _ _ _ _ _ _ us hl=>match us,hl with | [_,_],_=>rfl),(aG X G a9 l9 c9 k9 fun _ _ _ _ _ _ us hl=>match us,hl with | [_,_],_=>rfl),(aG X G a10 l10 c10 k10 fun _ _ _ _ _ _ us hl=>match us,hl with | [_,_],_=>rfl),(aG X G a11 l11 c11 k11 fun _ _ _ _ _ _ us hl=>match us,hl with | [_],_=>rfl),(aG X G a12 l12 c12 k12 fun _ _ _ _ _ _ us hl=>match us,hl with | [_],_=>rfl),(aG X G a13 l13 c13 k13 fun _ _ _ _ _ _ us hl=>match us,hl with | [_,_,_],_=>rfl),(aG X G a14 l14 c14 k14 fun _ _ _ _ _ _ us hl=>match us,hl with | [_,_,_],_=>rfl),(aG X G a15 l15 c15 k15 fun _ _ _ _ _ _ us hl=>match us,hl with | [_],_=>rfl),(aG X G a16 l16 c16 k16 fun _ _ _ _ _ _ us hl=>match us,hl with | [_,_],_=>rfl),(aG X G a17 l17 c17 k17 fun _ _ _ _ _ _ us hl=>match us,hl with | [_,_],_=>rfl),(aG X G a18 l18 c18 k18 fun _ _ _ _ _ _ us hl=>match us,hl with | [_,_],_=>rfl),(aG X G a19 l19 c19 k19 fun _ _ _ _ _ _ us hl=>match us,hl with | [_,_],_=>rfl),(aG X G a20 l20 c20 k20 fun _ _ _ _ _ _ us hl=>match us,hl with | [_,_],_=>rfl),(aG X G a21 l21 c21 k21 fun _ _ _ _ _ _ us hl=>match us,hl with | [_,_],_=>rfl),(aG X G a22 l22 c22 k22 fun _ _ _ _ _ _ us hl=>match us,hl with | [_,_],_=>rfl),(aG X G a23 l23 c23 k23 fun _ _ _ _ _ _ us hl=>match us,hl with | [_,_],_=>rfl),(aG X G a24 l24 c24 k24 fun _ _ _ _ _ _ us hl=>match us,hl with | [_,_],_=>rfl),(aG X G a25 l25 c25 k25 fun _ _ _ _ _ _ us hl=>match us,hl with | [_],_=>rfl),(aG X G a26 l26 c26 k26 fun _ _ _ _ _ _ us hl=>match us,hl with | [_,_],_=>rfl),(aG X G a27 l27 c27 k27 fun _ _ _ _ _ _ us hl=>match us,hl with | [_,_],_=>rfl),(aG X G a28 l28 c28 k28 fun _ _ _ _ _ _ us hl=>match us,hl with | [_,_],_=>rfl),(aG X G a29 l29 c29 k29 fun _ _ _ _ _ _ us hl=>match us,hl with | [_,_],_=>rfl),(aG X G a30 l30 c30 k30 fun _ _ _ _ _ _ us hl=>match us,hl with | [_,_],_=>rfl),(aG X G a31 l31 c31 k31 fun _ _ _ _ _ _ us hl=>match us,hl with | [_,_],_=>rfl),(aG X G a32 l32 c32 k32 fun _ _ _ _ _ _ us hl=>match us,hl with | [_],_=>rfl),(aG X G a33 l33 c33 k33 fun _ _ _ _ _ _ us hl=>match us,hl with | [_,_,_],_=>rfl),(aG X G a34 l34 c34 k34 fun _ _ _ _ _ _ us hl=>match us,hl with | [_,_],_=>rfl),(aG X G a35 l35 c35 k35 fun _ _ _ _ _ _ us hl=>match us,hl with | [_],_=>rfl),g_BELOW_ALL.of X G,g_MOST_LOOKS.of X G,g_ZERO.of X G,g_ONE.of X G⟩
 have FL:=oy (st:=CA 50) l36 c36 k36
 exact⟨_,fun s v=>.of_eq rfl,fun base _ _=>wE FL T ⟩
theorem walk{l:Lm}{q:Gi}{YP:G5->Heap->Prop}{d:DefRec}{K:MC->Iz}(hn:l.most=some 63)(hdf:d.params.defaults=[])
 (hY:∀(w:G5)(h:Heap),YP w h->(K w.params).In h)
 (F:∀(w:G5)(mg:Str->Option Value)(fa:Addr)(h:Heap),(K w.params).In h->h.Ns GQ mg->mg d.name=some (.ref fa) ->
  ∃fd:Ik,(∀(s:FO)(u:Value),Ms s fd ⟨[u],[]⟩ [("_law_script", u)])/\∀base:Heap,(K w.params).In base->base.Ns GQ mg->FnOk l.prog w (K w.params) mg base Fq 12 fa fd ["_law_script"] (gE (K w.params))) :
 PySem.W.WalkO q loose XP YP l.row.toRowW d [] (fun f vs=>PySem.call f vs) :=
 L2.walk_of (n:=63) (k:=12) (x := "_law_script") (CX:=fun _=>Fq) (sp:=fun w=>gE (K w.params)) hn (by decide) hdf ⟨rfl,by decide,by decide,rfl⟩ hY F (fun _ _ a ns hl _ hS=>⟨a,ns,rfl,hS,hl,fun _=>rfl⟩) fun _ _ _ _ _ z=>z
end K81
def PySem.W.Fast.tw14599882002098752784:PySem.Params->Iz:=K81.heapK
theorem PySem.W.Fast.te14599882002098752784:K81.heapK=PySem.W.Fast.tw14599882002098752784:=rfl
open PySem PySem.W PyProof.Rows
set_option maxRecDepth 100000 in
set_option maxHeartbeats 0 in
theorem PySem.Challenge.cw_evenpoints_k81_heaves_holds : PySem.Challenge.rw_evenpoints_k81_heaves.Holds := by
 refine(congrArg Lm.Holds K81.rw_eq).mpr ?_
 w_on;o_law
 refine holds_open (loose:=[]) (XP:=XL K81.zview []) (YP:=Hook.says (kHook K81.heapK K81.heapA K81.heapE)) K81.zleft
  (Hook.of _) (Hook.keeps _) (fun s e=>xl_of s (FV.mp e).1)
  XL.keeps (by rfl) (by rfl) (by rfl) (fun s e=>recFacts_of (FV.mp e).2) (by rfl)
  (by first|assumption|decide +kernel) (by decide +kernel) ⟨rfl,rfl,rfl,rfl,rfl,by decide +kernel⟩ ?hw ?hc
 (case hw=>w_witness2)
 k_fill
 refine K81.walk (l:=K81.rwN) rfl rfl (fun w h Y=>PySem.W.kIn_of (as:=K81.heapA) (e:=K81.heapE) Y) ?F
 case F =>
  intro w mg fa h KX G hmg
  refine' K81.all_mk KX G hmg ?a1 ?l1 ?c1 ?k1 ?a2 ?l2 ?c2 ?k2 ?a3 ?l3 ?c3 ?k3 ?a4 ?l4 ?c4 ?k4 ?a5 ?l5 ?c5 ?k5 ?a6 ?l6 ?c6 ?k6 ?a7 ?l7 ?c7 ?k7 ?a8 ?l8 ?c8 ?k8 ?a9 ?l9 ?c9 ?k9 ?a10 ?l10 ?c10 ?k10 ?a11 ?l11 ?c11 ?k11 ?a12 ?l12 ?c12 ?k12 ?a13 ?l13 ?c13 ?k13 ?a14 ?l14 ?c14 ?k14 ?a15 ?l15 ?c15 ?k15 ?a16 ?l16 ?c16 ?k16 ?a17 ?l17 ?c17 ?k17 ?a18 ?l18 ?c18 ?k18 ?a19 ?l19 ?c19 ?k19 ?a20 ?l20 ?c20 ?k20 ?a21 ?l21 ?c21 ?k21 ?a22 ?l22 ?c22 ?k22 ?a23 ?l23 ?c23 ?k23 ?a24 ?l24 ?c24 ?k24 ?a25 ?l25 ?c25 ?k25 ?a26 ?l26 ?c26 ?k26 ?a27 ?l27 ?c27 ?k27 ?a28 ?l28 ?c28 ?k28 ?a29 ?l29 ?c29 ?k29 ?a30 ?l30 ?c30 ?k30 ?a31 ?l31 ?c31 ?k31 ?a32 ?l32 ?c32 ?k32 ?a33 ?l33 ?c33 ?k33 ?a34 ?l34 ?c34 ?k34 ?a35 ?l35 ?c35 ?k35 ?a36 ?l36 ?c36 ?k36 ?zint ?zbool ?zstr ?zlist ?ztuple ?zdict ?zisinstance ?zlen ?zabs ?zrepr ?zrange ?zall ?zany ?zsum ?zmin ?zmax ?zsorted ?zzip ?zenumerate ?zreversed ?zdivmod ?zset ?gBELOW_ALL ?gMOST_LOOKS ?gZERO ?gONE 
  all_goals (try change _=_)
  (case a1=>k_is);(case l1=>k_is);(case c1=>k_is);(case k1=>k_is)
  (case a2=>k_is);(case l2=>k_is);(case c2=>k_is);(case k2=>k_is)
  (case a3=>k_is);(case l3=>k_is);(case c3=>k_is);(case k3=>k_is)
  (case a4=>k_is);(case l4=>k_is);(case c4=>k_is);(case k4=>k_is)
  (case a5=>k_is);(case l5=>k_is);(case c5=>k_is);(case k5=>k_is)
  (case a6=>k_is);(case l6=>k_is);(case c6=>k_is);(case k6=>k_is)
  (case a7=>k_is);(case l7=>k_is);(case c7=>k_is);(case k7=>k_is)
  (case a8=>k_is);(case l8=>k_is);(case c8=>k_is);(case k8=>k_is)
  (case a9=>k_is);(case l9=>k_is);(case c9=>k_is);(case k9=>k_is)
  (case a10=>k_is);(case l10=>k_is);(case c10=>k_is);(case k10=>k_is)
  (case a11=>k_is);(case l11=>k_is);(case c11=>k_is);(case k11=>k_is)
  (case a12=>k_is);(case l12=>k_is);(case c12=>k_is);(case k12=>k_is)
  (case a13=>k_is);(case l13=>k_is);(case c13=>k_is);(case k13=>k_is)
  (case a14=>k_is);(case l14=>k_is);(case c14=>k_is);(case k14=>k_is)
  (case a15=>k_is);(case l15=>k_is);(case c15=>k_is);(case k15=>k_is)
  (case a16=>k_is);(case l16=>k_is);(case c16=>k_is);(case k16=>k_is)
  (case a17=>k_is);(case l17=>k_is);(case c17=>k_is);(case k17=>k_is)
  (case a18=>k_is);(case l18=>k_is);(case c18=>k_is);(case k18=>k_is)
  (case a19=>k_is);(case l19=>k_is);(case c19=>k_is);(case k19=>k_is)
  (case a20=>k_is);(case l20=>k_is);(case c20=>k_is);(case k20=>k_is)
  (case a21=>k_is);(case l21=>k_is);(case c21=>k_is);(case k21=>k_is)
  (case a22=>k_is);(case l22=>k_is);(case c22=>k_is);(case k22=>k_is)
  (case a23=>k_is);(case l23=>k_is);(case c23=>k_is);(case k23=>k_is)
  (case a24=>k_is);(case l24=>k_is);(case c24=>k_is);(case k24=>k_is)
  (case a25=>k_is);(case l25=>k_is);(case c25=>k_is);(case k25=>k_is)
  (case a26=>k_is);(case l26=>k_is);(case c26=>k_is);(case k26=>k_is)
  (case a27=>k_is);(case l27=>k_is);(case c27=>k_is);(case k27=>k_is)
  (case a28=>k_is);(case l28=>k_is);(case c28=>k_is);(case k28=>k_is)
  (case a29=>k_is);(case l29=>k_is);(case c29=>k_is);(case k29=>k_is)
  (case a30=>k_is);(case l30=>k_is);(case c30=>k_is);(case k30=>k_is)
  (case a31=>k_is);(case l31=>k_is);(case c31=>k_is);(case k31=>k_is)
  (case a32=>k_is);(case l32=>k_is);(case c32=>k_is);(case k32=>k_is)
  (case a33=>k_is);(case l33=>k_is);(case c33=>k_is);(case k33=>k_is)
  (case a34=>k_is);(case l34=>k_is);(case c34=>k_is);(case k34=>k_is)
  (case a35=>k_is);(case l35=>k_is);(case c35=>k_is);(case k35=>k_is)
  (case a36=>k_is);(case l36=>k_is);(case c36=>k_is);(case k36=>k_is)
  (case zint=>k_is)
  (case zbool=>k_is)
  (case zstr=>k_is)
  (case zlist=>k_is)
  (case ztuple=>k_is)
  (case zdict=>k_is)
  (case zisinstance=>k_is)
  (case zlen=>k_is)
  (case zabs=>k_is)
  (case zrepr=>k_is)
  (case zrange=>k_is)
  (case zall=>k_is)
  (case zany=>k_is)
  (case zsum=>k_is)
  (case zmin=>k_is)
  (case zmax=>k_is)
  (case zsorted=>k_is)
  (case zzip=>k_is)
  (case zenumerate=>k_is)
  (case zreversed=>k_is)
  (case zdivmod=>k_is)
  (case zset=>k_is)
  (case gBELOW_ALL=>refine' L2.VL.GlK.pair ?h1 ?h2;(case h1=>k_is);(case h2=>k_is))
  (case gMOST_LOOKS=>refine' L2.VL.GlK.int ?h1;(case h1=>k_is))
  (case gZERO=>refine' L2.VL.GlK.pair ?h1 ?h2;(case h1=>k_is);(case h2=>k_is))
  (case gONE=>refine' L2.VL.GlK.pair ?h1 ?h2;(case h1=>k_is);(case h2=>k_is))
